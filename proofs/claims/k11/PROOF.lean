import PyProof.Rows.All
import Wide.All
import OpenK.AllK
import Wide.FinOn
import Lean
import PyProof.EqAt
import PyProof.EqKinds
import PyProof.TupleCall
import PySem.Challenge.RW_manyreaders_k11_deeds_or_none
noncomputable section
set_option Elab.async false
set_option linter.all false
set_option maxRecDepth 100000
open PySem PySem.Spec PyProof.Rows
def Dy:=@Option.bind_eq_some_iff
def Dz:=@Bool.and_eq_true
def DB:=@List.size_toArray
def DC:=@List.mem_cons_of_mem
def DD:=@wpAny_bind
def DF:=@List.mem_cons_self
def DH:=@List.getElem?_eq_some_iff
def DJ:=@Heap.get?_push_of_some
def DK:=@Nat.le_refl
def DL:=@Heap.lt_size
def DM:=@Bool.false_ne_true
def DN:=@wpAny_pure
def DP:=@Nat.lt_of_lt_of_le
def DQ:=@beq_iff_eq
def DR:=@List.length_cons
def DU:=@if_pos
def DV:=@List.mem_append_left
def DX:=@List.mem_append
def DY:=@Heap.get?_push_size
def DZ:=@List.map_cons
def Ea:=@List.all_cons
def Eb:=@List.getElem?_eq_getElem
def Ec:=@List.all_eq_true
def Ed:=@List.getElem?_append_left
def Ee:=@List.mem_append_right
def Ef:=@List.replicate_succ
def Eg:=@List.mem_of_getElem?
def Eh:=@if_neg
def Ei:=@List.mem_singleton
def Ej:=@wpAny_mono
def Ek:=@Option.some.inj
def El:=@Nat.ne_of_lt
def Em:=@List.getElem?_set_ne
def Eo:=@decide_eq_false
def Ep:=@List.mem_cons
def Er:=@Nat.le_trans
def Es:=@List.getElem?_append_right
def Et:=@List.flatten_cons
def Eu:=@List.length_append
def Ew:=@decide_eq_true
def Ex:=@beq_eq_false_iff_ne
def Ey:=@List.filterMap_cons
def Ez:=@List.getElem?_set_self
def EA:=@PyProof.Rows.slot_tuple_getitem
def EB:=@Option.isSome_iff_exists
def EC:=@List.append_nil
def ED:=@List.append_assoc
def EE:=@W.mg_none_of
def EF:=@PySem.mem_of_lookup
def EG:=@W.kia_one
def EH:=@List.length_nil
def EI:=@List.length_map
def EJ:=@wpAny_truthy_bool
def EK:=@wpAny_newObj_type
def EL:=@of_decide_eq_true
def EM:=@Nat.lt_irrefl
def EN:=@List.nodup_append
def EO:=@List.mem_map
def EQ:=@wpAny_Call_Name_kw
def ER:=@List.find?_cons
def ES:=@Int.emod_nonneg
def ET:=@decide_eq_true_eq
def EU:=@List.take_append_drop
def EV:=@List.lookup_cons
def EW:=@List.length_take
def EX:=@List.eq_nil_of_length_eq_zero
def EY:=@List.any_cons
def EZ:=@wpAny_passesOwn
def Fa:=@PyProof.Rows.callWith_type1
def Fb:=@List.nodup_cons
def Fc:=@List.mem_filter
def Fd:=@F.slot_dict_get
def Fe:=@codeAny_mono
def Ff:=@Bool.false_eq_true
def Fg:=@call_meets
def Fh:=@AutoSeq1.sub_tuple_tuple
def Fi:=@wpAny_holding
def Fj:=@Bool.and_true
def Fk:=@F.entry_dict_get
def Fl:=@List.mem_iff_getElem?
def Fo:=@List.count_cons
def Fq:=@F.slot_int_rmul
def Fs:=@Bool.or_eq_true
def Ft:=@List.mem_of_mem_take
def Fu:=@Nat.zero_le
def Fv:=@Array.length_toList
def Fw:=@wpAny_standAt
def Fx:=@tupleKind_room_in1
def Fy:=@if_false
def Fz:=@assignInOrder_cons
def FA:=@Nat.lt_of_le_of_lt
def FB:=@Int.emod_lt_of_pos
def FC:=@F.args_tuple_add_2
def FD:=@wpAny_pyIter_list
def FE:=@typeIs_int
def FF:=@List.getElem?_map
def FG:=@F.entry_tuple_add
def FH:=@call_meetsIn
def FI:=@Nat.mul_comm
def FJ:=@List.all_nil
def FK:=@wpAny_call_entry
def FL:=@noFill_tuple_add
def FM:=@List.length_drop
def FN:=@F.slot_tuple_add
def FO:=@AutoSeq1.idx_int
def FP:=@wpAny_execs_nil
def FQ:=@if_true
def FR:=@W.kitx_list
def FS:=@List.of_mem_zip
def FT:=@List.map_append
def FU:=@Calls.Name_function_global
def FV:=@wpAny_binaryOp_repeat_ref
def FW:=@List.drop_eq_getElem_cons
def FX:=@Bool.false_and
def FY:=@Bool.and_false
def FZ:=@wpAny_comprehension_free
def Ga:=@intBits_le
def Gb:=@List.getElem?_take_of_lt
def Gc:=@wpAny_callSpecial?_slot
def Gd:=@seq_tuple_add
def Ge:=@Bool.not_true
def Gf:=@wpAny_Call_method_late
def Gg:=@subscriptTail_builtinR
def Gh:=@Option.map_eq_some_iff
def Gi:=@Nat.le_of_succ_le_succ
def Gj:=@Heap.get?_update_other
def Gk:=@Calls.callWith_builtin
def Gm:=@wpAny_typeOf
def Gn:=@seqIndex_neg
def Go:=@concat_meets
def Gp:=@Nat.le_of_lt
def Gq:=@List.map_nil
def Gr:=@List.length_singleton
def Gs:=@List.mem_of_mem_drop
def Gu:=@F.slot_NoneType_hash
def Gv:=@Calls.evalArgs_plain
def Gw:=@wpAny_field
def Gx:=@sizeLine_eq
def Gy:=@seqIndex_of
def Gz:=@entry_tuple_getitem
def GA:=@W.kitx_dict
def GB:=@Nat.mul_le_mul_left
def GD:=@args_tuple_getitem
def GE:=@List.mem_filterMap
def GF:=@F.slot_list_append
def GG:=@Calls.Constant_str
namespace L2
abbrev ao:=Sum Int Str
noncomputable def jn:ao->Value->Bool
 | .inl k,v=>Value.isInt k v
 | .inr x,v=>Value.isStrOf x v
noncomputable def keyH(w:World):ao->Int
 | .inl k=>hashInt k
 | .inr x=>hashStr w x
def aB:∀ {k:ao} {v:Value},jn k v=true->(∃ i t,k=Sum.inl i/\v=Value.int i t)\/(∃ x t,k=Sum.inr x/\v=Value.str x t)
 | .inl i,v,h=>by
  obtain⟨t,e⟩:=Value.isInt_shape (k:=i) (v:=v) h
  exact .inl ⟨i,t,rfl,e⟩
 | .inr x,v,h=>by
  obtain⟨t,e⟩:=Value.isStrOf_shape (x:=x) (v:=v) h
  exact .inr ⟨x,t,rfl,e⟩
def sL(i:Int)(t:Tok):jn (.inl i) (.int i t)=true:=by simp [jn,Value.isInt]
def sK(x:Str)(t:Tok):jn (.inr x) (.str x t)=true:=by simp [jn,Value.isStrOf]
def BJ(a b:Int):decide ((Sum.inl a:ao)=Sum.inl b)=(a == b):=by
 by_cases e:a=b
 ·subst e;simp
 ·have h:¬ (Sum.inl a:ao)=Sum.inl b:=fun q=>e (Sum.inl.inj q)
  rw [Eo h]
  exact(Ex.mpr e).symm
def BG(a b:Str):decide ((Sum.inr a:ao)=Sum.inr b)=decide (a=b):=by
 by_cases e:a=b
 ·subst e;simp
 ·have h:¬ (Sum.inr a:ao)=Sum.inr b:=fun q=>e (Sum.inr.inj q)
  rw [Eo h,Eo e]
def BI(a:Int)(b:Str):decide ((Sum.inl a:ao)=Sum.inr b)=false:=Eo (fun q=>nomatch q)
def BH(a:Str)(b:Int):decide ((Sum.inr a:ao)=Sum.inl b)=false:=Eo (fun q=>nomatch q)
noncomputable def av(prog:Program)(w:World):PySem.KeyKind prog w ao where
 is:=jn
 hash:=keyH w
 inj:=fun v a b ha hb=>by
  rcases aB ha with ⟨i,t,rfl,rfl⟩ | ⟨x,t,rfl,rfl⟩
  ·rcases aB hb with ⟨j,u,rfl,e⟩ | ⟨y,u,rfl,e⟩
   ·injection e with e1 _;rw [e1]
   ·exact nomatch e
  ·rcases aB hb with ⟨j,u,rfl,e⟩ | ⟨y,u,rfl,e⟩
   ·exact nomatch e
   ·injection e with e1 _;rw [e1]
 byValue:=fun k v h=>by
  rcases aB h with ⟨i,t,rfl,rfl⟩ | ⟨x,t,rfl,rfl⟩ <;> rfl
 pyHash:=fun hv h=>by
  rcases aB hv with ⟨i,t,rfl,rfl⟩ | ⟨x,t,rfl,rfl⟩
  ·exact wpAny_pyHash_int h
  ·exact wpAny_pyHash_str h
 eqBool:=fun hu hv h=>by
  rcases aB hu with ⟨i,t,rfl,rfl⟩ | ⟨x,t,rfl,rfl⟩
  ·rcases aB hv with ⟨j,u,rfl,rfl⟩ | ⟨y,u,rfl,rfl⟩
   ·rw [BJ] at h;exact wpAny_eqBool_int h
   ·rw [BI] at h;exact SeqAt.EqAt.int_str i t y u _ _ _ _ h
  ·rcases aB hv with ⟨j,u,rfl,rfl⟩ | ⟨y,u,rfl,rfl⟩
   ·rw [BH] at h;exact SeqAt.EqAt.str_int x t j u _ _ _ _ h
   ·rw [BG] at h;exact wpAny_eqBool_str h
 «strs»:=fun k x t v h=>by
  rcases aB h with ⟨i,u,rfl,e⟩ | ⟨y,u,rfl,e⟩
  ·exact nomatch e
  ·injection e with e1 _
   subst e1
   cases v <;> rfl
def nI(prog:Program)(w:World)(i:Int)(t:Tok):(av prog w).is (.inl i) (.int i t)=true:=sL i t
def nH(prog:Program)(w:World)(x:Str)(t:Tok):(av prog w).is (.inr x) (.str x t)=true:=sK x t
inductive V where
 | non | bl (b:Bool) | int (i:Int) | str (x:Str) | byt (b:Array UInt8) | flt (b:UInt64) | ref (a:Addr) | ty (n:String)
 deriving DecidableEq
def RelV:V->Value->Prop
 | .non,u=>u=Value.none
 | .bl b,u=>u=Value.bool b
 | .int i,u=>∃ t,u=Value.int i t
 | .str x,u=>∃ t,u=Value.str x t
 | .byt b,u=>∃ t,u=Value.bytes b t
 | .flt b,u=>∃ t,u=Value.float b t
 | .ref a,u=>u=Value.ref a
 | .ty n,u=>u=Value.type n
abbrev Vals:List V->List Value->Prop:=Paired RelV
theorem Vals.length{xs:List V}{us:List Value}(r:Vals xs us):xs.length=us.length:=Paired.length r
theorem Vals.get:∀ {xs:List V} {us:List Value} {i:Nat} {x:V},Vals xs us->xs[i]?=some x->∃ u,us[i]?=some u/\RelV x u
 | _,_,_,_,.nil,e=>by simp at e
 | _,_,0,_,.cons r _,e=>by simp at e;subst e;exact⟨_,rfl,r⟩
 | _,_,i+1,x,.cons _ t,e=>by
  obtain⟨u,h1,h2⟩:=Vals.get (i:=i) (x:=x) t (by simpa using e)
  exact⟨u,by simpa using h1,h2⟩
theorem Vals.set{x:V}{u:Value}(r:RelV x u):∀ {xs:List V} {us:List Value} (i:Nat),Vals xs us->Vals (xs.set i x) (us.set i u)
 | _,_,_,.nil=>.nil
 | _,_,0,.cons _ t=>.cons r t
 | _,_,i+1,.cons q t=>.cons q (Vals.set r i t)
theorem Vals.append:∀ {xs ys:List V} {us ws:List Value},Vals xs us->Vals ys ws->Vals (xs++ys) (us++ws)
 | _,_,_,_,.nil,s=>s
 | _,_,_,_,.cons r t,s=>.cons r (Vals.append t s)
theorem Vals.take:∀ {xs:List V} {us:List Value} (n:Nat),Vals xs us->Vals (xs.take n) (us.take n)
 | _,_,0,_=>.nil
 | _,_,_+1,.nil=>.nil
 | _,_,n+1,.cons r t=>.cons r (Vals.take n t)
theorem Vals.drop:∀ {xs:List V} {us:List Value} (n:Nat),Vals xs us->Vals (xs.drop n) (us.drop n)
 | _,_,0,r=>r
 | _,_,_+1,.nil=>.nil
 | _,_,n+1,.cons _ t=>Vals.drop n t
def RelO:Option V->Option Value->Prop
 | some v,some u=>RelV v u
 | none,none=>True
 | _,_=>False
def KV{κ:Type}:List (κ×V)->List (κ×Value)->Prop:=Paired fun(p:κ×V) (q:κ×Value)=>p.1=q.1/\RelV p.2 q.2
noncomputable def kV:ao->V
 | .inl i=>.int i
 | .inr x=>.str x
inductive HO where
 | lst (xs:List V)
 | tup (xs:List V)
 | dK (kvs:List (ao×V)) | dT (kvs:List (List ao×V))
 | set (S:Int->Bool) (n:Nat)
 | ins (C dx:Addr) (fs:List (Str×V))
 | own (x:Addr)
 | xd (fs:List (Str×V))
 | met (f x:Addr)
 | rng (lo hi:Int)
 | frz (o:Obj) (u:HO)
 | tbl (ps:Array Value)
 | ext (φ:Heap->Prop)
abbrev Hp:=Addr->Option HO
noncomputable def upd(H:Hp)(a:Addr)(o:HO):Hp:=fun b=>if b=a then some o else H b
def am{H:Hp}{a:Addr}{o:HO}:upd H a o a=some o:=by unfold upd;rw [DU rfl]
def aj{H:Hp}{a b:Addr}{o:HO}(h:b≠a):upd H a o b=H b:=by unfold upd;rw [Eh h]
def aI{H:Hp}{a b:Addr}{o:HO}(h:H a=some o)(h':H b=none):a≠b:=by
 intro e;subst e;rw [h] at h';cases h'
def IsTupN(h:Heap)(a:Addr)(items:Array Value):Prop:=∃ o,h.get? a=some o/\o.cls=.type "tuple"/\(∃ n,o.data=.seq items n)/\o.dict=none
def IsTupN.up{h:Heap}{a:Addr}{items:Array Value}(x:IsTupN h a items):IsTup h a items:=by
 obtain⟨o,e,c,d,_⟩:=x
 exact⟨o,e,c,d⟩
theorem IsTupN.lt{h:Heap}{a:Addr}{items:Array Value}(x:IsTupN h a items):a<h.objs.size:=x.up.lt
def IsTupN.new(h:Heap)(items:Array Value):IsTupN (h.push { cls:=.type "tuple",data:=.seq items }) h.objs.size items:=⟨_,DY _ rfl,rfl,⟨_,rfl⟩,rfl⟩
section
variable(P:Program)(w:World)
def ObjOk(H:Hp)(h:Heap)(a:Addr):HO->Prop
 | .lst xs=>xs.length<=sizeLine/\∃ (its:List Value) (n:Nat),Vals xs its/\h.get? a=some { cls:=.type "list",data:=.seq its.toArray n }
 | .tup xs=>xs.length<=sizeLine/\∃ its:List Value,Vals xs its/\IsTupN h a its.toArray
 | .dK kvs=>kvs.length<=sizeLine/\(a == sysModules)=false/\∃ vs,KV kvs vs/\h.DictOf (av P w) a vs
 | .dT kvs=>kvs.length<=sizeLine/\(a == sysModules)=false/\∃ xs:List (List ao×Addr×Value),
   Paired (fun(p:List ao×V) (q:List ao×Addr×Value)=>p.1=q.1/\H q.2.1=some (.tup (p.1.map kV))/\RelV p.2 q.2.2) kvs xs /\
   ∃ o es ep,h.get? a=some o/\o.ExactDict/\o.data=.dict es ep/\es.toList=xs.map (entryOfKey (tupleKind (av P w)))/\(xs.map (·.1)).Nodup
 | .set S n=>h.SetOf (intKind P w) a S n
 | .ins C dx fs=>H dx=some (.own a)/\fs.length<=1000/\dx≠a/\h.get? a=some (W.instObj C dx) /\
   ∃ mA,h.Ns1 dx mA/\(∀ f,RelO (fs.lookup f) (mA f))/\PySem.Within mA (fs.map (·.1))
 | .own _=>∃ o,h.get? a=some o
 | .xd fs=>∃ mA,h.Ns1 a mA/\∀ f,RelO (fs.lookup f) (mA f)
 | .rng lo hi=>∃ t u v,h.get? a=some { cls:=.type "range",data:=.fields #[.int lo t,.int hi u,.int 1 v] }
 | .frz o u=>h.get? a=some o/\ObjOk H h a u
 | .tbl ps=>h.get? a=some { cls:=.none,data:=.fields ps }
 | .met f x=>h.get? a=some (W.methodObj (.ref f) (.ref x))
 | .ext φ=>φ h/\(∃ o,h.get? a=some o)/\∀ h1 h2:Heap,φ h1->(∀ o,h1.get? a=some o->h2.get? a=some o)->φ h2
def HOk(H:Hp)(h:Heap):Prop:=∀ a o,H a=some o->ObjOk P w H h a o
end
section
variable{P:Program}{w:World}{H H':Hp}{h h':Heap}{a:Addr}{o:HO}
theorem ObjOk.lt(x:ObjOk P w H h a o):a<h.objs.size:=by
 cases o with
 | lst xs=>obtain⟨_,_,_,_,e⟩:=x;exact DL e
 | tup xs=>obtain⟨_,_,_,p⟩:=x;exact p.lt
 | dK kvs=>obtain⟨_,_,_,_,o,_,_,e,_⟩:=x;exact DL e
 | dT kvs=>obtain⟨_,_,_,_,o,_,_,e,_⟩:=x;exact DL e
 | set S n=>obtain⟨o,_,_,_,e,_⟩:=x;exact DL e
 | ins C dx fs=>obtain⟨_,_,_,e,_⟩:=x;exact DL e
 | own y=>obtain⟨_,e⟩:=x;exact DL e
 | xd fs=>obtain⟨_,⟨_,_,_,e,_⟩,_⟩:=x;exact DL e
 | rng lo hi=>obtain⟨_,_,_,e⟩:=x;exact DL e
 | frz ob u=>obtain⟨e,_⟩:=x;exact DL e
 | tbl ps=>exact DL (show h.get? a=some _ from x)
 | met f y=>exact DL (show h.get? a=some _ from x)
 | ext φ=>obtain⟨_,⟨_,e⟩,_⟩:=x;exact DL e
theorem Paired.mapP{α β:Type}{F G:α->β->Prop}:∀ {l₁:List α} {l₂:List β},Paired F l₁ l₂->(∀ a b,F a b->G a b)->Paired G l₁ l₂
 | _,_,.nil,_=>.nil
 | _,_,.cons r t,f=>.cons (f _ _ r) (Paired.mapP t f)
def ObjOk.stay(x:ObjOk P w H h a o)(k:∀ b u,(b=a\/H b=some (.own a))->h.get? b=some u->h'.get? b=some u)
  (ho:∀ b,H b=some (.own a)->H' b=some (.own a)) (ht:∀ b xs,H b=some (.tup xs)->H' b=some (.tup xs)):ObjOk P w H' h' a o:=by
 induction o with
 | lst xs=>obtain⟨z,its,n,r,e⟩:=x;exact⟨z,its,n,r,k _ _ (.inl rfl) e⟩
 | tup xs=>obtain⟨z,its,r,ob,e,c⟩:=x;exact⟨z,its,r,ob,k _ _ (.inl rfl) e,c⟩
 | dK kvs=>obtain⟨z,y,vs,r,ob,es,ep,e,c⟩:=x;exact⟨z,y,vs,r,ob,es,ep,k _ _ (.inl rfl) e,c⟩
 | dT kvs=>
  obtain⟨z,y,xs,r,ob,es,ep,e,c⟩:=x
  exact⟨z,y,xs,Paired.mapP r fun p q z=>⟨z.1,ht _ _ z.2.1,z.2.2⟩,ob,es,ep,k _ _ (.inl rfl) e,c⟩
 | set S n=>obtain⟨ob,es,ep,t,e,c⟩:=x;exact⟨ob,es,ep,t,k _ _ (.inl rfl) e,c⟩
 | ins C dx fs=>
  obtain⟨d,z,ne,e,mA,⟨od,es,ep,e2,c⟩,r⟩:=x
  exact⟨ho _ d,z,ne,k _ _ (.inl rfl) e,mA,⟨od,es,ep,k _ _ (.inr d) e2,c⟩,r⟩
 | own y=>obtain⟨ob,e⟩:=x;exact⟨ob,k _ _ (.inl rfl) e⟩
 | xd fs=>obtain⟨mA,⟨od,es,ep,e,c⟩,r⟩:=x;exact⟨mA,⟨od,es,ep,k _ _ (.inl rfl) e,c⟩,r⟩
 | rng lo hi=>obtain⟨t,u,v,e⟩:=x;exact⟨t,u,v,k _ _ (.inl rfl) e⟩
 | frz ob u ih=>obtain⟨e,q⟩:=x;exact⟨k _ _ (.inl rfl) e,ih q⟩
 | tbl ps=>
  have e:h.get? a=some { cls:=.none,data:=.fields ps }:=x
  show h'.get? a=some { cls:=.none,data:=.fields ps }
  exact k a _ (.inl rfl) e
 | met f y=>
  have e:h.get? a=some (W.methodObj (.ref f) (.ref y)):=x
  show h'.get? a=some (W.methodObj (.ref f) (.ref y))
  exact k a _ (.inl rfl) e
 | ext φ=>obtain⟨p,⟨o,e⟩,st⟩:=x;exact⟨st _ _ p fun o q=>k _ _ (.inl rfl) q,⟨o,k _ _ (.inl rfl) e⟩,st⟩
theorem HOk.lt(x:HOk P w H h)(e:H a=some o):a<h.objs.size:=(x a o e).lt
def HOk.fresh(x:HOk P w H h)(e:h.objs.size<=a):H a=none:=by
 cases q:H a with
 | none=>rfl
 | some u=>exact absurd (DP (x.lt q) e) (EM _)
def HOk.kept(x:HOk P w H h)(k:∀ b u,h.get? b=some u->h'.get? b=some u):HOk P w H h':=fun a o e=>
 (x a o e).stay (fun b u _ q=>k b u q) (fun _ q=>q) fun _ _ q=>q
def HOk.laid(x:HOk P w H h)(k:∀ b u,h.get? b=some u->h'.get? b=some u)(hp:h.objs.size<=a)(new:ObjOk P w (upd H a o) h' a o):HOk P w (upd H a o) h':=fun b u e=>by
 have hn:=x.fresh hp
 by_cases hb:b=a
 ·subst hb;rw [am] at e;cases e;exact new
 ·rw [aj hb] at e
  exact(x b u e).stay (fun c v _ q=>k c v q) (fun c q=>by rw [aj (aI q hn)];exact q) fun c xs q=>by rw [aj (aI q hn)];exact q
end
def Rd(H:Hp)(a:Addr)(u:HO):Prop:=H a=some u\/∃ o,H a=some (.frz o u)
def Rd.ok{P:Program}{w:World}{H:Hp}{h:Heap}{a:Addr}{u:HO}(r:Rd H a u)(x:HOk P w H h):ObjOk P w H h a u:=by
 rcases r with r | ⟨o,r⟩
 ·exact x a u r
 ·obtain⟨_,q⟩:=x a _ r
  exact q
def Mut:Option HO->Prop
 | some (.lst _)=>True
 | some (.dK _)=>True
 | some (.dT _)=>True
 | some (.set _ _)=>True
 | some (.ins _ _ _)=>True
 | some (.ext _)=>True
 | _=>False
section
variable{P:Program}{w:World}{H:Hp}{h h':Heap}{x e:Addr}{o':HO}
def HOk.write(ok:HOk P w H h)(mu:Mut (H x))(he:e=x\/H e=some (.own x))(k:∀ b u,b≠e->h.get? b=some u->h'.get? b=some u)(heo:∃ u,h'.get? e=some u)
  (new:ObjOk P w (upd H x o') h' x o'):HOk P w (upd H x o') h':=fun b u q=>by
 have nown:∀ c y,H c=some (.own y)->c≠x:=fun c y r z=>by subst z;rw [r] at mu;exact mu
 have ntup:∀ c xs,H c=some (.tup xs)->c≠x:=fun c xs r z=>by subst z;rw [r] at mu;exact mu
 by_cases hb:b=x
 ·subst hb;rw [am] at q;cases q;exact new
 ·rw [aj hb] at q
  by_cases hbe:b=e
  ·have q':H b=some (.own x):=by
    rcases he with z | z
    ·exact absurd (hbe.trans z) hb
    ·rw [hbe];exact z
   rw [q] at q';cases q'
   obtain⟨v,hv⟩:=heo
   exact⟨v,by rw [hbe];exact hv⟩
  ·refine(ok b u q).stay (fun c v hc r=>k c v ?_ r) (fun c r=>by rw [aj (nown c b r)];exact r) fun c xs r=>by rw [aj (ntup c xs r)];exact r
   rcases hc with rfl | hc
   ·exact hbe
   ·rintro rfl
    rcases he with z | z
    ·exact nown c b hc z
    ·rw [hc] at z;cases z;exact hb rfl
end
structure Un(fs ex:List Addr)(H H':Hp)(h h':Heap):Prop where
 keep:∀ b o,h.get? b=some o->H b=none->b ∉ fs->b ∉ ex->h'.get? b=some o
 slot:∀ b o,h.get? b=some o->H b=none->b∈fs->b ∉ ex->∃ sl,h'.get? b=some { o with slots:=sl }
 free:∀ b o,h.get? b=some o->H b=none->b ∉ ex->H' b=none
 there:∀ b o,h.get? b=some o->b ∉ ex->∃ o',h'.get? b=some o'
 tups:∀ b xs,H b=some (.tup xs)->H' b=some (.tup xs)
 frzs:∀ b o u,H b=some (.frz o u)->H' b=some (.frz o u)
 tbls:∀ b ps,H b=some (.tbl ps)->∃ more,H' b=some (.tbl (ps++more))
section
variable{fs fs' ex ex':List Addr}{H H1 H2:Hp}{h h1 h2 h':Heap}{a x e:Addr}{o:HO}
def Un.any(u:Un fs ex H H1 h h1){b:Addr}{ob:Obj}(q:h.get? b=some ob)(n:H b=none)(hx:b ∉ ex):∃ sl,h1.get? b=some { ob with slots:=sl }:=by
 by_cases hb:b∈fs
 ·exact u.slot b ob q n hb hx
 ·exact⟨ob.slots,u.keep b ob q n hb hx⟩
def Un.kept(k:∀ b u,h.get? b=some u->h'.get? b=some u):Un fs ex H H h h':=
 ⟨fun b ob q _ _ _=>k b ob q,fun b ob q _ _ _=>⟨ob.slots,k b ob q⟩,fun _ _ _ n _=>n,fun b ob q _=>⟨ob,k b ob q⟩,fun _ _ q=>q,fun _ _ _ q=>q,fun _ ps q=>⟨#[],by rw [q];simp⟩⟩
def Un.refl:Un fs ex H H h h:=Un.kept fun _ _ q=>q
def Un.laid(k:∀ b u,h.get? b=some u->h'.get? b=some u)(hp:h.objs.size<=a)(hn:H a=none):Un fs ex H (upd H a o) h h' where
 keep:=fun b u q _ _ _=>k b u q
 slot:=fun b u q _ _ _=>⟨u.slots,k b u q⟩
 free:=fun b u q n _=>by rw [aj (El (DP (DL q) hp))];exact n
 there:=fun b u q _=>⟨u,k b u q⟩
 tups:=fun b xs q=>by rw [aj (aI q hn)];exact q
 frzs:=fun b u xs q=>by rw [aj (aI q hn)];exact q
 tbls:=fun b ps q=>⟨#[],by rw [aj (aI q hn),q];simp⟩
def Un.write(mu:Mut (H x))(he:e=x\/H e=some (.own x))(k:∀ b u,b≠e->h.get? b=some u->h'.get? b=some u)(heo:∃ u,h'.get? e=some u):Un fs ex H (upd H x o) h h':=by
 have hx:∀ b,H b=none->b≠x:=fun b n z=>by subst z;rw [n] at mu;exact mu
 have hb:∀ b,H b=none->b≠e:=fun b n z=>by
  subst z
  rcases he with r | r
  ·exact hx b n r
  ·rw [n] at r;cases r
 have hm:∀ b u,H b=some u->¬ Mut (some u)->b≠x:=fun b u q nm z=>by subst z;rw [q] at mu;exact nm mu
 refine⟨fun b u q n _ _=>k b u (hb b n) q,fun b u q n _ _=>⟨u.slots,k b u (hb b n) q⟩,fun b u q n _=>by rw [aj (hx b n)];exact n,fun b u q _=>?_,
  fun b xs q=>by rw [aj (hm b _ q fun z=>z)];exact q,fun b u xs q=>by rw [aj (hm b _ q fun z=>z)];exact q,fun b ps q=>⟨#[],by rw [aj (hm b _ q fun z=>z),q];simp⟩⟩
 by_cases hbe:b=e
 ·subst hbe;exact heo
 ·exact⟨u,k b u hbe q⟩
end
def trk(h:Heap)(H:Hp):List Addr:=(List.range h.objs.size).filter fun a=>(H a).isSome
noncomputable def mx(h:Heap)(H:Hp):Heap:=W.hideAll h (trk h H)
def sS(h:Heap)(H:Hp):(mx h H).objs.size=h.objs.size:=W.hideAll_size _ _
def vT{h:Heap}{H:Hp}{b:Addr}{o:Obj}(e:h.get? b=some o)(n:H b=none):(mx h H).get? b=some o:=
 W.hideAll_get _ e fun hm=>by
  have q:(H b).isSome=true:=(Fc.mp hm).2
  rw [n] at q;simp at q
def yj{h:Heap}{H:Hp}{b:Addr}{o:Obj}(e:(mx h H).get? b=some o):h.get? b=some o/\H b=none:=by
 have e':h.get? b=some o:=W.of_hideAll (trk h H) e
 refine⟨e',?_⟩
 cases q:H b with
 | none=>rfl
 | some x=>
  have hm:b∈trk h H:=Fc.mpr ⟨List.mem_range.mpr (DL e'),by simp [q]⟩
  have z:(mx h H).get? b=none:=W.hideAll_none (trk h H) hm
  rw [z] at e;cases e
structure Mod(K:W.Frag)(mg:Str->Option Value)(base:Heap):Prop where
 kin:K.In base
 glob:base.Ns mainGlobals mg
 blt:∃ mb,base.Ns builtinsNs mb/\∀ x:Str,x ≠ "__name__"->mb x=bootBuiltins x
 nolimit:base.NoLimit
structure Cx where
 prog:Program
 w:World
 K:W.Frag
 mg:Str->Option Value
 base:Heap
 A:Around
 N:List Str
 s₀:Shared
 H₀:Hp
 env:Env
 outer:List Env
 stack:List Env
 ex:List Addr
 fn:Str->Bool
 calm:Bool
 pn:List (Addr×Obj)
 xe:Value->Shared->Prop
def uc(l:List Env):List Addr:=l.filterMap (·.frame)
abbrev Cx.fs(X:Cx):List Addr:=uc X.outer
def Dr(sc:Scope)(x:Str):Prop:=sc.names.lookup x=some .local\/sc.names.lookup x=some .cell\/sc.names.lookup x=some .free
def xn(sc:Scope)(x:Str):Prop:=sc.names.lookup x=some .local\/sc.names.lookup x=some .cell
def Look(env:Env)(h:Heap)(m:Str->Option Value)(x:Str)(u:Value):Prop:=
 (env.kindOf x=some .local/\m x=some u)\/((env.kindOf x=some .cell\/env.kindOf x=some .free)/\∃ c,env.cells.lookup x=some c/\h.IsCell c (some u))
structure Cx.Ok(X:Cx):Prop where
 mod:Mod X.K X.mg X.base
 kind:X.env.scope.kind=.function
 glob:X.env.globals=mainGlobals
 blt:X.env.builtins=builtinsNs
 above:X.s₀.heap.objs.size<=X.env.locals
 inj:∀ x y c,X.env.cells.lookup x=some c->X.env.cells.lookup y=some c->x=y
 has:∀ x,(X.env.kindOf x=some .cell\/X.env.kindOf x=some .free)->∃ c,X.env.cells.lookup x=some c
 cab:∀ x c,X.fn x=true->X.env.cells.lookup x=some c->X.s₀.heap.objs.size<=c
 hd:X.calm=true->X.A.handled=none
 frames:X.A.frames=some X.stack
 stk:X.stack=X.outer\/(X.stack=X.env::X.outer/\X.env.frame=some X.env.locals)
 exf:∀ b∈X.ex,b≠X.env.locals/\∀ x c,X.env.cells.lookup x=some c->c≠b
 bs:∀ b o,X.base.get? b=some o->X.s₀.heap.get? b=some o/\X.H₀ b=none
 bsz:X.base.objs.size<=X.s₀.heap.objs.size
 noex:∀ b o,X.base.get? b=some o->b ∉ X.ex
 exfs:∀ b∈X.ex,b ∉ X.fs
 funs:X.s₀.heap.FunFrames X.base X.outer
 frf:∀ b∈X.fs,X.H₀ b=none
structure Inv(X:Cx)(pins:List (Addr×Obj))(σ:List (Option V))(H:Hp)(s:Shared):Prop where
 ok:X.Ok
 os:s.os=X.s₀.os
 bare:AllBare s.gens
 base:Un X.fs X.ex X.H₀ H X.s₀.heap s.heap
 loc:∃ m,s.heap.Ns X.env.locals m/\∀ (i:Nat) (x:Str) (v:V),X.N[i]?=some x->σ[i]?=some (some v)->Dr X.env.scope x->∃ u,RelV v u/\Look X.env s.heap m x u
 cell:∀ x c,X.env.cells.lookup x=some c->∃ v,s.heap.IsCell c v
 free:H X.env.locals=none
 freeC:∀ x c,X.env.cells.lookup x=some c->H c=none
 pin:∀ p∈X.pn++pins,s.heap.get? p.1=some p.2/\H p.1=none/\p.1≠X.env.locals/\p.1 ∉ X.fs/\∀ v,p.2.data≠.cell v
 hok:HOk X.prog X.w H s.heap
 len:σ.length=X.N.length
section
variable{X:Cx}{pins:List (Addr×Obj)}{σ:List (Option V)}{H H':Hp}{s:Shared}{h':Heap}
def Cx.Ok.nofr(ok:X.Ok){b:Addr}{o:Obj}(e:X.base.get? b=some o):b ∉ X.fs:=fun hb=>by
 have:=(ok.funs.mem hb).1
 rw [e] at this;cases this
theorem Inv.bs(I:Inv X pins σ H s):∀ b o,X.base.get? b=some o->s.heap.get? b=some o/\H b=none:=fun b o e=>
 ⟨I.base.keep b o (I.ok.bs b o e).1 (I.ok.bs b o e).2 (I.ok.nofr e) (I.ok.noex b o e),I.base.free b o (I.ok.bs b o e).1 (I.ok.bs b o e).2 (I.ok.noex b o e)⟩
def Inv.bk(I:Inv X pins σ H s):∀ b o,X.base.get? b=some o->s.heap.get? b=some o:=fun b o e=>(I.bs b o e).1
theorem Inv.mod(I:Inv X pins σ H s):Mod X.K X.mg X.base:=I.ok.mod
def Inv.kIn(I:Inv X pins σ H s):X.K.In s.heap:=I.ok.mod.kin.keeps I.bk
theorem Inv.lt(I:Inv X pins σ H s):X.env.locals<s.heap.objs.size:=let ⟨_,hn,_⟩:=I.loc;hn.lt
def Inv.sz(I:Inv X pins σ H s):X.s₀.heap.objs.size<=s.heap.objs.size:=Er I.ok.above (Gp I.lt)
def Inv.nofs(I:Inv X pins σ H s){a:Addr}(h:s.heap.objs.size<=a):a ∉ X.fs:=fun hb=>by
 obtain⟨_,o,ho,_⟩:=I.ok.funs.mem hb
 exact absurd (DP (DL ho) (Er I.sz h)) (EM _)
def Inv.cne(I:Inv X pins σ H s):∀ x c,X.env.cells.lookup x=some c->c≠X.env.locals:=fun x c e z=>by
 obtain⟨v,o,ho,hd⟩:=I.cell x c e
 obtain⟨m,⟨o',es,ep,ho',hd',_⟩,_⟩:=I.loc
 rw [z,ho'] at ho;cases ho;rw [hd'] at hd;cases hd
theorem Inv.funs(I:Inv X pins σ H s):s.heap.FunFrames X.base X.outer:=by
 have all:∀ (l:List Env),(∀ b∈uc l,b∈X.fs)->X.s₀.heap.FunFrames X.base l->s.heap.FunFrames X.base l:=by
  intro l
  induction l with
  | nil=>intro _ _;trivial
  | cons env r ih=>
   intro hs hl
   obtain⟨hk,⟨L,o,hf,hn,ho,hd⟩,hr⟩:=hl
   have hL:L∈X.fs:=hs L (by unfold uc;rw [Ey,hf];exact DF)
   obtain⟨sl,e⟩:=I.base.slot L o ho (I.ok.frf L hL) hL fun z=>I.ok.exfs L z hL
   exact⟨hk,⟨L,_,hf,hn,e,hd⟩,ih (fun b hb=>hs b (by unfold uc;rw [Ey,hf];exact DC _ hb)) hr⟩
 exact all X.outer (fun _ hb=>hb) I.ok.funs
theorem Inv.stack(I:Inv X pins σ H s):s.heap.FunFrames X.base X.stack:=by
 rcases I.ok.stk with e | ⟨e,hf⟩
 ·rw [e];exact I.funs
 ·rw [e]
  obtain⟨m,hn,_⟩:=I.loc
  refine .cons (by rw [I.ok.kind];decide) hf hn ?_ I.funs
  exact Heap.get?_none_of_le (Er I.ok.bsz I.ok.above)
def Inv.stkSub(I:Inv X pins σ H s):∀ b∈uc X.stack,b∈X.env.locals::X.fs:=fun b hb=>by
 rcases I.ok.stk with e | ⟨e,hf⟩
 ·rw [e] at hb;exact DC _ hb
 ·rw [e] at hb
  unfold uc at hb
  rw [Ey,hf] at hb
  exact hb
def Inv.stkFree(I:Inv X pins σ H s):∀ b∈uc X.stack,H b=none:=fun b hb=>by
 rcases Ep.mp (I.stkSub b hb) with e | hb
 ·rw [e];exact I.free
 ·obtain⟨_,o,ho,_⟩:=I.ok.funs.mem hb
  exact I.base.free b o ho (I.ok.frf b hb) fun z=>I.ok.exfs b z hb
def Inv.step{g':Array GenState}{t':Nat}{d':Drawn}{ch:List Addr}(I:Inv X pins σ H s)
  (hch:∀ b∈ch,(b∈X.ex\/X.s₀.heap.objs.size<=b)/\b≠X.env.locals/\(∀ x c,X.env.cells.lookup x=some c->c≠b)/\∀ p∈X.pn++pins,p.1≠b)
  (keep:∀ b o,b≠X.env.locals->b ∉ X.fs->b ∉ ch->s.heap.get? b=some o->H b=none->h'.get? b=some o)
  (slot:∀ b o,b≠X.env.locals->b∈X.fs->b ∉ ch->s.heap.get? b=some o->H b=none->∃ sl,h'.get? b=some { o with slots:=sl }) (free:∀ b o,b ∉ ch->s.heap.get? b=some o->H b=none->H' b=none)
  (there:∀ b o,b ∉ ch->s.heap.get? b=some o->∃ o',h'.get? b=some o')
  (tups:∀ b xs,H b=some (.tup xs)->H' b=some (.tup xs)) (frzs:∀ b o u,H b=some (.frz o u)->H' b=some (.frz o u)) (tbls:∀ b ps,H b=some (.tbl ps)->∃ more,H' b=some (.tbl (ps++more)))
  (ns:∀ m,s.heap.Ns X.env.locals m->h'.Ns X.env.locals m) (hok:HOk X.prog X.w H' h') (hg:AllBare g') :
  Inv X pins σ H' { s with heap:=h',gens:=g',drawn:=d',toks:=t' }:=by
 have neL:∀ b o,X.s₀.heap.get? b=some o->b≠X.env.locals:=fun b o e=>El (DP (DL e) I.ok.above)
 have neC:∀ b o,X.s₀.heap.get? b=some o->b ∉ X.ex->b ∉ ch:=fun b o e hx hb=>by
  rcases(hch b hb).1 with z | z
  ·exact hx z
  ·exact absurd (DP (DL e) z) (EM _)
 have cellK:∀ x c,X.env.cells.lookup x=some c->∀ v,s.heap.IsCell c v->h'.IsCell c v:=fun x c e v ⟨o,ho,hd⟩=>by
  have nch:c ∉ ch:=fun z=>(hch c z).2.2.1 x c e rfl
  by_cases hc:c∈X.fs
  ·obtain⟨sl,q⟩:=slot c o (I.cne x c e) hc nch ho (I.freeC x c e)
   exact⟨_,q,hd⟩
  ·exact⟨o,keep c o (I.cne x c e) hc nch ho (I.freeC x c e),hd⟩
 refine⟨I.ok,I.os,hg,⟨fun b o e n hb hx=>?_,fun b o e n hb hx=>?_,fun b o e n hx=>?_,fun b o e hx=>?_,fun b xs e=>tups b xs (I.base.tups b xs e),fun b o xs e=>frzs b o xs (I.base.frzs b o xs e),fun b ps e=>?_⟩,?_,fun x c e=>?_,?_,fun x c e=>?_,fun p hp=>?_,hok,I.len⟩
 ·exact keep b o (neL b o e) hb (neC b o e hx) (I.base.keep b o e n hb hx) (I.base.free b o e n hx)
 ·obtain⟨sl,e1⟩:=I.base.slot b o e n hb hx
  obtain⟨sl',e2⟩:=slot b _ (neL b o e) hb (neC b o e hx) e1 (I.base.free b o e n hx)
  exact⟨sl',e2⟩
 ·obtain⟨o',e1⟩:=I.base.there b o e hx
  exact free b o' (neC b o e hx) e1 (I.base.free b o e n hx)
 ·obtain⟨o',e1⟩:=I.base.there b o e hx
  exact there b o' (neC b o e hx) e1
 ·obtain⟨m1,e1⟩:=I.base.tbls b ps e
  obtain⟨m2,e2⟩:=tbls b _ e1
  exact⟨m1++m2,by rw [e2,Array.append_assoc]⟩
 ·obtain⟨m,hn,hl⟩:=I.loc
  refine⟨m,ns m hn,fun i x v e1 e2 e3=>?_⟩
  obtain⟨u,r,l⟩:=hl i x v e1 e2 e3
  refine⟨u,r,?_⟩
  rcases l with l | ⟨k,c,e,z⟩
  ·exact .inl l
  ·exact .inr ⟨k,c,e,cellK x c e _ z⟩
 ·obtain⟨v,z⟩:=I.cell x c e
  exact⟨v,cellK x c e v z⟩
 ·obtain⟨m,⟨o,_,_,ho,_⟩,_⟩:=I.loc
  exact free _ o (fun z=>(hch _ z).2.1 rfl) ho I.free
 ·obtain⟨v,o,ho,hd⟩:=I.cell x c e
  exact free c o (fun z=>(hch c z).2.2.1 x c e rfl) ho (I.freeC x c e)
 ·obtain⟨e,n,ne,nf,d⟩:=I.pin p hp
  have nch:p.1 ∉ ch:=fun z=>(hch p.1 z).2.2.2 p hp rfl
  exact⟨keep p.1 p.2 ne nf nch e n,free p.1 p.2 nch e n,ne,nf,d⟩
def Inv.un{t':Nat}(I:Inv X pins σ H s)(u:Un X.fs [] H H' s.heap h')(hok:HOk X.prog X.w H' h'):Inv X pins σ H' { s with heap:=h',toks:=t' }:=by
 obtain⟨m,⟨o,es,ep,ho,r⟩,_⟩:=id I.loc
 obtain⟨sl,hL⟩:=u.any ho I.free (by simp)
 exact I.step (g':=s.gens) (d':=s.drawn) (ch:=[]) (fun _ z=>nomatch z) (fun b o _ hb _ e n=>u.keep b o e n hb (by simp)) (fun b o _ hb _ e n=>u.slot b o e n hb (by simp)) (fun b o _ e n=>u.free b o e n (by simp)) (fun b o _ e=>u.there b o e (by simp)) u.tups u.frzs u.tbls (fun m' hm=>by
  obtain⟨o',es',ep',ho',r'⟩:=hm
  rw [ho] at ho';cases ho'
  exact⟨_,es',ep',hL,r'⟩) hok I.bare
def Inv.call{g':Array GenState}{t':Nat}{d':Drawn}{ch:List Addr}(I:Inv X pins σ H s)(u:Un (uc X.stack) ch H H' s.heap h')(hok:HOk X.prog X.w H' h')(hg:AllBare g')
  (hch:∀ b∈ch,(b∈X.ex\/X.s₀.heap.objs.size<=b)/\b≠X.env.locals/\(∀ x c,X.env.cells.lookup x=some c->c≠b)/\∀ p∈X.pn++pins,p.1≠b) :
  Inv X pins σ H' { s with heap:=h',gens:=g',drawn:=d',toks:=t' }:=by
 obtain⟨m,⟨o,es,ep,ho,r⟩,_⟩:=id I.loc
 obtain⟨sl,hL⟩:=u.any ho I.free fun z=>(hch _ z).2.1 rfl
 exact I.step (ch:=ch) hch (fun b o hL hb hc e n=>u.keep b o e n (fun z=>(Ep.mp (I.stkSub b z)).elim hL hb) hc) (fun b o _ _ hc e n=>u.any e n hc) (fun b o hc e n=>u.free b o e n hc) (fun b o hc e=>u.there b o e hc) u.tups u.frzs u.tbls (fun m' hm=>by
  obtain⟨o',es',ep',ho',r'⟩:=hm
  rw [ho] at ho';cases ho'
  exact⟨_,es',ep',hL,r'⟩) hok hg
def Inv.turned{t':Nat}{it:Addr}(I:Inv X pins σ H s)(k:∀ b o,b≠it->s.heap.get? b=some o->h'.get? b=some o)(hn:H it=none)(hL:it≠X.env.locals)
  (h1:it∈X.ex\/X.s₀.heap.objs.size<=it) (h2:∀ x c,X.env.cells.lookup x=some c->c≠it) (h3:∀ p∈X.pn++pins,p.1≠it):Inv X pins σ H { s with heap:=h',toks:=t' }:=by
 have nit:∀ b u,H b=some u->b≠it:=fun b u e z=>by rw [z,hn] at e;cases e
 refine I.step (g':=s.gens) (d':=s.drawn) (ch:=[it]) (fun b hb=>?_) (fun b o _ _ hc e _=>k b o (fun z=>hc (by simp [z])) e) (fun b o _ _ hc e _=>⟨o.slots,k b o (fun z=>hc (by simp [z])) e⟩) (fun _ _ _ _ n=>n)
  (fun b o hc e=>⟨o,k b o (fun z=>hc (by simp [z])) e⟩) (fun _ _ e=>e) (fun _ _ _ e=>e) (fun b ps e=>⟨#[],by rw [e];simp⟩) (fun m hm=>?_) (fun b u e=>?_) I.bare
 ·have e:b=it:=by simpa using hb
  subst e
  exact⟨h1,hL,h2,h3⟩
 ·obtain⟨o,es,ep,ho,r⟩:=hm
  exact⟨o,es,ep,k _ o (Ne.symm hL) ho,r⟩
 ·refine(I.hok b u e).stay (fun c v hc q=>k c v ?_ q) (fun _ q=>q) fun _ _ q=>q
  rcases hc with z | z
  ·rw [z];exact nit b u e
  ·exact nit c _ z
def Inv.tok(I:Inv X pins σ H s)(t:Nat):Inv X pins σ H { s with toks:=t }:=I.un (h':=s.heap) (t':=t) Un.refl I.hok
theorem Inv.kept{t':Nat}(I:Inv X pins σ H s)(k:∀ b u,s.heap.get? b=some u->h'.get? b=some u):Inv X pins σ H { s with heap:=h',toks:=t' }:=I.un (Un.kept k) (I.hok.kept k)
theorem Inv.laid{a:Addr}{o:HO}{t':Nat}(I:Inv X pins σ H s)(k:∀ b u,s.heap.get? b=some u->h'.get? b=some u)(hp:s.heap.objs.size<=a)(new:ObjOk X.prog X.w (upd H a o) h' a o) :
  Inv X pins σ (upd H a o) { s with heap:=h',toks:=t' }:=I.un (Un.laid k hp (I.hok.fresh hp)) (I.hok.laid k hp new)
theorem Inv.write{x e:Addr}{o:HO}{t':Nat}(I:Inv X pins σ H s)(mu:Mut (H x))(he:e=x\/H e=some (.own x))(k:∀ b u,b≠e->s.heap.get? b=some u->h'.get? b=some u)(heo:∃ u,h'.get? e=some u)
  (new:ObjOk X.prog X.w (upd H x o) h' x o):Inv X pins σ (upd H x o) { s with heap:=h',toks:=t' }:=I.un (Un.write mu he k heo) (I.hok.write mu he k heo new)
def Inv.pins_of{pins':List (Addr×Obj)}(I:Inv X pins σ H s)(h:∀ p∈pins',s.heap.get? p.1=some p.2/\H p.1=none/\p.1≠X.env.locals/\p.1 ∉ X.fs/\∀ v,p.2.data≠.cell v):Inv X pins' σ H s:=
 ⟨I.ok,I.os,I.bare,I.base,I.loc,I.cell,I.free,I.freeC,fun p hp=>(DX.mp hp).elim (fun z=>I.pin p (DV _ z)) (h p),I.hok,I.len⟩
def nE{N:List Str}(hN:N.Nodup){i j:Nat}{x:Str}(a:N[i]?=some x)(b:N[j]?=some x):i=j:=by
 obtain⟨h1,e1⟩:=DH.mp a
 obtain⟨h2,e2⟩:=DH.mp b
 exact(List.getElem_inj hN).mp (e1.trans e2.symm)
def kz{M:Model}{A:Around}{E:Value->Shared->Prop}{i:Nat}{x:Str}{v:V}{u:Value}{Q:Unit->Shared->Prop}(I:Inv X pins σ H s)(hN:X.N.Nodup)(hi:X.N[i]?=some x)(hx:xn X.env.scope x)(r:RelV v u)
  (h:∀ s',Inv X pins (σ.set i (some v)) H s'->(∃ a,Heap.SameBut a s.heap s'.heap/\(a=X.env.locals\/X.env.cells.lookup x=some a))->Q () s') (hf:X.fn x=true\/X.env.scope.names.lookup x=some .local:=by first | exact .inl rfl | exact .inr rfl | assumption):wpAny M A (storeName X.env x u) Q E s:=by
 obtain⟨m,hn,hl⟩:=id I.loc
 have hcls:(X.env.scope.kind == .class||(X.env.scope.kind == .module&&X.env.locals != X.env.globals))=false:=by rw [I.ok.kind];rfl
 have hiσ:i < σ.length:=by rw [I.len];exact(DH.mp hi).1
 have cne:=I.cne
 have tracked:∀ {a:Addr} {h':Heap},(∃ o,s.heap.get? a=some o/\H a=none)->Heap.SameBut a s.heap h'->HOk X.prog X.w H h':=fun {a h'} ha hs b ob e=>by
  obtain⟨_,_,hfree⟩:=ha
  refine(I.hok b ob e).stay (fun c w' hc q=>(hs.2 c ?_).trans q) (fun _ q=>q) fun _ _ q=>q
  rintro rfl
  rcases hc with rfl | hc
  ·rw [hfree] at e;cases e
  ·rw [hfree] at hc;cases hc
 rcases hx with hk | hk
 ·refine wpAny_storeName_local hk hn (fun h' hn' hs=>?_) hcls
  obtain⟨oL,_,_,hoL,_⟩:=id hn
  refine h _ ⟨I.ok,I.os,I.bare,⟨fun b o e n hb hx=>?_,fun b o e n hb hx=>?_,I.base.free,fun b o e hx=>?_,I.base.tups,I.base.frzs,I.base.tbls⟩,⟨_,hn',fun j y v' e1 e2 e3=>?_⟩,fun y c e=>?_,I.free,I.freeC,fun p hp=>?_,tracked ⟨oL,hoL,I.free⟩ hs,by simpa using I.len⟩ ⟨_,hs,.inl rfl⟩
  ·exact(hs.2 b (El (DP (DL e) I.ok.above))).trans (I.base.keep b o e n hb hx)
  ·obtain⟨sl,e1⟩:=I.base.slot b o e n hb hx
   exact⟨sl,(hs.2 b (El (DP (DL e) I.ok.above))).trans e1⟩
  ·obtain⟨o',e1⟩:=I.base.there b o e hx
   exact⟨o',(hs.2 b (El (DP (DL e) I.ok.above))).trans e1⟩
  ·by_cases hj:j=i
   ·subst hj
    rw [hi] at e1;cases e1
    rw [Ez hiσ] at e2
    cases e2
    exact⟨u,r,.inl ⟨hk,by simp⟩⟩
   ·rw [Em (Ne.symm hj)] at e2
    obtain⟨u',r',q⟩:=hl j y v' e1 e2 e3
    refine⟨u',r',?_⟩
    rcases q with ⟨k,e⟩ | ⟨k,c,e,z⟩
    ·refine .inl ⟨k,?_⟩
     have:y≠x:=fun e=>hj (nE hN e1 (e ▸ hi))
     simp [this,e]
    ·exact .inr ⟨k,c,e,z.sameBut hs (cne y c e)⟩
  ·obtain⟨w',z⟩:=I.cell y c e
   exact⟨w',z.sameBut hs (cne y c e)⟩
  ·obtain⟨e,n,ne,nf,d⟩:=I.pin p hp
   exact⟨(hs.2 p.1 ne).trans e,n,ne,nf,d⟩
 ·have hfn:X.fn x=true:=by
   rcases hf with z | z
   ·exact z
   ·rw [z] at hk;cases hk
  obtain⟨c,hc⟩:=I.ok.has x (.inl hk)
  obtain⟨w',z⟩:=I.cell x c hc
  refine wpAny_storeName_cell I.ok.kind hk hc z (fun h' hc' hs=>?_)
  obtain⟨oc,hoc,hocd⟩:=id z
  refine h { s with heap:=h' } ⟨I.ok,I.os,I.bare,⟨fun b o e n hb hx=>?_,fun b o e n hb hx=>?_,I.base.free,fun b o e hx=>?_,I.base.tups,I.base.frzs,I.base.tbls⟩,⟨m,hn.sameBut hs (Ne.symm (cne x c hc)),fun j y v' e1 e2 e3=>?_⟩,fun y c' e=>?_,I.free,I.freeC,fun p hp=>?_,tracked ⟨oc,hoc,I.freeC x c hc⟩ hs,by simpa using I.len⟩ ⟨c,hs,.inr hc⟩
  ·exact(hs.2 b (El (DP (DL e) (I.ok.cab x c hfn hc)))).trans (I.base.keep b o e n hb hx)
  ·obtain⟨sl,e1⟩:=I.base.slot b o e n hb hx
   exact⟨sl,(hs.2 b (El (DP (DL e) (I.ok.cab x c hfn hc)))).trans e1⟩
  ·obtain⟨o',e1⟩:=I.base.there b o e hx
   exact⟨o',(hs.2 b (El (DP (DL e) (I.ok.cab x c hfn hc)))).trans e1⟩
  ·by_cases hj:j=i
   ·subst hj
    rw [hi] at e1;cases e1
    rw [Ez hiσ] at e2
    cases e2
    exact⟨u,r,.inr ⟨.inl hk,c,hc,hc'⟩⟩
   ·rw [Em (Ne.symm hj)] at e2
    obtain⟨u',r',q⟩:=hl j y v' e1 e2 e3
    refine⟨u',r',?_⟩
    rcases q with q | ⟨k,c',e,z'⟩
    ·exact .inl q
    ·refine .inr ⟨k,c',e,z'.sameBut hs ?_⟩
     rintro rfl
     exact hj (nE hN e1 (I.ok.inj _ _ _ e hc ▸ hi))
  ·by_cases hcc:c'=c
   ·subst hcc;exact⟨_,hc'⟩
   ·obtain⟨w2,z2⟩:=I.cell y c' e
    exact⟨w2,z2.sameBut hs hcc⟩
  ·obtain⟨e,n,ne,nf,d⟩:=I.pin p hp
   refine⟨(hs.2 p.1 ?_).trans e,n,ne,nf,d⟩
   intro q
   rw [q,hoc] at e
   have q':oc=p.2:=Ek e
   exact d w' (by rw [<- q'];exact hocd)
def fM{M:Model}{A:Around}{E:Value->Shared->Prop}{i:Nat}{x:Str}{v:V}{u:Value}{Q:Unit->Shared->Prop}(I:Inv X pins σ H s)(hN:X.N.Nodup)(hi:X.N[i]?=some x)(hx:xn X.env.scope x)(r:RelV v u)
  (h:∀ s',Inv X pins (σ.set i (some v)) H s'->Q () s') (hf:X.fn x=true\/X.env.scope.names.lookup x=some .local:=by first | exact .inl rfl | exact .inr rfl | assumption):wpAny M A (storeName X.env x u) Q E s:=
 kz I hN hi hx r (fun s' I' _=>h s' I') hf
def Inv.call'{s':Shared}{ch:List Addr}(I:Inv X pins σ H s)(ho:s'.os=s.os)(u:Un (uc X.stack) ch H H' s.heap s'.heap)(hok:HOk X.prog X.w H' s'.heap)(hg:AllBare s'.gens)
  (hch:∀ b∈ch,(b∈X.ex\/X.s₀.heap.objs.size<=b)/\b≠X.env.locals/\(∀ x c,X.env.cells.lookup x=some c->c≠b)/\∀ p∈X.pn++pins,p.1≠b):Inv X pins σ H' s':=by
 obtain⟨h',g',d',t',o'⟩:=s'
 have e:o'=s.os:=ho
 subst e
 exact I.call (g':=g') (t':=t') (d':=d') u hok hg hch
end
abbrev XK:=Value->Option Addr->Hp->Prop
abbrev St:=List (Option V)
abbrev VK:=V->Hp->Prop
abbrev TE:=St->Hp->VK->Prop
abbrev TT:=St->Hp->(Bool->Hp->Prop)->Prop
abbrev TA:=St->Hp->(List V->Hp->Prop)->Prop
structure kj where
 nx:St->Hp->Prop
 rt:VK
 bk:St->Hp->Prop:=fun _ _=>False
 ct:St->Hp->Prop:=fun _ _=>False
abbrev TS:=kj->St->Hp->Prop
def EP(X:Cx)(pins:List (Addr×Obj))(σ:St)(Q:VK)(u:Value)(s':Shared):Prop:=∃ v H',Inv X pins σ H' s'/\RelV v u/\Q v H'
def TP(X:Cx)(pins:List (Addr×Obj))(σ:St)(Q:Bool->Hp->Prop)(b:Bool)(s':Shared):Prop:=∃ H',Inv X pins σ H' s'/\Q b H'
def AP(X:Cx)(pins:List (Addr×Obj))(σ:St)(Q:List V->Hp->Prop)(us:List Value)(s':Shared):Prop:=∃ vs H',Inv X pins σ H' s'/\Vals vs us/\Q vs H'
def SP(X:Cx)(pins:List (Addr×Obj))(D:kj)(f:Flow)(s':Shared):Prop:=
 match f with
 | .next=>∃ σ' H',Inv X pins σ' H' s'/\D.nx σ' H'
 | .brk=>∃ σ' H',Inv X pins σ' H' s'/\D.bk σ' H'
 | .cont=>∃ σ' H',Inv X pins σ' H' s'/\D.ct σ' H'
 | .ret u=>∃ v σ' H',Inv X pins σ' H' s'/\RelV v u/\D.rt v H'
def PE(X:Cx)(e:Expr)(t:TE):Prop:=
 ∀ (pins:List (Addr×Obj)) (s:Shared) (σ:St) (H:Hp) (Q:VK),Inv X pins σ H s->t σ H Q->wpAny (model X.prog X.w) X.A (eval e X.env) (EP X pins σ Q) X.xe s
def PT(X:Cx)(e:Expr)(t:TT):Prop:=
 ∀ (pins:List (Addr×Obj)) (s:Shared) (σ:St) (H:Hp) (Q:Bool->Hp->Prop),Inv X pins σ H s->t σ H Q->wpAny (model X.prog X.w) X.A (isTrue e X.env (eval e X.env)) (TP X pins σ Q) X.xe s
def PW(X:Cx)(e:Expr)(t:TT):Prop:=
 ∀ (whole:Sem Value) (pins:List (Addr×Obj)) (s:Shared) (σ:St) (H:Hp) (Q:Bool->Hp->Prop),Inv X pins σ H s->t σ H Q->wpAny (model X.prog X.w) X.A (isTrue e X.env whole) (TP X pins σ Q) X.xe s
def PW.pt{X:Cx}{e:Expr}{t:TT}(h:PW X e t):PT X e t:=h _
def PA(X:Cx)(es:List Expr)(t:TA):Prop:=
 ∀ (pos:Pos) (pins:List (Addr×Obj)) (s:Shared) (σ:St) (H:Hp) (Q:List V->Hp->Prop),Inv X pins σ H s->t σ H Q->wpAny (model X.prog X.w) X.A (spliced (backTo pos (starEach es X.env))) (AP X pins σ Q) X.xe s
def PS(X:Cx)(st:Stmt)(t:TS):Prop:=
 ∀ (pins:List (Addr×Obj)) (s:Shared) (σ:St) (H:Hp) (D:kj),Inv X pins σ H s->t D σ H->wpAny (model X.prog X.w) X.A (exec st X.env) (SP X pins D) X.xe s
def PSs(X:Cx)(st:List Stmt)(t:TS):Prop:=
 ∀ (pins:List (Addr×Obj)) (s:Shared) (σ:St) (H:Hp) (D:kj),Inv X pins σ H s->t D σ H->wpAny (model X.prog X.w) X.A (execs st X.env) (SP X pins D) X.xe s
def bj{α:Type}{t:Sem α}{Q Q':α->Shared->Prop}{M:Model}{A:Around}{E:Value->Shared->Prop}{s:Shared}(h:wpAny M A t Q E s)(hQ:∀ a s,Q a s->Q' a s):wpAny M A t Q' E s:=Ej h hQ fun _ _ x=>x
section
variable{X:Cx}
def bin{a b:Expr}{ta tb:TE}(ha:PE X a ta)(hb:PE X b tb){pins:List (Addr×Obj)}{s:Shared}{σ:St}{H:Hp}{R:V->V->Hp->Prop}(I:Inv X pins σ H s)(h:ta σ H fun x H1=>tb σ H1 fun y H2=>R x y H2)
  {α:Type} {Q:α->Shared->Prop} {f:Value->Value->Sem α}
  (hf:∀ v u s2 x y H2,Inv X pins σ H2 s2->RelV x v->RelV y u->R x y H2->wpAny (model X.prog X.w) X.A (f v u) Q X.xe s2) :
  wpAny (model X.prog X.w) X.A (eval a X.env) (fun v s₁=>wpAny (model X.prog X.w) X.A (eval b X.env) (fun u s₂=>wpAny (model X.prog X.w) X.A (f v u) Q X.xe s₂) X.xe s₁) X.xe s:=by
 refine bj (ha pins s σ H _ I h) fun v s1 ⟨x,H1,I1,r1,q1⟩=>?_
 refine bj (hb pins s1 σ H1 _ I1 q1) fun u s2 ⟨y,H2,I2,r2,q2⟩=>?_
 exact hf v u s2 x y H2 I2 r1 r2 q2
def tVar(i:Nat):TE:=fun σ H Q=>∃ v,σ[i]?=some (some v)/\Q v H
def tC(v:V):TE:=fun _ H Q=>Q v H
def uI{i:Nat}{x:Str}{pos:Pos}(hN:X.N[i]?=some x)(hv:Dr X.env.scope x)(hd:(x == ("__debug__":Str))=false:=by decide)(hcd:(x == ("__classdict__":Str))=false:=by decide):PE X (.Name x pos) (tVar i):=by
 intro pins s σ H Q I h
 obtain⟨v,e,h⟩:=h
 obtain⟨m,hn,hl⟩:=I.loc
 obtain⟨u,r,l⟩:=hl i x v hN e hv
 have fin:EP X pins σ Q u s:=⟨v,H,I,r,h⟩
 rcases l with ⟨hk,hm⟩ | ⟨hk,c,hc,hcell⟩
 ·exact wpAny_Name (wpAny_loadName_local I.ok.kind hk hn hm fin) hd
 ·rcases hk with hk | hk
  ·exact wpAny_Name (wpAny_loadName_cell I.ok.kind hk hc hcell fin) hd
  ·exact wpAny_Name (wpAny_loadName_free I.ok.kind hk hc hcell fin hcd) hd
def Bd{i j pos}:PE X (.Constant (.int i) j pos) (tC (.int i)):=fun _ _ _ H _ I h=>wpAny_Constant_int ⟨.int i,H,I.tok _,⟨_,rfl⟩,h⟩
def pe_bl{b j pos}:PE X (.Constant (.bool b) j pos) (tC (.bl b)):=fun _ _ _ H _ I h=>Constant_bool ⟨.bl b,H,I,rfl,h⟩
def Bc{j pos}:PE X (.Constant .none j pos) (tC .non):=fun _ _ _ H _ I h=>Constant_none ⟨.non,H,I,rfl,h⟩
def AZ{x j pos}:PE X (.Constant (.str x) j pos) (tC (.str x)):=fun _ _ _ H _ I h=>GG ⟨.str x,H,I.tok _,⟨_,rfl⟩,h⟩
def Gl(X:Cx)(x:Str):Prop:=X.env.kindOf x=some .globalImplicit
def mf{E:Value->Shared->Prop}{pins:List (Addr×Obj)}{s:Shared}{σ:St}{H:Hp}{x:Str}{u:Value}{pos:Pos}{Q:Value->Shared->Prop}(I:Inv X pins σ H s)(hg:Gl X x)(hm:X.mg x=some u)(h:Q u s)
  (hd:(x == ("__debug__":Str))=false:=by decide):wpAny (model X.prog X.w) X.A (eval (.Name x pos) X.env) Q E s:=
 FU I.ok.kind hg (Calls.loadGlobal_global (by rw [I.ok.glob];exact I.mod.glob.keeps I.bk) hm h) hd
def jl{E:Value->Shared->Prop}{pins:List (Addr×Obj)}{s:Shared}{σ:St}{H:Hp}{x:Str}{u:Value}{pos:Pos}{Q:Value->Shared->Prop}(I:Inv X pins σ H s)(hg:Gl X x)(hm:X.mg x=none)(hv:bootBuiltins x=some u)(h:Q u s)
  (hn:x ≠ "__name__":=by decide) (hd:(x == ("__debug__":Str))=false:=by decide):wpAny (model X.prog X.w) X.A (eval (.Name x pos) X.env) Q E s:=by
 obtain⟨mb,h1,h2⟩:=I.mod.blt
 exact FU I.ok.kind hg (Calls.loadGlobal_builtin (by rw [I.ok.glob];exact I.mod.glob.keeps I.bk) hm (by rw [I.ok.blt];exact h1.keeps I.bk) ((h2 x hn).trans hv) h) hd
def qM{x:Str}{v:V}{u:Value}{pos:Pos}(hg:Gl X x)(hm:X.mg x=some u)(r:RelV v u)(hd:(x == ("__debug__":Str))=false:=by decide):PE X (.Name x pos) (tC v):=
 fun _ _ _ H _ I h=>mf I hg hm ⟨v,H,I,r,h⟩ hd
def xY{x:Str}{v:V}{u:Value}{pos:Pos}(hg:Gl X x)(hm:X.mg x=none)(hv:bootBuiltins x=some u)(r:RelV v u)(hn:x ≠ "__name__":=by decide)(hd:(x == ("__debug__":Str))=false:=by decide):PE X (.Name x pos) (tC v):=
 fun _ _ _ H _ I h=>jl I hg hm hv ⟨v,H,I,r,h⟩ hn hd
variable{a b:Expr}{ta tb:TE}{pos:Pos}
variable{tA tB':TT}{rest:List Expr}
def tAnd(t u:TT):TT:=fun σ H Q=>t σ H fun c H1=>if c=true then u σ H1 Q else Q false H1
def tOr(t u:TT):TT:=fun σ H Q=>t σ H fun c H1=>if c=true then Q true H1 else u σ H1 Q
def tNot(t:TT):TT:=fun σ H Q=>t σ H fun c H1=>Q (!c) H1
def xH(ha:PT X a tA):PW X (.BoolOp .And [a] pos) tA:=by
 intro wh pins s σ H Q I h
 refine isTrue_and (bj (ha pins s σ H Q I h) fun c s1 e=>?_)
 cases c with
 | true=>exact isTrue_and_nil e
 | false=>exact e
def AN(ha:PT X a tA):PW X (.BoolOp .Or [a] pos) tA:=by
 intro wh pins s σ H Q I h
 refine isTrue_or (bj (ha pins s σ H Q I h) fun c s1 e=>?_)
 cases c with
 | false=>exact isTrue_or_nil e
 | true=>exact e
def AO(ha:PT X a tA)(hb:PW X (.BoolOp .And (b::rest) pos) tB'):PW X (.BoolOp .And (a::b::rest) pos) (tAnd tA tB'):=by
 intro wh pins s σ H Q I h
 refine isTrue_and (bj (ha pins s σ H _ I h) fun c s1 ⟨H1,I1,q1⟩=>?_)
 cases c with
 | true=>exact hb wh pins s1 σ H1 Q I1 q1
 | false=>exact⟨H1,I1,q1⟩
def pw_or(ha:PT X a tA)(hb:PW X (.BoolOp .Or (b::rest) pos) tB'):PW X (.BoolOp .Or (a::b::rest) pos) (tOr tA tB'):=by
 intro wh pins s σ H Q I h
 refine isTrue_or (bj (ha pins s σ H _ I h) fun c s1 ⟨H1,I1,q1⟩=>?_)
 cases c with
 | true=>exact⟨H1,I1,q1⟩
 | false=>exact hb wh pins s1 σ H1 Q I1 q1
def AQ(ha:PT X a tA):PT X (.UnaryOp .Not a pos) (tNot tA):=by
 intro pins s σ H Q I h
 exact isTrue_not (ha pins s σ H (fun c H1=>Q (!c) H1) I h)
def Bb{op}{t:TE}(h:PE X a t):PE X (.BoolOp op [a] pos) t:=fun pins s σ H Q I hw=>BoolOp_one (h pins s σ H Q I hw)
def tIf(t:TT)(ta tb:TE):TE:=fun σ H Q=>t σ H fun c H1=>if c=true then ta σ H1 Q else tb σ H1 Q
def uL{c:Expr}(hc:PT X c tA)(ha:PE X a ta)(hb:PE X b tb):PE X (.IfExp c a b pos) (tIf tA ta tb):=by
 intro pins s σ H Q I h
 refine wpAny_IfExp (bj (hc pins s σ H _ I h) fun d s1 ⟨H1,I1,q1⟩=>?_)
 cases d with
 | true=>exact ha pins s1 σ H1 Q I1 q1
 | false=>exact hb pins s1 σ H1 Q I1 q1
end
def fK(K:W.Frag)(H:Hp)(a:Addr)(xs:List V):Prop:=
 Rd H a (.lst xs) \/
  ∃ (o:Obj) (its:Array Value) (n:Nat),K.lookup a=some o/\o.cls=.type "list"/\o.dict=none/\o.data=.seq its n/\its.size<=sizeLine/\Vals xs its.toList
def hJ(K:W.Frag)(H:Hp)(a:Addr)(xs:List V):Prop:=
 Rd H a (.tup xs) \/
  ∃ (o:Obj) (its:Array Value) (n:Nat),K.lookup a=some o/\o.cls=.type "tuple"/\o.dict=none/\o.data=.seq its n/\its.size<=sizeLine/\Vals xs its.toList
noncomputable def absV:Value->Option V
 | .none=>some .non
 | .bool b=>some (.bl b)
 | .int i _=>some (.int i)
 | .str x _=>some (.str x)
 | .bytes b _=>some (.byt b)
 | .float b _=>some (.flt b)
 | .ref a=>some (.ref a)
 | .type n=>some (.ty n)
 | _=>none
def RelV.abs{x:V}{u:Value}(r:RelV x u):absV u=some x:=by
 cases x with
 | non=>cases r;rfl
 | bl _=>cases r;rfl
 | int _=>obtain⟨t,rfl⟩:=r;rfl
 | str _=>obtain⟨t,rfl⟩:=r;rfl
 | byt _=>obtain⟨t,rfl⟩:=r;rfl
 | flt _=>obtain⟨t,rfl⟩:=r;rfl
 | ref _=>cases r;rfl
 | ty _=>cases r;rfl
theorem RelV.inj{x y:V}{u:Value}(r:RelV x u)(q:RelV y u):x=y:=Ek (r.abs.symm.trans q.abs)
theorem Vals.inj:∀ {xs ys:List V} {us:List Value},Vals xs us->Vals ys us->xs=ys
 | _,_,_,.nil,.nil=>rfl
 | _,_,_,.cons r t,.cons r' t'=>by rw [r.inj r',Vals.inj t t']
section
variable{X:Cx}{pins:List (Addr×Obj)}{σ:St}{H:Hp}{s:Shared}{a:Addr}{xs ys:List V}
def Inv.list(I:Inv X pins σ H s)(h:fK X.K H a xs):∃ its:List Value,Vals xs its/\PlainL s.heap a its.toArray/\xs.length<=sizeLine:=by
 rcases h with h | ⟨o,its,n,hk,hc,hd,hs,hz,r⟩
 ·obtain⟨z,its,n,r,e⟩:=h.ok I.hok
  exact⟨its,r,⟨_,n,e,rfl,rfl,rfl⟩,z⟩
 ·refine⟨its.toList,r,⟨o,n,I.kIn a o hk,hc,hd,by simpa using hs⟩,?_⟩
  have e:=r.length
  simp only [Fv] at e
  omega
def Inv.tuple(I:Inv X pins σ H s)(h:hJ X.K H a xs):∃ its:List Value,Vals xs its/\IsTup s.heap a its.toArray/\xs.length<=sizeLine:=by
 rcases h with h | ⟨o,its,n,hk,hc,hdn,hs,hz,r⟩
 ·obtain⟨z,its,r,p⟩:=h.ok I.hok
  exact⟨its,r,p.up,z⟩
 ·refine⟨its.toList,r,⟨o,I.kIn a o hk,hc,n,by simpa using hs⟩,?_⟩
  have e:=r.length
  simp only [Fv] at e
  omega
def Inv.list_inj(I:Inv X pins σ H s)(h:fK X.K H a xs)(h':fK X.K H a ys):xs=ys:=by
 obtain⟨its,r,⟨o,n,e,_,_,d⟩,_⟩:=I.list h
 obtain⟨its',r',⟨o',n',e',_,_,d'⟩,_⟩:=I.list h'
 rw [e] at e';cases e'
 rw [d] at d'
 injection d' with d1 _
 have:its=its':=by simpa using congrArg Array.toList d1
 subst this
 exact r.inj r'
def Inv.tuple_inj(I:Inv X pins σ H s)(h:hJ X.K H a xs)(h':hJ X.K H a ys):xs=ys:=by
 obtain⟨its,r,⟨o,e,_,n,d⟩,_⟩:=I.tuple h
 obtain⟨its',r',⟨o',e',_,n',d'⟩,_⟩:=I.tuple h'
 rw [e] at e';cases e'
 rw [d] at d'
 injection d' with d1 _
 have:its=its':=by simpa using congrArg Array.toList d1
 subst this
 exact r.inj r'
end
noncomputable abbrev Cx.wish(X:Cx)(E:Value->Shared->Prop):Cx:={ X with xe:=E }
noncomputable abbrev Cx.nox(X:Cx):Cx:=X.wish fun _ _=>False
theorem Cx.Ok.wish{X:Cx}(ok:X.Ok)(E:Value->Shared->Prop):(X.wish E).Ok:=
 ⟨ok.mod,ok.kind,ok.glob,ok.blt,ok.above,ok.inj,ok.has,ok.cab,ok.hd,ok.frames,ok.stk,ok.exf,ok.bs,ok.bsz,ok.noex,ok.exfs,ok.funs,ok.frf⟩
def Cx.Ok.unwish{X:Cx}{E:Value->Shared->Prop}(ok:(X.wish E).Ok):X.Ok:=
 ⟨ok.mod,ok.kind,ok.glob,ok.blt,ok.above,ok.inj,ok.has,ok.cab,ok.hd,ok.frames,ok.stk,ok.exf,ok.bs,ok.bsz,ok.noex,ok.exfs,ok.funs,ok.frf⟩
section
variable{X:Cx}{pins:List (Addr×Obj)}{σ:St}{H:Hp}{s:Shared}{E:Value->Shared->Prop}
theorem Inv.wish(I:Inv X pins σ H s)(E:Value->Shared->Prop):Inv (X.wish E) pins σ H s:=⟨I.ok.wish E,I.os,I.bare,I.base,I.loc,I.cell,I.free,I.freeC,I.pin,I.hok,I.len⟩
theorem Inv.unwish(I:Inv (X.wish E) pins σ H s):Inv X pins σ H s:=⟨I.ok.unwish,I.os,I.bare,I.base,I.loc,I.cell,I.free,I.freeC,I.pin,I.hok,I.len⟩
theorem SP.unwish{D:kj}{f:Flow}{s':Shared}(h:SP (X.wish E) pins D f s'):SP X pins D f s':=by
 cases f with
 | next=>obtain⟨σ',H',I,q⟩:=h;exact⟨σ',H',I.unwish,q⟩
 | brk=>obtain⟨σ',H',I,q⟩:=h;exact⟨σ',H',I.unwish,q⟩
 | cont=>obtain⟨σ',H',I,q⟩:=h;exact⟨σ',H',I.unwish,q⟩
 | ret u=>obtain⟨v,σ',H',I,r,q⟩:=h;exact⟨v,σ',H',I.unwish,r,q⟩
theorem PSs.nox{st:List Stmt}{t:TS}(h:PSs X.nox st t):PSs X st t:=fun pins s σ H D I hw=>
 Ej (h pins s σ H D (I.wish _) hw) (fun _ _ q=>q.unwish) fun _ _ z=>False.elim z
end
section
variable{X:Cx}{st:Stmt}{rest:List Stmt}{t u:TS}{e:Expr}{te:TE}{pos:Pos}
def ui:TS:=fun D σ H=>D.nx σ H
def tSeq(t u:TS):TS:=fun D σ H=>t { D with nx:=u D } σ H
def xL:PSs X [] ui:=fun _ _ σ H _ I h=>FP ⟨σ,H,I,h⟩
def nt(h1:PS X st t)(h2:PSs X rest u):PSs X (st::rest) (tSeq t u):=by
 intro pins s σ H D I h
 refine wpAny_execs_cons (bj (h1 pins s σ H { D with nx:=u D } I h) fun f s1 q=>?_)
 cases f with
 | next=>
  obtain⟨σ',H',I',q⟩:=q
  exact h2 pins s1 σ' H' D I' q
 | ret v=>exact q
 | brk=>exact q
 | cont=>exact q
def qK(h1:PS X st t):PSs X [st] t:=by
 intro pins s σ H D I h
 refine wpAny_execs_cons (bj (h1 pins s σ H D I h) fun f s1 q=>?_)
 cases f with
 | next=>exact FP q
 | ret v=>exact q
 | brk=>exact q
 | cont=>exact q
def AE:TS:=fun D σ H=>D.bk σ H
def tCont:TS:=fun D σ H=>D.ct σ H
def xN:PS X (.Pass pos) ui:=fun _ _ σ H _ I h=>wpAny_Pass ⟨σ,H,I,h⟩
def uF:PS X (.Break pos) AE:=fun _ _ σ H _ I h=>wpAny_Break ⟨σ,H,I,h⟩
def nv:PS X (.Continue pos) tCont:=fun _ _ σ H _ I h=>wpAny_Continue ⟨σ,H,I,h⟩
def Inv.quiet{pins:List (Addr×Obj)}{σ:St}{H:Hp}{s:Shared}(I:Inv X pins σ H s):interactive X.env=false:=by simp [interactive,I.ok.kind]
def AS{x j pos pos'}:PS X (.Expr (.Constant (.str x) j pos) pos') ui:=fun _ s σ H _ I h=>wpAny_Expr (GG (show SP X _ _ .next { s with toks:=s.toks+1 } from ⟨σ,H,I.tok _,h⟩)) I.quiet
def tDrop(te:TE):TS:=fun D σ H=>te σ H fun _ H1=>D.nx σ H1
def xO(he:PE X e te)(hs:swapsWith e none pos.line X.env=pure false:=by rfl):PS X (.Expr e pos) (tDrop te):=by
 intro pins s σ H D I h
 exact wpAny_Expr_any (bj (he pins s σ H _ I h) fun v s1 ⟨x,H1,I1,r1,q1⟩=>⟨σ,H1,I1,q1⟩) I.quiet hs
def tRet(te:TE):TS:=fun D σ H=>te σ H D.rt
def uD(he:PE X e te):PS X (.Return (some e) pos) (tRet te):=by
 intro pins s σ H D I h
 exact wpAny_Return_some (bj (he pins s σ H _ I h) fun v s1 ⟨x,H1,I1,r1,q1⟩=>⟨x,σ,H1,I1,r1,q1⟩)
def tRetN:TS:=fun D _ H=>D.rt .non H
def xM:PS X (.Return none pos) tRetN:=fun _ _ σ H _ I h=>wpAny_Return_none ⟨.non,σ,H,I,rfl,h⟩
def tIfS(c:TT)(t u:TS):TS:=fun D σ H=>c σ H fun b H1=>if b=true then t D σ H1 else u D σ H1
def ps_if{c:Expr}{a b:List Stmt}{tc:TT}(hc:PT X c tc)(ha:PSs X a t)(hb:PSs X b u):PS X (.If c a b pos) (tIfS tc t u):=by
 intro pins s σ H D I h
 refine wpAny_If (bj (hc pins s σ H _ I h) fun d s1 ⟨H1,I1,q1⟩=>?_)
 cases d with
 | true=>exact ha pins s1 σ H1 D I1 q1
 | false=>exact hb pins s1 σ H1 D I1 q1
end
abbrev TG:=V->St->Hp->(St->Hp->Prop)->Prop
abbrev As:=List V->St->Hp->(St->Hp->Prop)->Prop
def PG(X:Cx)(target:Expr)(t:TG):Prop:=
 ∀ (pins:List (Addr×Obj)) (s:Shared) (σ:St) (H:Hp) (v:V) (u:Value) (Q:St->Hp->Prop),Inv X pins σ H s->RelV v u->t v σ H Q ->
  wpAny (model X.prog X.w) X.A (assign target X.env u) (fun _ s'=>∃ σ' H',Inv X pins σ' H' s'/\Q σ' H') X.xe s
def PGs(X:Cx)(ts:List Expr)(t:As):Prop:=
 ∀ (pins:List (Addr×Obj)) (s:Shared) (σ:St) (H:Hp) (vs:List V) (us:List Value) (Q:St->Hp->Prop),Inv X pins σ H s->Vals vs us->t vs σ H Q ->
  wpAny (model X.prog X.w) X.A (assignInOrder ((assignEach ts X.env).map (·.2)) us) (fun _ s'=>∃ σ' H',Inv X pins σ' H' s'/\Q σ' H') X.xe s
abbrev Ds:=V->V->V->Hp->(Hp->Prop)->Prop
def PSet(X:Cx)(t:Ds):Prop:=
 ∀ (pins:List (Addr×Obj)) (s:Shared) (σ:St) (H:Hp) (o i v:V) (ov iv u:Value) (Q:Hp->Prop),Inv X pins σ H s->RelV o ov->RelV i iv->RelV v u->t o i v H Q ->
  wpAny (model X.prog X.w) X.A (setItem ov iv u) (fun _ s'=>∃ H',Inv X pins σ H' s'/\Q H') X.xe s
section
variable{X:Cx}{pos:Pos}
def rN(i:Nat):TG:=fun v σ H Q=>Q (σ.set i (some v)) H
def xT{i:Nat}{x:Str}(hN:X.N.Nodup)(hi:X.N[i]?=some x)(hx:xn X.env.scope x)(hf:X.fn x=true\/X.env.scope.names.lookup x=some .local:=by first | exact .inl rfl | exact .inr rfl | assumption):PG X (.Name x pos) (rN i):=by
 intro pins s σ H v u Q I r h
 exact wpAny_assign_Name (fM I hN hi hx r (fun s' I'=>⟨_,H,I',h⟩) hf)
noncomputable def gNil:As:=fun vs σ H Q=>vs=[]/\Q σ H
noncomputable def gCons(t:TG)(u:As):As:=fun vs σ H Q=>∃ v r,vs=v::r/\t v σ H fun σ' H'=>u r σ' H' Q
def xS:PGs X [] gNil:=by
 intro pins s σ H vs us Q I r h
 obtain⟨e,h⟩:=h
 subst e
 cases r
 exact assignInOrder_nil ⟨σ,H,I,h⟩
def uH{e:Expr}{es:List Expr}{t:TG}{u:As}(h1:PG X e t)(h2:PGs X es u)
  (hs:(assignEach (e::es) X.env).map (·.2)=assign e X.env::(assignEach es X.env).map (·.2):=by rfl):PGs X (e::es) (gCons t u):=by
 intro pins s σ H vs us Q I r h
 obtain⟨v,vr,e1,h⟩:=h
 subst e1
 cases r with
 | cons r rr=>
  rw [hs]
  refine Fz (bj (h1 pins s σ H _ _ _ I r h) fun _ s1 ⟨σ1,H1,I1,q1⟩=>?_)
  exact h2 pins s1 σ1 H1 _ _ Q I1 rr q1
def gTup(K:W.Frag)(n:Nat)(t:As):TG:=fun v σ H Q=>∃ a xs,v=.ref a/\hJ K H a xs/\xs.length=n/\t xs σ H Q
def AW{es:List Expr}{k:Nat}{t:As}{n:Nat}(hc:X.calm=true)(h:PGs X es t)
  (hn:(assignEach es X.env).length=n:=by rfl) (hst:(assignEach es X.env).findIdx? (·.1)=none:=by rfl):PG X (.Tuple es k pos) (gTup X.K n t):=by
 intro pins s σ H v u Q I r hw
 obtain⟨a,xs,e1,hq,hl,hw⟩:=hw
 subst e1
 cases r
 obtain⟨its,rv,ht,hz⟩:=I.tuple hq
 refine assign_Tuple_tuple (I.ok.hd hc) ht (by simp [hn,<- hl,rv.length]) hst fun h' hx=>?_
 have I1:Inv X pins σ H { s with heap:=h' }:=I.kept (t':=s.toks) fun b o e=>hx b o (El (DL e)) e
 exact h pins _ σ H xs _ Q I1 (by simpa using rv) hw
def gSub(to ti:TE)(t:Ds):TG:=fun v σ H Q=>to σ H fun o H1=>ti σ H1 fun i H2=>t o i v H2 fun H3=>Q σ H3
def AX{o i:Expr}{to ti:TE}{t:Ds}(ho:PE X o to)(hi:PE X i ti)(hs:PSet X t)
  (ha:∀ v,assign (.Subscript o i pos) X.env v=(do
   let ov <- holding [v] (eval o X.env)
   let iv <- holding [v,ov] (eval i X.env)
   standAt pos
   holding [v,ov,iv] (setItem ov iv v)
   release [v,ov,iv] []):=by intro _;rfl):PG X (.Subscript o i pos) (gSub to ti t):=by
 intro pins s σ H v u Q I r h
 rw [ha]
 refine DD (Fi (bj (ho pins s σ H _ I h) fun ov s1 ⟨x,H1,I1,r1,q1⟩=>?_))
 refine DD (Fi (bj (hi pins s1 σ H1 _ I1 q1) fun iv s2 ⟨y,H2,I2,r2,q2⟩=>?_))
 refine DD (Fw (DD (Fi (bj (hs pins s2 σ H2 x y v ov iv u _ I2 r1 r2 r q2) fun _ s3 ⟨H3,I3,q3⟩=>?_))))
 exact wpAny_release ⟨σ,H3,I3,q3⟩
def um(te:TE)(g:TG):TS:=fun D σ H=>te σ H fun x H1=>g x σ H1 D.nx
def AT{tg e:Expr}{te:TE}{g:TG}(he:PE X e te)(hg:PG X tg g)(hs:swapsWithSole [tg] e pos.line X.env=pure false:=by rfl)(hw:swappedStores [tg] e X.env=pure none:=by rfl)
  (h1:(assignEach [tg] X.env).map (·.2)=[assign tg X.env]:=by rfl):PS X (.Assign [tg] e pos) (um te g):=by
 intro pins s σ H D I h
 refine wpAny_Assign_stores (bj (he pins s σ H _ I h) fun v s1 ⟨x,H1,I1,r1,q1⟩=>?_) hs hw
 rw [h1]
 exact bj (hg pins s1 σ H1 x v _ I1 r1 q1) fun _ s2 q=>q
def uC{i:Nat}{x:Str}{e:Expr}{te:TE}{pos':Pos}(hN:X.N.Nodup)(hi:X.N[i]?=some x)(hx:xn X.env.scope x)(he:PE X e te)(hs:swapsWith e (some (.Name x pos')) pos.line X.env=pure false:=by rfl)(hf:X.fn x=true\/X.env.scope.names.lookup x=some .local:=by first | exact .inl rfl | exact .inr rfl | assumption) :
  PS X (.Assign [.Name x pos'] e pos) (um te (rN i)):=by
 intro pins s σ H D I h
 refine wpAny_Assign_Name (bj (he pins s σ H _ I h) fun v s1 ⟨y,H1,I1,r1,q1⟩=>?_) hs
 exact fM I1 hN hi hx r1 (fun s2 I2=>⟨_,H1,I2,q1⟩) hf
def tPar(i j:Nat)(ta:TA):TS:=fun D σ H=>ta σ H fun vs H1=>∃ v w,vs=[v,w]/\D.nx ((σ.set i (some v)).set j (some w)) H1
def AR{i j:Nat}{x y:Str}{a b:Expr}{ta:TA}{px py pt:Pos}{kt k2 pt2}(hc:X.calm=true)(hN:X.N.Nodup)(hi:X.N[i]?=some x)(hj:X.N[j]?=some y)(hij:i≠j)
  (hx:X.env.scope.names.lookup x=some .local) (hy:X.env.scope.names.lookup y=some .local) (ha:PA X [a,b] ta)
  (hw:swappedStores [.Tuple [.Name x px,.Name y py] kt pt] (.Tuple [a,b] k2 pt2) X.env=pure (some [x,y]))
  (hs:swapsWithSole [.Tuple [.Name x px,.Name y py] kt pt] (.Tuple [a,b] k2 pt2) pos.line X.env=pure false:=by rfl) :
  PS X (.Assign [.Tuple [.Name x px,.Name y py] kt pt] (.Tuple [a,b] k2 pt2) pos) (tPar i j ta):=by
 intro pins s σ H D I h
 rw [exec_Assign_arm]
 refine DD (Fw ?_)
 rw [hs]
 refine DD (DN ?_)
 rw [Eh (by decide)]
 refine DD (Tuple_ (bj (ha _ pins s σ H _ I h) fun us s1 ⟨vs,H1,I1,r1,q1⟩=>?_))
 obtain⟨v,w,e1,q1⟩:=q1
 subst e1
 obtain⟨u1,u2,rfl,rv,rw'⟩:∃ u1 u2,us=[u1,u2]/\RelV v u1/\RelV w u2:=by
  cases r1 with
  | cons p q=>
   cases q with
   | cons p' q'=>
    cases q'
    exact⟨_,_,rfl,p,p'⟩
 refine EK ?_ (by show 2<=sizeLine;decide)
 have I2:Inv X pins σ H1 { s1 with heap:=s1.heap.push { cls:=.type "tuple",data:=.seq [u1,u2].toArray } }:=I1.kept (t':=s1.toks) fun b o e=>DJ _ e
 rw [hw]
 refine DD (DN ?_)
 show wpAny (model X.prog X.w) X.A (do rule "assign.swapped-stores";let items <- unpackItems (.ref s1.heap.objs.size) 2 none;assignInOrder [fun v=>bindName X.env y v,fun v=>bindName X.env x v] items.reverse;pure Flow.next) _ _ _
 refine DD (wpAny_rule (DD (unpackItems_tuple (items:=#[u1,u2]) (I.ok.hd hc) (IsTup.new s1.heap _) fun h' hx'=>?_)))
 have I3:=I2.kept (h':=h') (t':=s1.toks) fun b o e=>hx' b o (El (DL e)) e
 show wpAny _ _ (assignInOrder [fun v=>bindName X.env y v,fun v=>bindName X.env x v] [u2,u1] >>= fun _=>pure Flow.next) _ _ _
 refine DD (Fz (wpAny_bindName (fM I3 hN hj (.inl hy) rw' (fun s2 I4=>?_) (.inr hy))))
 refine Fz (wpAny_bindName (fM I4 hN hi (.inl hx) rv (fun s3 I5=>assignInOrder_nil (DN ?_)) (.inr hx)))
 rw [List.set_comm _ _ (Ne.symm hij)] at I5
 exact⟨_,H1,I5,q1⟩
end
section
variable{X:Cx}{pos:Pos}
end
structure It where
 go:Nat->Hp->Prop
 yld:Nat->Hp->V->Hp->Prop
 stop:Nat->Hp->Prop
def jL(X:Cx)(pins:List (Addr×Obj))(H:Hp)(b:Addr):Prop:=
 H b=none/\b≠X.env.locals/\b ∉ X.fs/\(b∈X.ex\/X.s₀.heap.objs.size<=b)/\(∀ x c,X.env.cells.lookup x=some c->c≠b)/\∀ p∈X.pn++pins,p.1≠b
def Inv.fpOk{X:Cx}{pins:List (Addr×Obj)}{σ:St}{H H':Hp}{s:Shared}{b:Addr}(I:Inv X pins σ H s)(hb:s.heap.objs.size<=b)(hn:H' b=none):jL X pins H' b:=by
 refine⟨hn,Nat.ne_of_gt (DP I.lt hb),I.nofs hb,.inr (Er I.sz hb),fun x c e z=>?_,fun p hp z=>?_⟩
 ·obtain⟨v,q⟩:=I.cell x c e
  exact absurd (DP q.lt (by rw [z];exact hb)) (EM _)
 ·exact absurd (DP (DL (I.pin p hp).1) (by rw [z];exact hb)) (EM _)
structure xj(P:Program)(w:World)(K:W.Frag)(tg:Expr)(J:It)(fp:List Addr)(it:Addr)(tn:Nat->Heap->Prop):Prop where
 mem:it∈fp
 obj:∀ i h,tn i h->∀ b∈fp,∃ o,h.get? b=some o/\∀ v,o.data≠.cell v
 keep:∀ i h h',tn i h->(∀ b∈fp,∀ o,h.get? b=some o->h'.get? b=some o)->tn i h'
 item:∀ (X:Cx),X.prog=P->X.w=w->X.K=K->X.calm=true->∀ (i:Nat) (pins:List (Addr×Obj)) (s:Shared) (σ:St) (H:Hp) (E:Value->Shared->Prop),Inv X pins σ H s->(∀ b∈fp,jL X pins H b)->tn i s.heap->J.go i H ->
  wpAny (model P w) X.A (pyNext (.ref it)) (fun r s1=>∃ u,r=some u /\
   wpAny (model P w) X.A (letOwnedTupleGo tg (.ref it) u) (fun _ s2=>∃ x H',Inv X pins σ H' s2/\RelV x u/\J.yld i H x H'/\tn (i+1) s2.heap/\∀ b∈fp,H' b=none) E s1) E s
 done:∀ (X:Cx),X.prog=P->X.w=w->X.K=K->X.calm=true->∀ (i:Nat) (pins:List (Addr×Obj)) (s:Shared) (σ:St) (H:Hp) (E:Value->Shared->Prop),Inv X pins σ H s->(∀ b∈fp,jL X pins H b)->tn i s.heap->J.stop i H ->
  wpAny (model P w) X.A (pyNext (.ref it)) (fun r s1=>r=none/\Inv X pins σ H s1) E s
 self:∀ (A:Around) (i:Nat) (s:Shared) (Q:Value->Shared->Prop) (E:Value->Shared->Prop),tn i s.heap->Q (.ref it) s->wpAny (model P w) A (pyIter (.ref it)) Q E s
abbrev TI:=St->Hp->(It->Hp->Prop)->Prop
def PIE(X:Cx)(pins:List (Addr×Obj))(σ:St)(tg:Expr)(R:It->Hp->Prop)(itv:Value)(s2:Shared):Prop:=
 ∃ (it:Addr) (fp:List Addr) (tn:Nat->Heap->Prop) (J:It) (H':Hp),itv=.ref it/\Inv X pins σ H' s2/\xj X.prog X.w X.K tg J fp it tn/\tn 0 s2.heap/\(∀ b∈fp,jL X pins H' b)/\R J H'
def PI(X:Cx)(tg iter:Expr)(wi:TI):Prop:=
 ∀ (pins:List (Addr×Obj)) (s:Shared) (σ:St) (H:Hp) (R:It->Hp->Prop),Inv X pins σ H s->wi σ H R ->
  wpAny (model X.prog X.w) X.A (eval iter X.env) (fun v s1=>wpAny (model X.prog X.w) X.A (pyIter v) (PIE X pins σ tg R) X.xe s1) X.xe s
def vU{M:Model}{A:Around}{E:Value->Shared->Prop}{s:Shared}{tg:Expr}{it:Addr}{u:Value}{o:Obj}{n:String}{vs:Array Value}{Q:Unit->Shared->Prop}(ho:s.heap.get? it=some o)(hc:o.cls=.type n)(hd:o.data=.fields vs)
  (hn:["enumerate","zip","dict_itemiterator","dict_reverseitemiterator","odict_iterator","itertools.zip_longest","itertools.pairwise"].contains n=false) (hQ:Q () s):wpAny M A (letOwnedTupleGo tg (.ref it) u) Q E s:=by
 unfold letOwnedTupleGo
 cases tg <;> first
  | exact DN hQ
  | (cases u <;> first
    | exact DN hQ
    | (refine DD (wpAny_load ho ?_); rw [hc,hd]; show wpAny M A (if (["enumerate","zip","dict_itemiterator","dict_reverseitemiterator","odict_iterator","itertools.zip_longest","itertools.pairwise"].contains n&&vs[0]? == some (rawInt _))=true then _ else _) Q E s; rw [Eh (by intro h;rw [hn,FX] at h;cases h)]; exact DN hQ))
noncomputable def Itl(K:W.Frag)(a:Addr):It:=
 ⟨fun i H=>∃ xs x,fK K H a xs/\xs[i]?=some x,fun i H x H'=>H'=H/\∀ xs,fK K H a xs->xs[i]?=some x,fun i H=>∃ xs,fK K H a xs/\xs.length<=i⟩
noncomputable def Itt(K:W.Frag)(a:Addr):It:=
 ⟨fun i H=>∃ xs x,hJ K H a xs/\xs[i]?=some x,fun i H x H'=>H'=H/\∀ xs,hJ K H a xs->xs[i]?=some x,fun i H=>∃ xs,hJ K H a xs/\xs.length<=i⟩
noncomputable def Itr(lo:Int)(n:Nat):It:=⟨fun i _=>i<n,fun i H x H'=>H'=H/\x=.int (lo+i),fun i _=>n<=i⟩
def kr{P:Program}{w:World}{K:W.Frag}{tg:Expr}(a it:Addr):xj P w K tg (Itl K a) [it] it (fun i h=>h.IsListIter it a i) where
 mem:=by simp
 obj:=fun i h st b hb=>by
  have e:b=it:=by simpa using hb
  subst e
  obtain⟨o,e,c,d⟩:=st
  exact⟨o,e,fun v z=>by rw [d] at z;cases z⟩
 keep:=fun i h h' st k=>st.at fun o e=>k it (by simp) o e
 item:=by
  intro X hP hw hK hc i pins s σ H E I hf st hg
  subst hP hw hK
  obtain⟨xs,x,hq,hx⟩:=hg
  obtain⟨its,rv,p,hz⟩:=I.list hq
  obtain⟨u,hu,ru⟩:=rv.get hx
  obtain⟨f0,f1,f2,f3,f4,f5⟩:=hf it (by simp)
  refine wpAny_pyNext_list_item st p.isList (x:=u) (by simpa using hu) fun h' st' sb=>?_
  have I1:Inv X pins σ H { s with heap:=h' }:=I.turned (t':=s.toks) (fun b o hb e=>(sb.2 b hb).trans e) f0 f1 f3 f4 f5
  obtain⟨o,e,c,d⟩:=id st'
  exact⟨u,rfl,vU (s:={ s with heap:=h' }) e c d (by decide) ⟨x,H,I1,ru,⟨rfl,fun ys hy=>by rw [I.list_inj hy hq];exact hx⟩,st',fun b hb=>(hf b hb).1⟩⟩
 done:=by
  intro X hP hw hK hc i pins s σ H E I hf st hg
  subst hP hw hK
  obtain⟨xs,hq,hx⟩:=hg
  obtain⟨its,rv,p,hz⟩:=I.list hq
  obtain⟨f0,f1,f2,f3,f4,f5⟩:=hf it (by simp)
  have hl:=rv.length
  exact wpAny_pyNext_list_end (I.ok.hd hc) st p.isList (by simp;omega) fun h' eb=>⟨rfl,I.turned (t':=s.toks) (fun b o hb e=>eb b o hb e) f0 f1 f3 f4 f5⟩
 self:=fun _ _ _ _ _ st h=>wpAny_pyIter_listiter st h
def pg{P:Program}{w:World}{K:W.Frag}{tg:Expr}(a it:Addr):xj P w K tg (Itt K a) [it] it (fun i h=>h.IsTupleIter it a i) where
 mem:=by simp
 obj:=fun i h st b hb=>by
  have e:b=it:=by simpa using hb
  subst e
  obtain⟨o,e,c,d⟩:=st
  exact⟨o,e,fun v z=>by rw [d] at z;cases z⟩
 keep:=fun i h h' st k=>st.at fun o e=>k it (by simp) o e
 item:=by
  intro X hP hw hK hc i pins s σ H E I hf st hg
  subst hP hw hK
  obtain⟨xs,x,hq,hx⟩:=hg
  obtain⟨its,rv,p,hz⟩:=I.tuple hq
  obtain⟨u,hu,ru⟩:=rv.get hx
  obtain⟨f0,f1,f2,f3,f4,f5⟩:=hf it (by simp)
  refine wpAny_pyNext_tuple_item st (show s.heap.IsTuple a its.toArray from p) (x:=u) (by simpa using hu) fun h' st' sb=>?_
  have I1:Inv X pins σ H { s with heap:=h' }:=I.turned (t':=s.toks) (fun b o hb e=>(sb.2 b hb).trans e) f0 f1 f3 f4 f5
  obtain⟨o,e,c,d⟩:=id st'
  exact⟨u,rfl,vU (s:={ s with heap:=h' }) e c d (by decide) ⟨x,H,I1,ru,⟨rfl,fun ys hy=>by rw [I.tuple_inj hy hq];exact hx⟩,st',fun b hb=>(hf b hb).1⟩⟩
 done:=by
  intro X hP hw hK hc i pins s σ H E I hf st hg
  subst hP hw hK
  obtain⟨xs,hq,hx⟩:=hg
  obtain⟨its,rv,p,hz⟩:=I.tuple hq
  obtain⟨f0,f1,f2,f3,f4,f5⟩:=hf it (by simp)
  have hl:=rv.length
  exact wpAny_pyNext_tuple_end (I.ok.hd hc) st (show s.heap.IsTuple a its.toArray from p) (by simp;omega) fun h' eb=>⟨rfl,I.turned (t':=s.toks) (fun b o hb e=>eb b o hb e) f0 f1 f3 f4 f5⟩
 self:=fun _ _ _ _ _ st h=>wpAny_pyIter_tupleiter st h
def ph{P:Program}{w:World}{K:W.Frag}{tg:Expr}(it:Addr)(lo:Int)(n:Nat):xj P w K tg (Itr lo n) [it] it (fun i h=>IsRangeIter h it (lo+(i:Nat) * 1) ((n:Int) - (i:Nat)) 1) where
 mem:=by simp
 obj:=fun i h st b hb=>by
  have e:b=it:=by simpa using hb
  subst e
  exact⟨_,st,fun v z=>by
   have z':Data.fields _=Data.cell v:=z
   cases z'⟩
 keep:=fun i h h' st k=>k it (by simp) _ st
 item:=by
  intro X hP hw hK hc i pins s σ H E I hf st hg
  subst hP hw hK
  obtain⟨f0,f1,f2,f3,f4,f5⟩:=hf it (by simp)
  have W:=Walks.range (prog:=X.prog) (w:=X.w) (I.ok.hd hc) it lo 1 n
  refine W.item i s _ _ hg st fun v h' tk hv st' kk=>?_
  obtain⟨t,rfl⟩:=hv
  have I1:Inv X pins σ H { s with heap:=h',toks:=tk }:=I.turned (fun b o hb e=>kk b o (by simpa using hb) e) f0 f1 f3 f4 f5
  refine⟨_,rfl,vU (s:={ s with heap:=h',toks:=tk }) (n:="range_iterator") st' rfl rfl (by decide) ⟨.int (lo+i),H,I1,⟨t,?_⟩,⟨rfl,rfl⟩,st',fun b hb=>(hf b hb).1⟩⟩
  rw [Int.mul_one]
 done:=by
  intro X hP hw hK hc i pins s σ H E I hf st hg
  subst hP hw hK
  obtain⟨f0,f1,f2,f3,f4,f5⟩:=hf it (by simp)
  exact wpAny_pyNext_range_end (I.ok.hd hc) st (by have:n<=i:=hg;omega) fun h' eb=>⟨rfl,I.turned (t':=s.toks) (fun b o hb e=>eb b o hb e) f0 f1 f3 f4 f5⟩
 self:=fun _ _ _ _ _ st h=>wpAny_pyIter_rangeiter st h
section
variable{X:Cx}{tg:Expr}
def iList(K:W.Frag)(tl:TE):TI:=fun σ H R=>tl σ H fun x H1=>∃ a,x=.ref a/\(∃ xs,fK K H1 a xs)/\R (Itl K a) H1
def xR{l:Expr}{tl:TE}(hl:PE X l tl):PI X tg l (iList X.K tl):=by
 intro pins s σ H R I h
 refine bj (hl pins s σ H _ I h) fun v s1 ⟨x,H1,I1,r1,q1⟩=>?_
 obtain⟨a,e,⟨xs,hq⟩,q⟩:=q1
 subst e
 cases r1
 obtain⟨its,rv,p,hz⟩:=I1.list hq
 refine FD p.isList ?_
 refine⟨s1.heap.objs.size,[s1.heap.objs.size],_,_,H1,rfl,I1.kept (t':=s1.toks) fun b o e=>DJ _ e,kr a _,⟨_,DY _ rfl,rfl,rfl⟩,fun b hb=>?_,q⟩
 have e:b=s1.heap.objs.size:=by simpa using hb
 subst e
 exact I1.fpOk (DK _) (I1.hok.fresh (DK _))
def np{pins:List (Addr×Obj)}{σ:St}{H:Hp}{s:Shared}{R:It->Hp->Prop}{E:Value->Shared->Prop}{lo hi:Int}{t u v:Tok}{tk:Nat}(I:Inv X pins σ H s)(h1:-(2 ^ 62)<=lo)(h2:lo<2 ^ 62)(h3:-(2 ^ 62)<=hi)(h4:hi<2 ^ 62)
  (q:R (Itr lo (hi - lo).toNat) H):wpAny (model X.prog X.w) X.A (pyIter (.ref s.heap.objs.size)) (PIE X pins σ tg R) E { s with heap:=s.heap.push { cls:=.type "range",data:=.fields #[.int lo t,.int hi u,.int 1 v] },toks:=tk }:=by
 refine wpAny_pyIter_range (IsRange.new ..) (small_one h1 h2 h3 h4) ?_
 have I1:Inv X pins σ H { s with heap:=s.heap.push { cls:=.type "range",data:=.fields #[.int lo t,.int hi u,.int 1 v] },toks:=tk }:=I.kept fun b o e=>DJ _ e
 refine⟨(s.heap.push { cls:=.type "range",data:=.fields #[.int lo t,.int hi u,.int 1 v] }).objs.size,[(s.heap.push { cls:=.type "range",data:=.fields #[.int lo t,.int hi u,.int 1 v] }).objs.size],_,_,H,rfl,
  I1.kept (t':=tk) fun b o e=>DJ _ e,ph _ lo (hi - lo).toNat,?_,fun b hb=>?_,q⟩
 ·have e1:lo+((0:Nat):Int) * 1=lo:=by simp
  have e2:(((hi - lo).toNat:Nat):Int) - ((0:Nat):Int)=Builtin.Range.rangeSize lo hi 1:=by rw [rangeSize_one];split <;> omega
  show IsRangeIter _ _ (lo+((0:Nat):Int) * 1) ((((hi - lo).toNat:Nat):Int) - ((0:Nat):Int)) 1
  rw [e1,e2]
  exact DY _ rfl
 ·have e:b=(s.heap.push { cls:=.type "range",data:=.fields #[.int lo t,.int hi u,.int 1 v] }).objs.size:=by simpa using hb
  subst e
  exact I1.fpOk (DK _) (I1.hok.fresh (DK _))
def iRng1(ta:TA):TI:=fun σ H R=>ta σ H fun vs H1=>∃ j:Int,vs=[.int j]/\-(2 ^ 62)<=j/\j<2 ^ 62/\R (Itr 0 j.toNat) H1
def iRng2(ta:TA):TI:=fun σ H R=>ta σ H fun vs H1=>∃ i j:Int,vs=[.int i,.int j]/\(-(2 ^ 62)<=i/\i<2 ^ 62/\-(2 ^ 62)<=j/\j<2 ^ 62)/\R (Itr i (j - i).toNat) H1
def sA{a:Expr}{ta:TA}{p pos:Pos}(hg:Gl X "range")(hm:X.mg "range" = none)(ha:PA X [a] ta)(hs:starEach [a] X.env=[(false,eval a X.env)]:=by rfl):PI X tg (.Call (.Name "range" p) [a] [] pos) (iRng1 ta):=by
 intro pins s σ H R I h
 refine Call_ (jl I hg hm boot_range (Fa (bj (ha pos pins s σ H _ I h) fun us s1 ⟨vs,H1,I1,r1,q1⟩=>?_) hs rfl))
 obtain⟨j,e,q1,q2,q⟩:=q1
 subst e
 cases r1 with
 | cons r rr=>
  cases rr
  obtain⟨t,rfl⟩:=r
  exact call_range_1 (np I1 (by omega) (by omega) q1 q2 (by simpa using q))
def sy{a b:Expr}{ta:TA}{p pos:Pos}(hg:Gl X "range")(hm:X.mg "range" = none)(ha:PA X [a,b] ta)(hs:starEach [a,b] X.env=[(false,eval a X.env),(false,eval b X.env)]:=by rfl)(hs2:starEach [b] X.env=[(false,eval b X.env)]:=by rfl) :
  PI X tg (.Call (.Name "range" p) [a,b] [] pos) (iRng2 ta):=by
 intro pins s σ H R I h
 refine Call_ (jl I hg hm boot_range (Fa (bj (ha pos pins s σ H _ I h) fun us s1 ⟨vs,H1,I1,r1,q1⟩=>?_) (by rw [hs,hs2]) (by rw [hs2];rfl)))
 obtain⟨i,j,e,⟨q1,q2,q3,q4⟩,q⟩:=q1
 subst e
 cases r1 with
 | cons r rr=>
  cases rr with
  | cons r' rr=>
   cases rr
   obtain⟨t,rfl⟩:=r
   obtain⟨t',rfl⟩:=r'
   exact call_range_2 (np I1 q1 q2 q3 q4 q)
def tFor(wi:TI)(g:TG)(tb:TS):TS:=fun D σ H=>wi σ H fun J H1=>∃ W:Nat->Nat->St->Hp->Prop,(∃ m,W 0 m σ H1)/\∀ i m σ H,W i m σ H ->
 (J.stop i H/\D.nx σ H)\/(J.go i H/\∃ N:St->Hp->Prop,(∀ σ' H',N σ' H'->∃ m',m'<m/\W (i+1) m' σ' H')/\∀ x H',J.yld i H x H'->g x σ H' fun σ2 H2=>tb { D with nx:=N,ct:=N,bk:=D.nx } σ2 H2)
noncomputable def iP(fp:List Addr)(h:Heap):List (Addr×Obj):=fp.filterMap fun b=>(h.get? b).map fun o=>(b,o)
def dY{fp:List Addr}{h:Heap}{b:Addr}{o:Obj}(hb:b∈fp)(e:h.get? b=some o):(b,o)∈iP fp h:=GE.mpr ⟨b,hb,by rw [e];rfl⟩
def sD{fp:List Addr}{h:Heap}{p:Addr×Obj}(hp:p∈iP fp h):p.1∈fp/\h.get? p.1=some p.2:=by
 obtain⟨b,hb,e⟩:=GE.mp hp
 cases q:h.get? b with
 | none=>rw [q] at e;cases e
 | some o=>
  rw [q] at e
  have e':(b,o)=p:=Ek e
  subst e'
  exact⟨hb,q⟩
def Inv.pinned{pins:List (Addr×Obj)}{σ:St}{H:Hp}{s:Shared}{fp:List Addr}(I:Inv X pins σ H s)(hf:∀ b∈fp,jL X pins H b)(ho:∀ b∈fp,∃ o,s.heap.get? b=some o/\∀ v,o.data≠.cell v):Inv X (pins++iP fp s.heap) σ H s:=
 I.pins_of fun p hp=>(DX.mp hp).elim (fun z=>I.pin p (Ee _ z)) fun z=>by
  obtain⟨hb,e⟩:=sD z
  obtain⟨f0,f1,f2,_⟩:=hf p.1 hb
  obtain⟨o,e',d⟩:=ho p.1 hb
  rw [e] at e';cases e'
  exact⟨e,f0,f1,f2,d⟩
def Inv.unpinned{pins pl:List (Addr×Obj)}{σ:St}{H:Hp}{s:Shared}(I:Inv X (pins++pl) σ H s):Inv X pins σ H s:=I.pins_of fun p hp=>I.pin p (Ee _ (DV _ hp))
def uE{iter:Expr}{body:List Stmt}{wi:TI}{g:TG}{tb:TS}{pos:Pos}(hp:PassesOwn (model X.prog X.w) X.A X.env X.xe)(hc:X.calm=true)(hi:PI X tg iter wi)(hg:PG X tg g)(hb:PSs X body tb)
  (hs:∀ x,foldedSetIterable iter X.env x=pure x:=by intro _;rfl):PS X (.For tg iter body [] pos) (tFor wi g tb):=by
 intro pins s σ H D I h
 refine wpAny_For (bj (hi pins s σ H _ I h) fun v s1 h1=>bj h1 fun itv s2 h2=>?_) hs
 obtain⟨it,fp,tn,J,H2,e,I2,T,st2,f2,W,⟨m0,w0⟩,turn⟩:=h2
 subst e
 have stat:∀ {H':Hp},(∀ b∈fp,H' b=none)->∀ b∈fp,jL X pins H' b:=fun hn b hb=>⟨hn b hb,(f2 b hb).2⟩
 refine codeAny_forLoop_any (fun n s'=>∃ i σ' H',Inv X pins σ' H' s'/\tn i s'.heap/\(∀ b∈fp,H' b=none)/\W i n σ' H') ?_ m0 ⟨0,σ,H2,I2,st2,fun b hb=>(f2 b hb).1,w0⟩
 rintro n s3 ⟨i,σ3,H3,I3,st3,fr3,w3⟩
 rcases turn i n σ3 H3 w3 with ⟨stop,qn⟩ | ⟨go,N,hN,step⟩
 ·refine EZ hp (bj (T.done X rfl rfl rfl hc i pins s3 σ3 H3 X.xe I3 (stat fr3) st3 stop) fun r s4 ⟨hr,I4⟩=>?_)
  subst hr
  exact FP ⟨σ3,H3,I4,qn⟩
 ·refine EZ hp (bj (T.item X rfl rfl rfl hc i pins s3 σ3 H3 X.xe I3 (stat fr3) st3 go) fun r s4 ⟨u,hr,h4⟩=>?_)
  subst hr
  refine EZ hp (bj h4 fun _ s5 ⟨x,H5,I5,r5,y5,st5,fr5⟩=>?_)
  have I5':=I5.pinned (stat fr5) (T.obj _ _ st5)
  refine EZ hp (bj (hg _ s5 σ3 H5 x u _ I5' r5 (step x H5 y5)) fun _ s6 ⟨σ6,H6,I6,q6⟩=>?_)
  refine EZ hp (bj (hb _ s6 σ6 H6 _ I6 q6) fun f s7 q7=>?_)
  have again:∀ {σ7:St} {H7:Hp},Inv X (pins++iP fp s5.heap) σ7 H7 s7->N σ7 H7->∃ m,m<n/\∃ i σ' H',Inv X pins σ' H' s7/\tn i s7.heap/\(∀ b∈fp,H' b=none)/\W i m σ' H':=fun {σ7 H7} I7 n7=>by
   obtain⟨m',hm,w7⟩:=hN σ7 H7 n7
   refine⟨m',hm,i+1,σ7,H7,I7.unpinned,T.keep _ _ _ st5 fun b hb o e=>(I7.pin (b,o) (Ee _ (Ee _ (dY hb e)))).1,fun b hb=>?_,w7⟩
   obtain⟨o,e,d⟩:=T.obj _ _ st5 b hb
   exact(I7.pin (b,o) (Ee _ (Ee _ (dY hb e)))).2.1
  cases f with
  | next=>obtain⟨σ7,H7,I7,n7⟩:=q7;exact again I7 n7
  | cont=>obtain⟨σ7,H7,I7,n7⟩:=q7;exact again I7 n7
  | brk=>obtain⟨σ7,H7,I7,q7⟩:=q7;exact⟨σ7,H7,I7.unpinned,q7⟩
  | ret v=>obtain⟨x7,σ7,H7,I7,r7,q7⟩:=q7;exact⟨x7,σ7,H7,I7.unpinned,r7,q7⟩
end
abbrev R2:=V->V->Hp->VK->Prop
def OpR(X:Cx)(f:Value->Value->Sem Value)(r:R2):Prop:=
 ∀ (pins:List (Addr×Obj)) (s:Shared) (σ:St) (H:Hp) (x y:V) (v u:Value) (Q:VK),Inv X pins σ H s->RelV x v->RelV y u->r x y H Q ->
  wpAny (model X.prog X.w) X.A (f v u) (EP X pins σ Q) X.xe s
def UnR(X:Cx)(f:Value->Sem Value)(r:V->Hp->VK->Prop):Prop:=
 ∀ (pins:List (Addr×Obj)) (s:Shared) (σ:St) (H:Hp) (x:V) (v:Value) (Q:VK),Inv X pins σ H s->RelV x v->r x H Q ->
  wpAny (model X.prog X.w) X.A (f v) (EP X pins σ Q) X.xe s
def CallR(X:Cx)(f:Value)(r:List V->Hp->VK->Prop):Prop:=
 ∀ (pins:List (Addr×Obj)) (s:Shared) (σ:St) (H:Hp) (xs:List V) (us:List Value) (Q:VK),Inv X pins σ H s->Vals xs us->r xs H Q ->
  wpAny (model X.prog X.w) X.A (call f us) (EP X pins σ Q) X.xe s
def TruR(X:Cx)(r:V->Hp->(Bool->Hp->Prop)->Prop):Prop:=
 ∀ (pins:List (Addr×Obj)) (s:Shared) (σ:St) (H:Hp) (x:V) (v:Value) (Q:Bool->Hp->Prop),Inv X pins σ H s->RelV x v->r x H Q ->
  wpAny (model X.prog X.w) X.A (truthy v) (TP X pins σ Q) X.xe s
def tOp(r:R2)(ta tb:TE):TE:=fun σ H Q=>ta σ H fun x H1=>tb σ H1 fun y H2=>r x y H2 Q
def tUn(r:V->Hp->VK->Prop)(ta:TE):TE:=fun σ H Q=>ta σ H fun x H1=>r x H1 Q
noncomputable def rI(C:Int->Int->Prop)(g:Int->Int->V):R2:=fun x y H Q=>∃ i j,x=.int i/\y=.int j/\C i j/\Q (g i j) H
noncomputable def xE(g:Int->Int->V):R2:=fun x y H Q=>∃ i j,x=.int i/\y=.int j/\Q (g i j) H
def rU(g:Int->V):V->Hp->VK->Prop:=fun x H Q=>∃ i,x=.int i/\Q (g i) H
section
variable{X:Cx}{a b c:Expr}{ta tb tc:TE}{pos:Pos}
def Dl(ha:PE X a ta)(hb:PE X b tb){pins:List (Addr×Obj)}{s:Shared}{σ:St}{H:Hp}{R:V->V->Hp->Prop}(I:Inv X pins σ H s)
  (h:ta σ H fun x H1=>tb σ H1 fun y H2=>R x y H2) {Q:Value->Shared->Prop} {f:Value->Value->Sem Value}
  (hf:∀ v u s2 x y H2,Inv X pins σ H2 s2->RelV x v->RelV y u->R x y H2->wpAny (model X.prog X.w) X.A (f v u) Q X.xe s2) :
  wpAny (model X.prog X.w) X.A (eval a X.env) (fun v s₁=>wpAny (model X.prog X.w) X.A (eval b X.env) (fun u s₂=>wpAny (model X.prog X.w) X.A (f v u) Q X.xe s₂) X.xe s₁) X.xe s:=by
 refine bj (ha pins s σ H _ I h) fun v s1 ⟨x,H1,I1,r1,q1⟩=>?_
 refine bj (hb pins s1 σ H1 _ I1 q1) fun u s2 ⟨y,H2,I2,r2,q2⟩=>?_
 exact hf v u s2 x y H2 I2 r1 r2 q2
def pe_op{op:Operator}{r:R2}(ho:OpR X (binaryOp op) r)(ha:PE X a ta)(hb:PE X b tb):PE X (.BinOp a op b pos) (tOp r ta tb):=by
 intro pins s σ H Q I h
 exact wpAny_BinOp (Dl ha hb I h fun v u s2 x y H2 I2 rx ry q=>ho pins s2 σ H2 x y v u Q I2 rx ry q)
def pe_un{op:UnaryOp}{r:V->Hp->VK->Prop}(ho:UnR X (unaryOp op) r)(ha:PE X a ta):PE X (.UnaryOp op a pos) (tUn r ta):=by
 intro pins s σ H Q I h
 exact UnaryOp_ (bj (ha pins s σ H _ I h) fun v s1 ⟨x,H1,I1,r1,q1⟩=>ho pins s1 σ H1 x v Q I1 r1 q1)
def opI{f:Value->Value->Sem Value}{C:Int->Int->Prop}{g:Int->Int->Int}
  (rule:∀ (i j:Int) (t u:Tok) (s:Shared) (Q:Value->Shared->Prop) (E:Value->Shared->Prop),C i j->Q (.int (g i j) s.toks) { s with toks:=s.toks+1 }->wpAny (model X.prog X.w) X.A (f (.int i t) (.int j u)) Q E s) :
  OpR X f (rI C fun i j=>.int (g i j)):=by
 intro pins s σ H x y v u Q I rx ry h
 obtain⟨i,j,rfl,rfl,hc,q⟩:=h
 obtain⟨t,rfl⟩:=rx
 obtain⟨t',rfl⟩:=ry
 exact rule i j t t' s _ _ hc ⟨.int (g i j),H,I.tok _,⟨_,rfl⟩,q⟩
def opI0{f:Value->Value->Sem Value}{g:Int->Int->Int}
  (rule:∀ (i j:Int) (t u:Tok) (s:Shared) (Q:Value->Shared->Prop) (E:Value->Shared->Prop),Q (.int (g i j) s.toks) { s with toks:=s.toks+1 }->wpAny (model X.prog X.w) X.A (f (.int i t) (.int j u)) Q E s) :
  OpR X f (xE fun i j=>.int (g i j)):=by
 intro pins s σ H x y v u Q I rx ry h
 obtain⟨i,j,rfl,rfl,q⟩:=h
 obtain⟨t,rfl⟩:=rx
 obtain⟨t',rfl⟩:=ry
 exact rule i j t t' s _ _ ⟨.int (g i j),H,I.tok _,⟨_,rfl⟩,q⟩
def yi{f:Value->Value->Sem Value}{g:Int->Int->Bool}
  (rule:∀ (i j:Int) (t u:Tok) (s:Shared) (Q:Value->Shared->Prop) (E:Value->Shared->Prop),Q (.bool (g i j)) s->wpAny (model X.prog X.w) X.A (f (.int i t) (.int j u)) Q E s) :
  OpR X f (xE fun i j=>.bl (g i j)):=by
 intro pins s σ H x y v u Q I rx ry h
 obtain⟨i,j,rfl,rfl,q⟩:=h
 obtain⟨t,rfl⟩:=rx
 obtain⟨t',rfl⟩:=ry
 exact rule i j t t' s _ _ ⟨.bl (g i j),H,I,rfl,q⟩
def CDiv(i j:Int):Prop:=0<j/\j<1073741824
def CPow(i j:Int):Prop:=0<=j/\j<=1000000/\i.natAbs<2 ^ 64
def Bn:OpR X (binaryOp .Add) (xE fun i j=>.int (i+j)):=opI0 fun _ _ _ _ _ _ _ q=>add_int q
def Bj:OpR X (binaryOp .Sub) (xE fun i j=>.int (i - j)):=opI0 fun _ _ _ _ _ _ _ q=>sub_int q
def ye:OpR X (binaryOp .FloorDiv) (rI CDiv fun i j=>.int (i / j)):=opI fun i j _ _ _ _ _ hc q=>by
 have h1:(0:Int)<j:=hc.1
 have h2:j<1073741824:=hc.2
 exact floordiv_int (by omega) (by rw [Int.fdiv_eq_ediv_of_nonneg i (by omega)];exact q) (.inl (PyProof.noPylong_small (by omega)))
def Bm:OpR X (binaryOp .Mod) (rI (fun _ j=>0<j) fun i j=>.int (i % j)):=opI fun i j _ _ _ _ _ hc q=>by
 have h1:(0:Int)<j:=hc
 exact mod_int' (by omega) (by rw [Int.fmod_eq_emod_of_nonneg i (by omega)];exact q)
def Bl:OpR X (binaryOp .Pow) (rI CPow fun i j=>.int (i ^ j.toNat)):=opI fun _ _ _ _ _ _ _ hc q=>pow_int_small hc.1 hc.2.1 hc.2.2 q
def unI{f:Value->Sem Value}{g:Int->Int}
  (rule:∀ (i:Int) (t:Tok) (s:Shared) (Q:Value->Shared->Prop) (E:Value->Shared->Prop),Q (.int (g i) s.toks) { s with toks:=s.toks+1 }->wpAny (model X.prog X.w) X.A (f (.int i t)) Q E s) :
  UnR X f (rU fun i=>.int (g i)):=by
 intro pins s σ H x v Q I rx h
 obtain⟨i,rfl,q⟩:=h
 obtain⟨t,rfl⟩:=rx
 exact rule i t s _ _ ⟨.int (g i),H,I.tok _,⟨_,rfl⟩,q⟩
def Av:UnR X (unaryOp .USub) (rU fun i=>.int (-i)):=unI fun _ _ _ _ _ q=>neg_int q
end
section
variable{X:Cx}{a b c:Expr}{ta tb tc:TE}{pos:Pos}
def op_lt:OpR X (compareOp .Lt) (xE fun i j=>.bl (decide (i<j))):=yi fun _ _ _ _ _ _ _ q=>lt_int q
def op_le:OpR X (compareOp .LtE) (xE fun i j=>.bl (decide (i<=j))):=yi fun _ _ _ _ _ _ _ q=>le_int q
def op_gt:OpR X (compareOp .Gt) (xE fun i j=>.bl (decide (j<i))):=yi fun _ _ _ _ _ _ _ q=>gt_int q
def op_ge:OpR X (compareOp .GtE) (xE fun i j=>.bl (decide (j<=i))):=yi fun _ _ _ _ _ _ _ q=>ge_int q
def OpR.or{f:Value->Value->Sem Value}{r r':R2}(h:OpR X f r)(h':OpR X f r'):OpR X f (fun x y H Q=>r x y H Q\/r' x y H Q):=by
 intro pins s σ H x y v u Q I rx ry q
 rcases q with q | q
 ·exact h pins s σ H x y v u Q I rx ry q
 ·exact h' pins s σ H x y v u Q I rx ry q
def xW{op:CmpOp}{r:R2}(ho:OpR X (compareOp op) r)(ha:PE X a ta)(hb:PE X b tb)(hm:behindInMarks op b=false):PE X (.Compare a [op] [b] pos) (tOp r ta tb):=by
 intro pins s σ H Q I h
 exact wpAny_Compare1 (Dl ha hb I h fun v u s2 x y H2 I2 rx ry q=>ho pins s2 σ H2 x y v u Q I2 rx ry q) hm
def zL(t:TE):TT:=fun σ H Q=>t σ H fun x H'=>∃ k,x=.bl k/\Q k H'
def xK{op:CmpOp}{r:R2}(ho:OpR X (compareOp op) r)(ha:PE X a ta)(hb:PE X b tb)(hm:behindInMarks op b=false):PT X (.Compare a [op] [b] pos) (zL (tOp r ta tb)):=by
 intro pins s σ H Q I h
 refine wpAny_isTrue_Compare1 (bj (ha pins s σ H _ I h) fun v s1 ⟨x,H1,I1,r1,q1⟩=>bj (hb pins s1 σ H1 _ I1 q1) fun u s2 ⟨y,H2,I2,r2,q2⟩=>
  bj (ho pins s2 σ H2 x y v u _ I2 r1 r2 q2) fun c s3 ⟨z,H3,I3,r3,k,e,q3⟩=>?_) hm
 subst e
 cases r3
 exact EJ ⟨H3,I3,q3⟩
def pj(r r':R2)(ta tb tc:TE):TE:=fun σ H Q=>ta σ H fun x H1=>tb σ H1 fun y H2=>r x y H2 fun z H3=>∃ k,z=.bl k /\
 (if k=true then tc σ H3 fun w' H4=>r' y w' H4 Q else Q (.bl false) H3)
def uP{op op':CmpOp}{r r':R2}(ho:OpR X (compareOp op) r)(ho':OpR X (compareOp op') r')(ha:PE X a ta)(hb:PE X b tb)(hc:PE X c tc)
  (hm:lastMarks [op,op'] [b,c]=false:=by with_unfolding_all rfl):PE X (.Compare a [op,op'] [b,c] pos) (pj r r' ta tb tc):=by
 intro pins s σ H Q I h
 refine Compare_chain (bj (ha pins s σ H _ I h) fun v s1 ⟨x,H1,I1,r1,q1⟩=>chain_link (bj (hb pins s1 σ H1 _ I1 q1) fun u s2 ⟨y,H2,I2,r2,q2⟩=>
  bj (ho pins s2 σ H2 x y v u _ I2 r1 r2 q2) fun d s3 ⟨z,H3,I3,r3,k,e,q3⟩=>?_)) hm
 subst e
 cases r3
 refine EJ ?_
 cases k with
 | false=>exact ite_ff ⟨.bl false,H3,I3,rfl,q3⟩
 | true=>exact ite_tt (chain_last (bj (hc pins s3 σ H3 _ I3 q3) fun w' s4 ⟨z',H4,I4,r4,q4⟩=>ho' pins s4 σ H4 y z' u w' Q I4 r2 r4 q4))
def uB{op op':CmpOp}{r r':R2}(ho:OpR X (compareOp op) r)(ho':OpR X (compareOp op') r')(ha:PE X a ta)(hb:PE X b tb)(hc:PE X c tc)
  (hm:lastMarks [op,op'] [b,c]=false:=by with_unfolding_all rfl):PT X (.Compare a [op,op'] [b,c] pos) (zL (pj r r' ta tb tc)):=by
 intro pins s σ H Q I h
 refine isTrue_chain (bj (ha pins s σ H _ I h) fun v s1 ⟨x,H1,I1,r1,q1⟩=>test_link (bj (hb pins s1 σ H1 _ I1 q1) fun u s2 ⟨y,H2,I2,r2,q2⟩=>
  bj (ho pins s2 σ H2 x y v u _ I2 r1 r2 q2) fun d s3 ⟨z,H3,I3,r3,k,e,q3⟩=>?_)) hm
 subst e
 cases r3
 refine EJ ?_
 cases k with
 | false=>
  obtain⟨k',e',q'⟩:=q3
  cases e'
  exact ite_ff ⟨H3,I3,q'⟩
 | true=>
  refine ite_tt (test_last (bj (hc pins s3 σ H3 _ I3 q3) fun w' s4 ⟨z',H4,I4,r4,q4⟩=>bj (ho' pins s4 σ H4 y z' u w' _ I4 r2 r4 q4) fun d' s5 ⟨z2,H5,I5,r5,k2,e2,q5⟩=>?_))
  subst e2
  cases r5
  exact EJ ⟨H5,I5,q5⟩
def tY(K:W.Frag)(x:V)(H:Hp)(k:Bool):Prop:=
 match x with
 | .non=>k=false
 | .bl b=>k=b
 | .int i=>k=(i != 0)
 | .str y=>y.length<=sizeLine/\k=((y.length:Int) != 0)
 | .byt y=>y.size<=sizeLine/\k=((y.size:Int) != 0)
 | .ref p=>(∃ xs,fK K H p xs/\k = !xs.isEmpty)\/(∃ xs,hJ K H p xs/\k = !xs.isEmpty)\/∃ kvs,H p=some (.dK kvs)/\k = !kvs.isEmpty
 | _=>False
def qf{κ:Type}{kvs:List (κ×V)}{vs:List (κ×Value)}(r:KV kvs vs):(!vs.isEmpty) = !kvs.isEmpty:=by
 cases r <;> rfl
def ju{xs:List V}{its:List Value}(r:Vals xs its):(!its.toArray.isEmpty) = !xs.isEmpty:=by
 cases r <;> simp
def gz:(sizeLine:Nat)<2 ^ 63:=by rw [Gx];decide
def lv:TruR X (fun x H Q=>∃ k,tY X.K x H k/\Q k H):=by
 intro pins s σ H x v Q I rx h
 obtain⟨k,e,q⟩:=h
 have hl:=gz
 have hs:sizeLine=16777216:=Gx
 cases x with
 | non=>
  cases rx
  have e':k=false:=e
  subst e'
  exact truthy_none ⟨H,I,q⟩
 | bl b=>
  cases rx
  have e':k=b:=e
  subst e'
  exact EJ ⟨H,I,q⟩
 | int i=>
  obtain⟨t,rfl⟩:=rx
  have e':k=(i != 0):=e
  subst e'
  exact PySem.P.truthy_int ⟨H,I,q⟩
 | str y=>
  obtain⟨t,rfl⟩:=rx
  obtain⟨hy,e'⟩:y.length<=sizeLine/\k=((y.length:Int) != 0):=e
  subst e'
  exact PySem.P.truthy_str (by omega) ⟨H,I.tok _,q⟩
 | byt y=>
  obtain⟨t,rfl⟩:=rx
  obtain⟨hy,e'⟩:y.size<=sizeLine/\k=((y.size:Int) != 0):=e
  subst e'
  exact W.truthy_bytes (by omega) ⟨H,I.tok _,q⟩
 | ref p=>
  cases rx
  have e':(∃ xs,fK X.K H p xs/\k = !xs.isEmpty)\/(∃ xs,hJ X.K H p xs/\k = !xs.isEmpty)\/∃ kvs,H p=some (.dK kvs)/\k = !kvs.isEmpty:=e
  rcases e' with ⟨xs,hx,e'⟩ | ⟨xs,hx,e'⟩ | ⟨kvs,hx,e'⟩
  ·subst e'
   obtain⟨its,r,pl,hz⟩:=I.list hx
   have hlen:=r.length
   exact wpAny_truthy_list pl.isList (by simp only [DB];omega) ⟨H,I.tok _,by rw [ju r];exact q⟩
  ·subst e'
   obtain⟨its,r,pl,hz⟩:=I.tuple hx
   have hlen:=r.length
   exact truthy_tuple pl (by simp only [DB];omega) ⟨H,I.tok _,by rw [ju r];exact q⟩
  ·subst e'
   obtain⟨hz,hS,vs,r,m⟩:kvs.length<=sizeLine/\(p == sysModules)=false/\∃ vs,KV kvs vs/\s.heap.DictOf (av X.prog X.w) p vs:=I.hok p _ hx
   have hlen:kvs.length=vs.length:=Paired.length r
   exact wpAny_truthy_dict hS m (by omega) ⟨H,I.tok _,by rw [qf r];exact q⟩
 | _=>exact(show False from e).elim
def uA(ha:PE X a ta)(he:∀ whole,isTrue a X.env whole=(do let v <- whole;standAt a.pos;holding [v] (truthy v))) :
  PT X a (fun σ H Q=>ta σ H fun x H'=>∃ k,tY X.K x H' k/\Q k H'):=by
 intro pins s σ H Q I h
 exact isTrue_plain (bj (ha pins s σ H _ I h) fun v s1 ⟨x,H1,I1,r1,q1⟩=>lv pins s1 σ H1 x v Q I1 r1 q1) (he _)
def pC:OpR X (binaryOp .Add) (fun x y H Q=>∃ i j,x=.str i/\y=.str j/\i.length+j.length<=sizeLine/\Q (.str (i++j)) H):=by
 intro pins s σ H x y v u Q I rx ry h
 obtain⟨i,j,rfl,rfl,hz,q⟩:=h
 obtain⟨t,rfl⟩:=rx
 obtain⟨t',rfl⟩:=ry
 exact add_str (fun t' tk=>⟨.str (i++j),H,I.tok _,⟨_,rfl⟩,q⟩) hz
def er{x:V}{us:List Value}(r:Vals [x] us):∃ u,us=[u]/\RelV x u:=by
 cases r with
 | cons r1 r2=>cases r2;exact⟨_,rfl,r1⟩
def ug{x y:V}{us:List Value}(r:Vals [x,y] us):∃ u w',us=[u,w']/\RelV x u/\RelV y w':=by
 cases r with
 | cons r1 r2=>
  cases r2 with
  | cons r3 r4=>cases r4;exact⟨_,_,rfl,r1,r3⟩
def tR(hc:X.calm=true):CallR X (.builtin "max") (fun xs H Q=>∃ i j,xs=[.int i,.int j]/\Q (.int (if j>i then j else i)) H):=by
 intro pins s σ H xs us Q I r h
 obtain⟨i,j,rfl,q⟩:=h
 obtain⟨u,w',rfl,⟨t,rfl⟩,⟨t',rfl⟩⟩:=ug r
 refine max_two_ints (I.ok.hd hc) fun h' tk k=>⟨_,H,I.kept k,?_,q⟩
 by_cases hj:j>i
 ·rw [DU hj,DU hj];exact⟨_,rfl⟩
 ·rw [Eh hj,Eh hj];exact⟨_,rfl⟩
def tP(hc:X.calm=true):CallR X (.builtin "min") (fun xs H Q=>∃ i j,xs=[.int i,.int j]/\Q (.int (if j<i then j else i)) H):=by
 intro pins s σ H xs us Q I r h
 obtain⟨i,j,rfl,q⟩:=h
 obtain⟨u,w',rfl,⟨t,rfl⟩,⟨t',rfl⟩⟩:=ug r
 refine min_two_ints (I.ok.hd hc) fun h' tk k=>⟨_,H,I.kept k,?_,q⟩
 by_cases hj:j<i
 ·rw [DU hj,DU hj];exact⟨_,rfl⟩
 ·rw [Eh hj,Eh hj];exact⟨_,rfl⟩
def tS:CallR X (.type "int") (fun xs H Q=>(∃ i,xs=[.int i]/\Q (.int i) H)\/∃ k,xs=[.bl k]/\Q (.int (if k then 1 else 0)) H):=by
 intro pins s σ H xs us Q I r h
 rcases h with ⟨i,rfl,q⟩ | ⟨k,rfl,q⟩
 ·obtain⟨u,rfl,t,rfl⟩:=er r
  exact call_int_int ⟨.int i,H,I,⟨_,rfl⟩,q⟩
 ·obtain⟨u,rfl,r1⟩:=er r
  cases r1
  exact call_int_bool ⟨.int (if k then 1 else 0),H,I.tok _,⟨_,rfl⟩,q⟩
def mL:CallR X (.type "str") (fun xs H Q=>∃ i,xs=[.int i]/\i.natAbs.log2<1920/\Q (.str (toString i)) H):=by
 intro pins s σ H xs us Q I r h
 obtain⟨i,rfl,hz,q⟩:=h
 obtain⟨u,rfl,t,rfl⟩:=er r
 exact PySem.P.str_of_int hz ⟨.str _,H,I.tok _,⟨_,rfl⟩,q⟩
end
section
variable{prog:Program}{w:World}{A:Around}{E:Value->Shared->Prop}{s:Shared}{K:W.Frag}{x dx C f:Addr}{mA:Str->Option Value}{name:Str}{v:Value}
end
def RelO.some_of{v:V}{o:Option Value}(r:RelO (some v) o):∃ u,o=some u/\RelV v u:=by
 cases o with
 | none=>exact(show False from r).elim
 | some u=>exact⟨u,rfl,r⟩
section
variable{P:Program}{w:World}{H H':Hp}{h h':Heap}{a C dx:Addr}{fs fs':List (Str×V)}
end
section
variable{X:Cx}{pins:List (Addr×Obj)}{σ:St}{H:Hp}{s:Shared}{a C dx:Addr}{fs:List (Str×V)}{f:Str}{v:V}{A:Around}{E:Value->Shared->Prop}
end
section
variable{X:Cx}{o e value:Expr}{f:Str}{pos pos' tpos:Pos}{ta tv:TE}
end
section
variable{X:Cx}{pins:List (Addr×Obj)}{σ:St}{H:Hp}{s:Shared}{A:Around}{E:Value->Shared->Prop}{Q:Value->Shared->Prop}{c:Value}{b:Bool}
end
structure Room(k:Nat)(A:Around):Prop where
 hd:A.handled=none
 dp:A.depth+3 * k+5<recursionLimit
 un:A.units+16 * k+200<cLine
def Room.mono{j k:Nat}{A:Around}(r:Room k A)(h:j<=k):Room j A:=⟨r.hd,by have:=r.dp;omega,by have:=r.un;omega⟩
theorem Room.deeper{k:Nat}{A:Around}(r:Room (k+1) A)(env:Env):Room k (A.deeper env):=
 ⟨r.hd,by have:=r.dp;show A.depth+1+3 * k+5<_;omega,by have:=r.un;show A.units+3+16 * k+200<_;omega⟩
theorem Room.depth{k:Nat}{A:Around}(r:Room k A):A.depth<recursionLimit:=by have:=r.dp;omega
theorem Room.units{k:Nat}{A:Around}(r:Room k A):A.units+64<cLine:=by have:=r.un;omega
def tNil:TA:=fun _ H Q=>Q [] H
def tCons(ta:TE)(tr:TA):TA:=fun σ H Q=>ta σ H fun x H1=>tr σ H1 fun xs H2=>Q (x::xs) H2
section
variable{X:Cx}{e:Expr}{es:List Expr}{te:TE}{t:TA}{pos:Pos}
def uT:PA X [] tNil:=fun _ _ _ _ H Q I h=>Calls.spliced_nil ⟨[],H,I,.nil,h⟩
def lG(ha:PE X e te)(hr:PA X es t)(hs:starEach (e::es) X.env=(false,eval e X.env)::starEach es X.env:=by rfl):PA X (e::es) (tCons te t):=by
 intro pos pins s σ H Q I h
 rw [hs]
 show wpAny _ _ (spliced ((false,eval e X.env)::backTo pos (starEach es X.env))) _ _ s
 refine Calls.spliced_cons (bj (ha pins s σ H _ I h) fun u s1 ⟨x,H1,I1,r1,q1⟩=>?_)
 exact bj (hr pos pins s1 σ H1 _ I1 q1) fun us s2 ⟨xs,H2,I2,r2,q2⟩=>⟨x::xs,H2,I2,.cons r1 r2,q2⟩
def tTup(t:TA):TE:=fun σ H Q=>t σ H fun xs H1=>xs.length<=sizeLine/\∀ p,H1 p=none->Q (.ref p) (upd H1 p (.tup xs))
def tLst(t:TA):TE:=fun σ H Q=>t σ H fun xs H1=>xs.length<=sizeLine/\∀ p,H1 p=none->Q (.ref p) (upd H1 p (.lst xs))
def AY{x1}(h:PA X es t):PE X (.Tuple es x1 pos) (tTup t):=by
 intro pins s σ H Q I hq
 refine wpAny_Tuple_spliced (bj (h pos pins s σ H _ I hq) fun us s1 ⟨xs,H1,I1,r,z,q⟩=>⟨by rw [<- r.length];exact z,?_⟩)
 have hf:H1 s1.heap.objs.size=none:=I1.hok.fresh (DK _)
 refine⟨.ref s1.heap.objs.size,upd H1 s1.heap.objs.size (.tup xs),I1.laid (t':=s1.toks) (fun b u e=>DJ _ e) (DK _) ?_,rfl,q _ hf⟩
 exact⟨z,us,r,⟨_,DY _ rfl,rfl,⟨_,rfl⟩,rfl⟩⟩
def uK(h:PA X es t):PE X (.List es pos) (tLst t):=by
 intro pins s σ H Q I hq
 refine wpAny_List_spliced (bj (h pos pins s σ H _ I hq) fun us s1 ⟨xs,H1,I1,r,z,q⟩=>⟨by rw [<- r.length];exact z,?_⟩)
 have hf:H1 s1.heap.objs.size=none:=I1.hok.fresh (DK _)
 refine⟨.ref s1.heap.objs.size,upd H1 s1.heap.objs.size (.lst xs),I1.laid (t':=s1.toks) (fun b u e=>DJ _ e) (DK _) ?_,rfl,q _ hf⟩
 exact⟨z,us,0,r,DY _ rfl⟩
end
abbrev Sp:=List V->Hp->VK->XK->Prop
abbrev ue:=List Env->Hp->Shared->XK->Value->Shared->Prop
structure zJ(P:Program)(w:World)(K:W.Frag)(mg:Str->Option Value)(base:Heap)(A:Around)(outer:List Env)(s:Shared)(H:Hp):Prop where
 frames:A.frames=some outer
 mod:Mod K mg base
 bs:∀ b o,base.get? b=some o->s.heap.get? b=some o/\H b=none
 bsz:base.objs.size<=s.heap.objs.size
 funs:s.heap.FunFrames base outer
 frf:∀ b∈uc outer,H b=none
 hok:HOk P w H s.heap
 bare:AllBare s.gens
def CE(outer:List Env)(P:Program)(w:World)(H:Hp)(s:Shared)(Q:VK)(u:Value)(s':Shared):Prop:=
 ∃ v H',s'.os=s.os/\AllBare s'.gens/\Un (uc outer) [] H H' s.heap s'.heap/\HOk P w H' s'.heap/\RelV v u/\Q v H'
def CR(CX:ue)(outer:List Env)(P:Program)(w:World)(H:Hp)(s:Shared)(Q:VK)(E:XK)(r:Result)(s':Shared):Prop:=
 match r with
 | .ok (.ret u)=>CE outer P w H s Q u s'
 | .ok _=>False
 | .error e=>CX outer H s E e s'
structure FnOk(P:Program)(w:World)(K:W.Frag)(mg:Str->Option Value)(base:Heap)(CX:ue)(k:Nat)(f:Addr)(fd:FuncData)(ps:List Str)(sp:Sp):Prop where
 len:∀ vs H Q E,sp vs H Q E->vs.length=ps.length
 run:∀ (A:Around) (outer:List Env) (s:Shared) (H:Hp) (args:Args) (us:List Value) (vs:List V) (Q:VK) (E:XK),Room k A->zJ P w K mg base A outer s H->BindsTo s fd args (ps.zip us)->Vals vs us->sp vs H Q E ->
  codeAny (model P w) A (.call (.ref f) args) (CR CX outer P w H s Q E) s
theorem FnOk.mono{P:Program}{w:World}{K:W.Frag}{mg:Str->Option Value}{base:Heap}{CX:ue}{j k:Nat}{f:Addr}{fd:FuncData}{ps:List Str}{sp:Sp}(F:FnOk P w K mg base CX j f fd ps sp)(h:j<=k) :
  FnOk P w K mg base CX k f fd ps sp:=⟨F.len,fun A outer s H args us vs Q E hr=>F.run A outer s H args us vs Q E (hr.mono h)⟩
section
variable{X:Cx}{pins:List (Addr×Obj)}{σ:St}{H:Hp}{s s':Shared}
def Inv.env0(I:Inv X pins σ H s):zJ X.prog X.w X.K X.mg X.base X.A X.stack s H:=
 ⟨I.ok.frames,I.ok.mod,I.bs,Er I.ok.bsz I.sz,I.stack,I.stkFree,I.hok,I.bare⟩
def Inv.after{Q:VK}{u:Value}(I:Inv X pins σ H s)(h:CE X.stack X.prog X.w H s Q u s'):EP X pins σ Q u s':=by
 obtain⟨v,H',os,bare,un,hok,r,q⟩:=h
 obtain⟨hh,g,d,t,os'⟩:=s'
 obtain rfl:os'=s.os:=os
 exact⟨v,H',I.call (h':=hh) (g':=g) (d':=d) (t':=t) (ch:=[]) un hok bare (fun b z=>absurd z (by simp)),r,q⟩
end
def qI(sp:Sp)(dvs:List V)(E:XK)(t:TA):TE:=fun σ H Q=>t σ H fun vs H1=>sp (vs++dvs) H1 Q E
def Binds(K:W.Frag)(fd:FuncData)(ps:List Str)(ds:List Value):Prop:=
 ∀ (s:Shared) (us:List Value),K.In s.heap->(us++ds).length=ps.length->BindsTo s fd ⟨us,[]⟩ (ps.zip (us++ds))
def Binds.all{K:W.Frag}{fd:FuncData}{ps:List Str}(h:∀ us:List Value,us.length=ps.length->bindArgs fd ⟨us,[]⟩=pure (ps.zip us)):Binds K fd ps []:=fun s us _ hl=>by
 rw [EC] at hl ⊢
 exact .of_eq (h us hl)
def mS(CX:ue)(X:Cx)(E:XK):Prop:=∀ (pins:List (Addr×Obj)) (σ:St) (H:Hp) (s:Shared) (e:Value) (s':Shared),Inv X pins σ H s->CX X.stack H s E e s'->X.xe e s'
section
variable{X:Cx}{CX:ue}{k:Nat}{f C:Addr}{fd:FuncData}{ps:List Str}{sp:Sp}{dvs:List V}{ds:List Value}{E:XK}{x m:Str}{p pos apos:Pos}{e o:Expr}{es:List Expr}{ta:TE}{t:TA}
def pz{pins:List (Addr×Obj)}{σ:St}{H:Hp}{s:Shared}{Q:VK}{us:List Value}{vs:List V}(F:FnOk X.prog X.w X.K X.mg X.base CX k f fd ps sp)(hr:Room k X.A)(hb:Binds X.K fd ps ds)(hd:Vals dvs ds)(hx:mS CX X E)
  (I:Inv X pins σ H s) (r:Vals vs us) (h:sp (vs++dvs) H Q E):wpAny (model X.prog X.w) X.A (call (.ref f) us) (EP X pins σ Q) X.xe s:=by
 have r2:Vals (vs++dvs) (us++ds):=r.append hd
 have hl:(us++ds).length=ps.length:=by rw [<- r2.length];exact F.len _ _ _ _ h
 refine wpAny_call (Fe (F.run X.A X.stack s H ⟨us,[]⟩ (us++ds) (vs++dvs) Q E hr I.env0 (hb s us I.kIn hl) r2 h) fun r s' hq=>?_)
 cases r with
 | error e=>exact hx pins σ H s e s' I hq
 | ok fl=>
  cases fl with
  | ret u=>exact I.after hq
  | next=>exact False.elim hq
  | brk=>exact False.elim hq
  | cont=>exact False.elim hq
def xX(F:FnOk X.prog X.w X.K X.mg X.base CX k f fd ps sp)(hr:Room k X.A)(hg:Gl X x)(hm:X.mg x=some (.ref f))(hk:W.keepIn X.K (.ref f)=true)(hb:Binds X.K fd ps ds)(hd:Vals dvs ds)(hx:mS CX X E)
  (ha:PA X (e::es) t) (hdb:(x == ("__debug__":Str))=false:=by decide) (he:starEach (e::es) X.env=(false,eval e X.env)::starEach es X.env:=by rfl) (hpl:(backTo pos (starEach es X.env)).any (·.1)=false:=by rfl) :
  PE X (.Call (.Name x p) (e::es) [] pos) (qI sp dvs E t):=by
 intro pins s σ H Q I h
 refine EQ (mf I hg hm ?_ hdb)
 refine W.callWith_K (h₀:=X.base) I.ok.mod.kin hk (bj (ha pos pins s σ H _ I h) fun us s1 ⟨vs,H1,I1,r,q⟩=>⟨I1.kIn,?_⟩) he hpl
 exact pz F hr hb hd hx I1 r q
def uR(F:FnOk X.prog X.w X.K X.mg X.base CX k f fd ps sp)(hr:Room k X.A)(hg:Gl X x)(hm:X.mg x=some (.ref f))(hk:W.keepIn X.K (.ref f)=true)(hb:Binds X.K fd ps ds)(hd:Vals dvs ds)(hx:mS CX X E)
  (hdb:(x == ("__debug__":Str))=false:=by decide):PE X (.Call (.Name x p) [] [] pos) (qI sp dvs E tNil):=by
 intro pins s σ H Q I h
 refine EQ (mf I hg hm ?_ hdb)
 exact W.callWith_K0 I.kIn hk (pz (us:=[]) F hr hb hd hx I .nil h)
end
section
variable{X:Cx}{CX:ue}{k:Nat}{f C:Addr}{fd:FuncData}{ps ks:List Str}{sp:Sp}{E:XK}{x m:Str}{p pos apos kpos:Pos}{e o:Expr}{es:List Expr}{kws:List Keyword}{te ta:TE}{t tk:TA}{nm:Option Str}
variable{g:List Value->List Value->List Value}{gV:List V->List V->List V}
end
structure ax(N P:List Str)(sc:Scope):Prop where
 kind:sc.kind=.function
 co:sc.isCoroutine=false
 gen:sc.isGenerator=false
 nd:N.Nodup
 pre:N.take P.length=P
 par:∀ x∈P,sc.names.lookup x=some .local\/sc.names.lookup x=some .cell
 nofree:∀ y∈sc.names,y.2≠.free
theorem lp{kindOf:Str->Option NameKind}{x:Str}:∀ {binds:List (Str×Value)} {m:Str->Option Value},(∀ v,(x,v) ∉ binds)->bindL kindOf binds m x=m x
 | [],_,_=>rfl
 | (n,v)::r,m,h=>by
  unfold bindL
  rw [lp fun w hw=>h w (DC _ hw)]
  split
  ·have:x≠n:=by rintro rfl;exact h v DF
   simp [this]
  ·rfl
theorem lr{kindOf:Str->Option NameKind}{x:Str}:∀ {binds:List (Str×Value)} {m:Str->Option Value},(∀ v,(x,v) ∉ binds)->bindC kindOf binds m x=m x
 | [],_,_=>rfl
 | (n,v)::r,m,h=>by
  unfold bindC
  rw [lr fun w hw=>h w (DC _ hw)]
  split
  ·rfl
  ·have:x≠n:=by rintro rfl;exact h v DF
   simp [this]
theorem lq{kindOf:Str->Option NameKind}{x:Str}{v:Value}:∀ {P:List Str} {vs:List Value} {i:Nat} {m:Str->Option Value},P.Nodup->P[i]?=some x->vs[i]?=some v->kindOf x=some .local ->
  bindL kindOf (P.zip vs) m x=some v
 | [],_,_,_,_,h,_,_=>by simp at h
 | _::_,[],_,_,_,_,h,_=>by simp at h
 | p::P,w::vs,0,m,nd,h1,h2,hk=>by
  simp at h1 h2;subst h1;subst h2
  show bindL kindOf ((p,w)::P.zip vs) m p=_
  unfold bindL
  rw [lp fun v hv=>(Fb.mp nd).1 (FS hv).1,DU hk]
  simp
 | p::P,w::vs,i+1,m,nd,h1,h2,hk=>by
  show bindL kindOf ((p,w)::P.zip vs) m x=_
  unfold bindL
  exact lq (i:=i) (Fb.mp nd).2 (by simpa using h1) (by simpa using h2) hk
theorem ls{kindOf:Str->Option NameKind}{x:Str}{v:Value}:∀ {P:List Str} {vs:List Value} {i:Nat} {m:Str->Option Value},P.Nodup->P[i]?=some x->vs[i]?=some v->kindOf x≠some .local ->
  bindC kindOf (P.zip vs) m x=some v
 | [],_,_,_,_,h,_,_=>by simp at h
 | _::_,[],_,_,_,_,h,_=>by simp at h
 | p::P,w::vs,0,m,nd,h1,h2,hk=>by
  simp at h1 h2;subst h1;subst h2
  show bindC kindOf ((p,w)::P.zip vs) m p=_
  unfold bindC
  rw [lr fun v hv=>(Fb.mp nd).1 (FS hv).1,Eh hk]
  simp
 | p::P,w::vs,i+1,m,nd,h1,h2,hk=>by
  show bindC kindOf ((p,w)::P.zip vs) m x=_
  unfold bindC
  exact ls (i:=i) (Fb.mp nd).2 (by simpa using h1) (by simpa using h2) hk
noncomputable def start(N:List Str)(vs:List V):St:=vs.map some++List.replicate (N.length - vs.length) none
noncomputable def kf(CX:ue)(P:Program)(w:World)(K:W.Frag)(mg:Str->Option Value)(base:Heap)(N:List Str)(qual:Str)(scope:Scope)(f:Addr)(cd:Value)(A:Around)(outer:List Env)(s:Shared)(H:Hp)(E:XK):Cx where
 prog:=P
 w:=w
 K:=K
 mg:=mg
 base:=base
 A:=A.deeper (envOfC qual scope s.heap.objs.size f cd)
 N:=N
 s₀:=s
 H₀:=H
 env:=envOfC qual scope s.heap.objs.size f cd
 outer:=outer
 stack:=envOfC qual scope s.heap.objs.size f cd::outer
 ex:=[]
 calm:=true
 fn:=fun _=>true
 pn:=[]
 xe:=fun e s'=>wpAny (model P w) (A.deeper (envOfC qual scope s.heap.objs.size f cd)) (leaving (envOfC qual scope s.heap.objs.size f cd) e) (fun _ s''=>CX outer H s E e s'') (fun e' s''=>CX outer H s E e' s'') s'
def oR{sc:Scope}{n:Nat}{x:Str}(h:sc.names.lookup x=some .cell):∃ c,(cellsFrom n sc.names []).lookup x=some c:=by
 have q:=W.cellsFrom_some sc.names n [] (.inl h)
 exact EB.mp q
def sR{CX:ue}{P:Program}{w:World}{K:W.Frag}{mg:Str->Option Value}{base:Heap}{N ps:List Str}{qual:Str}{scope:Scope}{f:Addr}{cd:Value}{A:Around}{outer:List Env}{s s1:Shared}{H:Hp}{E:XK}{us:List Value}{vs:List V}
  (S:ax N ps scope) (hd:A.handled=none) (e0:zJ P w K mg base A outer s H) (hl:vs.length=ps.length) (r:Vals vs us)
  (x:InCallC s s.heap.objs.size (bindL (envOfC qual scope s.heap.objs.size f cd).kindOf (ps.zip us) fun _=>none) (cellsFrom (s.heap.objs.size+1) scope.names []) (bindC (envOfC qual scope s.heap.objs.size f cd).kindOf (ps.zip us) fun _=>none) s1) :
  Inv (kf CX P w K mg base N qual scope f cd A outer s H E) [] (start N vs) H s1:=by
 have hpl:ps.length<=N.length:=by have:=congrArg List.length S.pre;rw [EW] at this;omega
 obtain⟨h1,tk,rfl,hk⟩:=x.done
 have noA:∀ b:Addr,b ∉ (kf CX P w K mg base N qual scope f cd A outer s H E).ex:=fun b z=>absurd (show b∈([]:List Addr) from z) (by simp)
 refine⟨⟨e0.mod,S.kind,rfl,rfl,DK _,fun y z c h1 h2=>?_,fun y hy=>?_,fun y c _ h=>?_,fun _=>hd,Around.frames_deeper e0.frames,.inr ⟨rfl,rfl⟩,fun b z=>absurd z (noA b),e0.bs,e0.bsz,fun b _ _=>noA b,fun b z=>absurd z (noA b),e0.funs,e0.frf⟩,
  rfl,e0.bare,Un.kept hk,⟨_,x.toInCall.ns,fun i y v h1 h2 h3=>?_⟩,fun y c h=>⟨_,x.cell y c h⟩,e0.hok.fresh (DK _),fun y c h=>?_,fun p hp=>absurd (show p∈([]:List (Addr×Obj)) from hp) (by simp),e0.hok.kept hk,?_⟩
 ·exact name_of_addr x.apart (EF h1) (EF h2)
 ·have hy:scope.names.lookup y=some .cell\/scope.names.lookup y=some .free:=hy
  rcases hy with hy | hy
  ·exact oR hy
  ·exact absurd rfl (S.nofree _ (EF hy))
 ·exact Gp (x.above y c (EF h))
 ·have hi:i<vs.length:=by
   unfold start at h2
   by_cases hi:i<vs.length
   ·exact hi
   ·rw [Es (by simpa using hi)] at h2
    rw [List.getElem?_replicate] at h2
    split at h2 <;> cases h2
  have ha:vs[i]?=some v:=by
   unfold start at h2
   rw [Ed (by simpa using hi),FF] at h2
   cases e:vs[i]? with
   | none=>rw [e] at h2;cases h2
   | some a=>rw [e] at h2;cases h2;rfl
  obtain⟨u,hu,rv⟩:=r.get ha
  have hp:ps[i]?=some y:=by
   rw [<- S.pre,Gb (by omega)];exact h1
  have ndP:ps.Nodup:=by rw [<- S.pre];exact S.nd.sublist (List.take_sublist _ _)
  refine⟨u,rv,?_⟩
  rcases S.par y (Eg hp) with k | k
  ·exact .inl ⟨k,lq ndP hp hu k⟩
  ·obtain⟨c,e⟩:=oR (n:=s.heap.objs.size+1) k
   refine .inr ⟨.inl k,c,e,?_⟩
   have q:=x.cell y c e
   rw [ls ndP hp hu (by show scope.names.lookup y≠_;rw [k];decide)] at q
   exact q
 ·exact e0.hok.fresh (Gp (x.above y c (EF h)))
 ·unfold start
  show _=N.length
  rw [Eu,EI,List.length_replicate]
  omega
def fn_of{CX:ue}{P:Program}{w:World}{K:W.Frag}{mg:Str->Option Value}{base:Heap}{k:Nat}{f:Addr}{name qual:Str}{params:Arguments}{body:List Stmt}{scope:Scope}{dV kV doc pm cdv ct oc:Value}{an od:Option Addr}
  {osl:Array (Option Value)} {N ps:List Str} {sp:Sp} (lk:K.lookup f=some ⟨oc,od,.func (W.fnOf name qual params body scope dV kV doc pm an cdv ct),osl⟩) (hcd:W.codeIn K cdv qual=true) (S:ax N ps scope)
  (len:∀ vs H Q E,sp vs H Q E->vs.length=ps.length)
  (hbody:∀ (A:Around) (outer:List Env) (s:Shared) (H:Hp) (vs:List V) (Q:VK) (E:XK),Room k (A.deeper (envOfC qual scope s.heap.objs.size f cdv))->sp vs H Q E ->
   ∃ t,PSs (kf CX P w K mg base N qual scope f cdv A outer s H E) body t/\t { nx:=fun _ H'=>Q .non H',rt:=Q } (start N vs) H) :
  FnOk P w K mg base CX (k+1) f (W.fnOf name qual params body scope dV kV doc pm an cdv ct) ps sp:=by
 refine⟨len,fun A outer s H args us vs Q E hr e0 hb r hsp=>?_⟩
 have hl:=len _ _ _ _ hsp
 have KX:K.In s.heap:=e0.mod.kin.keeps fun b o e=>(e0.bs b o e).1
 have lim:s.heap.NoLimit:=e0.mod.nolimit.keeps fun b o e=>(e0.bs b o e).1
 have hkind:∀ y∈ps.zip us,scope.names.lookup y.1=some .local\/(scope.names.lookup y.1=some .cell/\((cellsFrom (s.heap.objs.size+1) scope.names []).lookup y.1).isSome=true):=fun⟨n,v⟩ hy=>by
  rcases S.par n (FS hy).1 with q | q
  ·exact .inl q
  ·exact .inr ⟨q,W.cellsFrom_some _ _ _ (.inl q)⟩
 refine codeAny_call_function hr.depth (KX _ _ lk) rfl S.co S.gen rfl (W.codeRec_of KX hcd) (hb _ _ _ _ ?_)
 refine wpAny_newFunctionEnv_cells S.kind hkind fun env he s1 x=>?_
 subst he
 refine⟨lim.keeps x.toInCall.keep,codeAny_func ?_⟩
 obtain⟨t,ht,hq⟩:=hbody A outer s H vs Q E (hr.deeper _) hsp
 have I:Inv (kf CX P w K mg base N qual scope f cdv A outer s H E) [] (start N vs) H s1:=sR S hr.hd e0 hl r x
 refine Ej (ht [] s1 (start N vs) H _ I hq) (fun fl s' hs=>?_) fun e s' hs=>hs
 have fin:∀ {σ':St} {H':Hp} {v:V} {u:Value},Inv (kf CX P w K mg base N qual scope f cdv A outer s H E) [] σ' H' s'->RelV v u->Q v H'->CE outer P w H s Q u s':=
  fun {σ' H' v u} J rv q=>⟨v,H',J.os,J.bare,J.base,J.hok,rv,q⟩
 cases fl with
 | ret u=>
  obtain⟨v,σ',H',J,rv,q⟩:=hs
  exact fin J rv q
 | next=>
  obtain⟨σ',H',J,q⟩:=hs
  exact fin (v:=V.non) (u:=Value.none) J rfl q
 | brk=>
  obtain⟨_,_,_,q⟩:=hs
  exact False.elim q
 | cont=>
  obtain⟨_,_,_,q⟩:=hs
  exact False.elim q
section
variable{X:Cx}{x:Str}{p pos:Pos}{e:Expr}{es:List Expr}{t:TA}{id T:String}{r:List V->Hp->VK->Prop}
def tCB(r:List V->Hp->VK->Prop)(t:TA):TE:=fun σ H Q=>t σ H fun vs H1=>r vs H1 Q
def ny(hc:CallR X (.builtin id) r)(hg:Gl X x)(hm:X.mg x=none)(hv:bootBuiltins x=some (.builtin id))(ha:PA X (e::es) t)(hn:x ≠ "__name__":=by decide)(hdb:(x == ("__debug__":Str))=false:=by decide)
  (he:starEach (e::es) X.env=(false,eval e X.env)::starEach es X.env:=by rfl) (hpl:(backTo pos (starEach es X.env)).any (·.1)=false:=by rfl):PE X (.Call (.Name x p) (e::es) [] pos) (tCB r t):=by
 intro pins s σ H Q I h
 refine EQ (jl I hg hm hv ?_ hn hdb)
 exact PyProof.Rows.callWith_builtin1 (bj (ha pos pins s σ H _ I h) fun us s1 ⟨vs,H1,I1,r1,q1⟩=>hc pins s1 σ H1 vs us Q I1 r1 q1) he hpl
def sB(hc:CallR X (.type T) r)(hg:Gl X x)(hm:X.mg x=none)(hv:bootBuiltins x=some (.type T))(ha:PA X (e::es) t)(hn:x ≠ "__name__":=by decide)(hdb:(x == ("__debug__":Str))=false:=by decide)
  (he:starEach (e::es) X.env=(false,eval e X.env)::starEach es X.env:=by rfl) (hpl:(backTo pos (starEach es X.env)).any (·.1)=false:=by rfl):PE X (.Call (.Name x p) (e::es) [] pos) (tCB r t):=by
 intro pins s σ H Q I h
 refine EQ (jl I hg hm hv ?_ hn hdb)
 exact Fa (bj (ha pos pins s σ H _ I h) fun us s1 ⟨vs,H1,I1,r1,q1⟩=>hc pins s1 σ H1 vs us Q I1 r1 q1) he hpl
end
end L2
namespace HT
section
open PySem.SeqAt
open PySem.AutoSeq1 (wpAny_loadPart')
open PySem.MeetsSeq PySem.MeetsSeq2 PySem.MeetsSeq3
end
section
variable{prog:Program}{w:World}{A:Around}{E:Value->Shared->Prop}{s:Shared}
def zw{t b:Addr}{vs ws:List Value}{Q:Value->Shared->Prop}(ht:IsTup s.heap t vs.toArray)(hb:IsTup s.heap b ws.toArray)(hv:vs≠[])
  (h1:ws=[]->Q (.ref t) s) (h2:ws≠[]->Q (.ref s.heap.objs.size) { s with heap:=s.heap.push { cls:=.type "tuple",data:=.seq (vs++ws).toArray } })
  (hsz:vs.length+ws.length<=sizeLine):wpAny (model prog w) A (binaryOp .Add (.ref t) (.ref b)) Q E s:=by
 obtain⟨⟨cls,dd,data,sl⟩,ho,hc,n,hd⟩:=id ht
 obtain⟨⟨cls2,dd2,data2,sl2⟩,ho2,hc2,n2,hd2⟩:=id hb
 simp only at hc hd hc2 hd2
 subst hc hd hc2 hd2
 have e:vs.toArray++ws.toArray=(vs++ws).toArray:=by simp
 by_cases hw:ws=[]
 ·exact Go ⟨_,ho,rfl⟩ ⟨_,ho2,rfl⟩ FL Gd FN FG (FC _ _)
   (tuple_addW1 t b vs.toArray ws.toArray n n2 dd dd2 sl sl2 (by simpa using hv) (by simp [hw])) ⟨ho,ho2,h1 hw⟩
 ·refine Go ⟨_,ho,rfl⟩ ⟨_,ho2,rfl⟩ FL Gd FN FG (FC _ _)
   (tuple_addW2 t b vs.toArray ws.toArray n n2 dd dd2 sl sl2 (by simpa using hv) (by simpa using hw) (by rw [DB,DB];exact hsz)) ⟨ho,ho2,?_⟩
  rw [e]
  exact h2 hw
noncomputable def bH(n d:Nat):Option Int->Nat
 | none=>d
 | some v=>if v<0 then (v+(n:Int)).toNat else min v.toNat n
def sIx_nat(n d k:Nat):bH n d (some (k:Int))=min k n:=by
 show (if (k:Int)<0 then ((k:Int)+(n:Int)).toNat else min (k:Int).toNat n)=min k n
 rw [Eh (by omega),Int.toNat_natCast]
def AJ(n d:Nat)(hd:d<=n)(o:Option Int):bH n d o<=n:=by
 cases o with
 | none=>exact hd
 | some v=>
  show (if v<0 then (v+(n:Int)).toNat else min v.toNat n)<=n
  by_cases hv:v<0
  ·rw [DU hv];omega
  ·rw [Eh hv];exact Nat.min_le_right _ _
def sa(v:Int)(n d:Nat):(if v<0 then max (v+(n:Int)) 0 else min v (n:Int))=((bH n d (some v):Nat):Int):=by
 show (if v<0 then max (v+(n:Int)) 0 else min v (n:Int))=(((if v<0 then (v+(n:Int)).toNat else min v.toNat n):Nat):Int)
 by_cases hv:v<0
 ·simp only [DU hv];omega
 ·simp only [Eh hv];omega
def qD(lo hi:Option Int)(n:Nat):Builtin.Slice.sliceAdjust lo hi 1 (n:Int)=(((bH n 0 lo:Nat):Int),((bH n n hi:Nat):Int)):=by
 have h1:¬ ((1:Int)<0):=by omega
 unfold Builtin.Slice.sliceAdjust
 simp only [h1,Fy]
 refine Prod.ext ?_ ?_
 ·cases lo with
  | none=>rfl
  | some v=>exact sa v n 0
 ·cases hi with
  | none=>rfl
  | some v=>exact sa v n n
def pB(i j:Nat):Builtin.Slice.slicePlaces (i:Int) (j:Int) 1=j - i:=by
 unfold Builtin.Slice.slicePlaces
 have h1:(1:Int)>0:=by omega
 simp only [h1,FQ,Int.ediv_one]
 split <;> omega
def iH{v:Value}{o:Option Int}{Q:Option Int->Shared->Prop}(p:IsPart v o)(h:Q o s):wpAny (model prog w) A (Builtin.Slice.slicePartIndex v) Q E s:=by
 cases p with
 | none=>exact slicePart_none h
 | int i t=>exact slicePart_int h
def dG{sl:Addr}{vl vu:Value}{lo hi:Option Int}{n:Nat}{Q:Int×Int×Nat->Shared->Prop}(hs:s.heap.IsSliceOf sl vl vu .none)(pl:IsPart vl lo)(pu:IsPart vu hi)
  (h:Q (((bH n 0 lo:Nat):Int),1,bH n n hi - bH n 0 lo) s):wpAny (model prog w) A (Builtin.Slice.sliceApplied (.ref sl) (pure (n:Int))) Q E s:=by
 obtain⟨os,hos,hcs,hds⟩:=id hs
 unfold Builtin.Slice.sliceApplied Builtin.Slice.sliceFields
 refine DD (DD (Gw hos hds (x:=vl) rfl (DD (Gw hos hds (x:=vu) rfl (DD (Gw hos hds (x:=.none) rfl (DN ?_)))))))
 refine DD (slicePart_none ?_)
 show wpAny _ _ (if ((1:Int) == 0)=true then _ else _) _ _ s
 rw [Eh (by decide)]
 refine DD (iH pl (DD (iH pu (DD (DN ?_)))))
 show wpAny _ _ (match Builtin.Slice.sliceAdjust lo hi 1 (n:Int) with | (lo,hi)=>pure (lo,(1:Int),Builtin.Slice.slicePlaces lo hi 1)) _ _ s
 rw [qD lo hi n]
 show wpAny _ _ (pure (((bH n 0 lo:Nat):Int),(1:Int),Builtin.Slice.slicePlaces ((bH n 0 lo:Nat):Int) ((bH n n hi:Nat):Int) 1)) _ _ s
 rw [pB]
 exact DN h
def uG(xs:Array Value)(i k:Nat):((List.range k).filterMap fun(m:Nat)=>xs[((i:Int)+(m:Int) * 1).toNat]?).toArray=((xs.toList.drop i).take k).toArray:=by
 have e:(fun(m:Nat)=>xs[((i:Int)+(m:Int) * 1).toNat]?)=fun m=>xs[i+m]?:=by
  funext m
  have:((i:Int)+(m:Int) * 1).toNat=i+m:=by omega
  rw [this]
 rw [e]
 have:=pick_run xs i k
 rw [List.filterMap_map] at this
 have e2:((fun x=>xs[x]?) ∘ fun x=>i+x)=fun m=>xs[i+m]?:=rfl
 rw [e2] at this
 rw [this]
def fY{t sl:Addr}{items:Array Value}{vl vu:Value}{lo hi:Option Int}{Q:Value->Shared->Prop}(ht:IsTup s.heap t items)(hs:s.heap.IsSliceOf sl vl vu .none)(pl:IsPart vl lo)(pu:IsPart vu hi)
  (hw:¬ (bH items.size 0 lo=0/\bH items.size items.size hi=items.size))
  (h:Q (.ref s.heap.objs.size) { s with heap:=s.heap.push { cls:=.type "tuple",data:=.seq ((items.toList.drop (bH items.size 0 lo)).take (bH items.size items.size hi - bH items.size 0 lo)).toArray } })
  (hsz:items.size<=sizeLine):wpAny (model prog w) A (getItem (.ref t) (.ref sl)) Q E s:=by
 have htake:sizeOk (.seq ((items.toList.drop (bH items.size 0 lo)).take (bH items.size items.size hi - bH items.size 0 lo)).toArray):=by
  show ((items.toList.drop (bH items.size 0 lo)).take (bH items.size items.size hi - bH items.size 0 lo)).toArray.size<=sizeLine
  rw [DB,EW,FM,Fv]
  omega
 have hj:bH items.size items.size hi<=items.size:=AJ _ _ (DK _) hi
 obtain⟨os,hos,hcs,hds⟩:=id hs
 have hTs:s.TypeIs (.ref sl) "slice":=⟨os,hos,hcs⟩
 unfold getItem
 try with_reducible refine Fi ?_
 first | refine DD (DN ?_) | skip
 refine DD (wpAny_sequenceKey ht.typeIs (by decide) ?_)
 refine DD (Gc (name:=Str.ofString "__getitem__") ht.typeIs EA
  (FK EA ht.typeIs Gz ?_ (GD _ _)))
 show wpAny _ _ (Builtin.Tuple.tupleItemsOf (.ref t) >>= _) _ _ s
 refine DD (tupleItemsOf_ ht ?_)
 refine DD (Gm hTs ?_)
 rw [DU (by decide)]
 refine DD (dG hs pl pu ?_)
 have hno:¬ ((((bH items.size 0 lo:Nat):Int) == 0&&(1:Int) == 1&&(bH items.size items.size hi - bH items.size 0 lo) == items.size)=true):=by
  intro q
  rw [Dz,Dz] at q
  have q1:((bH items.size 0 lo:Nat):Int)=0:=eq_of_beq q.1.1
  have q2:bH items.size items.size hi - bH items.size 0 lo=items.size:=eq_of_beq q.2
  exact hw ⟨by omega,by omega⟩
 show wpAny _ _ (if (((bH items.size 0 lo:Nat):Int) == 0&&(1:Int) == 1&&(bH items.size items.size hi - bH items.size 0 lo) == items.size)=true then _ else _) _ _ s
 rw [Eh hno,uG]
 first
  | exact DD (m:=Builtin.Tuple.tupleExact _) (EK (DN ⟨_,rfl,DN h⟩) htake)
  | exact DD (m:=Builtin.Tuple.tupleExact _) (EK (DD (DN (DN ⟨_,rfl,DN h⟩))) htake)
  | exact DD (DD (m:=Builtin.Tuple.tupleExact _) (EK (DN (DN ⟨_,rfl,DN h⟩)) htake))
  | exact DD (DD (m:=Builtin.Tuple.tupleExact _) (EK (DN ⟨_,rfl,DN h⟩) htake))
end
end HT
namespace L2
abbrev TO:=St->Hp->(Option Int->Hp->Prop)->Prop
def PO(X:Cx)(e:Option Expr)(t:TO):Prop:=
 ∀ (pins:List (Addr×Obj)) (s:Shared) (σ:St) (H:Hp) (Q:Option Int->Hp->Prop),Inv X pins σ H s->t σ H Q ->
  wpAny (model X.prog X.w) X.A (evalPart e X.env) (fun u s'=>∃ o H',Inv X pins σ H' s'/\IsPart u o/\Q o H') X.xe s
noncomputable def xu:TO:=fun _ H Q=>Q none H
noncomputable def tPart(t:TE):TO:=fun σ H Q=>t σ H fun x H1=>∃ i,x=.int i/\Q (some i) H1
section
variable{X:Cx}{e:Expr}{te:TE}{lo hi:Option Expr}{tl th:TO}{pos p2:Pos}
def xQ:PO X none xu:=by
 intro pins s σ H Q I h
 rw [evalPart_none]
 exact DN ⟨none,H,I,.none,h⟩
def xP(h:PE X e te):PO X (some e) (tPart te):=by
 intro pins s σ H Q I hw
 rw [evalPart_some]
 refine bj (h pins s σ H _ I hw) fun u s1 ⟨x,H1,I1,r1,q1⟩=>?_
 obtain⟨i,rfl,q⟩:=q1
 obtain⟨t,rfl⟩:=r1
 exact⟨some i,H1,I1,.int i t,q⟩
def SlR(X:Cx)(r:V->Option Int->Option Int->Hp->VK->Prop):Prop:=
 ∀ (pins:List (Addr×Obj)) (s:Shared) (σ:St) (H:Hp) (x:V) (v vl vu:Value) (lo hi:Option Int) (sl:Addr) (Q:VK),Inv X pins σ H s->RelV x v->s.heap.IsSliceOf sl vl vu .none->IsPart vl lo->IsPart vu hi->r x lo hi H Q ->
  ∃ T id,typeLookup (.type T) "__getitem__" = pure (some (.builtin id))/\s.TypeIs v T/\wpAny (model X.prog X.w) X.A (getItem v (.ref sl)) (EP X pins σ Q) X.xe s
def SlR.or{r r':V->Option Int->Option Int->Hp->VK->Prop}(h:SlR X r)(h':SlR X r'):SlR X (fun x lo hi H Q=>r x lo hi H Q\/r' x lo hi H Q):=by
 intro pins s σ H x v vl vu lo hi sl Q I rx hs pl pu q
 rcases q with q | q
 ·exact h pins s σ H x v vl vu lo hi sl Q I rx hs pl pu q
 ·exact h' pins s σ H x v vl vu lo hi sl Q I rx hs pl pu q
def tSl(r:V->Option Int->Option Int->Hp->VK->Prop)(te:TE)(tl th:TO):TE:=fun σ H Q=>te σ H fun x H1=>tl σ H1 fun l H2=>th σ H2 fun u H3=>r x l u H3 Q
def uJ{r:V->Option Int->Option Int->Hp->VK->Prop}(hr:SlR X r)(he:PE X e te)(hl:PO X lo tl)(hu:PO X hi th):PE X (.Subscript e (.Slice lo hi none p2) pos) (tSl r te tl th):=by
 intro pins s σ H Q I h
 refine Subscript_ (bj (he pins s σ H _ I h) fun v s1 ⟨x,H1,I1,r1,q1⟩=>?_)
 refine wpAny_Slice (bj (hl pins s1 σ H1 _ I1 q1) fun vl s2 ⟨l,H2,I2,pl,q2⟩=>bj (hu pins s2 σ H2 _ I2 q2) fun vu s3 ⟨u,H3,I3,pu,q3⟩=>?_)
 rw [evalPart_none]
 refine DN ?_
 have I4:Inv X pins σ H3 { s3 with heap:=s3.heap.push { cls:=.type "slice",data:=.fields #[vl,vu,.none] } }:=I3.kept (t':=s3.toks) fun b ob q=>DJ _ q
 obtain⟨T,id,hT,ht,hg⟩:=hr pins { s3 with heap:=s3.heap.push { cls:=.type "slice",data:=.fields #[vl,vu,.none] } } σ H3 x v vl vu l u s3.heap.objs.size Q I4 r1 (Heap.IsSliceOf.new ..) pl pu q3
 show wpAny (model X.prog X.w) X.A (subscriptTail e (.Slice lo hi none p2) v (.ref s3.heap.objs.size)) (EP X pins σ Q) X.xe { s3 with heap:=s3.heap.push { cls:=.type "slice",data:=.fields #[vl,vu,.none] } }
 exact tail_any (ops:=[.ref s3.heap.objs.size,v]) ht hT hg (by with_unfolding_all rfl)
noncomputable def oQ(xs:List V)(lo hi:Option Int):List V:=(xs.drop (HT.bH xs.length 0 lo)).take (HT.bH xs.length xs.length hi - HT.bH xs.length 0 lo)
def gX(xs:List V)(lo hi:Option Int):(oQ xs lo hi).length<=xs.length:=by
 unfold oQ
 rw [EW,FM]
 omega
def rSlT(K:W.Frag):V->Option Int->Option Int->Hp->VK->Prop:=fun x lo hi H Q=>∃ a xs,x=.ref a/\hJ K H a xs /\
 ¬ (HT.bH xs.length 0 lo=0/\HT.bH xs.length xs.length hi=xs.length)/\∀ p,H p=none->Q (.ref p) (upd H p (.tup (oQ xs lo hi)))
def AH:SlR X (rSlT X.K):=by
 intro pins s σ H x v vl vu lo hi sl Q I rx hs pl pu h
 obtain⟨a,xs,rfl,hx,hw,q⟩:=h
 cases rx
 obtain⟨its,r,ht,hz⟩:=I.tuple hx
 have hlen:its.toArray.size=xs.length:=by rw [DB];exact r.length.symm
 refine⟨"tuple",_,PyProof.Rows.slot_tuple_getitem.lookup,ht.typeIs,?_⟩
 refine HT.fY ht hs pl pu (by rw [hlen];exact hw) ?_ (by rw [hlen];exact hz)
 rw [hlen]
 refine⟨.ref s.heap.objs.size,_,I.laid (t':=s.toks) (o:=.tup (oQ xs lo hi)) (fun b ob q=>DJ _ q) (DK _) ?_,rfl,q _ (I.hok.fresh (DK _))⟩
 exact⟨Er (gX xs lo hi) hz,_,(r.drop (HT.bH xs.length 0 lo)).take (HT.bH xs.length xs.length hi - HT.bH xs.length 0 lo),IsTupN.new _ _⟩
noncomputable def rCatT(K:W.Frag):R2:=fun x y H Q=>∃ a b xs ys,x=.ref a/\y=.ref b/\hJ K H a xs/\hJ K H b ys/\xs≠[]/\xs.length+ys.length<=sizeLine /\
 (ys=[]->Q (.ref a) H)/\(ys≠[]->∀ p,H p=none->Q (.ref p) (upd H p (.tup (xs++ys))))
def Vals.nil_iff{xs:List V}{us:List Value}(r:Vals xs us):us=[]↔xs=[]:=by
 cases r with
 | nil=>simp
 | cons _ _=>simp
def yf:OpR X (binaryOp .Add) (rCatT X.K):=by
 intro pins s σ H x y v u Q I rx ry h
 obtain⟨a,b,xs,ys,rfl,rfl,ha,hb,hx,hz,q1,q2⟩:=h
 cases rx
 cases ry
 obtain⟨its,r1,p1,_⟩:=I.tuple ha
 obtain⟨its2,r2,p2,_⟩:=I.tuple hb
 refine HT.zw p1 p2 (fun z=>hx (r1.nil_iff.mp z)) (fun z=>⟨.ref a,H,I,rfl,q1 (r2.nil_iff.mp z)⟩) (fun z=>?_) (by rw [<- r1.length,<- r2.length];exact hz)
 refine⟨.ref s.heap.objs.size,_,I.laid (t':=s.toks) (o:=.tup (xs++ys)) (fun b ob q=>DJ _ q) (DK _) ?_,rfl,q2 (fun w=>z (r2.nil_iff.mpr w)) _ (I.hok.fresh (DK _))⟩
 exact⟨by rw [Eu];exact hz,_,r1.append r2,IsTupN.new _ _⟩
end
def sQ(n:Nat)(i:Int):Option Nat:=if 0<=i then (if i<n then some i.toNat else none) else if -(n:Int)<=i then some (i+n).toNat else none
noncomputable def jJ{α:Type}(xs:List α)(i:Int):Option α:=(sQ xs.length i).bind fun j=>xs[j]?
def rL{n:Nat}{i:Int}{j:Nat}(h:sQ n i=some j):seqIndex? i n=some j/\j<n/\-(n:Int)<=i/\i<n:=by
 unfold sQ at h
 by_cases h0:0<=i
 ·rw [DU h0] at h
  by_cases h1:i<n
  ·rw [DU h1] at h
   have e:i.toNat=j:=Ek h
   exact⟨by rw [Gy h0 h1,e],by omega,by omega,h1⟩
  ·rw [Eh h1] at h;cases h
 ·rw [Eh h0] at h
  by_cases h1:-(n:Int)<=i
  ·rw [DU h1] at h
   have e:(i+n).toNat=j:=Ek h
   exact⟨by rw [Gn (by omega) h1,e],by omega,h1,by omega⟩
  ·rw [Eh h1] at h;cases h
def sh{α:Type}{xs:List α}{i:Int}{v:α}(h:jJ xs i=some v):∃ j,seqIndex? i xs.length=some j/\xs[j]?=some v/\j<xs.length/\-(xs.length:Int)<=i/\i<xs.length:=by
 unfold jJ at h
 cases e:sQ xs.length i with
 | none=>rw [e] at h;cases h
 | some j=>
  rw [e] at h
  obtain⟨h1,h2,h3,h4⟩:=rL e
  exact⟨j,h1,h,h2,h3,h4⟩
def gm(b:Expr):Prop:=∀ o i,subscripted b false o i=operate [o,i] (getItem o i)
def IxR(X:Cx)(r:R2):Prop:=
 ∀ (value slice:Expr) (pins:List (Addr×Obj)) (s:Shared) (σ:St) (H:Hp) (x y:V) (v u:Value) (Q:VK),Inv X pins σ H s->RelV x v->RelV y u->r x y H Q ->
  subscripted slice false v u=operate [v,u] (getItem v u)->wpAny (model X.prog X.w) X.A (subscriptTail value slice v u) (EP X pins σ Q) X.xe s
def MtR(X:Cx)(id:String)(r:V->List V->Hp->VK->Prop):Prop:=
 ∀ (pins:List (Addr×Obj)) (s:Shared) (σ:St) (H:Hp) (x:V) (xs:List V) (v:Value) (us:List Value) (Q:VK),Inv X pins σ H s->RelV x v->Vals xs us->r x xs H Q ->
  wpAny (model X.prog X.w) X.A (call (.builtin id) (v::us)) (EP X pins σ Q) X.xe s
section
variable{X:Cx}{a b:Expr}{ta tb:TE}{pos:Pos}
def IxR.or{r r':R2}(h:IxR X r)(h':IxR X r'):IxR X (fun x y H Q=>r x y H Q\/r' x y H Q):=by
 intro value slice pins s σ H x y v u Q I rx ry q hs
 rcases q with q | q
 ·exact h value slice pins s σ H x y v u Q I rx ry q hs
 ·exact h' value slice pins s σ H x y v u Q I rx ry q hs
def zS{r:R2}(hr:IxR X r)(ha:PE X a ta)(hb:PE X b tb)(hs:gm b):PE X (.Subscript a b pos) (tOp r ta tb):=by
 intro pins s σ H Q I h
 exact Subscript_ (Dl ha hb I h fun v u s2 x y H2 I2 rx ry q=>hr a b pins s2 σ H2 x y v u Q I2 rx ry q (hs _ _))
noncomputable def rIxL(K:W.Frag):R2:=fun x y H Q=>∃ p xs i v,x=.ref p/\y=.int i/\fK K H p xs/\jJ xs i=some v/\Q v H
noncomputable def rIxT(K:W.Frag):R2:=fun x y H Q=>∃ p xs i v,x=.ref p/\y=.int i/\hJ K H p xs/\jJ xs i=some v/\Q v H
def ix_list:IxR X (rIxL X.K):=by
 intro value slice pins s σ H x y v u Q I rx ry h hs
 obtain⟨p,xs,i,z,rfl,rfl,hq,he,q⟩:=h
 cases rx
 obtain⟨t,rfl⟩:=ry
 obtain⟨its,r,pl,hz⟩:=I.list hq
 obtain⟨j,h1,h2,h3,h4,h5⟩:=sh he
 obtain⟨w,ew,rw'⟩:=r.get h2
 have hl:=r.length
 have hn:=gz
 have fin:EP X pins σ Q w s:=⟨z,H,I,rw',q⟩
 by_cases h0:0<=i
 ·have hj:i.toNat=j:=by
   rw [Gy h0 h5] at h1
   exact Ek h1
  exact item_listR pl.isList h0 (by omega) (by rw [hj];simpa using ew) fin hs
 ·have hj:(i+(its.toArray.size:Int)).toNat=j:=by
   rw [Gn (by omega) h4] at h1
   rw [DB,<- hl]
   exact Ek h1
  exact Gg (x:=w) pl.isList.typeIs slot_list_getitem.lookup
   (wpAny_getItem_list_neg (Q:=fun r s'=>r=w/\EP X pins σ Q r s') pl.isList (by omega) (by rw [DB] <;> omega) (by omega) (by rw [hj];simpa using ew) ⟨rfl,fin⟩) hs
def Cf:IxR X (rIxT X.K):=by
 intro value slice pins s σ H x y v u Q I rx ry h hs
 obtain⟨p,xs,i,z,rfl,rfl,hq,he,q⟩:=h
 cases rx
 obtain⟨t,rfl⟩:=ry
 obtain⟨its,r,pl,hz⟩:=I.tuple hq
 obtain⟨j,h1,h2,h3,h4,h5⟩:=sh he
 obtain⟨w,ew,rw'⟩:=r.get h2
 have hl:=r.length
 have hn:=gz
 have fin:EP X pins σ Q w s:=⟨z,H,I,rw',q⟩
 exact Gg (x:=w) pl.typeIs slot_tuple_getitem.lookup
  (getItem_tuple (j:=j) (Q:=fun r s'=>r=w/\EP X pins σ Q r s') pl (by omega) (by omega) (by rw [DB,<- hl];exact h1) (by simpa using ew) ⟨rfl,fin⟩) hs
def pO(its:List Value)(n j:Nat)(u:Value):Obj.mapSeq (·.setIfInBounds j u) { cls:=.type "list",data:=.seq its.toArray n } = { cls:=.type "list",data:=.seq (its.set j u).toArray n }:=by
 simp [Obj.mapSeq]
theorem Inv.lst{pins:List (Addr×Obj)}{σ:St}{H:Hp}{s:Shared}{p:Addr}{xs:List V}(I:Inv X pins σ H s)(h:H p=some (.lst xs)) :
  ∃ (its:List Value) (n:Nat),Vals xs its/\s.heap.get? p=some { cls:=.type "list",data:=.seq its.toArray n }/\xs.length<=sizeLine:=by
 obtain⟨z,its,n,r,e⟩:=I.hok p _ h
 exact⟨its,n,r,e,z⟩
def Inv.lstUpd{pins:List (Addr×Obj)}{σ:St}{H:Hp}{s:Shared}{p:Addr}{xs ys:List V}{its its':List Value}{n n':Nat}{f:Obj->Obj}(I:Inv X pins σ H s)(h:H p=some (.lst xs))
  (ho:s.heap.get? p=some { cls:=.type "list",data:=.seq its.toArray n }) (hf:f { cls:=.type "list",data:=.seq its.toArray n } = { cls:=.type "list",data:=.seq its'.toArray n' }) (r:Vals ys its') (hz:ys.length<=sizeLine) (t:Nat) :
  Inv X pins σ (upd H p (.lst ys)) { s with heap:=s.heap.update p f,toks:=t }:=by
 have e:(s.heap.update p f).get? p=some { cls:=.type "list",data:=.seq its'.toArray n' }:=by
  rw [Heap.get?_update_self f ho (by rw [hf] <;> rfl),hf]
 refine I.write (x:=p) (e:=p) (by rw [h];trivial) (.inl rfl) (fun b u hb q=>(Gj _ _ (Ne.symm hb)).trans q) ⟨_,e⟩ ?_
 exact⟨hz,its',n',r,e⟩
def rSetL:V->V->V->Hp->(Hp->Prop)->Prop:=fun o i v H Q=>∃ p xs k j,o=.ref p/\i=.int k/\H p=some (.lst xs)/\sQ xs.length k=some j/\Q (upd H p (.lst (xs.set j v)))
def uw:PSet X rSetL:=by
 intro pins s σ H o i v ov iv u Q I ro ri rv h
 obtain⟨p,xs,k,j,rfl,rfl,hp,hj,q⟩:=h
 cases ro
 obtain⟨t,rfl⟩:=ri
 obtain⟨its,n,r,ho,hz⟩:=I.lst hp
 obtain⟨h1,h2,h3,h4⟩:=rL hj
 have hl:=r.length
 have hn:=gz
 have I':Inv X pins σ (upd H p (.lst (xs.set j v))) { s with heap:=s.heap.update p (Obj.mapSeq (·.setIfInBounds j u)) }:=
  I.lstUpd hp ho (pO its n j u) (r.set rv j) (by rw [List.length_set];exact hz) s.toks
 by_cases h0:0<=k
 ·have hk:k.toNat=j:=by
   rw [Gy h0 h4] at h1
   exact Ek h1
  exact W.ki_setAt ho h0 (by omega) (by rw [DB,<- hl];exact h4) (by rw [hk];exact⟨_,I',q⟩)
 ·have hk:(k+(its.toArray.size:Int)).toNat=j:=by
   rw [Gn (by omega) h3] at h1
   rw [DB,<- hl]
   exact Ek h1
  exact W.ki_setBack ho (by omega) (by rw [DB,<- hl];exact h3) (by omega) (by rw [hk];exact⟨_,I',q⟩)
def lA(lo hi:Option Int)(n:Nat):(sliceBounds lo hi none n).1=((HT.bH n 0 lo:Nat):Int)/\(sliceBounds lo hi none n).2.1=((HT.bH n n hi:Nat):Int)/\(sliceBounds lo hi none n).2.2=1:=by
 refine⟨?_,?_,rfl⟩
 ·cases lo with
  | none=>simp [sliceBounds,HT.bH]
  | some i=>
   simp only [sliceBounds,HT.bH,Option.getD_none,show (1:Int)>0 by decide,FQ]
   by_cases h:i<0
   ·simp only [h,FQ] <;> omega
   ·simp only [h,Fy] <;> omega
 ·cases hi with
  | none=>simp [sliceBounds,HT.bH]
  | some i=>
   simp only [sliceBounds,HT.bH,Option.getD_none,show (1:Int)>0 by decide,FQ]
   by_cases h:i<0
   ·simp only [h,FQ] <;> omega
   ·simp only [h,Fy] <;> omega
def jQ(its:List Value)(lo hi:Option Int):slicePick its.toArray lo hi none=((its.drop (HT.bH its.length 0 lo)).take (HT.bH its.length its.length hi - HT.bH its.length 0 lo)).toArray:=by
 obtain⟨h1,h2,h3⟩:=lA lo hi its.toArray.size
 unfold slicePick
 rw [h1,h2,h3]
 simp only [sliceRange_one,pick_run,DB] <;> rfl
def rSlL(K:W.Frag):V->Option Int->Option Int->Hp->VK->Prop:=fun x lo hi H Q=>∃ a xs,x=.ref a/\fK K H a xs/\∀ p,H p=none->Q (.ref p) (upd H p (.lst (oQ xs lo hi)))
def xA:SlR X (rSlL X.K):=by
 intro pins s σ H x v vl vu lo hi sl Q I rx hs pl pu h
 obtain⟨a,xs,rfl,hx,q⟩:=h
 cases rx
 obtain⟨its,r,ht,hz⟩:=I.list hx
 have hlen:=r.length
 refine⟨"list",_,slot_list_getitem.lookup,ht.isList.typeIs,?_⟩
 refine wpAny_getItem_list_slice ht.isList hs pl pu .none (by simp) ?_ (by rw [DB] <;> omega)
 rw [jQ,<- hlen]
 refine⟨.ref s.heap.objs.size,_,I.laid (t':=s.toks) (o:=.lst (oQ xs lo hi)) (fun b ob q=>DJ _ q) (DK _) ?_,rfl,q _ (I.hok.fresh (DK _))⟩
 exact⟨Er (gX xs lo hi) hz,_,0,(r.drop (HT.bH xs.length 0 lo)).take (HT.bH xs.length xs.length hi - HT.bH xs.length 0 lo),DY _ rfl⟩
def call_len_seq:CallR X (.builtin "len") (fun xs H Q=>∃ p ys,xs=[.ref p]/\(fK X.K H p ys\/hJ X.K H p ys)/\Q (.int ys.length) H):=by
 intro pins s σ H xs us Q I r h
 obtain⟨p,ys,rfl,hq,q⟩:=h
 obtain⟨u,rfl,rx⟩:=er r
 cases rx
 have hn:=gz
 rcases hq with hq | hq
 ·obtain⟨its,r',pl,hz⟩:=I.list hq
  have hlen:=r'.length
  exact Calls.call_len_list pl.isList (by simp only [DB] <;> omega) ⟨.int ys.length,H,I.tok _,⟨s.toks+1,by rw [DB,hlen]⟩,q⟩
 ·obtain⟨its,r',pl,hz⟩:=I.tuple hq
  have hlen:=r'.length
  exact len_tuple pl (by simp only [DB] <;> omega) ⟨.int ys.length,H,I.tok _,⟨s.toks+1,by rw [DB,hlen]⟩,q⟩
def mN:CallR X (.builtin "len") (fun xs H Q=>∃ z,xs=[.str z]/\z.length<=sizeLine/\Q (.int z.length) H):=by
 intro pins s σ H xs us Q I r h
 obtain⟨z,rfl,hz,q⟩:=h
 obtain⟨u,rfl,t,rfl⟩:=er r
 have hn:=gz
 exact len_str (by omega) ⟨.int z.length,H,I.tok _,⟨_,rfl⟩,q⟩
def CallR.or{f:Value}{r r':List V->Hp->VK->Prop}(h:CallR X f r)(h':CallR X f r'):CallR X f (fun xs H Q=>r xs H Q\/r' xs H Q):=by
 intro pins s σ H xs us Q I rs q
 rcases q with q | q
 ·exact h pins s σ H xs us Q I rs q
 ·exact h' pins s σ H xs us Q I rs q
def mM:CallR X (.type "list") (fun xs H Q=>∃ p ys,xs=[.ref p]/\(fK X.K H p ys\/hJ X.K H p ys)/\∀ l,H l=none->Q (.ref l) (upd H l (.lst ys))):=by
 intro pins s σ H xs us Q I r h
 obtain⟨p,ys,rfl,hq,q⟩:=h
 obtain⟨u,rfl,rx⟩:=er r
 cases rx
 have fin:∀ (its:List Value),Vals ys its->ys.length<=sizeLine->∀ (h':Heap) (c':Nat),(∀ b o',s.heap.get? b=some o'->h'.get? b=some o') ->
   h'.get? s.heap.objs.size=some { cls:=.type "list",dict:=none,data:=.seq its.toArray c',slots:=#[] }->EP X pins σ Q (.ref s.heap.objs.size) { s with heap:=h' }:=fun its r' hz h' c' kp e=>
  ⟨.ref s.heap.objs.size,_,I.laid (t':=s.toks) kp (DK _) (show ObjOk X.prog X.w _ h' _ (.lst ys) from ⟨hz,its,c',r',e⟩),rfl,q _ (I.hok.fresh (DK _))⟩
 rcases hq with hq | hq
 ·obtain⟨its,r',pl,hz⟩:=I.list hq
  have hlen:=r'.length
  obtain⟨o,ho,hc,n,hd⟩:=pl.isList
  exact call_list_seq p (.inl rfl) ho hc hd (fun h' c' kp e=>fin its r' hz h' c' kp e) (by simp only [DB] <;> omega)
 ·obtain⟨its,r',pl,hz⟩:=I.tuple hq
  have hlen:=r'.length
  obtain⟨o,ho,hc,n,hd⟩:=pl
  exact call_list_seq p (.inr rfl) ho hc hd (fun h' c' kp e=>fin its r' hz h' c' kp e) (by simp only [DB] <;> omega)
def kh:CallR X (.type "tuple") (fun xs H Q=>∃ p ys,xs=[.ref p]/\((fK X.K H p ys/\∀ l,H l=none->Q (.ref l) (upd H l (.tup ys)))\/(hJ X.K H p ys/\Q (.ref p) H))):=by
 intro pins s σ H xs us Q I r h
 obtain⟨p,ys,rfl,h⟩:=h
 obtain⟨u,rfl,rx⟩:=er r
 cases rx
 rcases h with ⟨hq,q⟩ | ⟨hq,q⟩
 ·obtain⟨its,r',pl,hz⟩:=I.list hq
  have hlen:=r'.length
  refine call_tuple_list pl.isList (fun h' kp=>?_) (by simp only [DB] <;> omega)
  have I1:Inv X pins σ H { s with heap:=h' }:=I.kept (t':=s.toks) kp
  have I2:Inv X pins σ (upd H h'.objs.size (.tup ys)) { s with heap:=h'.push { cls:=.type "tuple",data:=.seq its.toArray } }:=
   I1.laid (t':=s.toks) (fun b o e=>DJ _ e) (DK _) (show ObjOk X.prog X.w _ _ _ (.tup ys) from ⟨hz,its,r',IsTupN.new _ _⟩)
  exact⟨.ref h'.objs.size,_,I2,rfl,q _ (I1.hok.fresh (DK _))⟩
 ·obtain⟨its,r',pl,hz⟩:=I.tuple hq
  exact call_tuple_same pl ⟨.ref p,H,I,rfl,q⟩
def tyV(K:W.Frag)(T:String)(x:V)(H:Hp):Prop:=match x with
 | .str _=>T = "str"
 | .int _=>T = "int"
 | .ref p=>(T = "list"/\∃ xs,fK K H p xs)\/(T = "tuple"/\∃ o,K.lookup p=some o/\o.cls=.type "tuple"/\o.dict=none) \/
   (T = "dict"/\((∃ kvs,H p=some (.dK kvs))\/∃ kvs,H p=some (.dT kvs)))\/(T = "set"/\∃ S n,H p=some (.set S n))
 | _=>False
def Ax{pins:List (Addr×Obj)}{σ:St}{H:Hp}{s:Shared}{T:String}{x:V}{v:Value}(I:Inv X pins σ H s)(r:RelV x v)(ty:tyV X.K T x H) :
  s.TypeIs v T/\∀ a,v=.ref a->∃ ob,s.heap.get? a=some ob/\ob.dict=none:=by
 cases x with
 | str z=>
  obtain⟨t,rfl⟩:=r
  cases (show T = "str" from ty)
  exact⟨typeIs_str s z t,fun _ e=>nomatch e⟩
 | int i=>
  obtain⟨t,rfl⟩:=r
  cases (show T = "int" from ty)
  exact⟨FE s i t,fun _ e=>nomatch e⟩
 | ref p=>
  cases r
  rcases ty with ⟨rfl,xs,hq⟩ | ⟨rfl,o,hk,hc,hd⟩ | ⟨rfl,hk⟩ | ⟨rfl,S,n,hk⟩
  ·obtain⟨its,_,pl,_⟩:=I.list hq
   refine⟨pl.isList.typeIs,fun a e=>?_⟩
   cases e
   obtain⟨o,n,e,c,hd,_⟩:=pl
   exact⟨o,e,hd⟩
  ·refine⟨⟨o,I.kIn p o hk,hc⟩,fun a e=>?_⟩
   cases e
   exact⟨o,I.kIn _ o hk,hd⟩
  ·have z:∃ o,s.heap.get? p=some o/\o.ExactDict:=by
    rcases hk with ⟨kvs,hk⟩ | ⟨kvs,hk⟩
    ·obtain⟨_,_,_,_,o,_,_,e,ex,_⟩:=I.hok p _ hk
     exact⟨o,e,ex⟩
    ·obtain⟨_,_,_,_,o,_,_,e,ex,_⟩:=I.hok p _ hk
     exact⟨o,e,ex⟩
   obtain⟨o,e,ex⟩:=z
   refine⟨⟨o,e,ex.1⟩,fun a e2=>?_⟩
   cases e2
   exact⟨o,e,ex.2.1⟩
  ·obtain⟨o,_,_,_,e,ex,_⟩:=I.hok p _ hk
   refine⟨⟨o,e,ex.1⟩,fun a e2=>?_⟩
   cases e2
   exact⟨o,e,ex.2.1⟩
 | _=>exact False.elim ty
def tBM(K:W.Frag)(T:String)(r:V->List V->Hp->VK->Prop)(to:TE)(t:TA):TE:=fun σ H Q=>to σ H fun x H1=>tyV K T x H1/\t σ H1 fun xs H2=>r x xs H2 Q
variable{o e:Expr}{es:List Expr}{to:TE}{t:TA}{name:Str}{apos cpos:Pos}{T id:String}{r:V->List V->Hp->VK->Prop}
def pe_bm(pa:PlainAttrs T)(slot:Slot T name id)(hty:typeOf (.builtin id)=pure (.type "method_descriptor"))(hm:MtR X id r)(ho:PE X o to)(ha:PA X (e::es) t)
  (hbase:attributeBase o name X.env (eval o X.env)=eval o X.env:=by rfl)
  (hfew:((backTo cpos (starEach (e::es) X.env)).all (fun x=>!x.1)&&(backToKw cpos (keywordEach [] X.env)).all (fun x=>x.1.isSome)
   && decide ((e::es).length+([]:List Keyword).length+(if ([]:List Keyword).isEmpty then 0 else 1)<30))=true:=by rfl)
  (hline:(apos.endLine == cpos.line)=true:=by rfl) (hs:starEach (e::es) X.env=(false,eval e X.env)::starEach es X.env:=by rfl) (hplain:(backTo cpos (starEach es X.env)).any (·.1)=false:=by rfl) :
  PE X (.Call (.Attribute o name apos) (e::es) [] cpos) (tBM X.K T r to t):=by
 intro pins s σ H Q I h
 refine Gf hbase hfew hline rfl (bj (ho pins s σ H _ I h) fun v s1 ⟨x,H1,I1,r1,ty,q1⟩=>?_)
 obtain⟨h1,h2⟩:=Ax I1 r1 ty
 refine⟨T,id,pa,slot,hty,h1,h2,?_⟩
 have hA:=ha cpos pins s1 σ H1 _ I1 q1
 rw [hs] at hA ⊢
 refine Gk (by show (false||(backTo cpos (starEach es X.env)).any (·.1))=false;rw [hplain] <;> rfl) (Gv ?_)
 exact bj hA fun us s2 ⟨vs,H2,I2,r2,q2⟩=>hm pins s2 σ H2 x vs v us Q I2 r1 r2 q2
end
def MtM(X:Cx)(id:String)(r:V->List V->Hp->VK->Prop):Prop:=
 ∀ (pins:List (Addr×Obj)) (s:Shared) (σ:St) (H:Hp) (x:V) (xs:List V) (v:Value) (us:List Value) (Q:VK),Inv X pins σ H s->RelV x v->Vals xs us->r x xs H Q ->
  wpAny (model X.prog X.w) X.A (call (.builtin id) (v::us)) (EP X pins σ Q) X.xe s
def Vals.one:∀ {x:V} {us:List Value},Vals [x] us->∃ u,us=[u]/\RelV x u
 | _,_,.cons r .nil=>⟨_,rfl,r⟩
def Vals.two:∀ {x y:V} {us:List Value},Vals [x,y] us->∃ u v,us=[u,v]/\RelV x u/\RelV y v
 | _,_,_,.cons r (.cons q .nil)=>⟨_,_,rfl,r,q⟩
theorem Vals.rep{xs:List V}{us:List Value}(h:Vals xs us):∀ k:Nat,Vals (List.replicate k xs).flatten (List.replicate k us).flatten
 | 0=>.nil
 | k+1=>by
  rw [Ef,Ef,Et,Et]
  exact Vals.append h (Vals.rep h k)
theorem lf(its:List Value):∀ (k:Nat) (acc:List Value),
  List.foldl (fun x1 x2=>x1++x2) acc.toArray (List.replicate k its.toArray)=(acc++(List.replicate k its).flatten).toArray
 | 0,acc=>by simp
 | k+1,acc=>by
  have e:acc.toArray++its.toArray=(acc++its).toArray:=by simp
  have e2:(acc++its)++(List.replicate k its).flatten=acc++(List.replicate (k+1) its).flatten:=by
   rw [Ef,Et,ED]
  rw [<- e2,<- lf its k (acc++its),<- e,Ef,List.foldl_cons]
section
variable{X:Cx}{pins:List (Addr×Obj)}{σ:St}{H:Hp}{s:Shared}{l b:Addr}{xs ys zs:List V}
def Inv.lset{its its':List Value}{n:Nat}{f:Array Value->Array Value}{t':Nat}(I:Inv X pins σ H s)(hH:H l=some (.lst xs))
  (e:s.heap.get? l=some { cls:=.type "list",data:=.seq its.toArray n }) (hf:f its.toArray=its'.toArray) (hv:Vals ys its') (hz:ys.length<=sizeLine) :
  Inv X pins σ (upd H l (.lst ys)) { s with heap:=s.heap.update l (Obj.mapSeq f),toks:=t' }:=by
 have q:=PySem.IsL.update e f
 rw [hf] at q
 refine I.write (x:=l) (e:=l) (by rw [hH];exact trivial) (.inl rfl) (fun b' u hb hu=>(Gj s.heap (Obj.mapSeq f) (Ne.symm hb)).trans hu) ⟨_,q⟩ ?_
 exact⟨hz,its',_,hv,q⟩
def Inv.lnew{its:List Value}{t':Nat}(I:Inv X pins σ H s)(hv:Vals ys its)(hz:ys.length<=sizeLine) :
  Inv X pins σ (upd H s.heap.objs.size (.lst ys)) { s with heap:=s.heap.push { cls:=.type "list",data:=.seq its.toArray },toks:=t' }:=
 I.laid (fun _ _ q=>DJ _ q) (DK _) ⟨hz,its,0,hv,DY _ rfl⟩
theorem Inv.fresh(I:Inv X pins σ H s):H s.heap.objs.size=none:=I.hok.fresh (DK _)
def Inv.lstM(I:Inv X pins σ H s)(hH:H l=some (.lst xs)):xs.length<=sizeLine/\∃ (its:List Value) (n:Nat),Vals xs its/\xs.length=its.length/\s.heap.get? l=some { cls:=.type "list",data:=.seq its.toArray n }:=by
 obtain⟨z,its,n,r,e⟩:=I.hok l _ hH
 exact⟨z,its,n,r,r.length,e⟩
def nD{n:Nat}(h:n<=sizeLine):Builtin.List.listTooLong n=false:=by
 unfold Builtin.List.listTooLong
 exact Eo (by omega)
end
section
variable{X:Cx}
def xG:V->List V->Hp->VK->Prop:=fun x vs H Q=>∃ l xs y,x=.ref l/\vs=[y]/\H l=some (.lst xs)/\xs.length<sizeLine/\Q .non (upd H l (.lst (xs++[y])))
def kH:MtM X "list.append" xG:=by
 intro pins s σ H x vs v us Q I rx rv h
 obtain⟨l,xs,y,rfl,rfl,hH,hz,q⟩:=h
 cases rx
 obtain⟨u,rfl,ru⟩:=rv.one
 obtain⟨z,its,n,r,hl,e⟩:=I.lstM hH
 refine Fg GF ⟨_,e,rfl⟩ F.entry_list_append (F.args_list_append_2 _ _) (PySem.list_append l its.toArray n u (by rw [DB];omega)) ⟨e,?_⟩
 refine⟨.non,_,I.lset (its':=its++[u]) hH e (by simp) (r.append (.cons ru .nil)) ?_,rfl,q⟩
 rw [Eu,Gr]
 omega
def xF:V->List V->Hp->VK->Prop:=fun x vs H Q=>∃ l b xs zs,x=.ref l/\vs=[.ref b]/\H l=some (.lst xs)/\H b=some (.lst zs)/\xs.length+zs.length<=sizeLine/\Q .non (upd H l (.lst (xs++zs)))
def mt_extend:MtM X "list.extend" xF:=by
 intro pins s σ H x vs v us Q I rx rv h
 obtain⟨l,b,xs,zs,rfl,rfl,hH,hB,hz,q⟩:=h
 cases rx
 obtain⟨u,rfl,ru⟩:=rv.one
 cases ru
 obtain⟨z,its,n,r,hl,e⟩:=I.lstM hH
 obtain⟨z2,its2,n2,r2,hl2,e2⟩:=I.lstM hB
 have hsz:its.toArray.size+its2.toArray.size<=sizeLine:=by rw [DB,DB];omega
 have hlong:¬ (!its.toArray.isEmpty&&Builtin.List.listTooLong (its.toArray.size+its2.toArray.size))=true:=by
  rw [nD hsz,FY]
  exact DM
 refine Fg F.slot_list_extend ⟨_,e,rfl⟩ F.entry_list_extend (F.args_list_extend_2 _ _)
  (AutoSeq1.list_extend_list_list_0 l its.toArray n b its2.toArray n2 hlong (by rw [DB];omega) (by omega)) ⟨e,e2,?_⟩
 refine⟨.non,_,I.lset (its':=its++its2) hH e (by simp) (r.append r2) ?_,rfl,q⟩
 rw [Eu]
 omega
noncomputable def rCat:R2:=fun x y H Q=>∃ l b xs zs,x=.ref l/\y=.ref b/\H l=some (.lst xs)/\H b=some (.lst zs)/\xs.length+zs.length<=sizeLine/\∀ p,H p=none->Q (.ref p) (upd H p (.lst (xs++zs)))
def uU:OpR X (binaryOp .Add) rCat:=by
 intro pins s σ H x y v u Q I rx ry h
 obtain⟨l,b,xs,zs,rfl,rfl,hH,hB,hz,q⟩:=h
 cases rx
 cases ry
 obtain⟨z,its,n,r,hl,e⟩:=I.lstM hH
 obtain⟨z2,its2,n2,r2,hl2,e2⟩:=I.lstM hB
 refine PySem.P.add_list e e2 ?_ (by rw [DB,DB];omega)
 have ea:its.toArray++its2.toArray=(its++its2).toArray:=by simp
 rw [ea]
 exact⟨.ref _,_,I.lnew (t':=s.toks) (r.append r2) (by rw [Eu];omega),rfl,q _ I.fresh⟩
noncomputable def rRep:R2:=fun x y H Q=>∃ l k xs,x=.ref l/\y=.int k/\H l=some (.lst xs)/\-(2 ^ 63)<=k/\k<2 ^ 63/\xs.length * k.toNat<=sizeLine /\
 ∀ p,H p=none->Q (.ref p) (upd H p (.lst (List.replicate k.toNat xs).flatten))
def lZ{α:Type}(xs:List α)(k:Nat):(List.replicate k xs).flatten.length=k * xs.length:=by
 induction k with
 | zero=>simp
 | succ k ih=>rw [Ef,Et,Eu,ih,Nat.succ_mul,Nat.add_comm]
def Bk:OpR X (binaryOp .Mult) rRep:=by
 intro pins s σ H x y v u Q I rx ry h
 obtain⟨l,k,xs,rfl,rfl,hH,h1,h2,hz,q⟩:=h
 cases rx
 obtain⟨t,rfl⟩:=ry
 obtain⟨z,its,n,r,hl,e⟩:=I.lstM hH
 have hlen:its.toArray.size * k.toNat<=sizeLine:=by rw [DB,<- hl];exact hz
 have hcap:¬ its.toArray.size * k.toNat>(2 ^ 63 - 1) / 8:=by
  have:(sizeLine:Nat)<=(2 ^ 63 - 1) / 8:=by decide
  omega
 have hfit:¬ (!Builtin.List.listFitsIndex k)=true:=by
  rw [fitsIndex_both h1 h2]
  exact DM
 have hlong:¬ Builtin.List.listTooLong (its.toArray.size * k.toNat)=true:=by
  rw [nD hlen]
  exact DM
 have hnew:List.foldl (fun x1 x2=>x1++x2) #[] (List.replicate (if its.toArray.isEmpty=true then 0 else k.toNat) its.toArray)=(List.replicate k.toNat its).flatten.toArray:=by
  have f0:∀ m:Nat,List.foldl (fun x1 x2=>x1++x2) #[] (List.replicate m its.toArray)=(List.replicate m its).flatten.toArray:=fun m=>by
   have:=lf its m []
   rw [List.nil_append] at this
   exact this
  rw [f0]
  cases its with
  | nil=>simp
  | cons a r'=>rw [Eh (by simp)]
 refine FV (T:="list") (U:="int") (by decide) ⟨_,e,rfl⟩ (fun s'=>FE s' k t) noFill_list_mul F.fills_int_mul Fq repeat_list F.slot_int_index.lookup
  (Fg Fq (FE s k t) F.entry_int_rmul (F.args_int_rmul_2 _ _) (int___rmul___int_list k t l its.toArray n)
   ⟨e,rfl,⟨_,e,rfl⟩,Fg F.slot_list_mul ⟨_,e,rfl⟩ F.entry_list_mul (F.args_list_mul_2 _ _) (AutoListH.list___mul___list_int_3 l its.toArray n k t hfit hcap hlong) ⟨e,?_⟩⟩)
 rw [hnew]
 exact⟨.ref _,_,I.lnew (t':=s.toks) (r.rep k.toNat) (by rw [lZ,FI];exact hz),rfl,q _ I.fresh⟩
end
section
variable{prog:Program}{w:World}{A:Around}{E:Value->Shared->Prop}{s:Shared}
end
section
variable{X:Cx}
end
section
variable{κ:Type}[DecidableEq κ]
noncomputable def gq(kvs:List (κ×V))(k:κ):Option V:=(kvs.find? fun kv=>decide (kv.1=k)).map (·.2)
noncomputable def jU(kvs:List (κ×V))(k:κ)(v:V):List (κ×V):=
 if (kvs.any fun kv=>decide (kv.1=k))=true then kvs.map (fun kv=>if kv.1=k then (kv.1,v) else kv) else kvs++[(k,v)]
def iD{p:κ×V}{r:List (κ×V)}{k:κ}(e:p.1=k):gq (p::r) k=some p.2:=by simp [gq,ER,e]
def fL{p:κ×V}{r:List (κ×V)}{k:κ}(e:¬ p.1=k):gq (p::r) k=gq r k:=by simp [gq,ER,e]
def og(kvs:List (κ×V))(k:κ)(v:V):(jU kvs k v).length<=kvs.length+1:=by
 unfold jU
 split
 ·rw [EI];omega
 ·rw [Eu,DR,EH];omega
theorem RelO.getD{o:Option V}{u:Option Value}{d:V}{d':Value}(r:RelO o u)(rd:RelV d d'):RelV (o.getD d) (u.getD d'):=by
 cases o with
 | none=>cases u with
  | none=>exact rd
  | some _=>exact(show False from r).elim
 | some _=>cases u with
  | none=>exact(show False from r).elim
  | some _=>exact r
def KV.val{kvs:List (κ×V)}{vs:List (κ×Value)}(r:KV kvs vs)(k:κ):RelO (gq kvs k) (valueAt vs k):=by
 unfold KV at r
 induction r with
 | nil=>exact True.intro
 | @cons p q ps qs h t ih=>
  obtain⟨h1,h2⟩:=h
  by_cases e:p.1=k
  ·have e':q.1=k:=h1.symm.trans e
   have b:valueAt (q::qs) k=some q.2:=by simp [valueAt,ER,e']
   rw [iD e,b];exact h2
  ·have e':¬ q.1=k:=fun z=>e (h1.trans z)
   have b:valueAt (q::qs) k=valueAt qs k:=by simp [valueAt,ER,e']
   rw [fL e,b];exact ih
theorem KV.any{kvs:List (κ×V)}{vs:List (κ×Value)}(r:KV kvs vs)(k:κ):(kvs.any fun kv=>decide (kv.1=k))=vs.any fun kv=>decide (kv.1=k):=by
 unfold KV at r
 induction r with
 | nil=>rfl
 | cons h t ih=>rw [EY,EY,ih,h.1]
def KV.repl{kvs:List (κ×V)}{vs:List (κ×Value)}(r:KV kvs vs)(k:κ){y:V}{u:Value}(ry:RelV y u) :
  KV (kvs.map fun kv=>if kv.1=k then (kv.1,y) else kv) (vs.map fun kv=>if kv.1=k then (kv.1,u) else kv):=by
 unfold KV at r ⊢
 induction r with
 | nil=>exact .nil
 | @cons p q ps qs h t ih=>
  rw [DZ,DZ]
  refine .cons ?_ ih
  obtain⟨h1,h2⟩:=h
  by_cases e:p.1=k
  ·rw [DU e,DU (h1.symm.trans e)];exact⟨h1,ry⟩
  ·rw [Eh e,Eh (fun z=>e (h1.trans z))];exact⟨h1,h2⟩
def KV.put{kvs:List (κ×V)}{vs:List (κ×Value)}(r:KV kvs vs)(k:κ){y:V}{u:Value}(ry:RelV y u):KV (jU kvs k y) (stored vs k u):=by
 unfold jU stored
 rw [r.any k]
 by_cases e:(vs.any fun kv=>decide (kv.1=k))=true
 ·rw [DU e,DU e];exact r.repl k ry
 ·rw [Eh e,Eh e];exact Paired.snoc r ⟨rfl,ry⟩
end
def jo{P:Program}{w:World}{k:ao}{u:Value}(r:RelV (kV k) u):(av P w).is k u=true:=by
 cases k with
 | inl i=>obtain⟨t,e⟩:=(show ∃ t,u=Value.int i t from r);subst e;exact nI P w i t
 | inr x=>obtain⟨t,e⟩:=(show ∃ t,u=Value.str x t from r);subst e;exact nH P w x t
theorem kU{P:Program}{w:World}:∀ {ks:List ao} {us:List Value},Vals (ks.map kV) us->ItemsAre (av P w) ks us
 | [],_,r=>by rw [Gq] at r;cases r;exact .nil
 | k::ks,_,r=>by
  rw [DZ] at r
  cases r with
  | cons h t=>exact .cons (jo h) (kU t)
abbrev KT(H:Hp):List (List ao×V)->List (List ao×Addr×Value)->Prop:=Paired fun p q=>p.1=q.1/\H q.2.1=some (.tup (p.1.map kV))/\RelV p.2 q.2.2
def KT.val{H:Hp}{kvs:List (List ao×V)}{xs:List (List ao×Addr×Value)}(r:KT H kvs xs)(k:List ao):RelO (gq kvs k) ((atKey xs k).map (·.2)):=by
 induction r with
 | nil=>exact True.intro
 | @cons p q ps qs h t ih=>
  obtain⟨h1,_,h2⟩:=h
  by_cases e:p.1=k
  ·have e':q.1=k:=h1.symm.trans e
   have b:atKey (q::qs) k=some q.2:=by simp [atKey,ER,e']
   rw [iD e,b];exact h2
  ·have e':¬ q.1=k:=fun z=>e (h1.trans z)
   have b:atKey (q::qs) k=atKey qs k:=by simp [atKey,ER,e']
   rw [fL e,b];exact ih
section
variable{P:Program}{w:World}{H:Hp}{h:Heap}{a:Addr}
def zR{u:HO}(ok:HOk P w H h)(e:Rd H a u):ObjOk P w H h a u:=e.ok ok
def lj{kvs:List (ao×V)}(ok:HOk P w H h)(e:Rd H a (.dK kvs)):kvs.length<=sizeLine/\(a == sysModules)=false/\∃ vs,KV kvs vs/\h.DictOf (av P w) a vs:=
 show ObjOk P w H h a (.dK kvs) from zR ok e
def Ao{kvs:List (ao×V)}(ok:HOk P w H h)(e:H a=some (.dK kvs)):kvs.length<=sizeLine/\(a == sysModules)=false/\∃ vs,KV kvs vs/\h.DictOf (av P w) a vs:=lj ok (.inl e)
def mj{ks:List ao}(ok:HOk P w H h)(e:H a=some (.tup (ks.map kV))):(tupleKind (av P w)).is h ks a:=by
 obtain⟨_,its,r,o,h1,h2,⟨n,h3⟩,_⟩:=(show ObjOk P w H h a (.tup (ks.map kV)) from ok a _ e)
 exact⟨o,its.toArray,n,h1,h2,h3,by simpa using kU r⟩
def oK{kvs:List (List ao×V)}(ok:HOk P w H h)(e:Rd H a (.dT kvs)):kvs.length<=sizeLine/\(a == sysModules)=false /\
  ∃ xs,KT H kvs xs/\h.DictOfH (tupleKind (av P w)) a xs:=by
 obtain⟨z,y,xs,r,o,es,ep,h1,h2,h3,h4,h5⟩:=(show ObjOk P w H h a (.dT kvs) from zR ok e)
 refine⟨z,y,xs,r,o,es,ep,h1,h2,h3,h4,fun x hx=>?_,h5⟩
 have all:∀ {l:List (List ao×V)} {m:List (List ao×Addr×Value)},KT H l m->∀ x∈m,(tupleKind (av P w)).is h x.1 x.2.1:=by
  intro l m q
  induction q with
  | nil=>intro x hx;exact nomatch hx
  | @cons p q ps qs hq t ih=>
   intro x hx
   rcases Ep.mp hx with e | hx
   ·subst e
    exact mj ok (by rw [<- hq.1];exact hq.2.1)
   ·exact ih x hx
 exact all r x hx
end
def DGet(H:Hp)(a:Addr)(y:V)(r:Option V):Prop:=
 (∃ kvs k,Rd H a (.dK kvs)/\y=kV k/\r=gq kvs k)\/∃ kvs k b,Rd H a (.dT kvs)/\y=.ref b/\H b=some (.tup (k.map kV))/\r=gq kvs k
theorem DGet.k{H:Hp}{a:Addr}{kvs:List (ao×V)}{k:ao}(e:H a=some (.dK kvs)):DGet H a (kV k) (gq kvs k):=.inl ⟨kvs,k,.inl e,rfl,rfl⟩
section
variable{X:Cx}{pins:List (Addr×Obj)}{σ:St}{H:Hp}{s:Shared}{a:Addr}{y v:V}{u r:Value}{o:Option V}{A:Around}{E:Value->Shared->Prop}
def Inv.big(I:Inv X pins σ H s):sysModules<s.heap.objs.size:=by
 have h:mainGlobals<s.heap.objs.size:=(I.mod.glob.keeps I.bk).lt
 exact Nat.lt_trans (by decide) h
def tI{Q:Value->Shared->Prop}(hu:A.units+1<cLine)(I:Inv X pins σ H s)(g:DGet H a y (some v))(ry:RelV y u)(h:∀ w' s',Inv X pins σ H s'->RelV v w'->Q w' s') :
  wpAny (model X.prog X.w) A (getItem (.ref a) u) Q E s:=by
 rcases g with ⟨kvs,k,e,ey,l⟩ | ⟨kvs,k,b,e,ey,eb,l⟩
 ·subst ey
  obtain⟨z,hd,vs,rel,dd⟩:=lj I.hok e
  obtain⟨w',hw,rw'⟩:=RelO.some_of (v:=v) (o:=valueAt vs k) (by rw [l];exact rel.val k)
  exact wpAny_getItem_of (jo ry) dd.mapOf hw (h w' _ (I.tok _) rw')
 ·subst ey
  cases (show u=Value.ref b from ry)
  obtain⟨z,hd,xs,rel,dd⟩:=oK I.hok e
  obtain⟨w',hw,rw'⟩:=RelO.some_of (v:=v) (o:=(atKey xs k).map (·.2)) (by rw [l];exact rel.val k)
  obtain⟨p,hp,hp2⟩:=Gh.mp hw
  refine wpAny_getItem_heap (Fx hu) (mj I.hok eb) dd hp ?_
  rw [hp2]
  exact h w' _ (I.tok _) rw'
def rZ{h':Heap}{t':Nat}{ob:HO}(I:Inv X pins σ H s)(mu:Mut (H a))(hs:Heap.SameBut a s.heap h')(he:∃ q,h'.get? a=some q)(new:ObjOk X.prog X.w (upd H a ob) h' a ob) :
  Inv X pins σ (upd H a ob) { s with heap:=h',toks:=t' }:=
 I.write (x:=a) (e:=a) mu (.inl rfl) (fun b q hb z=>(hs.2 b hb).trans z) he new
def CL{P:Program}{w:World}{H':Hp}{h':Heap}{kvs:List (ao×V)}{vs:List (ao×Value)}(z:kvs.length<=sizeLine)(hd:(a == sysModules)=false)(rel:KV kvs vs)(dd:h'.DictOf (av P w) a vs) :
  ObjOk P w H' h' a (.dK kvs):=⟨z,hd,vs,rel,dd⟩
end
section
variable{X:Cx}{pins:List (Addr×Obj)}{σ:St}{H:Hp}{s:Shared}{a:Addr}{kvs:List (ao×V)}{k:ao}{u:Value}{A:Around}{E:Value->Shared->Prop}
end
def oN{X:Cx}{pins:List (Addr×Obj)}{σ:St}{H:Hp}{s:Shared}{a:Addr}{y:V}{o:Option V}(I:Inv X pins σ H s)(g:DGet H a y o):s.TypeIs (.ref a) "dict":=by
 rcases g with ⟨kvs,k,e,_,_⟩ | ⟨kvs,k,b,e,_,_,_⟩
 ·obtain⟨_,_,vs,_,dd⟩:=lj I.hok e
  exact dd.typeIs
 ·obtain⟨_,_,xs,_,dd⟩:=oK I.hok e
  exact dd.typeIs
section
variable{X:Cx}{o i e value:Expr}{pos pos' tpos:Pos}{td ty tv:TE}
end
def jE{P:Program}{w:World}{H:Hp}(h:Heap)(hb:sysModules<h.objs.size):ObjOk P w H (h.push { cls:=.type "dict",data:=.dict #[] }) h.objs.size (.dK []):=
 ⟨Fu _,Ex.mpr (Ne.symm (El hb)),[],.nil,Heap.DictOf.new h⟩
def AD:TE:=fun _ H Q=>∀ p,H p=none->Q (.ref p) (upd H p (.dK []))
section
variable{X:Cx}{pos:Pos}
def uM:PE X (.Dict [] [] pos) AD:=fun pins s σ H Q I h=>
 wpAny_Dict_empty ⟨.ref s.heap.objs.size,_,I.laid (a:=s.heap.objs.size) (o:=.dK []) (t':=s.toks) (fun _ _ q=>DJ _ q) (DK _) (jE s.heap I.big),rfl,h _ (I.hok.fresh (DK _))⟩
end
def iG:List (TE×TE)->St->Hp->(List (V×V)->Hp->Prop)->Prop
 | [],_,H,Q=>Q [] H
 | (tk,tv)::r,σ,H,Q=>tk σ H fun x H1=>tv σ H1 fun y H2=>iG r σ H2 fun ps H3=>Q ((x,y)::ps) H3
abbrev VV:List (V×V)->List (Value×Value)->Prop:=Paired fun p q=>RelV p.1 q.1/\RelV p.2 q.2
def PPs(X:Cx)(pos:Pos)(keys:List (Option Expr))(values:List Expr)(trs:List (TE×TE)):Prop:=
 ∀ (pins:List (Addr×Obj)) (s:Shared) (σ:St) (H:Hp) (Q:List (V×V)->Hp->Prop),Inv X pins σ H s->iG trs σ H Q ->
  wpAny (model X.prog X.w) X.A (evalPairs (pairTrees keys values X.env pos)) (fun vs s'=>∃ ps H',Inv X pins σ H' s'/\VV ps vs/\Q ps H') X.xe s
def qL{X:Cx}{pos:Pos}:PPs X pos [] [] []:=fun pins s σ H Q I h=>pairTrees_nil_walk ⟨[],H,I,.nil,h⟩
def nw{X:Cx}{pos:Pos}{k v:Expr}{ks:List (Option Expr)}{vs:List Expr}{tk tv:TE}{trs:List (TE×TE)}(hk:PE X k tk)(hv:PE X v tv)(hr:PPs X pos ks vs trs) :
  PPs X pos (some k::ks) (v::vs) ((tk,tv)::trs):=fun pins s σ H Q I h=>
 pairTrees_cons_walk (bj (hk pins s σ H _ I h) fun u s1 ⟨x,H1,I1,rx,q1⟩=>bj (hv pins s1 σ H1 _ I1 q1) fun w2 s2 ⟨y,H2,I2,ry,q2⟩=>
  bj (hr pins s2 σ H2 _ I2 q2) fun ws s3 ⟨ps,H3,I3,rel,q3⟩=>⟨(x,y)::ps,H3,I3,.cons ⟨rx,ry⟩ rel,q3⟩)
noncomputable def eD(kvs more:List (ao×V)):List (ao×V):=more.foldl (fun acc kv=>jU acc kv.1 kv.2) kvs
def KV.merge:∀ {more:List (ao×V)} {rs:List (ao×Value)} {kvs:List (ao×V)} {vs:List (ao×Value)},KV more rs->KV kvs vs->KV (eD kvs more) (merged vs rs):=by
 intro more rs kvs vs r
 unfold KV at r
 induction r generalizing kvs vs with
 | nil=>intro q;exact q
 | @cons p q ps qs h t ih=>
  intro r0
  have e:KV (jU kvs p.1 p.2) (stored vs q.1 q.2):=by
   have:=r0.put p.1 h.2
   rw [<- h.1];exact this
  exact ih e
theorem fm:∀ (more kvs:List (ao×V)),(eD kvs more).length<=kvs.length+more.length
 | [],kvs=>by show kvs.length<=kvs.length+0;omega
 | p::r,kvs=>by
  have h1:=fm r (jU kvs p.1 p.2)
  have h2:=og kvs p.1 p.2
  show (eD (jU kvs p.1 p.2) r).length<=_
  rw [DR];omega
theorem jG{P:Program}{w:World}:∀ {kvs:List (ao×V)} {ws:List (Value×Value)},VV (kvs.map fun kv=>(kV kv.1,kv.2)) ws->∃ rs,Carries (av P w) ws rs/\KV kvs rs
 | [],_,r=>by rw [Gq] at r;cases r;exact⟨[],True.intro,.nil⟩
 | p::kvs,_,r=>by
  rw [DZ] at r
  cases r with
  | @cons a b as bs h t=>
   obtain⟨rs,c,q⟩:=jG (P:=P) (w:=w) t
   obtain⟨b1,b2⟩:=b
   exact⟨(p.1,b2)::rs,⟨jo h.1,rfl,c⟩,.cons ⟨rfl,h.2⟩ q⟩
def tDisp(trs:List (TE×TE)):TE:=fun σ H Q=>∀ p,H p=none->iG trs σ (upd H p (.dK [])) fun ps H2=>H2 p=some (.dK [])/\∃ kvs:List (ao×V),ps=kvs.map (fun kv=>(kV kv.1,kv.2))/\kvs.length<=15/\Q (.ref p) (upd H2 p (.dK (eD [] kvs)))
def qN{X:Cx}{pos:Pos}{keys:List (Option Expr)}{values:List Expr}{trs:List (TE×TE)}(h:PPs X pos keys values trs)(hall:keys.all (·.isSome)=true)(hl:keys.length=values.length)(h0:keys≠[])
  (h15:keys.length<=15):PE X (.Dict keys values pos) (tDisp trs):=by
 intro pins s σ H Q I q
 have hn:=I.hok.fresh (DK s.heap.objs.size)
 have I1:=I.laid (a:=s.heap.objs.size) (o:=.dK []) (h':=s.heap.push { cls:=.type "dict",data:=.dict #[] }) (t':=s.toks) (fun _ _ q=>DJ _ q) (DK _) (jE s.heap I.big)
 refine wpAny_Dict_walk (knd:=av X.prog X.w) hall hl h0 h15 (bj (h pins _ σ _ _ I1 (q _ hn)) fun ws s2 ⟨ps,H2,I2,rel,e,kvs,ep,lk,q2⟩=>?_)
 subst ep
 obtain⟨rs,c,rk⟩:=jG (P:=X.prog) (w:=X.w) rel
 obtain⟨z,hd,vs0,r0,dd⟩:=Ao I2.hok e
 cases r0
 refine⟨rs,c,dd,fun h' dd' hs=>⟨.ref s.heap.objs.size,_,?_,rfl,q2⟩⟩
 have hz:(eD [] kvs).length<=sizeLine:=by
  have h1:=fm kvs []
  rw [EH] at h1
  rw [Gx];omega
 have he:∃ q,h'.get? s.heap.objs.size=some q:=let ⟨q,_,_,hq,_⟩:=dd';⟨q,hq⟩
 exact rZ I2 (by rw [e];exact True.intro) hs he (CL hz hd (rk.merge .nil) dd')
def IsD(H:Hp)(a:Addr):Prop:=(∃ kvs,Rd H a (.dK kvs))\/∃ kvs,Rd H a (.dT kvs)
def Cj{X:Cx}{pins:List (Addr×Obj)}{σ:St}{H:Hp}{s:Shared}{a:Addr}(I:Inv X pins σ H s)(d:IsD H a) :
  s.TypeIs (.ref a) "dict"/\(∀ b,Value.ref a=.ref b->∃ ob,s.heap.get? b=some ob/\ob.dict=none)/\(a == sysModules)=false:=by
 rcases d with ⟨kvs,e⟩ | ⟨kvs,e⟩
 ·obtain⟨_,hd,vs,_,dd⟩:=lj I.hok e
  refine⟨dd.typeIs,fun b q=>?_,hd⟩
  cases q
  obtain⟨ob,_,_,h1,h2,_⟩:=dd
  exact⟨ob,h1,h2.2.1⟩
 ·obtain⟨_,hd,xs,_,dd⟩:=oK I.hok e
  refine⟨dd.typeIs,fun b q=>?_,hd⟩
  cases q
  obtain⟨ob,_,_,h1,h2,_⟩:=dd
  exact⟨ob,h1,h2.2.1⟩
section
variable{X:Cx}{pins:List (Addr×Obj)}{σ:St}{H:Hp}{s:Shared}{a:Addr}{y d:V}{u r:Value}{o:Option V}{A:Around}{E:Value->Shared->Prop}
def Dc{Q:Value->Shared->Prop}(hu:A.units+1<cLine)(I:Inv X pins σ H s)(g:DGet H a y o)(ry:RelV y u)(h:∀ w' s',Inv X pins σ H s'->RelV (o.getD .non) w'->Q w' s') :
  wpAny (model X.prog X.w) A (call (.builtin "dict.get") [.ref a,u]) Q E s:=by
 rcases g with ⟨kvs,k,e,ey,l⟩ | ⟨kvs,k,b,e,ey,eb,l⟩
 ·subst ey
  obtain⟨z,hd,vs,rel,dd⟩:=lj I.hok e
  refine FH Fd dd.typeIs Fk (F.args_dict_get_2 _ _) (meets_dict_get (av X.prog X.w) a (jo ry) hd) ⟨_,dd.mapOf,h _ _ (I.tok _) ?_⟩
  rw [l]
  exact(rel.val k).getD rfl
 ·subst ey
  cases (show u=Value.ref b from ry)
  obtain⟨z,hd,xs,rel,dd⟩:=oK I.hok e
  refine FH Fd dd.typeIs Fk (F.args_dict_get_2 _ _) (meetsH_dict_get (tupleKind (av X.prog X.w)) a b hd) ⟨Fx hu,k,xs,mj I.hok eb,dd,h _ _ (I.tok _) ?_⟩
  rw [l]
  exact(rel.val k).getD rfl
def Db{Q:Value->Shared->Prop}(hu:A.units+1<cLine)(I:Inv X pins σ H s)(g:DGet H a y o)(ry:RelV y u)(rd:RelV d r)(h:∀ w' s',Inv X pins σ H s'->RelV (o.getD d) w'->Q w' s') :
  wpAny (model X.prog X.w) A (call (.builtin "dict.get") [.ref a,u,r]) Q E s:=by
 rcases g with ⟨kvs,k,e,ey,l⟩ | ⟨kvs,k,b,e,ey,eb,l⟩
 ·subst ey
  obtain⟨z,hd,vs,rel,dd⟩:=lj I.hok e
  refine FH Fd dd.typeIs Fk (F.args_dict_get_3 _ _ _) (meets_dict_get_default (av X.prog X.w) a (jo ry) hd r) ⟨_,dd.mapOf,h _ _ (I.tok _) ?_⟩
  rw [l]
  exact(rel.val k).getD rd
 ·subst ey
  cases (show u=Value.ref b from ry)
  obtain⟨z,hd,xs,rel,dd⟩:=oK I.hok e
  refine FH Fd dd.typeIs Fk (F.args_dict_get_3 _ _ _) (meetsH_dict_get_default (tupleKind (av X.prog X.w)) a b hd r) ⟨Fx hu,k,xs,mj I.hok eb,dd,h _ _ (I.tok _) ?_⟩
  rw [l]
  exact(rel.val k).getD rd
end
section
variable{X:Cx}{o e f:Expr}{apos cpos:Pos}{td ty tx:TE}
end
section
variable{X:Cx}{pins:List (Addr×Obj)}{σ:St}{H:Hp}{s:Shared}{a:Addr}{kvs:List (ao×V)}{A:Around}{E:Value->Shared->Prop}
end
section
variable{X:Cx}{pins:List (Addr×Obj)}{σ:St}{H:Hp}{s:Shared}{a:Addr}{y:V}{u:Value}{A:Around}{E:Value->Shared->Prop}
end
end L2
namespace Att
open PySem.W PySem.Calls
def ig{P:Params}{h:Heap}:∀ (ns:List Int) (vs:List Value),WellAll P h vs (ns.map WData.int)->IntsAre vs ns:=by
 intro ns
 induction ns with
 | nil=>
  intro vs w
  rw [Gq] at w
  cases w
  exact .nil
 | cons n ns ih=>
  intro vs w
  rw [DZ] at w
  cases w with
  | cons a b=>
   cases a
   exact .cons _ _ (ih _ b)
def sr{l:OpenLaw}{n:Nat}(hn:l.most=some n){P:Params}{h:Heap}{args:List WData}{vals:List Value}
  (hpre:l.row.toRowW.claim.pre args=true) (hwl:WellAll P h vals args) :
  ∃ a vs ns,vals=[Value.ref a]/\args=[WData.list (ns.map WData.int)]/\h.get? a=some { cls:=.type "list",data:=.seq vs.toArray }/\IntsAre vs ns/\ns.length<=n:=by
 have hsh:WShape.hasAll [] args [.list .int]=true:=(pre_splitW hpre).1
 have hc:l.pre.holds [] { args:=args } = true:=(pre_splitW hpre).2
 obtain⟨d,r,rfl,h1,h2⟩:=hasAllW_cons hsh
 obtain rfl:=hasAllW_nil h2
 obtain⟨xs,rfl,h3⟩:=hasW_list h1
 obtain⟨ns,rfl⟩:=items_int h3
 have hlen:ns.length<=n:=by
  unfold OpenLaw.pre at hc
  have h4:(WTm.not (.lt (.lit (.int (n:Int))) (.len (.arg 0)))).holds [] { args:=[.list (ns.map .int)] } = true:=by
   have h4:=(holds_andW hc).1
   rw [hn] at h4
   exact h4
  have h5:=condW_of h4 (w_not (w_lt w_lit (w_len_list (w_arg rfl))))
  rw [EI] at h5
  refine Nat.le_of_not_lt fun q=>?_
  have q':(n:Int)<((ns.length:Nat):Int):=by omega
  first
   | (rw [Ew q'] at h5;exact absurd h5 (by decide))
   | (simp at h5;omega)
 cases hwl with
 | cons w1 w2=>
  cases w2
  cases w1 with
  | list ho hall=>exact⟨_,_,ns,rfl,rfl,ho,ig ns _ hall,hlen⟩
def sv(l:OpenLaw)(args:List WData):l.row.toRowW.claim.post args (.bool true) args=true:=
 postW_of (r:=l.row.toRowW) (X:=(true == true))
  (show WShape.has [] (.bool true) .bool=true by first | rfl | decide | simp [WShape.has,WShape.arms,WShape.armsAll])
  (show (WTm.eq .res (.lit (.bool true))).value [] { args:=args,res:=some (.bool true),after:=args } = some (.bool (true == true)) from w_eq_bool (w_res rfl) w_lit) rfl
def oY{l:OpenLaw}{n:Nat}{q:Program}{loose:List Str}{XP:(Str->Option Value)->Heap->Prop}{YP:World->Heap->Prop}{d:DefRec}
  (hn:l.most=some n) (hdf:d.params.defaults=[])
  (call:∀ (w:World) (s₀ s₁:Shared) (mg mb:Str->Option Value) (fa:Addr) (o:Obj) (pm cd doc:Value) (a:Addr) (vs:List Value) (ns:List Int),
   Ground q loose [] XP w s₀ mg mb s₁.heap->YP w s₁.heap ->
   s₁.heap.get? fa=some o->o.data=.func (docDef d.name d.params d.body d.scope pm cd doc)->s₁.heap.CodeRec cd d.name->mg d.name=some (.ref fa) ->
   s₁.heap.get? a=some { cls:=.type "list",data:=.seq vs.toArray }->IntsAre vs ns->ns.length<=n->s₁.gens = #[] ->
   codeAny (model l.prog w) callerA (.call (.ref fa) ⟨[.ref a],[]⟩) (fun r s'=>r=.ok (.ret (.bool true))/\OldK s₁.heap s'.heap/\s'.os=s₁.os/\AllBare s'.gens) s₁) :
  WalkO q loose XP YP l.row.toRowW d [] (fun f vs=>PySem.call f vs):=by
 intro w s₀ s₁ mg mb G Y fa o pm cd doc dV kV ho hd hcd hD hmg hg args vals as hpre hlay hrd hwl hlo
 obtain rfl:dV=.none:=Dflts.none hD hdf
 obtain rfl:kV=.none:=Dflts.noKw hD
 obtain⟨a,vs,ns,rfl,rfl,hobj,hints,hlen⟩:=sr hn hpre hwl
 refine enter_call (Fe (call w s₀ s₁ mg mb fa o pm cd doc a vs ns G Y ho (fd_plain hd) hcd hmg hobj hints hlen hg) fun r s' hq=>?_)
 obtain⟨rfl,h2,h3,h4⟩:=hq
 exact⟨.inl ⟨.bool true,.bool true,[],rfl,fun _=>rfl,.bool true,sv l _,fun _=>⟨List.Pairwise.nil,fun _ hm=>(nomatch hm)⟩⟩,h2,h3,h4⟩
section
variable{prog:Program}{w:World}{A:Around}{E:Value->Shared->Prop}{s:Shared}{K:Frag}
end
end Att
namespace L2
theorem kq:∀ {vs:List Value} {ns:List Int},IntsAre vs ns->Vals (ns.map V.int) vs
 | _,_,.nil=>.nil
 | _,_,.cons n t h=>.cons ⟨t,rfl⟩ (kq h)
def Du(H:Hp):Prop:=∀ b,H b=none\/∃ o xs,H b=some (.frz o (.lst xs))
def vy{P:Program}{w:World}{K:W.Frag}{mg mb:Str->Option Value}{CX:ue}{k:Nat}{fa a:Addr}{fd:FuncData}{x:Str}{sp:Sp}{s₁:Shared}{vs:List Value}{ns:List Int}
  (KX:K.In s₁.heap) (hns:s₁.heap.Ns mainGlobals mg) (hb:s₁.heap.Ns builtinsNs mb) (hbb:∀ x:Str,x ≠ "__name__"->mb x=bootBuiltins x) (hlim:s₁.heap.NoLimit) (hg:s₁.gens = #[])
  (ha:s₁.heap.get? a=some { cls:=.type "list",data:=.seq vs.toArray }) (hi:IntsAre vs ns) (hl:ns.length<=sizeLine) (hr:Room k callerA)
  (F:∀ base:Heap,K.In base->base.Ns mainGlobals mg->FnOk P w K mg base CX k fa fd [x] sp) (hbind:∀ (s:Shared) (u:Value),BindsTo s fd ⟨[u],[]⟩ [(x,u)])
  (hsp:∀ H:Hp,Du H->fK K H a (ns.map V.int)->sp [.ref a] H (fun v _=>v=.bl true) fun _ _ _=>False)
  (hCX:∀ H e s',CX [] H s₁ (fun _ _ _=>False) e s'->False) :
  codeAny (model P w) callerA (.call (.ref fa) ⟨[.ref a],[]⟩) (fun r s'=>r=.ok (.ret (.bool true))/\OldK s₁.heap s'.heap/\s'.os=s₁.os/\AllBare s'.gens) s₁:=by
 have rv:=kq hi
 have lenV:=hi.length
 have core:∀ H:Hp,Du H->fK K H a (ns.map V.int)->HOk P w H s₁.heap->(∀ b,H b≠none->b=a)->(H a≠none->K.lookup a=none) ->
   codeAny (model P w) callerA (.call (.ref fa) ⟨[.ref a],[]⟩) (fun r s'=>r=.ok (.ret (.bool true))/\OldK s₁.heap s'.heap/\s'.os=s₁.os/\AllBare s'.gens) s₁:=by
  intro H hO hS hok hA hK
  have base_of:∀ {b:Addr} {o:Obj},s₁.heap.get? b=some o->H b=none->(mx s₁.heap H).get? b=some o:=fun e n=>vT e n
  have noA:∀ {b:Addr} {o:Obj} {es:Array DictEntry} {ep:Nat},s₁.heap.get? b=some o->o.data=.dict es ep->H b=none:=fun {b o es ep} e d=>by
   cases q:H b with
   | none=>rfl
   | some u=>
    have e':b=a:=hA b (by rw [q];simp)
    subst e'
    rw [ha] at e;cases e
    have d':Data.seq vs.toArray _=Data.dict es ep:=d
    cases d'
  have nsK:∀ {b:Addr} {m:Str->Option Value},s₁.heap.Ns b m->(mx s₁.heap H).Ns b m:=fun {b m} ⟨o,es,ep,e,d,r⟩=>⟨o,es,ep,base_of e (noA e d),d,r⟩
  have hKb:K.In (mx s₁.heap H):=fun b o e=>base_of (KX b o e) (by
   cases q:H b with
   | none=>rfl
   | some u=>
    have e':b=a:=hA b (by rw [q];simp)
    subst e'
    rw [hK (by rw [q];simp)] at e;cases e)
  have hM:Mod K mg (mx s₁.heap H):=⟨hKb,nsK hns,⟨mb,nsK hb,hbb⟩,let ⟨mc,h1,h2⟩:=hlim;⟨mc,nsK h1,h2⟩⟩
  have e0:zJ P w K mg (mx s₁.heap H) callerA [] s₁ H:=⟨rfl,hM,fun b o e=>yj e,Nat.le_of_eq (sS _ _),trivial,fun b hb=>absurd (show b∈([]:List Addr) from hb) (by simp),hok,.of_eq hg⟩
  refine Fe ((F _ hKb (nsK hns)).run callerA [] s₁ H ⟨[.ref a],[]⟩ [.ref a] [.ref a] _ _ hr e0 (hbind s₁ (.ref a)) (.cons rfl .nil) (hsp H hO hS)) fun r s' h=>?_
  cases r with
  | error e=>exact(hCX H e s' h).elim
  | ok fl=>
   cases fl with
   | next=>exact False.elim h
   | brk=>exact False.elim h
   | cont=>exact False.elim h
   | ret u=>
    obtain⟨v,H',os,bare,un,hok',r',q⟩:=h
    have q':v=.bl true:=q
    subst q'
    obtain rfl:u=Value.bool true:=r'
    refine⟨rfl,OldK.of_keep fun b o e=>?_,os,bare⟩
    cases q:H b with
    | none=>exact un.keep b o e q (by intro z;exact absurd (show b∈([]:List Addr) from z) (by simp)) (by simp)
    | some u=>
     rcases hO b with z | ⟨ob,xs,z⟩
     ·rw [q] at z;cases z
     ·have z2:=un.frzs b ob _ z
      obtain⟨e1,_⟩:=hok b _ z
      obtain⟨e2,_⟩:=hok' b _ z2
      rw [e] at e1;cases e1
      exact e2
 cases hk:K.lookup a with
 | some o=>
  have e:=KX a o hk
  rw [ha] at e
  cases e
  refine core (fun _=>none) (fun _=>.inl rfl) (.inr ⟨_,vs.toArray,_,hk,rfl,rfl,rfl,by rw [DB,lenV];exact hl,by simpa using rv⟩) (fun b u z=>by have z':(none:Option HO)=some u:=z;cases z') (fun b z=>absurd rfl z) fun z=>absurd rfl z
 | none=>
  refine core (fun b=>if b=a then some (.frz { cls:=.type "list",data:=.seq vs.toArray } (.lst (ns.map V.int))) else none) (fun b=>?_) (.inl (.inr ⟨{ cls:=.type "list",data:=.seq vs.toArray },DU rfl⟩)) (fun b u z=>?_) (fun b z=>?_) fun _=>hk
  ·by_cases hb:b=a
   ·exact .inr ⟨_,_,DU hb⟩
   ·exact .inl (Eh hb)
  ·by_cases hb:b=a
   ·have z':=(DU hb).symm.trans z
    cases z'
    subst hb
    exact⟨ha,by rw [EI];exact hl,vs,_,rv,ha⟩
   ·have z':=(Eh hb).symm.trans z
    cases z'
  ·by_cases hb:b=a
   ·exact hb
   ·exact absurd (Eh hb) z
def xo{l:W.OpenLaw}{n k:Nat}{q:Program}{loose:List Str}{XP:(Str->Option Value)->Heap->Prop}{YP:World->Heap->Prop}{d:DefRec}{K:Params->W.Frag}{CX:World->ue}{sp:World->Sp}{x:Str}
  (hn:l.most=some n) (hn2:n<=sizeLine) (hdf:d.params.defaults=[]) (hr:Room k callerA)
  (hY:∀ (w:World) (h:Heap),YP w h->(K w.params).In h)
  (F:∀ (w:World) (mg:Str->Option Value) (fa:Addr) (h:Heap),(K w.params).In h->h.Ns mainGlobals mg->mg d.name=some (.ref fa) ->
   ∃ fd:FuncData,(∀ (s:Shared) (u:Value),BindsTo s fd ⟨[u],[]⟩ [(x,u)]) /\
    ∀ base:Heap,(K w.params).In base->base.Ns mainGlobals mg->FnOk l.prog w (K w.params) mg base (CX w) k fa fd [x] (sp w))
  (hsp:∀ (w:World) (H:Hp) (a:Addr) (ns:List Int),ns.length<=n->Du H->fK (K w.params) H a (ns.map V.int)->sp w [.ref a] H (fun v _=>v=.bl true) fun _ _ _=>False)
  (hCX:∀ (w:World) (H:Hp) (s:Shared) (e:Value) (s':Shared),CX w [] H s (fun _ _ _=>False) e s'->False) :
  W.WalkO q loose XP YP l.row.toRowW d [] (fun f vs=>PySem.call f vs):=by
 refine Att.oY hn hdf fun w s₀ s₁ mg mb fa o pm cd doc a vs ns G Y ho hd hcd hmg hobj hints hlen hg=>?_
 have KX:=hY w _ Y
 obtain⟨fd,hb,hF⟩:=F w mg fa _ KX G.T.g hmg
 exact vy KX G.T.g G.T.b G.T.builtins G.T.nolimit hg hobj hints (Er hlen hn2) hr hF hb (fun H hO hS=>hsp w H a ns hlen hO hS) fun H e s'=>hCX w H s₁ e s'
noncomputable def cS(s:Stmt):Arguments:=match s with
 | .FunctionDef _ a _ _ _ _ _ _ _ _=>a
 | _=>{ posonlyargs:=[],args:=[],vararg:=none,kwonlyargs:=[],kw_defaults:=[],kwarg:=none,defaults:=[] }
noncomputable def al(s:Stmt):List Stmt:=match s with
 | .FunctionDef _ _ b _ _ _ _ _ _ _=>b
 | _=>[]
noncomputable def af(s:Stmt):Scope:=match s with
 | .FunctionDef _ _ _ _ _ _ sc _ _ _=>sc
 | _=>{ kind:=.function,names:=[],isGenerator:=false,isCoroutine:=false }
noncomputable abbrev si:ue:=fun _ _ _ _ _ _=>False
noncomputable abbrev E0:XK:=fun _ _ _=>False
def uS{X:Cx}:mS si X E0:=fun _ _ _ _ _ _ _ h=>h.elim
structure Fun(K:W.Frag)(x qual:Str)(st:Stmt)(f:Addr)(fd:FuncData):Prop where
 ex:∃ (oc:Value) (od:Option Addr) (kV doc pm:Value) (an:Option Addr) (cdv ct:Value) (osl:Array (Option Value)),
  fd=W.fnOf x qual (cS st) (al st) (af st) .none kV doc pm an cdv ct/\K.lookup f=some ⟨oc,od,.func fd,osl⟩/\W.codeIn K cdv qual=true
 kp:W.keepIn K (.ref f)=true
section
variable{P:Program}{w:World}{K:W.Frag}{mg:Str->Option Value}{base:Heap}
def Fun.ok{x qual:Str}{st:Stmt}{f:Addr}{fd:FuncData}{N ps:List Str}{k:Nat}{sp:Sp}(F:Fun K x qual st f fd)(S:ax N ps (af st))(len:∀ vs H Q E,sp vs H Q E->vs.length=ps.length)
  (hbody:∀ (cdv:Value) (A:Around) (outer:List Env) (s:Shared) (H:Hp) (vs:List V) (Q:VK) (E:XK),Room k (A.deeper (envOfC qual (af st) s.heap.objs.size f cdv))->sp vs H Q E ->
   ∃ t,PSs (kf si P w K mg base N qual (af st) f cdv A outer s H E).nox (al st) t/\t { nx:=fun _ H'=>Q .non H',rt:=Q } (start N vs) H):FnOk P w K mg base si (k+1) f fd ps sp:=by
 obtain⟨oc,od,kV,doc,pm,an,cdv,ct,osl,rfl,lk,hcd⟩:=F.ex
 refine fn_of lk hcd S len fun A outer s H vs Q E hr hsp=>?_
 obtain⟨t,h,q⟩:=hbody cdv A outer s H vs Q E hr hsp
 exact⟨t,h.nox,q⟩
def Fun.binds{x qual:Str}{st:Stmt}{f:Addr}{fd:FuncData}{ps:List Str}(F:Fun K x qual st f fd)
  (h:∀ (kV doc pm:Value) (an:Option Addr) (cdv ct:Value) (us:List Value),us.length=ps.length->bindArgs (W.fnOf x qual (cS st) (al st) (af st) .none kV doc pm an cdv ct) ⟨us,[]⟩=pure (ps.zip us)):Binds K fd ps []:=by
 obtain⟨oc,od,kV,doc,pm,an,cdv,ct,osl,rfl,lk,hcd⟩:=F.ex
 exact .all (h kV doc pm an cdv ct)
def Cm{x qual:Str}{st:Stmt}{f:Addr}{oc:Value}{od an:Option Addr}{osl:Array (Option Value)}{kV doc pm cdv ct:Value}(l:K.lookup f=some ⟨oc,od,.func (W.fnOf x qual (cS st) (al st) (af st) .none kV doc pm an cdv ct),osl⟩)
  (c:W.codeIn K cdv qual=true) (k:W.keepIn K (.ref f)=true):Fun K x qual st f (W.fnOf x qual (cS st) (al st) (af st) .none kV doc pm an cdv ct):=⟨⟨oc,od,kV,doc,pm,an,cdv,ct,osl,rfl,l,c⟩,k⟩
end
section
variable{X:Cx}
end
section
variable{κ:Type}[DecidableEq κ]
end
noncomputable def eR(cells:List (Str×Addr)):List (Str×NameKind)->List (Str×Addr)->List (Str×Addr)
 | [],acc=>acc
 | (n,k)::r,acc=>if k == .free then eR cells r ((n,(cells.lookup n).getD 0)::acc) else eR cells r acc
theorem cK{env:Env}:∀ (names:List (Str×NameKind)) (acc:List (Str×Addr)),(∀ x∈names,x.2=.free->(env.cells.lookup x.1).isSome=true) ->
  (forIn names acc fun(x:Str×NameKind) (r:List (Str×Addr))=>(do
   if x.2 == .free then do let c <- cellOf env x.1;pure (ForInStep.yield ((x.1,c)::r)) else pure (ForInStep.yield r):Sem (ForInStep (List (Str×Addr)))))=pure (eR env.cells names acc)
 | [],acc,_=>rfl
 | (n,k)::r,acc,h=>by
  rw [List.forIn_cons]
  cases hk:k == NameKind.free with
  | true=>
   have e:k=.free:=by simpa using hk
   have hs:=h (n,k) DF e
   obtain⟨c,hc⟩:=EB.mp hs
   have hc':env.cells.lookup n=some c:=hc
   have hce:cellOf env n=pure c:=by unfold cellOf;rw [hc']
   simp only [FQ,hce,hc',Option.getD_some,pure_bind,eR,hk]
   rw [cK r _ fun x hx=>h x (DC _ hx)]
  | false=>
   simp only [Ff,Fy,pure_bind,eR,hk]
   exact cK r _ fun x hx=>h x (DC _ hx)
def fv{scope:Scope}{env:Env}(h:∀ x∈scope.names,x.2=.free->(env.cells.lookup x.1).isSome=true):closureFor scope env=pure (eR env.cells scope.names []):=by
 have q:=cK (env:=env) scope.names [] h
 unfold closureFor
 refine Eq.trans ?_ (Eq.trans (congrArg (fun(m:Sem (List (Str×Addr)))=>m >>= fun cs=>pure cs) q) ?_)
 ·rfl
 ·rfl
theorem gF(cells:List (Str×Addr)):∀ (names:List (Str×NameKind)) (acc:List (Str×Addr)),(∀ x∈names,x.2=.free->(cells.lookup x.1).isSome=true)->(∀ y c,acc.lookup y=some c->cells.lookup y=some c) ->
  ∀ y c,(eR cells names acc).lookup y=some c->cells.lookup y=some c
 | [],_,_,ha=>ha
 | (n,k)::r,acc,h,ha=>by
  unfold eR
  split
  ·rename_i hk
   refine gF cells r _ (fun x hx=>h x (DC _ hx)) fun y c e=>?_
   rw [EV] at e
   split at e
   ·rename_i hy
    have hy':y=n:=by simpa using hy
    subst hy'
    obtain⟨c',hc'⟩:=EB.mp (h (y,k) DF (by simpa using hk))
    have hc'':cells.lookup y=some c':=hc'
    rw [hc''] at e ⊢
    exact e
   ·exact ha y c e
  ·exact gF cells r _ (fun x hx=>h x (DC _ hx)) ha
theorem fJ(cells:List (Str×Addr)):∀ (names:List (Str×NameKind)) (acc:List (Str×Addr)) (y:Str),(acc.lookup y).isSome=true->((eR cells names acc).lookup y).isSome=true
 | [],_,_,h=>h
 | (n,k)::r,acc,y,h=>by
  unfold eR
  split
  ·refine fJ cells r _ y ?_
   rw [EV]
   split
   ·rfl
   ·exact h
  ·exact fJ cells r _ y h
theorem gl(cells:List (Str×Addr)):∀ (names:List (Str×NameKind)) (acc:List (Str×Addr)) (y:Str),(y,NameKind.free)∈names->((eR cells names acc).lookup y).isSome=true
 | [],_,_,h=>by simp at h
 | (n,k)::r,acc,y,h=>by
  unfold eR
  rcases Ep.mp h with e | h
  ·cases e
   rw [DU (by rfl)]
   exact fJ cells r _ _ (by rw [EV];simp)
  ·split
   ·exact gl cells r _ y h
   ·exact gl cells r _ y h
theorem dU{scope:Scope}{env:Env}{y:Str}:∀ {names:List (Str×NameKind)},
  ((names.map fun(n,k)=>if (k == NameKind.free&&env.scope.kind == .function&&env.kindOf n == some .cell) then (n,NameKind.cell) else (n,k)).lookup y=some .cell \/
  (names.map fun(n,k)=>if (k == NameKind.free&&env.scope.kind == .function&&env.kindOf n == some .cell) then (n,NameKind.cell) else (n,k)).lookup y=some .free) ->
  (∀ x∈names,x.2≠.cell)->(y,NameKind.free)∈names
 | [],h,_=>by simp at h
 | (n,k)::r,h,hc=>by
  have ih:=@dU scope env y r
  have hr:∀ x∈r,x.2≠.cell:=fun x hx=>hc x (DC _ hx)
  rw [DZ] at h
  by_cases hq:(k == NameKind.free&&env.scope.kind == .function&&env.kindOf n == some .cell)=true
  ·have hk:k=.free:=by
    have:=hq
    simp only [Dz] at this
    simpa using this.1.1
   simp only [hq,FQ] at h
   simp only [EV] at h
   cases hy:y == n with
   | true=>
    have e:y=n:=by simpa using hy
    rw [e,hk]
    exact DF
   | false=>
    simp only [hy] at h
    exact DC _ (ih h hr)
  ·simp only [hq,Ff,Fy] at h
   simp only [EV] at h
   cases hy:y == n with
   | true=>
    simp only [hy] at h
    have e:y=n:=by simpa using hy
    rcases h with h | h
    ·exact absurd (Ek h) (hc (n,k) DF)
    ·rw [e,<- Ek h]
     exact DF
   | false=>
    simp only [hy] at h
    exact DC _ (ih h hr)
noncomputable def gp(X:Cx)(N':List Str)(scope:Scope)(C:Addr)(s:Shared)(H:Hp)(fp:List Addr):Cx:=
 {X with N:=N',s₀:=s,H₀:=H,env:=compEnvC scope (eR X.env.cells scope.names []) C X.env,outer:=X.stack,ex:=fp,fn:=fun _=>false,pn:=[],xe:=fun _ _=>False }
def zI(X:Cx)(ifs:List Expr)(t:TT):Prop:=
 ∀ (pins:List (Addr×Obj)) (s:Shared) (σ:St) (H:Hp) (Q:Bool->Hp->Prop),Inv X pins σ H s->t σ H Q->wpAny (model X.prog X.w) X.A (forIn ifs true fun c r=>if r=true then do let ok <- isTrue c X.env (eval c X.env);pure (ForInStep.yield ok) else pure (ForInStep.yield r)) (TP X pins σ Q) X.xe s
def xJ{X:Cx}:zI X [] (fun _ H Q=>Q true H):=fun _ _ _ H _ I h=>wpAny_tests_nil ⟨H,I,h⟩
def xI{X:Cx}{c:Expr}{t:TT}(h:PT X c t):zI X [c] t:=fun pins s σ H Q I q=>wpAny_tests_one (h pins s σ H Q I q)
noncomputable def iE(e tg:Expr)(p0:Pos)(ifs:List Expr)(d:Nat)(it acc:Value)(env:Env)(bc:Sem Unit):Sem Fin:=do
 standAt p0
 let r <- pyNext it
 match r with
 | none=>pure (Fin.done Flow.next)
 | some v=>do
  letOwnedTupleGo tg it v
  assign tg env v
  let ok <- forIn ifs true fun c r=>if r=true then do let ok <- isTrue c env (eval c env);pure (ForInStep.yield ok) else pure (ForInStep.yield r)
  if ok=true then do bc;again (.compLoop e d it acc env) else again (.compLoop e d it acc env)
noncomputable def CC(elt:Expr)(acc:Value)(env:Env):Sem Unit:=do
 let x <- eval elt env
 let _ <- call (.builtin "list.append") [acc,x]
 pure ()
section
variable{prog:Program}{w:World}{A:Around}{R:Result->Shared->Prop}{s:Shared}
def eO{e elt tg:Expr}{gens:List Comprehension}{scope:Scope}{pos p0:Pos}{ifs:List Expr}{d:Nat}{it acc:Value}{env:Env}{bc:Sem Unit}(he:e=.ListComp elt gens scope pos)(htn:compTurn e d it acc env=iE e tg p0 ifs d it acc env bc)(I:Nat->Shared->Prop)
  (turn:∀ n s,I n s->wpAny (model prog w) A (pyNext it) (fun r s₁=>match r with
   | none=>R (.ok .next) s₁
   | some v=>wpAny (model prog w) A (letOwnedTupleGo tg it v) (fun _ s₁'=>wpAny (model prog w) A (assign tg env v) (fun _ s₂=>
     wpAny (model prog w) A (forIn ifs true fun c r=>if r=true then do let ok <- isTrue c env (eval c env);pure (ForInStep.yield ok) else pure (ForInStep.yield r)) (fun ok s₃=>
      if ok=true then wpAny (model prog w) A bc (fun _ s₅=>∃ m,m<n/\I m s₅) (fun _ _=>False) s₃
      else ∃ m,m<n/\I m s₃) (fun _ _=>False) s₂) (fun _ _=>False) s₁') (fun _ _=>False) s₁) (fun _ _=>False) s)
  (n:Nat) (h:I n s) :
  codeAny (model prog w) A (.compLoop e d it acc env) R s:=by
 refine codeAny_loop rfl I (fun n s hI=>?_) n h
 subst he
 show wpAny _ A ((compTurn (.ListComp elt gens scope pos) d it acc env).onRaise (fun x=>do noteFrame x env;theTreesLotGoes x)) _ _ s
 refine wpAny_noted ?_
 rw [htn]
 refine DD (Fw (DD (Ej (turn n s hI) (fun r s₁ h₁=>?_) fun _ _ h'=>h'.elim)))
 cases r with
 | none=>exact DN h₁
 | some v=>
  refine DD (Ej h₁ (fun _ s₁' h₁'=>?_) fun _ _ h'=>h'.elim)
  refine DD (Ej h₁' (fun _ s₂ h₂=>DD (Ej h₂ (fun ok s₃ h₃=>?_) fun _ _ h'=>h'.elim)) fun _ _ h'=>h'.elim)
  cases ok with
  | false=>exact DN ⟨rfl,h₃⟩
  | true=>exact DD (Ej h₃ (fun _ s₅ h₅=>DN ⟨rfl,h₅⟩) fun _ _ h'=>h'.elim)
end
abbrev TB:=St->Hp->(St->Hp->Prop)->Prop
def PB(X:Cx)(m:Sem Unit)(tb:TB):Prop:=
 ∀ (pins:List (Addr×Obj)) (s:Shared) (σ:St) (H:Hp) (Q:St->Hp->Prop),Inv X pins σ H s->tb σ H Q->wpAny (model X.prog X.w) X.A m (fun _ s'=>∃ σ' H',Inv X pins σ' H' s'/\Q σ' H') X.xe s
def tEm(te:TE)(p:Addr):TB:=fun σ H Q=>te σ H fun y H5=>∃ ys,H5 p=some (.lst ys)/\ys.length<sizeLine/\Q σ (upd H5 p (.lst (ys++[y])))
def qO{X:Cx}{elt:Expr}{te:TE}{p:Addr}(he:PE X elt te):PB X (CC elt (.ref p) X.env) (tEm te p):=fun pins s σ H Q I h=>by
 refine DD (bj (he pins s σ H _ I h) fun xv s8 ⟨y,H8,J8,r8,q8⟩=>?_)
 obtain⟨ys,hy,hz,q9⟩:=q8
 refine DD (bj (kH _ s8 σ H8 (.ref p) [y] (.ref p) [xv] (fun _ H9=>H9=upd H8 p (.lst (ys++[y]))) J8 rfl (.cons r8 .nil) ⟨_,ys,y,rfl,rfl,hy,hz,rfl⟩) fun _ s9 ⟨_,H9,J9,_,e9⟩=>?_)
 subst e9
 exact DN ⟨_,_,J9,q9⟩
def uj(J:It)(g:TG)(tt:TT)(tb:TB)(σ:St)(H:Hp)(Q:St->Hp->Prop):Prop:=∃ W:Nat->Nat->St->Hp->Prop,(∃ m,W 0 m σ H)/\∀ i m σ' H',W i m σ' H' ->
 (J.stop i H'/\Q σ' H')\/(J.go i H'/\∀ x H2,J.yld i H' x H2->g x σ' H2 fun σ2 H3=>tt σ2 H3 fun ok H4=>
  if ok=true then tb σ2 H4 fun σ3 H5=>∃ m',m'<m/\W (i+1) m' σ3 H5 else ∃ m',m'<m/\W (i+1) m' σ2 H4)
def tL{X:Cx}{e elt tg:Expr}{gens:List Comprehension}{scope:Scope}{pos p0:Pos}{ifs:List Expr}{d:Nat}{acc:Value}{bc:Sem Unit}{g:TG}{tt:TT}{tb:TB}{it:Addr}{fp:List Addr}{tn:Nat->Heap->Prop}{J:It}
  (hc:X.calm=true) (hx:∀ e s,X.xe e s->False) (hl:e=.ListComp elt gens scope pos) (htn:compTurn e d (.ref it) acc X.env=iE e tg p0 ifs d (.ref it) acc X.env bc) (hg:PG X tg g) (ht:zI X ifs tt) (hb:PB X bc tb) (T:xj X.prog X.w X.K tg J fp it tn)
  {pins:List (Addr×Obj)} {s:Shared} {σ:St} {H:Hp} {Q:St->Hp->Prop} (I:Inv X pins σ H s) (st:tn 0 s.heap) (f2:∀ b∈fp,jL X pins H b) (h:uj J g tt tb σ H Q) :
  codeAny (model X.prog X.w) X.A (.compLoop e d (.ref it) acc X.env) (fun r s'=>∃ σ' H',r=.ok .next/\Inv X pins σ' H' s'/\Q σ' H') s:=by
 obtain⟨W,⟨m0,w0⟩,turn⟩:=h
 have no:∀ e s,X.xe e s->(fun(_:Value) (_:Shared)=>False) e s:=hx
 have stat:∀ {H':Hp},(∀ b∈fp,H' b=none)->∀ b∈fp,jL X pins H' b:=fun hn b hb=>⟨hn b hb,(f2 b hb).2⟩
 refine eO hl htn (fun n s'=>∃ i σ' H',Inv X pins σ' H' s'/\tn i s'.heap/\(∀ b∈fp,H' b=none)/\W i n σ' H') ?_ m0 ⟨0,_,_,I,st,fun b hb=>(f2 b hb).1,w0⟩
 rintro n s3 ⟨i,σ3,H3,J3,st3,fr3,w3⟩
 rcases turn i n σ3 H3 w3 with ⟨stop,qn⟩ | ⟨go,step⟩
 ·refine bj (T.done X rfl rfl rfl hc i pins s3 σ3 H3 _ J3 (stat fr3) st3 stop) fun r s4 ⟨hr,J4⟩=>?_
  subst hr
  exact⟨σ3,H3,rfl,J4,qn⟩
 ·refine bj (T.item X rfl rfl rfl hc i pins s3 σ3 H3 _ J3 (stat fr3) st3 go) fun r s4 ⟨u,hr,h4⟩=>?_
  subst hr
  refine bj h4 fun _ s5 ⟨x,H5,J5,r5,y5,st5,fr5⟩=>?_
  have J5':=J5.pinned (stat fr5) (T.obj _ _ st5)
  refine Ej (hg _ s5 σ3 H5 x u _ J5' r5 (step x H5 y5)) (fun _ s6 ⟨σ6,H6,J6,q6⟩=>?_) no
  refine Ej (ht _ s6 σ6 H6 _ J6 q6) (fun ok s7 ⟨H7,J7,q7⟩=>?_) no
  have again:∀ {s':Shared} {σ7:St} {H7:Hp},Inv X (pins++iP fp s5.heap) σ7 H7 s'->(∃ m',m'<n/\W (i+1) m' σ7 H7)->∃ m,m<n/\∃ i σ' H',Inv X pins σ' H' s'/\tn i s'.heap/\(∀ b∈fp,H' b=none)/\W i m σ' H':=fun {s' σ7 H7} J7 n7=>by
   obtain⟨m',hm,w7⟩:=n7
   refine⟨m',hm,i+1,σ7,H7,J7.unpinned,T.keep _ _ _ st5 fun b hb o e=>(J7.pin (b,o) (Ee _ (Ee _ (dY hb e)))).1,fun b hb=>?_,w7⟩
   obtain⟨o,e,d⟩:=T.obj _ _ st5 b hb
   exact(J7.pin (b,o) (Ee _ (Ee _ (dY hb e)))).2.1
  cases ok with
  | false=>
   rw [Eh DM] at q7 ⊢
   exact again J7 q7
  | true=>
   rw [DU rfl] at q7 ⊢
   exact Ej (hb _ s7 σ6 H7 _ J7 q7) (fun _ s9 ⟨σ9,H9,J9,q9⟩=>again J9 q9) no
structure BlockOk(X:Cx)(N':List Str)(scope:Scope)(cap:List (Option Nat)):Prop where
 kind:scope.kind=.function
 nocell:∀ x∈scope.names,x.2≠.cell
 names:∀ x∈scope.names,x.2=.local->scope.names.lookup x.1=some .local
 free:∀ x∈scope.names,x.2=.free->(X.env.kindOf x.1=some .cell\/X.env.kindOf x.1=some .free)
 nd:N'.Nodup
 len:cap.length=N'.length
 cap:∀ (j i:Nat),cap[j]?=some (some i)->∃ y,N'[j]?=some y/\X.N[i]?=some y/\Dr X.env.scope y/\(X.env.kindOf y=some .cell\/X.env.kindOf y=some .free)/\((relabel scope X.env).names.lookup y=some .cell\/(relabel scope X.env).names.lookup y=some .free)
noncomputable def σB(cap:List (Option Nat))(σ:St):St:=cap.map fun o=>o.bind fun i=>(σ[i]?).join
section
variable{X:Cx}{pins:List (Addr×Obj)}{σ:St}{H:Hp}{s:Shared}{N':List Str}{scope:Scope}{cap:List (Option Nat)}{C:Addr}{fp:List Addr}
theorem BlockOk.cells(B:BlockOk X N' scope cap)(ok:X.Ok):∀ x∈scope.names,x.2=.free->(X.env.cells.lookup x.1).isSome=true:=fun x hx hf=>by
 obtain⟨c,e⟩:=ok.has x.1 (B.free x hx hf)
 rw [e];rfl
def BlockOk.cl(B:BlockOk X N' scope cap)(ok:X.Ok):∀ y c,(eR X.env.cells scope.names []).lookup y=some c->X.env.cells.lookup y=some c:=
 gF _ _ _ (B.cells ok) fun y c e=>by simp at e
def Inv.notStk(I:Inv X pins σ H s){b:Addr}(h1:b≠X.env.locals)(h2:b ∉ X.fs):b ∉ uc X.stack:=fun z=>(Ep.mp (I.stkSub b z)).elim h1 h2
def Inv.block{h4:Heap}{tk:Nat}{m0:Str->Option Value}(I:Inv X pins σ H s)(B:BlockOk X N' scope cap)(hfp:∀ b∈fp,jL X pins H b/\b<s.heap.objs.size)(hC:s.heap.objs.size<=C)
  (hk:∀ b o,s.heap.get? b=some o->h4.get? b=some o) (hn:h4.Ns C m0):Inv (gp X N' scope C s H fp) [] (σB cap σ) H { s with heap:=h4,toks:=tk }:=by
 have okX:=I.ok
 have hcl:=B.cl okX
 have cellC:∀ x c,(eR X.env.cells scope.names []).lookup x=some c->∃ v,s.heap.IsCell c v:=fun x c e=>I.cell x c (hcl x c e)
 have neC:∀ b o,s.heap.get? b=some o->b≠C:=fun b o e=>El (DP (DL e) hC)
 refine⟨⟨okX.mod,B.kind,okX.glob,okX.blt,hC,fun x y c e1 e2=>okX.inj x y c (hcl x c e1) (hcl y c e2),fun x hx=>?_,fun x c e _=>(by cases e),okX.hd,okX.frames,.inl rfl,fun b hb=>⟨fun z=>?_,fun x c e z=>?_⟩,fun b o e=>I.bs b o e,Er okX.bsz I.sz,fun b o e hb=>?_,fun b hb z=>?_,I.stack,I.stkFree⟩,
  rfl,I.bare,Un.kept hk,⟨m0,hn,fun j y v e1 e2 e3=>?_⟩,fun x c e=>?_,I.hok.fresh hC,fun x c e=>I.freeC x c (hcl x c e),fun p hp=>absurd (show p∈([]:List (Addr×Obj)) from hp) (by simp),I.hok.kept hk,?_⟩
 ·have q:=dU (scope:=scope) (env:=X.env) (y:=x) (names:=scope.names) hx B.nocell
  exact EB.mp (gl _ _ _ _ q)
 ·have z':b=C:=z
  exact absurd (hfp b hb).2 (by rw [z'];exact Nat.not_lt.mpr hC)
 ·exact(hfp b hb).1.2.2.2.2.1 x c (hcl x c e) z
 ·obtain⟨h0,h1,h2,h3,h4',h5⟩:=(hfp b hb).1
  rcases h3 with h3 | h3
  ·exact okX.noex b o e h3
  ·have:=(okX.bs b o e).1
   exact absurd (DP (DL this) h3) (EM _)
 ·obtain⟨h0,h1,h2,h3,h4',h5⟩:=(hfp b hb).1
  exact I.notStk h1 h2 z
 ·have e1':N'[j]?=some y:=e1
  unfold σB at e2
  rw [FF] at e2
  cases ec:cap[j]? with
  | none=>rw [ec] at e2;cases e2
  | some o=>
   rw [ec] at e2
   cases o with
   | none=>cases e2
   | some i=>
    obtain⟨y',n1,n2,vis,kx,kb⟩:=B.cap j i ec
    rw [e1'] at n1;cases n1
    have e2':(σ[i]?).join=some v:=Ek e2
    have e2'':σ[i]?=some (some v):=by
     cases q:σ[i]? with
     | none=>rw [q] at e2';cases e2'
     | some z=>rw [q] at e2';exact congrArg some e2'
    obtain⟨m,hm,hl⟩:=I.loc
    obtain⟨u,ru,lk⟩:=hl i y v n2 e2'' vis
    refine⟨u,ru,.inr ⟨kb,?_⟩⟩
    rcases lk with ⟨k,_⟩ | ⟨k,c,ec',z⟩
    ·rcases kx with kx | kx
     ·rw [kx] at k;cases k
     ·rw [kx] at k;cases k
    ·have q:=dU (scope:=scope) (env:=X.env) (y:=y) (names:=scope.names) kb B.nocell
     obtain⟨c',hc'⟩:=EB.mp (gl X.env.cells scope.names [] y q)
     have:=hcl y c' hc'
     rw [ec'] at this;cases this
     exact⟨c,hc',z.keeps hk⟩
 ·obtain⟨v,z⟩:=cellC x c e
  exact⟨v,z.keeps hk⟩
 ·show (σB cap σ).length=N'.length
  unfold σB
  rw [EI,B.len]
def Inv.unblock{Hf:Hp}{s':Shared}{σ':St}{pins':List (Addr×Obj)}(I:Inv X pins σ H s)(hfp:∀ b∈fp,jL X pins H b)(J:Inv (gp X N' scope C s H fp) pins' σ' Hf s'):Inv X pins σ Hf s':=
 I.call' (ch:=fp) J.os J.base J.hok J.bare fun b hb=>by
  obtain⟨h0,h1,h2,h3,h4,h5⟩:=hfp b hb
  exact⟨h3,h1,h4,h5⟩
end
def ly(wi:TI)(g:TG)(tt:TT)(tb:Addr->TB)(cap:List (Option Nat)):TE:=fun σ H Q=>wi σ H fun J H1=>∀ p,H1 p=none->uj J g tt (tb p) (σB cap σ) (upd H1 p (.lst [])) fun _ H'=>Q (.ref p) H'
def uk(wi:TI)(g:TG)(tt:TT)(te:TE)(cap:List (Option Nat)):TE:=ly wi g tt (tEm te) cap
def Behind(X:Cx)(pins:List (Addr×Obj))(σ:St)(Q:VK)(acc:Value)(C:Addr)(r:Result)(s':Shared):Prop:=
 ∃ p Hf m,r=.ok .next/\acc=.ref p/\Inv X pins σ Hf s'/\Q (.ref p) Hf/\s'.heap.Ns C m/\Hf C=none/\C≠X.env.locals/\X.s₀.heap.objs.size<=C/\(∀ x c,X.env.cells.lookup x=some c->c≠C)/\(∀ q∈X.pn++pins,q.1≠C)
def jF{X:Cx}{elt iter tg:Expr}{ifs:List Expr}{rest:List Comprehension}{scope:Scope}{pos:Pos}{N':List Str}{cap:List (Option Nat)}{wi:TI}{g:TG}{tt:TT}{tb:Addr->TB}{bc:Value->Env->Sem Unit}
  (hc:X.calm=true) (B:BlockOk X N' scope cap) (hi:PI X tg iter wi) (hg:∀ C s H fp,PG (gp X N' scope C s H fp) tg g) (ht:∀ C s H fp,zI (gp X N' scope C s H fp) ifs tt)
  (htn:∀ it acc env,compTurn (.ListComp elt (⟨tg,iter,ifs,0⟩::rest) scope pos) 0 it acc env=iE (.ListComp elt (⟨tg,iter,ifs,0⟩::rest) scope pos) tg iter.pos ifs 0 it acc env (bc acc env))
  (hb:∀ C s H fp p,PB (gp X N' scope C s H fp) (bc (.ref p) (gp X N' scope C s H fp).env) (tb p))
  {pins:List (Addr×Obj)} {s:Shared} {σ:St} {H:Hp} {Q:VK} (I:Inv X pins σ H s) (h:ly wi g tt tb cap σ H Q) {E:Value->Shared->Prop} (hE:∀ e s,X.xe e s->E e s) :
  wpAny (model X.prog X.w) X.A (eval iter X.env) (fun x s₁=>wpAny (model X.prog X.w) X.A (pyIter x) (fun it s₂=>wpAny (model X.prog X.w) X.A (newList []) (fun acc s₃=>
   wpAny (model X.prog X.w) X.A (newFunctionEnv scope X.env.globals (eR X.env.cells scope.names []) [] X.env.qual none .none (some X.env)) (fun cenv s₄=>
    codeAny (model X.prog X.w) X.A (.compStart (.ListComp elt (⟨tg,iter,ifs,0⟩::rest) scope pos) 0 it acc { cenv with scope:=relabel scope X.env }) (Behind X pins σ Q acc cenv.locals) s₄) E s₃) E s₂) E s₁) E s:=by
 refine Ej (hi pins s σ H _ I h) (fun v s1 h1=>Ej h1 (fun itv s2 h2=>?_) hE) hE
 obtain⟨it,fp,tn,J,H1,e,I2,T,st2,f2,hW⟩:=h2
 subst e
 refine EK (wpAny_newFunctionEnv B.nocell (by intro y hy;simp at hy) (fun h₁ hns₁ hsb₁=>?_) B.kind)
 dsimp only at hns₁ hsb₁ ⊢
 have hp1:H1 s2.heap.objs.size=none:=I2.hok.fresh (DK _)
 have hL:=hW s2.heap.objs.size hp1
 have I3:Inv X pins σ (upd H1 s2.heap.objs.size (.lst [])) { s2 with heap:=s2.heap.push { cls:=.type "list",dict:=none,data:=.seq ([]:List Value).toArray },toks:=s2.toks }:=
  I2.laid (fun b o e=>DJ _ e) (DK _) ⟨Fu _,[],_,.nil,DY _ rfl⟩
 generalize hH2:s2.heap.push { cls:=.type "list",dict:=none,data:=.seq ([]:List Value).toArray } = H2 at hns₁ hsb₁ I3 ⊢
 have hC:H2.objs.size=s2.heap.objs.size+1:=by rw [<- hH2,Heap.size_push]
 have ltfp:∀ b∈fp,b<s2.heap.objs.size:=fun b hb=>by
  obtain⟨o,e,_⟩:=T.obj _ _ st2 b hb
  exact DL e
 have hf3:∀ b∈fp,jL X pins (upd H1 s2.heap.objs.size (.lst [])) b/\b<H2.objs.size:=fun b hb=>by
  obtain⟨a0,a⟩:=f2 b hb
  refine⟨⟨?_,a⟩,by rw [hC];exact Nat.lt_succ_of_lt (ltfp b hb)⟩
  rw [aj (El (ltfp b hb))];exact a0
 have up:∀ b o,H2.get? b=some o->h₁.get? b=some o:=fun b o e=>hsb₁.extBut b o (El (DL e)) (DJ _ e)
 have I4:=I3.block (C:=H2.objs.size) (fp:=fp) (h4:=h₁) (tk:=s2.toks+([]:List (Str×Value)).length) B hf3 (DK _) up hns₁
 have st4:tn 0 h₁:=T.keep _ _ _ st2 fun b hb o e=>up b o (by rw [<- hH2];exact DJ _ e)
 have loop:codeAny (model X.prog X.w) X.A (.compLoop (.ListComp elt (⟨tg,iter,ifs,0⟩::rest) scope pos) 0 (.ref it) (.ref s2.heap.objs.size) (compEnvC scope (eR X.env.cells scope.names []) H2.objs.size X.env))
    (Behind X pins σ Q (.ref s2.heap.objs.size) H2.objs.size) { s2 with heap:=h₁,toks:=s2.toks+([]:List (Str×Value)).length }:=by
  refine Fe (tL (X:=gp X N' scope H2.objs.size { s2 with heap:=H2,toks:=s2.toks } (upd H1 s2.heap.objs.size (.lst [])) fp) hc (fun _ _ z=>z) rfl (htn _ _ _) (hg _ _ _ _) (ht _ _ _ _) (hb _ _ _ _ _) T I4 st4 (fun b hb=>?_) hL) fun r s4 ⟨σ4,H4,hr,J4,qn⟩=>?_
  ·obtain⟨h0,h1,h2,h3,h4',h5⟩:=(hf3 b hb).1
   exact⟨h0,El (hf3 b hb).2,I3.notStk h1 h2,.inl hb,fun x c e=>h4' x c (B.cl I3.ok x c e),fun p hp=>absurd (show p∈([]:List (Addr×Obj)) from hp) (by simp)⟩
  ·obtain⟨m,hm,_⟩:=J4.loc
   have IX:=I3.unblock (fun b hb=>(hf3 b hb).1) J4
   refine⟨_,H4,m,hr,rfl,IX,qn,hm,J4.free,?_,?_,fun x c e z=>?_,fun q hq z=>?_⟩
   ·exact Ne.symm (El I3.lt)
   ·exact I3.sz
   ·obtain⟨v,q⟩:=I3.cell x c e
    exact absurd q.lt (by rw [z];exact EM _)
   ·exact absurd (DL (I3.pin q hq).1) (by rw [z];exact EM _)
 exact codeAny_compStart_list loop (T.self _ 0 _ _ _ st4 loop)
def uO{X:Cx}{elt iter tg:Expr}{ifs:List Expr}{rest:List Comprehension}{scope:Scope}{pos:Pos}{N':List Str}{cap:List (Option Nat)}{wi:TI}{g:TG}{tt:TT}{tb:Addr->TB}{bc:Value->Env->Sem Unit}
  (hc:X.calm=true) (B:BlockOk X N' scope cap) (hi:PI X tg iter wi) (hg:∀ C s H fp,PG (gp X N' scope C s H fp) tg g) (ht:∀ C s H fp,zI (gp X N' scope C s H fp) ifs tt) (htn:∀ it acc env,compTurn (.ListComp elt (⟨tg,iter,ifs,0⟩::rest) scope pos) 0 it acc env=iE (.ListComp elt (⟨tg,iter,ifs,0⟩::rest) scope pos) tg iter.pos ifs 0 it acc env (bc acc env))
  (hb:∀ C s H fp p,PB (gp X N' scope C s H fp) (bc (.ref p) (gp X N' scope C s H fp).env) (tb p))
  (hs:∀ x,foldedSetIterable iter X.env x=pure x:=by intro _;rfl):PE X (.ListComp elt (⟨tg,iter,ifs,0⟩::rest) scope pos) (ly wi g tt tb cap):=by
 intro pins s σ H Q I h
 rw [eval_ListComp]
 refine FZ (use:=none) rfl hs (fv (B.cells I.ok)) B.kind B.names ?_
 refine Ej (jF hc B hi hg ht htn hb I h fun _ _ x=>x) (fun x s1 h1=>Ej h1 (fun it s2 h2=>Ej h2 (fun acc s3 h3=>Ej h3 (fun cenv s4 h4=>Fe h4 fun r s' hr=>?_) fun _ _ x=>x) fun _ _ x=>x) fun _ _ x=>x) fun _ _ x=>x
 obtain⟨p,Hf,m,rfl,rfl,J,q,hn,c1,c2,c3,c4,c5⟩:=hr
 exact⟨m,hn,fun h' sb=>⟨_,Hf,J.turned (t':=s'.toks) (fun b o hb e=>(sb.2 b hb).trans e) c1 c2 (.inr c3) c4 c5,(show RelV (.ref p) (.ref p) from rfl),q⟩⟩
def nu{X:Cx}{elt iter tg:Expr}{ifs:List Expr}{rest:List Comprehension}{scope:Scope}{pos spos py:Pos}{N':List Str}{cap:List (Option Nat)}{wi:TI}{g:TG}{tt:TT}{tb:Addr->TB}{bc:Value->Env->Sem Unit}{y:Str}{i:Nat}
  (hN:X.N.Nodup) (hy:X.N[i]?=some y) (hx:xn X.env.scope y)
  (hc:X.calm=true) (B:BlockOk X N' scope cap) (hi:PI X tg iter wi) (hg:∀ C s H fp,PG (gp X N' scope C s H fp) tg g) (ht:∀ C s H fp,zI (gp X N' scope C s H fp) ifs tt) (htn:∀ it acc env,compTurn (.ListComp elt (⟨tg,iter,ifs,0⟩::rest) scope pos) 0 it acc env=iE (.ListComp elt (⟨tg,iter,ifs,0⟩::rest) scope pos) tg iter.pos ifs 0 it acc env (bc acc env))
  (hb:∀ C s H fp p,PB (gp X N' scope C s H fp) (bc (.ref p) (gp X N' scope C s H fp).env) (tb p))
  (hsw:swapsWith (.ListComp elt (⟨tg,iter,ifs,0⟩::rest) scope pos) (some (.Name y py)) spos.line X.env=pure true:=by rfl)
  (hs:∀ x,foldedSetIterable iter X.env x=pure x:=by intro _;rfl) (hf:X.fn y=true\/X.env.scope.names.lookup y=some .local:=by first | exact .inl rfl | exact .inr rfl | assumption) :
  PS X (.Assign [.Name y py] (.ListComp elt (⟨tg,iter,ifs,0⟩::rest) scope pos) spos) (um (ly wi g tt tb cap) (rN i)):=by
 intro pins s σ H D I h
 rw [exec_Assign_Name_used _ _ _ _ hsw]
 refine DD (Fw (DD ?_))
 show wpAny _ _ (do let _ <- comprehension (.ListComp elt (⟨tg,iter,ifs,0⟩::rest) scope pos) scope X.env _ (newList []) false (eval iter X.env) (some (assign (.Name y py) X.env))) _ _ s
 refine DD (Ej (FZ (use:=some (assign (.Name y py) X.env)) (Q:=fun _ s'=>SP X pins D .next s') rfl hs (fv (B.cells I.ok)) B.kind B.names
  (Ej (jF hc B hi hg ht htn hb I h fun _ _ x=>x) (fun x s1 h1=>Ej h1 (fun it s2 h2=>Ej h2 (fun acc s3 h3=>Ej h3 (fun cenv s4 h4=>Fe h4 fun r s' hr=>?_) fun _ _ x=>x) fun _ _ x=>x) fun _ _ x=>x) fun _ _ x=>x))
  (fun _ s' hq=>DN (DN hq)) fun _ _ e=>e)
 obtain⟨p,Hf,m,rfl,rfl,J,q,hn,c1,c2,c3,c4,c5⟩:=hr
 refine wpAny_assign_Name (kz J hN hy hx (v:=.ref p) rfl (fun s2 J2 ⟨a,sb,ha⟩=>?_) hf)
 refine⟨m,hn.sameBut sb ?_,fun h' sb2=>⟨_,Hf,J2.turned (t':=s2.toks) (fun b o hb e=>(sb2.2 b hb).trans e) c1 c2 (.inr c3) c4 c5,q⟩⟩
 rcases ha with rfl | ha
 ·exact c2
 ·exact Ne.symm (c4 _ _ ha)
def xV{X:Cx}{elt iter tg:Expr}{ifs:List Expr}{scope:Scope}{pos:Pos}{N':List Str}{cap:List (Option Nat)}{wi:TI}{g:TG}{tt:TT}{te:TE}
  (hc:X.calm=true) (B:BlockOk X N' scope cap) (hi:PI X tg iter wi) (hg:∀ C s H fp,PG (gp X N' scope C s H fp) tg g) (ht:∀ C s H fp,zI (gp X N' scope C s H fp) ifs tt) (he:∀ C s H fp,PE (gp X N' scope C s H fp) elt te)
  (hs:∀ x,foldedSetIterable iter X.env x=pure x:=by intro _;rfl):PE X (.ListComp elt [⟨tg,iter,ifs,0⟩] scope pos) (uk wi g tt te cap):=
 uO hc B hi hg ht (fun _ _ _=>compTurn_list ..) (fun C s H fp p=>qO (he C s H fp)) hs
def pA{X:Cx}{elt iter tg:Expr}{ifs:List Expr}{scope:Scope}{pos spos py:Pos}{N':List Str}{cap:List (Option Nat)}{wi:TI}{g:TG}{tt:TT}{te:TE}{y:Str}{i:Nat}
  (hN:X.N.Nodup) (hy:X.N[i]?=some y) (hx:xn X.env.scope y)
  (hc:X.calm=true) (B:BlockOk X N' scope cap) (hi:PI X tg iter wi) (hg:∀ C s H fp,PG (gp X N' scope C s H fp) tg g) (ht:∀ C s H fp,zI (gp X N' scope C s H fp) ifs tt) (he:∀ C s H fp,PE (gp X N' scope C s H fp) elt te)
  (hsw:swapsWith (.ListComp elt [⟨tg,iter,ifs,0⟩] scope pos) (some (.Name y py)) spos.line X.env=pure true:=by rfl)
  (hs:∀ x,foldedSetIterable iter X.env x=pure x:=by intro _;rfl) (hf:X.fn y=true\/X.env.scope.names.lookup y=some .local:=by first | exact .inl rfl | exact .inr rfl | assumption) :
  PS X (.Assign [.Name y py] (.ListComp elt [⟨tg,iter,ifs,0⟩] scope pos) spos) (um (uk wi g tt te cap) (rN i)):=
 nu hN hy hx hc B hi hg ht (fun _ _ _=>compTurn_list ..) (fun C s H fp p=>qO (he C s H fp)) hsw hs hf
end L2
namespace M
open L2
def rM(a:Addr)(h:Heap):Prop:=∃ o,h.get? a=some o/\o.cls=.type "dict"
inductive D where
 | non
 | bl (b:Bool)
 | int (i:Int)
 | str (x:Str)
 | tup (xs:List D)
 | lst (xs:List D)
 | rol (xs:List D)
 | dct (ks:List ao) (vs:List D)
 | ref (r:Nat)
 | txt
 | obj
inductive pd where
 | lst (xs:List D)
 | dct (ks:List ao) (vs:List D)
abbrev aa:=List pd
structure Fp where
 cs:List Addr
 fb:List Addr
def Fp.no(μ:Fp)(a:Addr):Prop:=a ∉ μ.cs/\a ∉ μ.fb
abbrev ai:=List (Option D)
def ym{α:Type}{N:List α}(hN:N.Nodup){i j:Nat}{x:α}(a:N[i]?=some x)(b:N[j]?=some x):i=j:=by
 obtain⟨h1,e1⟩:=DH.mp a
 obtain⟨h2,e2⟩:=DH.mp b
 exact(List.getElem_inj hN).mp (e1.trans e2.symm)
def KList(K:W.Frag)(a:Addr)(xs:List V):Prop:=∃ (o:Obj) (its:Array Value) (n:Nat),K.lookup a=some o/\o.cls=.type "list"/\o.dict=none/\o.data=.seq its n/\its.size<=sizeLine/\Vals xs its.toList
def KTup(K:W.Frag)(a:Addr)(xs:List V):Prop:=∃ (o:Obj) (its:Array Value) (n:Nat),K.lookup a=some o/\o.cls=.type "tuple"/\o.dict=none/\o.data=.seq its n/\its.size<=sizeLine/\Vals xs its.toList
mutual
inductive Rep(K:W.Frag)(μ:Fp)(H:Hp):V->D->Prop
 | non:Rep K μ H .non .non
 | bl (b:Bool):Rep K μ H (.bl b) (.bl b)
 | int (i:Int):Rep K μ H (.int i) (.int i)
 | str (x:Str):Rep K μ H (.str x) (.str x)
 | tup {a:Addr} {vs:List V} {ds:List D} (h:H a=some (.tup vs)) (n:μ.no a) (r:Reps K μ H vs ds):Rep K μ H (.ref a) (.tup ds)
 | ktup {a:Addr} {vs:List V} {ds:List D} (h:KTup K a vs) (r:Reps K μ H vs ds):Rep K μ H (.ref a) (.tup ds)
 | lst {a:Addr} {vs:List V} {ds:List D} (h:H a=some (.lst vs)) (n:μ.no a) (r:Reps K μ H vs ds):Rep K μ H (.ref a) (.lst ds)
 | rol {a:Addr} {vs:List V} {ds:List D} (h:Rd H a (.lst vs)) (n:μ.no a) (r:Reps K μ H vs ds):Rep K μ H (.ref a) (.rol ds)
 | krol {a:Addr} {vs:List V} {ds:List D} (h:KList K a vs) (r:Reps K μ H vs ds):Rep K μ H (.ref a) (.rol ds)
 | dct {a:Addr} {kvs:List (ao×V)} {ds:List D} (h:H a=some (.dK kvs)) (n:μ.no a) (r:Reps K μ H (kvs.map (·.2)) ds):Rep K μ H (.ref a) (.dct (kvs.map (·.1)) ds)
 | ref {a:Addr} {r:Nat} (h:μ.cs[r]?=some a):Rep K μ H (.ref a) (.ref r)
 | txt (x:Str):Rep K μ H (.str x) .txt
 | obj {a:Addr} (h:H a=some (.ext (rM a))) (n:μ.no a):Rep K μ H (.ref a) .obj
inductive Reps(K:W.Frag)(μ:Fp)(H:Hp):List V->List D->Prop
 | nil:Reps K μ H [] []
 | cons {v:V} {d:D} {vs:List V} {ds:List D} (h:Rep K μ H v d) (t:Reps K μ H vs ds):Reps K μ H (v::vs) (d::ds)
end
structure Ext(μ:Fp)(H:Hp)(μ':Fp)(H':Hp):Prop where
 fb:μ'.fb = μ.fb
 pre:∃ l,μ'.cs = μ.cs++l/\∀ a∈l,H a=none
 keep:∀ a o,a ∉ μ.cs->H a=some o->H' a=some o
 dom:∀ a ∈ μ'.cs,H' a≠none
section
variable{K:W.Frag}{μ μ' μ'':Fp}{H H' H'':Hp}
def Ext.stays(e:Ext μ H μ' H'){a:Addr}{o:HO}(h:H a=some o)(n:μ.no a):H' a=some o/\μ'.no a:=by
 refine⟨e.keep a o n.1 h,fun z=>?_,by rw [e.fb];exact n.2⟩
 obtain⟨l,q,hl⟩:=e.pre
 rw [q] at z
 rcases DX.mp z with z | z
 ·exact n.1 z
 ·rw [hl a z] at h;cases h
def Ext.keeps(e:Ext μ H μ' H'){a:Addr}{o:HO}(h:H a=some o)(n:a ∉ μ.cs):H' a=some o/\a ∉ μ'.cs:=by
 refine⟨e.keep a o n h,fun z=>?_⟩
 obtain⟨l,q,hl⟩:=e.pre
 rw [q] at z
 rcases DX.mp z with z | z
 ·exact n z
 ·rw [hl a z] at h;cases h
theorem Ext.trans(e:Ext μ H μ' H')(f:Ext μ' H' μ'' H''):Ext μ H μ'' H'':=by
 obtain⟨l,q,hl⟩:=e.pre
 obtain⟨l',q',hl'⟩:=f.pre
 refine⟨f.fb.trans e.fb,⟨l++l',by rw [q',q,ED],fun a ha=>?_⟩,fun a o n h=>?_,f.dom⟩
 ·rcases DX.mp ha with ha | ha
  ·exact hl a ha
  ·have h1:=hl' a ha
   cases q2:H a with
   | none=>rfl
   | some o=>
    by_cases hm:a ∈ μ.cs
    ·exact absurd h1 (e.dom a (by rw [q];exact DV _ hm))
    ·rw [e.keep a o hm q2] at h1;cases h1
 ·have:=e.keeps h n
  exact f.keep a o this.2 this.1
def Ext.refl(h:∀ a ∈ μ.cs,H a≠none):Ext μ H μ H:=⟨rfl,⟨[],by simp,fun _ z=>by simp at z⟩,fun _ _ _ h=>h,h⟩
mutual
theorem Rep.imp(hk:∀ {a:Addr} {o:HO},H a=some o->μ.no a->H' a=some o/\μ'.no a)(hr:∀ {r:Nat} {a:Addr},μ.cs[r]?=some a->μ'.cs[r]?=some a):∀ {v:V} {d:D},Rep K μ H v d->Rep K μ' H' v d
 | _,_,.non=>.non
 | _,_,.bl b=>.bl b
 | _,_,.int i=>.int i
 | _,_,.str x=>.str x
 | _,_,.tup h n r=>.tup (hk h n).1 (hk h n).2 (Reps.imp hk hr r)
 | _,_,.ktup h r=>.ktup h (Reps.imp hk hr r)
 | _,_,.lst h n r=>.lst (hk h n).1 (hk h n).2 (Reps.imp hk hr r)
 | _,_,.rol (.inl h) n r=>.rol (.inl (hk h n).1) (hk h n).2 (Reps.imp hk hr r)
 | _,_,.rol (.inr ⟨o,h⟩) n r=>.rol (.inr ⟨o,(hk h n).1⟩) (hk h n).2 (Reps.imp hk hr r)
 | _,_,.krol h r=>.krol h (Reps.imp hk hr r)
 | _,_,.dct h n r=>.dct (hk h n).1 (hk h n).2 (Reps.imp hk hr r)
 | _,_,.ref h=>.ref (hr h)
 | _,_,.txt x=>.txt x
 | _,_,.obj h n=>.obj (hk h n).1 (hk h n).2
theorem Reps.imp(hk:∀ {a:Addr} {o:HO},H a=some o->μ.no a->H' a=some o/\μ'.no a)(hr:∀ {r:Nat} {a:Addr},μ.cs[r]?=some a->μ'.cs[r]?=some a):∀ {vs:List V} {ds:List D},Reps K μ H vs ds->Reps K μ' H' vs ds
 | _,_,.nil=>.nil
 | _,_,.cons h t=>.cons (Rep.imp hk hr h) (Reps.imp hk hr t)
end
def mQ{l m:List Addr}{k:List Addr}(q:k=l++m){r:Nat}{a:Addr}(h:l[r]?=some a):k[r]?=some a:=by
 rw [q,Ed (DH.mp h).1];exact h
def Ext.ix(e:Ext μ H μ' H'){r:Nat}{a:Addr}(h:μ.cs[r]?=some a):μ'.cs[r]?=some a:=by
 obtain⟨l,q,_⟩:=e.pre
 exact mQ q h
def Rep.mono(e:Ext μ H μ' H'){v:V}{d:D}(r:Rep K μ H v d):Rep K μ' H' v d:=r.imp e.stays e.ix
def Reps.mono(e:Ext μ H μ' H'){vs:List V}{ds:List D}(r:Reps K μ H vs ds):Reps K μ' H' vs ds:=r.imp e.stays e.ix
theorem Reps.length:∀ {vs:List V} {ds:List D},Reps K μ H vs ds->vs.length=ds.length
 | _,_,.nil=>rfl
 | _,_,.cons _ t=>by simp [Reps.length t]
theorem Reps.get:∀ {vs:List V} {ds:List D} {i:Nat} {d:D},Reps K μ H vs ds->ds[i]?=some d->∃ v,vs[i]?=some v/\Rep K μ H v d
 | _,_,_,_,.nil,e=>by simp at e
 | _,_,0,_,.cons h _,e=>by simp at e;subst e;exact⟨_,rfl,h⟩
 | _,_,i+1,d,.cons _ t,e=>by
  obtain⟨u,h1,h2⟩:=Reps.get (i:=i) (d:=d) t (by simpa using e)
  exact⟨u,by simpa using h1,h2⟩
theorem Reps.append:∀ {vs ws:List V} {ds es:List D},Reps K μ H vs ds->Reps K μ H ws es->Reps K μ H (vs++ws) (ds++es)
 | _,_,_,_,.nil,s=>s
 | _,_,_,_,.cons r t,s=>.cons r (Reps.append t s)
theorem Reps.take:∀ {vs:List V} {ds:List D} (n:Nat),Reps K μ H vs ds->Reps K μ H (vs.take n) (ds.take n)
 | _,_,0,_=>.nil
 | _,_,_+1,.nil=>.nil
 | _,_,n+1,.cons r t=>.cons r (Reps.take n t)
theorem Reps.drop:∀ {vs:List V} {ds:List D} (n:Nat),Reps K μ H vs ds->Reps K μ H (vs.drop n) (ds.drop n)
 | _,_,0,r=>r
 | _,_,_+1,.nil=>.nil
 | _,_,n+1,.cons _ t=>Reps.drop n t
theorem Reps.set{x:V}{d:D}(r:Rep K μ H x d):∀ {vs:List V} {ds:List D} (i:Nat),Reps K μ H vs ds->Reps K μ H (vs.set i x) (ds.set i d)
 | _,_,_,.nil=>.nil
 | _,_,0,.cons _ t=>.cons r t
 | _,_,i+1,.cons q t=>.cons q (Reps.set r i t)
theorem Reps.flat{xs:List V}:∀ (k:Nat) {ds:List D},Reps K μ H xs ds->Reps K μ H (List.replicate k xs).flatten (List.replicate k ds).flatten
 | 0,_,_=>.nil
 | k+1,_,r=>by rw [Ef,Ef,Et,Et];exact r.append (Reps.flat k r)
def CellOk(K:W.Frag)(μ:Fp)(H:Hp)(a:Addr):pd->Prop
 | .lst ds=>∃ vs,H a=some (.lst vs)/\Reps K μ H vs ds
 | .dct ks ds=>∃ kvs,H a=some (.dK kvs)/\ks=kvs.map (·.1)/\Reps K μ H (kvs.map (·.2)) ds
structure SOk(K:W.Frag)(μ:Fp)(S:aa)(H:Hp):Prop where
 nd:μ.cs.Nodup
 len:μ.cs.length=S.length
 cell:∀ (r:Nat) (a:Addr) (c:pd),μ.cs[r]?=some a->S[r]?=some c->CellOk K μ H a c
 fdom:∀ a ∈ μ.fb,H a≠none
 disj:∀ a ∈ μ.fb,a ∉ μ.cs
def CellOk.ne_none{a:Addr}{c:pd}(h:CellOk K μ H a c):H a≠none:=by
 cases c with
 | lst ds=>obtain⟨vs,h,_⟩:=h;rw [h];simp
 | dct ks ds=>obtain⟨vs,h,_⟩:=h;rw [h];simp
theorem CellOk.mono(e:Ext μ H μ' H'){a:Addr}{c:pd}(he:H' a=H a)(h:CellOk K μ H a c):CellOk K μ' H' a c:=by
 cases c with
 | lst ds=>obtain⟨vs,h,r⟩:=h;exact⟨vs,he.trans h,r.mono e⟩
 | dct ks ds=>obtain⟨vs,h,q,r⟩:=h;exact⟨vs,he.trans h,q,r.mono e⟩
def SOk.dom{S:aa}(s:SOk K μ S H):∀ a ∈ μ.cs,H a≠none:=fun a ha=>by
 obtain⟨r,hr⟩:=Fl.mp ha
 have hl:=(DH.mp hr).1
 rw [s.len] at hl
 exact(s.cell r a S[r] hr (by simp [hl])).ne_none
def SOk.ext{S:aa}(s:SOk K μ S H):Ext μ H μ H:=.refl s.dom
def SOk.notMem{S:aa}(s:SOk K μ S H){p:Addr}(h:H p=none):μ.no p:=⟨fun z=>s.dom p z h,fun z=>s.fdom p z h⟩
def SOk.laid{S:aa}(s:SOk K μ S H){p:Addr}{o:HO}(h:H p=none):Ext μ H μ (upd H p o)/\SOk K μ S (upd H p o):=by
 have e:Ext μ H μ (upd H p o):=⟨rfl,⟨[],by simp,fun _ z=>by simp at z⟩,fun a o' _ q=>by rw [aj (aI q h)];exact q,fun a ha=>by
  by_cases z:a=p
  ·subst z;rw [am];simp
  ·rw [aj z];exact s.dom a ha⟩
 refine⟨e,s.nd,s.len,fun r a c h1 h2=>(s.cell r a c h1 h2).mono e ?_,fun a ha=>?_,s.disj⟩
 case refine_2=>
  by_cases z:a=p
  ·subst z;rw [am];simp
  ·rw [aj z];exact s.fdom a ha
 have:=(s.cell r a c h1 h2).ne_none
 refine aj fun z=>?_
 rw [z] at this
 exact this h
def SOk.alloc{S:aa}(s:SOk K μ S H){p:Addr}{vs:List V}{ds:List D}(h:H p=none)(r:Reps K μ H vs ds):Ext μ H ⟨μ.cs++[p],μ.fb⟩ (upd H p (.lst vs))/\SOk K ⟨μ.cs++[p],μ.fb⟩ (S++[.lst ds]) (upd H p (.lst vs)):=by
 have hp:=s.notMem h
 have e:Ext μ H ⟨μ.cs++[p],μ.fb⟩ (upd H p (.lst vs)):=⟨rfl,⟨[p],rfl,fun a z=>by rw [Ei.mp z];exact h⟩,fun a o' _ q=>by rw [aj (aI q h)];exact q,fun a ha=>by
  by_cases z:a=p
  ·subst z;rw [am];simp
  ·rw [aj z]
   rcases DX.mp ha with q | q
   ·exact s.dom a q
   ·exact absurd (Ei.mp q) z⟩
 refine⟨e,?_,by simp [s.len],fun i a c h1 h2=>?_,fun a ha=>?_,fun a ha z=>?_⟩
 case refine_3=>
  by_cases z:a=p
  ·subst z;rw [am];simp
  ·rw [aj z];exact s.fdom a ha
 case refine_4=>
  rcases DX.mp z with q | q
  ·exact s.disj a ha q
  ·rw [Ei.mp q] at ha;exact hp.2 ha
 ·show (μ.cs++[p]).Nodup
  rw [EN]
  exact⟨s.nd,by simp,fun a ha b hb=>by rw [Ei.mp hb];rintro rfl;exact hp.1 ha⟩
 ·have h1:(μ.cs++[p])[i]?=some a:=h1
  by_cases hi:i < μ.cs.length
  ·rw [Ed hi] at h1
   rw [Ed (by rw [<- s.len];exact hi)] at h2
   have q:=s.cell i a c h1 h2
   refine q.mono e (aj fun z=>?_)
   exact hp.1 (z ▸ Eg h1)
  ·have hl:i = μ.cs.length:=by
    have:=(DH.mp h1).1
    simp at this;omega
   subst hl
   rw [Es (DK _)] at h1
   rw [s.len,Es (DK _)] at h2
   simp at h1 h2
   subst h1 h2
   exact⟨vs,am,r.mono e⟩
def SOk.write{S:aa}(s:SOk K μ S H){i:Nat}{a:Addr}{vs vs':List V}{ds:List D}(hi:μ.cs[i]?=some a)(h:H a=some (.lst vs))(r:Reps K μ H vs' ds):Ext μ H μ (upd H a (.lst vs'))/\SOk K μ (S.set i (.lst ds)) (upd H a (.lst vs')):=by
 have ha:=Eg hi
 have e:Ext μ H μ (upd H a (.lst vs')):=⟨rfl,⟨[],by simp,fun _ z=>by simp at z⟩,fun b o' n q=>by rw [aj (by rintro rfl;exact n ha)];exact q,fun b hb=>by
  by_cases z:b=a
  ·subst z;rw [am];simp
  ·rw [aj z];exact s.dom b hb⟩
 refine⟨e,s.nd,by simp [s.len],fun j b c h1 h2=>?_,fun b hb=>?_,s.disj⟩
 case refine_2=>
  by_cases z:b=a
  ·subst z;rw [am];simp
  ·rw [aj z];exact s.fdom b hb
 by_cases hj:j=i
 ·subst hj
  rw [hi] at h1;cases h1
  have hl:j<S.length:=by rw [<- s.len];exact(DH.mp hi).1
  rw [Ez hl] at h2
  cases h2
  exact⟨vs',am,r.mono e⟩
 ·rw [Em (Ne.symm hj)] at h2
  refine(s.cell j b c h1 h2).mono e (aj fun z=>hj ?_)
  subst z
  exact ym s.nd h1 hi
inductive EOk(K:W.Frag)(μ:Fp)(H:Hp):L2.St->ai->Prop
 | nil:EOk K μ H [] []
 | no {x:Option V} {σ:L2.St} {env:ai} (t:EOk K μ H σ env):EOk K μ H (x::σ) (none::env)
 | yes {v:V} {d:D} {σ:L2.St} {env:ai} (h:Rep K μ H v d) (t:EOk K μ H σ env):EOk K μ H (some v::σ) (some d::env)
theorem EOk.mono(e:Ext μ H μ' H'):∀ {σ:L2.St} {env:ai},EOk K μ H σ env->EOk K μ' H' σ env
 | _,_,.nil=>.nil
 | _,_,.no t=>.no (EOk.mono e t)
 | _,_,.yes h t=>.yes (h.mono e) (EOk.mono e t)
theorem EOk.get:∀ {σ:L2.St} {env:ai} {i:Nat} {d:D},EOk K μ H σ env->env[i]?=some (some d)->∃ v,σ[i]?=some (some v)/\Rep K μ H v d
 | _,_,_,_,.nil,h=>by simp at h
 | _,_,0,_,.no _,h=>by simp at h
 | _,_,0,_,.yes h _,q=>by simp at q;subst q;exact⟨_,rfl,h⟩
 | _,_,i+1,d,.no t,h=>by
  obtain⟨v,h1,h2⟩:=EOk.get (i:=i) (d:=d) t (by simpa using h)
  exact⟨v,by simpa using h1,h2⟩
 | _,_,i+1,d,.yes _ t,h=>by
  obtain⟨v,h1,h2⟩:=EOk.get (i:=i) (d:=d) t (by simpa using h)
  exact⟨v,by simpa using h1,h2⟩
theorem EOk.set{v:V}{d:D}(r:Rep K μ H v d):∀ {σ:L2.St} {env:ai} (i:Nat),EOk K μ H σ env->EOk K μ H (σ.set i (Option.some v)) (env.set i (Option.some d))
 | _,_,_,.nil=>.nil
 | _,_,0,.no t=>.yes r t
 | _,_,0,.yes _ t=>.yes r t
 | _,_,i+1,.no t=>.no (EOk.set r i t)
 | _,_,i+1,.yes h t=>.yes h (EOk.set r i t)
theorem EOk.start{N:Nat}:∀ {vs:List V} {ds:List D},Reps K μ H vs ds->EOk K μ H (vs.map Option.some++List.replicate N Option.none) (ds.map Option.some++List.replicate N Option.none)
 | _,_,.nil=>by
  induction N with
  | zero=>exact .nil
  | succ n ih=>exact .no ih
 | _,_,.cons h t=>.yes h (EOk.start t)
theorem EOk.block{σ:L2.St}{env:ai}(h:EOk K μ H σ env):∀ (cap:List (Option Nat)),EOk K μ H (σB cap σ) (cap.map fun o=>o.bind fun i=>(env[i]?).join)
 | []=>.nil
 | Option.none::r=>.no (EOk.block h r)
 | Option.some i::r=>by
  show EOk K μ H ((σ[i]?).join::σB r σ) ((env[i]?).join::_)
  cases q:(env[i]?).join with
  | none=>exact .no (EOk.block h r)
  | some d=>
   have q':env[i]?=Option.some (Option.some d):=by
    cases z:env[i]? with
    | none=>rw [z] at q;cases q
    | some y=>rw [z] at q;exact congrArg Option.some q
   obtain⟨v,h1,h2⟩:=h.get q'
   rw [h1]
   exact .yes h2 (EOk.block h r)
def qW{p a:Addr}{cs fb:List Addr}(n:(⟨cs,p::fb⟩:Fp).no a):(⟨cs,fb⟩:Fp).no a:=⟨n.1,fun z=>n.2 (DC _ z)⟩
def Rep.less{p:Addr}{cs fb:List Addr}{v:V}{d:D}(r:Rep K ⟨cs,p::fb⟩ H v d):Rep K ⟨cs,fb⟩ H v d:=r.imp (fun h n=>⟨h,qW n⟩) fun h=>h
def Reps.less{p:Addr}{cs fb:List Addr}{v:List V}{d:List D}(r:Reps K ⟨cs,p::fb⟩ H v d):Reps K ⟨cs,fb⟩ H v d:=r.imp (fun h n=>⟨h,qW n⟩) fun h=>h
def qV{p:Addr}{o:HO}{cs fb:List Addr}(hp:H p=none){a:Addr}{o':HO}(h:H a=some o')(n:(⟨cs,fb⟩:Fp).no a):upd H p o a=some o'/\(⟨cs,p::fb⟩:Fp).no a:=⟨(aj (aI h hp)).trans h,n.1,fun z=>(Ep.mp z).elim (aI h hp) n.2⟩
def Rep.more{p:Addr}{o:HO}{cs fb:List Addr}(hp:H p=none){v:V}{d:D}(r:Rep K ⟨cs,fb⟩ H v d):Rep K ⟨cs,p::fb⟩ (upd H p o) v d:=r.imp (qV hp) fun h=>h
def Reps.more{p:Addr}{o:HO}{cs fb:List Addr}(hp:H p=none){v:List V}{d:List D}(r:Reps K ⟨cs,fb⟩ H v d):Reps K ⟨cs,p::fb⟩ (upd H p o) v d:=r.imp (qV hp) fun h=>h
def Fp.no.ne{μ:Fp}{a p:Addr}(n:μ.no a)(hp:p ∈ μ.fb):a≠p:=fun z=>n.2 (by rw [z];exact hp)
def Rep.chg{p:Addr}{o:HO}(hp:p ∈ μ.fb){v:V}{d:D}(r:Rep K μ H v d):Rep K μ (upd H p o) v d:=r.imp (fun h n=>⟨(aj (n.ne hp)).trans h,n⟩) fun h=>h
def Reps.chg{p:Addr}{o:HO}(hp:p ∈ μ.fb){v:List V}{d:List D}(r:Reps K μ H v d):Reps K μ (upd H p o) v d:=r.imp (fun h n=>⟨(aj (n.ne hp)).trans h,n⟩) fun h=>h
theorem EOk.more{p:Addr}{o:HO}{cs fb:List Addr}(hp:H p=none):∀ {σ:L2.St} {env:ai},EOk K ⟨cs,fb⟩ H σ env->EOk K ⟨cs,p::fb⟩ (upd H p o) σ env
 | _,_,.nil=>.nil
 | _,_,.no t=>.no (EOk.more hp t)
 | _,_,.yes h t=>.yes (h.more hp) (EOk.more hp t)
theorem EOk.chg{p:Addr}{o:HO}(hp:p ∈ μ.fb):∀ {σ:L2.St} {env:ai},EOk K μ H σ env->EOk K μ (upd H p o) σ env
 | _,_,.nil=>.nil
 | _,_,.no t=>.no (EOk.chg hp t)
 | _,_,.yes h t=>.yes (h.chg hp) (EOk.chg hp t)
theorem CellOk.upd{p a:Addr}{o:HO}{c:pd}(μ':Fp)(hpa:a≠p)(h:CellOk K μ H a c)(f:∀ vs ds,Reps K μ H vs ds->Reps K μ' (upd H p o) vs ds):CellOk K μ' (upd H p o) a c:=by
 cases c with
 | lst ds=>obtain⟨vs,h,r⟩:=h;exact⟨vs,(aj hpa).trans h,f _ _ r⟩
 | dct ks ds=>obtain⟨vs,h,q,r⟩:=h;exact⟨vs,(aj hpa).trans h,q,f _ _ r⟩
theorem SOk.less{S:aa}{p:Addr}{cs fb:List Addr}(s:SOk K ⟨cs,p::fb⟩ S H):SOk K ⟨cs,fb⟩ S H:=
 ⟨s.nd,s.len,fun r a c h1 h2=>by
  have:=s.cell r a c h1 h2
  cases c with
  | lst ds=>obtain⟨vs,h,r⟩:=this;exact⟨vs,h,r.less⟩
  | dct ks ds=>obtain⟨vs,h,q,r⟩:=this;exact⟨vs,h,q,r.less⟩,fun a ha=>s.fdom a (DC _ ha),fun a ha=>s.disj a (DC _ ha)⟩
theorem SOk.more{S:aa}{p:Addr}{o:HO}{cs fb:List Addr}(s:SOk K ⟨cs,fb⟩ S H)(hp:H p=none):SOk K ⟨cs,p::fb⟩ S (upd H p o):=by
 have hn:=s.notMem hp
 refine⟨s.nd,s.len,fun r a c h1 h2=>(s.cell r a c h1 h2).upd _ (fun z=>?_) fun vs ds r=>r.more hp,fun a ha=>?_,fun a ha z=>?_⟩
 ·exact hn.1 (z ▸ Eg h1)
 ·by_cases z:a=p
  ·subst z;rw [am];simp
  ·rw [aj z];exact s.fdom a ((Ep.mp ha).resolve_left z)
 ·rcases Ep.mp ha with rfl | ha
  ·exact hn.1 z
  ·exact s.disj a ha z
theorem SOk.chg{S:aa}{p:Addr}{o:HO}(s:SOk K μ S H)(hp:p ∈ μ.fb):SOk K μ S (upd H p o):=by
 refine⟨s.nd,s.len,fun r a c h1 h2=>(s.cell r a c h1 h2).upd _ (fun z=>?_) fun vs ds r=>r.chg hp,fun a ha=>?_,s.disj⟩
 ·exact s.disj p hp (z ▸ Eg h1)
 ·by_cases z:a=p
  ·subst z;rw [am];simp
  ·rw [aj z];exact s.fdom a ha
end
abbrev ME:=ai->aa->Option (D×aa)
abbrev MT:=ai->aa->Option (Bool×aa)
abbrev MA:=ai->aa->Option (List D×aa)
inductive il where
 | nx (env:ai) (S:aa)
 | rt (d:D) (S:aa)
 | bk (env:ai) (S:aa)
 | ct (env:ai) (S:aa)
abbrev MS:=ai->aa->Option il
def Post(K:W.Frag)(μ:Fp)(H:Hp)(S':aa)(d:D)(Q:VK):Prop:=∀ v H' μ',Ext μ H μ' H'->SOk K μ' S' H'->Rep K μ' H' v d->Q v H'
def PostT(K:W.Frag)(μ:Fp)(H:Hp)(S':aa)(b:Bool)(Q:Bool->Hp->Prop):Prop:=∀ H' μ',Ext μ H μ' H'->SOk K μ' S' H'->Q b H'
def PostA(K:W.Frag)(μ:Fp)(H:Hp)(S':aa)(ds:List D)(Q:List V->Hp->Prop):Prop:=∀ vs H' μ',Ext μ H μ' H'->SOk K μ' S' H'->Reps K μ' H' vs ds->Q vs H'
def PostN(K:W.Frag)(μ:Fp)(H:Hp)(S':aa)(env':ai)(Q:L2.St->Hp->Prop):Prop:=∀ σ' H' μ',Ext μ H μ' H'->SOk K μ' S' H'->EOk K μ' H' σ' env'->Q σ' H'
def PostS(K:W.Frag)(μ:Fp)(H:Hp)(o:il)(E:kj):Prop:=match o with
 | .nx env' S'=>PostN K μ H S' env' E.nx
 | .rt d S'=>Post K μ H S' d E.rt
 | .bk env' S'=>PostN K μ H S' env' E.bk
 | .ct env' S'=>PostN K μ H S' env' E.ct
inductive tM(K:W.Frag)(m:ME)(σ:L2.St)(H:Hp)(Q:VK):Prop
 | mk (μ:Fp) (S:aa) (env:ai) (d:D) (S':aa) (hS:SOk K μ S H) (hE:EOk K μ H σ env) (h:m env S=some (d,S')) (post:Post K μ H S' d Q)
inductive ua(K:W.Frag)(m:MT)(σ:L2.St)(H:Hp)(Q:Bool->Hp->Prop):Prop
 | mk (μ:Fp) (S:aa) (env:ai) (b:Bool) (S':aa) (hS:SOk K μ S H) (hE:EOk K μ H σ env) (h:m env S=some (b,S')) (post:PostT K μ H S' b Q)
inductive tMA(K:W.Frag)(m:MA)(σ:L2.St)(H:Hp)(Q:List V->Hp->Prop):Prop
 | mk (μ:Fp) (S:aa) (env:ai) (ds:List D) (S':aa) (hS:SOk K μ S H) (hE:EOk K μ H σ env) (h:m env S=some (ds,S')) (post:PostA K μ H S' ds Q)
inductive tMS(K:W.Frag)(m:MS)(E:kj)(σ:L2.St)(H:Hp):Prop
 | mk (μ:Fp) (S:aa) (env:ai) (o:il) (hS:SOk K μ S H) (hE:EOk K μ H σ env) (h:m env S=some o) (post:PostS K μ H o E)
inductive fc(K:W.Frag)(f:aa->D->D->Option D)(x y:V)(H:Hp)(Q:VK):Prop
 | mk (μ:Fp) (S:aa) (dx dy dz:D) (hS:SOk K μ S H) (h1:Rep K μ H x dx) (h2:Rep K μ H y dy) (h3:f S dx dy=some dz) (post:Post K μ H S dz Q)
inductive rM1(K:W.Frag)(f:aa->D->Option D)(x:V)(H:Hp)(Q:VK):Prop
 | mk (μ:Fp) (S:aa) (dx dz:D) (hS:SOk K μ S H) (h1:Rep K μ H x dx) (h3:f S dx=some dz) (post:Post K μ H S dz Q)
inductive su(K:W.Frag)(f:List D->aa->Option (D×aa))(vs:List V)(H:Hp)(Q:VK):Prop
 | mk (μ:Fp) (S:aa) (ds:List D) (d:D) (S':aa) (hS:SOk K μ S H) (h1:Reps K μ H vs ds) (h3:f ds S=some (d,S')) (post:Post K μ H S' d Q)
def DE(X:Cx)(e:Expr)(m:ME):Prop:=PE X e (tM X.K m)
def DT(X:Cx)(e:Expr)(m:MT):Prop:=PT X e (ua X.K m)
def DW(X:Cx)(e:Expr)(m:MT):Prop:=PW X e (ua X.K m)
def DA(X:Cx)(es:List Expr)(m:MA):Prop:=PA X es (tMA X.K m)
def DS(X:Cx)(st:Stmt)(m:MS):Prop:=PS X st (tMS X.K m)
def lu(X:Cx)(st:List Stmt)(m:MS):Prop:=PSs X st (tMS X.K m)
section
variable{X:Cx}{K:W.Frag}{μ μ':Fp}{H H':Hp}{S S':aa}
def Post.ext{d:D}{Q:VK}(e:Ext μ H μ' H')(p:Post K μ H S' d Q):Post K μ' H' S' d Q:=fun v H2 μ2 e2 s r=>p v H2 μ2 (e.trans e2) s r
def Post.here{d:D}{Q:VK}{v:V}(p:Post K μ H S d Q)(s:SOk K μ S H)(r:Rep K μ H v d):Q v H:=p v H μ s.ext s r
def PE.imp{e:Expr}{t t':TE}(h:PE X e t)(i:∀ σ H Q,t' σ H Q->t σ H Q):PE X e t':=fun pins s σ H Q I q=>h pins s σ H Q I (i σ H Q q)
def PT.imp{e:Expr}{t t':TT}(h:PT X e t)(i:∀ σ H Q,t' σ H Q->t σ H Q):PT X e t':=fun pins s σ H Q I q=>h pins s σ H Q I (i σ H Q q)
def PW.imp{e:Expr}{t t':TT}(h:PW X e t)(i:∀ σ H Q,t' σ H Q->t σ H Q):PW X e t':=fun w pins s σ H Q I q=>h w pins s σ H Q I (i σ H Q q)
def PA.imp{e:List Expr}{t t':TA}(h:PA X e t)(i:∀ σ H Q,t' σ H Q->t σ H Q):PA X e t':=fun pos pins s σ H Q I q=>h pos pins s σ H Q I (i σ H Q q)
def PS.imp{e:Stmt}{t t':TS}(h:PS X e t)(i:∀ E σ H,t' E σ H->t E σ H):PS X e t':=fun pins s σ H E I q=>h pins s σ H E I (i E σ H q)
def PSs.imp{e:List Stmt}{t t':TS}(h:PSs X e t)(i:∀ E σ H,t' E σ H->t E σ H):PSs X e t':=fun pins s σ H E I q=>h pins s σ H E I (i E σ H q)
def OpR.imp{f:Value->Value->Sem Value}{r r':R2}(h:OpR X f r)(i:∀ x y H Q,r' x y H Q->r x y H Q):OpR X f r':=fun pins s σ H x y v u Q I rx ry q=>h pins s σ H x y v u Q I rx ry (i x y H Q q)
def UnR.imp{f:Value->Sem Value}{r r':V->Hp->VK->Prop}(h:UnR X f r)(i:∀ x H Q,r' x H Q->r x H Q):UnR X f r':=fun pins s σ H x v Q I rx q=>h pins s σ H x v Q I rx (i x H Q q)
def CallR.imp{f:Value}{r r':List V->Hp->VK->Prop}(h:CallR X f r)(i:∀ x H Q,r' x H Q->r x H Q):CallR X f r':=fun pins s σ H x v Q I rx q=>h pins s σ H x v Q I rx (i x H Q q)
def IxR.imp{r r':R2}(h:IxR X r)(i:∀ x y H Q,r' x y H Q->r x y H Q):IxR X r':=fun va sl pins s σ H x y v u Q I rx ry q=>h va sl pins s σ H x y v u Q I rx ry (i x y H Q q)
noncomputable def ac(i:Nat):ME:=fun env S=>(env[i]?).join.bind fun d=>some (d,S)
noncomputable def mC(d:D):ME:=fun _ S=>some (d,S)
def sP{α:Type}{o:Option (Option α)}{a:α}(h:o.join=some a):o=some (some a):=by
 cases o with
 | none=>cases h
 | some o=>exact congrArg some h
def CP{i:Nat}{x:Str}{pos:Pos}(hN:X.N[i]?=some x)(hv:Dr X.env.scope x)(hd:(x == ("__debug__":Str))=false:=by decide)(hcd:(x == ("__classdict__":Str))=false:=by decide):DE X (.Name x pos) (ac i):=
 PE.imp (uI hN hv hd hcd) fun σ H Q ⟨μ,S,env,d,S',hS,hE,hm,post⟩=>by
  obtain⟨d',h1,h2⟩:=Dy.mp hm
  cases h2
  obtain⟨v,e,r⟩:=hE.get (sP h1)
  exact⟨v,e,post.here hS r⟩
def eM{e:Expr}{v:V}{d:D}(h:PE X e (tC v))(r:∀ μ H,Rep X.K μ H v d):DE X e (mC d):=
 PE.imp h fun σ H Q ⟨μ,S,env,d',S',hS,hE,hm,post⟩=>by cases hm;exact post.here hS (r μ H)
def CY{i:Int}{j pos}:DE X (.Constant (.int i) j pos) (mC (.int i)):=eM Bd fun _ _=>.int i
def de_bl{b j pos}:DE X (.Constant (.bool b) j pos) (mC (.bl b)):=eM pe_bl fun _ _=>.bl b
def CU{j pos}:DE X (.Constant .none j pos) (mC .non):=eM Bc fun _ _=>.non
def CS{x j pos}:DE X (.Constant (.str x) j pos) (mC (.str x)):=eM AZ fun _ _=>.str x
structure GC(K:W.Frag)(mg:Str->Option Value)(x:Str)(d:D):Prop where
 ex:∃ u v,mg x=some u/\RelV v u/\∀ μ H,Rep K μ H v d
def zn{x:Str}{d:D}{pos:Pos}(g:GC X.K X.mg x d)(hg:Gl X x:=by rfl)(hd:(x == ("__debug__":Str))=false:=by decide):DE X (.Name x pos) (mC d):=by
 obtain⟨u,v,h1,h2,h3⟩:=g.ex
 exact eM (qM hg h1 h2 hd) h3
noncomputable def ay(f:aa->D->D->Option D)(a b:ME):ME:=fun env S=>(a env S).bind fun p=>(b env p.2).bind fun q=>(f q.2 p.1 q.1).bind fun z=>some (z,q.2)
def vh{f:aa->D->D->Option D}{a b:ME}{env:ai}{S S':aa}{d:D}(h:ay f a b env S=some (d,S')):∃ x S1 y,a env S=some (x,S1)/\b env S1=some (y,S')/\f S' x y=some d:=by
 obtain⟨⟨x,S1⟩,h1,h⟩:=Dy.mp h
 obtain⟨⟨y,S2⟩,h2,h⟩:=Dy.mp h
 obtain⟨z,h3,h⟩:=Dy.mp h
 cases h
 exact⟨x,S1,y,h1,h2,h3⟩
def lx{f:aa->D->D->Option D}{ma mb:ME}{σ:L2.St}{Q:VK}(h:tM K (ay f ma mb) σ H Q):tOp (fc K f) (tM K ma) (tM K mb) σ H Q:=by
 obtain⟨μ,S,env,d,S',hS,hE,hm,post⟩:=h
 obtain⟨x,S1,y,h1,h2,h3⟩:=vh hm
 exact⟨μ,S,env,x,S1,hS,hE,h1,fun v H1 μ1 e1 s1 r1=>⟨μ1,S1,env,y,S',s1,hE.mono e1,h2,fun w H2 μ2 e2 s2 r2=>⟨μ2,S',x,y,d,s2,r1.mono e2,r2,h3,(post.ext e1).ext e2⟩⟩⟩
section
variable{a b c:Expr}{ma mb mc:ME}{pos:Pos}
def ll{op:Operator}{f:aa->D->D->Option D}(ho:OpR X (binaryOp op) (fc X.K f))(ha:DE X a ma)(hb:DE X b mb):DE X (.BinOp a op b pos) (ay f ma mb):=
 PE.imp (pe_op ho ha hb) fun _ _ _ h=>lx h
def CZ{op:CmpOp}{f:aa->D->D->Option D}(ho:OpR X (compareOp op) (fc X.K f))(ha:DE X a ma)(hb:DE X b mb)(hm:behindInMarks op b=false):DE X (.Compare a [op] [b] pos) (ay f ma mb):=
 PE.imp (xW ho ha hb hm) fun _ _ _ h=>lx h
noncomputable def aP(m:ME):MT:=fun env S=>(m env S).bind fun p=>match p.1 with | .bl k=>some (k,p.2) | _=>none
def ja{m:ME}{env:ai}{S S':aa}{k:Bool}(h:aP m env S=some (k,S')):m env S=some (.bl k,S'):=by
 obtain⟨⟨x,S1⟩,h1,h⟩:=Dy.mp h
 cases x <;> first | (cases h;exact h1) | cases h
def Rep.bl_inv{v:V}{k:Bool}(h:Rep K μ H v (.bl k)):v=.bl k:=by cases h;rfl
def Rep.int_inv{v:V}{k:Int}(h:Rep K μ H v (.int k)):v=.int k:=by cases h;rfl
def Rep.str_inv{v:V}{k:Str}(h:Rep K μ H v (.str k)):v=.str k:=by cases h;rfl
def CF{op:CmpOp}{f:aa->D->D->Option D}(ho:OpR X (compareOp op) (fc X.K f))(ha:DE X a ma)(hb:DE X b mb)(hm:behindInMarks op b=false):DT X (.Compare a [op] [b] pos) (aP (ay f ma mb)):=
 PT.imp (xK ho ha hb hm) fun σ H Q ⟨μ,S,env,k,S',hS,hE,hm,post⟩=>by
  have h:=ja hm
  refine lx ⟨μ,S,env,_,S',hS,hE,h,fun v H' μ' e s r=>?_⟩
  exact⟨k,r.bl_inv,post H' μ' e s⟩
noncomputable def bo(f g:aa->D->D->Option D)(a b c:ME):ME:=fun env S=>(a env S).bind fun p=>(b env p.2).bind fun q=>(f q.2 p.1 q.1).bind fun z=>match z with
 | .bl true=>(c env q.2).bind fun r=>(g r.2 q.1 r.1).bind fun z=>some (z,r.2)
 | .bl false=>some (.bl false,q.2)
 | _=>none
def ku{f g:aa->D->D->Option D}{σ:L2.St}{Q:VK}(h:tM K (bo f g ma mb mc) σ H Q):pj (fc K f) (fc K g) (tM K ma) (tM K mb) (tM K mc) σ H Q:=by
 obtain⟨μ,S,env,d,S',hS,hE,hm,post⟩:=h
 obtain⟨⟨x,S1⟩,h1,hm⟩:=Dy.mp hm
 obtain⟨⟨y,S2⟩,h2,hm⟩:=Dy.mp hm
 obtain⟨z,h3,hm⟩:=Dy.mp hm
 refine⟨μ,S,env,x,S1,hS,hE,h1,fun v H1 μ1 e1 s1 r1=>⟨μ1,S1,env,y,S2,s1,hE.mono e1,h2,fun w H2 μ2 e2 s2 r2=>⟨μ2,S2,x,y,z,s2,r1.mono e2,r2,h3,fun u H3 μ3 e3 s3 r3=>?_⟩⟩⟩
 cases z with
 | bl k=>
  refine⟨k,r3.bl_inv,?_⟩
  cases k with
  | false=>cases hm;rw [Eh DM];exact post _ H3 μ3 ((e1.trans e2).trans e3) s3 (.bl false)
  | true=>
   obtain⟨⟨t,S4⟩,h4,hm⟩:=Dy.mp hm
   obtain⟨z,h5,hm⟩:=Dy.mp hm
   cases hm
   rw [DU rfl]
   exact⟨μ3,S2,env,t,S4,s3,hE.mono ((e1.trans e2).trans e3),h4,fun u' H4 μ4 e4 s4 r4=>⟨μ4,_,y,t,_,s4,(r2.mono e3).mono e4,r4,h5,post.ext (((e1.trans e2).trans e3).trans e4)⟩⟩
 | _=>cases hm
def wX{op op':CmpOp}{f g:aa->D->D->Option D}(ho:OpR X (compareOp op) (fc X.K f))(ho':OpR X (compareOp op') (fc X.K g))(ha:DE X a ma)(hb:DE X b mb)(hc:DE X c mc)
  (hm:lastMarks [op,op'] [b,c]=false:=by with_unfolding_all rfl):DE X (.Compare a [op,op'] [b,c] pos) (bo f g ma mb mc):=
 PE.imp (uP ho ho' ha hb hc hm) fun _ _ _ h=>ku h
def wF{op op':CmpOp}{f g:aa->D->D->Option D}(ho:OpR X (compareOp op) (fc X.K f))(ho':OpR X (compareOp op') (fc X.K g))(ha:DE X a ma)(hb:DE X b mb)(hc:DE X c mc)
  (hm:lastMarks [op,op'] [b,c]=false:=by with_unfolding_all rfl):DT X (.Compare a [op,op'] [b,c] pos) (aP (bo f g ma mb mc)):=
 PT.imp (uB ho ho' ha hb hc hm) fun σ H Q ⟨μ,S,env,k,S',hS,hE,hm,post⟩=>by
  have h:=ja hm
  refine ku ⟨μ,S,env,_,S',hS,hE,h,fun v H' μ' e s r=>?_⟩
  exact⟨k,r.bl_inv,post H' μ' e s⟩
noncomputable def iF(S:aa):D->Option Bool
 | .non=>some false
 | .bl b=>some b
 | .int i=>some (i != 0)
 | .str y=>if y.length<=sizeLine then some ((y.length:Int) != 0) else none
 | .tup xs=>some (!xs.isEmpty)
 | .lst xs=>some (!xs.isEmpty)
 | .rol xs=>some (!xs.isEmpty)
 | .dct ks _=>some (!ks.isEmpty)
 | .ref r=>match S[r]? with
  | some (.lst xs)=>some (!xs.isEmpty)
  | some (.dct ks _)=>some (!ks.isEmpty)
  | none=>none
 | .txt=>none
 | .obj=>none
theorem Reps.isEmpty{vs:List V}{ds:List D}(r:Reps K μ H vs ds):(!ds.isEmpty) = !vs.isEmpty:=by cases r <;> rfl
def gJ{α β:Type}(f:α->β)(l:List α):(!(l.map f).isEmpty) = !l.isEmpty:=by cases l <;> rfl
def im{x:V}{d:D}{k:Bool}(s:SOk K μ S H)(r:Rep K μ H x d)(h:iF S d=some k):tY K x H k:=by
 cases r with
 | non=>cases h;rfl
 | bl b=>cases h;rfl
 | int i=>cases h;rfl
 | str y=>
  simp only [iF] at h
  split at h
  ·rename_i hy;cases h;exact⟨hy,rfl⟩
  ·cases h
 | @tup a vs ds h' n r=>cases h;exact .inr (.inl ⟨vs,.inl (.inl h'),r.isEmpty⟩)
 | @ktup a vs ds h' r=>cases h;exact .inr (.inl ⟨vs,.inr h',r.isEmpty⟩)
 | @lst a vs ds h' n r=>cases h;exact .inl ⟨vs,.inl (.inl h'),r.isEmpty⟩
 | @rol a vs ds h' n r=>cases h;exact .inl ⟨vs,.inl h',r.isEmpty⟩
 | @krol a vs ds h' r=>cases h;exact .inl ⟨vs,.inr h',r.isEmpty⟩
 | @dct a kvs ds h' n r=>cases h;exact .inr (.inr ⟨kvs,h',gJ _ _⟩)
 | txt x=>cases h
 | obj h' n=>cases h
 | @ref a i h'=>
  simp only [iF] at h
  cases q:S[i]? with
  | none=>rw [q] at h;cases h
  | some c=>
   rw [q] at h
   have ck:=s.cell i a c h' q
   cases c with
   | lst xs=>cases h;obtain⟨vs,e,r⟩:=ck;exact .inl ⟨vs,.inl (.inl e),r.isEmpty⟩
   | dct ks xs=>cases h;obtain⟨kvs,e,rfl,r⟩:=ck;exact .inr (.inr ⟨kvs,e,gJ _ _⟩)
noncomputable def da(m:ME):MT:=fun env S=>(m env S).bind fun p=>(iF p.2 p.1).bind fun k=>some (k,p.2)
def oJ(ha:DE X a ma)(he:∀ whole,isTrue a X.env whole=(do let v <- whole;standAt a.pos;holding [v] (truthy v)):=by intro _;rfl):DT X a (da ma):=
 PT.imp (uA ha he) fun σ H Q ⟨μ,S,env,k,S',hS,hE,hm,post⟩=>by
  obtain⟨⟨x,S1⟩,h1,hm⟩:=Dy.mp hm
  obtain⟨k',h2,hm⟩:=Dy.mp hm
  cases hm
  exact⟨μ,S,env,x,S1,hS,hE,h1,fun v H' μ' e s r=>⟨k,im s r h2,post H' μ' e s⟩⟩
variable{ta tb tc:MT}{rest:List Expr}
noncomputable def cM(a b:MT):MT:=fun env S=>(a env S).bind fun p=>if p.1=true then b env p.2 else some (false,p.2)
noncomputable def dI(a b:MT):MT:=fun env S=>(a env S).bind fun p=>if p.1=true then some (true,p.2) else b env p.2
noncomputable def bX(a:MT):MT:=fun env S=>(a env S).bind fun p=>some (!p.1,p.2)
def xx{σ:L2.St}{Q:Bool->Hp->Prop}(h:ua K (cM ta tb) σ H Q):tAnd (ua K ta) (ua K tb) σ H Q:=by
 obtain⟨μ,S,env,k,S',hS,hE,hm,post⟩:=h
 obtain⟨⟨x,S1⟩,h1,hm⟩:=Dy.mp hm
 refine⟨μ,S,env,x,S1,hS,hE,h1,fun H1 μ1 e1 s1=>?_⟩
 cases x with
 | true=>rw [DU rfl] at hm ⊢;exact⟨μ1,S1,env,k,S',s1,hE.mono e1,hm,fun H2 μ2 e2 s2=>post H2 μ2 (e1.trans e2) s2⟩
 | false=>rw [Eh DM] at hm ⊢;cases hm;exact post H1 μ1 e1 s1
def AB{σ:L2.St}{Q:Bool->Hp->Prop}(h:ua K (dI ta tb) σ H Q):tOr (ua K ta) (ua K tb) σ H Q:=by
 obtain⟨μ,S,env,k,S',hS,hE,hm,post⟩:=h
 obtain⟨⟨x,S1⟩,h1,hm⟩:=Dy.mp hm
 refine⟨μ,S,env,x,S1,hS,hE,h1,fun H1 μ1 e1 s1=>?_⟩
 cases x with
 | false=>rw [Eh DM] at hm ⊢;exact⟨μ1,S1,env,k,S',s1,hE.mono e1,hm,fun H2 μ2 e2 s2=>post H2 μ2 (e1.trans e2) s2⟩
 | true=>rw [DU rfl] at hm ⊢;cases hm;exact post H1 μ1 e1 s1
def rW(ha:DT X a ta):DW X (.BoolOp .And [a] pos) ta:=xH ha
def wC(ha:DT X a ta):DW X (.BoolOp .Or [a] pos) ta:=AN ha
def wD(ha:DT X a ta)(hb:DW X (.BoolOp .And (b::rest) pos) tb):DW X (.BoolOp .And (a::b::rest) pos) (cM ta tb):=PW.imp (AO ha hb) fun _ _ _ h=>xx h
def An(ha:DT X a ta)(hb:DW X (.BoolOp .Or (b::rest) pos) tb):DW X (.BoolOp .Or (a::b::rest) pos) (dI ta tb):=PW.imp (pw_or ha hb) fun _ _ _ h=>AB h
def yX(h:DW X a ta):DT X a ta:=PW.pt h
def CD(ha:DT X a ta):DT X (.UnaryOp .Not a pos) (bX ta):=PT.imp (AQ ha) fun σ H Q ⟨μ,S,env,k,S',hS,hE,hm,post⟩=>by
 obtain⟨⟨x,S1⟩,h1,hm⟩:=Dy.mp hm
 cases hm
 exact⟨μ,S,env,x,S1,hS,hE,h1,fun H1 μ1 e1 s1=>post H1 μ1 e1 s1⟩
noncomputable def en(a b:ME):ME:=fun env S=>(a env S).bind fun p=>match p.1 with | .bl true=>b env p.2 | .bl false=>some (.bl false,p.2) | _=>none
noncomputable def rl(a b:ME):ME:=fun env S=>(a env S).bind fun p=>match p.1 with | .bl false=>b env p.2 | .bl true=>some (.bl true,p.2) | _=>none
def wT{op}(h:DE X a ma):DE X (.BoolOp op [a] pos) ma:=Bb h
noncomputable def fj(a:ME):ME:=fun env S=>(a env S).bind fun p=>match p.1 with | .bl k=>some (.bl (!k),p.2) | _=>none
noncomputable def vm(t:MT)(a b:ME):ME:=fun env S=>(t env S).bind fun p=>if p.1=true then a env p.2 else b env p.2
def de_if(hc:DT X c tc)(ha:DE X a ma)(hb:DE X b mb):DE X (.IfExp c a b pos) (vm tc ma mb):=PE.imp (uL hc ha hb) fun σ H Q ⟨μ,S,env,d,S',hS,hE,hm,post⟩=>by
 obtain⟨⟨x,S1⟩,h1,hm⟩:=Dy.mp hm
 refine⟨μ,S,env,x,S1,hS,hE,h1,fun H1 μ1 e1 s1=>?_⟩
 cases x with
 | true=>rw [DU rfl] at hm ⊢;exact⟨μ1,S1,env,d,S',s1,hE.mono e1,hm,post.ext e1⟩
 | false=>rw [Eh DM] at hm ⊢;exact⟨μ1,S1,env,d,S',s1,hE.mono e1,hm,post.ext e1⟩
variable{es:List Expr}{ms:MA}
noncomputable def ae:MA:=fun _ S=>some ([],S)
noncomputable def ab(a:ME)(r:MA):MA:=fun env S=>(a env S).bind fun p=>(r env p.2).bind fun q=>some (p.1::q.1,q.2)
def Da:DA X [] ae:=PA.imp uT fun σ H Q ⟨μ,S,env,d,S',hS,hE,hm,post⟩=>by cases hm;exact post [] H μ hS.ext hS .nil
def zv(ha:DE X a ma)(hr:DA X es ms)(hs:starEach (a::es) X.env=(false,eval a X.env)::starEach es X.env:=by rfl):DA X (a::es) (ab ma ms):=PA.imp (lG ha hr hs) fun σ H Q ⟨μ,S,env,ds,S',hS,hE,hm,post⟩=>by
 obtain⟨⟨x,S1⟩,h1,hm⟩:=Dy.mp hm
 obtain⟨⟨xs,S2⟩,h2,hm⟩:=Dy.mp hm
 cases hm
 exact⟨μ,S,env,x,S1,hS,hE,h1,fun v H1 μ1 e1 s1 r1=>⟨μ1,S1,env,xs,S2,s1,hE.mono e1,h2,fun vs H2 μ2 e2 s2 r2=>post (v::vs) H2 μ2 (e1.trans e2) s2 (.cons (r1.mono e2) r2)⟩⟩
noncomputable def aX(ms:MA):ME:=fun env S=>(ms env S).bind fun p=>if p.1.length<=sizeLine then some (.tup p.1,p.2) else none
noncomputable def bZ(ms:MA):ME:=fun env S=>(ms env S).bind fun p=>if p.1.length<=sizeLine then some (.lst p.1,p.2) else none
noncomputable def dJ(ms:MA):ME:=fun env S=>(ms env S).bind fun p=>if p.1.length<=sizeLine then some (.ref p.2.length,p.2++[.lst p.1]) else none
theorem Post.tup{vs:List V}{ds:List D}{Q:VK}{p:Addr}(post:Post K μ H S (.tup ds) Q)(s:SOk K μ S H)(hp:H p=none)(r:Reps K μ H vs ds):Q (.ref p) (upd H p (.tup vs)):=by
 obtain⟨e,s'⟩:=s.laid (o:=.tup vs) hp
 exact post _ _ _ e s' (.tup am (s.notMem hp) (r.mono e))
theorem Post.lst{vs:List V}{ds:List D}{Q:VK}{p:Addr}(post:Post K μ H S (.lst ds) Q)(s:SOk K μ S H)(hp:H p=none)(r:Reps K μ H vs ds):Q (.ref p) (upd H p (.lst vs)):=by
 obtain⟨e,s'⟩:=s.laid (o:=.lst vs) hp
 exact post _ _ _ e s' (.lst am (s.notMem hp) (r.mono e))
def Post.lstR{vs:List V}{ds:List D}{Q:VK}{p:Addr}(post:Post K μ H (S++[.lst ds]) (.ref S.length) Q)(s:SOk K μ S H)(hp:H p=none)(r:Reps K μ H vs ds):Q (.ref p) (upd H p (.lst vs)):=by
 obtain⟨e,s'⟩:=s.alloc hp r
 exact post _ _ _ e s' (.ref (by rw [<- s.len,Es (DK _)];simp))
def CQ{k}(h:DA X es ms):DE X (.Tuple es k pos) (aX ms):=PE.imp (AY h) fun σ H Q ⟨μ,S,env,d,S',hS,hE,hm,post⟩=>by
 obtain⟨⟨xs,S1⟩,h1,hm⟩:=Dy.mp hm
 dsimp only at hm
 split at hm
 ·rename_i hl
  cases hm
  exact⟨μ,S,env,_,_,hS,hE,h1,fun vs H1 μ1 e1 s1 r1=>⟨by rw [r1.length];exact hl,fun p hp=>(post.ext e1).tup s1 hp r1⟩⟩
 ·cases hm
def CV(h:DA X es ms):DE X (.List es pos) (bZ ms):=PE.imp (uK h) fun σ H Q ⟨μ,S,env,d,S',hS,hE,hm,post⟩=>by
 obtain⟨⟨xs,S1⟩,h1,hm⟩:=Dy.mp hm
 dsimp only at hm
 split at hm
 ·rename_i hl
  cases hm
  exact⟨μ,S,env,_,_,hS,hE,h1,fun vs H1 μ1 e1 s1 r1=>⟨by rw [r1.length];exact hl,fun p hp=>(post.ext e1).lst s1 hp r1⟩⟩
 ·cases hm
def zm(h:DA X es ms):DE X (.List es pos) (dJ ms):=PE.imp (uK h) fun σ H Q ⟨μ,S,env,d,S',hS,hE,hm,post⟩=>by
 obtain⟨⟨xs,S1⟩,h1,hm⟩:=Dy.mp hm
 dsimp only at hm
 split at hm
 ·rename_i hl
  cases hm
  exact⟨μ,S,env,_,_,hS,hE,h1,fun vs H1 μ1 e1 s1 r1=>⟨by rw [r1.length];exact hl,fun p hp=>(post.ext e1).lstR s1 hp r1⟩⟩
 ·cases hm
def zo:DE X (.Dict [] [] pos) (mC (.dct [] [])):=PE.imp uM fun σ H Q ⟨μ,S,env,d,S',hS,hE,hm,post⟩=>by
 cases hm
 intro p hp
 obtain⟨e,s'⟩:=hS.laid (o:=.dK []) hp
 exact post _ _ _ e s' (.dct (kvs:=[]) am (hS.notMem hp) .nil)
end
end
mutual
noncomputable def eo:D->D->Bool
 | .non,.non=>true
 | .bl a,.bl b=>a == b
 | .bl a,.int b=>(if a then 1 else 0) == b
 | .int a,.bl b=>a == (if b then 1 else 0)
 | .int a,.int b=>a == b
 | .str a,.str b=>a == b
 | .tup xs,.tup ys=>eqDs xs ys
 | .lst xs,.lst ys=>eqDs xs ys
 | _,_=>false
noncomputable def eqDs:List D->List D->Bool
 | [],[]=>true
 | x::xs,y::ys=>eo x y&&eqDs xs ys
 | _,_=>false
end
noncomputable def aH:Nat->D->Bool
 | _,.non=>true
 | _,.bl _=>true
 | _,.int _=>true
 | _,.str _=>true
 | n+1,.tup xs=>xs.all (aH n)
 | n+1,.lst xs=>xs.all (aH n)
 | _,_=>false
theorem iS:∀ {n m:Nat} {d:D},n<=m->aH n d=true->aH m d=true
 | n,m,.non,_,_=>by simp [aH]
 | n,m,.bl _,_,_=>by simp [aH]
 | n,m,.int _,_,_=>by simp [aH]
 | n,m,.str _,_,_=>by simp [aH]
 | 0,m,.tup _,_,h=>by simp [aH] at h
 | 0,m,.lst _,_,h=>by simp [aH] at h
 | n+1,m+1,.tup xs,hl,h=>by
  simp only [aH,Ec] at h ⊢
  exact fun d hd=>iS (Gi hl) (h d hd)
 | n+1,m+1,.lst xs,hl,h=>by
  simp only [aH,Ec] at h ⊢
  exact fun d hd=>iS (Gi hl) (h d hd)
 | n+1,0,.tup _,hl,_=>absurd hl (by omega)
 | n+1,0,.lst _,hl,_=>absurd hl (by omega)
 | n,m,.rol _,_,h=>by cases n <;> simp [aH] at h
 | n,m,.txt,_,h=>by cases n <;> simp [aH] at h
 | n,m,.obj,_,h=>by cases n <;> simp [aH] at h
 | n,m,.dct _ _,_,h=>by cases n <;> simp [aH] at h
 | n,m,.ref _,_,h=>by cases n <;> simp [aH] at h
theorem mI:∀ (xs ys:List D),eqDs xs ys=((List.range (min xs.length ys.length)).all (fun j=>match xs[j]?,ys[j]? with | some a,some b=>eo a b | _,_=>true)&&xs.length == ys.length)
 | [],[]=>rfl
 | [],y::ys=>by simp [eqDs]
 | x::xs,[]=>by simp [eqDs]
 | x::xs,y::ys=>by
  have ih:=mI xs ys
  rw [eqDs,ih]
  have hm:min (x::xs).length (y::ys).length=min xs.length ys.length+1:=by simp only [DR];omega
  rw [hm,List.range_succ_eq_map,Ea,List.all_map]
  simp only [List.getElem?_cons_zero,DR,Bool.and_assoc]
  congr 1
  congr 1
  rw [Bool.eq_iff_iff];simp
section
variable{X:Cx}{pins:List (Addr×Obj)}{σ:L2.St}{H:Hp}{s:Shared}{μ:Fp}{A:Around}
def Rep.sqT{K:W.Frag}{v:V}{ds:List D}(r:Rep K μ H v (.tup ds)):∃ a vs,v=.ref a/\hJ K H a vs/\Reps K μ H vs ds:=by
 cases r with
 | tup h n r=>exact⟨_,_,rfl,.inl (.inl h),r⟩
 | ktup h r=>exact⟨_,_,rfl,.inr h,r⟩
def Rep.sqL{K:W.Frag}{v:V}{ds:List D}(r:Rep K μ H v (.lst ds)):∃ a vs,v=.ref a/\H a=some (.lst vs)/\μ.no a/\Reps K μ H vs ds:=by
 cases r with
 | lst h n r=>exact⟨_,_,rfl,h,n,r⟩
def Rep.sqR{K:W.Frag}{v:V}{ds:List D}(r:Rep K μ H v (.rol ds)):∃ a vs,v=.ref a/\fK K H a vs/\Reps K μ H vs ds:=by
 cases r with
 | rol h n r=>exact⟨_,_,rfl,.inl h,r⟩
 | krol h r=>exact⟨_,_,rfl,.inr h,r⟩
def ntl(I:Inv X pins σ H s){a:Addr}{xs ys:List V}(h:hJ X.K H a xs)(h':fK X.K H a ys):False:=by
 obtain⟨its,_,⟨o,e,c,_⟩,_⟩:=I.tuple h
 obtain⟨its',_,⟨o',n',e',c',_⟩,_⟩:=I.list h'
 rw [e] at e';cases e'
 rw [c] at c'
 exact absurd c' (by simp)
def Rep.non_inv{K:W.Frag}{v:V}(h:Rep K μ H v .non):v=.non:=by cases h;rfl
def qQ{n:Nat}{xs:List D}:aH n (.rol xs)=false:=by cases n <;> rfl
def qT{n:Nat}{ks:List ao}{xs:List D}:aH n (.dct ks xs)=false:=by cases n <;> rfl
def qR{n:Nat}{r:Nat}:aH n (.ref r)=false:=by cases n <;> rfl
def qP{n:Nat}:aH n .txt=false:=by cases n <;> rfl
def qS{n:Nat}:aH n .obj=false:=by cases n <;> rfl
def io{n:Nat}{xs:List D}(h:aH n (.tup xs)=true):∃ m,m+1=n/\∀ x∈xs,aH m x=true:=by
 cases n with
 | zero=>cases h
 | succ n=>exact⟨n,rfl,Ec.mp h⟩
def ip{n:Nat}{xs:List D}(h:aH n (.lst xs)=true):∃ m,m+1=n/\∀ x∈xs,aH m x=true:=by
 cases n with
 | zero=>cases h
 | succ n=>exact⟨n,rfl,Ec.mp h⟩
inductive Fm(K:W.Frag)(μ:Fp)(H:Hp):D->V->Prop
 | non:Fm K μ H .non .non
 | bl (b:Bool):Fm K μ H (.bl b) (.bl b)
 | int (i:Int):Fm K μ H (.int i) (.int i)
 | str (x:Str):Fm K μ H (.str x) (.str x)
 | tup {xs:List D} {l:Addr} {vs:List V} (q:hJ K H l vs) (r:Reps K μ H vs xs):Fm K μ H (.tup xs) (.ref l)
 | lst {xs:List D} {l:Addr} {vs:List V} (q:fK K H l vs) (r:Reps K μ H vs xs):Fm K μ H (.lst xs) (.ref l)
def gQ{K:W.Frag}{n:Nat}{x:D}{a:V}(hx:aH n x=true)(r:Rep K μ H a x):Fm K μ H x a:=by
 cases x with
 | non=>rw [r.non_inv];exact .non
 | bl b=>rw [r.bl_inv];exact .bl b
 | int b=>rw [r.int_inv];exact .int b
 | str b=>rw [r.str_inv];exact .str b
 | tup xs=>obtain⟨l,vs,rfl,q,r⟩:=r.sqT;exact .tup q r
 | lst xs=>obtain⟨l,vs,rfl,q,_,r⟩:=r.sqL;exact .lst (.inl (.inl q)) r
 | rol _=>rw [qQ] at hx;cases hx
 | dct _ _=>rw [qT] at hx;cases hx
 | ref _=>rw [qR] at hx;cases hx
 | txt=>rw [qP] at hx;cases hx
 | obj=>rw [qS] at hx;cases hx
theorem Reps.injN{K:W.Frag}{n:Nat}(ih:∀ {v:V} {x y:D},aH n x=true->aH n y=true->Rep K μ H v x->Rep K μ H v y->x=y):∀ {vs:List V} {xs ys:List D},(∀ x∈xs,aH n x=true)->(∀ y∈ys,aH n y=true)->Reps K μ H vs xs->Reps K μ H vs ys->xs=ys
 | _,_,_,_,_,.nil,.nil=>rfl
 | _,_,_,hx,hy,.cons h t,.cons h' t'=>by
  rw [ih (hx _ DF) (hy _ DF) h h',Reps.injN ih (fun x m=>hx x (DC _ m)) (fun x m=>hy x (DC _ m)) t t']
def oo(I:Inv X pins σ H s)(n:Nat)(ih:∀ m,m+1=n->∀ {v:V} {x y:D},aH m x=true->aH m y=true->Rep X.K μ H v x->Rep X.K μ H v y->x=y){v:V}{x y:D}(hx:aH n x=true)(hy:aH n y=true)(rx:Rep X.K μ H v x)(ry:Rep X.K μ H v y):x=y:=by
 have fy:=gQ hy ry
 cases x with
 | tup xs=>
  obtain⟨a,vs,rfl,q,r⟩:=rx.sqT
  obtain⟨m,hm,ox⟩:=io hx
  cases fy with
  | tup q' r'=>
   cases I.tuple_inj q' q
   obtain⟨m',hm',oy⟩:=io hy
   have:m'=m:=by omega
   subst this
   rw [Reps.injN (ih m' hm) ox oy r r']
  | lst q' _=>exact(ntl I q q').elim
 | lst xs=>
  obtain⟨a,vs,rfl,q,_,r⟩:=rx.sqL
  obtain⟨m,hm,ox⟩:=ip hx
  cases y with
  | lst ys=>
   obtain⟨m',hm',oy⟩:=ip hy
   have:m'=m:=by omega
   subst this
   obtain⟨a',vs',e,q',_,r'⟩:=ry.sqL
   cases e
   rw [q] at q';cases q'
   rw [Reps.injN (ih m' hm) ox oy r r']
  | _=>cases fy <;> exact(ntl I (by assumption) (.inl (.inl q))).elim
 | non=>rw [rx.non_inv] at fy;cases fy;rfl
 | bl b=>rw [rx.bl_inv] at fy;cases fy;rfl
 | int b=>rw [rx.int_inv] at fy;cases fy;rfl
 | str b=>rw [rx.str_inv] at fy;cases fy;rfl
 | rol _=>rw [qQ] at hx;cases hx
 | dct _ _=>rw [qT] at hx;cases hx
 | ref _=>rw [qR] at hx;cases hx
 | txt=>rw [qP] at hx;cases hx
 | obj=>rw [qS] at hx;cases hx
def Rep.inj(I:Inv X pins σ H s)(n:Nat):∀ {v:V} {x y:D},aH n x=true->aH n y=true->Rep X.K μ H v x->Rep X.K μ H v y->x=y:=by
 induction n with
 | zero=>exact fun hx hy rx ry=>oo I 0 (fun m h=>absurd h (Nat.succ_ne_zero m)) hx hy rx ry
 | succ n ih=>exact fun hx hy rx ry=>oo I (n+1) (fun m h=>by cases h;exact ih) hx hy rx ry
theorem gg:∀ (n:Nat) (x:D),aH n x=true->eo x x=true
 | n,.non,_=>rfl
 | n,.bl _,_=>by simp [eo]
 | n,.int _,_=>by simp [eo]
 | n,.str _,_=>by simp [eo]
 | 0,.tup _,h=>by simp [aH] at h
 | 0,.lst _,h=>by simp [aH] at h
 | n+1,.tup xs,h=>by
  simp only [aH,Ec] at h
  rw [eo]
  induction xs with
  | nil=>rfl
  | cons x xs ih=>rw [eqDs,gg n x (h x DF),ih fun y m=>h y (DC _ m)];rfl
 | n+1,.lst xs,h=>by
  simp only [aH,Ec] at h
  rw [eo]
  induction xs with
  | nil=>rfl
  | cons x xs ih=>rw [eqDs,gg n x (h x DF),ih fun y m=>h y (DC _ m)];rfl
 | n,.rol _,h=>by cases n <;> simp [aH] at h
 | n,.txt,h=>by cases n <;> simp [aH] at h
 | n,.obj,h=>by cases n <;> simp [aH] at h
 | n,.dct _ _,h=>by cases n <;> simp [aH] at h
 | n,.ref _,h=>by cases n <;> simp [aH] at h
open PySem.SeqAt
def la(A:Around):A.in1.units=A.units+1:=rfl
def kW{its its2:List Value}{vs ws:List V}{xs ys:List D}{P:Value->Value->Bool->Prop}(r1:Vals vs its)(q1:Reps X.K μ H vs xs)(r2:Vals ws its2)(q2:Reps X.K μ H ws ys)
  (h:∀ (j:Nat) (v w:V) (u u':Value) (x y:D),xs[j]?=some x->ys[j]?=some y->Rep X.K μ H v x->Rep X.K μ H w y->RelV v u->RelV w u'->P u u' (eo x y)) :
  ∀ j (h1:j<its.toArray.size) (h2:j<its2.toArray.size),P its.toArray[j] its2.toArray[j] (match xs[j]?,ys[j]? with | some a,some b=>eo a b | _,_=>true):=fun j h1 h2=>by
 have l1:=r1.length
 have l2:=r2.length
 have m1:=q1.length
 have m2:=q2.length
 have h1':j<its.length:=by simpa using h1
 have h2':j<its2.length:=by simpa using h2
 have hx:xs[j]?=some xs[j]:=Eb (by omega)
 have hy:ys[j]?=some ys[j]:=Eb (by omega)
 obtain⟨v,e1,p1⟩:=q1.get hx
 obtain⟨w,e2,p2⟩:=q2.get hy
 obtain⟨u,f1,g1⟩:=r1.get e1
 obtain⟨u',f2,g2⟩:=r2.get e2
 rw [hx,hy]
 have:=h j v w u u' _ _ hx hy p1 p2 g1 g2
 have f1':its.toArray[j]=u:=by simpa [Eb h1'] using f1
 have f2':its2.toArray[j]=u':=by simpa [Eb h2'] using f2
 rw [f1',f2']
 exact this
structure Dx(A:Around)(s:Shared)(u v:Value)(b:Bool):Prop where
 eq:EqAt A s u v b
 rc:RcAt A s u v b
 ne:RcNeAt A s u v (!b)
def rV(I:Inv X pins σ H s)(n:Nat)(ih:∀ m,m+1=n->∀ (A:Around) {a b:V} {u v:Value} {x y:D},A.units+m<cLine->aH m x=true->aH m y=true->Rep X.K μ H a x->Rep X.K μ H b y->RelV a u->RelV b v->Dx A s u v (eo x y))
  (A:Around) {a b:V} {u v:Value} {x y:D} (hn:A.units+n<cLine) (hx:aH n x=true) (hy:aH n y=true) (rx:Rep X.K μ H a x) (ry:Rep X.K μ H b y) (ra:RelV a u) (rb:RelV b v):Dx A s u v (eo x y):=by
 have hu:A.units<cLine:=by omega
 cases gQ hx rx with
 | non=>
  cases ra
  cases gQ hy ry with
  | non=>cases rb;exact⟨EqAt.same _,RcAt.none_none,RcNeAt.none_none⟩
  | bl b=>cases rb;exact⟨EqAt.none_bool b,RcAt.none_bool b,RcNeAt.none_bool b⟩
  | int b=>obtain⟨t,rfl⟩:=rb;exact⟨EqAt.none_int b t,RcAt.none_int b t,RcNeAt.none_int b t⟩
  | str b=>obtain⟨t,rfl⟩:=rb;exact⟨EqAt.none_str b t,RcAt.none_str b t,RcNeAt.none_str b t⟩
  | tup q r=>cases rb;obtain⟨its,rv,p,_⟩:=I.tuple q;exact⟨EqAt.none_tuple p hu,RcAt.none_tuple p hu,RcNeAt.none_tuple p hu⟩
  | lst q r=>cases rb;obtain⟨its,rv,p,_⟩:=I.list q;exact⟨EqAt.none_list p.isList hu,RcAt.none_list p.isList hu,RcNeAt.none_list p.isList hu⟩
 | bl a=>
  cases ra
  cases gQ hy ry with
  | non=>cases rb;exact⟨EqAt.bool_none a,RcAt.bool_none a,RcNeAt.bool_none a⟩
  | bl b=>cases rb;exact⟨EqAt.bool_bool a b,RcAt.bool_bool a b,RcNeAt.bool_bool a b⟩
  | int b=>obtain⟨t,rfl⟩:=rb;exact⟨EqAt.bool_int a b t,RcAt.bool_int a b t,RcNeAt.bool_int a b t⟩
  | str b=>obtain⟨t,rfl⟩:=rb;exact⟨EqAt.bool_str a b t,RcAt.bool_str a b t,RcNeAt.bool_str a b t⟩
  | tup q r=>cases rb;obtain⟨its,rv,p,_⟩:=I.tuple q;exact⟨EqAt.bool_tuple a p hu,RcAt.bool_tuple a p hu,RcNeAt.bool_tuple a p hu⟩
  | lst q r=>cases rb;obtain⟨its,rv,p,_⟩:=I.list q;exact⟨EqAt.bool_list a p.isList hu,RcAt.bool_list a p.isList hu,RcNeAt.bool_list a p.isList hu⟩
 | int a=>
  obtain⟨t',rfl⟩:=ra
  cases gQ hy ry with
  | non=>cases rb;exact⟨EqAt.int_none a t',RcAt.int_none a t',RcNeAt.int_none a t'⟩
  | bl b=>cases rb;exact⟨EqAt.int_bool a t' b,RcAt.int_bool a t' b,RcNeAt.int_bool a t' b⟩
  | int b=>obtain⟨t,rfl⟩:=rb;exact⟨EqAt.int_int a t' b t,RcAt.int_int a t' b t,RcNeAt.int_int a t' b t⟩
  | str b=>obtain⟨t,rfl⟩:=rb;exact⟨EqAt.int_str a t' b t,RcAt.int_str a t' b t,RcNeAt.int_str a t' b t⟩
  | tup q r=>cases rb;obtain⟨its,rv,p,_⟩:=I.tuple q;exact⟨EqAt.int_tuple a t' p hu,RcAt.int_tuple a t' p hu,RcNeAt.int_tuple a t' p hu⟩
  | lst q r=>cases rb;obtain⟨its,rv,p,_⟩:=I.list q;exact⟨EqAt.int_list a t' p.isList hu,RcAt.int_list a t' p.isList hu,RcNeAt.int_list a t' p.isList hu⟩
 | str a=>
  obtain⟨t',rfl⟩:=ra
  cases gQ hy ry with
  | non=>cases rb;exact⟨EqAt.str_none a t',RcAt.str_none a t',RcNeAt.str_none a t'⟩
  | bl b=>cases rb;exact⟨EqAt.str_bool a t' b,RcAt.str_bool a t' b,RcNeAt.str_bool a t' b⟩
  | int b=>obtain⟨t,rfl⟩:=rb;exact⟨EqAt.str_int a t' b t,RcAt.str_int a t' b t,RcNeAt.str_int a t' b t⟩
  | str b=>obtain⟨t,rfl⟩:=rb;exact⟨EqAt.str_str a t' b t,RcAt.str_str a t' b t,RcNeAt.str_str a t' b t⟩
  | tup q r=>cases rb;obtain⟨its,rv,p,_⟩:=I.tuple q;exact⟨EqAt.str_tuple a t' p hu,RcAt.str_tuple a t' p hu,RcNeAt.str_tuple a t' p hu⟩
  | lst q r=>cases rb;obtain⟨its,rv,p,_⟩:=I.list q;exact⟨EqAt.str_list a t' p.isList hu,RcAt.str_list a t' p.isList hu,RcNeAt.str_list a t' p.isList hu⟩
 | @tup xs l vs q r=>
  cases ra
  obtain⟨its,rv,p,_⟩:=I.tuple q
  cases gQ hy ry with
  | non=>cases rb;exact⟨EqAt.tuple_none p hu,RcAt.tuple_none p hu,RcNeAt.tuple_none p hu⟩
  | bl b=>cases rb;exact⟨EqAt.tuple_bool b p hu,RcAt.tuple_bool b p hu,RcNeAt.tuple_bool b p hu⟩
  | int b=>obtain⟨t,rfl⟩:=rb;exact⟨EqAt.tuple_int b t p hu,RcAt.tuple_int b t p hu,RcNeAt.tuple_int b t p hu⟩
  | str b=>obtain⟨t,rfl⟩:=rb;exact⟨EqAt.tuple_str b t p hu,RcAt.tuple_str b t p hu,RcNeAt.tuple_str b t p hu⟩
  | @tup ys l' vs' q' r'=>
   cases rb
   obtain⟨its',rv',p',_⟩:=I.tuple q'
   obtain⟨m,hm,ox⟩:=io hx
   obtain⟨m',hm',oy⟩:=io hy
   have:m'=m:=by omega
   subst this
   have all:=kW (P:=fun u u' b=>EqAt A.in1 s u u' b) rv r rv' r' fun j v w u u' x y hx' hy' q1 q2 g1 g2=>
    (ih m' hm A.in1 (by rw [la];omega) (ox x (Eg hx')) (oy y (Eg hy')) q1 q2 g1 g2).eq
   have e0:its.toArray.size=xs.length:=by rw [DB,<- rv.length,r.length]
   have e1:its'.toArray.size=ys.length:=by rw [DB,<- rv'.length,r'.length]
   have key:=RcAt.tuples (A:=A) (s:=s) p p' hu all
   have kne:=RcNeAt.tuples (A:=A) (s:=s) p p' hu all
   rw [e0,e1,<- mI] at key kne
   refine⟨?_,key,kne⟩
   by_cases hl:l=l'
   ·subst hl
    rw [<- Rep.inj I n hx hy rx ry,gg _ _ hx]
    exact EqAt.same _
   ·exact EqAt.of_refs hl key
  | lst q' r'=>cases rb;obtain⟨its',rv',p',_⟩:=I.list q';exact⟨EqAt.tuple_list p p'.isList hu,RcAt.tuple_list p p'.isList hu,RcNeAt.tuple_list p p'.isList hu⟩
 | @lst xs l vs q r=>
  cases ra
  obtain⟨its,rv,p0,_⟩:=I.list q
  have p:=p0.isList
  cases gQ hy ry with
  | non=>cases rb;exact⟨EqAt.list_none p hu,RcAt.list_none p hu,RcNeAt.list_none p hu⟩
  | bl b=>cases rb;exact⟨EqAt.list_bool b p hu,RcAt.list_bool b p hu,RcNeAt.list_bool b p hu⟩
  | int b=>obtain⟨t,rfl⟩:=rb;exact⟨EqAt.list_int b t p hu,RcAt.list_int b t p hu,RcNeAt.list_int b t p hu⟩
  | str b=>obtain⟨t,rfl⟩:=rb;exact⟨EqAt.list_str b t p hu,RcAt.list_str b t p hu,RcNeAt.list_str b t p hu⟩
  | tup q' r'=>cases rb;obtain⟨its',rv',p',_⟩:=I.tuple q';exact⟨EqAt.list_tuple p p' hu,RcAt.list_tuple p p' hu,RcNeAt.list_tuple p p' hu⟩
  | @lst ys l' vs' q' r'=>
   cases rb
   obtain⟨its',rv',p0',_⟩:=I.list q'
   have p':=p0'.isList
   obtain⟨m,hm,ox⟩:=ip hx
   obtain⟨m',hm',oy⟩:=ip hy
   have:m'=m:=by omega
   subst this
   have all:=kW (P:=fun u u' b=>EqAt A.in1 s u u' b) rv r rv' r' fun j v w u u' x y hx' hy' q1 q2 g1 g2=>
    (ih m' hm A.in1 (by rw [la];omega) (ox x (Eg hx')) (oy y (Eg hy')) q1 q2 g1 g2).eq
   have e0:its.toArray.size=xs.length:=by rw [DB,<- rv.length,r.length]
   have e1:its'.toArray.size=ys.length:=by rw [DB,<- rv'.length,r'.length]
   have key:RcAt A s (.ref l) (.ref l') (eqDs xs ys)/\RcNeAt A s (.ref l) (.ref l') (!eqDs xs ys):=by
    rw [mI]
    by_cases hlen:xs.length=ys.length
    ·have k1:=RcAt.lists (A:=A) (s:=s) p p' (by rw [e0,e1,hlen]) hu all
     have k2:=RcNeAt.lists (A:=A) (s:=s) p p' (by rw [e0,e1,hlen]) hu all
     rw [e0] at k1 k2
     rw [<- hlen,Nat.min_self,beq_self_eq_true,Fj]
     exact⟨k1,k2⟩
    ·rw [show (xs.length == ys.length)=false from Ex.mpr hlen,FY]
     exact⟨RcAt.lists_lengths (A:=A) (s:=s) p p' (by rw [e0,e1];exact bne_iff_ne.mpr hlen) hu,RcNeAt.lists_lengths (A:=A) (s:=s) p p' (by rw [e0,e1];exact bne_iff_ne.mpr hlen) hu⟩
   refine⟨?_,key.1,key.2⟩
   by_cases hl:l=l'
   ·subst hl
    rw [<- Rep.inj I n hx hy rx ry,gg _ _ hx]
    exact EqAt.same _
   ·exact EqAt.of_refs hl key.1
def Dg(I:Inv X pins σ H s)(n:Nat):∀ (A:Around) {a b:V} {u v:Value} {x y:D},A.units+n<cLine->aH n x=true->aH n y=true->Rep X.K μ H a x->Rep X.K μ H b y->RelV a u->RelV b v->Dx A s u v (eo x y):=by
 induction n with
 | zero=>exact fun A _ _ _ _ _ _ hn hx hy rx ry ra rb=>rV I 0 (fun m h=>absurd h (Nat.succ_ne_zero m)) A hn hx hy rx ry ra rb
 | succ n ih=>exact fun A _ _ _ _ _ _ hn hx hy rx ry ra rb=>rV I (n+1) (fun m h=>by cases h;exact ih) A hn hx hy rx ry ra rb
def eqRc(I:Inv X pins σ H s)(n:Nat)(A:Around){a b:V}{u v:Value}{x y:D}(hn:A.units+n<cLine)(hx:aH n x=true)(hy:aH n y=true)(rx:Rep X.K μ H a x)(ry:Rep X.K μ H b y)(ra:RelV a u)(rb:RelV b v) :
  EqAt A s u v (eo x y)/\RcAt A s u v (eo x y):=⟨(Dg I n A hn hx hy rx ry ra rb).eq,(Dg I n A hn hx hy rx ry ra rb).rc⟩
def neRc(I:Inv X pins σ H s)(n:Nat)(A:Around){a b:V}{u v:Value}{x y:D}(hn:A.units+n<cLine)(hx:aH n x=true)(hy:aH n y=true)(rx:Rep X.K μ H a x)(ry:Rep X.K μ H b y)(ra:RelV a u)(rb:RelV b v) :
  RcNeAt A s u v (!eo x y):=(Dg I n A hn hx hy rx ry ra rb).ne
end
section
variable{X:Cx}{pins:List (Addr×Obj)}{σ:L2.St}{H:Hp}{s:Shared}{μ:Fp}{A:Around}
end
noncomputable def dH(S:aa):D->Option (List D)
 | .tup xs=>some xs
 | .lst xs=>some xs
 | .rol xs=>some xs
 | .ref r=>match S[r]? with | some (.lst xs)=>some xs | _=>none
 | _=>none
section
variable{X:Cx}{K:W.Frag}{μ:Fp}{H:Hp}{S:aa}
def dr{x:V}{d:D}{ds:List D}(s:SOk K μ S H)(r:Rep K μ H x d)(h:dH S d=some ds):∃ a vs,x=.ref a/\(fK K H a vs\/hJ K H a vs)/\Reps K μ H vs ds:=by
 cases r with
 | tup h' n r=>cases h;exact⟨_,_,rfl,.inr (.inl (.inl h')),r⟩
 | ktup h' r=>cases h;exact⟨_,_,rfl,.inr (.inr h'),r⟩
 | lst h' n r=>cases h;exact⟨_,_,rfl,.inl (.inl (.inl h')),r⟩
 | rol h' n r=>cases h;exact⟨_,_,rfl,.inl (.inl h'),r⟩
 | krol h' r=>cases h;exact⟨_,_,rfl,.inl (.inr h'),r⟩
 | @ref a i h'=>
  simp only [dH] at h
  cases q:S[i]? with
  | none=>rw [q] at h;cases h
  | some c=>
   rw [q] at h
   have ck:=s.cell i a c h' q
   cases c with
   | lst xs=>cases h;obtain⟨vs,e,r⟩:=ck;exact⟨_,vs,rfl,.inl (.inl (.inl e)),r⟩
   | dct ks xs=>cases h
 | _=>cases h
mutual
theorem Rep.free:∀ {n:Nat} {v:V} {d:D},aH n d=true->Rep K μ H v d->Rep K ⟨[],[]⟩ H v d
 | _,_,_,_,.non=>.non
 | _,_,_,_,.bl b=>.bl b
 | _,_,_,_,.int i=>.int i
 | _,_,_,_,.str x=>.str x
 | n+1,_,_,h,.tup a _ r=>.tup a ⟨by simp,by simp⟩ (Reps.free (n:=n) h r)
 | n+1,_,_,h,.ktup a r=>.ktup a (Reps.free (n:=n) h r)
 | n+1,_,_,h,.lst a _ r=>.lst a ⟨by simp,by simp⟩ (Reps.free (n:=n) h r)
 | 0,_,_,h,.tup _ _ _=>by simp [aH] at h
 | 0,_,_,h,.ktup _ _=>by simp [aH] at h
 | 0,_,_,h,.lst _ _ _=>by simp [aH] at h
 | n,_,_,h,.rol _ _ _=>by cases n <;> simp [aH] at h
 | n,_,_,h,.krol _ _=>by cases n <;> simp [aH] at h
 | n,_,_,h,.dct _ _ _=>by cases n <;> simp [aH] at h
 | n,_,_,h,.ref _=>by cases n <;> simp [aH] at h
 | n,_,_,h,.txt _=>by cases n <;> simp [aH] at h
 | n,_,_,h,.obj _ _=>by cases n <;> simp [aH] at h
theorem Reps.free:∀ {n:Nat} {vs:List V} {ds:List D},ds.all (aH n)=true->Reps K μ H vs ds->Reps K ⟨[],[]⟩ H vs ds
 | _,_,_,_,.nil=>.nil
 | _,_,_,h,.cons r t=>by
  rw [Ea,Dz] at h
  exact .cons (Rep.free h.1 r) (Reps.free h.2 t)
end
noncomputable def ik(S:aa):D->D
 | .ref r=>match S[r]? with | some (.lst xs)=>.lst xs | _=>.ref r
 | d=>d
def rY{n:Nat}{d:D}(h:aH n d=true):ik S d=d:=by
 cases d <;> first | rfl | (cases n <;> simp [aH] at h)
def oP{n:Nat}{v:V}{d:D}(s:SOk K μ S H)(r:Rep K μ H v d)(h:aH n (ik S d)=true):Rep K ⟨[],[]⟩ H v (ik S d):=by
 by_cases hd:ik S d=d
 ·rw [hd] at h ⊢;exact Rep.free h r
 ·cases r with
  | @ref a i h'=>
   cases q:S[i]? with
   | none=>exact absurd (by simp only [ik,q]) hd
   | some c=>
    cases c with
    | dct ks vs=>exact absurd (by simp only [ik,q]) hd
    | lst xs=>
     have e:ik S (.ref i)=.lst xs:=by simp only [ik,q]
     rw [e] at h ⊢
     obtain⟨vs,e,r⟩:=s.cell i a _ h' q
     cases n with
     | zero=>simp [aH] at h
     | succ n=>exact .lst e ⟨by simp,by simp⟩ (Reps.free (n:=n) h r)
  | _=>exact absurd rfl hd
noncomputable def sW(S:aa)(x y:D):Option D:=if aH 40 (ik S x)=true/\aH 40 (ik S y)=true then some (.bl (eo (ik S x) (ik S y))) else none
noncomputable def ud(S:aa)(x y:D):Option D:=if aH 40 x=true/\aH 40 y=true then some (.bl (!eo x y)) else none
def op_Eq(hu:X.A.units+64<cLine):OpR X (compareOp .Eq) (fc X.K sW):=by
 intro pins s σ H x y v u Q I rx ry h
 obtain⟨μ,S,dx,dy,dz,hS,h1,h2,h3,post⟩:=h
 simp only [sW] at h3
 split at h3
 ·rename_i hk
  cases h3
  exact(eqRc I 40 X.A (by omega) hk.1 hk.2 (oP hS h1 hk.1) (oP hS h2 hk.2) rx ry).2 X.prog X.w X.xe _ ⟨.bl _,H,I,rfl,post.here hS (.bl _)⟩
 ·cases h3
def op_Ne(hu:X.A.units+64<cLine):OpR X (compareOp .NotEq) (fc X.K ud):=by
 intro pins s σ H x y v u Q I rx ry h
 obtain⟨μ,S,dx,dy,dz,hS,h1,h2,h3,post⟩:=h
 simp only [ud] at h3
 split at h3
 ·rename_i hk
  cases h3
  exact neRc I 40 X.A (by omega) hk.1 hk.2 h1 h2 rx ry X.prog X.w X.xe _ ⟨.bl _,H,I,rfl,post.here hS (.bl _)⟩
 ·cases h3
open Classical in
def cg(K:W.Frag)(μ:Fp)(H:Hp)(x:D)(u:Value):Bool:=decide (∃ v d,RelV v u/\Rep K μ H v d/\aH 39 d=true/\eo d x=true)
open Classical in
def jC{pins:List (Addr×Obj)}{σ:L2.St}{s:Shared}(I:Inv X pins σ H s){x d:D}{v:V}{u:Value}(rv:RelV v u)(r:Rep X.K μ H v d)(ok:aH 39 d=true):cg X.K μ H x u=eo d x:=by
 unfold cg
 cases e:eo d x with
 | true=>exact Ew ⟨v,d,rv,r,ok,e⟩
 | false=>
  refine Eo ?_
  rintro⟨v',d',rv',r',ok',e'⟩
  cases rv.inj rv'
  rw [Rep.inj I 39 ok ok' r r'] at e
  rw [e] at e';cases e'
theorem dQ{pins:List (Addr×Obj)}{σ:L2.St}{s:Shared}(I:Inv X pins σ H s){x:D}:∀ {vs:List V} {us:List Value} {ds:List D},Vals vs us->Reps X.K μ H vs ds->(∀ d∈ds,aH 39 d=true) ->
  us.any (cg X.K μ H x)=ds.any fun d=>eo d x
 | _,_,_,.nil,.nil,_=>rfl
 | _,_,_,.cons rv tv,.cons r t,ok=>by
  rw [EY,EY,jC I rv r (ok _ DF),dQ I tv t fun d m=>ok d (DC _ m)]
theorem cW{pins:List (Addr×Obj)}{σ:L2.St}{s:Shared}(I:Inv X pins σ H s){A:Around}(hu:A.units+40<cLine){x:D}{v:V}{u:Value}(rx:RelV v u)(rD:Rep X.K μ H v x)(okx:aH 40 x=true) :
  ∀ {vs:List V} {us:List Value} {ds:List D},Vals vs us->Reps X.K μ H vs ds->(∀ d∈ds,aH 39 d=true)->∀ w∈us,SeqAt.EqAt A s w u (cg X.K μ H x w)
 | _,_,_,.nil,.nil,_=>fun w hw=>by cases hw
 | _,_,_,.cons rv tv,.cons r t,ok=>fun w hw=>by
  rcases Ep.mp hw with rfl | hw
  ·rw [jC I rv r (ok _ DF)]
   exact(eqRc I 40 A hu (iS (by decide) (ok _ DF)) okx r rD rv rx).1
  ·exact cW I hu rx rD okx tv t (fun d m=>ok d (DC _ m)) w hw
noncomputable def fIn(S:aa)(x y:D):Option D:=(dH S y).bind fun ds=>if aH 40 x=true/\ds.all (aH 39)=true then some (.bl (ds.any fun d=>eo d x)) else none
noncomputable def wa(S:aa)(x y:D):Option D:=(dH S y).bind fun ds=>if aH 40 x=true/\ds.all (aH 39)=true then some (.bl (!ds.any fun d=>eo d x)) else none
def op_In(hu:X.A.units+64<cLine):OpR X (compareOp .In) (fc X.K fIn):=by
 intro pins s σ H x y v u Q I rx ry h
 obtain⟨μ,S,dx,dy,dz,hS,h1,h2,h3,post⟩:=h
 obtain⟨ds,e,h3⟩:=Dy.mp h3
 split at h3
 ·rename_i hk
  cases h3
  obtain⟨a,vs,rfl,hq,r⟩:=dr hS h2 e
  cases ry
  have ok:=Ec.mp hk.2
  rcases hq with hq | hq
  ·obtain⟨its,rv,pl,hz⟩:=I.list hq
   refine SeqAt.in_listAt (cg X.K μ H dx) pl.isList (fun w hw=>cW I (by show X.A.units+1+40<cLine;omega) rx h1 hk.1 rv r ok w (by simpa using hw)) ⟨.bl _,H,I,rfl,?_⟩
   rw [show its.toArray.any (cg X.K μ H dx)=its.any (cg X.K μ H dx) by simp,dQ I rv r ok]
   exact post.here hS (.bl _)
  ·obtain⟨its,rv,pl,hz⟩:=I.tuple hq
   refine SeqAt.in_tupleAt (cg X.K μ H dx) pl (fun w hw=>cW I (by show X.A.units+1+40<cLine;omega) rx h1 hk.1 rv r ok w (by simpa using hw)) ⟨.bl _,H,I,rfl,?_⟩
   rw [show its.toArray.any (cg X.K μ H dx)=its.any (cg X.K μ H dx) by simp,dQ I rv r ok]
   exact post.here hS (.bl _)
 ·cases h3
def uV(hu:X.A.units+64<cLine):OpR X (compareOp .NotIn) (fc X.K wa):=by
 intro pins s σ H x y v u Q I rx ry h
 obtain⟨μ,S,dx,dy,dz,hS,h1,h2,h3,post⟩:=h
 obtain⟨ds,e,h3⟩:=Dy.mp h3
 split at h3
 ·rename_i hk
  cases h3
  obtain⟨a,vs,rfl,hq,r⟩:=dr hS h2 e
  cases ry
  have ok:=Ec.mp hk.2
  rcases hq with hq | hq
  ·obtain⟨its,rv,pl,hz⟩:=I.list hq
   refine SeqAt.notIn_listAt (cg X.K μ H dx) pl.isList (fun w hw=>cW I (by show X.A.units+1+40<cLine;omega) rx h1 hk.1 rv r ok w (by simpa using hw)) ⟨.bl _,H,I,rfl,?_⟩
   rw [show its.toArray.any (cg X.K μ H dx)=its.any (cg X.K μ H dx) by simp,dQ I rv r ok]
   exact post.here hS (.bl _)
  ·obtain⟨its,rv,pl,hz⟩:=I.tuple hq
   refine SeqAt.notIn_tupleAt (cg X.K μ H dx) pl (fun w hw=>cW I (by show X.A.units+1+40<cLine;omega) rx h1 hk.1 rv r ok w (by simpa using hw)) ⟨.bl _,H,I,rfl,?_⟩
   rw [show its.toArray.any (cg X.K μ H dx)=its.any (cg X.K μ H dx) by simp,dQ I rv r ok]
   exact post.here hS (.bl _)
 ·cases h3
noncomputable def ub:D->D->Bool
 | .non,.non=>true
 | .bl a,.bl b=>a == b
 | _,_=>false
noncomputable def Cw(S:aa)(x y:D):Option D:=match y with | .non=>some (.bl (ub x y)) | .bl _=>some (.bl (ub x y)) | _=>none
noncomputable def mB(S:aa)(x y:D):Option D:=match y with | .non=>some (.bl (!ub x y)) | .bl _=>some (.bl (!ub x y)) | _=>none
def vS{x y:V}{dx dy:D}{v u:Value}(h1:Rep K μ H x dx)(h2:Rep K μ H y dy)(rx:RelV x v)(ry:RelV y u)(hy:dy=.non\/∃ b,dy=.bl b):plainIs v u=true/\(v == u)=ub dx dy:=by
 rcases hy with rfl | ⟨b,rfl⟩
 ·cases h2;cases ry
  cases h1 <;> first | (cases rx;exact⟨rfl,rfl⟩) | (obtain⟨t,rfl⟩:=rx;exact⟨rfl,rfl⟩)
 ·cases h2;cases ry
  cases h1 <;> first | (cases rx;exact⟨rfl,rfl⟩) | (obtain⟨t,rfl⟩:=rx;exact⟨rfl,rfl⟩) | (cases rx;rename_i c;refine⟨rfl,?_⟩;cases b <;> cases c <;> rfl)
def op_Is:OpR X (compareOp .Is) (fc X.K Cw):=by
 intro pins s σ H x y v u Q I rx ry h
 obtain⟨μ,S,dx,dy,dz,hS,h1,h2,h3,post⟩:=h
 have hy:(dy=.non\/∃ b,dy=.bl b)/\dz=.bl (ub dx dy):=by
  cases dy <;> first | (cases h3;exact⟨.inl rfl,rfl⟩) | (cases h3;exact⟨.inr ⟨_,rfl⟩,rfl⟩) | cases h3
 obtain⟨p,e⟩:=vS h1 h2 rx ry hy.1
 cases hy.2
 exact wpAny_is_plain p ⟨.bl _,H,I,congrArg Value.bool e,post.here hS (.bl _)⟩
def uW:OpR X (compareOp .IsNot) (fc X.K mB):=by
 intro pins s σ H x y v u Q I rx ry h
 obtain⟨μ,S,dx,dy,dz,hS,h1,h2,h3,post⟩:=h
 have hy:(dy=.non\/∃ b,dy=.bl b)/\dz=.bl (!ub dx dy):=by
  cases dy <;> first | (cases h3;exact⟨.inl rfl,rfl⟩) | (cases h3;exact⟨.inr ⟨_,rfl⟩,rfl⟩) | cases h3
 obtain⟨p,e⟩:=vS h1 h2 rx ry hy.1
 cases hy.2
 exact wpAny_isNot_plain p ⟨.bl _,H,I,congrArg (fun b=>Value.bool (!b)) e,post.here hS (.bl _)⟩
end
end M
namespace HT
section
variable{prog:Program}{w:World}{A:Around}{E:Value->Shared->Prop}{s:Shared}
def zx{t b:Addr}{ws:List Value}{Q:Value->Shared->Prop}(ht:IsTup s.heap t #[])(hb:IsTup s.heap b ws.toArray)(h:Q (.ref b) s):wpAny (model prog w) A (binaryOp .Add (.ref t) (.ref b)) Q E s:=by
 obtain⟨⟨cls,dd,data,sl⟩,ho,hc,n,hd⟩:=id ht
 obtain⟨⟨cls2,dd2,data2,sl2⟩,ho2,hc2,n2,hd2⟩:=id hb
 simp only at hc hd hc2 hd2
 subst hc hd hc2 hd2
 exact Go ⟨_,ho,rfl⟩ ⟨_,ho2,rfl⟩ FL Gd FN FG (FC _ _)
   (tuple_addW0 t b #[] ws.toArray n n2 dd dd2 sl sl2 rfl) ⟨ho,ho2,h⟩
def ff{t sl:Addr}{items:Array Value}{vl vu:Value}{lo hi:Option Int}{Q:Value->Shared->Prop}(ht:IsTup s.heap t items)(hs:s.heap.IsSliceOf sl vl vu .none)(pl:IsPart vl lo)(pu:IsPart vu hi)
  (hw:bH items.size 0 lo=0/\bH items.size items.size hi=items.size) (h:Q (.ref t) s):wpAny (model prog w) A (getItem (.ref t) (.ref sl)) Q E s:=by
 obtain⟨os,hos,hcs,hds⟩:=id hs
 have hTs:s.TypeIs (.ref sl) "slice":=⟨os,hos,hcs⟩
 unfold getItem
 try with_reducible refine Fi ?_
 first | refine DD (DN ?_) | skip
 refine DD (wpAny_sequenceKey ht.typeIs (by decide) ?_)
 refine DD (Gc (name:=Str.ofString "__getitem__") ht.typeIs EA
  (FK EA ht.typeIs Gz ?_ (GD _ _)))
 show wpAny _ _ (Builtin.Tuple.tupleItemsOf (.ref t) >>= _) _ _ s
 refine DD (tupleItemsOf_ ht ?_)
 refine DD (Gm hTs ?_)
 rw [DU (by decide)]
 refine DD (dG hs pl pu ?_)
 have hyes:(((bH items.size 0 lo:Nat):Int) == 0&&(1:Int) == 1&&(bH items.size items.size hi - bH items.size 0 lo) == items.size)=true:=by
  rw [hw.1,hw.2];simp
 show wpAny _ _ (if (((bH items.size 0 lo:Nat):Int) == 0&&(1:Int) == 1&&(bH items.size items.size hi - bH items.size 0 lo) == items.size)=true then _ else _) _ _ s
 rw [DU hyes]
 unfold Builtin.Tuple.tupleIsExact
 refine DD (DD (Gm ht.typeIs (DN ?_)))
 rw [DU (by decide)]
 exact DD (wpAny_rule (DD (DN (DN ⟨_,rfl,DN h⟩))))
end
end HT
namespace M
open L2
section
variable{X:Cx}{K:W.Frag}{μ μ':Fp}{H H':Hp}{S:aa}
noncomputable def sV(g:Int->Int->D)(S:aa)(x y:D):Option D:=match x,y with | .int i,.int j=>some (g i j) | _,_=>none
noncomputable def oH(C:Int->Int->Bool)(g:Int->Int->D)(S:aa)(x y:D):Option D:=match x,y with | .int i,.int j=>if C i j=true then some (g i j) else none | _,_=>none
def fO{f:Value->Value->Sem Value}{g:Int->Int->V}{g':Int->Int->D}(h:OpR X f (xE g))(hg:∀ i j μ H,Rep X.K μ H (g i j) (g' i j)):OpR X f (fc X.K (sV g')):=
 OpR.imp h fun x y H Q ⟨μ,S,dx,dy,dz,hS,h1,h2,h3,post⟩=>by
  cases dx <;> cases dy <;> first | cases h3 | skip
  exact⟨_,_,h1.int_inv,h2.int_inv,post.here hS (hg _ _ _ _)⟩
def lH{f:Value->Value->Sem Value}{C:Int->Int->Prop}{C':Int->Int->Bool}{g:Int->Int->V}{g':Int->Int->D}(h:OpR X f (rI C g))(hC:∀ i j,C' i j=true->C i j)(hg:∀ i j μ H,Rep X.K μ H (g i j) (g' i j)):OpR X f (fc X.K (oH C' g')):=
 OpR.imp h fun x y H Q ⟨μ,S,dx,dy,dz,hS,h1,h2,h3,post⟩=>by
  cases dx <;> cases dy <;> first | cases h3 | skip
  simp only [oH] at h3
  split at h3
  ·rename_i hc
   cases h3
   exact⟨_,_,h1.int_inv,h2.int_inv,hC _ _ hc,post.here hS (hg _ _ _ _)⟩
  ·cases h3
noncomputable def mz:=sV fun i j=>.int (i - j)
noncomputable def Ai:=sV fun i j=>.bl (decide (i<j))
noncomputable def Cv:=sV fun i j=>.bl (decide (i<=j))
noncomputable def fGt:=sV fun i j=>.bl (decide (j<i))
noncomputable def fGe:=sV fun i j=>.bl (decide (j<=i))
def Bo:OpR X (binaryOp .Sub) (fc X.K mz):=fO Bj fun _ _ _ _=>.int _
def op_Lt:OpR X (compareOp .Lt) (fc X.K Ai):=fO op_lt fun _ _ _ _=>.bl _
def op_Le:OpR X (compareOp .LtE) (fc X.K Cv):=fO op_le fun _ _ _ _=>.bl _
def op_Gt:OpR X (compareOp .Gt) (fc X.K fGt):=fO op_gt fun _ _ _ _=>.bl _
def op_Ge:OpR X (compareOp .GtE) (fc X.K fGe):=fO op_ge fun _ _ _ _=>.bl _
noncomputable def eh:=oH (fun _ j=>decide (0<j)) fun i j=>.int (i % j)
noncomputable def sX:=oH (fun _ j=>decide (0<j)&&decide (j<1073741824)) fun i j=>.int (i / j)
noncomputable def ii:=oH (fun i j=>decide (0<=j)&&decide (j<=1000000)&&decide (i.natAbs<2 ^ 64)) fun i j=>.int (i ^ j.toNat)
def Br:OpR X (binaryOp .Mod) (fc X.K eh):=lH Bm (fun _ _ h=>EL h) fun _ _ _ _=>.int _
def Bs:OpR X (binaryOp .FloorDiv) (fc X.K sX):=lH ye (fun _ _ h=>by simpa [CDiv] using h) fun _ _ _ _=>.int _
def Bp:OpR X (binaryOp .Pow) (fc X.K ii):=lH Bl (fun i j h=>by
 simp only [Dz,ET] at h
 exact⟨h.1.1,h.1.2,h.2⟩) fun _ _ _ _=>.int _
def fP(i j:Int):Bool:=decide (i.natAbs<18446744073709551616)||decide (j.natAbs<18446744073709551616)||(decide (i.natAbs<2 ^ 4000)&&decide (j.natAbs<2 ^ 4000))
def yn{i j:Int}(h:fP i j=true):IntMulOk i j:=by
 unfold fP at h
 simp only [Fs,Dz,ET] at h
 rcases h with (h | h) | h
 ·exact .of_left (Ga (k:=64) (by omega))
 ·exact .of_right (Ga (k:=64) (by omega))
 ·exact .of_bits (Er (Ga (k:=4000) h.1) (by decide)) (Er (Ga (k:=4000) h.2) (by decide))
def yd:OpR X (binaryOp .Mult) (rI (fun i j=>fP i j=true) fun i j=>.int (i * j)):=opI fun _ _ _ _ _ _ _ hc q=>mul_int q (yn hc)
noncomputable def Ct(S:aa)(x y:D):Option D:=match x,y with
 | .int i,.int j=>if fP i j=true then some (.int (i * j)) else none
 | _,_=>none
def Bq:OpR X (binaryOp .Mult) (fc X.K Ct):=OpR.imp yd fun x y H Q ⟨μ,S,dx,dy,dz,hS,h1,h2,h3,post⟩=>by
 cases dx <;> cases dy <;> first | cases h3 | skip
 simp only [Ct] at h3
 split at h3
 ·rename_i hc
  cases h3
  exact⟨_,_,h1.int_inv,h2.int_inv,hc,post.here hS (.int _)⟩
 ·cases h3
noncomputable def we(S:aa)(x y:D):Option D:=match x,y with
 | .int i,.int j=>some (.int (i+j))
 | .str i,.str j=>if i.length+j.length<=sizeLine then some (.str (i++j)) else none
 | .tup xs,.tup ys=>if xs.length+ys.length<=sizeLine then some (.tup (xs++ys)) else none
 | .lst xs,.lst ys=>if xs.length+ys.length<=sizeLine then some (.lst (xs++ys)) else none
 | _,_=>none
def Bt:OpR X (binaryOp .Add) (fc X.K we):=by
 intro pins s σ H x y v u Q I rx ry h
 obtain⟨μ,S,dx,dy,dz,hS,h1,h2,h3,post⟩:=h
 cases dx <;> cases dy <;> first | cases h3 | skip
 case int.int i j=>exact Bn pins s σ H x y v u Q I rx ry ⟨_,_,h1.int_inv,h2.int_inv,post.here hS (.int _)⟩
 case str.str i j=>
  simp only [we] at h3
  split at h3
  ·rename_i hl;cases h3
   exact pC pins s σ H x y v u Q I rx ry ⟨_,_,h1.str_inv,h2.str_inv,hl,post.here hS (.str _)⟩
  ·cases h3
 case tup.tup xs ys=>
  simp only [we] at h3
  split at h3
  ·rename_i hl;cases h3
   have h2':=h2
   have h1':=h1
   obtain⟨a,vs,rfl,q1,r1⟩:=h1.sqT
   obtain⟨b,ws,rfl,q2,r2⟩:=h2.sqT
   have e1:=r1.length
   have e2:=r2.length
   by_cases hv:vs=[]
   ·subst hv
    have hx:xs=[]:=EX (by simpa using e1.symm)
    subst hx
    cases rx;cases ry
    obtain⟨its,rv,p1,_⟩:=I.tuple q1
    obtain⟨its2,rv2,p2,_⟩:=I.tuple q2
    have:its=[]:=rv.nil_iff.mpr rfl
    subst this
    exact HT.zx p1 p2 ⟨.ref b,H,I,rfl,post.here hS h2'⟩
   ·refine yf pins s σ H _ _ v u Q I rx ry ⟨a,b,vs,ws,rfl,rfl,q1,q2,hv,by omega,fun hw=>?_,fun hw p hp=>post.tup hS hp (r1.append r2)⟩
    subst hw
    have hy:ys=[]:=EX (by simpa using e2.symm)
    subst hy
    rw [EC] at post
    exact post.here hS h1'
  ·cases h3
 case lst.lst xs ys=>
  simp only [we] at h3
  split at h3
  ·rename_i hl;cases h3
   obtain⟨a,vs,rfl,q1,n1,r1⟩:=h1.sqL
   obtain⟨b,ws,rfl,q2,n2,r2⟩:=h2.sqL
   have e1:=r1.length
   have e2:=r2.length
   exact uU pins s σ H _ _ v u Q I rx ry ⟨a,b,vs,ws,rfl,rfl,q1,q2,by omega,fun p hp=>post.lst hS hp (r1.append r2)⟩
  ·cases h3
def Aw:UnR X (unaryOp .USub) (rM1 X.K fun _ x=>match x with | .int i=>some (.int (-i)) | _=>none):=UnR.imp Av fun x H Q ⟨μ,S,dx,dz,hS,h1,h3,post⟩=>by
 cases dx <;> first | cases h3 | skip
 exact⟨_,h1.int_inv,post.here hS (.int _)⟩
noncomputable def sH(f:aa->D->Option D)(a:ME):ME:=fun env S=>(a env S).bind fun p=>(f p.2 p.1).bind fun z=>some (z,p.2)
def de_un{a:Expr}{ma:ME}{pos:Pos}{op:UnaryOp}{f:aa->D->Option D}(ho:UnR X (unaryOp op) (rM1 X.K f))(ha:DE X a ma):DE X (.UnaryOp op a pos) (sH f ma):=
 PE.imp (pe_un ho ha) fun σ H Q ⟨μ,S,env,d,S',hS,hE,hm,post⟩=>by
  obtain⟨⟨x,S1⟩,h1,hm⟩:=Dy.mp hm
  obtain⟨z,h2,hm⟩:=Dy.mp hm
  cases hm
  exact⟨μ,S,env,x,_,hS,hE,h1,fun v H1 μ1 e1 s1 r1=>⟨μ1,_,x,_,s1,r1,h2,post.ext e1⟩⟩
def zC{vs:List V}{ds:List D}{i:Int}{d:D}(r:Reps K μ H vs ds)(h:jJ ds i=some d):∃ v,jJ vs i=some v/\Rep K μ H v d:=by
 unfold jJ at h ⊢
 rw [r.length]
 obtain⟨j,h1,h2⟩:=Dy.mp h
 obtain⟨v,h3,h4⟩:=r.get h2
 exact⟨v,by rw [h1];exact h3,h4⟩
noncomputable def fIx(S:aa)(x y:D):Option D:=match y with | .int i=>(dH S x).bind fun xs=>jJ xs i | _=>none
def ix_D:IxR X (fc X.K fIx):=IxR.imp (ix_list.or Cf) fun x y H Q ⟨μ,S,dx,dy,dz,hS,h1,h2,h3,post⟩=>by
 cases dy <;> first | cases h3 | skip
 rename_i i
 obtain⟨xs,e,h3⟩:=Dy.mp h3
 obtain⟨a,vs,rfl,hq,r⟩:=dr hS h1 e
 obtain⟨v,h4,h5⟩:=zC r h3
 rcases hq with hq | hq
 ·exact .inl ⟨a,vs,i,v,rfl,h2.int_inv,hq,h4,post.here hS h5⟩
 ·exact .inr ⟨a,vs,i,v,rfl,h2.int_inv,hq,h4,post.here hS h5⟩
noncomputable def aN{α:Type}(xs:List α)(lo hi:Option Int):List α:=(xs.drop (HT.bH xs.length 0 lo)).take (HT.bH xs.length xs.length hi - HT.bH xs.length 0 lo)
abbrev MO:=ai->aa->Option (Option Int×aa)
noncomputable def ba:MO:=fun _ S=>some (none,S)
noncomputable def bL(m:ME):MO:=fun env S=>(m env S).bind fun p=>match p.1 with | .int i=>some (some i,p.2) | _=>none
inductive tMO(K:W.Frag)(m:MO)(σ:L2.St)(H:Hp)(Q:Option Int->Hp->Prop):Prop
 | mk (μ:Fp) (S:aa) (env:ai) (o:Option Int) (S':aa) (hS:SOk K μ S H) (hE:EOk K μ H σ env) (h:m env S=some (o,S')) (post:∀ H' μ',Ext μ H μ' H'->SOk K μ' S' H'->Q o H')
def DO(X:Cx)(e:Option Expr)(m:MO):Prop:=PO X e (tMO X.K m)
def PO.imp{e:Option Expr}{t t':TO}(h:PO X e t)(i:∀ σ H Q,t' σ H Q->t σ H Q):PO X e t':=fun pins s σ H Q I q=>h pins s σ H Q I (i σ H Q q)
def zh:DO X none ba:=PO.imp xQ fun σ H Q ⟨μ,S,env,d,S',hS,hE,hm,post⟩=>by cases hm;exact post H μ hS.ext hS
def zg{e:Expr}{m:ME}(h:DE X e m):DO X (some e) (bL m):=PO.imp (xP h) fun σ H Q ⟨μ,S,env,d,S',hS,hE,hm,post⟩=>by
 obtain⟨⟨x,S1⟩,h1,hm⟩:=Dy.mp hm
 cases x <;> first | cases hm | skip
 exact⟨μ,S,env,_,_,hS,hE,h1,fun v H1 μ1 e1 s1 r1=>⟨_,r1.int_inv,post H1 μ1 e1 s1⟩⟩
noncomputable def aY(a:ME)(lo hi:MO):ME:=fun env S=>(a env S).bind fun p=>(lo env p.2).bind fun l=>(hi env l.2).bind fun h=>match p.1 with
 | .tup xs=>some (.tup (aN xs l.1 h.1),h.2)
 | .lst xs=>some (.lst (aN xs l.1 h.1),h.2)
 | .rol xs=>some (.lst (aN xs l.1 h.1),h.2)
 | .ref r=>match h.2[r]? with | some (.lst xs)=>some (.lst (aN xs l.1 h.1),h.2) | _=>none
 | _=>none
def iz{vs:List V}{ds:List D}{lo hi:Option Int}(r:Reps K μ H vs ds):Reps K μ H (oQ vs lo hi) (aN ds lo hi):=by
 unfold oQ aN
 rw [r.length]
 exact(r.drop _).take _
def xz:SlR X (fun x lo hi H Q=>∃ a xs,x=.ref a/\hJ X.K H a xs/\(HT.bH xs.length 0 lo=0/\HT.bH xs.length xs.length hi=xs.length)/\Q (.ref a) H):=by
 intro pins s σ H x v vl vu lo hi sl Q I rx hs pl pu h
 obtain⟨a,xs,rfl,hx,hw,q⟩:=h
 cases rx
 obtain⟨its,r,ht,hz⟩:=I.tuple hx
 have hlen:its.toArray.size=xs.length:=by rw [DB];exact r.length.symm
 refine⟨"tuple",_,PyProof.Rows.slot_tuple_getitem.lookup,ht.typeIs,?_⟩
 exact HT.ff ht hs pl pu (by rw [hlen];exact hw) ⟨.ref a,H,I,rfl,q⟩
def wS{a:Expr}{lo hi:Option Expr}{ma:ME}{ml mh:MO}{pos p2:Pos}(ha:DE X a ma)(hl:DO X lo ml)(hh:DO X hi mh):DE X (.Subscript a (.Slice lo hi none p2) pos) (aY ma ml mh):=
 PE.imp (uJ (SlR.or xz (SlR.or AH xA)) ha hl hh) fun σ H Q ⟨μ,S,env,d,S',hS,hE,hm,post⟩=>by
  obtain⟨⟨x,S1⟩,h1,hm⟩:=Dy.mp hm
  obtain⟨⟨l,S2⟩,h2,hm⟩:=Dy.mp hm
  obtain⟨⟨h,S3⟩,h3,hm⟩:=Dy.mp hm
  refine⟨μ,S,env,x,S1,hS,hE,h1,fun v H1 μ1 e1 s1 r1=>⟨μ1,S1,env,l,S2,s1,hE.mono e1,h2,fun H2 μ2 e2 s2=>⟨μ2,S2,env,h,S3,s2,(hE.mono e1).mono e2,h3,fun H3 μ3 e3 s3=>?_⟩⟩⟩
  have r3:=(r1.mono e2).mono e3
  have e:=(e1.trans e2).trans e3
  cases x with
  | tup xs=>
   cases hm
   have r3':=r3
   obtain⟨a,vs,rfl,q1,r⟩:=r3.sqT
   by_cases hw:HT.bH vs.length 0 l=0/\HT.bH vs.length vs.length h=vs.length
   ·refine .inl ⟨a,vs,rfl,q1,hw,?_⟩
    have:aN xs l h=xs:=by unfold aN;rw [<- r.length,hw.1,hw.2];simp [r.length]
    rw [this] at post
    exact post _ H3 μ3 e s3 r3'
   ·exact .inr (.inl ⟨a,vs,rfl,q1,hw,fun p hp=>(post.ext e).tup s3 hp (iz r)⟩)
  | lst xs=>
   cases hm
   obtain⟨a,vs,rfl,q1,n1,r⟩:=r3.sqL
   exact .inr (.inr ⟨a,vs,rfl,.inl (.inl q1),fun p hp=>(post.ext e).lst s3 hp (iz r)⟩)
  | rol xs=>
   cases hm
   obtain⟨a,vs,rfl,q1,r⟩:=r3.sqR
   exact .inr (.inr ⟨a,vs,rfl,q1,fun p hp=>(post.ext e).lst s3 hp (iz r)⟩)
  | ref r=>
   dsimp only at hm
   split at hm
   ·rename_i xs q
    cases hm
    cases r3 with
    | @ref a _ ha=>
     obtain⟨vs,hv,rv⟩:=s3.cell r a _ ha q
     exact .inr (.inr ⟨a,vs,rfl,.inl (.inl hv),fun p hp=>(post.ext e).lst s3 hp (iz rv)⟩)
   ·cases hm
  | _=>cases hm
end
section
variable{X:Cx}{K:W.Frag}{μ μ':Fp}{H H':Hp}{S:aa}
noncomputable def aL(f:List D->aa->Option (D×aa))(ms:MA):ME:=fun env S=>(ms env S).bind fun p=>f p.1 p.2
def ul{f:List D->aa->Option (D×aa)}{ms:MA}{σ:L2.St}{Q:VK}(h:tM K (aL f ms) σ H Q):tCB (su K f) (tMA K ms) σ H Q:=by
 obtain⟨μ,S,env,d,S',hS,hE,hm,post⟩:=h
 obtain⟨⟨xs,S1⟩,h1,hm⟩:=Dy.mp hm
 exact⟨μ,S,env,xs,S1,hS,hE,h1,fun vs H1 μ1 e1 s1 r1=>⟨μ1,S1,xs,d,S',s1,r1,hm,post.ext e1⟩⟩
section
variable{x:Str}{p pos:Pos}{e:Expr}{es:List Expr}{ms:MA}{id T:String}{f:List D->aa->Option (D×aa)}
def gj(hc:CallR X (.builtin id) (su X.K f))(hm:X.mg x=none)(hv:bootBuiltins x=some (.builtin id))(ha:DA X (e::es) ms)(hg:Gl X x:=by rfl)(hn:x ≠ "__name__":=by decide)(hdb:(x == ("__debug__":Str))=false:=by decide)
  (he:starEach (e::es) X.env=(false,eval e X.env)::starEach es X.env:=by rfl) (hpl:(backTo pos (starEach es X.env)).any (·.1)=false:=by rfl):DE X (.Call (.Name x p) (e::es) [] pos) (aL f ms):=
 PE.imp (ny hc hg hm hv ha hn hdb he hpl) fun _ _ _ h=>ul h
def dP(hc:CallR X (.type T) (su X.K f))(hm:X.mg x=none)(hv:bootBuiltins x=some (.type T))(ha:DA X (e::es) ms)(hg:Gl X x:=by rfl)(hn:x ≠ "__name__":=by decide)(hdb:(x == ("__debug__":Str))=false:=by decide)
  (he:starEach (e::es) X.env=(false,eval e X.env)::starEach es X.env:=by rfl) (hpl:(backTo pos (starEach es X.env)).any (·.1)=false:=by rfl):DE X (.Call (.Name x p) (e::es) [] pos) (aL f ms):=
 PE.imp (sB hc hg hm hv ha hn hdb he hpl) fun _ _ _ h=>ul h
end
def Reps.one{vs:List V}{d:D}(r:Reps K μ H vs [d]):∃ v,vs=[v]/\Rep K μ H v d:=by
 cases r with
 | cons h t=>cases t;exact⟨_,rfl,h⟩
def Reps.two{vs:List V}{d e:D}(r:Reps K μ H vs [d,e]):∃ v w,vs=[v,w]/\Rep K μ H v d/\Rep K μ H w e:=by
 cases r with
 | cons h t=>cases t with | cons h' t=>cases t;exact⟨_,_,rfl,h,h'⟩
noncomputable def ak(f:aa->List D->Option D):List D->aa->Option (D×aa):=fun ds S=>(f S ds).bind fun d=>some (d,S)
def bb{f:aa->List D->Option D}{ds:List D}{S S':aa}{d:D}(h:ak f ds S=some (d,S')):S'=S/\f S ds=some d:=by
 obtain⟨z,h1,h⟩:=Dy.mp h
 cases h
 exact⟨rfl,h1⟩
noncomputable def dq(S:aa):List D->Option D
 | [.str z]=>if z.length<=sizeLine then some (.int z.length) else none
 | [d]=>(dH S d).bind fun xs=>some (.int xs.length)
 | _=>none
def xc:CallR X (.builtin "len") (su X.K (ak dq)):=CallR.imp (call_len_seq.or mN) fun xs H Q ⟨μ,S,ds,d,S',hS,hr,hm,post⟩=>by
 obtain⟨rfl,hm⟩:=bb hm
 match ds,hr,hm with
 | [D.str z],hr,hm=>
  obtain⟨v,rfl,r⟩:=hr.one
  simp only [dq] at hm
  split at hm
  ·rename_i hl;cases hm;exact .inr ⟨z,by rw [r.str_inv],hl,post.here hS (.int _)⟩
  ·cases hm
 | [D.non],hr,hm=>cases hm
 | [D.bl _],hr,hm=>cases hm
 | [D.int _],hr,hm=>cases hm
 | [D.dct _ _],hr,hm=>cases hm
 | [D.tup xs],hr,hm=>
  obtain⟨v,rfl,r⟩:=hr.one
  cases hm
  obtain⟨a,vs,rfl,hq,r⟩:=dr hS r rfl
  exact .inl ⟨a,vs,rfl,hq,by rw [r.length];exact post.here hS (.int _)⟩
 | [D.lst xs],hr,hm=>
  obtain⟨v,rfl,r⟩:=hr.one
  cases hm
  obtain⟨a,vs,rfl,hq,r⟩:=dr hS r rfl
  exact .inl ⟨a,vs,rfl,hq,by rw [r.length];exact post.here hS (.int _)⟩
 | [D.rol xs],hr,hm=>
  obtain⟨v,rfl,r⟩:=hr.one
  cases hm
  obtain⟨a,vs,rfl,hq,r⟩:=dr hS r rfl
  exact .inl ⟨a,vs,rfl,hq,by rw [r.length];exact post.here hS (.int _)⟩
 | [D.ref i],hr,hm=>
  obtain⟨v,rfl,r⟩:=hr.one
  obtain⟨xs,h1,hm⟩:=Dy.mp hm
  cases hm
  obtain⟨a,vs,rfl,hq,r⟩:=dr hS r h1
  exact .inl ⟨a,vs,rfl,hq,by rw [r.length];exact post.here hS (.int _)⟩
 | [],hr,hm=>cases hm
 | a::b::c,hr,hm=>simp [dq] at hm
noncomputable def oI(S:aa):List D->Option D
 | [.int i]=>some (.int i)
 | [.bl k]=>some (.int (if k then 1 else 0))
 | _=>none
def xf:CallR X (.type "int") (su X.K (ak oI)):=CallR.imp tS fun xs H Q ⟨μ,S,ds,d,S',hS,hr,hm,post⟩=>by
 obtain⟨rfl,hm⟩:=bb hm
 match ds,hr,hm with
 | [D.int i],hr,hm=>obtain⟨v,rfl,r⟩:=hr.one;cases hm;exact .inl ⟨i,by rw [r.int_inv],post.here hS (.int _)⟩
 | [D.bl k],hr,hm=>obtain⟨v,rfl,r⟩:=hr.one;cases hm;exact .inr ⟨k,by rw [r.bl_inv],post.here hS (.int _)⟩
 | [D.non],hr,hm=>cases hm
 | [D.str _],hr,hm=>cases hm
 | [D.dct _ _],hr,hm=>cases hm
 | [D.tup _],hr,hm=>cases hm
 | [D.lst _],hr,hm=>cases hm
 | [D.rol _],hr,hm=>cases hm
 | [D.ref _],hr,hm=>cases hm
 | [],hr,hm=>cases hm
 | a::b::c,hr,hm=>simp [oI] at hm
noncomputable def Ah(S:aa):List D->Option D
 | [.int i,.int j]=>some (.int (if j>i then j else i))
 | _=>none
noncomputable def oD(S:aa):List D->Option D
 | [.int i,.int j]=>some (.int (if j<i then j else i))
 | _=>none
def Ac{ds:List D}{f:Int->Int->D}{d:D}(h:(match ds with | [.int i,.int j]=>some (f i j) | _=>none)=some d):∃ i j,ds=[.int i,.int j]/\d=f i j:=by
 split at h
 ·cases h;exact⟨_,_,rfl,rfl⟩
 ·cases h
def tW(hc:X.calm=true):CallR X (.builtin "max") (su X.K (ak Ah)):=CallR.imp (tR hc) fun xs H Q ⟨μ,S,ds,d,S',hS,hr,hm,post⟩=>by
 obtain⟨rfl,hm⟩:=bb hm
 obtain⟨i,j,rfl,rfl⟩:=Ac (f:=fun i j=>.int (if j>i then j else i)) hm
 obtain⟨v,w,rfl,r1,r2⟩:=hr.two
 exact⟨i,j,by rw [r1.int_inv,r2.int_inv],post.here hS (.int _)⟩
def tU(hc:X.calm=true):CallR X (.builtin "min") (su X.K (ak oD)):=CallR.imp (tP hc) fun xs H Q ⟨μ,S,ds,d,S',hS,hr,hm,post⟩=>by
 obtain⟨rfl,hm⟩:=bb hm
 obtain⟨i,j,rfl,rfl⟩:=Ac (f:=fun i j=>.int (if j<i then j else i)) hm
 obtain⟨v,w,rfl,r1,r2⟩:=hr.two
 exact⟨i,j,by rw [r1.int_inv,r2.int_inv],post.here hS (.int _)⟩
noncomputable def gS(c:List D->D)(S:aa):List D->Option D
 | [d]=>(dH S d).bind fun xs=>some (c xs)
 | _=>none
def jA{c:List D->D}{S:aa}{ds:List D}{d:D}(h:gS c S ds=some d):∃ x xs,ds=[x]/\dH S x=some xs/\d=c xs:=by
 match ds,h with
 | [x],h=>
  obtain⟨xs,h1,h⟩:=Dy.mp h
  cases h
  exact⟨x,xs,rfl,h1,rfl⟩
 | [],h=>cases h
 | _::_::_,h=>cases h
def tX:CallR X (.type "list") (su X.K (ak (gS .lst))):=CallR.imp mM fun xs H Q ⟨μ,S,ds,d,S',hS,hr,hm,post⟩=>by
 obtain⟨rfl,hm⟩:=bb hm
 obtain⟨x,ys,rfl,h1,rfl⟩:=jA hm
 obtain⟨v,rfl,r⟩:=hr.one
 obtain⟨a,vs,rfl,hq,r⟩:=dr hS r h1
 exact⟨a,vs,rfl,hq,fun l hl=>post.lst hS hl r⟩
def qz:CallR X (.type "tuple") (su X.K (ak (gS .tup))):=CallR.imp kh fun xs H Q ⟨μ,S,ds,d,S',hS,hr,hm,post⟩=>by
 obtain⟨rfl,hm⟩:=bb hm
 obtain⟨x,ys,rfl,h1,rfl⟩:=jA hm
 obtain⟨v,rfl,r⟩:=hr.one
 cases x with
 | tup zs=>
  cases h1
  have r':=r
  obtain⟨a,vs,rfl,q,r⟩:=r.sqT
  exact⟨a,vs,rfl,.inr ⟨q,post.here hS r'⟩⟩
 | lst zs=>
  cases h1
  obtain⟨a,vs,rfl,q,n,r⟩:=r.sqL
  exact⟨a,vs,rfl,.inl ⟨.inl (.inl q),fun l hl=>post.tup hS hl r⟩⟩
 | rol zs=>
  cases h1
  obtain⟨a,vs,rfl,q,r⟩:=r.sqR
  exact⟨a,vs,rfl,.inl ⟨q,fun l hl=>post.tup hS hl r⟩⟩
 | ref i=>
  simp only [dH] at h1
  cases r with
  | @ref a _ h'=>
   cases q:S'[i]? with
   | none=>rw [q] at h1;cases h1
   | some c=>
    rw [q] at h1
    have ck:=hS.cell i a c h' q
    cases c with
    | lst xs=>cases h1;obtain⟨vs,e,r⟩:=ck;exact⟨a,vs,rfl,.inl ⟨.inl (.inl e),fun l hl=>post.tup hS hl r⟩⟩
    | dct ks xs=>cases h1
 | _=>cases h1
noncomputable def jI:List D->Option (List Bool)
 | []=>some []
 | .bl b::r=>(jI r).bind fun bs=>some (b::bs)
 | _=>none
noncomputable def yP(S:aa):List D->Option D
 | [.lst xs]=>(jI xs).bind fun bs=>some (.bl (bs.all id))
 | _=>none
theorem gZ:∀ {vs:List V} {ds:List D} {us:List Value} {bs:List Bool},Reps K μ H vs ds->Vals vs us->jI ds=some bs->LSm.BoolsAre us bs
 | _,_,_,_,.nil,.nil,h=>by cases h;exact .nil
 | _,_,_,_,.cons (d:=d) r t,.cons rv tv,h=>by
  cases d <;> first | cases h | skip
  obtain⟨cs,h1,h⟩:=Dy.mp h
  cases h
  cases r;cases rv
  exact .cons _ (gZ t tv h1)
def xg(hc:X.calm=true):CallR X (.builtin "all") (su X.K (ak yP)):=by
 intro pins s σ H xs us Q I rv h
 obtain⟨μ,S,ds,d,S',hS,hr,hm,post⟩:=h
 obtain⟨rfl,hm⟩:=bb hm
 match ds,hr,hm with
 | [D.lst zs],hr,hm=>
  obtain⟨v,rfl,r⟩:=hr.one
  obtain⟨bs,h1,hm⟩:=Dy.mp hm
  cases hm
  obtain⟨u,rfl,ru⟩:=er rv
  obtain⟨a,vs,rfl,q,n,r⟩:=r.sqL
  cases ru
  obtain⟨its,rv',pl,hz⟩:=I.list (.inl (.inl q))
  have hl:=pl.isList
  have hb:=gZ r rv' h1
  have hlt:a<s.heap.objs.size:=by obtain⟨_,e,_⟩:=hl;exact DL e
  refine call_all_walk (FD hl ?_)
  refine⟨s.heap.objs.size,[s.heap.objs.size,a],[s.heap.objs.size],its.toArray.size,_,_,fun i=>(bs[i]?).getD true,rfl,Walks.list (A:=X.A.in1) (I.ok.hd hc) _ a (El hlt) its.toArray,
   ⟨⟨_,DY _ rfl,rfl,rfl⟩,hl.push _⟩,fun i v s' Q' E' hP hQ=>?_,fun h' tk hk=>?_⟩
  ·obtain⟨b,e,rfl⟩:=hb.get i v (by simpa using hP)
   simp only [e,Option.getD_some] at hQ
   exact EJ hQ
  ·have e:((List.range its.toArray.size).all fun i=>(bs[i]?).getD true)=bs.all id:=by
    rw [DB,hb.length];exact LSm.range_all bs
   rw [e]
   exact⟨.bl _,H,I.kept (LSm.kept_iter hk),rfl,post.here hS (.bl _)⟩
 | [D.non],hr,hm=>cases hm
 | [D.bl _],hr,hm=>cases hm
 | [D.int _],hr,hm=>cases hm
 | [D.str _],hr,hm=>cases hm
 | [D.dct _ _],hr,hm=>cases hm
 | [D.tup _],hr,hm=>cases hm
 | [D.rol _],hr,hm=>cases hm
 | [D.ref _],hr,hm=>cases hm
 | [],hr,hm=>cases hm
 | a::b::c,hr,hm=>simp [yP] at hm
noncomputable def tyD(S:aa):D->Option String
 | .non=>some "NoneType"
 | .bl _=>some "bool"
 | .int _=>some "int"
 | .str _=>some "str"
 | .tup _=>some "tuple"
 | .lst _=>some "list"
 | .rol _=>some "list"
 | .dct _ _=>some "dict"
 | .ref r=>match S[r]? with | some (.lst _)=>some "list" | some (.dct _ _)=>some "dict" | none=>none
 | .txt=>some "str"
 | .obj=>some "dict"
def vQ(T:String)(t:String):Bool:=t == T||(t == "bool" && T == "int")
noncomputable def qj(T:String)(S:aa)(d:D):Option D:=(tyD S d).bind fun t=>some (.bl (vQ T t))
noncomputable def de(T:String)(m:ME):ME:=fun env S=>(m env S).bind fun p=>(qj T p.2 p.1).bind fun d=>some (d,p.2)
def sj{S:aa}{d:D}{t:String}(h:tyD S d=some t):t = "NoneType"\/t = "bool"\/t = "int"\/t = "str"\/t = "tuple"\/t = "list"\/t = "dict":=by
 cases d <;> simp only [tyD] at h <;> first | (cases h;simp) | (split at h <;> first | (cases h;simp) | cases h)
def yv(K:W.Frag){T t:String}(hT:T = "int"\/T = "bool"\/T = "str"\/T = "tuple"\/T = "list"\/T = "dict")(ht:t = "NoneType"\/t = "bool"\/t = "int"\/t = "str"\/t = "tuple"\/t = "list"\/t = "dict") :
  W.kitOne K (.type t) (.type T)=some (vQ T t):=by
 rcases hT with rfl | rfl | rfl | rfl | rfl | rfl <;> rcases ht with rfl | rfl | rfl | rfl | rfl | rfl | rfl <;> rfl
def kia_D{pins:List (Addr×Obj)}{σ:L2.St}{s:Shared}{v:V}{u:Value}{d:D}{t:String}{b:Bool}{c:Value}{Q:Value->Shared->Prop}{E:Value->Shared->Prop}(I:Inv X pins σ H s)(hS:SOk X.K μ S H)(r:Rep X.K μ H v d)(ru:RelV v u)(ht:tyD S d=some t)
  (e:W.kitOne X.K (.type t) c=some b) (h:∀ tk,Q (.bool b) { s with toks:=tk }):wpAny (model X.prog X.w) X.A (call (.builtin "isinstance") [u,c]) Q E s:=by
 have tupK:∀ {a:Addr} {vs:List V},hJ X.K H a vs->W.KitAt a "tuple" s.heap:=fun {a vs} q=>by
  obtain⟨its,_,⟨o,h1,h2,_⟩,_⟩:=I.tuple q;exact⟨o,h1,h2⟩
 have lstK:∀ {a:Addr} {vs:List V},fK X.K H a vs->W.KitAt a "list" s.heap:=fun {a vs} q=>by
  obtain⟨its,_,⟨o,n,h1,h2,_⟩,_⟩:=I.list q;exact⟨o,h1,h2⟩
 have dK:∀ {a:Addr} {kvs:List (ao×V)},H a=some (.dK kvs)->W.KitAt a "dict" s.heap:=fun {a kvs} q=>by
  obtain⟨_,_,vs,_,p⟩:=(show ObjOk X.prog X.w H s.heap a (.dK kvs) from I.hok a _ q)
  obtain⟨o,es,ep,h1,h2,_⟩:=p
  exact⟨o,h1,h2.1⟩
 cases r with
 | non=>cases ht;cases ru;exact EG W.kitx_none I.kIn True.intro e (fun z=>nomatch z) h
 | bl y=>cases ht;cases ru;exact EG W.kitx_bool I.kIn True.intro e (fun z=>nomatch z) h
 | int i=>cases ht;obtain⟨t,rfl⟩:=ru;exact EG W.kitx_int I.kIn True.intro e (fun z=>nomatch z) h
 | str y=>cases ht;obtain⟨t,rfl⟩:=ru;exact EG W.kitx_str I.kIn True.intro e (fun z=>nomatch z) h
 | tup q n r=>cases ht;cases ru;exact EG W.kitx_tuple I.kIn (tupK (.inl (.inl q))) e (fun z=>nomatch z) h
 | ktup q r=>cases ht;cases ru;exact EG W.kitx_tuple I.kIn (tupK (.inr q)) e (fun z=>nomatch z) h
 | lst q n r=>cases ht;cases ru;exact EG FR I.kIn (lstK (.inl (.inl q))) e (fun z=>nomatch z) h
 | rol q n r=>cases ht;cases ru;exact EG FR I.kIn (lstK (.inl q)) e (fun z=>nomatch z) h
 | krol q r=>cases ht;cases ru;exact EG FR I.kIn (lstK (.inr q)) e (fun z=>nomatch z) h
 | dct q n r=>cases ht;cases ru;exact EG GA I.kIn (dK q) e (fun z=>nomatch z) h
 | txt y=>cases ht;obtain⟨t,rfl⟩:=ru;exact EG W.kitx_str I.kIn True.intro e (fun z=>nomatch z) h
 | obj q n=>cases ht;cases ru;exact EG GA I.kIn ((show ObjOk X.prog X.w H s.heap _ (.ext (rM _)) from I.hok _ _ q).1) e (fun z=>nomatch z) h
 | @ref a i h'=>
  cases ru
  simp only [tyD] at ht
  cases q:S[i]? with
  | none=>rw [q] at ht;cases ht
  | some c'=>
   rw [q] at ht
   have ck:=hS.cell i a c' h' q
   cases c' with
   | lst xs=>cases ht;obtain⟨vs,q,r⟩:=ck;exact EG FR I.kIn (lstK (.inl (.inl q))) e (fun z=>nomatch z) h
   | dct ks xs=>cases ht;obtain⟨kvs,q,r⟩:=ck;exact EG GA I.kIn (dK q) e (fun z=>nomatch z) h
def tH{a:Expr}{ma:ME}{T:String}{x:Str}{p p2 pos:Pos}(hm:X.mg "isinstance" = none)(hmT:X.mg x=none)(hb:bootBuiltins x=some (.type T))(ha:DE X a ma)
  (hT:T = "int"\/T = "bool"\/T = "str"\/T = "tuple"\/T = "list"\/T = "dict":=by simp)
  (hg:Gl X "isinstance":=by rfl) (hgT:Gl X x:=by rfl) (hn:x ≠ "__name__":=by decide) (hd:(x == ("__debug__":Str))=false:=by decide)
  (hs1:starEach [a,.Name x p2] X.env=(false,eval a X.env)::starEach [.Name x p2] X.env:=by rfl) (hs2:starEach [.Name x p2] X.env=(false,eval (.Name x p2) X.env)::starEach [] X.env:=by rfl) (hpl:(backTo pos (starEach [.Name x p2] X.env)).any (·.1)=false:=by rfl) :
  DE X (.Call (.Name "isinstance" p) [a,.Name x p2] [] pos) (de T ma):=by
 have hc:CallR X (.builtin "isinstance") (fun vs H Q=>∃ v μ S d t,vs=[v,.ty T]/\SOk X.K μ S H/\Rep X.K μ H v d/\tyD S d=some t/\Q (.bl (vQ T t)) H):=by
  intro pins s σ H xs us Q I rv h
  obtain⟨v,μ,S,d,t,rfl,hS,r,ht,q⟩:=h
  obtain⟨u,w',rfl,r1,r2⟩:=ug rv
  cases r2
  exact kia_D I hS r r1 ht (yv _ hT (sj ht)) fun tk=>⟨.bl _,H,I.tok _,rfl,q⟩
 refine PE.imp (ny hc hg hm boot_isinstance (lG ha (lG (xY (v:=.ty T) hgT hmT hb rfl hn hd) uT hs2) hs1) (by decide) (by decide) hs1 hpl) fun σ H Q ⟨μ,S,env,d,S',hS,hE,hm,post⟩=>?_
 obtain⟨⟨x,S1⟩,h1,hm⟩:=Dy.mp hm
 obtain⟨z,h2,hm⟩:=Dy.mp hm
 cases hm
 obtain⟨t,h3,h2⟩:=Dy.mp h2
 cases h2
 exact⟨μ,S,env,x,S1,hS,hE,h1,fun v H1 μ1 e1 s1 r1=>⟨v,μ1,S1,x,t,rfl,s1,r1,h3,post _ H1 μ1 e1 s1 (.bl _)⟩⟩
end
section
variable{X:Cx}{K:W.Frag}{μ μ':Fp}{H H':Hp}{S:aa}
noncomputable def uv(K:W.Frag)(n:Nat)(f:List D->aa->Option (D×aa)):Sp:=fun vs H Q _=>∃ μ S ds d S',SOk K μ S H/\Reps K μ H vs ds/\ds.length=n/\f ds S=some (d,S')/\Post K μ H S' d Q
structure Fn(P:Program)(w:World)(K:W.Frag)(mg:Str->Option Value)(base:Heap)(k:Nat)(x:Str)(n:Nat)(f:List D->aa->Option (D×aa)):Prop where
 ex:∃ (a:Addr) (fd:FuncData) (ps:List Str),ps.length=n/\FnOk P w K mg base si k a fd ps (uv K n f)/\mg x=some (.ref a)/\W.keepIn K (.ref a)=true/\Binds K fd ps []
noncomputable def ag(n:Nat)(f:List D->aa->Option (D×aa))(ms:MA):ME:=fun env S=>(ms env S).bind fun p=>if p.1.length=n then f p.1 p.2 else none
def mZ{n:Nat}{f:List D->aa->Option (D×aa)}{ms:MA}{σ:L2.St}{Q:VK}(h:tM K (ag n f ms) σ H Q):qI (uv K n f) [] E0 (tMA K ms) σ H Q:=by
 obtain⟨μ,S,env,d,S',hS,hE,hm,post⟩:=h
 obtain⟨⟨xs,S1⟩,h1,hm⟩:=Dy.mp hm
 dsimp only at hm
 split at hm
 ·rename_i hn
  refine⟨μ,S,env,xs,S1,hS,hE,h1,fun vs H1 μ1 e1 s1 r1=>?_⟩
  show uv K n f (vs++[]) H1 Q E0
  rw [EC]
  exact⟨μ1,S1,xs,d,S',s1,r1,hn,hm,post.ext e1⟩
 ·cases hm
def zr{k n:Nat}{x:Str}{f:List D->aa->Option (D×aa)}{e:Expr}{es:List Expr}{ms:MA}{p pos:Pos}(F:Fn X.prog X.w X.K X.mg X.base k x n f)(hr:Room k X.A)(ha:DA X (e::es) ms)(hg:Gl X x:=by rfl)
  (hdb:(x == ("__debug__":Str))=false:=by decide) (he:starEach (e::es) X.env=(false,eval e X.env)::starEach es X.env:=by rfl) (hpl:(backTo pos (starEach es X.env)).any (·.1)=false:=by rfl) :
  DE X (.Call (.Name x p) (e::es) [] pos) (ag n f ms):=by
 obtain⟨a,fd,ps,hn,F,hm,hk,hb⟩:=F.ex
 exact PE.imp (xX F hr hg hm hk hb .nil uS ha hdb he hpl) fun _ _ _ h=>mZ h
def wY{k:Nat}{x:Str}{f:List D->aa->Option (D×aa)}{p pos:Pos}(F:Fn X.prog X.w X.K X.mg X.base k x 0 f)(hr:Room k X.A)(hg:Gl X x:=by rfl)
  (hdb:(x == ("__debug__":Str))=false:=by decide):DE X (.Call (.Name x p) [] [] pos) (ag 0 f ae):=by
 obtain⟨a,fd,ps,hn,F,hm,hk,hb⟩:=F.ex
 refine PE.imp (uR F hr hg hm hk hb .nil uS hdb) fun σ H Q h=>?_
 obtain⟨μ,S,env,d,S',hS,hE,hm,post⟩:=h
 exact⟨μ,S,[],d,S',hS,.nil,rfl,hm,post⟩
mutual
noncomputable def eQ(n:Nat):D->Bool
 | .tup xs=>closDs n xs
 | .lst xs=>closDs n xs
 | .rol xs=>closDs n xs
 | .dct _ xs=>closDs n xs
 | .ref r=>decide (r<n)
 | _=>true
noncomputable def closDs(n:Nat):List D->Bool
 | []=>true
 | d::ds=>eQ n d&&closDs n ds
end
noncomputable def ln(n:Nat):pd->Bool
 | .lst xs=>closDs n xs
 | .dct _ xs=>closDs n xs
mutual
theorem Rep.trunc{cs l fb:List Addr}:∀ {v:V} {d:D},Rep K ⟨cs++l,fb⟩ H v d->eQ cs.length d=true->Rep K ⟨cs,fb⟩ H v d
 | _,_,.non,_=>.non
 | _,_,.bl b,_=>.bl b
 | _,_,.int i,_=>.int i
 | _,_,.str x,_=>.str x
 | _,_,.tup h n r,c=>.tup h ⟨fun z=>n.1 (DV _ z),n.2⟩ (Reps.trunc r (by simpa only [eQ] using c))
 | _,_,.ktup h r,c=>.ktup h (Reps.trunc r (by simpa only [eQ] using c))
 | _,_,.lst h n r,c=>.lst h ⟨fun z=>n.1 (DV _ z),n.2⟩ (Reps.trunc r (by simpa only [eQ] using c))
 | _,_,.rol h n r,c=>.rol h ⟨fun z=>n.1 (DV _ z),n.2⟩ (Reps.trunc r (by simpa only [eQ] using c))
 | _,_,.krol h r,c=>.krol h (Reps.trunc r (by simpa only [eQ] using c))
 | _,_,.dct h n r,c=>.dct h ⟨fun z=>n.1 (DV _ z),n.2⟩ (Reps.trunc r (by simpa only [eQ] using c))
 | _,_,.txt x,_=>.txt x
 | _,_,.obj h n,_=>.obj h ⟨fun z=>n.1 (DV _ z),n.2⟩
 | _,_,.ref h,c=>.ref (by
   have hl:=EL c
   have h:(cs++l)[_]?=some _:=h
   rw [Ed hl] at h
   exact h)
theorem Reps.trunc{cs l fb:List Addr}:∀ {vs:List V} {ds:List D},Reps K ⟨cs++l,fb⟩ H vs ds->closDs cs.length ds=true->Reps K ⟨cs,fb⟩ H vs ds
 | _,_,.nil,_=>.nil
 | _,_,.cons h t,c=>by
  rw [closDs,Dz] at c
  exact .cons (Rep.trunc h c.1) (Reps.trunc t c.2)
end
mutual
theorem Rep.closed:∀ {v:V} {d:D},Rep K μ H v d->eQ μ.cs.length d=true
 | _,_,.non=>rfl
 | _,_,.bl b=>rfl
 | _,_,.int i=>rfl
 | _,_,.str x=>rfl
 | _,_,.tup h n r=>Reps.closed r
 | _,_,.ktup h r=>Reps.closed r
 | _,_,.lst h n r=>Reps.closed r
 | _,_,.rol h n r=>Reps.closed r
 | _,_,.krol h r=>Reps.closed r
 | _,_,.dct h n r=>Reps.closed r
 | _,_,.txt x=>rfl
 | _,_,.obj h n=>rfl
 | _,_,.ref h=>Ew (DH.mp h).1
theorem Reps.closed:∀ {vs:List V} {ds:List D},Reps K μ H vs ds->closDs μ.cs.length ds=true
 | _,_,.nil=>rfl
 | _,_,.cons h t=>by rw [closDs,Rep.closed h,Reps.closed t];rfl
end
theorem SOk.closed(s:SOk K μ S H):∀ c∈S,ln S.length c=true:=fun c hc=>by
 obtain⟨r,hr⟩:=Fl.mp hc
 have hl:=(DH.mp hr).1
 have hl':r < μ.cs.length:=by rw [s.len];exact hl
 have:=s.cell r _ c (Eb hl') hr
 cases c with
 | lst ds=>obtain⟨vs,_,q⟩:=this;rw [<- s.len];exact q.closed
 | dct ks ds=>obtain⟨vs,_,_,q⟩:=this;rw [<- s.len];exact q.closed
theorem SOk.trunc{S' g:aa}(s:SOk K μ (S'++g) H)(hc:∀ c∈S',ln S'.length c=true):∃ cs l,μ.cs=cs++l/\cs.length=S'.length/\SOk K ⟨cs,μ.fb⟩ S' H:=by
 obtain⟨cs0,fb⟩:=μ
 have hlen:cs0.length=S'.length+g.length:=by have:=s.len;simpa using this
 have hcl:(cs0.take S'.length).length=S'.length:=by rw [EW];omega
 refine⟨cs0.take S'.length,cs0.drop S'.length,(EU _ _).symm,hcl,s.nd.sublist (List.take_sublist _ _),hcl,fun r a c h1 h2=>?_,s.fdom,fun a ha z=>s.disj a ha (Ft z)⟩
 have hr:=(DH.mp h2).1
 have h1':cs0[r]?=some a:=by
  have h1:(cs0.take S'.length)[r]?=some a:=h1
  rwa [Gb hr] at h1
 have ck:=s.cell r a c h1' (by rw [Ed hr];exact h2)
 have cc:=hc c (Eg h2)
 have e:cs0=cs0.take S'.length++cs0.drop S'.length:=(EU _ _).symm
 cases c with
 | lst ds=>
  obtain⟨vs,q,r⟩:=ck
  have r':Reps K ⟨cs0.take S'.length++cs0.drop S'.length,fb⟩ H vs ds:=by rw [<- e];exact r
  exact⟨vs,q,r'.trunc (by rw [hcl];exact cc)⟩
 | dct ks ds=>
  obtain⟨vs,q,q2,r⟩:=ck
  have r':Reps K ⟨cs0.take S'.length++cs0.drop S'.length,fb⟩ H (vs.map (·.2)) ds:=by rw [<- e];exact r
  exact⟨vs,q,q2,r'.trunc (by rw [hcl];exact cc)⟩
theorem Post.trunc{S' g:aa}{d:D}{Q:VK}(post:Post K μ H S' d Q)(hd:eQ S'.length d=true)(hc:∀ c∈S',ln S'.length c=true)(hl:μ.cs.length<=S'.length):Post K μ H (S'++g) d Q:=fun v H' μ' e s r=>by
 obtain⟨cs,l,q,hcl,s'⟩:=s.trunc hc
 obtain⟨cs',fb'⟩:=μ'
 have q':cs'=cs++l:=q
 subst q'
 refine post v H' ⟨cs,fb'⟩ ⟨e.fb,?_,e.keep,fun a ha=>e.dom a (DV _ ha)⟩ s' (r.trunc (by rw [hcl];exact hd))
 obtain⟨l0,q0,h0⟩:=e.pre
 have q0:cs++l = μ.cs++l0:=q0
 have hle:μ.cs.length<=cs.length:=by rw [hcl];exact hl
 refine⟨cs.drop μ.cs.length,?_,fun a ha=>h0 a ?_⟩
 ·have t1:(cs++l).take μ.cs.length = μ.cs:=by rw [q0];simp
  rw [List.take_append_of_le_length hle] at t1
  show cs = μ.cs++cs.drop μ.cs.length
  conv=>lhs;rw [<- EU μ.cs.length cs,t1]
 ·have t2:(cs++l).drop μ.cs.length=l0:=by rw [q0];simp
  rw [<- t2,List.drop_append_of_le_length hle]
  exact DV _ ha
def Runs(m:MS)(env:ai)(S:aa)(d:D)(S':aa):Prop:=
 ∃ o g,m env S=some o/\(g=[]\/(eQ S'.length d=true/\(∀ c∈S',ln S'.length c=true)/\S.length<=S'.length))/\(o=.rt d (S'++g)\/(d=.non/\∃ env',o=.nx env' (S'++g)))
def Runs.ret{m:MS}{env:ai}{S S':aa}{d:D}(h:m env S=some (.rt d S')):Runs m env S d S':=⟨_,[],h,.inl rfl,.inl (by rw [EC])⟩
noncomputable def aF(N:List Str)(ds:List D):ai:=ds.map some++List.replicate (N.length - ds.length) none
def Af{P:Program}{w:World}{mg:Str->Option Value}{base:Heap}{k:Nat}{x qual:Str}{st:Stmt}{a:Addr}{fd:FuncData}{N ps:List Str}{f:List D->aa->Option (D×aa)}
  (F:L2.Fun K x qual st a fd) (Sc:ax N ps (af st))
  (hbody:∀ (cdv:Value) (A:Around) (outer:List PySem.Env) (s:Shared) (H:Hp) (E:XK),Room k (A.deeper (envOfC qual (af st) s.heap.objs.size a cdv)) ->
   ∃ m,lu (kf si P w K mg base N qual (af st) a cdv A outer s H E).nox (al st) m/\∀ ds S d S',ds.length=ps.length->(∀ c∈S,ln S.length c=true)->closDs S.length ds=true->f ds S=some (d,S')->Runs m (aF N ds) S d S') :
  FnOk P w K mg base si (k+1) a fd ps (uv K ps.length f):=by
 refine F.ok Sc (fun vs H Q E h=>?_) (fun cdv A outer s H vs Q E hr h=>?_)
 ·obtain⟨μ,S,ds,d,S',hS,hr,hn,hf,post⟩:=h
  rw [hr.length,hn]
 ·obtain⟨m,hm,run⟩:=hbody cdv A outer s H E hr
  refine⟨_,hm,?_⟩
  obtain⟨μ,S,ds,d,S',hS,hrp,hn,hf,post⟩:=h
  obtain⟨o,g,ho,hg,hend⟩:=run ds S d S' hn hS.closed (by rw [<- hS.len];exact hrp.closed) hf
  have post':Post K μ H (S'++g) d Q:=by
   rcases hg with rfl | ⟨c1,c2,c3⟩
   ·rw [EC];exact post
   ·exact post.trunc c1 c2 (by rw [hS.len];exact c3)
  have hEnv:EOk K μ H (L2.start N vs) (aF N ds):=by unfold L2.start aF;rw [hrp.length];exact EOk.start hrp
  rcases hend with rfl | ⟨rfl,env',rfl⟩
  ·exact⟨μ,S,_,_,hS,hEnv,ho,post'⟩
  ·exact⟨μ,S,_,_,hS,hEnv,ho,fun σ' H' μ' e s' _=>post' .non H' μ' e s' .non⟩
def Ag{P:Program}{w:World}{mg:Str->Option Value}{base:Heap}{k:Nat}{x qual:Str}{st:Stmt}{a:Addr}{fd:FuncData}{N ps:List Str}{f:List D->aa->Option (D×aa)}
  (F:L2.Fun K x qual st a fd) (Sc:ax N ps (af st)) (hmg:mg x=some (.ref a)) (hb:Binds K fd ps [])
  (hbody:∀ (cdv:Value) (A:Around) (outer:List PySem.Env) (s:Shared) (H:Hp) (E:XK),Room k (A.deeper (envOfC qual (af st) s.heap.objs.size a cdv)) ->
   ∃ m,lu (kf si P w K mg base N qual (af st) a cdv A outer s H E).nox (al st) m/\∀ ds S d S',ds.length=ps.length->(∀ c∈S,ln S.length c=true)->closDs S.length ds=true->f ds S=some (d,S')->Runs m (aF N ds) S d S') :
  Fn P w K mg base (k+1) x ps.length f:=⟨a,fd,ps,rfl,Af F Sc hbody,hmg,F.kp,hb⟩
end
section
variable{X:Cx}{K:W.Frag}{μ μ':Fp}{H H':Hp}{S:aa}
def PostN.ext{S':aa}{env':ai}{Q:L2.St->Hp->Prop}(e:Ext μ H μ' H')(p:PostN K μ H S' env' Q):PostN K μ' H' S' env' Q:=fun σ2 H2 μ2 e2 s r=>p σ2 H2 μ2 (e.trans e2) s r
theorem PostS.ext{o:il}{E:kj}(e:Ext μ H μ' H')(p:PostS K μ H o E):PostS K μ' H' o E:=by
 cases o with
 | nx env S=>exact PostN.ext e p
 | rt d S=>exact Post.ext e p
 | bk env S=>exact PostN.ext e p
 | ct env S=>exact PostN.ext e p
noncomputable def aO:MS:=fun env S=>some (.nx env S)
noncomputable def aA(a b:MS):MS:=fun env S=>(a env S).bind fun o=>match o with | .nx env' S'=>b env' S' | o=>some o
def yZ:lu X [] aO:=PSs.imp xL fun E σ H ⟨μ,S,env,o,hS,hE,hm,post⟩=>by cases hm;exact post σ H μ hS.ext hS hE
def xt{a b:MS}{E:kj}{σ:L2.St}(h:tMS K (aA a b) E σ H):tSeq (tMS K a) (tMS K b) E σ H:=by
 obtain⟨μ,S,env,o,hS,hE,hm,post⟩:=h
 obtain⟨o1,h1,hm⟩:=Dy.mp hm
 refine⟨μ,S,env,o1,hS,hE,h1,?_⟩
 cases o1 with
 | nx env' S'=>exact fun σ' H' μ' e s r=>⟨μ',S',env',o,s,r,hm,post.ext e⟩
 | rt d S'=>cases hm;exact post
 | bk env' S'=>cases hm;exact post
 | ct env' S'=>cases hm;exact post
def wH{st:Stmt}{rest:List Stmt}{a b:MS}(h1:DS X st a)(h2:lu X rest b):lu X (st::rest) (aA a b):=PSs.imp (nt h1 h2) fun _ _ _ h=>xt h
def yY{st:Stmt}{a:MS}(h1:DS X st a):lu X [st] a:=qK h1
variable{pos:Pos}{e c:Expr}{m:ME}{mt:MT}{a b:List Stmt}{ma mb:MS}
def zb:DS X (.Pass pos) aO:=PS.imp xN fun E σ H ⟨μ,S,env,o,hS,hE,hm,post⟩=>by cases hm;exact post σ H μ hS.ext hS hE
def wJ:DS X (.Break pos) (fun env S=>some (.bk env S)):=PS.imp uF fun E σ H ⟨μ,S,env,o,hS,hE,hm,post⟩=>by cases hm;exact post σ H μ hS.ext hS hE
def oM:DS X (.Continue pos) (fun env S=>some (.ct env S)):=PS.imp nv fun E σ H ⟨μ,S,env,o,hS,hE,hm,post⟩=>by cases hm;exact post σ H μ hS.ext hS hE
def CK{x j p}:DS X (.Expr (.Constant (.str x) j p) pos) aO:=PS.imp AS fun E σ H ⟨μ,S,env,o,hS,hE,hm,post⟩=>by cases hm;exact post σ H μ hS.ext hS hE
noncomputable def aZ(m:ME):MS:=fun env S=>(m env S).bind fun p=>some (.rt p.1 p.2)
def CH(he:DE X e m):DS X (.Return (some e) pos) (aZ m):=PS.imp (uD he) fun E σ H ⟨μ,S,env,o,hS,hE,hm,post⟩=>by
 obtain⟨⟨d,S1⟩,h1,hm⟩:=Dy.mp hm
 cases hm
 exact⟨μ,S,env,d,S1,hS,hE,h1,post⟩
def za:DS X (.Return none pos) (fun _ S=>some (.rt .non S)):=PS.imp xM fun E σ H ⟨μ,S,env,o,hS,hE,hm,post⟩=>by cases hm;exact Post.here post hS .non
noncomputable def ei(m:ME):MS:=fun env S=>(m env S).bind fun p=>some (.nx env p.2)
def ze(he:DE X e m)(hs:swapsWith e none pos.line X.env=pure false:=by rfl):DS X (.Expr e pos) (ei m):=PS.imp (xO he hs) fun E σ H ⟨μ,S,env,o,hS,hE,hm,post⟩=>by
 obtain⟨⟨d,S1⟩,h1,hm⟩:=Dy.mp hm
 cases hm
 exact⟨μ,S,env,d,S1,hS,hE,h1,fun v H' μ' ex s r=>post σ H' μ' ex s (hE.mono ex)⟩
noncomputable def cx(t:MT)(a b:MS):MS:=fun env S=>(t env S).bind fun p=>if p.1=true then a env p.2 else b env p.2
def ds_if(hc:DT X c mt)(ha:lu X a ma)(hb:lu X b mb):DS X (.If c a b pos) (cx mt ma mb):=PS.imp (ps_if hc ha hb) fun E σ H ⟨μ,S,env,o,hS,hE,hm,post⟩=>by
 obtain⟨⟨k,S1⟩,h1,hm⟩:=Dy.mp hm
 refine⟨μ,S,env,k,S1,hS,hE,h1,fun H1 μ1 e1 s1=>?_⟩
 cases k with
 | true=>rw [DU rfl] at hm ⊢;exact⟨μ1,S1,env,o,s1,hE.mono e1,hm,post.ext e1⟩
 | false=>rw [Eh DM] at hm ⊢;exact⟨μ1,S1,env,o,s1,hE.mono e1,hm,post.ext e1⟩
abbrev MG:=D->ai->aa->Option (ai×aa)
abbrev jK:=List D->ai->aa->Option (ai×aa)
inductive tMG(K:W.Frag)(g:MG)(v:V)(σ:L2.St)(H:Hp)(Q:L2.St->Hp->Prop):Prop
 | mk (μ:Fp) (S:aa) (env:ai) (d:D) (env':ai) (S':aa) (hS:SOk K μ S H) (hE:EOk K μ H σ env) (h1:Rep K μ H v d) (h:g d env S=some (env',S')) (post:PostN K μ H S' env' Q)
inductive tMGs(K:W.Frag)(g:jK)(vs:List V)(σ:L2.St)(H:Hp)(Q:L2.St->Hp->Prop):Prop
 | mk (μ:Fp) (S:aa) (env:ai) (ds:List D) (env':ai) (S':aa) (hS:SOk K μ S H) (hE:EOk K μ H σ env) (h1:Reps K μ H vs ds) (h:g ds env S=some (env',S')) (post:PostN K μ H S' env' Q)
def DG(X:Cx)(tg:Expr)(g:MG):Prop:=PG X tg (tMG X.K g)
def Dw(X:Cx)(tg:List Expr)(g:jK):Prop:=PGs X tg (tMGs X.K g)
def PG.imp{tg:Expr}{t t':TG}(h:PG X tg t)(i:∀ v σ H Q,t' v σ H Q->t v σ H Q):PG X tg t':=fun pins s σ H v u Q I r q=>h pins s σ H v u Q I r (i v σ H Q q)
def PGs.imp{tg:List Expr}{t t':As}(h:PGs X tg t)(i:∀ v σ H Q,t' v σ H Q->t v σ H Q):PGs X tg t':=fun pins s σ H v u Q I r q=>h pins s σ H v u Q I r (i v σ H Q q)
noncomputable def aq(i:Nat):MG:=fun d env S=>some (env.set i (some d),S)
def rX{i:Nat}{x:Str}(hN:X.N.Nodup)(hi:X.N[i]?=some x)(hx:xn X.env.scope x)(hf:X.fn x=true\/X.env.scope.names.lookup x=some .local:=by first | exact .inl rfl | exact .inr rfl | assumption):DG X (.Name x pos) (aq i):=
 PG.imp (xT hN hi hx hf) fun v σ H Q ⟨μ,S,env,d,env',S',hS,hE,hr,hm,post⟩=>by cases hm;exact post _ H μ hS.ext hS (hE.set hr i)
noncomputable def dO:jK:=fun ds env S=>match ds with | []=>some (env,S) | _=>none
noncomputable def bw(g:MG)(gs:jK):jK:=fun ds env S=>match ds with | d::r=>(g d env S).bind fun p=>gs r p.1 p.2 | []=>none
def zi:Dw X [] dO:=PGs.imp xS fun v σ H Q ⟨μ,S,env,ds,env',S',hS,hE,hr,hm,post⟩=>by
 cases hr with
 | nil=>cases hm;exact⟨rfl,post σ H μ hS.ext hS hE⟩
 | cons _ _=>cases hm
def wP{t:Expr}{ts:List Expr}{g:MG}{gs:jK}(h1:DG X t g)(h2:Dw X ts gs)(hs:(assignEach (t::ts) X.env).map (·.2)=assign t X.env::(assignEach ts X.env).map (·.2):=by rfl):Dw X (t::ts) (bw g gs):=
 PGs.imp (uH h1 h2 hs) fun v σ H Q ⟨μ,S,env,ds,env',S',hS,hE,hr,hm,post⟩=>by
  cases hr with
  | nil=>cases hm
  | @cons v d vs ds h t=>
   obtain⟨⟨env1,S1⟩,h1,hm⟩:=Dy.mp hm
   exact⟨v,vs,rfl,μ,S,env,d,env1,S1,hS,hE,h,h1,fun σ1 H1 μ1 e1 s1 r1=>⟨μ1,S1,env1,ds,env',S',s1,r1,t.mono e1,hm,post.ext e1⟩⟩
noncomputable def cb(n:Nat)(gs:jK):MG:=fun d env S=>match d with | .tup xs=>if xs.length=n then gs xs env S else none | _=>none
def CM{es:List Expr}{k n:Nat}{gs:jK}(hc:X.calm=true)(h:Dw X es gs)(hn:(assignEach es X.env).length=n:=by rfl)(hst:(assignEach es X.env).findIdx? (·.1)=none:=by rfl):DG X (.Tuple es k pos) (cb n gs):=
 PG.imp (AW hc h hn hst) fun v σ H Q ⟨μ,S,env,d,env',S',hS,hE,hr,hm,post⟩=>by
  cases d with
  | tup xs=>
   simp only [cb] at hm
   split at hm
   ·rename_i hl
    obtain⟨a,vs,rfl,q,r⟩:=hr.sqT
    exact⟨a,vs,rfl,q,by rw [r.length];exact hl,μ,S,env,xs,env',S',hS,hE,r,hm,post⟩
   ·cases hm
  | _=>cases hm
noncomputable def cN(o i:ME):MG:=fun d env S=>(o env S).bind fun p=>(i env p.2).bind fun q=>match p.1,q.1 with
 | .ref r,.int k=>match q.2[r]? with
  | some (.lst xs)=>(sQ xs.length k).bind fun j=>some (env,q.2.set r (.lst (xs.set j d)))
  | _=>none
 | _,_=>none
def CN{o i:Expr}{mo mi:ME}(ho:DE X o mo)(hi:DE X i mi)(ha:∀ v,assign (.Subscript o i pos) X.env v=(do
   let ov <- holding [v] (eval o X.env)
   let iv <- holding [v,ov] (eval i X.env)
   standAt pos
   holding [v,ov,iv] (setItem ov iv v)
   release [v,ov,iv] []):=by intro _;rfl):DG X (.Subscript o i pos) (cN mo mi):=
 PG.imp (AX ho hi uw ha) fun v σ H Q ⟨μ,S,env,d,env',S',hS,hE,hr,hm,post⟩=>by
  obtain⟨⟨x,S1⟩,h1,hm⟩:=Dy.mp hm
  obtain⟨⟨y,S2⟩,h2,hm⟩:=Dy.mp hm
  refine⟨μ,S,env,x,S1,hS,hE,h1,fun v1 H1 μ1 e1 s1 r1=>⟨μ1,S1,env,y,S2,s1,hE.mono e1,h2,fun v2 H2 μ2 e2 s2 r2=>?_⟩⟩
  cases x with
  | ref r=>
   cases y with
   | int k=>
    dsimp only at hm
    cases q:S2[r]? with
    | none=>rw [q] at hm;cases hm
    | some c=>
     rw [q] at hm
     cases c with
     | lst xs=>
      obtain⟨j,h3,hm⟩:=Dy.mp hm
      cases hm
      have r1':=r1.mono e2
      cases r1' with
      | @ref a _ h'=>
       obtain⟨vs,hv,rv⟩:=s2.cell r a _ h' q
       have rd:=(hr.mono e1).mono e2
       obtain⟨e3,s3⟩:=s2.write h' hv (rv.set rd j)
       exact⟨a,vs,k,j,rfl,r2.int_inv,hv,by rw [rv.length];exact h3,post σ _ μ2 ((e1.trans e2).trans e3) s3 (hE.mono ((e1.trans e2).trans e3))⟩
     | dct ks xs=>cases hm
   | _=>cases hm
  | _=>cases hm
noncomputable def aw(m:ME)(g:MG):MS:=fun env S=>(m env S).bind fun p=>(g p.1 env p.2).bind fun q=>some (.nx q.1 q.2)
def xw{g:MG}{E:kj}{σ:L2.St}(h:tMS K (aw m g) E σ H):um (tM K m) (tMG K g) E σ H:=by
 obtain⟨μ,S,env,o,hS,hE,hm,post⟩:=h
 obtain⟨⟨d,S1⟩,h1,hm⟩:=Dy.mp hm
 obtain⟨⟨env2,S2⟩,h2,hm⟩:=Dy.mp hm
 cases hm
 exact⟨μ,S,env,d,S1,hS,hE,h1,fun v H1 μ1 e1 s1 r1=>⟨μ1,S1,env,d,env2,S2,s1,hE.mono e1,r1,h2,PostN.ext e1 post⟩⟩
def wL{tg:Expr}{g:MG}(he:DE X e m)(hg:DG X tg g)(hs:swapsWithSole [tg] e pos.line X.env=pure false:=by rfl)(hw:swappedStores [tg] e X.env=pure none:=by rfl)
  (h1:(assignEach [tg] X.env).map (·.2)=[assign tg X.env]:=by rfl):DS X (.Assign [tg] e pos) (aw m g):=PS.imp (AT he hg hs hw h1) fun _ _ _ h=>xw h
def qu{i:Nat}{x:Str}{pos':Pos}(hN:X.N.Nodup)(hi:X.N[i]?=some x)(hx:xn X.env.scope x)(he:DE X e m)(hs:swapsWith e (some (.Name x pos')) pos.line X.env=pure false:=by rfl)(hf:X.fn x=true\/X.env.scope.names.lookup x=some .local:=by first | exact .inl rfl | exact .inr rfl | assumption) :
  DS X (.Assign [.Name x pos'] e pos) (aw m (aq i)):=PS.imp (uC hN hi hx he hs hf) fun E σ H h=>by
 obtain⟨μ,S,env,o,hS,hE,hm,post⟩:=h
 obtain⟨⟨d,S1⟩,h1,hm⟩:=Dy.mp hm
 cases hm
 exact⟨μ,S,env,d,S1,hS,hE,h1,fun v H1 μ1 e1 s1 r1=>post _ H1 μ1 e1 s1 ((hE.mono e1).set r1 i)⟩
structure ExtP(μ:Fp)(H:Hp)(μ':Fp)(H':Hp):Prop where
 fb:∃ l,μ'.fb=l++μ.fb/\∀ a∈l,H a=none
 pre:∃ l,μ'.cs = μ.cs++l/\∀ a∈l,H a=none
 keep:∀ a o,a ∉ μ.cs->H a=some o->H' a=some o
 dom:∀ a ∈ μ'.cs,H' a≠none
def Ext.toP(e:Ext μ H μ' H'):ExtP μ H μ' H':=⟨⟨[],by rw [e.fb];rfl,fun _ z=>by simp at z⟩,e.pre,e.keep,e.dom⟩
def ExtP.stays(e:ExtP μ H μ' H'){a:Addr}{o:HO}(h:H a=some o)(n:μ.no a):H' a=some o/\μ'.no a:=by
 refine⟨e.keep a o n.1 h,fun z=>?_,fun z=>?_⟩
 ·obtain⟨l,q,hl⟩:=e.pre
  rw [q] at z
  rcases DX.mp z with z | z
  ·exact n.1 z
  ·rw [hl a z] at h;cases h
 ·obtain⟨l,q,hl⟩:=e.fb
  rw [q] at z
  rcases DX.mp z with z | z
  ·rw [hl a z] at h;cases h
  ·exact n.2 z
def ExtP.then{μ'':Fp}{H'':Hp}(e:ExtP μ H μ' H')(f:Ext μ' H' μ'' H''):ExtP μ H μ'' H'':=by
 obtain⟨l,q,hl⟩:=e.pre
 obtain⟨l',q',hl'⟩:=f.pre
 refine⟨by rw [f.fb];exact e.fb,⟨l++l',by rw [q',q,ED],fun a ha=>?_⟩,fun a o n h=>?_,f.dom⟩
 ·rcases DX.mp ha with ha | ha
  ·exact hl a ha
  ·have h1:=hl' a ha
   cases q2:H a with
   | none=>rfl
   | some o=>
    by_cases hm:a ∈ μ.cs
    ·exact absurd h1 (e.dom a (by rw [q];exact DV _ hm))
    ·rw [e.keep a o hm q2] at h1;cases h1
 ·have h1:=e.keep a o n h
  refine f.keep a o (fun z=>?_) h1
  rw [q] at z
  rcases DX.mp z with z | z
  ·exact n z
  ·rw [hl a z] at h;cases h
def ExtP.chg{p:Addr}{o:HO}(e:ExtP μ H μ' H')(hp:H p=none):ExtP μ H μ' (upd H' p o):=
 ⟨e.fb,e.pre,fun a o' n h=>by rw [aj (aI h hp)];exact e.keep a o' n h,fun a ha=>by
  by_cases z:a=p
  ·subst z;rw [am];simp
  ·rw [aj z];exact e.dom a ha⟩
def ExtP.ix(e:ExtP μ H μ' H'){r:Nat}{a:Addr}(h:μ.cs[r]?=some a):μ'.cs[r]?=some a:=by
 obtain⟨l,q,_⟩:=e.pre
 exact mQ q h
def Rep.monoP(e:ExtP μ H μ' H'){v:V}{d:D}(r:Rep K μ H v d):Rep K μ' H' v d:=r.imp e.stays e.ix
def xm(K:W.Frag)(μ:Fp)(H:Hp)(J:It)(xs:List D):Prop:=
 ∀ μ' H' S',ExtP μ H μ' H'->SOk K μ' S' H'->∀ i,(∀ d,xs[i]?=some d->J.go i H'/\∀ x H2,J.yld i H' x H2->Ext μ' H' μ' H2/\SOk K μ' S' H2/\Rep K μ' H2 x d)/\(xs.length<=i->J.stop i H')
inductive iM(K:W.Frag)(m:MA)(σ:L2.St)(H:Hp)(R:It->Hp->Prop):Prop
 | mk (μ:Fp) (S:aa) (env:ai) (xs:List D) (S':aa) (hS:SOk K μ S H) (hE:EOk K μ H σ env) (h:m env S=some (xs,S')) (post:∀ J H' μ',Ext μ H μ' H'->SOk K μ' S' H'->xm K μ' H' J xs->R J H')
def DI(X:Cx)(tg iter:Expr)(m:MA):Prop:=PI X tg iter (iM X.K m)
def PI.imp{tg iter:Expr}{t t':TI}(h:PI X tg iter t)(i:∀ σ H R,t' σ H R->t σ H R):PI X tg iter t':=fun pins s σ H R I q=>h pins s σ H R I (i σ H R q)
def kY{v:V}{a:Addr}{d:D}{xs:List D}(hd:d=.lst xs\/d=.rol xs)(r:Rep K μ H v d)(hv:v=.ref a):xm K μ H (Itl K a) xs:=fun μ' H' S' e s i=>by
 have r':=r.monoP e
 obtain⟨vs,q,rs⟩:∃ vs,fK K H' a vs/\Reps K μ' H' vs xs:=by
  subst hv
  rcases hd with rfl | rfl
  ·obtain⟨a',vs,ea,q,_,rs⟩:=r'.sqL;cases ea;exact⟨vs,.inl (.inl q),rs⟩
  ·obtain⟨a',vs,ea,q,rs⟩:=r'.sqR;cases ea;exact⟨vs,q,rs⟩
 refine⟨fun d hd=>?_,fun hl=>⟨vs,q,by rw [rs.length];exact hl⟩⟩
 obtain⟨v,hv,rv⟩:=rs.get hd
 refine⟨⟨vs,v,q,hv⟩,fun x H2 ⟨e2,hy⟩=>?_⟩
 subst e2
 have:=hy vs q
 rw [hv] at this;cases this
 exact⟨s.ext,s,rv⟩
def vO{a:Addr}{xs:List D}(r:Rep K μ H (.ref a) (.tup xs)):xm K μ H (Itt K a) xs:=fun μ' H' S' e s i=>by
 obtain⟨a',vs,ea,q,rs⟩:=(r.monoP e).sqT
 cases ea
 refine⟨fun d hd=>?_,fun hl=>⟨vs,q,by rw [rs.length];exact hl⟩⟩
 obtain⟨v,hv,rv⟩:=rs.get hd
 refine⟨⟨vs,v,q,hv⟩,fun x H2 ⟨e2,hy⟩=>?_⟩
 subst e2
 have:=hy vs q
 rw [hv] at this;cases this
 exact⟨s.ext,s,rv⟩
variable{tg iter:Expr}
noncomputable def aW(lo:Int)(n:Nat):List D:=(List.range n).map fun(i:Nat)=>D.int (lo+(i:Int))
def iL(lo:Int)(n i:Nat)(d:D)(h:(aW lo n)[i]?=some d):i<n/\d=.int (lo+(i:Int)):=by
 unfold aW at h
 rw [FF] at h
 cases q:(List.range n)[i]? with
 | none=>rw [q] at h;cases h
 | some j=>
  rw [q] at h;cases h
  obtain⟨h1,h2⟩:=DH.mp q
  simp at h1 h2
  exact⟨h1,by rw [h2]⟩
def jr(lo:Int)(n:Nat):xm K μ H (Itr lo n) (aW lo n):=fun μ' H' S' e s i=>by
 refine⟨fun d hd=>?_,fun hl=>?_⟩
 ·obtain⟨h1,rfl⟩:=iL lo n i d hd
  refine⟨h1,fun x H2 ⟨e2,hy⟩=>?_⟩
  subst e2 hy
  exact⟨s.ext,s,.int _⟩
 ·have:(aW lo n).length=n:=by simp [aW]
  rw [this] at hl;exact hl
noncomputable def aS(ms:MA):MA:=fun env S=>(ms env S).bind fun p=>match p.1 with | [.int j]=>if -(2 ^ 62)<=j/\j<2 ^ 62 then some (aW 0 j.toNat,p.2) else none | _=>none
noncomputable def ca(ms:MA):MA:=fun env S=>(ms env S).bind fun p=>match p.1 with | [.int i,.int j]=>if -(2 ^ 62)<=i/\i<2 ^ 62/\-(2 ^ 62)<=j/\j<2 ^ 62 then some (aW i (j - i).toNat,p.2) else none | _=>none
def tG{a:Expr}{ms:MA}{p:Pos}(hm:X.mg "range" = none)(ha:DA X [a] ms)(hg:Gl X "range":=by rfl)(hs:starEach [a] X.env=[(false,eval a X.env)]:=by rfl):DI X tg (.Call (.Name "range" p) [a] [] pos) (aS ms):=
 PI.imp (sA hg hm ha hs) fun σ H R ⟨μ,S,env,xs,S',hS,hE,hm,post⟩=>by
  obtain⟨⟨ds,S1⟩,h1,hm⟩:=Dy.mp hm
  refine⟨μ,S,env,ds,S1,hS,hE,h1,fun vs H1 μ1 e1 s1 r1=>?_⟩
  dsimp only at hm
  split at hm
  ·split at hm
   ·rename_i hb
    cases hm
    obtain⟨v,rfl,r⟩:=r1.one
    exact⟨_,by rw [r.int_inv],hb.1,hb.2,post _ H1 μ1 e1 s1 (jr 0 _)⟩
   ·cases hm
  ·cases hm
def tF{a b:Expr}{ms:MA}{p:Pos}(hm:X.mg "range" = none)(ha:DA X [a,b] ms)(hg:Gl X "range":=by rfl)(hs:starEach [a,b] X.env=[(false,eval a X.env),(false,eval b X.env)]:=by rfl)(hs2:starEach [b] X.env=[(false,eval b X.env)]:=by rfl):DI X tg (.Call (.Name "range" p) [a,b] [] pos) (ca ms):=
 PI.imp (sy hg hm ha hs hs2) fun σ H R ⟨μ,S,env,xs,S',hS,hE,hm,post⟩=>by
  obtain⟨⟨ds,S1⟩,h1,hm⟩:=Dy.mp hm
  refine⟨μ,S,env,ds,S1,hS,hE,h1,fun vs H1 μ1 e1 s1 r1=>?_⟩
  dsimp only at hm
  split at hm
  ·split at hm
   ·rename_i hb
    cases hm
    obtain⟨v,w,rfl,r,r'⟩:=r1.two
    exact⟨_,_,by rw [r.int_inv,r'.int_inv],hb,post _ H1 μ1 e1 s1 (jr _ _)⟩
   ·cases hm
  ·cases hm
noncomputable def bd(g:MG)(body:MS):List D->ai->aa->Option il
 | [],env,S=>some (.nx env S)
 | d::ds,env,S=>(g d env S).bind fun p=>(body p.1 p.2).bind fun o=>match o with
  | .nx e s=>bd g body ds e s
  | .ct e s=>bd g body ds e s
  | .bk e s=>some (.nx e s)
  | .rt d s=>some (.rt d s)
noncomputable def em(mi:MA)(g:MG)(body:MS):MS:=fun env S=>(mi env S).bind fun p=>bd g body p.1 env p.2
def wI{body:List Stmt}{mi:MA}{g:MG}{mb:MS}(hp:PassesOwn (model X.prog X.w) X.A X.env X.xe)(hc:X.calm=true)(hi:DI X tg iter mi)(hg:DG X tg g)(hb:lu X body mb)
  (hs:∀ x,foldedSetIterable iter X.env x=pure x:=by intro _;rfl):DS X (.For tg iter body [] pos) (em mi g mb):=PS.imp (uE hp hc hi hg hb hs) fun E σ H ⟨μ,S,env,o,hS,hE,hm,post⟩=>by
 obtain⟨⟨xs,S1⟩,h1,hm⟩:=Dy.mp hm
 refine⟨μ,S,env,xs,S1,hS,hE,h1,fun J H1 μ1 e1 s1 it=>?_⟩
 refine⟨fun i n σ H=>n=xs.length - i/\i<=xs.length/\∃ μ' S' env' o',Ext μ1 H1 μ' H/\SOk X.K μ' S' H/\EOk X.K μ' H σ env'/\bd g mb (xs.drop i) env' S'=some o'/\PostS X.K μ' H o' E,
  ⟨xs.length,by simp,Fu _,μ1,S1,env,o,s1.ext,s1,hE.mono e1,by rw [List.drop_zero];exact hm,post.ext e1⟩,?_⟩
 rintro i n σ' H' ⟨rfl,hi,μ',S',env',o',e',s',r',hl,post'⟩
 have iti:=it μ' H' S' e'.toP s' i
 by_cases hlt:i<xs.length
 ·refine .inr ⟨(iti.1 xs[i] (Eb hlt)).1,fun σ2 H2=>∃ μ2 S2 env2 o2,Ext μ1 H1 μ2 H2/\SOk X.K μ2 S2 H2/\EOk X.K μ2 H2 σ2 env2/\bd g mb (xs.drop (i+1)) env2 S2=some o2/\PostS X.K μ2 H2 o2 E,
   fun σ2 H2 ⟨μ2,S2,env2,o2,q1,q2,q3,q4,q5⟩=>⟨xs.length - (i+1),by omega,rfl,hlt,μ2,S2,env2,o2,q1,q2,q3,q4,q5⟩,fun x H2 y=>?_⟩
  obtain⟨e2,s2,rx⟩:=(iti.1 xs[i] (Eb hlt)).2 x H2 y
  rw [FW hlt] at hl
  obtain⟨⟨env3,S3⟩,h3,hl⟩:=Dy.mp hl
  obtain⟨o4,h4,hl⟩:=Dy.mp hl
  refine⟨μ',S',env',xs[i],env3,S3,s2,r'.mono e2,rx,h3,fun σ3 H3 μ3 e3 s3 r3=>⟨μ3,S3,env3,o4,s3,r3,h4,?_⟩⟩
  have eT:Ext μ1 H1 μ3 H3:=(e'.trans e2).trans e3
  have pT:PostS X.K μ3 H3 o' E:=(post'.ext e2).ext e3
  cases o4 with
  | nx e5 s5=>exact fun σ6 H6 μ6 e6 s6 r6=>⟨μ6,s5,e5,o',eT.trans e6,s6,r6,hl,pT.ext e6⟩
  | ct e5 s5=>exact fun σ6 H6 μ6 e6 s6 r6=>⟨μ6,s5,e5,o',eT.trans e6,s6,r6,hl,pT.ext e6⟩
  | bk e5 s5=>cases hl;exact pT
  | rt d5 s5=>cases hl;exact pT
 ·have e:i=xs.length:=by omega
  subst e
  refine .inl ⟨iti.2 (DK _),?_⟩
  rw [List.drop_length] at hl
  cases hl
  exact post' σ' H' μ' s'.ext s' r'
noncomputable def xb(cap:List (Option Nat))(env:ai):ai:=cap.map fun o=>o.bind fun i=>(env[i]?).join
def At(X:Cx)(ifs:List Expr)(m:MT):Prop:=zI X ifs (ua X.K m)
def yW:At X [] (fun _ S=>some (true,S)):=fun pins s σ H Q I ⟨μ,S,env,b,S',hS,hE,hm,post⟩=>by cases hm;exact xJ pins s σ H Q I (post H μ hS.ext hS)
def yV{c:Expr}{t:MT}(h:DT X c t):At X [c] t:=xI h
noncomputable def cI(g:MG)(t:MT)(e:ME):List D->ai->aa->Option (List D×aa)
 | [],_,S=>some ([],S)
 | d::ds,env,S=>(g d env S).bind fun p=>(t p.1 p.2).bind fun b=>if b.1=true then (e p.1 b.2).bind fun q=>(cI g t e ds p.1 q.2).bind fun r=>some (q.1::r.1,r.2) else cI g t e ds p.1 b.2
noncomputable def cC(mi:MA)(g:MG)(t:MT)(e:ME)(cap:List (Option Nat)):ME:=fun env S=>(mi env S).bind fun p=>if p.1.length<=sizeLine then (cI g t e p.1 (xb cap env) p.2).bind fun q=>some (.lst q.1,q.2) else none
def mY{mi:MA}{g:MG}{t:MT}{e:ME}{cap:List (Option Nat)}{σ:L2.St}{Q:VK}(h:tM K (cC mi g t e cap) σ H Q):uk (iM K mi) (tMG K g) (ua K t) (tM K e) cap σ H Q:=by
 obtain⟨μ,S,env,d,S',hS,hE,hm,post⟩:=h
 obtain⟨⟨xs,S1⟩,h1,hm⟩:=Dy.mp hm
 dsimp only at hm
 split at hm
 case isFalse=>cases hm
 rename_i hsz
 obtain⟨⟨ys,S2⟩,h2,hm⟩:=Dy.mp hm
 cases hm
 refine⟨μ,S,env,xs,S1,hS,hE,h1,fun J H1 μ1 e1 s1 it p hp=>?_⟩
 have hpn:=s1.notMem hp
 refine⟨fun i n σ' H'=>n=xs.length - i/\i<=xs.length/\∃ (cs:List Addr) (S':aa) (env':ai) (vs:List V) (zs rest:List D),ExtP μ1 H1 ⟨cs,p::μ1.fb⟩ H'/\SOk K ⟨cs,p::μ1.fb⟩ S' H'/\EOk K ⟨cs,p::μ1.fb⟩ H' σ' env'/\H' p=some (.lst vs) /\
   Reps K ⟨cs,p::μ1.fb⟩ H' vs zs/\cI g t e (xs.drop i) env' S'=some (rest,S2)/\ys=zs++rest/\vs.length<=i,⟨xs.length,by simp,Fu _,μ1.cs,S1,xb cap env,[],[],ys,?_,s1.more hp,?_,am,.nil,by rw [List.drop_zero];exact h2,rfl,DK _⟩,?_⟩
 ·exact⟨⟨[p],rfl,fun a z=>by rw [Ei.mp z];exact hp⟩,⟨[],by simp,fun _ z=>by simp at z⟩,fun a o' n h=>by rw [aj (aI h hp)];exact h,fun a ha=>by
   by_cases z:a=p
   ·subst z;rw [am];simp
   ·rw [aj z];exact s1.dom a ha⟩
 ·exact((hE.mono e1).block cap).more hp
 rintro i n σ' H' ⟨rfl,hi,cs,S',env',vs,zs,rest,eP,s',r',hpv,rz,hl,rfl,hvl⟩
 have iti:=it _ H' S' eP s' i
 by_cases hlt:i<xs.length
 ·refine .inr ⟨(iti.1 xs[i] (Eb hlt)).1,fun x H2 y=>?_⟩
  obtain⟨e2,s2,rx⟩:=(iti.1 xs[i] (Eb hlt)).2 x H2 y
  rw [FW hlt] at hl
  obtain⟨⟨env3,S3⟩,h3,hl⟩:=Dy.mp hl
  obtain⟨⟨b,S4⟩,h4,hl⟩:=Dy.mp hl
  refine⟨_,S',env',xs[i],env3,S3,s2,r'.mono e2,rx,h3,fun σ3 H3 μ3 e3 s3 r3=>⟨μ3,S3,env3,b,S4,s3,r3,h4,fun H4 μ4 e4 s4=>?_⟩⟩
  have eA:=(e2.trans e3).trans e4
  have pcs:p ∉ cs:=fun z=>s'.disj p DF z
  cases b with
  | false=>
   rw [Eh DM] at hl
   dsimp only
   rw [Eh DM]
   obtain⟨cs4,fb4⟩:=μ4
   have hfb:fb4=p::μ1.fb:=eA.fb
   subst hfb
   exact⟨xs.length - (i+1),by omega,rfl,hlt,cs4,S4,env3,vs,zs,rest,eP.then eA,s4,r3.mono e4,(eA.keeps hpv pcs).1,rz.mono eA,hl,rfl,by omega⟩
  | true=>
   rw [DU rfl] at hl
   dsimp only
   rw [DU rfl]
   obtain⟨⟨dv,S5⟩,h5,hl⟩:=Dy.mp hl
   obtain⟨⟨rs,S6⟩,h6,hl⟩:=Dy.mp hl
   cases hl
   refine⟨μ4,S4,env3,dv,S5,s4,r3.mono e4,h5,fun v H5 μ5 e5 s5 r5=>?_⟩
   have eB:=eA.trans e5
   obtain⟨cs5,fb5⟩:=μ5
   have hfb:fb5=p::μ1.fb:=eB.fb
   subst hfb
   refine⟨vs,(eB.keeps hpv pcs).1,by omega,xs.length - (i+1),by omega,rfl,hlt,cs5,S5,env3,vs++[v],zs++[dv],rs,(eP.then eB).chg hp,s5.chg DF,((r3.mono e4).mono e5).chg DF,am,Reps.chg DF ((rz.mono eB).append (.cons r5 .nil)),h6,by simp,by rw [Eu,Gr];omega⟩
 ·have e:i=xs.length:=by omega
  subst e
  refine .inl ⟨iti.2 (DK _),?_⟩
  rw [List.drop_length] at hl
  cases hl
  have eF:Ext μ1 H1 ⟨cs,μ1.fb⟩ H':=⟨rfl,eP.pre,eP.keep,eP.dom⟩
  dsimp only at post
  rw [EC] at post
  exact post _ H' ⟨cs,μ1.fb⟩ (e1.trans eF) s'.less (.lst hpv ⟨fun z=>s'.disj p DF z,hpn.2⟩ rz.less)
def zq{elt:Expr}{ifs:List Expr}{scope:Scope}{N':List Str}{cap:List (Option Nat)}{mi:MA}{g:MG}{t:MT}{me:ME}
  (hc:X.calm=true) (B:BlockOk X N' scope cap) (hi:DI X tg iter mi) (hg:∀ C s H fp,DG (gp X N' scope C s H fp) tg g) (ht:∀ C s H fp,At (gp X N' scope C s H fp) ifs t) (he:∀ C s H fp,DE (gp X N' scope C s H fp) elt me)
  (hs:∀ x,foldedSetIterable iter X.env x=pure x:=by intro _;rfl):DE X (.ListComp elt [⟨tg,iter,ifs,0⟩] scope pos) (cC mi g t me cap):=
 PE.imp (xV (g:=tMG X.K g) (tt:=ua X.K t) (te:=tM X.K me) hc B hi hg ht he hs) fun _ _ _ h=>mY h
def qt{elt:Expr}{ifs:List Expr}{scope:Scope}{spos py:Pos}{N':List Str}{cap:List (Option Nat)}{mi:MA}{g:MG}{t:MT}{me:ME}{y:Str}{i:Nat}
  (hN:X.N.Nodup) (hy:X.N[i]?=some y) (hx:xn X.env.scope y)
  (hc:X.calm=true) (B:BlockOk X N' scope cap) (hi:DI X tg iter mi) (hg:∀ C s H fp,DG (gp X N' scope C s H fp) tg g) (ht:∀ C s H fp,At (gp X N' scope C s H fp) ifs t) (he:∀ C s H fp,DE (gp X N' scope C s H fp) elt me)
  (hsw:swapsWith (.ListComp elt [⟨tg,iter,ifs,0⟩] scope pos) (some (.Name y py)) spos.line X.env=pure true:=by rfl)
  (hs:∀ x,foldedSetIterable iter X.env x=pure x:=by intro _;rfl) (hf:X.fn y=true\/X.env.scope.names.lookup y=some .local:=by first | exact .inl rfl | exact .inr rfl | assumption) :
  DS X (.Assign [.Name y py] (.ListComp elt [⟨tg,iter,ifs,0⟩] scope pos) spos) (aw (cC mi g t me cap) (aq i)):=
 PS.imp (pA (g:=tMG X.K g) (tt:=ua X.K t) (te:=tM X.K me) hN hy hx hc B hi hg ht he hsw hs hf) fun E σ H h=>by
  obtain⟨μ,S,env,o,hS,hE,hm,post⟩:=h
  obtain⟨⟨d,S1⟩,h1,hm⟩:=Dy.mp hm
  cases hm
  exact mY ⟨μ,S,env,d,S1,hS,hE,h1,fun v H1 μ1 e1 s1 r1=>post _ H1 μ1 e1 s1 ((hE.mono e1).set r1 i)⟩
end
section
variable{X:Cx}{K:W.Frag}{μ μ':Fp}{H H':Hp}{S:aa}{pos p2:Pos}{tg iter:Expr}{m:ME}
noncomputable def kg(N N':List Str)(kX kB:Str->Option NameKind):List (Option Nat)->List Str->Bool
 | [],[]=>true
 | none::r,_::s=>kg N N' kX kB r s
 | some i::r,y::s=>N[i]? == some y&&(kX y == some .cell||kX y == some .free)&&(kB y == some .cell||kB y == some .free)&&kg N N' kX kB r s
 | _,_=>false
theorem mK{N N':List Str}{kX kB:Str->Option NameKind}:∀ {cap:List (Option Nat)} {ys:List Str},kg N N' kX kB cap ys=true->cap.length=ys.length/\∀ (j i:Nat),cap[j]?=some (some i)->∃ y,ys[j]?=some y/\N[i]?=some y/\(kX y=some .cell\/kX y=some .free)/\(kB y=some .cell\/kB y=some .free)
 | [],[],_=>⟨rfl,fun j i e=>by simp at e⟩
 | none::r,y::s,h=>by
  obtain⟨h1,h2⟩:=mK (cap:=r) (ys:=s) h
  refine⟨by simp [h1],fun j i e=>?_⟩
  cases j with
  | zero=>simp at e
  | succ j=>simpa using h2 j i (by simpa using e)
 | some k::r,y::s,h=>by
  rw [kg,Dz,Dz,Dz,Fs,Fs] at h
  obtain⟨h1,h2⟩:=mK (cap:=r) (ys:=s) h.2
  refine⟨by simp [h1],fun j i e=>?_⟩
  cases j with
  | zero=>
   simp at e;subst e
   refine⟨y,rfl,by simpa using h.1.1.1,?_,?_⟩
   ·exact h.1.1.2.imp (fun z=>by simpa using z) fun z=>by simpa using z
   ·exact h.1.2.imp (fun z=>by simpa using z) fun z=>by simpa using z
  | succ j=>simpa using h2 j i (by simpa using e)
 | [],_::_,h=>by simp [kg] at h
 | none::_,[],h=>by simp [kg] at h
 | some _::_,[],h=>by simp [kg] at h
def blk{N':List Str}{scope:Scope}{cap:List (Option Nat)}(nd:N'.Nodup)(k:scope.kind=.function:=by rfl)(nc:(scope.names.all fun x=>x.2 != .cell)=true:=by rfl)(nm:(scope.names.all fun x=>x.2 != .local||scope.names.lookup x.1 == some .local)=true:=by rfl)
  (fr:(scope.names.all fun x=>x.2 != .free||X.env.kindOf x.1 == some .cell||X.env.kindOf x.1 == some .free)=true:=by rfl)
  (cp:kg X.N N' X.env.kindOf (fun y=>(relabel scope X.env).names.lookup y) cap N'=true:=by rfl):BlockOk X N' scope cap:=by
 obtain⟨h1,h2⟩:=mK cp
 refine⟨k,fun x hx=>?_,fun x hx hl=>?_,fun x hx hf=>?_,nd,h1,fun j i e=>?_⟩
 ·have:=Ec.mp nc x hx
  simpa using this
 ·have:=Ec.mp nm x hx
  simpa [hl] using this
 ·have:=Ec.mp fr x hx
  simpa [hf] using this
 ·obtain⟨y,a,b,c,d⟩:=h2 j i e
  exact⟨y,a,b,.inr c,c,d⟩
def AV{l:Expr}{tl:TE}(hl:PE X l tl):PI X tg l (fun σ H R=>tl σ H fun x H1=>∃ a,x=.ref a/\(((∃ xs,fK X.K H1 a xs)/\R (Itl X.K a) H1)\/((∃ xs,hJ X.K H1 a xs)/\R (Itt X.K a) H1))):=by
 intro pins s σ H R I h
 refine bj (hl pins s σ H _ I h) fun v s1 ⟨x,H1,I1,r1,q1⟩=>?_
 obtain⟨a,e,⟨⟨xs,hq⟩,q⟩ | ⟨⟨xs,hq⟩,q⟩⟩:=q1
 ·subst e
  cases r1
  obtain⟨its,rv,p,hz⟩:=I1.list hq
  refine FD p.isList ?_
  refine⟨s1.heap.objs.size,[s1.heap.objs.size],_,_,H1,rfl,I1.kept (t':=s1.toks) fun b o e=>DJ _ e,kr a _,⟨_,DY _ rfl,rfl,rfl⟩,fun b hb=>?_,q⟩
  have e:b=s1.heap.objs.size:=by simpa using hb
  subst e
  exact I1.fpOk (DK _) (I1.hok.fresh (DK _))
 ·subst e
  cases r1
  obtain⟨its,rv,p,hz⟩:=I1.tuple hq
  refine wpAny_pyIter_tuple (show s1.heap.IsTuple a its.toArray from p) ?_
  refine⟨s1.heap.objs.size,[s1.heap.objs.size],_,_,H1,rfl,I1.kept (t':=s1.toks) fun b o e=>DJ _ e,pg a _,⟨_,DY _ rfl,rfl,rfl⟩,fun b hb=>?_,q⟩
  have e:b=s1.heap.objs.size:=by simpa using hb
  subst e
  exact I1.fpOk (DK _) (I1.hok.fresh (DK _))
noncomputable def fU(m:ME):MA:=fun env S=>(m env S).bind fun p=>match p.1 with | .lst xs=>some (xs,p.2) | .rol xs=>some (xs,p.2) | .tup xs=>some (xs,p.2) | _=>none
def qv(h:DE X iter m):DI X tg iter (fU m):=PI.imp (AV h) fun σ H R ⟨μ,S,env,xs,S',hS,hE,hm,post⟩=>by
 obtain⟨⟨d,S1⟩,h1,hm⟩:=Dy.mp hm
 refine⟨μ,S,env,d,S1,hS,hE,h1,fun v H1 μ1 e1 s1 r1=>?_⟩
 cases d with
 | lst ys=>
  cases hm
  have r1':=r1
  obtain⟨a,vs,rfl,q,_,rs⟩:=r1.sqL
  exact⟨a,rfl,.inl ⟨⟨vs,.inl (.inl q)⟩,post _ H1 μ1 e1 s1 (kY (.inl rfl) r1' rfl)⟩⟩
 | rol ys=>
  cases hm
  have r1':=r1
  obtain⟨a,vs,rfl,q,rs⟩:=r1.sqR
  exact⟨a,rfl,.inl ⟨⟨vs,q⟩,post _ H1 μ1 e1 s1 (kY (.inr rfl) r1' rfl)⟩⟩
 | tup ys=>
  cases hm
  have r1':=r1
  obtain⟨a,vs,rfl,q,rs⟩:=r1.sqT
  exact⟨a,rfl,.inr ⟨⟨vs,q⟩,post _ H1 μ1 e1 s1 (vO r1')⟩⟩
 | _=>cases hm
end
noncomputable def aQ(N:List Str)(m:MS)(n:Nat):List D->aa->Option (D×aa):=fun ds S=>if ds.length=n then (m (aF N ds) S).bind fun o=>match o with | .rt d S'=>some (d,S') | .nx _ S'=>some (.non,S') | _=>none else none
def kD{N:List Str}{m:MS}{n:Nat}{ds:List D}{S S':aa}{d:D}(h:aQ N m n ds S=some (d,S')):Runs m (aF N ds) S d S':=by
 unfold aQ at h
 split at h
 ·obtain⟨o,h1,h⟩:=Dy.mp h
  cases o with
  | rt d' S2=>cases h;exact .ret h1
  | nx e S2=>cases h;exact⟨_,[],h1,.inl rfl,.inr ⟨rfl,e,by rw [EC]⟩⟩
  | bk _ _=>cases h
  | ct _ _=>cases h
 ·cases h
structure bG(K:W.Frag)(mg:Str->Option Value)(x:Str)(st:Stmt):Prop where
 ex:∃ (a:Addr) (fd:FuncData),L2.Fun K x x st a fd/\mg x=some (.ref a)
def mU(x:Str)(st:Stmt)(ps:List Str):Prop:=∀ (kV doc pm:Value) (an:Option Addr) (cdv ct:Value) (us:List Value),us.length=ps.length->bindArgs (W.fnOf x x (cS st) (al st) (af st) .none kV doc pm an cdv ct) ⟨us,[]⟩=pure (ps.zip us)
def CO{P:Program}{w:World}{K:W.Frag}{mg:Str->Option Value}{base:Heap}{k:Nat}{x:Str}{st:Stmt}{N ps:List Str}{m:MS}
  (F:bG K mg x st) (Sc:ax N ps (af st)) (hb:mU x st ps)
  (hbody:∀ (a:Addr) (cdv:Value) (A:Around) (outer:List PySem.Env) (s:Shared) (H:Hp) (E:XK),Room k (A.deeper (envOfC x (af st) s.heap.objs.size a cdv)) ->
   lu (kf si P w K mg base N x (af st) a cdv A outer s H E).nox (al st) m) :
  Fn P w K mg base (k+1) x ps.length (aQ N m ps.length):=by
 obtain⟨a,fd,F,hmg⟩:=F.ex
 exact Ag F Sc hmg (F.binds hb) fun cdv A outer s H E hr=>⟨m,hbody a cdv A outer s H E hr,fun ds S d S' hn hS hd h=>kD h⟩
def Fn.up{P:Program}{w:World}{K:W.Frag}{mg:Str->Option Value}{base:Heap}{k k':Nat}{x:Str}{n:Nat}{f:List D->aa->Option (D×aa)}(F:Fn P w K mg base k x n f)(h:k<=k'):Fn P w K mg base k' x n f:=by
 obtain⟨a,fd,ps,h1,h2,h3⟩:=F.ex
 exact⟨a,fd,ps,h1,h2.mono h,h3⟩
def BD{K:W.Frag}{f:List D->aa->Option (D×aa)}(h:∀ ns:List Int,ns.length<=63->∃ S',f [.rol (ns.map .int)] []=some (.bl true,S')){H:Hp}{a:Addr}{ns:List Int}{E:XK}(hl:ns.length<=63)(hS:fK K H a (ns.map V.int)) :
  uv K 1 f [.ref a] H (fun v _=>v=.bl true) E:=by
 obtain⟨S',hf⟩:=h ns hl
 have hr:∀ l:List Int,Reps K ⟨[],[]⟩ H (l.map V.int) (l.map D.int):=fun l=>by
  induction l with
  | nil=>exact .nil
  | cons x l ih=>exact .cons (.int x) ih
 refine⟨⟨[],[]⟩,[],_,_,S',⟨List.nodup_nil,rfl,fun r a c h=>by simp at h,fun a h=>by simp at h,fun a h=>by simp at h⟩,.cons ?_ .nil,rfl,hf,fun v H' μ' e s r=>r.bl_inv⟩
 rcases hS with hS | hS
 ·exact .rol hS ⟨by simp,by simp⟩ (hr ns)
 ·exact .krol hS (hr ns)
noncomputable def wb(_:aa)(x:D):Option D:=match x with | .int i=>some (.int (-i)) | _=>none
def xq{X:Cx}:UnR X (unaryOp .USub) (rM1 X.K wb):=Aw
noncomputable def du:MT:=fun _ S=>some (true,S)
def wE{X:Cx}:At X [] du:=yW
def BE{P:Program}{w:World}{K:W.Frag}{mg:Str->Option Value}{k:Nat}{st:Stmt}{N:List Str}{m:MS}{fa:Addr}(F:bG K mg "law" st)(hfa:mg "law" = some (.ref fa))(Sc:ax N ["_law_script"] (af st))
  (hbt:∀ (kV doc pm:Value) (an:Option Addr) (cdv ct v:Value),bindArgs (W.fnOf "law" "law" (cS st) (al st) (af st) .none kV doc pm an cdv ct) ⟨[v],[]⟩=pure [(("_law_script":Str),v)])
  (hbody:∀ (base:Heap) (a:Addr) (cdv:Value) (A:Around) (outer:List PySem.Env) (s:Shared) (H:Hp) (E:XK),Room k (A.deeper (envOfC "law" (af st) s.heap.objs.size a cdv)) ->
   lu (kf si P w K mg base N "law" (af st) a cdv A outer s H E).nox (al st) m) :
  ∃ fd:FuncData,(∀ (s:Shared) (v:Value),BindsTo s fd ⟨[v],[]⟩ [("_law_script",v)])/\∀ base:Heap,K.In base->base.Ns mainGlobals mg->FnOk P w K mg base si (k+1) fa fd ["_law_script"] (uv K 1 (aQ N m 1)):=by
 obtain⟨a,fd,F,hmg⟩:=F.ex
 rw [hfa] at hmg
 have e:fa=a:=by cases hmg;rfl
 subst e
 refine⟨fd,fun s v=>?_,fun base _ _=>Af F Sc fun cdv A outer s H E hr=>⟨m,hbody base fa cdv A outer s H E hr,fun ds S d S' hn hS hd h=>kD h⟩⟩
 obtain⟨oc,od,kV,doc,pm,an,cdv,ct,osl,rfl,lk,hcd⟩:=F.ex
 exact .of_eq (hbt kV doc pm an cdv ct v)
end M
namespace HT
open AutoSeq1 (wpAny_loadPart')
def pG:fillsNumberSlot (.type "tuple") "mul" = pure false:=
 PySem.fillsNumberSlot_seq (id:="tuple.__mul__") (r:=some (.builtin "tuple.__rmul__"))
  F.slot_tuple_mul.lookup (by decide +kernel) F.slot_tuple_rmul.lookup (by decide +kernel)
def AK:seqRepeat? (.type "tuple")=pure (some (.builtin "tuple.__mul__")):=by
 unfold seqRepeat?
 rw [PySem.seqSlot_of (T:="tuple") (name:="__mul__") (id:="tuple.__mul__") F.slot_tuple_mul.lookup (by decide +kernel)]
 rw [PySem.seqSlot_of (T:="tuple") (name:="__rmul__") (id:="tuple.__rmul__") F.slot_tuple_rmul.lookup (by decide +kernel)]
 rfl
def uy(a:Int)(t:Tok)(l:Addr)(items:Array Value)(n:Nat)(dd:Option Addr)(sl:Array (Option Value)) :
  Meets (Builtin.«int.__rmul__» ⟨[.int a t,.ref l],[]⟩) (fun _ R s=>s.heap.get? l=some ⟨.type "tuple",dd,.seq items n,sl⟩/\R (.ok (.ret Value.notImplemented)) s):=
 .of_wp fun prog w A R s h=>by
  obtain⟨hp,g,d,tk,os⟩:=s
  obtain⟨hl,h⟩:=h
  wp_walk
  exact⟨_,rfl,h⟩
def mulT0(l:Addr)(items:Array Value)(n:Nat)(k:Int)(t:Tok)(dd:Option Addr)(sl:Array (Option Value))(h1:¬ (decide (k < -(2 ^ 63))||decide (k≥2 ^ 63))=true)(hc:(items.isEmpty||k == 1)=true) :
  Meets (Builtin.«tuple.__mul__» ⟨[.ref l,.int k t],[]⟩) (fun _ R s=>s.heap.get? l=some ⟨.type "tuple",dd,.seq items n,sl⟩/\R (.ok (.ret (.ref l))) s):=
 .of_wp fun prog w A R s h=>by
  obtain⟨hp,g,d,tk,os⟩:=s
  obtain⟨hl,h⟩:=h
  have f1:=FO
  have f2:=Fh
  wp_walk using wpAny_loadPart' hl
  rw [Eh h1]
  wp_walk using wpAny_loadPart' hl
  exact⟨_,rfl,h⟩
def mulT1(l:Addr)(items:Array Value)(n:Nat)(k:Int)(t:Tok)(dd:Option Addr)(sl:Array (Option Value))(h1:¬ (decide (k < -(2 ^ 63))||decide (k≥2 ^ 63))=true)(hc:¬ (items.isEmpty||k == 1)=true)(hk:(decide (k<=0)||items.isEmpty)=true) :
  Meets (Builtin.«tuple.__mul__» ⟨[.ref l,.int k t],[]⟩) (fun _ R s=>s.heap.get? l=some ⟨.type "tuple",dd,.seq items n,sl⟩/\R (.ok (.ret (.ref s.heap.objs.size))) { s with heap:=s.heap.push { cls:=.type "tuple",data:=.seq #[] },toks:=s.toks }):=
 .of_wp fun prog w A R s h=>by
  obtain⟨hp,g,d,tk,os⟩:=s
  obtain⟨hl,h⟩:=h
  have f1:=FO
  have f2:=Fh
  wp_walk using wpAny_loadPart' hl
  rw [Eh h1]
  wp_walk using wpAny_loadPart' hl
  exact⟨_,rfl,h⟩
def mulT2(l:Addr)(items:Array Value)(n:Nat)(k:Int)(t:Tok)(dd:Option Addr)(sl:Array (Option Value))(h1:¬ (decide (k < -(2 ^ 63))||decide (k≥2 ^ 63))=true)(hc:¬ (items.isEmpty||k == 1)=true)(hk:¬ (decide (k<=0)||items.isEmpty)=true)
  (hb:¬ ((items.size:Int) * k>(2 ^ 63 - 1) / 8)) (hm:¬ Builtin.Tuple.tupleTooMany ((items.size:Int) * k)=true) (hz:(List.foldl (fun x1 x2=>x1++x2) #[] (List.replicate k.toNat items)).size<=sizeLine) :
  Meets (Builtin.«tuple.__mul__» ⟨[.ref l,.int k t],[]⟩) (fun _ R s=>s.heap.get? l=some ⟨.type "tuple",dd,.seq items n,sl⟩/\R (.ok (.ret (.ref s.heap.objs.size))) { s with heap:=s.heap.push { cls:=.type "tuple",data:=.seq (List.foldl (fun x1 x2=>x1++x2) #[] (List.replicate k.toNat items)) },toks:=s.toks }):=
 .of_wp fun prog w A R s h=>by
  obtain⟨hp,g,d,tk,os⟩:=s
  obtain⟨hl,h⟩:=h
  have f1:=FO
  have f2:=Fh
  wp_walk using wpAny_loadPart' hl
  rw [Eh h1]
  wp_walk using wpAny_loadPart' hl
  rw [Eh hb]
  wp_walk using wpAny_loadPart' hl
  exact⟨_,rfl,h⟩
end HT
namespace L2
section
variable{X:Cx}
theorem vrep{xs:List V}{us:List Value}(h:Vals xs us):∀ k:Nat,Vals (List.replicate k xs).flatten (List.replicate k us).flatten
 | 0=>.nil
 | k+1=>by rw [Ef,Ef,Et,Et];exact h.append (vrep h k)
theorem frep(its:List Value):∀ (m:Nat) (acc:List Value),List.foldl (fun x1 x2=>x1++x2) acc.toArray (List.replicate m its.toArray)=(acc++(List.replicate m its).flatten).toArray
 | 0,acc=>by simp
 | m+1,acc=>by
  rw [Ef,List.foldl_cons,List.append_toArray,frep its m (acc++its),Ef,Et,ED]
noncomputable def rRepT(K:W.Frag):R2:=fun x y H Q=>∃ a k xs,x=.ref a/\y=.int k/\hJ K H a xs/\-(2 ^ 62)<=k/\k<2 ^ 62/\xs.length * k.toNat<=sizeLine /\
 ((xs=[]\/k=1)->Q (.ref a) H)/\((xs≠[]/\k≠1)->∀ p,H p=none->Q (.ref p) (upd H p (.tup (List.replicate k.toNat xs).flatten)))
def yc:OpR X (binaryOp .Mult) (rRepT X.K):=by
 intro pins s σ H x y v u Q I rx ry h
 obtain⟨l,k,xs,rfl,rfl,hq,h1,h2,hz,q1,q2⟩:=h
 cases rx
 obtain⟨t,rfl⟩:=ry
 obtain⟨its,r,hT,hzz⟩:=I.tuple hq
 obtain⟨⟨cls,dd,data,sl⟩,e,hc,n,hd⟩:=id hT
 simp only at hc hd
 subst hc hd
 have hlen:xs.length=its.length:=r.length
 have g1:¬ (decide (k < -(2 ^ 63))||decide (k≥2 ^ 63))=true:=by simp;omega
 have road:∀ {S:PySem.Spec},Meets (Builtin.«tuple.__mul__» ⟨[.ref l,.int k t],[]⟩) S->S X.A (wants (EP X pins σ Q) X.xe) s->wpAny (model X.prog X.w) X.A (binaryOp .Mult (.ref l) (.int k t)) (EP X pins σ Q) X.xe s:=fun M hS=>
  FV (T:="tuple") (U:="int") (by decide) ⟨_,e,rfl⟩ (fun s'=>FE s' k t) HT.pG F.fills_int_mul Fq HT.AK F.slot_int_index.lookup
   (Fg Fq (FE s k t) F.entry_int_rmul (F.args_int_rmul_2 _ _) (HT.uy k t l its.toArray n dd sl)
    ⟨e,rfl,⟨_,e,rfl⟩,Fg F.slot_tuple_mul ⟨_,e,rfl⟩ F.entry_tuple_mul (F.args_tuple_mul_2 _ _) M hS⟩)
 by_cases hs:xs=[]\/k=1
 ·have hcc:(its.toArray.isEmpty||k == 1)=true:=by
   rcases hs with rfl | rfl
   ·cases r;rfl
   ·simp
  exact road (HT.mulT0 l its.toArray n k t dd sl g1 hcc) ⟨e,.ref l,H,I,rfl,q1 hs⟩
 ·have hx:xs≠[]:=fun z=>hs (.inl z)
  have hk1:k≠1:=fun z=>hs (.inr z)
  have hi:its≠[]:=fun z=>by subst z;cases r;exact hx rfl
  have hcc:¬ (its.toArray.isEmpty||k == 1)=true:=by simp [hi,hk1]
  by_cases hk:k<=0
  ·have hk':(decide (k<=0)||its.toArray.isEmpty)=true:=by simp [hk]
   have k0:k.toNat=0:=by omega
   refine road (HT.mulT1 l its.toArray n k t dd sl g1 hcc hk') ⟨e,.ref _,_,I.laid (o:=.tup []) (fun _ _ q=>DJ _ q) (DK _) ⟨by simp,[],.nil,⟨_,DY _ rfl,rfl,⟨0,rfl⟩,rfl⟩⟩,rfl,?_⟩
   have:=q2 ⟨hx,hk1⟩ s.heap.objs.size I.fresh
   rw [k0] at this
   exact this
  ·have hk':¬ (decide (k<=0)||its.toArray.isEmpty)=true:=by simp [hi];omega
   have km:(k.toNat:Int)=k:=by omega
   have hpr:((its.length:Int) * k)<=sizeLine:=by rw [<- km,<- hlen];exact_mod_cast hz
   have hsl:((sizeLine:Nat):Int)<=(2 ^ 63 - 1) / 8:=by decide
   have hf:=frep its k.toNat []
   rw [List.nil_append] at hf
   have hf':List.foldl (fun x1 x2=>x1++x2) #[] (List.replicate k.toNat its.toArray)=(List.replicate k.toNat its).flatten.toArray:=hf
   have hl2:(List.replicate k.toNat its).flatten.length<=sizeLine:=by rw [lZ,<- hlen,FI];exact hz
   refine road (HT.mulT2 l its.toArray n k t dd sl g1 hcc hk' (by rw [DB];omega) (by unfold Builtin.Tuple.tupleTooMany;rw [DB];simp;omega) (by rw [hf',DB];exact hl2)) ⟨e,?_⟩
   rw [hf']
   exact⟨.ref _,_,I.laid (o:=.tup (List.replicate k.toNat xs).flatten) (fun _ _ q=>DJ _ q) (DK _) ⟨by rw [lZ,FI];exact hz,(List.replicate k.toNat its).flatten,vrep r _,⟨_,DY _ rfl,rfl,⟨0,rfl⟩,rfl⟩⟩,rfl,q2 ⟨hx,hk1⟩ _ I.fresh⟩
end
section
variable{X:Cx}
def insK(n:Nat)(i:Int):Nat:=if i<0 then (i+(n:Int)).toNat else min i.toNat n
noncomputable def insL{α:Type}(xs:List α)(i:Int)(y:α):List α:=xs.take (insK xs.length i)++y::xs.drop (insK xs.length i)
end
end L2
namespace M
open L2
section
variable{X:Cx}{K:W.Frag}{μ μ':Fp}{H H':Hp}{S:aa}
noncomputable def bz(S:aa)(x y:D):Option D:=match x,y with
 | .tup xs,.int k=>if -(2 ^ 62)<=k/\k<2 ^ 62/\xs.length * k.toNat<=sizeLine then some (.tup (List.replicate k.toNat xs).flatten) else none
 | .lst xs,.int k=>if -(2 ^ 62)<=k/\k<2 ^ 62/\xs.length * k.toNat<=sizeLine then some (.lst (List.replicate k.toNat xs).flatten) else none
 | x,y=>Ct S x y
def flat1{α:Type}(xs:List α):(List.replicate 1 xs).flatten=xs:=by simp
def yg:OpR X (binaryOp .Mult) (fc X.K bz):=OpR.imp (OpR.or Bq (OpR.or yc Bk)) fun x y H Q ⟨μ,S,dx,dy,dz,hS,h1,h2,h3,post⟩=>by
 unfold bz at h3
 split at h3
 ·rename_i xs k
  split at h3
  ·rename_i hk
   cases h3
   obtain⟨a,vs,rfl,q,r⟩:=h1.sqT
   have h1':=h1
   refine .inr (.inl ⟨a,k,vs,rfl,h2.int_inv,q,hk.1,hk.2.1,by rw [r.length];exact hk.2.2,fun hs=>?_,fun _ p hp=>post.tup hS hp (Reps.flat _ r)⟩)
   have e:(List.replicate k.toNat xs).flatten=xs:=by
    rcases hs with rfl | rfl
    ·cases r;simp
    ·exact flat1 xs
   rw [e] at post
   exact post.here hS h1'
  ·cases h3
 ·rename_i xs k
  split at h3
  ·rename_i hk
   cases h3
   obtain⟨a,vs,rfl,q,n,r⟩:=h1.sqL
   exact .inr (.inr ⟨a,k,vs,rfl,h2.int_inv,q,by omega,by omega,by rw [r.length];exact hk.2.2,fun p hp=>post.lst hS hp (Reps.flat _ r)⟩)
  ·cases h3
 ·exact .inl ⟨μ,S,dx,dy,dz,hS,h1,h2,h3,post⟩
abbrev MF:=D->List D->aa->Option (D×aa)
inductive AM(K:W.Frag)(f:MF)(x:V)(vs:List V)(H:Hp)(Q:VK):Prop
 | mk (μ:Fp) (S:aa) (dx:D) (ds:List D) (d:D) (S':aa) (hS:SOk K μ S H) (h1:Rep K μ H x dx) (h2:Reps K μ H vs ds) (h3:f dx ds S=some (d,S')) (post:Post K μ H S' d Q)
def MtR.imp{id:String}{r r':V->List V->Hp->VK->Prop}(h:MtR X id r)(i:∀ x xs H Q,r' x xs H Q->r x xs H Q):MtR X id r':=fun pins s σ H x xs v us Q I rx rv q=>h pins s σ H x xs v us Q I rx rv (i x xs H Q q)
noncomputable def gf:MF:=fun o ds S=>match o,ds with
 | .ref r,[y]=>match S[r]? with | some (.lst xs)=>if xs.length<sizeLine then some (.non,S.set r (.lst (xs++[y]))) else none | _=>none
 | _,_=>none
noncomputable def fInsert:MF:=fun o ds S=>match o,ds with
 | .ref r,[.int i,y]=>match S[r]? with | some (.lst xs)=>if xs.length<sizeLine/\-(2 ^ 62)<=i/\i<2 ^ 62 then some (.non,S.set r (.lst (insL xs i y))) else none | _=>none
 | _,_=>none
noncomputable def mE:MF:=fun o ds S=>match ds with
 | [x]=>(dH S o).bind fun ys=>if aH 40 x=true/\ys.all (aH 39)=true then some (.int (ys.countP fun d=>eo d x),S) else none
 | _=>none
def sE:MtR X "list.append" (AM X.K gf):=MtR.imp kH fun x vs H Q ⟨μ,S,dx,ds,d,S',hS,r1,r2,h,post⟩=>by
 unfold gf at h
 split at h
 ·rename_i r y
  obtain⟨v,rfl,rv⟩:=r2.one
  cases q:S[r]? with
  | none=>rw [q] at h;cases h
  | some c=>
   rw [q] at h
   cases c with
   | dct _ _=>cases h
   | lst xs=>
    dsimp only at h
    split at h
    ·rename_i hz
     cases h
     cases r1 with
     | @ref a _ h'=>
      obtain⟨ws,hw,rw'⟩:=hS.cell r a _ h' q
      obtain⟨e,s'⟩:=hS.write h' hw (rw'.append (.cons rv .nil))
      exact⟨a,ws,v,rfl,rfl,hw,by rw [rw'.length];exact hz,post _ _ μ e s' .non⟩
    ·cases h
 ·cases h
theorem gY{pins:List (Addr×Obj)}{σ:L2.St}{s:Shared}(I:Inv X pins σ H s){x:D}:∀ {vs:List V} {us:List Value} {ds:List D},Vals vs us->Reps X.K μ H vs ds->(∀ d∈ds,aH 39 d=true) ->
  us.countP (cg X.K μ H x)=ds.countP fun d=>eo d x
 | _,_,_,.nil,.nil,_=>rfl
 | _,_,_,.cons rv tv,.cons r t,ok=>by
  rw [List.countP_cons,List.countP_cons,jC I rv r (ok _ DF),gY I tv t fun d m=>ok d (DC _ m)]
noncomputable def ka(S:aa):D->Bool
 | .lst _=>true
 | .rol _=>true
 | .ref r=>match S[r]? with | some (.lst _)=>true | _=>false
 | _=>false
def jk{v:V}{d:D}(hS:SOk K μ S H)(r:Rep K μ H v d)(h:ka S d=true):∃ a vs ds,v=.ref a/\fK K H a vs/\dH S d=some ds/\Reps K μ H vs ds:=by
 cases r with
 | lst h' n r=>exact⟨_,_,_,rfl,.inl (.inl h'),rfl,r⟩
 | rol h' n r=>exact⟨_,_,_,rfl,.inl h',rfl,r⟩
 | krol h' r=>exact⟨_,_,_,rfl,.inr h',rfl,r⟩
 | @ref a i h'=>
  simp only [ka] at h
  cases q:S[i]? with
  | none=>rw [q] at h;cases h
  | some c=>
   rw [q] at h
   cases c with
   | dct _ _=>cases h
   | lst xs=>
    obtain⟨vs,e,r⟩:=hS.cell i a _ h' q
    exact⟨a,vs,xs,rfl,.inl (.inl e),by simp only [dH,q],r⟩
 | _=>cases h
noncomputable def mD:MF:=fun o ds S=>if ka S o=true then mE o ds S else none
def uY(hu:X.A.units+64<cLine):MtR X "list.count" (AM X.K mD):=by
 intro pins s σ H x vs v us Q I rx rv h
 obtain⟨μ,S,dx,ds,d,S',hS,r1,r2,h,post⟩:=h
 unfold mD at h
 split at h
 ·rename_i hl
  unfold mE at h
  split at h
  ·rename_i y
   obtain⟨a,ws,es,rfl,hq,hse,re⟩:=jk hS r1 hl
   rw [hse] at h
   dsimp only [Option.bind_some] at h
   split at h
   ·rename_i hk
    cases h
    cases rx
    obtain⟨w,rfl,rw0⟩:=r2.one
    obtain⟨u,rfl,ru⟩:=rv.one
    obtain⟨its,rvs,⟨⟨cls,dd,data,sl⟩,n,e,hc,hdd,hd⟩,hz⟩:=I.list hq
    simp only at hc hdd hd
    subst hc hdd hd
    have ok:=Ec.mp hk.2
    refine Fg F.slot_list_count ⟨_,e,rfl⟩ F.entry_list_count (F.args_list_count_2 _ _) (SeqAt.list_countAt a its.toArray n none sl u (cg X.K μ H y)) ⟨e,fun w' hw'=>?_,?_⟩
    ·exact cW I (by show X.A.units+1+40<cLine;omega) ru rw0 hk.1 rvs re ok w' (by simpa using hw')
    ·refine⟨.int _,H,I.tok _,⟨_,rfl⟩,?_⟩
     rw [gY I rvs re ok]
     exact post.here hS (.int _)
   ·cases h
  ·cases h
 ·cases h
noncomputable def eG(f:MF)(o:ME)(ms:MA):ME:=fun env S=>(o env S).bind fun p=>if ka p.2 p.1=true then (ms env p.2).bind fun q=>f p.1 q.1 q.2 else none
def zl{o e:Expr}{es:List Expr}{mo:ME}{ms:MA}{f:MF}{name:Str}{id:String}{apos cpos:Pos}(slot:Slot "list" name id)(hty:typeOf (.builtin id)=pure (.type "method_descriptor"))(hm:MtR X id (AM X.K f))(ho:DE X o mo)(ha:DA X (e::es) ms)
  (hbase:attributeBase o name X.env (eval o X.env)=eval o X.env)
  (hfew:((backTo cpos (starEach (e::es) X.env)).all (fun x=>!x.1)&&(backToKw cpos (keywordEach [] X.env)).all (fun x=>x.1.isSome)&&decide ((e::es).length+([]:List Keyword).length+(if ([]:List Keyword).isEmpty then 0 else 1)<30))=true)
  (hline:(apos.endLine == cpos.line)=true) (hs:starEach (e::es) X.env=(false,eval e X.env)::starEach es X.env) (hpl:(backTo cpos (starEach es X.env)).any (·.1)=false) :
  DE X (.Call (.Attribute o name apos) (e::es) [] cpos) (eG f mo ms):=
 PE.imp (pe_bm F.plainAttrs_list slot hty hm ho ha hbase hfew hline hs hpl) fun σ H Q ⟨μ,S,env,d,S',hS,hE,h,post⟩=>by
  obtain⟨⟨x,S1⟩,h1,h⟩:=Dy.mp h
  dsimp only at h
  split at h
  ·rename_i hl
   obtain⟨⟨xs,S2⟩,h2,h⟩:=Dy.mp h
   refine⟨μ,S,env,x,S1,hS,hE,h1,fun v H1 μ1 e1 s1 r1=>⟨?_,μ1,S1,env,xs,S2,s1,hE.mono e1,h2,fun vs H2 μ2 e2 s2 r2=>⟨μ2,S2,x,xs,d,S',s2,r1.mono e2,r2,h,(post.ext e1).ext e2⟩⟩⟩
   obtain⟨a,ws,es,rfl,hq,_,_⟩:=jk s1 r1 hl
   exact .inl ⟨rfl,ws,hq⟩
  ·cases h
end
end M
namespace HT
open AutoSeq1 (wpAny_loadPart')
section
variable{prog:Program}{w:World}{A:Around}{E:Value->Shared->Prop}{s:Shared}
end
end HT
namespace HT
section
variable{prog:Program}{w:World}{A:Around}{E:Value->Shared->Prop}{s:Shared}
end
end HT
namespace L2
section
variable{X:Cx}{pins:List (Addr×Obj)}{σ:St}{H:Hp}{s:Shared}{h':Heap}
end
section
variable{X:Cx}
end
end L2
namespace M
open L2
section
variable{X:Cx}{K:W.Frag}{μ μ':Fp}{H H':Hp}{S:aa}
noncomputable def wA:Nat->List D->List D
 | _,[]=>[]
 | i,x::r=>.tup [.int (i:Nat),x]::wA (i+1) r
theorem tB:∀ (i:Nat) (xs:List D),(wA i xs).length=xs.length
 | _,[]=>rfl
 | i,_::r=>by rw [wA,DR,DR,tB (i+1) r]
end
end M
namespace HT
section
variable{prog:Program}{w:World}{A:Around}{E:Value->Shared->Prop}{s:Shared}
end
end HT
namespace L2
section
variable{X:Cx}{e st:Expr}{te:TE}{ts:TO}{pos p2:Pos}
end
end L2
namespace M
open L2
section
variable{X:Cx}{K:W.Frag}{μ:Fp}{H:Hp}{S:aa}
noncomputable def mRev(a:ME)(st:MO):ME:=fun env S=>(a env S).bind fun p=>(st env p.2).bind fun k=>match p.1,k.1 with
 | .tup xs,some j=>if j = -1 then some (.tup xs.reverse,k.2) else none
 | _,_=>none
end
end M
namespace HT
section
variable{prog:Program}{w:World}{A:Around}{R:Result->Shared->Prop}{it:Addr}{fp wr:List Addr}{G:Array GenState->Array GenState->Prop}{n:Nat}{P:Nat->Value->Prop}{St:Nat->Shared->Prop}
noncomputable def unl(val:Nat->Str):Nat->List Str
 | 0=>[]
 | i+1=>if (unl val i).any (· == val i) then unl val i else unl val i++[val i]
end
section
variable{prog:Program}{w:World}{A:Around}{E:Value->Shared->Prop}{s:Shared}
end
end HT
namespace L2
section
variable{X:Cx}
def dedN(ns:List Int):Nat:=(firstMet (fun i=>ns.getD i 0) ns.length).length
def dedT(ks:List Str):Nat:=(HT.unl (fun i=>ks.getD i Str.empty) ks.length).length
end
end L2
namespace M
open L2
noncomputable def fF:List D->Option (List Int)
 | []=>some []
 | .int i::r=>(fF r).bind fun ns=>some (i::ns)
 | _::_=>none
theorem gK:∀ {ds:List D} {ns:List Int},fF ds=some ns->ds=ns.map D.int
 | [],ns,h=>by cases h;rfl
 | .int i::r,ns,h=>by
  obtain⟨ms,h1,h2⟩:=Dy.mp h
  cases h2
  rw [DZ,<- gK h1]
 | .non::_,ns,h=>by cases h
 | .bl _::_,ns,h=>by cases h
 | .str _::_,ns,h=>by cases h
 | .tup _::_,ns,h=>by cases h
 | .lst _::_,ns,h=>by cases h
 | .rol _::_,ns,h=>by cases h
 | .dct _ _::_,ns,h=>by cases h
 | .ref _::_,ns,h=>by cases h
theorem jw:∀ ns:List Int,fF (ns.map D.int)=some ns
 | []=>rfl
 | n::ns=>by rw [DZ,fF,jw ns];rfl
noncomputable def isort(ns:List Int):List Int:=ns.mergeSort fun a b=>decide (a<=b)
section
variable{X:Cx}{K:W.Frag}{μ:Fp}{H:Hp}{S:aa}
theorem kG:∀ {vs:List V} {ns:List Int},Reps K μ H vs (ns.map D.int)->vs=ns.map V.int
 | _,[],.nil=>rfl
 | _,n::ns,.cons h t=>by rw [h.int_inv,kG t];rfl
noncomputable def gL(S:aa)(d:D):Option (List Int):=if ka S d=true then (dH S d).bind fun ds=>(fF ds).bind fun ns=>if ns.length<64 then some ns else none else none
def qg{v:V}{d:D}{ns:List Int}(hS:SOk K μ S H)(r:Rep K μ H v d)(h:gL S d=some ns):∃ a,v=.ref a/\fK K H a (ns.map V.int)/\ns.length<64:=by
 unfold gL at h
 split at h
 ·rename_i hl
  obtain⟨a,vs,ds,rfl,hq,hs,rs⟩:=jk hS r hl
  rw [hs] at h
  have h:((fF ds).bind fun ns=>if ns.length<64 then some ns else none)=some ns:=h
  obtain⟨ms,h1,h2⟩:=Dy.mp h
  split at h2
  ·rename_i h3
   cases h2
   have:=gK h1
   subst this
   exact⟨a,rfl,by rw [<- kG rs];exact hq,h3⟩
  ·cases h2
 ·cases h
noncomputable def fSorted(S:aa):List D->Option D
 | [d]=>(gL S d).bind fun ns=>some (.lst ((isort ns).map D.int))
 | _=>none
noncomputable def uq:List D->Option (List Str)
 | []=>some []
 | .str x::r=>(uq r).bind fun ns=>some (x::ns)
 | _::_=>none
noncomputable def strsL(S:aa)(d:D):Option (List Str):=if ka S d=true then (dH S d).bind fun ds=>(uq ds).bind fun ns=>if ns.length<64 then some ns else none else none
noncomputable def fLenSet(S:aa):List D->Option D
 | [d]=>match gL S d with | some ns=>some (.int (dedN ns:Nat)) | none=>(strsL S d).bind fun ks=>some (.int (dedT ks:Nat))
 | _=>none
end
section
variable{X:Cx}{K:W.Frag}{μ:Fp}{H:Hp}{S:aa}
noncomputable def ib(i j:Nat)(ms:MA):MS:=fun env S=>(ms env S).bind fun p=>match p.1 with | [v,w]=>some (.nx ((env.set i (some v)).set j (some w)) p.2) | _=>none
def CJ{i j:Nat}{x y:Str}{a b:Expr}{ms:MA}{px py pt pos:Pos}{kt k2:Nat}{pt2:Pos}(hc:X.calm=true)(hN:X.N.Nodup)(hi:X.N[i]?=some x)(hj:X.N[j]?=some y)(hij:i≠j)
  (hx:X.env.scope.names.lookup x=some .local) (hy:X.env.scope.names.lookup y=some .local) (ha:DA X [a,b] ms)
  (hw:swappedStores [.Tuple [.Name x px,.Name y py] kt pt] (.Tuple [a,b] k2 pt2) X.env=pure (some [x,y])) :
  DS X (.Assign [.Tuple [.Name x px,.Name y py] kt pt] (.Tuple [a,b] k2 pt2) pos) (ib i j ms):=
 PS.imp (AR hc hN hi hj hij hx hy ha hw rfl) fun E σ H ⟨μ,S,env,o,hS,hE,h,post⟩=>by
  obtain⟨⟨ds,S1⟩,h1,h⟩:=Dy.mp h
  refine⟨μ,S,env,ds,S1,hS,hE,h1,fun vs H1 μ1 e1 s1 r1=>?_⟩
  dsimp only at h
  split at h
  ·rename_i v w
   cases h
   obtain⟨v',w',rfl,rv,rw'⟩:=r1.two
   exact⟨v',w',rfl,post _ H1 μ1 e1 s1 (((hE.mono e1).set rv i).set rw' j)⟩
  ·cases h
noncomputable def iO:Expr->Bool
 | .Starred _ _=>false
 | _=>true
def uo{x y:Str}{a b:Expr}{px py pt:Pos}{kt k2:Nat}{pt2:Pos}(hb:X.env.blockKind=.function)(hx:X.env.scope.names.lookup x=some .local)(hy:X.env.scope.names.lookup y=some .local)(hne:(x == y)=false)
  (hl:(py.line == px.line)=true) (ha:iO a=true) (hb':iO b=true) (hf:(foldedForSure 8 a&&foldedForSure 8 b)=false) (hcn:(constantsAlone 8 a&&constantsAlone 8 b)=false) :
  swappedStores [.Tuple [.Name x px,.Name y py] kt pt] (.Tuple [a,b] k2 pt2) X.env=pure (some [x,y]):=by
 have hkx:X.env.kindOf x=some .local:=hx
 have hky:X.env.kindOf y=some .local:=hy
 have hs:([a,b].any fun e=>match e with | .Starred ..=>true | _=>false)=false:=by
  have q:∀ e:Expr,iO e=true->(match e with | .Starred ..=>true | _=>false:Bool)=false:=fun e h=>by cases e <;> first | rfl | cases h
  simp only [EY,List.any_nil,q a ha,q b hb',Bool.or_self]
 have hxy:(y == x)=false:=by
  rw [Bool.eq_false_iff] at hne ⊢
  intro z;exact hne (by rw [DQ] at z ⊢;exact z.symm)
 have hed:([x,y]:List Str).eraseDups=[x,y]:=by simp [List.eraseDups_cons,hxy]
 have hl':py.line=px.line:=by simpa using hl
 unfold swappedStores
 simp only [DR,EH,hb]
 simp only [Ea,FJ,Fj,hf,hcn]
 generalize hg:List.filterMap _ [Expr.Name x px,Expr.Name y py]=L
 have hL:L=[x,y]:=by
  rw [<- hg]
  have e0:(Option.map (fun(x:Expr)=>x.pos.line) [Expr.Name x px,Expr.Name y py].head?).getD 0=px.line:=rfl
  rw [Ey,Ey]
  have e1:(Expr.Name x px).pos=px:=rfl
  simp [hkx,hky,e0,e1,hl']
 subst hL
 rw [Eh (by decide)]
 rw [Eh (by
  intro z
  have:([a,b].any fun e=>match e with | .Starred ..=>true | _=>false)=true:=z
  rw [hs] at this;cases this)]
 rw [Eh (by rw [hed];simp),Eh DM,Eh DM]
end
end M
namespace L2
section
variable{X:Cx}{pins:List (Addr×Obj)}{σ:St}{H:Hp}{s:Shared}{a:Addr}{xs:List V}
variable{o e:Expr}{es:List Expr}{to:TE}{t:TA}{name:Str}{apos cpos:Pos}{id:String}{r:V->List V->Hp->VK->Prop}
end
end L2
namespace M
open L2
section
variable{X:Cx}{K:W.Frag}{μ:Fp}{H:Hp}{S:aa}
noncomputable def Az:D->Bool
 | .tup _=>true
 | _=>false
noncomputable def yO:MF:=fun o ds S=>if Az o=true then mE o ds S else none
end
end M
namespace HT
section
variable{prog:Program}{w:World}{A:Around}{E:Value->Shared->Prop}{s:Shared}
end
end HT
namespace HT
section
variable{prog:Program}{w:World}{A:Around}{E:Value->Shared->Prop}{s:Shared}
end
section
variable{prog:Program}{w:World}{A:Around}{E:Value->Shared->Prop}{s:Shared}
end
end HT
namespace L2
section
variable{X:Cx}
end
end L2
namespace M
open L2
section
variable{X:Cx}{K:W.Frag}{μ μ':Fp}{H H':Hp}{S:aa}
noncomputable def zipD:List D->List D->List D
 | x::r,y::q=>.tup [x,y]::zipD r q
 | _,_=>[]
end
section
variable{X:Cx}{K:W.Frag}{μ μ':Fp}{H H':Hp}{S S':aa}
noncomputable def ej:D->Option ao
 | .int i=>some (.inl i)
 | .str x=>some (.inr x)
 | _=>none
def dM{v:V}{d:D}{k:ao}(h:ej d=some k)(r:Rep K μ H v d):v=kV k:=by
 cases d <;> first | cases h | skip
 ·rw [r.int_inv];rfl
 ·rw [r.str_inv];rfl
noncomputable def eZ(kvs:List (ao×D))(k:ao):Option D:=match kvs with
 | []=>none
 | p::r=>if p.1=k then some p.2 else eZ r k
def sT(kvs:List (ao×D))(k:ao):Bool:=match kvs with
 | []=>false
 | p::r=>if p.1=k then true else sT r k
noncomputable def xB(kvs:List (ao×D))(k:ao)(d:D):List (ao×D):=match kvs with
 | []=>[]
 | p::r=>(if p.1=k then (p.1,d) else p)::xB r k d
noncomputable def uz(kvs:List (ao×D))(k:ao)(d:D):List (ao×D):=if sT kvs k then xB kvs k d else kvs++[(k,d)]
noncomputable def bR(kvs:List (ao×D)):List (ao×D)->List (ao×D)
 | []=>kvs
 | p::r=>bR (uz kvs p.1 p.2) r
inductive KR(K:W.Frag)(μ:Fp)(H:Hp):List (ao×V)->List (ao×D)->Prop
 | nil:KR K μ H [] []
 | cons {k:ao} {v:V} {d:D} {vs:List (ao×V)} {ds:List (ao×D)} (h:Rep K μ H v d) (t:KR K μ H vs ds):KR K μ H ((k,v)::vs) ((k,d)::ds)
theorem KR.keys:∀ {vs ds},KR K μ H vs ds->vs.map (·.1)=ds.map (·.1)
 | _,_,.nil=>rfl
 | _,_,.cons _ t=>by rw [DZ,DZ,KR.keys t]
theorem KR.reps:∀ {vs ds},KR K μ H vs ds->Reps K μ H (vs.map (·.2)) (ds.map (·.2))
 | _,_,.nil=>.nil
 | _,_,.cons h t=>.cons h (KR.reps t)
theorem KR.length:∀ {vs ds},KR K μ H vs ds->vs.length=ds.length
 | _,_,.nil=>rfl
 | _,_,.cons _ t=>by rw [DR,DR,KR.length t]
theorem KR.less{p:Addr}{cs fb:List Addr}:∀ {vs ds},KR K ⟨cs,p::fb⟩ H vs ds->KR K ⟨cs,fb⟩ H vs ds
 | _,_,.nil=>.nil
 | _,_,.cons h t=>.cons h.less (KR.less t)
theorem KR.chg{p:Addr}{o:HO}(hp:p ∈ μ.fb):∀ {vs ds},KR K μ H vs ds->KR K μ (upd H p o) vs ds
 | _,_,.nil=>.nil
 | _,_,.cons h t=>.cons (h.chg hp) (KR.chg hp t)
theorem KR.of:∀ {kvs:List (ao×V)} {ks:List ao} {ds:List D},ks=kvs.map (·.1)->Reps K μ H (kvs.map (·.2)) ds->KR K μ H kvs (ks.zip ds)
 | [],_,_,e,r=>by subst e;cases r;exact .nil
 | p::q,_,_,e,r=>by
  subst e
  rw [DZ] at r
  cases r with | cons h t=>exact .cons h (KR.of rfl t)
theorem KR.val{k:ao}:∀ {vs ds},KR K μ H vs ds->∀ {d},eZ ds k=some d->∃ v,gq vs k=some v/\Rep K μ H v d
 | _,_,.nil,d,h=>by cases h
 | _,_,.cons (k:=k') h t,d,q=>by
  unfold eZ at q
  split at q
  ·rename_i e;cases q;exact⟨_,iD e,h⟩
  ·rename_i e
   obtain⟨v,h1,h2⟩:=KR.val t q
   exact⟨v,(fL e).trans h1,h2⟩
theorem KR.valN{k:ao}:∀ {vs ds},KR K μ H vs ds->eZ ds k=none->gq vs k=none
 | _,_,.nil,_=>rfl
 | _,_,.cons h t,q=>by
  unfold eZ at q
  split at q
  ·cases q
  ·rename_i e;exact(fL e).trans (KR.valN t q)
theorem KR.has{k:ao}:∀ {vs ds},KR K μ H vs ds->(vs.any fun kv=>decide (kv.1=k))=sT ds k
 | _,_,.nil=>rfl
 | _,_,.cons (k:=k') h t=>by
  rw [EY,KR.has t]
  unfold sT
  by_cases e:k'=k
  ·simp [e]
  ·simp only [Eo e,Bool.false_or,Eh e];cases t <;> rfl
theorem KR.setv{k:ao}{x:V}{d:D}(r:Rep K μ H x d):∀ {vs ds},KR K μ H vs ds->KR K μ H (vs.map fun kv=>if kv.1=k then (kv.1,x) else kv) (xB ds k d)
 | _,_,.nil=>.nil
 | _,_,.cons (k:=k') h t=>by
  rw [DZ]
  unfold xB
  by_cases e:k'=k
  ·simp only [DU e];exact .cons r (KR.setv r t)
  ·simp only [Eh e];exact .cons h (KR.setv r t)
theorem KR.snoc{k:ao}{x:V}{d:D}(r:Rep K μ H x d):∀ {vs ds},KR K μ H vs ds->KR K μ H (vs++[(k,x)]) (ds++[(k,d)])
 | _,_,.nil=>.cons r .nil
 | _,_,.cons h t=>.cons h (KR.snoc r t)
def KR.put{k:ao}{x:V}{d:D}{vs ds}(r:Rep K μ H x d)(t:KR K μ H vs ds):KR K μ H (jU vs k x) (uz ds k d):=by
 unfold jU uz
 rw [t.has]
 split
 ·exact t.setv r
 ·exact t.snoc r
theorem KR.merge:∀ {ws es vs ds},KR K μ H ws es->KR K μ H vs ds->KR K μ H (eD vs ws) (bR ds es)
 | _,_,_,_,.nil,t=>t
 | _,_,vs,ds,.cons (k:=k) (v:=v) (d:=d) h q,t=>by
  have:=KR.merge q (t.put (k:=k) h)
  exact this
abbrev MP:=ai->aa->Option (List (ao×D)×aa)
noncomputable def db:List (ME×ME)->MP
 | []=>fun _ S=>some ([],S)
 | (a,b)::r=>fun env S=>(a env S).bind fun p=>(ej p.1).bind fun k=>(b env p.2).bind fun q=>(db r env q.2).bind fun z=>some ((k,q.1)::z.1,z.2)
def DPs(X:Cx)(pos:Pos)(keys:List (Option Expr))(values:List Expr)(ms:List (ME×ME)):Prop:=PPs X pos keys values (ms.map fun p=>(tM X.K p.1,tM X.K p.2))
def zf{pos:Pos}:DPs X pos [] [] []:=qL
def wM{pos:Pos}{k v:Expr}{ks:List (Option Expr)}{vs:List Expr}{mk mv:ME}{ms:List (ME×ME)}(hk:DE X k mk)(hv:DE X v mv)(hr:DPs X pos ks vs ms):DPs X pos (some k::ks) (v::vs) ((mk,mv)::ms):=nw hk hv hr
theorem gr{σ:L2.St}{env:ai}:∀ {ms:List (ME×ME)} {μ:Fp} {H:Hp} {S S':aa} {kvs:List (ao×D)} {Q:List (V×V)->Hp->Prop},SOk K μ S H->EOk K μ H σ env->db ms env S=some (kvs,S') ->
  (∀ vs H' μ',Ext μ H μ' H'->SOk K μ' S' H'->KR K μ' H' vs kvs->Q (vs.map fun kv=>(kV kv.1,kv.2)) H')->iG (ms.map fun p=>(tM K p.1,tM K p.2)) σ H Q
 | [],μ,H,S,S',kvs,Q,s,e,h,q=>by cases h;exact q [] H μ s.ext s .nil
 | (a,b)::r,μ,H,S,S',kvs,Q,s,e,h,q=>by
  obtain⟨⟨x,S1⟩,h1,h⟩:=Dy.mp h
  obtain⟨k,h2,h⟩:=Dy.mp h
  obtain⟨⟨y,S2⟩,h3,h⟩:=Dy.mp h
  obtain⟨⟨zs,S3⟩,h4,h⟩:=Dy.mp h
  cases h
  refine⟨μ,S,env,x,S1,s,e,h1,fun v H1 μ1 e1 s1 r1=>⟨μ1,S1,env,y,S2,s1,e.mono e1,h3,fun w H2 μ2 e2 s2 r2=>gr s2 ((e.mono e1).mono e2) h4 fun vs H3 μ3 e3 s3 r3=>?_⟩⟩
  have:=q ((k,w)::vs) H3 μ3 ((e1.trans e2).trans e3) s3 (.cons (r2.mono e3) r3)
  rw [DZ] at this
  rw [dM h2 r1]
  exact this
def Ext.shut{p:Addr}{o o':HO}{cs fb:List Addr}{μ2:Fp}{H2:Hp}{S2:aa}(hp:H p=none)(hn:p ∉ fb)(e:Ext ⟨cs,p::fb⟩ (upd H p o) μ2 H2)(s:SOk K μ2 S2 H2) :
  Ext ⟨cs,fb⟩ H ⟨μ2.cs,fb⟩ (upd H2 p o')/\SOk K ⟨μ2.cs,fb⟩ S2 (upd H2 p o')/\(⟨μ2.cs,fb⟩:Fp).no p/\(∀ vs ds,KR K μ2 H2 vs ds->KR K ⟨μ2.cs,fb⟩ (upd H2 p o') vs ds)/\H2 p=some o:=by
 have pm:p ∈ μ2.fb:=by rw [e.fb];exact DF
 have ncs:p ∉ μ2.cs:=s.disj p pm
 have ncs0:p ∉ cs:=fun z=>ncs (by obtain⟨l,q,_⟩:=e.pre;rw [q];exact DV _ z)
 have ef:μ2=⟨μ2.cs,p::fb⟩:=by have:=e.fb;obtain⟨a,b⟩:=μ2;simp only at this;rw [this]
 refine⟨⟨rfl,?_,fun a o2 na ha=>?_,fun a ha=>?_⟩,?_,⟨ncs,?_⟩,fun vs ds r=>?_,e.keep p o ncs0 am⟩
 ·obtain⟨l,q,hl⟩:=e.pre
  refine⟨l,q,fun a ha=>?_⟩
  have:=hl a ha
  by_cases z:a=p
  ·subst z;exact hp
  ·rwa [aj z] at this
 ·have z:=aI ha hp
  rw [aj z]
  exact e.keep a o2 na ((aj z).trans ha)
 ·have z:a≠p:=fun z=>ncs (z ▸ ha)
  rw [aj z];exact e.dom a ha
 ·have:=(s.chg (o:=o') pm)
  rw [ef] at this
  exact this.less
 ·exact hn
 ·have:=r.chg (o:=o') pm
  rw [ef] at this
  exact this.less
noncomputable def dL(ms:List (ME×ME)):ME:=fun env S=>(db ms env S).bind fun z=>if z.1.length<=15 then some (.dct ((bR [] z.1).map (·.1)) ((bR [] z.1).map (·.2)),z.2) else none
def zp{pos:Pos}{keys:List (Option Expr)}{values:List Expr}{ms:List (ME×ME)}(h:DPs X pos keys values ms)(hall:keys.all (·.isSome)=true)(hl:keys.length=values.length)(h0:keys≠[])(h15:keys.length<=15) :
  DE X (.Dict keys values pos) (dL ms):=PE.imp (qN h hall hl h0 h15) fun σ H Q ⟨μ,S,env,d,S',hS,hE,hm,post⟩=>by
 obtain⟨⟨kvs,S1⟩,h1,hm⟩:=Dy.mp hm
 dsimp only at hm
 split at hm
 ·rename_i hl
  cases hm
  intro p hp
  obtain⟨cs,fb⟩:=μ
  refine gr (hS.more hp) (hE.more hp) h1 fun vs H2 μ2 e2 s2 r2=>?_
  obtain⟨eF,sF,nF,rF,hF⟩:=Ext.shut (o':=.dK (eD [] vs)) hp (hS.notMem hp).2 e2 s2
  refine⟨hF,vs,rfl,by rw [r2.length];exact hl,post _ _ _ eF sF ?_⟩
  have rr:=(rF _ _ r2).merge KR.nil
  have:=Rep.dct (K:=X.K) (am (H:=H2) (o:=.dK (eD [] vs))) nF rr.reps
  rw [rr.keys] at this
  exact this
 ·cases hm
noncomputable def sm(S:aa):D->Option (List (ao×D))
 | .dct ks vs=>some (ks.zip vs)
 | .ref r=>match S[r]? with | some (.dct ks vs)=>some (ks.zip vs) | _=>none
 | _=>none
def qH{v:V}{d:D}{kvs:List (ao×D)}(s:SOk K μ S H)(r:Rep K μ H v d)(h:sm S d=some kvs):∃ a vs,v=.ref a/\H a=some (.dK vs)/\KR K μ H vs kvs:=by
 cases r with
 | dct hd n rr=>cases h;exact⟨_,_,rfl,hd,KR.of rfl rr⟩
 | ref hr=>
  rename_i a i
  unfold sm at h
  dsimp only at h
  cases q:S[i]? with
  | none=>rw [q] at h;cases h
  | some c=>
   rw [q] at h
   have ck:=s.cell _ _ _ hr q
   cases c with
   | lst _=>cases h
   | dct ks xs=>cases h;obtain⟨vs,e,hk,rr⟩:=ck;exact⟨a,vs,rfl,e,KR.of hk rr⟩
 | _=>cases h
noncomputable def aK(S:aa)(x y:D):Option D:=match sm S x with
 | some kvs=>(ej y).bind fun k=>eZ kvs k
 | none=>fIx S x y
def yD(hu:X.A.units+1<cLine):IxR X (fun x y H Q=>∃ a v,x=.ref a/\DGet H a y (some v)/\Q v H):=by
 intro value slice pins s σ H x y v u Q I rx ry h hs
 obtain⟨a,z,rfl,g,q⟩:=h
 cases rx
 exact tail_any (oN I g) F.slot_dict_getitem.lookup (tI hu I g ry fun w' s' I' rw'=>⟨z,H,I',rw',q⟩) hs
def ix_DX(hu:X.A.units+1<cLine):IxR X (fc X.K aK):=IxR.imp ((yD hu).or ix_D) fun x y H Q ⟨μ,S,dx,dy,dz,hS,h1,h2,h3,post⟩=>by
 unfold aK at h3
 split at h3
 ·rename_i kvs hk
  obtain⟨k,h4,h5⟩:=Dy.mp h3
  obtain⟨a,vs,rfl,ha,rr⟩:=qH hS h1 hk
  obtain⟨v,h6,h7⟩:=rr.val h5
  refine .inl ⟨a,v,rfl,?_,post.here hS h7⟩
  rw [dM h4 h2,<- h6]
  exact DGet.k ha
 ·exact .inr ⟨μ,S,dx,dy,dz,hS,h1,h2,h3,post⟩
def CW{a b:Expr}{ma mb:ME}{pos:Pos}(hu:X.A.units+1<cLine)(ha:DE X a ma)(hb:DE X b mb)(hs:gm b:=by intro _ _;rfl):DE X (.Subscript a b pos) (ay aK ma mb):=
 PE.imp (zS (ix_DX hu) ha hb hs) fun _ _ _ h=>lx h
end
end M
namespace L2
section
variable{X:Cx}{o e:Expr}{es:List Expr}{to:TE}{t:TA}{name:Str}{apos cpos:Pos}{id:String}{r:V->List V->Hp->VK->Prop}
def tBD(r:V->List V->Hp->VK->Prop)(to:TE)(t:TA):TE:=fun σ H Q=>to σ H fun x H1=>(∃ p,x=.ref p/\IsD H1 p)/\t σ H1 fun xs H2=>r x xs H2 Q
def Be(slot:Slot "dict" name id)(hty:typeOf (.builtin id)=pure (.type "method_descriptor"))(hm:MtR X id r)(ho:PE X o to)(ha:PA X (e::es) t)
  (hbase:attributeBase o name X.env (eval o X.env)=eval o X.env)
  (hfew:((backTo cpos (starEach (e::es) X.env)).all (fun x=>!x.1)&&(backToKw cpos (keywordEach [] X.env)).all (fun x=>x.1.isSome)&&decide ((e::es).length+([]:List Keyword).length+(if ([]:List Keyword).isEmpty then 0 else 1)<30))=true)
  (hline:(apos.endLine == cpos.line)=true) (hs:starEach (e::es) X.env=(false,eval e X.env)::starEach es X.env) (hplain:(backTo cpos (starEach es X.env)).any (·.1)=false) :
  PE X (.Call (.Attribute o name apos) (e::es) [] cpos) (tBD r to t):=by
 intro pins s σ H Q I h
 refine Gf hbase hfew hline rfl (bj (ho pins s σ H _ I h) fun v s1 ⟨x,H1,I1,r1,ty,q1⟩=>?_)
 obtain⟨p,rfl,hq⟩:=ty
 cases r1
 obtain⟨t1,t2,_⟩:=Cj I1 hq
 refine⟨"dict",id,F.plainAttrs_dict,slot,hty,t1,t2,?_⟩
 have hA:=ha cpos pins s1 σ H1 _ I1 q1
 rw [hs] at hA ⊢
 refine Gk (by show (false||(backTo cpos (starEach es X.env)).any (·.1))=false;rw [hplain] <;> rfl) (Gv ?_)
 exact bj hA fun us s2 ⟨vs,H2,I2,r2,q2⟩=>hm pins s2 σ H2 (V.ref p) vs _ us Q I2 (show RelV (V.ref p) (Value.ref p) from rfl) r2 q2
def yo(hu:X.A.units+1<cLine):MtR X "dict.get" (fun x xs H Q=>∃ a y o,x=.ref a/\DGet H a y o/\((xs=[y]/\Q (o.getD .non) H)\/∃ d,xs=[y,d]/\Q (o.getD d) H)):=by
 intro pins s σ H x xs v us Q I rx rv h
 obtain⟨a,y,o,rfl,g,h⟩:=h
 cases rx
 rcases h with ⟨rfl,q⟩ | ⟨d,rfl,q⟩
 ·obtain⟨u,rfl,ru⟩:=rv.one
  exact Dc hu I g ru fun w' s3 I3 rw'=>⟨_,H,I3,rw',q⟩
 ·obtain⟨u,u2,rfl,ru,ru2⟩:=rv.two
  exact Db hu I g ru ru2 fun w' s4 I4 rw'=>⟨_,H,I4,rw',q⟩
end
end L2
namespace M
open L2
section
variable{X:Cx}{K:W.Frag}{μ μ':Fp}{H H':Hp}{S S':aa}
def nG{p a:Addr}{cs fb:List Addr}(n:(⟨cs,p::fb⟩:Fp).no a):(⟨cs++[p],fb⟩:Fp).no a:=
 ⟨fun z=>(DX.mp z).elim n.1 fun z=>n.2 (by rw [Ei.mp z];exact DF),fun z=>n.2 (DC _ z)⟩
def Rep.adopt{p:Addr}{cs fb:List Addr}{v:V}{d:D}(r:Rep K ⟨cs,p::fb⟩ H v d):Rep K ⟨cs++[p],fb⟩ H v d:=r.imp (fun h n=>⟨h,nG n⟩) fun h=>mQ rfl h
def Reps.adopt{p:Addr}{cs fb:List Addr}{v:List V}{d:List D}(r:Reps K ⟨cs,p::fb⟩ H v d):Reps K ⟨cs++[p],fb⟩ H v d:=r.imp (fun h n=>⟨h,nG n⟩) fun h=>mQ rfl h
theorem KR.adopt{p:Addr}{cs fb:List Addr}:∀ {vs ds},KR K ⟨cs,p::fb⟩ H vs ds->KR K ⟨cs++[p],fb⟩ H vs ds
 | _,_,.nil=>.nil
 | _,_,.cons h t=>.cons h.adopt (KR.adopt t)
def Ext.shutR{p:Addr}{o:HO}{cs fb:List Addr}{μ2:Fp}{H2:Hp}{S2:aa}{vs:List (ao×V)}{kvs:List (ao×D)}(hp:H p=none)(hn:p ∉ fb)(e:Ext ⟨cs,p::fb⟩ (upd H p o) μ2 H2)(s:SOk K μ2 S2 H2)(r:KR K μ2 H2 vs kvs) :
  Ext ⟨cs,fb⟩ H ⟨μ2.cs++[p],fb⟩ (upd H2 p (.dK vs))/\SOk K ⟨μ2.cs++[p],fb⟩ (S2++[.dct (kvs.map (·.1)) (kvs.map (·.2))]) (upd H2 p (.dK vs))/\H2 p=some o:=by
 have pm:p ∈ μ2.fb:=by rw [e.fb];exact DF
 have ncs:p ∉ μ2.cs:=s.disj p pm
 have ncs0:p ∉ cs:=fun z=>ncs (by obtain⟨l,q,_⟩:=e.pre;rw [q];exact DV _ z)
 have ef:μ2.fb=p::fb:=e.fb
 obtain⟨cs2,fb2⟩:=μ2
 simp only at ef pm ncs
 subst ef
 refine⟨⟨rfl,?_,fun a o2 na ha=>?_,fun a ha=>?_⟩,⟨?_,by simp [s.len],fun i a c h1 h2=>?_,fun a ha=>?_,fun a ha z=>?_⟩,e.keep p o ncs0 am⟩
 ·obtain⟨l,q,hl⟩:=e.pre
  simp only at q
  refine⟨l++[p],by rw [q,ED],fun a ha=>?_⟩
  rcases DX.mp ha with ha | ha
  ·have:=hl a ha
   by_cases z:a=p
   ·subst z;exact hp
   ·rwa [aj z] at this
  ·rw [Ei.mp ha];exact hp
 ·have z:=aI ha hp
  rw [aj z]
  exact e.keep a o2 na ((aj z).trans ha)
 ·by_cases z:a=p
  ·subst z;rw [am];simp
  ·rw [aj z]
   rcases DX.mp ha with ha | ha
   ·exact e.dom a ha
   ·exact absurd (Ei.mp ha) z
 ·exact EN.mpr ⟨s.nd,by simp,fun a ha b hb=>by rw [Ei.mp hb];exact fun z=>ncs (z ▸ ha)⟩
 ·have sc:=s.chg (o:=.dK vs) pm
  by_cases hi:i<cs2.length
  ·rw [Ed hi] at h1
   rw [Ed (by rw [<- s.len];exact hi)] at h2
   have ck:=sc.cell i a c h1 h2
   cases c with
   | lst ds=>obtain⟨ws,h,r⟩:=ck;exact⟨ws,h,r.adopt⟩
   | dct ks ds=>obtain⟨ws,h,q,r⟩:=ck;exact⟨ws,h,q,r.adopt⟩
  ·have hi':i=cs2.length:=by
    have:=(DH.mp h1).1
    simp at this;omega
   subst hi'
   rw [Es (DK _)] at h1
   rw [show cs2.length=S2.length from s.len,Es (DK _)] at h2
   simp at h1 h2
   subst h1 h2
   have rc:=(r.chg (o:=.dK vs) pm).adopt
   exact⟨vs,am,rc.keys.symm,rc.reps⟩
 ·by_cases z:a=p
  ·subst z;rw [am];simp
  ·rw [aj z];exact s.fdom a (DC _ ha)
 ·rcases DX.mp z with z | z
  ·exact s.disj a (DC _ ha) z
  ·exact hn (Ei.mp z ▸ ha)
noncomputable def df(ms:List (ME×ME)):ME:=fun env S=>(db ms env S).bind fun z=>if z.1.length<=15 then some (.ref z.2.length,z.2++[.dct ((bR [] z.1).map (·.1)) ((bR [] z.1).map (·.2))]) else none
def wV{pos:Pos}{keys:List (Option Expr)}{values:List Expr}{ms:List (ME×ME)}(h:DPs X pos keys values ms)(hall:keys.all (·.isSome)=true)(hl:keys.length=values.length)(h0:keys≠[])(h15:keys.length<=15) :
  DE X (.Dict keys values pos) (df ms):=PE.imp (qN h hall hl h0 h15) fun σ H Q ⟨μ,S,env,d,S',hS,hE,hm,post⟩=>by
 obtain⟨⟨kvs,S1⟩,h1,hm⟩:=Dy.mp hm
 dsimp only at hm
 split at hm
 ·rename_i hl
  cases hm
  intro p hp
  obtain⟨cs,fb⟩:=μ
  refine gr (hS.more hp) (hE.more hp) h1 fun vs H2 μ2 e2 s2 r2=>?_
  obtain⟨eF,sF,hF⟩:=Ext.shutR hp (hS.notMem hp).2 e2 s2 (r2.merge KR.nil)
  exact⟨hF,vs,rfl,by rw [r2.length];exact hl,post _ _ _ eF sF (.ref (by rw [<- s2.len];simp))⟩
 ·cases hm
noncomputable def wZ(S:aa):D->Bool
 | .dct _ _=>true
 | .ref r=>match S[r]? with | some (.dct _ _)=>true | _=>false
 | _=>false
def zu{v:V}{d:D}(s:SOk K μ S H)(r:Rep K μ H v d)(h:wZ S d=true):∃ a,v=.ref a/\IsD H a:=by
 cases r with
 | dct hd n rr=>exact⟨_,rfl,.inl ⟨_,.inl hd⟩⟩
 | ref hr=>
  rename_i a i
  unfold wZ at h
  dsimp only at h
  cases q:S[i]? with
  | none=>rw [q] at h;cases h
  | some c=>
   rw [q] at h
   have ck:=s.cell _ _ _ hr q
   cases c with
   | lst _=>cases h
   | dct ks xs=>obtain⟨vs,e,hk,rr⟩:=ck;exact⟨a,rfl,.inl ⟨_,.inl e⟩⟩
 | _=>cases h
noncomputable def lh:MF:=fun o ds S=>(sm S o).bind fun kvs=>match ds with
 | [y]=>(ej y).bind fun k=>some ((eZ kvs k).getD .non,S)
 | [y,d]=>(ej y).bind fun k=>some ((eZ kvs k).getD d,S)
 | _=>none
theorem KR.getD{k:ao}{z:V}{e:D}{vs ds}(t:KR K μ H vs ds)(r:Rep K μ H z e):Rep K μ H ((gq vs k).getD z) ((eZ ds k).getD e):=by
 cases q:eZ ds k with
 | none=>rw [t.valN q];exact r
 | some d=>obtain⟨v,h1,h2⟩:=t.val q;rw [h1];exact h2
def yp(hu:X.A.units+1<cLine):MtR X "dict.get" (AM X.K lh):=MtR.imp (yo hu) fun x vs H Q ⟨μ,S,dx,ds,d,S',hS,r1,r2,h,post⟩=>by
 obtain⟨kvs,hk,h⟩:=Dy.mp h
 obtain⟨a,ws,rfl,ha,rr⟩:=qH hS r1 hk
 split at h
 ·rename_i y
  obtain⟨k,h4,h5⟩:=Dy.mp h
  cases h5
  obtain⟨v,rfl,rv⟩:=r2.one
  have:=dM h4 rv
  subst this
  exact⟨a,_,_,rfl,DGet.k ha,.inl ⟨rfl,post.here hS (rr.getD .non)⟩⟩
 ·rename_i y e
  obtain⟨k,h4,h5⟩:=Dy.mp h
  cases h5
  obtain⟨v,w,rfl,rv,rw0⟩:=r2.two
  have:=dM h4 rv
  subst this
  exact⟨a,_,_,rfl,DGet.k ha,.inr ⟨w,rfl,post.here hS (rr.getD rw0)⟩⟩
 ·cases h
noncomputable def fUpdD:MF:=fun o ds S=>match o,ds with
 | .ref r,[.dct ks2 vs2]=>match S[r]? with
  | some (.dct ks vs)=>if ks.length+ks2.length<=sizeLine then some (.non,S.set r (.dct ((bR (ks.zip vs) (ks2.zip vs2)).map (·.1)) ((bR (ks.zip vs) (ks2.zip vs2)).map (·.2)))) else none
  | _=>none
 | _,_=>none
noncomputable def cw(f:MF)(o:ME)(ms:MA):ME:=fun env S=>(o env S).bind fun p=>if wZ p.2 p.1=true then (ms env p.2).bind fun q=>f p.1 q.1 q.2 else none
def wU{o e:Expr}{es:List Expr}{mo:ME}{ms:MA}{f:MF}{name:Str}{id:String}{apos cpos:Pos}(slot:Slot "dict" name id)(hty:typeOf (.builtin id)=pure (.type "method_descriptor"))(hm:MtR X id (AM X.K f))(ho:DE X o mo)(ha:DA X (e::es) ms)
  (hbase:attributeBase o name X.env (eval o X.env)=eval o X.env)
  (hfew:((backTo cpos (starEach (e::es) X.env)).all (fun x=>!x.1)&&(backToKw cpos (keywordEach [] X.env)).all (fun x=>x.1.isSome)&&decide ((e::es).length+([]:List Keyword).length+(if ([]:List Keyword).isEmpty then 0 else 1)<30))=true)
  (hline:(apos.endLine == cpos.line)=true) (hs:starEach (e::es) X.env=(false,eval e X.env)::starEach es X.env) (hpl:(backTo cpos (starEach es X.env)).any (·.1)=false) :
  DE X (.Call (.Attribute o name apos) (e::es) [] cpos) (cw f mo ms):=
 PE.imp (Be slot hty hm ho ha hbase hfew hline hs hpl) fun σ H Q ⟨μ,S,env,d,S',hS,hE,h,post⟩=>by
  obtain⟨⟨x,S1⟩,h1,h⟩:=Dy.mp h
  dsimp only at h
  split at h
  ·rename_i hl
   obtain⟨⟨xs,S2⟩,h2,h⟩:=Dy.mp h
   refine⟨μ,S,env,x,S1,hS,hE,h1,fun v H1 μ1 e1 s1 r1=>⟨?_,μ1,S1,env,xs,S2,s1,hE.mono e1,h2,fun vs H2 μ2 e2 s2 r2=>⟨μ2,S2,x,xs,d,S',s2,r1.mono e2,r2,h,(post.ext e1).ext e2⟩⟩⟩
   exact zu s1 r1 hl
  ·cases h
end
end M
namespace L2
section
variable{X:Cx}{a b:Expr}{rest:List Expr}{ta tb:TE}{pos:Pos}
def tAndX(K:W.Frag)(ta tb:TE):TE:=fun σ H Q=>ta σ H fun x H1=>∃ c,tY K x H1 c/\if c=true then tb σ H1 Q else Q x H1
def tOrX(K:W.Frag)(ta tb:TE):TE:=fun σ H Q=>ta σ H fun x H1=>∃ c,tY K x H1 c/\if c=true then Q x H1 else tb σ H1 Q
def tNotX(K:W.Frag)(ta:TE):TE:=fun σ H Q=>ta σ H fun x H1=>∃ c,tY K x H1 c/\Q (.bl (!c)) H1
def xZ(ha:PE X a ta)(hb:PE X (.BoolOp .And (b::rest) pos) tb):PE X (.BoolOp .And (a::b::rest) pos) (tAndX X.K ta tb):=by
 intro pins s σ H Q I h
 refine BoolOp_and (bj (ha pins s σ H _ I h) fun v s1 ⟨x,H1,I1,r1,q1⟩=>?_)
 obtain⟨c,tv,q1⟩:=q1
 refine bj (lv pins s1 σ H1 x v (fun k H'=>k=c/\H'=H1) I1 r1 ⟨c,tv,rfl,rfl⟩) fun k s2 z=>?_
 obtain⟨H2,I2,rfl,rfl⟩:=z
 cases k with
 | true=>exact hb pins s2 σ H2 Q I2 q1
 | false=>exact⟨x,H2,I2,r1,q1⟩
def Ba(ha:PE X a ta)(hb:PE X (.BoolOp .Or (b::rest) pos) tb):PE X (.BoolOp .Or (a::b::rest) pos) (tOrX X.K ta tb):=by
 intro pins s σ H Q I h
 refine BoolOp_or (bj (ha pins s σ H _ I h) fun v s1 ⟨x,H1,I1,r1,q1⟩=>?_)
 obtain⟨c,tv,q1⟩:=q1
 refine bj (lv pins s1 σ H1 x v (fun k H'=>k=c/\H'=H1) I1 r1 ⟨c,tv,rfl,rfl⟩) fun k s2 z=>?_
 obtain⟨H2,I2,rfl,rfl⟩:=z
 cases k with
 | false=>exact hb pins s2 σ H2 Q I2 q1
 | true=>exact⟨x,H2,I2,r1,q1⟩
def xU(ha:PE X a ta):PE X (.UnaryOp .Not a pos) (tNotX X.K ta):=by
 intro pins s σ H Q I h
 refine UnaryOp_ (bj (ha pins s σ H _ I h) fun v s1 ⟨x,H1,I1,r1,q1⟩=>?_)
 obtain⟨c,tv,q1⟩:=q1
 refine not_of (bj (lv pins s1 σ H1 x v (fun k H'=>k=c/\H'=H1) I1 r1 ⟨c,tv,rfl,rfl⟩) fun k s2 z=>?_)
 obtain⟨H2,I2,rfl,rfl⟩:=z
 exact⟨.bl (!k),H2,I2,rfl,q1⟩
end
end L2
namespace M
open L2
section
variable{X:Cx}{K:W.Frag}{μ μ':Fp}{H H':Hp}{S S':aa}{a b:Expr}{ma mb:ME}{rest:List Expr}{pos:Pos}
noncomputable def vt(a b:ME):ME:=fun env S=>(a env S).bind fun p=>(iF p.2 p.1).bind fun k=>if k=true then b env p.2 else some (p.1,p.2)
noncomputable def By(a b:ME):ME:=fun env S=>(a env S).bind fun p=>(iF p.2 p.1).bind fun k=>if k=true then some (p.1,p.2) else b env p.2
noncomputable def vi(a:ME):ME:=fun env S=>(a env S).bind fun p=>(iF p.2 p.1).bind fun k=>some (.bl (!k),p.2)
def zt(ha:DE X a ma)(hb:DE X (.BoolOp .And (b::rest) pos) mb):DE X (.BoolOp .And (a::b::rest) pos) (vt ma mb):=PE.imp (xZ ha hb) fun σ H Q ⟨μ,S,env,d,S',hS,hE,hm,post⟩=>by
 obtain⟨⟨x,S1⟩,h1,hm⟩:=Dy.mp hm
 obtain⟨k,h2,hm⟩:=Dy.mp hm
 refine⟨μ,S,env,x,S1,hS,hE,h1,fun v H1 μ1 e1 s1 r1=>⟨k,im s1 r1 h2,?_⟩⟩
 cases k with
 | true=>rw [DU rfl];exact⟨μ1,S1,env,d,S',s1,hE.mono e1,hm,post.ext e1⟩
 | false=>cases hm;rw [Eh DM];exact post _ H1 μ1 e1 s1 r1
def CT(ha:DE X a ma)(hb:DE X (.BoolOp .Or (b::rest) pos) mb):DE X (.BoolOp .Or (a::b::rest) pos) (By ma mb):=PE.imp (Ba ha hb) fun σ H Q ⟨μ,S,env,d,S',hS,hE,hm,post⟩=>by
 obtain⟨⟨x,S1⟩,h1,hm⟩:=Dy.mp hm
 obtain⟨k,h2,hm⟩:=Dy.mp hm
 refine⟨μ,S,env,x,S1,hS,hE,h1,fun v H1 μ1 e1 s1 r1=>⟨k,im s1 r1 h2,?_⟩⟩
 cases k with
 | false=>rw [Eh DM];exact⟨μ1,S1,env,d,S',s1,hE.mono e1,hm,post.ext e1⟩
 | true=>cases hm;rw [DU rfl];exact post _ H1 μ1 e1 s1 r1
def zk(ha:DE X a ma):DE X (.UnaryOp .Not a pos) (vi ma):=PE.imp (xU ha) fun σ H Q ⟨μ,S,env,d,S',hS,hE,hm,post⟩=>by
 obtain⟨⟨x,S1⟩,h1,hm⟩:=Dy.mp hm
 obtain⟨k,h2,hm⟩:=Dy.mp hm
 cases hm
 exact⟨μ,S,env,x,_,hS,hE,h1,fun v H1 μ1 e1 s1 r1=>⟨k,im s1 r1 h2,post _ H1 μ1 e1 s1 (.bl _)⟩⟩
end
section
variable{X:Cx}{K:W.Frag}{μ μ':Fp}{H H':Hp}{S S':aa}{tg iter:Expr}{pos:Pos}
noncomputable def bJ(g:MG)(body:MS)(r:Nat):Nat->Nat->ai->aa->Option il
 | 0,_,_,_=>none
 | f+1,i,env,S=>match S[r]? with
  | some (.lst xs)=>match xs[i]? with
   | none=>some (.nx env S)
   | some d=>(g d env S).bind fun p=>(body p.1 p.2).bind fun o=>match o with
    | .nx e s=>bJ g body r f (i+1) e s
    | .ct e s=>bJ g body r f (i+1) e s
    | .bk e s=>some (.nx e s)
    | .rt d s=>some (.rt d s)
  | _=>none
noncomputable def dw(m:ME)(g:MG)(body:MS):MS:=fun env S=>(m env S).bind fun p=>match p.1 with
 | .ref r=>bJ g body r 2000 0 env p.2
 | .lst xs=>bd g body xs env p.2
 | .rol xs=>bd g body xs env p.2
 | .tup xs=>bd g body xs env p.2
 | _=>none
noncomputable def mForX(m:ME)(g:MG)(body:MS):MS:=fun env S=>(m env S).bind fun p=>match p.1 with
 | .ref r=>bJ g body r 2000 0 env p.2
 | _=>none
def zc{body:List Stmt}{mi:ME}{g:MG}{mb:MS}(hp:PassesOwn (model X.prog X.w) X.A X.env X.xe)(hc:X.calm=true)(hi:DE X iter mi)(hg:DG X tg g)(hb:lu X body mb)
  (hs:∀ x,foldedSetIterable iter X.env x=pure x):DS X (.For tg iter body [] pos) (mForX mi g mb):=PS.imp (uE hp hc (xR hi) hg hb hs) fun E σ H ⟨μ,S,env,o,hS,hE,hm,post⟩=>by
 obtain⟨⟨d,S1⟩,h1,hm⟩:=Dy.mp hm
 dsimp only at hm
 split at hm
 ·rename_i r
  refine⟨μ,S,env,_,S1,hS,hE,h1,fun v H1 μ1 e1 s1 r1=>?_⟩
  cases r1 with
  | @ref a _ ha=>
   have cell:∀ {μ' H' S' xs},Ext μ1 H1 μ' H'->SOk X.K μ' S' H'->S'[r]?=some (.lst xs)->∃ vs,H' a=some (.lst vs)/\Reps X.K μ' H' vs xs:=fun {μ' H' S' xs} e s q=>by
    obtain⟨l,ql,_⟩:=e.pre
    have ha':μ'.cs[r]?=some a:=by rw [ql,Ed (DH.mp ha).1];exact ha
    exact s.cell r a _ ha' q
   have hq0:∃ vs,fK X.K H1 a vs:=by
    unfold bJ at hm
    split at hm
    ·rename_i xs q
     obtain⟨vs,hv,_⟩:=cell s1.ext s1 q
     exact⟨vs,.inl (.inl hv)⟩
    ·cases hm
   refine⟨a,rfl,hq0,?_⟩
   refine⟨fun i n σ H=>∃ μ' S' env' o',Ext μ1 H1 μ' H/\SOk X.K μ' S' H/\EOk X.K μ' H σ env'/\bJ g mb r n i env' S'=some o'/\PostS X.K μ' H o' E,
    ⟨2000,μ1,S1,env,o,s1.ext,s1,hE.mono e1,hm,post.ext e1⟩,?_⟩
   rintro i n σ' H' ⟨μ',S',env',o',e',s',r',hl,post'⟩
   cases n with
   | zero=>cases hl
   | succ n=>
    unfold bJ at hl
    split at hl
    ·rename_i xs q
     obtain⟨vs,hv,rv⟩:=cell e' s' q
     have hsq:fK X.K H' a vs:=.inl (.inl hv)
     split at hl
     ·rename_i hx
      cases hl
      refine .inl ⟨⟨vs,hsq,?_⟩,post' σ' H' μ' s'.ext s' r'⟩
      rw [rv.length];simpa using hx
     ·rename_i d hx
      obtain⟨w,hw,rw0⟩:=rv.get hx
      refine .inr ⟨⟨vs,w,hsq,hw⟩,fun σ2 H2=>∃ μ2 S2 env2 o2,Ext μ1 H1 μ2 H2/\SOk X.K μ2 S2 H2/\EOk X.K μ2 H2 σ2 env2/\bJ g mb r n (i+1) env2 S2=some o2/\PostS X.K μ2 H2 o2 E,
       fun σ2 H2 ⟨μ2,S2,env2,o2,q1,q2,q3,q4,q5⟩=>⟨n,by omega,μ2,S2,env2,o2,q1,q2,q3,q4,q5⟩,fun x H2 y=>?_⟩
      obtain⟨e2,hy⟩:=y
      subst e2
      have ex:x=w:=by have:=hy vs hsq;rw [hw] at this;exact(Ek this).symm
      subst ex
      obtain⟨⟨env3,S3⟩,h3,hl⟩:=Dy.mp hl
      obtain⟨o4,h4,hl⟩:=Dy.mp hl
      refine⟨μ',S',env',d,env3,S3,s',r',rw0,h3,fun σ3 H3 μ3 e3 s3 r3=>⟨μ3,S3,env3,o4,s3,r3,h4,?_⟩⟩
      have eT:Ext μ1 H1 μ3 H3:=e'.trans e3
      have pT:PostS X.K μ3 H3 o' E:=post'.ext e3
      cases o4 with
      | nx e5 s5=>exact fun σ6 H6 μ6 e6 s6 r6=>⟨μ6,s5,e5,o',eT.trans e6,s6,r6,hl,pT.ext e6⟩
      | ct e5 s5=>exact fun σ6 H6 μ6 e6 s6 r6=>⟨μ6,s5,e5,o',eT.trans e6,s6,r6,hl,pT.ext e6⟩
      | bk e5 s5=>cases hl;exact pT
      | rt d5 s5=>cases hl;exact pT
    ·cases hl
 ·cases hm
def zd{body:List Stmt}{mi:ME}{g:MG}{mb:MS}(hp:PassesOwn (model X.prog X.w) X.A X.env X.xe)(hc:X.calm=true)(hi:DE X iter mi)(hg:DG X tg g)(hb:lu X body mb)
  (hs:∀ x,foldedSetIterable iter X.env x=pure x):DS X (.For tg iter body [] pos) (dw mi g mb):=by
 have hA:=zc (pos:=pos) hp hc hi hg hb hs
 have hB:=wI (pos:=pos) hp hc (qv (tg:=tg) hi) hg hb hs
 intro pins s σ H E I ⟨μ,S,env,o,hS,hE,h,post⟩
 obtain⟨⟨x,S1⟩,h1,h⟩:=Dy.mp h
 cases x with
 | ref r=>exact hA pins s σ H E I ⟨μ,S,env,o,hS,hE,by show (mi env S).bind _=_;rw [h1];exact h,post⟩
 | lst xs=>exact hB pins s σ H E I ⟨μ,S,env,o,hS,hE,by show ((mi env S).bind _).bind _=_;rw [h1];exact h,post⟩
 | rol xs=>exact hB pins s σ H E I ⟨μ,S,env,o,hS,hE,by show ((mi env S).bind _).bind _=_;rw [h1];exact h,post⟩
 | tup xs=>exact hB pins s σ H E I ⟨μ,S,env,o,hS,hE,by show ((mi env S).bind _).bind _=_;rw [h1];exact h,post⟩
 | _=>cases h
end
end M
namespace L2
section
variable{X:Cx}{pos:Pos}
theorem jv:∀ {ns:List Int} {us:List Value},Vals (ns.map V.int) us->∃ xs:List (Int×Tok),us=xs.map (fun p=>Value.int p.1 p.2)/\xs.map (·.1)=ns
 | [],_,.nil=>⟨[],rfl,rfl⟩
 | n::ns,_,.cons ⟨t,e⟩ r=>by
  subst e
  obtain⟨xs,e1,e2⟩:=jv r
  exact⟨(n,t)::xs,by rw [e1];rfl,by rw [DZ,e2]⟩
def tQ(hc:X.calm=true):CallR X (.builtin "max") (fun xs H Q=>∃ p ns,xs=[.ref p]/\fK X.K H p (ns.map V.int)/\ns≠[]/\∀ m,m∈ns->(∀ a∈ns,a<=m)->Q (.int m) H):=by
 intro pins s σ H xs us Q I r h
 obtain⟨p,ns,rfl,hq,h0,q⟩:=h
 obtain⟨u,rfl,rx⟩:=er r
 cases rx
 obtain⟨its,rv,pl,hz⟩:=I.list hq
 obtain⟨ps,e1,e2⟩:=jv rv
 have hl:s.heap.IsList p (intItems ps.toArray):=by
  have:=pl.isList
  rw [e1] at this
  have e:intItems ps.toArray=(ps.map (fun p=>Value.int p.1 p.2)).toArray:=by simp [intItems]
  rw [e];exact this
 have hp:0<ps.toArray.size:=by
  rw [DB]
  cases ps with
  | nil=>exact absurd e2.symm h0
  | cons _ _=>simp
 refine max_intList (I.ok.hd hc) hl hp fun v h' tk hv kk=>?_
 obtain⟨g1,g2⟩:=argBest_gt (numAt ps.toArray) (ps.toArray.size - 1)
 generalize argBest (fun i j=>decide (numAt ps.toArray i>numAt ps.toArray j)) (ps.toArray.size - 1)=b at hv g1 g2
 have hb:b<ps.length:=by rw [DB] at g1 hp;omega
 have nb:∀ j (hj:j<ps.length),numAt ps.toArray j=ps[j].1:=fun j hj=>by
  simp [numAt,hj]
 have ev:v=Value.int ps[b].1 ps[b].2:=by
  simp [intItems,hb] at hv
  exact hv.symm
 subst ev
 refine⟨.int ps[b].1,H,I.kept kk,⟨_,rfl⟩,q _ ?_ fun a ha=>?_⟩
 ·rw [<- e2];exact EO.mpr ⟨_,List.getElem_mem hb,rfl⟩
 ·rw [<- e2] at ha
  obtain⟨x,hx,rfl⟩:=EO.mp ha
  obtain⟨j,hj,rfl⟩:=List.mem_iff_getElem.mp hx
  have:=g2 j (by rw [DB];omega)
  rw [nb j hj,nb b hb] at this
  exact this
end
end L2
namespace M
open L2
section
variable{X:Cx}{K:W.Frag}{μ μ':Fp}{H H':Hp}{S S':aa}{pos:Pos}
noncomputable def rC(S:aa):D->Option (List D)
 | .lst xs=>some xs
 | .ref r=>match S[r]? with | some (.lst xs)=>some xs | _=>none
 | _=>none
def kQ{v:V}{d:D}{ds:List D}(s:SOk K μ S H)(r:Rep K μ H v d)(h:rC S d=some ds):∃ a vs,v=.ref a/\H a=some (.lst vs)/\Reps K μ H vs ds:=by
 cases r with
 | lst hd n rr=>cases h;exact⟨_,_,rfl,hd,rr⟩
 | ref hr=>
  rename_i a i
  unfold rC at h
  dsimp only at h
  cases q:S[i]? with
  | none=>rw [q] at h;cases h
  | some c=>
   rw [q] at h
   have ck:=s.cell _ _ _ hr q
   cases c with
   | lst xs=>cases h;obtain⟨vs,e,rr⟩:=ck;exact⟨a,vs,rfl,e,rr⟩
   | dct ks xs=>cases h
 | _=>cases h
noncomputable def vR:D->Bool
 | .ref _=>true
 | _=>false
noncomputable def aE(S:aa)(x y:D):Option D:=if vR x||vR y then (rC S x).bind fun xs=>(rC S y).bind fun ys=>if xs.length+ys.length<=sizeLine then some (.lst (xs++ys)) else none else we S x y
def yh:OpR X (binaryOp .Add) (fc X.K aE):=OpR.imp (OpR.or uU Bt) fun x y H Q ⟨μ,S,dx,dy,dz,hS,h1,h2,h3,post⟩=>by
 unfold aE at h3
 split at h3
 ·obtain⟨xs,e1,h3⟩:=Dy.mp h3
  obtain⟨ys,e2,h3⟩:=Dy.mp h3
  split at h3
  ·rename_i hl
   cases h3
   obtain⟨a,vs,rfl,q1,r1⟩:=kQ hS h1 e1
   obtain⟨b,ws,rfl,q2,r2⟩:=kQ hS h2 e2
   have l1:=r1.length
   have l2:=r2.length
   exact .inl ⟨a,b,vs,ws,rfl,rfl,q1,q2,by omega,fun p hp=>post.lst hS hp (r1.append r2)⟩
  ·cases h3
 ·exact .inr ⟨μ,S,dx,dy,dz,hS,h1,h2,h3,post⟩
noncomputable def fQ:List Int->Int
 | []=>0
 | [a]=>a
 | a::r=>max a (fQ r)
theorem kJ:∀ {ns:List Int},ns≠[]->fQ ns∈ns/\∀ a∈ns,a<=fQ ns
 | [a],_=>⟨by simp [fQ],fun b hb=>by simp at hb;simp [fQ,hb]⟩
 | a::b::r,_=>by
  obtain⟨h1,h2⟩:=kJ (ns:=b::r) (by simp)
  show max a (fQ (b::r))∈_/\∀ c∈_,c<=max a (fQ (b::r))
  generalize fQ (b::r)=m at h1 h2
  refine⟨?_,fun c hc=>?_⟩
  ·by_cases h:m<=a
   ·rw [Int.max_eq_left h];exact DF
   ·rw [Int.max_eq_right (by omega)];exact DC _ h1
  ·rcases Ep.mp hc with rfl | hc
   ·exact Int.le_max_left _ _
   ·exact Int.le_trans (h2 c hc) (Int.le_max_right _ _)
def nL{ns:List Int}{m:Int}(h0:ns≠[])(h1:m∈ns)(h2:∀ a∈ns,a<=m):m=fQ ns:=by
 obtain⟨g1,g2⟩:=kJ h0
 have:=h2 _ g1
 have:=g2 _ h1
 omega
noncomputable def gd(S:aa):List D->Option D
 | [d]=>(gL S d).bind fun ns=>if ns.isEmpty then none else some (.int (fQ ns))
 | ds=>Ah S ds
def CallR.or{f:Value}{r r':List V->Hp->VK->Prop}(h:CallR X f r)(h':CallR X f r'):CallR X f (fun xs H Q=>r xs H Q\/r' xs H Q):=by
 intro pins s σ H xs us Q I rv q
 rcases q with q | q
 ·exact h pins s σ H xs us Q I rv q
 ·exact h' pins s σ H xs us Q I rv q
def tV(hc:X.calm=true):CallR X (.builtin "max") (su X.K (ak gd)):=CallR.imp (CallR.or (tQ hc) (tW hc)) fun xs H Q ⟨μ,S,ds,d,S',hS,hr,hm,post⟩=>by
 obtain⟨rfl,hm'⟩:=bb hm
 match ds,hr,hm,hm' with
 | [d0],hr,hm,hm'=>
  obtain⟨ns,h1,h2⟩:=Dy.mp hm'
  split at h2
  ·cases h2
  ·rename_i h0
   cases h2
   have h0:ns≠[]:=fun z=>h0 (by rw [z];rfl)
   obtain⟨v,rfl,rv⟩:=hr.one
   obtain⟨b,rfl,hq,h64⟩:=qg hS rv h1
   refine .inl ⟨b,ns,rfl,hq,h0,fun m m1 m2=>?_⟩
   rw [nL h0 m1 m2]
   exact post.here hS (.int _)
 | [],hr,hm,hm'=>cases hm'
 | _::_::_,hr,hm,hm'=>exact .inr ⟨μ,_,_,d,_,hS,hr,hm,post⟩
noncomputable def qX(t:MT)(body:MS):Nat->ai->aa->Option il
 | 0,_,_=>none
 | f+1,env,S=>(t env S).bind fun p=>if p.1=true then (body env p.2).bind fun o=>match o with
   | .nx e s=>qX t body f e s
   | .ct e s=>qX t body f e s
   | .bk e s=>some (.nx e s)
   | .rt d s=>some (.rt d s)
  else some (.nx env p.2)
end
inductive mR:List (ao×Value)->List (ao×D)->Prop
 | nil:mR [] []
 | cons {k:ao} {v:Value} {d:D} {vs:List (ao×Value)} {ds:List (ao×D)} (x:V) (h:RelV x v) (r:∀ K μ H,Rep K μ H x d) (t:mR vs ds):mR ((k,v)::vs) ((k,d)::ds)
structure xk(w:World)(K:W.Frag)(mg:Str->Option Value)(x:Str)(l:List (ao×D)):Prop where
 ex:∃ (a:Addr) (vs:List (ao×Value)),mg x=some (.ref a)/\(∀ (P:Program) (h:Heap),K.In h->h.DictOf (av P w) a vs)/\mR vs l
section
variable{X:Cx}
def Cg{a:Addr}{vs:List (ao×Value)}(hd:∀ (P:Program) (h:Heap),X.K.In h->h.DictOf (av P X.w) a vs):IxR X (fun x y H Q=>∃ k v z,x=.ref a/\y=kV k/\valueAt vs k=some v/\RelV z v/\Q z H):=by
 intro value slice pins s σ H x y v u Q I rx ry h hs
 obtain⟨k,v',z,rfl,rfl,hv,rz,q⟩:=h
 cases rx
 have dd:=hd X.prog s.heap I.kIn
 exact tail_any dd.typeIs F.slot_dict_getitem.lookup (wpAny_getItem_of (jo ry) dd.mapOf hv ⟨z,H,I.tok _,rz,q⟩) hs
end
section
variable{X:Cx}{K:W.Frag}{μ:Fp}{H:Hp}{S:aa}
noncomputable def fIndex:MF:=fun o ds S=>match ds with
 | [x]=>if ka S o=true then (dH S o).bind fun ys=>if aH 40 x=true/\ys.all (aH 39)=true/\ys.length<=sizeLine then (ys.findIdx? fun d=>eo d x).bind fun j=>some (.int (j:Nat),S) else none else none
 | _=>none
def oX{o:Expr}{name:Str}{env:Env}{w:Sem Value}(h:(match o with | .Call _ _ _ _=>false | _=>true)=true):attributeBase o name env w=w:=by
 cases o <;> first | rfl | cases h
end
section
variable{X:Cx}{K:W.Frag}{μ μ':Fp}{H H':Hp}{S S':aa}{tg iter:Expr}{pos:Pos}
noncomputable def rA(g:MG)(t:MT)(e:ME)(r:Nat):Nat->Nat->ai->aa->Option (List D×aa)
 | 0,_,_,_=>none
 | f+1,i,env,S=>match S[r]? with
  | some (.lst xs)=>match xs[i]? with
   | none=>some ([],S)
   | some d=>(g d env S).bind fun p=>(t p.1 p.2).bind fun b=>if b.1=true then (e p.1 b.2).bind fun y=>(rA g t e r f (i+1) p.1 y.2).bind fun z=>some (y.1::z.1,z.2) else rA g t e r f (i+1) p.1 b.2
  | _=>none
end
end M
namespace L2
section
variable{X:Cx}
def tN:CallR X (.type "str") (fun xs H Q=>(∃ i,xs=[.int i]/\i.natAbs.log2<1920/\Q (.str (toString i)) H)\/(xs=[.non]/\Q (.str "None") H)):=by
 intro pins s σ H xs us Q I r h
 rcases h with h | ⟨rfl,q⟩
 ·exact mL pins s σ H xs us Q I r h
 ·obtain⟨u,rfl,hu⟩:=er r
  cases hu
  exact PySem.P.str_of_none ⟨.str _,H,I.tok _,⟨_,rfl⟩,q⟩
end
end L2
namespace M
open L2
section
variable{X:Cx}{K:W.Frag}{μ μ':Fp}{H H':Hp}{S:aa}
noncomputable def fAddS(S:aa)(x y:D):Option D:=match x,y with
 | .str a,.str b=>if a.length+b.length<=sizeLine then some (.str (a++b)) else none
 | _,_=>none
noncomputable def fu(S:aa)(ds:List D):Option D:=match ds with
 | [.int i]=>if i.natAbs.log2<1920 then some (.str (toString i)) else none
 | [.non]=>some (.str "None")
 | _=>none
def oU:CallR X (.type "str") (su X.K (ak fu)):=CallR.imp tN fun xs H Q ⟨μ,S,ds,d,S',hS,hr,hm,post⟩=>by
 obtain⟨rfl,hm⟩:=bb hm
 cases ds with
 | nil=>cases hm
 | cons x r=>
  cases r with
  | cons _ _=>cases x <;> cases hm
  | nil=>
   obtain⟨v,rfl,r⟩:=hr.one
   cases x with
   | non=>cases hm;cases r;exact .inr ⟨rfl,post.here hS (.str _)⟩
   | int i=>
    dsimp only [fu] at hm
    by_cases hz:i.natAbs.log2<1920
    ·rw [DU hz] at hm;cases hm;exact .inl ⟨i,by rw [r.int_inv],hz,post.here hS (.str _)⟩
    ·rw [Eh hz] at hm;cases hm
   | _=>cases hm
noncomputable def fmtD:D->Option Str
 | .str y=>if y.length<=sizeLine then some y else none
 | .int i=>if i.natAbs.log2<1920 then some (toString i) else none
 | _=>none
noncomputable def Bz:List ME->Str->ME
 | [],out=>fun _ S=>some (.str out,S)
 | m::r,out=>fun env S=>(m env S).bind fun p=>match p.1 with
  | .str y=>if (out++y).length<=sizeLine then Bz r (out++y) env p.2 else none
  | _=>none
inductive DEs(X:Cx):List Expr->List ME->Prop
 | nil:DEs X [] []
 | cons {e:Expr} {m:ME} {es:List Expr} {ms:List ME} (h:DE X e m) (t:DEs X es ms):DEs X (e::es) (m::ms)
noncomputable def qJ:List D->Option (List Str)
 | []=>some []
 | .str x::r=>(qJ r).bind fun xs=>some (x::xs)
 | _::_=>none
noncomputable def fJoin:MF:=fun o ds S=>match o,ds with
 | .str sep,[y]=>(dH S y).bind fun xs=>(qJ xs).bind fun ys=>if (ys.map (·.length)).sum+ys.length * sep.length<=16777216 then some (.str (Str.join sep ys),S) else none
 | _,_=>none
noncomputable def isStrB:D->Bool
 | .str _=>true
 | _=>false
end
end M
namespace HT
section
variable{prog:Program}{w:World}{A:Around}{E:Value->Shared->Prop}{s:Shared}
end
end HT
namespace L2
section
variable{X:Cx}
end
end L2
namespace M
open L2
section
variable{X:Cx}{K:W.Frag}{μ μ':Fp}{H H':Hp}{S:aa}
end
end M
namespace HT
section
variable{prog:Program}{w:World}{A:Around}{E:Value->Shared->Prop}{s:Shared}
end
end HT
namespace L2
section
variable{X:Cx}
end
end L2
namespace M
open L2
section
variable{X:Cx}{K:W.Frag}{μ:Fp}{H:Hp}{S:aa}
end
end M
namespace HT
open SeqAt
end HT
namespace M
open L2
section
variable{X:Cx}{K:W.Frag}{μ:Fp}{H:Hp}{S:aa}
end
end M
namespace L2
end L2
namespace M
open L2
section
variable{X:Cx}{K:W.Frag}{H:Hp}{pos:Pos}
inductive iMs(K:W.Frag)(m:MA)(σ:L2.St)(H:Hp)(R:It->Hp->Prop):Prop
 | mk (μ:Fp) (S:aa) (env:ai) (xs:List D) (S':aa) (hS:SOk K μ S H) (hE:EOk K μ H σ env) (h:m env S=some (xs,S')) (post:∀ J H' μ',Ext μ H μ' H'->SOk K μ' S' H'->(∀ μ2 H2,(∀ v d,Rep K μ' H' v d->Rep K μ2 H2 v d)->xm K μ2 H2 J xs)->R J H')
noncomputable def pU(g:MG)(t:MT)(e:ME):List D->ai->aa->Option (List D×ai×aa)
 | [],env,S=>some ([],env,S)
 | d::ds,env,S=>(g d env S).bind fun p=>(t p.1 p.2).bind fun b=>if b.1=true then (e p.1 b.2).bind fun q=>(pU g t e ds p.1 q.2).bind fun r=>some (q.1::r.1,r.2) else pU g t e ds p.1 b.2
noncomputable def vq(g:MG)(t:MT)(mi2:MA)(g2:MG)(t2:MT)(e:ME):List D->ai->aa->Option (List D×aa)
 | [],_,S=>some ([],S)
 | d::ds,env,S=>(g d env S).bind fun p=>(t p.1 p.2).bind fun b=>if b.1=true then (mi2 p.1 b.2).bind fun q=>(pU g2 t2 e q.1 p.1 q.2).bind fun r=>(vq g t mi2 g2 t2 e ds r.2.1 r.2.2).bind fun z=>some (r.1++z.1,z.2) else vq g t mi2 g2 t2 e ds p.1 b.2
variable{elt tg iter tg2 iter2:Expr}{ifs ifs2:List Expr}{scope:Scope}{spos py:Pos}{N':List Str}{cap:List (Option Nat)}{mi mi2:MA}{g g2:MG}{t t2:MT}{me:ME}{y:Str}{i:Nat}
end
structure Dv(P:Program)(w:World)(K:W.Frag)(mg:Str->Option Value)(base:Heap)(k:Nat)(a:Addr)(n:Nat)(f:List D->aa->Option (D×aa)):Prop where
 ex:∃ (fd:FuncData) (ps:List Str),ps.length=n/\FnOk P w K mg base si k a fd ps (uv K n f)/\W.keepIn K (.ref a)=true/\Binds K fd ps []
inductive FRel(P:Program)(w:World)(K:W.Frag)(mg:Str->Option Value)(base:Heap)(k:Nat):List (ao×Value)->List (ao×Nat×(List D->aa->Option (D×aa)))->Prop
 | nil:FRel P w K mg base k [] []
 | cons {y:ao} {a:Addr} {n:Nat} {f:List D->aa->Option (D×aa)} {vs:List (ao×Value)} {l:List (ao×Nat×(List D->aa->Option (D×aa)))} (h:Dv P w K mg base k a n f) (t:FRel P w K mg base k vs l):FRel P w K mg base k ((y,.ref a)::vs) ((y,n,f)::l)
noncomputable def xp:List (ao×Nat×(List D->aa->Option (D×aa)))->ao->Option (Nat×(List D->aa->Option (D×aa)))
 | [],_=>none
 | (y,p)::l,k=>if y=k then some p else xp l k
section
variable{P:Program}{w:World}{K:W.Frag}{mg:Str->Option Value}{base:Heap}{k:Nat}
theorem FRel.val{y:ao}{p:Nat×(List D->aa->Option (D×aa))}:∀ {vs l},FRel P w K mg base k vs l->xp l y=some p->∃ a,valueAt vs y=some (.ref a)/\Dv P w K mg base k a p.1 p.2
 | _,_,.nil,q=>by cases q
 | _,_,.cons (y:=y') (a:=a) h t,q=>by
  unfold xp at q
  split at q
  ·rename_i e;cases q;exact⟨a,by simp [valueAt,e],h⟩
  ·rename_i e
   obtain⟨b,h1,h2⟩:=FRel.val t q
   refine⟨b,?_,h2⟩
   rw [<- h1]
   simp [valueAt,e]
structure FTab(P:Program)(w:World)(K:W.Frag)(mg:Str->Option Value)(base:Heap)(k:Nat)(x:Str)(l:List (ao×Nat×(List D->aa->Option (D×aa)))):Prop where
 ex:∃ (a:Addr) (vs:List (ao×Value)),mg x=some (.ref a)/\(∀ (P:Program) (h:Heap),K.In h->h.DictOf (av P w) a vs)/\FRel P w K mg base k vs l
end
theorem EOk.setN{K:W.Frag}{μ:Fp}{H:Hp}{x:Option V}:∀ {σ:L2.St} {env:ai} (i:Nat),EOk K μ H σ env->EOk K μ H (σ.set i x) (env.set i none)
 | _,_,_,.nil=>.nil
 | _,_,0,.no t=>.no t
 | _,_,0,.yes _ t=>.no t
 | _,_,i+1,.no t=>.no (EOk.setN i t)
 | _,_,i+1,.yes h t=>.yes h (EOk.setN i t)
section
variable{X:Cx}{k i:Nat}{x b:Str}{e ix:Expr}{es:List Expr}{mi:ME}{ms:MA}{p pb pt ps pa pc pr:Pos}{l:List (ao×Nat×(List D->aa->Option (D×aa)))}
def uQ{t:TA}(hN:X.N[i]?=some b)(hv:Dr X.env.scope b)(hr:Room k X.A)(ha:PA X (e::es) t)(hd:(b == ("__debug__":Str))=false)(hc:(b == ("__classdict__":Str))=false)
  (he:starEach (e::es) X.env=(false,eval e X.env)::starEach es X.env) (hpl:(backTo pc (starEach es X.env)).any (·.1)=false) :
  PE X (.Call (.Name b p) (e::es) [] pc) (fun σ H Q=>∃ a n f,σ[i]?=some (some (.ref a))/\Dv X.prog X.w X.K X.mg X.base k a n f/\qI (uv X.K n f) [] E0 t σ H Q):=by
 intro pins s σ H Q I ⟨a,n,f,hσ,F,h⟩
 obtain⟨fd,qs,hn,F,hk,hb⟩:=F.ex
 refine EQ (bj (uI hN hv hd hc pins s σ H (fun v H'=>v=.ref a/\H'=H) I ⟨_,hσ,rfl,rfl⟩) fun u s1 ⟨v,H1,I1,r,e1,e2⟩=>?_)
 subst e1 e2
 cases r
 refine W.callWith_K (h₀:=X.base) I1.ok.mod.kin hk (bj (ha pc pins s1 σ H1 _ I1 h) fun us s2 ⟨vs,H2,I2,r2,q⟩=>⟨I2.kIn,?_⟩) he hpl
 exact pz F hr hb .nil uS I2 r2 q
noncomputable def fV(l:List (ao×Nat×(List D->aa->Option (D×aa))))(i:Nat)(mi:ME)(ms:MA):MS:=fun env S=>(mi env S).bind fun p=>(ej p.1).bind fun k=>(xp l k).bind fun q=>(ms (env.set i none) p.2).bind fun r=>if r.1.length=q.1 then (q.2 r.1 r.2).bind fun z=>some (.rt z.1 z.2) else none
def wG(g:FTab X.prog X.w X.K X.mg X.base k x l)(hg:Gl X x)(hx:(x == ("__debug__":Str))=false)(hi:DE X ix mi)(hs:gm ix)(hr:Room k X.A)(ha:DA X (e::es) ms)(nd:X.N.Nodup)(hN:X.N[i]?=some b)(hl:xn X.env.scope b)(hv:Dr X.env.scope b)
  (hf:X.fn b=true\/X.env.scope.names.lookup b=some .local) (hd:(b == ("__debug__":Str))=false) (hc:(b == ("__classdict__":Str))=false) (hlen:i<X.N.length)
  (he:starEach (e::es) X.env=(false,eval e X.env)::starEach es X.env) (hpl:(backTo pc (starEach es X.env)).any (·.1)=false) :
  lu X [.Assign [.Name b pb] (.Subscript (.Name x pt) ix ps) pa,.Return (some (.Call (.Name b p) (e::es) [] pc)) pr] (fV l i mi ms):=by
 obtain⟨a,vs,h1,h2,h3⟩:=g.ex
 intro pins s σ H E I h
 have hlσ:i < σ.length:=by
  have:σ.length=X.N.length:=I.len
  omega
 refine nt (uC (i:=i) nd hN hl (zS (Cg h2) (qM (v:=.ref a) hg h1 rfl hx) hi hs) rfl hf) (qK (uD (uQ hN hv hr ha hd hc he hpl))) pins s σ H E I ?_
 obtain⟨μ,S,env,o,hS,hE,hm,post⟩:=h
 obtain⟨⟨y,S1⟩,e1,hm⟩:=Dy.mp hm
 obtain⟨z,e2,hm⟩:=Dy.mp hm
 obtain⟨q,e3,hm⟩:=Dy.mp hm
 obtain⟨fa,v1,F⟩:=h3.val e3
 refine⟨μ,S,env,y,S1,hS,hE,e1,fun u H1 μ1 ex s1 r1=>⟨z,.ref fa,.ref fa,rfl,dM e2 r1,v1,rfl,?_⟩⟩
 obtain⟨⟨ws,S2⟩,e4,hm⟩:=Dy.mp hm
 dsimp only at hm
 split at hm
 ·rename_i hn
  obtain⟨⟨d,S3⟩,e5,hm⟩:=Dy.mp hm
  cases hm
  refine⟨fa,q.1,q.2,by rw [Ez hlσ],F,mZ ⟨μ1,S1,env.set i none,d,S3,s1,(hE.mono ex).setN i,?_,Post.ext ex post⟩⟩
  show (ms (env.set i none) S1).bind _=_
  rw [e4]
  exact(DU hn).trans e5
 ·cases hm
end
section
variable{P:Program}{w:World}{K:W.Frag}{mg:Str->Option Value}{base:Heap}{k:Nat}
theorem FRel.up{k':Nat}(h:k<=k'):∀ {vs l},FRel P w K mg base k vs l->FRel P w K mg base k' vs l
 | _,_,.nil=>.nil
 | _,_,.cons q t=>.cons (by obtain⟨fd,ps,a,b,c⟩:=q.ex;exact⟨fd,ps,a,b.mono h,c⟩) (t.up h)
theorem FTab.up{k':Nat}{x:Str}{l:List (ao×Nat×(List D->aa->Option (D×aa)))}(T:FTab P w K mg base k x l)(h:k<=k'):FTab P w K mg base k' x l:=by
 obtain⟨a,vs,h1,h2,h3⟩:=T.ex
 exact⟨a,vs,h1,h2,h3.up h⟩
end
section
variable{X:Cx}{e:Expr}{m:ME}{pos:Pos}
end
section
variable{X:Cx}{K:W.Frag}{μ μ':Fp}{H H':Hp}{S S':aa}{pos:Pos}
noncomputable def vn(g:MG)(body:MS)(xs:List D)(r:Nat):Nat->Nat->ai->aa->Option il
 | 0,_,_,_=>none
 | f+1,i,env,S=>match S[r]? with
  | some (.lst ys)=>match xs[i]?,ys[i]? with
   | some x,some y=>(g (.tup [x,y]) env S).bind fun p=>(body p.1 p.2).bind fun o=>match o with
    | .nx e s=>vn g body xs r f (i+1) e s
    | .ct e s=>vn g body xs r f (i+1) e s
    | .bk e s=>some (.nx e s)
    | .rt d s=>some (.rt d s)
   | _,_=>some (.nx env S)
  | _=>none
end
end M
namespace HT
section
variable{prog:Program}{w:World}{A:Around}{E:Value->Shared->Prop}{s:Shared}{a:Addr}{o:Obj}{items:Array Value}{n:Nat}{ts:List Str}
def iK{Q:Fin->Shared->Prop}{c:Code}{b:Nat}(ha:s.heap.get? a=some o)(hd:o.data=.seq items n)(hT:ReprAll prog w items.toList ts)
  (h:∀ x u tk,Q (.done (.ret (.str x u))) { s with toks:=tk }) (hsz:b+(tupleText ts).length<=sizeLine) :
  wpOwn (model prog w) A c (Builtin.tupleReprAt b ⟨[.ref a],[]⟩) Q E s:=by
 rw [tuple_repr_tree,tupleReprUnderWay_eq]
 refine wpOwn_of_wpAny (DD (DD (wpAny_stack_any fun st=>DN ?_)))
 split
 ·exact DD (wpAny_rule (DD (wpAny_mkStr (DN (h _ _ _)))))
 ·exact wpAny_tupleReprRest ha hd hT (h _) hsz
def fg{Q:Value->Shared->Prop}(hTy:s.TypeIs (.ref a) "tuple")(ha:s.heap.get? a=some o)(hd:o.data=.seq items n)(hT:ReprAll prog w items.toList ts)
  (hQ:∀ x u tk,Q (.str x u) { s with toks:=tk }) (hsz:(tupleText ts).length<=sizeLine) :
  wpAny (model prog w) A (call (.builtin "tuple.__repr__") [.ref a]) Q E s:=
 wpAny_call
  (codeAny_call_builtin_own (Code.quiet_builtin _ (by decide +kernel)) F.entry_tuple_repr (F.slot_tuple_repr.check _ _ _ _ _ _ _ _ hTy (F.args_tuple_repr_1 _)
   (iK (b:=0) ha hd hT hQ (by omega))))
def jP{Q:Value->Shared->Prop}(hu:A.units+4<cLine)(hTy:s.TypeIs (.ref a) "tuple")(ha:s.heap.get? a=some o)(hd:o.data=.seq items n)(hT:∀ p w,ReprAll p w items.toList ts)
  (hQ:∀ x u tk,Q (.str x u) { s with toks:=tk }) (hsz:(tupleText ts).length<=sizeLine) :
  wpAny (model prog w) A (call (.type "str") [.ref a]) Q E s:=
 callType_new F.called_str (by decide) (F.typeCall_str_1 _) (F.newCall_str_1 _) (fun obj=>F.args_object_init_2 obj _) F.entry_str_new
  (meets_str_new (S:=fun A' R s'=>A'.units+3<cLine/\s'.TypeIs (.ref a) "tuple"/\s'.heap.get? a=some o/\∀ x u tk,R (.ok (.ret (.str x u))) { s' with toks:=tk })
   fun prog' w' A' R s' h=>wpAny_strOf_slot rfl (by show A'.units+1+1<cLine;have:=h.1;omega) h.2.1 F.slot_tuple_str F.slot_tuple_repr
    (fg h.2.1 h.2.2.1 hd (hT _ _) (fun x u tk=>⟨_,_,rfl,h.2.2.2 x u tk⟩) hsz))
  ⟨by show A.units+1+3<cLine;omega,hTy,ha,fun x u tk=>⟨typeIs_str _ _ _,hQ x u tk⟩⟩
def nq{Q:Int->Shared->Prop}(h:Q 0xFCA86420 { s with toks:=s.toks+1 }):wpAny (model prog w) A (pyHash .none) Q E s:=by
 have hT:s.TypeIs .none "NoneType":=rfl
 unfold pyHash
 have hv:[Value.none].any Value.onHeap=false:=rfl
 refine DD ?_
 rw [cRoomFor,Eh (by rw [hv];exact DM)];refine DN ?_
 refine DD (wpAny_specialOf hT F.slot_NoneType_hash.lookup ?_)
 show wpAny _ _ (if (some (Value.builtin "NoneType.__hash__") == some Value.none)=true then _ else _) Q E s
 rw [Eh (by rw [beq_builtin_none];exact DM)]
 refine DD (wpAny_specialOf hT F.slot_NoneType_hash.lookup ?_)
 show wpAny _ _ (callSpecialIfBoundUnlessNone? .none "__hash__" _ >>= _) Q E s
 refine DD (wpAny_callSpecialIfBoundUnlessNone?_slot hT Gu
  (FK Gu hT F.entry_NoneType_hash
   (show wpAny _ _ (do ret (<- mkInt 0xFCA86420)) _ _ s from wpAny_ret_mkInt ?_) (F.args_NoneType_hash_1 _)))
 show wpAny _ _ (if (decide (-(2:Int) ^ 63<=0xFCA86420)&&decide ((0xFCA86420:Int)<2 ^ 63))=true then _ else _) Q E _
 rw [DU (by decide)]
 exact DN h
noncomputable def okIs:Option L2.ao->Value->Bool
 | none,.none=>true
 | none,_=>false
 | some k,v=>L2.jn k v
def cm{v:Value}(h:okIs none v=true):v=.none:=by cases v <;> first | rfl | cases h
noncomputable def fN(prog:Program)(w:World):PySem.KeyKind prog w (Option L2.ao) where
 is:=okIs
 hash:=fun k=>match k with | none=>0xFCA86420 | some k=>L2.keyH w k
 inj:=fun v a b ha hb=>by
  cases a with
  | none=>
   cases cm ha
   cases b with
   | none=>rfl
   | some b=>rcases L2.aB hb with ⟨i,t,_,e⟩ | ⟨x,t,_,e⟩ <;> exact nomatch e
  | some a=>
   cases b with
   | none=>
    cases cm hb
    rcases L2.aB ha with ⟨i,t,_,e⟩ | ⟨x,t,_,e⟩ <;> exact nomatch e
   | some b=>rw [(L2.av prog w).inj v a b ha hb]
 byValue:=fun k v h=>by
  cases k with
  | none=>cases cm h;rfl
  | some k=>exact(L2.av prog w).byValue k v h
 pyHash:=fun {A E s k v Q} hv h=>by
  cases k with
  | none=>cases cm hv;exact nq h
  | some k=>exact(L2.av prog w).pyHash hv h
 eqBool:=fun {A E s a b u v Q} hu hv h=>by
  cases a with
  | none=>
   cases cm hu
   cases b with
   | none=>cases cm hv;exact SeqAt.EqAt.same _ _ _ _ _ (by simpa using h)
   | some b=>
    rw [Eo (fun z=>nomatch z)] at h
    rcases L2.aB hv with ⟨i,t,rfl,rfl⟩ | ⟨x,t,rfl,rfl⟩
    ·exact SeqAt.EqAt.none_int i t _ _ _ _ h
    ·exact SeqAt.EqAt.none_str x t _ _ _ _ h
  | some a=>
   cases b with
   | none=>
    cases cm hv
    rw [Eo (fun z=>nomatch z)] at h
    rcases L2.aB hu with ⟨i,t,rfl,rfl⟩ | ⟨x,t,rfl,rfl⟩
    ·exact SeqAt.EqAt.int_none i t _ _ _ _ h
    ·exact SeqAt.EqAt.str_none x t _ _ _ _ h
   | some b=>
    refine(L2.av prog w).eqBool hu hv ?_
    have e:decide (some a=some b)=decide (a=b):=by simp
    rw [<- e];exact h
 «strs»:=fun k x t v h=>by
  cases k with
  | none=>exact absurd h DM
  | some k=>exact(L2.av prog w).strs k x t v h
end
end HT
namespace L2
noncomputable def okV:Option ao->V
 | none=>.non
 | some k=>kV k
theorem om{P:Program}{w:World}:∀ {ks:List (Option ao)} {us:List Value},Vals (ks.map okV) us->ItemsAre (HT.fN P w) ks us
 | [],_,r=>by cases r;exact .nil
 | k::ks,_,r=>by
  cases r with
  | cons h t=>
   refine .cons ?_ (om t)
   cases k with
   | none=>cases (show _=Value.none from h);rfl
   | some k=>exact jo (P:=P) (w:=w) h
noncomputable def xD:Option ao->Str
 | none=>"None"
 | some (.inl i)=>toString i
 | some (.inr x)=>reprText x
noncomputable def okK:Option ao->Bool
 | none=>true
 | some (.inl i)=>decide (i.natAbs.log2<1920)
 | some (.inr x)=>decide ((reprText x).length<=sizeLine)
theorem nn{P:Program}{w:World}:∀ {ks:List (Option ao)} {us:List Value},ks.all okK=true->Vals (ks.map okV) us->ReprAll P w us (ks.map xD)
 | [],_,_,r=>by cases r;exact .nil
 | k::ks,_,h,r=>by
  rw [Ea,Dz] at h
  cases r with
  | cons h1 t=>
   refine .cons ?_ (nn h.2 t)
   match k,h1,h.1 with
   | none,h1,_=>cases (show _=Value.none from h1);exact ReprIs.none
   | some (.inl i),h1,h2=>obtain⟨t,e⟩:=(show ∃ t,_=Value.int i t from h1);subst e;exact ReprIs.int t (EL h2)
   | some (.inr x),h1,h2=>obtain⟨t,e⟩:=(show ∃ t,_=Value.str x t from h1);subst e;exact ReprIs.str x t (EL h2)
def tO{X:Cx}(hu:X.A.units+4<cLine):CallR X (.type "str") (fun xs H Q=>∃ (a:Addr) (ks:List (Option ao)),xs=[.ref a]/\hJ X.K H a (ks.map okV)/\ks.all okK=true/\(tupleText (ks.map xD)).length<=sizeLine/\∀ x,Q (.str x) H):=by
 intro pins s σ H xs us Q I r h
 obtain⟨a,ks,rfl,sq,ok,hz,q⟩:=h
 obtain⟨u,rfl,hu'⟩:=er r
 cases hu'
 obtain⟨its,rv,⟨o,h1,h2,n,h3⟩,_⟩:=I.tuple sq
 exact HT.jP hu ⟨o,h1,h2⟩ h1 h3 (fun _ _=>nn ok rv) (fun x u tk=>⟨.str x,H,I.tok _,⟨_,rfl⟩,q x⟩) hz
def AC(K:W.Frag)(trs:List (TE×TE)):TE:=fun σ H Q=>∀ p,H p=none->iG trs σ (upd H p (.dK [])) fun ps H2=>H2 p=some (.dK [])/\∃ (a:Addr) (ks:List (Option ao)) (y:V),ps=[(.ref a,y)]/\hJ K H2 a (ks.map okV)/\Q (.ref p) (upd H2 p (.ext (M.rM p)))
def uN{X:Cx}{pos:Pos}{keys:List (Option Expr)}{values:List Expr}{trs:List (TE×TE)}(hu:X.A.units<cLine)(h:PPs X pos keys values trs)(hall:keys.all (·.isSome)=true)(hl:keys.length=values.length)(h0:keys≠[])
  (h15:keys.length<=15):PE X (.Dict keys values pos) (AC X.K trs):=by
 intro pins s σ H Q I q
 have hn:=I.hok.fresh (DK s.heap.objs.size)
 have I1:=I.laid (a:=s.heap.objs.size) (o:=.dK []) (h':=s.heap.push { cls:=.type "dict",data:=.dict #[] }) (t':=s.toks) (fun _ _ q=>DJ _ q) (DK _) (jE s.heap I.big)
 refine wpAny_Dict_any hall hl h0 h15 (bj (h pins _ σ _ _ I1 (q _ hn)) fun ws s2 ⟨ps,H2,I2,rel,e,a,ks,y,ep,sq,q2⟩=>?_)
 subst ep
 cases rel with
 | @cons _ b _ bs r1 t=>
  cases t
  obtain⟨b1,b2⟩:=b
  cases r1.1
  obtain⟨z,hd,vs0,r0,⟨o,es,ep,g1,g2,g3,g4⟩⟩:=Ao I2.hok e
  cases r0
  obtain⟨its,rv,⟨ot,h1,h2,n,h3⟩,_⟩:=I2.tuple sq
  have g0:es.toList=([]:List (List (Option ao)×Addr×Value)).map (entryOfKey (tupleKind (HT.fN X.prog X.w))):=by
   have g5:=g4.2.1
   cases e0:es.toList with
   | nil=>rfl
   | cons x r=>rw [e0] at g5;cases g5
  have hm:s2.heap.DictOfH (tupleKind (HT.fN X.prog X.w)) s.heap.objs.size []:=⟨o,es,ep,g1,g2,g3,g0,fun x hx=>(by cases hx),by simp⟩
  have hk:(tupleKind (HT.fN X.prog X.w)).is s2.heap ks a:=⟨ot,_,n,h1,h2,h3,by simpa using om (P:=X.prog) (w:=X.w) rv⟩
  unfold storeAll
  rw [List.forIn_cons]
  refine DD (DD (wpAny_dictSet_heap (hsz:=Fu _) (knd:=tupleKind (HT.fN X.prog X.w)) hu hk hm fun h' hm' hs=>DN ?_))
  dsimp only
  rw [List.forIn_nil]
  obtain⟨o',es',ep',i1,i2,i3,_⟩:=hm'
  refine DN ⟨.ref s.heap.objs.size,_,?_,rfl,q2⟩
  exact rZ I2 (by rw [e];exact True.intro) hs ⟨_,i1⟩ ⟨⟨o',i1,i2.1⟩,⟨o',i1⟩,fun h1 h2 ⟨o,j1,j2⟩ j3=>⟨o,j3 o j1,j2⟩⟩
end L2
namespace M
open L2
section
variable{X:Cx}{K:W.Frag}{μ μ':Fp}{H H':Hp}{S:aa}
noncomputable def flatK:D->Option (Option ao)
 | .non=>some none
 | .int i=>some (some (.inl i))
 | .str x=>some (some (.inr x))
 | _=>none
noncomputable def ee:List D->Option (List (Option ao))
 | []=>some []
 | d::ds=>(flatK d).bind fun k=>(ee ds).bind fun ks=>some (k::ks)
theorem fG:∀ {vs:List V} {ds:List D} {ks:List (Option ao)},Reps K μ H vs ds->ee ds=some ks->vs=ks.map okV
 | _,_,_,.nil,h=>by cases h;rfl
 | _,_,_,.cons (d:=d) r t,h=>by
  obtain⟨k,h1,h⟩:=Dy.mp h
  obtain⟨ks,h2,h⟩:=Dy.mp h
  cases h
  rw [fG t h2,DZ]
  congr 1
  cases d <;> cases h1 <;> cases r <;> rfl
noncomputable def gR(S:aa)(ds:List D):Option D:=match ds with
 | [.tup xs]=>(ee xs).bind fun ks=>if ks.all okK=true/\(tupleText (ks.map xD)).length<=sizeLine then some .txt else none
 | _=>fu S ds
def tT(hu:X.A.units+4<cLine):CallR X (.type "str") (su X.K (ak gR)):=by
 intro pins s σ H xs us Q I r ⟨μ,S,ds,d,S',hS,hr,hm,post⟩
 have old:ak fu ds S=some (d,S')->wpAny (model X.prog X.w) X.A (call (.type "str") us) (EP X pins σ Q) X.xe s:=fun z=>oU pins s σ H xs us Q I r ⟨μ,S,ds,d,S',hS,hr,z,post⟩
 by_cases hd:∃ ys,ds=[.tup ys]
 ·obtain⟨ys,rfl⟩:=hd
  obtain⟨rfl,hm⟩:=bb hm
  obtain⟨ks,h1,hm⟩:=Dy.mp hm
  split at hm
  ·rename_i hz
   cases hm
   obtain⟨v,rfl,r1⟩:=hr.one
   obtain⟨a,vs,rfl,q,r2⟩:=r1.sqT
   refine tO hu pins s σ H _ us Q I r ⟨a,ks,rfl,?_,hz.1,hz.2,fun x=>post.here hS (.txt x)⟩
   rw [<- fG r2 h1];exact q
  ·cases hm
 ·refine old ?_
  have e:gR S ds=fu S ds:=by
   unfold gR
   split
   ·exact absurd ⟨_,rfl⟩ hd
   ·rfl
  unfold ak at hm ⊢
  rw [<- e];exact hm
noncomputable def cH(a b:ME):ME:=fun env S=>(a env S).bind fun p=>(b env p.2).bind fun q=>match p.1 with | .tup xs=>(ee xs).bind fun _=>some (.obj,q.2) | _=>none
def wW{pos:Pos}{k v:Expr}{a b:ME}(hu:X.A.units<cLine)(ha:DE X k a)(hb:DE X v b):DE X (.Dict [some k] [v] pos) (cH a b):=
 PE.imp (uN hu (nw ha hb qL) rfl rfl (by simp) (by simp)) fun σ H Q ⟨μ,S,env,d,S',hS,hE,hm,post⟩=>by
 obtain⟨⟨x,S1⟩,h1,hm⟩:=Dy.mp hm
 obtain⟨⟨y,S2⟩,h2,hm⟩:=Dy.mp hm
 dsimp only at h2 hm
 intro p hp
 obtain⟨cs,fb⟩:=μ
 have s0:=hS.more (o:=.dK []) hp
 have e0:=hE.more (o:=.dK []) hp
 refine⟨_,S,env,x,S1,s0,e0,h1,fun v1 H1 μ1 e1 s1 r1=>⟨μ1,S1,env,y,S2,s1,e0.mono e1,h2,fun w H2 μ2 e2 s2 r2=>?_⟩⟩
 cases x with
 | tup xs=>
  obtain⟨ks,h3,hm⟩:=Dy.mp hm
  cases hm
  obtain⟨eF,sF,nF,rF,hF⟩:=Ext.shut (o':=.ext (rM p)) hp (hS.notMem hp).2 (e1.trans e2) s2
  obtain⟨l,vs,rfl,q,r3⟩:=(r1.mono e2).sqT
  exact⟨hF,l,ks,w,rfl,by rw [<- fG r3 h3];exact q,post _ _ _ eF sF (.obj am nF)⟩
 | _=>cases hm
end
end M
namespace MI
open L2 M
@[irreducible] noncomputable def mC(d:D):ME:=M.mC d
def ji{d:D}:mC d=M.mC d:=by unfold mC;rfl
@[irreducible] noncomputable def ac(i:Nat):ME:=M.ac i
def qY{i:Nat}:ac i=M.ac i:=by unfold ac;rfl
@[irreducible] noncomputable def ay(f:aa->D->D->Option D)(a b:ME):ME:=M.ay f a b
def dD{f:aa->D->D->Option D}{a b:ME}:ay f a b=M.ay f a b:=by unfold ay;rfl
@[irreducible] noncomputable def aP(m:ME):MT:=M.aP m
def jb{m:ME}:aP m=M.aP m:=by unfold aP;rfl
@[irreducible] noncomputable def bo(f g:aa->D->D->Option D)(a b c:ME):ME:=M.bo f g a b c
def gv{f g:aa->D->D->Option D}{a b c:ME}:bo f g a b c=M.bo f g a b c:=by unfold bo;rfl
@[irreducible] noncomputable def da(m:ME):MT:=M.da m
def lS{m:ME}:da m=M.da m:=by unfold da;rfl
@[irreducible] noncomputable def cM(a b:MT):MT:=M.cM a b
def jj{a b:MT}:cM a b=M.cM a b:=by unfold cM;rfl
@[irreducible] noncomputable def dI(a b:MT):MT:=M.dI a b
def lU{a b:MT}:dI a b=M.dI a b:=by unfold dI;rfl
@[irreducible] noncomputable def bX(a:MT):MT:=M.bX a
def nS{a:MT}:bX a=M.bX a:=by unfold bX;rfl
@[irreducible] noncomputable def en(a b:ME):ME:=M.vt a b
def rB{a b:ME}:en a b=M.vt a b:=by unfold en;rfl
@[irreducible] noncomputable def rl(a b:ME):ME:=M.By a b
def vf{a b:ME}:rl a b=M.By a b:=by unfold rl;rfl
@[irreducible] noncomputable def fj(a:ME):ME:=M.vi a
def nR{a:ME}:fj a=M.vi a:=by unfold fj;rfl
@[irreducible] noncomputable def vm(t:MT)(a b:ME):ME:=M.vm t a b
def vk{t:MT}{a b:ME}:vm t a b=M.vm t a b:=by unfold vm;rfl
@[irreducible] noncomputable def ae:MA:=M.ae 
def lW  : ae  = M.ae  := by unfold ae;rfl
@[irreducible] noncomputable def ab(a:ME)(r:MA):MA:=M.ab a r
def nY{a:ME}{r:MA}:ab a r=M.ab a r:=by unfold ab;rfl
@[irreducible] noncomputable def aX(ms:MA):ME:=M.aX ms
def qZ{ms:MA}:aX ms=M.aX ms:=by unfold aX;rfl
@[irreducible] noncomputable def bZ(ms:MA):ME:=M.bZ ms
def rm{ms:MA}:bZ ms=M.bZ ms:=by unfold bZ;rfl
@[irreducible] noncomputable def dJ(ms:MA):ME:=M.dJ ms
def nU{ms:MA}:dJ ms=M.dJ ms:=by unfold dJ;rfl
@[irreducible] noncomputable def sH(f:aa->D->Option D)(a:ME):ME:=M.sH f a
def vc{f:aa->D->Option D}{a:ME}:sH f a=M.sH f a:=by unfold sH;rfl
@[irreducible] noncomputable def ba:MO:=M.ba 
def kM  : ba  = M.ba  := by unfold ba;rfl
@[irreducible] noncomputable def bL(m:ME):MO:=M.bL m
def nQ{m:ME}:bL m=M.bL m:=by unfold bL;rfl
@[irreducible] noncomputable def aY(a:ME)(lo hi:MO):ME:=M.aY a lo hi
def kL{a:ME}{lo hi:MO}:aY a lo hi=M.aY a lo hi:=by unfold aY;rfl
@[irreducible] noncomputable def aL(f:List D->aa->Option (D×aa))(ms:MA):ME:=M.aL f ms
def bM{f:List D->aa->Option (D×aa)}{ms:MA}:aL f ms=M.aL f ms:=by unfold aL;rfl
@[irreducible] noncomputable def de(T:String)(m:ME):ME:=M.de T m
def rn{T:String}{m:ME}:de T m=M.de T m:=by unfold de;rfl
@[irreducible] noncomputable def ag(n:Nat)(f:List D->aa->Option (D×aa))(ms:MA):ME:=M.ag n f ms
def gx{n:Nat}{f:List D->aa->Option (D×aa)}{ms:MA}:ag n f ms=M.ag n f ms:=by unfold ag;rfl
@[irreducible] noncomputable def aO:MS:=M.aO 
def fT  : aO  = M.aO  := by unfold aO;rfl
@[irreducible] noncomputable def aA(a b:MS):MS:=M.aA a b
def rg{a b:MS}:aA a b=M.aA a b:=by unfold aA;rfl
@[irreducible] noncomputable def aZ(m:ME):MS:=M.aZ m
def rh{m:ME}:aZ m=M.aZ m:=by unfold aZ;rfl
@[irreducible] noncomputable def ei(m:ME):MS:=M.ei m
def nW{m:ME}:ei m=M.ei m:=by unfold ei;rfl
@[irreducible] noncomputable def cx(t:MT)(a b:MS):MS:=M.cx t a b
def rp{t:MT}{a b:MS}:cx t a b=M.cx t a b:=by unfold cx;rfl
@[irreducible] noncomputable def aq(i:Nat):MG:=M.aq i
def gb{i:Nat}:aq i=M.aq i:=by unfold aq;rfl
@[irreducible] noncomputable def dO:jK:=M.dO 
def oz  : dO  = M.dO  := by unfold dO;rfl
@[irreducible] noncomputable def bw(g:MG)(gs:jK):jK:=M.bw g gs
def le{g:MG}{gs:jK}:bw g gs=M.bw g gs:=by unfold bw;rfl
@[irreducible] noncomputable def cb(n:Nat)(gs:jK):MG:=M.cb n gs
def eK{n:Nat}{gs:jK}:cb n gs=M.cb n gs:=by unfold cb;rfl
@[irreducible] noncomputable def cN(o i:ME):MG:=M.cN o i
def ou{o i:ME}:cN o i=M.cN o i:=by unfold cN;rfl
@[irreducible] noncomputable def aw(m:ME)(g:MG):MS:=M.aw m g
def cQ{m:ME}{g:MG}:aw m g=M.aw m g:=by unfold aw;rfl
@[irreducible] noncomputable def aS(ms:MA):MA:=M.aS ms
def jd{ms:MA}:aS ms=M.aS ms:=by unfold aS;rfl
@[irreducible] noncomputable def ca(ms:MA):MA:=M.ca ms
def jc{ms:MA}:ca ms=M.ca ms:=by unfold ca;rfl
@[irreducible] noncomputable def em(mi:MA)(g:MG)(body:MS):MS:=M.em mi g body
def rq{mi:MA}{g:MG}{body:MS}:em mi g body=M.em mi g body:=by unfold em;rfl
@[irreducible] noncomputable def cC(mi:MA)(g:MG)(t:MT)(e:ME)(cap:List (Option Nat)):ME:=M.cC mi g t e cap
def jg{mi:MA}{g:MG}{t:MT}{e:ME}{cap:List (Option Nat)}:cC mi g t e cap=M.cC mi g t e cap:=by unfold cC;rfl
@[irreducible] noncomputable def fU(m:ME):MA:=M.fU m
def lX{m:ME}:fU m=M.fU m:=by unfold fU;rfl
@[irreducible] noncomputable def du:MT:=M.du 
def nP  : du  = M.du  := by unfold du;rfl
@[irreducible] noncomputable def eG(f:MF)(o:ME)(ms:MA):ME:=M.eG f o ms
def nT{f:MF}{o:ME}{ms:MA}:eG f o ms=M.eG f o ms:=by unfold eG;rfl
@[irreducible] noncomputable def ib(i j:Nat)(ms:MA):MS:=M.ib i j ms
def rj{i j:Nat}{ms:MA}:ib i j ms=M.ib i j ms:=by unfold ib;rfl
@[irreducible] noncomputable def dL(ms:List (ME×ME)):ME:=M.dL ms
def nX{ms:List (ME×ME)}:dL ms=M.dL ms:=by unfold dL;rfl
@[irreducible] noncomputable def df(ms:List (ME×ME)):ME:=M.df ms
def kO{ms:List (ME×ME)}:df ms=M.df ms:=by unfold df;rfl
@[irreducible] noncomputable def cw(f:MF)(o:ME)(ms:MA):ME:=M.cw f o ms
def kN{f:MF}{o:ME}{ms:MA}:cw f o ms=M.cw f o ms:=by unfold cw;rfl
@[irreducible] noncomputable def dw(m:ME)(g:MG)(body:MS):MS:=M.dw m g body
def nV{m:ME}{g:MG}{body:MS}:dw m g body=M.dw m g body:=by unfold dw;rfl
@[irreducible] noncomputable def fV(l:List (ao×Nat×(List D->aa->Option (D×aa))))(i:Nat)(mi:ME)(ms:MA):MS:=M.fV l i mi ms
def vo{i:Nat}{mi:ME}{ms:MA}:fV l i mi ms=M.fV l i mi ms:=by unfold fV;rfl
@[irreducible] noncomputable def cH(a b:ME):ME:=M.cH a b
def kP{a b:ME}:cH a b=M.cH a b:=by unfold cH;rfl
def pV{f:List D->aa->Option (D×aa)}:ag 0 f ae=M.ag 0 f M.ae:=by rw [gx,lW]
def pQ{f:aa->D->D->Option D}{a b:ME}:aP (ay f a b)=M.aP (M.ay f a b):=by rw [jb,dD]
def pR{f g:aa->D->D->Option D}{a b c:ME}:aP (bo f g a b c)=M.aP (M.bo f g a b c):=by rw [jb,gv]
def fz{m:ME}{i:Nat}:aw m (aq i)=M.aw m (M.aq i):=by rw [cQ,gb]
def oa{mi:MA}{g:MG}{t:MT}{e:ME}{cap:List (Option Nat)}{i:Nat}:aw (cC mi g t e cap) (aq i)=M.aw (M.cC mi g t e cap) (M.aq i):=by rw [cQ,gb,jg]
section
variable{X:Cx}{e:Expr}{es:List Expr}{s:Stmt}{ss:List Stmt}
def az{m m':ME}(h:m=m')(d:DE X e m'):DE X e m:=by rw [h];exact d
def oT{m m':MT}(h:m=m')(d:DT X e m'):DT X e m:=by rw [h];exact d
def sd{m m':MT}(h:m=m')(d:DW X e m'):DW X e m:=by rw [h];exact d
def Ar{m m':MA}(h:m=m')(d:DA X es m'):DA X es m:=by rw [h];exact d
def Aq{o:Option Expr}{m m':MO}(h:m=m')(d:DO X o m'):DO X o m:=by rw [h];exact d
def sf{m m':MG}(h:m=m')(d:DG X e m'):DG X e m:=by rw [h];exact d
def xa{m m':jK}(h:m=m')(d:Dw X es m'):Dw X es m:=by rw [h];exact d
def se{tg:Expr}{m m':MA}(h:m=m')(d:DI X tg e m'):DI X tg e m:=by rw [h];exact d
def Dh{m m':MT}(h:m=m')(d:At X es m'):At X es m:=by rw [h];exact d
def dA{m m':MS}(h:m=m')(d:DS X s m'):DS X s m:=by rw [h];exact d
def qx{m m':MS}(h:m=m')(d:lu X ss m'):lu X ss m:=by rw [h];exact d
end
inductive GI where
 | fn (n:Nat) (f:List D->aa->Option (D×aa))
 | con (d:D)
 | blt
 | tab (l:List (ao×D))
 | ftab (l:List (ao×Nat×(List D->aa->Option (D×aa))))
structure CI where
 N:List Str
 sc:Scope
 all:Bool
 gs:List (Str×GI)
 mt:List Nat
def GOk(X:Cx)(k:Nat)(x:Str):GI->Prop
 | .fn n f=>Fn X.prog X.w X.K X.mg X.base k x n f
 | .con d=>GC X.K X.mg x d
 | .blt=>X.mg x=none
 | .tab l=>xk X.w X.K X.mg x l
 | .ftab l=>FTab X.prog X.w X.K X.mg X.base k x l
structure cY(k:Nat)(c:CI)(X:Cx):Prop where
 N:X.N=c.N
 nd:c.N.Nodup
 sc:X.env.scope=c.sc
 fk:c.sc.kind=.function
 fn:c.all=true->∀ x,X.fn x=true
 calm:X.calm=true
 room:Room k X.A
 xe:X.xe=fun _ _=>False
 gs:∀ p∈c.gs,GOk X k p.1 p.2
def cr:ME:=fun _ _=>none
def jZ:MT:=fun _ _=>none
def dc:MS:=fun _ _=>none
def ic:MA:=fun _ _=>none
def vV:MG:=fun _ _ _=>none
section
variable{X:Cx}{k:Nat}{c:CI}{e:Expr}{pos:Pos}
def au:DE X e cr:=fun _ _ _ _ _ _ ⟨_,_,_,_,_,_,_,h,_⟩=>by cases h
def gh:DT X e jZ:=fun _ _ _ _ _ _ ⟨_,_,_,_,_,_,_,h,_⟩=>by cases h
def cO{s:Stmt}:DS X s dc:=fun _ _ _ _ _ _ ⟨_,_,_,_,_,_,h,_⟩=>by cases h
def wK{s:Stmt}{g:MG}:DS X s (aw cr g):=by
 rw [show aw cr g=dc from by rw [cQ];rfl]
 exact cO
def CG{s:List Stmt}:lu X s dc:=fun _ _ _ _ _ _ ⟨_,_,_,_,_,_,h,_⟩=>by cases h
def da_no{es:List Expr}:DA X es ic:=fun _ _ _ _ _ _ _ ⟨_,_,_,_,_,_,_,h,_⟩=>by cases h
def gi{tg:Expr}:DI X tg e ic:=fun _ _ _ _ _ _ ⟨_,_,_,_,_,_,_,h,_⟩=>by cases h
def oO:DG X e vV:=fun _ _ _ _ _ _ _ _ _ ⟨_,_,_,_,_,_,_,_,_,h,_⟩=>by cases h
def fe(x:Str):List Str->Option Nat
 | []=>none
 | y::r=>if x == y then some 0 else (fe x r).map (· + 1)
theorem aR{x:Str}:∀ {l:List Str} {i:Nat},fe x l=some i->l[i]?=some x
 | y::r,i,h=>by
  unfold fe at h
  split at h
  ·rename_i e;cases h;simp at e;simp [e]
  ·cases q:fe x r with
   | none=>rw [q] at h;cases h
   | some j=>rw [q] at h;cases h;simpa using aR q
def bI(x:Str):Bool:=!(x == ("__debug__":Str)) && !(x == ("__classdict__":Str)) && !(x == ("__name__":Str))
def aM{x:Str}(h:bI x=true):(x == ("__debug__":Str))=false:=by
 unfold bI at h;rw [Dz,Dz] at h;simpa only [Bool.not_eq_true'] using h.1.1
def nB{x:Str}(h:bI x=true):(x == ("__classdict__":Str))=false:=by
 unfold bI at h;rw [Dz,Dz] at h;simpa only [Bool.not_eq_true'] using h.1.2
def bK{x:Str}(h:bI x=true):x ≠ "__name__":=by
 unfold bI at h;rw [Dz,Dz] at h
 have:=h.2
 rw [Bool.not_eq_true'] at this
 intro z;rw [z] at this;simp at this
def Ae(c:CI)(x:Str):Option GI:=match c.sc.names.lookup x with | some .globalImplicit=>if bI x then c.gs.lookup x else none | _=>none
def dh{g:GI}{x:Str}(C:cY k c X)(h:Ae c x=some g):Gl X x/\bI x=true/\GOk X k x g:=by
 unfold Ae at h
 split at h
 ·rename_i e
  split at h
  ·rename_i o
   refine⟨?_,o,C.gs _ (EF h)⟩
   show X.env.scope.names.lookup x=_
   rw [C.sc,e]
  ·cases h
 ·cases h
def qm(c:CI)(x:Str):ME:=match c.sc.names.lookup x with
 | some .globalImplicit=>match Ae c x with | some (.con d)=>mC d | _=>cr
 | some .local=>match fe x c.N with | some i=>if bI x then ac i else cr | none=>cr
 | some .cell=>match fe x c.N with | some i=>if bI x then ac i else cr | none=>cr
 | some .free=>match fe x c.N with | some i=>if bI x then ac i else cr | none=>cr
 | _=>cr
def fH(C:cY k c X){x:Str}(hv:Dr c.sc x):DE X (.Name x pos) (match fe x c.N with | some i=>if bI x then ac i else cr | none=>cr):=by
 split
 ·rename_i i e
  split
  ·rename_i o
   exact az qY <| M.CP (by rw [C.N];exact aR e) (by rw [C.sc];exact hv) (aM o) (nB o)
  ·exact au
 ·exact au
def sZ(C:cY k c X)(x:Str):DE X (.Name x pos) (qm c x):=by
 unfold qm
 split
 ·split
  ·rename_i d e
   obtain⟨g,o,G⟩:=dh C e
   exact az ji <| M.zn G g (aM o)
  ·exact au
 ·rename_i e;exact fH C (.inl e)
 ·rename_i e;exact fH C (.inr (.inl e))
 ·rename_i e;exact fH C (.inr (.inr e))
 ·exact au
def rT:Const->ME
 | .int i=>mC (.int i)
 | .bool b=>mC (.bl b)
 | .none=>mC .non
 | .str x=>mC (.str x)
 | _=>cr
def qq(v:Const){j:Nat}:DE X (.Constant v j pos) (rT v):=by
 cases v <;> first | exact az ji <| M.CY | exact az ji <| M.de_bl | exact az ji <| M.CU | exact az ji <| M.CS | exact au
def wq(z:Bool)(op:Operator)(a b:ME):ME:=match op with
 | .Add=>ay aE a b
 | .Sub=>ay mz a b
 | .Mult=>ay bz a b
 | .Mod=>ay eh a b
 | .FloorDiv=>ay sX a b
 | .Pow=>ay ii a b
 | _=>cr
def wp{z:Bool}{op:Operator}{a b:Expr}{ma mb:ME}(ha:DE X a ma)(hb:DE X b mb):DE X (.BinOp a op b pos) (wq z op ma mb):=by
 cases op <;> first | exact au | skip
 ·exact az dD <| M.ll yh ha hb
 ·exact az dD <| M.ll Bo ha hb
 ·exact az dD <| M.ll yg ha hb
 ·exact az dD <| M.ll Br ha hb
 ·exact az dD <| M.ll Bp ha hb
 ·exact az dD <| M.ll Bs ha hb
def evUn(op:UnaryOp)(a:ME):ME:=match op with
 | .Not=>fj a
 | .USub=>sH wb a
 | _=>cr
def yQ{op:UnaryOp}{a:Expr}{ma:ME}(ha:DE X a ma):DE X (.UnaryOp op a pos) (evUn op ma):=by
 cases op <;> first | exact au | skip
 ·exact az nR <| M.zk ha
 ·exact az vc <| M.de_un xq ha
def qw:CmpOp->Option (aa->D->D->Option D)
 | .Eq=>some sW
 | .NotEq=>some ud
 | .Lt=>some Ai
 | .LtE=>some Cv
 | .Gt=>some fGt
 | .GtE=>some fGe
 | .In=>some fIn
 | .NotIn=>some wa
 | .Is=>some Cw
 | .IsNot=>some mB
def eY{op:CmpOp}{f:aa->D->D->Option D}(r:Room k X.A)(h:qw op=some f):OpR X (compareOp op) (fc X.K f):=by
 cases op <;> cases h
 ·exact op_Eq r.units
 ·exact op_Ne r.units
 ·exact op_Lt
 ·exact op_Le
 ·exact op_Gt
 ·exact op_Ge
 ·exact op_Is
 ·exact uW
 ·exact op_In r.units
 ·exact uV r.units
def dC:Expr->Bool
 | .Set _ _ _=>false
 | _=>true
def cP{op:CmpOp}(h:dC e=true):behindInMarks op e=false:=by cases e <;> first | rfl | cases h
def dt(h:dC e=true)(x:Value):foldedSetIterable e X.env x=pure x:=by cases e <;> first | rfl | cases h
def wo(c:CI)(E:CI->Expr->ME)(a:Expr)(ops:List CmpOp)(bs:List Expr):ME:=match ops,bs with
 | [op],[b]=>if dC b then (match qw op with | some f=>ay f (E c a) (E c b) | none=>cr) else cr
 | [op,op'],[b,d]=>if dC d then (match qw op,qw op' with | some f,some g=>bo f g (E c a) (E c b) (E c d) | _,_=>cr) else cr
 | _,_=>cr
def qr(c:CI)(E:CI->Expr->ME)(a:Expr)(ops:List CmpOp)(bs:List Expr):MT:=match ops,bs with
 | [op],[b]=>if dC b then (match qw op with | some f=>aP (ay f (E c a) (E c b)) | none=>jZ) else jZ
 | [op,op'],[b,d]=>if dC d then (match qw op,qw op' with | some f,some g=>aP (bo f g (E c a) (E c b) (E c d)) | _,_=>jZ) else jZ
 | _,_=>jZ
section
variable{E:CI->Expr->ME}{T:CI->Expr->MT}
def wn(C:cY k c X)(hE:∀ e,DE X e (E c e)){a:Expr}{ops:List CmpOp}{bs:List Expr}:DE X (.Compare a ops bs pos) (wo c E a ops bs):=by
 unfold wo
 split
 ·split
  ·rename_i hm
   split
   ·rename_i f h;exact az dD <| M.CZ (eY C.room h) (hE _) (hE _) (cP hm)
   ·exact au
  ·exact au
 ·split
  ·rename_i hm
   split
   ·rename_i f g h1 h2;exact az gv <| M.wX (eY C.room h1) (eY C.room h2) (hE _) (hE _) (hE _) (cP hm)
   ·exact au
  ·exact au
 ·exact au
def tu(C:cY k c X)(hE:∀ e,DE X e (E c e)){a:Expr}{ops:List CmpOp}{bs:List Expr}:DT X (.Compare a ops bs pos) (qr c E a ops bs):=by
 unfold qr
 split
 ·split
  ·rename_i hm
   split
   ·rename_i f h;exact oT pQ <| M.CF (eY C.room h) (hE _) (hE _) (cP hm)
   ·exact gh
  ·exact gh
 ·split
  ·rename_i hm
   split
   ·rename_i f g h1 h2;exact oT pR <| M.wF (eY C.room h1) (eY C.room h2) (hE _) (hE _) (hE _) (cP hm)
   ·exact gh
  ·exact gh
 ·exact gh
def oB(f:ME->ME->ME):List ME->ME
 | []=>cr
 | [m]=>m
 | m::r=>f m (oB f r)
def jz(f:MT->MT->MT):List MT->MT
 | []=>jZ
 | [m]=>m
 | m::r=>f m (jz f r)
theorem lg{E:Expr->ME}(hE:∀ e,DE X e (E e)):∀ vs:List Expr,DE X (.BoolOp .And vs pos) (oB en (vs.map E))
 | []=>au
 | [e]=>wT (hE e)
 | e::e'::r=>az rB <| M.zt (hE e) (lg hE (e'::r))
theorem oA{E:Expr->ME}(hE:∀ e,DE X e (E e)):∀ vs:List Expr,DE X (.BoolOp .Or vs pos) (oB rl (vs.map E))
 | []=>au
 | [e]=>wT (hE e)
 | e::e'::r=>az vf <| M.CT (hE e) (oA hE (e'::r))
def sU{E:Expr->MT}(hE:∀ e,DT X e (E e)):∀ vs:List Expr,DT X (.BoolOp .And vs pos) (jz cM (vs.map E))
 | []=>gh
 | [e]=>yX (rW (hE e))
 | e::e'::r=>yX (sd jj <| M.wD (hE e) (foldT_andW hE (e'::r) (by simp)))
where foldT_andW {E:Expr->MT} (hE:∀ e,DT X e (E e)):∀ vs:List Expr,vs≠[]->DW X (.BoolOp .And vs pos) (jz cM (vs.map E))
 | [],h=>absurd rfl h
 | [e],_=>rW (hE e)
 | e::e'::r,_=>sd jj <| M.wD (hE e) (foldT_andW hE (e'::r) (by simp))
def vW{E:Expr->MT}(hE:∀ e,DT X e (E e)):∀ vs:List Expr,DT X (.BoolOp .Or vs pos) (jz dI (vs.map E))
 | []=>gh
 | [e]=>yX (wC (hE e))
 | e::e'::r=>yX (sd lU <| M.An (hE e) (foldT_orW hE (e'::r) (by simp)))
where foldT_orW {E:Expr->MT} (hE:∀ e,DT X e (E e)):∀ vs:List Expr,vs≠[]->DW X (.BoolOp .Or vs pos) (jz dI (vs.map E))
 | [],h=>absurd rfl h
 | [e],_=>wC (hE e)
 | e::e'::r,_=>sd lU <| M.An (hE e) (foldT_orW hE (e'::r) (by simp))
def aD:Expr->Bool
 | .Starred _ _=>false
 | _=>true
def aG{es:List Expr}(h:aD e=true):starEach (e::es) X.env=(false,eval e X.env)::starEach es X.env:=by cases e <;> first | rfl | cases h
theorem cT:∀ {es:List Expr},es.all aD=true->(backTo pos (starEach es X.env)).any (·.1)=false
 | [],_=>rfl
 | e::es,h=>by
  rw [Ea,Dz] at h
  rw [aG h.1]
  show (false||(backTo pos (starEach es X.env)).any (·.1))=false
  rw [cT h.2];rfl
def pe(E:Expr->ME):List Expr->MA
 | []=>ae
 | e::r=>if aD e then ab (E e) (pe E r) else ic
theorem cJ{E:Expr->ME}(hE:∀ e,DE X e (E e)):∀ es:List Expr,DA X es (pe E es)
 | []=>Ar lW <| M.Da
 | e::r=>by
  unfold pe
  split
  ·rename_i h;exact Ar nY <| M.zv (hE e) (cJ hE r) (aG h)
  ·exact da_no
def evO(E:Expr->ME):Option Expr->MO
 | none=>ba
 | some e=>bL (E e)
def wk{E:Expr->ME}(hE:∀ e,DE X e (E e)):∀ o:Option Expr,DO X o (evO E o)
 | none=>Aq kM <| M.zh
 | some e=>Aq nQ <| M.zg (hE e)
def mX(c:CI):Expr->Option (List (ao×D))
 | .Name x _=>match Ae c x with | some (.tab l)=>some l | _=>none
 | _=>none
def pi{a:Expr}{l:List (ao×D)}(C:cY k c X)(h:mX c a=some l):∃ x p,a=.Name x p/\Gl X x/\bI x=true/\xk X.w X.K X.mg x l:=by
 unfold mX at h
 split at h
 ·split at h
  ·rename_i e
   cases h
   obtain⟨g,o,G⟩:=dh C e
   exact⟨_,_,rfl,g,o,G⟩
  ·cases h
 ·cases h
def Aj(c:CI)(E:Expr->ME)(a i:Expr):ME:=match i with
 | .Slice lo hi st _=>match st with | none=>aY (E a) (evO E lo) (evO E hi) | some st=>(match lo,hi with | none,none=>cr | _,_=>cr)
 | i=>match mX c a with | some l=>cr | none=>ay aK (E a) (E i)
def sY(C:cY k c X){E:Expr->ME}(hE:∀ e,DE X e (E e))(a i:Expr)(hs:gm i:=by intro _ _;rfl):DE X (.Subscript a i pos) (match mX c a with | some l=>cr | none=>ay aK (E a) (E i)):=by
 cases ht:mX c a with
 | none=>exact az dD <| M.CW (by have:=C.room.units;omega) (hE a) (hE _) hs
 | some l=>
  obtain⟨x,p,rfl,g,o,G⟩:=pi C ht
  exact au
def wf(C:cY k c X){E:Expr->ME}(hE:∀ e,DE X e (E e))(a i:Expr):DE X (.Subscript a i pos) (Aj c E a i):=by
 cases i with
 | Slice lo hi st p=>
  cases st with
  | none=>exact az kL <| M.wS (hE a) (wk hE lo) (wk hE hi)
  | some st=>
   cases lo with
   | none=>
    cases hi with
    | none=>exact au
    | some _=>exact au
   | some _=>exact au
 | _=>exact sY C hE a _
def iT:Expr->Option Str
 | .Name x _=>some x
 | _=>none
def eC{x:Str}(h:iT e=some x):∃ p,e=.Name x p:=by cases e <;> cases h;exact⟨_,rfl⟩
def jH:Expr->Option (Str×List Expr)
 | .Call f es [] _=>(iT f).map fun x=>(x,es)
 | _=>none
def eS{x:Str}{es:List Expr}(h:jH e=some (x,es)):∃ p p2,e=.Call (.Name x p) es [] p2:=by
 cases e with
 | Call f es' ks p2=>
  cases ks with
  | nil=>
   obtain⟨y,h1,h2⟩:=Gh.mp h
   cases h2
   obtain⟨p,rfl⟩:=eC h1
   exact⟨p,p2,rfl⟩
  | cons _ _=>cases h
 | _=>cases h
def fo(c:CI)(x:Str):Bool:=match Ae c x with | some .blt=>true | _=>false
def eH{x:Str}(C:cY k c X)(h:fo c x=true):X.mg x=none/\Gl X x/\bI x=true:=by
 unfold fo at h
 split at h
 ·rename_i e;obtain⟨a,b,d⟩:=dh C e;exact⟨d,a,b⟩
 ·cases h
def pp(c:CI)(es:List Expr):Option Expr:=match es with
 | [e1]=>match jH e1 with
  | some (y,[a])=>if y == "set" && fo c y&&aD a then some a else none
  | _=>none
 | _=>none
def nh{es:List Expr}{a:Expr}(h:pp c es=some a):∃ p p2,es=[.Call (.Name "set" p) [a] [] p2]/\fo c "set" = true/\aD a=true:=by
 unfold pp at h
 split at h
 ·split at h
  ·rename_i hc
   split at h
   ·rename_i hb
    cases h
    rw [Dz,Dz] at hb
    obtain⟨p,p2,rfl⟩:=eS hc
    have z:=hb.1.1
    rw [DQ] at z;subst z
    exact⟨p,p2,rfl,hb.1.2,hb.2⟩
   ·cases h
  ·cases h
 ·cases h
def iN(c:CI)(es:List Expr):Option Expr:=match es with
 | [e1]=>match jH e1 with
  | some (y,[a])=>if y == "range" && fo c y&&aD a then some a else none
  | _=>none
 | _=>none
def jT{es:List Expr}{a:Expr}(h:iN c es=some a):∃ p p2,es=[.Call (.Name "range" p) [a] [] p2]/\fo c "range" = true/\aD a=true:=by
 unfold iN at h
 split at h
 ·split at h
  ·rename_i hc
   split at h
   ·rename_i hb
    cases h
    rw [Dz,Dz] at hb
    obtain⟨p,p2,rfl⟩:=eS hc
    have z:=hb.1.1
    rw [DQ] at z;subst z
    exact⟨p,p2,rfl,hb.1.2,hb.2⟩
   ·cases h
  ·cases h
 ·cases h
def Dj(z y:Bool)(x:Str):Option (List D->aa->Option (D×aa)):=
 if x == "len" then some (ak dq) else if x == "int" then some (ak oI) else if x == "max" then some (ak gd) else if x == "min" then some (ak oD)
 else if x == "list" then some (ak (gS .lst)) else if x == "tuple" then some (ak (gS .tup)) else if x == "all" then some (ak yP) else if x == "str" then some (ak (if y then gR else fu)) else none
set_option maxHeartbeats 800000 in
def zA{zz yy:Bool}{x:Str}{f:List D->aa->Option (D×aa)}{es:List Expr}{ms:MA}{p:Pos}(C:cY k c X)(h:Dj zz yy x=some f)(hm:X.mg x=none)(hg:Gl X x)(o:bI x=true)(hs:(e::es).all aD=true)(ha:DA X (e::es) ms) :
  DE X (.Call (.Name x p) (e::es) [] pos) (aL f ms):=by
 rw [Ea,Dz] at hs
 have q1:=aG (X:=X) (es:=es) hs.1
 have q2:=cT (X:=X) (pos:=pos) hs.2
 unfold Dj at h
 split at h
 ·rename_i z;cases h;rw [DQ] at z;subst z;exact az bM <| M.gj xc hm boot_len ha hg (bK o) (aM o) q1 q2
 split at h
 ·rename_i z;cases h;rw [DQ] at z;subst z;exact az bM <| M.dP xf hm boot_int ha hg (bK o) (aM o) q1 q2
 split at h
 ·rename_i z;cases h;rw [DQ] at z;subst z;exact az bM <| M.gj (tV C.calm) hm boot_max ha hg (bK o) (aM o) q1 q2
 split at h
 ·rename_i z;cases h;rw [DQ] at z;subst z;exact az bM <| M.gj (tU C.calm) hm boot_min ha hg (bK o) (aM o) q1 q2
 split at h
 ·rename_i z;cases h;rw [DQ] at z;subst z;exact az bM <| M.dP tX hm boot_list ha hg (bK o) (aM o) q1 q2
 split at h
 ·rename_i z;cases h;rw [DQ] at z;subst z;exact az bM <| M.dP qz hm boot_tuple ha hg (bK o) (aM o) q1 q2
 split at h
 ·rename_i z;cases h;rw [DQ] at z;subst z;exact az bM <| M.gj (xg C.calm) hm boot_all ha hg (bK o) (aM o) q1 q2
 split at h
 ·rename_i z;cases h;rw [DQ] at z;subst z;cases yy;exact az bM <| M.dP oU hm boot_str ha hg (bK o) (aM o) q1 q2;exact az bM <| M.dP (tT (by have:=C.room.units;omega)) hm boot_str ha hg (bK o) (aM o) q1 q2
 cases h
def Ay(x:Str):Option String:=if x == "int" then some "int" else if x == "bool" then some "bool" else if x == "str" then some "str" else if x == "tuple" then some "tuple" else if x == "list" then some "list" else if x == "dict" then some "dict" else none
def qG{x:Str}{T:String}(h:Ay x=some T):bootBuiltins x=some (.type T)/\(T = "int"\/T = "bool"\/T = "str"\/T = "tuple"\/T = "list"\/T = "dict"):=by
 unfold Ay at h
 split at h
 ·rename_i z;cases h;rw [DQ] at z;subst z;exact⟨boot_int,by simp⟩
 split at h
 ·rename_i z;cases h;rw [DQ] at z;subst z;exact⟨boot_bool,by simp⟩
 split at h
 ·rename_i z;cases h;rw [DQ] at z;subst z;exact⟨boot_str,by simp⟩
 split at h
 ·rename_i z;cases h;rw [DQ] at z;subst z;exact⟨boot_tuple,by simp⟩
 split at h
 ·rename_i z;cases h;rw [DQ] at z;subst z;exact⟨boot_list,by simp⟩
 split at h
 ·rename_i z;cases h;rw [DQ] at z;subst z;exact⟨boot_dict,by simp⟩
 cases h
def Al(c:CI)(E:Expr->ME):List Expr->ME
 | [a,t]=>match iT t with
  | some y=>match Ae c y,Ay y with | some .blt,some T=>if aD a then de T (E a) else cr | _,_=>cr
  | none=>cr
 | _=>cr
def mH(c:CI)(E:Expr->ME)(x:Str)(es:List Expr):ME:=match Ae c x with
 | some (.fn n f)=>match es with
  | []=>if n == 0 then ag 0 f ae else cr
  | e::r=>if (e::r).all aD then ag n f (pe E (e::r)) else cr
 | some .blt=>if x == "isinstance" then Al c E es else match (if x == "len" then pp c es else none) with
  | some a=>cr
  | none=>match (if x == "list" then iN c es else none) with
  | some a=>cr
  | none=>match Dj (c.mt.contains 400000) (c.mt.contains 950000) x,es with
   | some f,e::r=>if (e::r).all aD then aL f (pe E (e::r)) else cr
   | _,_=>cr
 | _=>cr
def tw(C:cY k c X){E:Expr->ME}(hE:∀ e,DE X e (E e)){x:Str}{es:List Expr}{p:Pos}:DE X (.Call (.Name x p) es [] pos) (mH c E x es):=by
 unfold mH
 split
 ·rename_i n f hg
  obtain⟨g,o,G⟩:=dh C hg
  split
  ·split
   ·rename_i hn
    have:n=0:=by simpa using hn
    subst this
    exact az pV <| M.wY G C.room g (aM o)
   ·exact au
  ·split
   ·rename_i hs
    have hs':=hs
    rw [Ea,Dz] at hs
    exact az gx <| M.zr G C.room (cJ hE _) g (aM o) (aG hs.1) (cT hs.2)
   ·exact au
 ·rename_i hg
  obtain⟨g,o,G⟩:=dh C hg
  split
  ·rename_i z
   rw [DQ] at z;subst z
   unfold Al
   split
   ·split
    ·rename_i y hy
     obtain⟨p2,rfl⟩:=eC hy
     split
     ·rename_i T h1 h2
      obtain⟨g',o',G'⟩:=dh C h1
      split
      ·rename_i hs
       exact az rn <| M.tH G G' (qG h2).1 (hE _) (qG h2).2 g g' (bK o') (aM o') (aG hs) rfl rfl
      ·exact au
     ·exact au
    ·exact au
   ·exact au
  ·split
   ·rename_i a ha
    split at ha
    ·rename_i z
     rw [DQ] at z;subst z
     obtain⟨p3,p4,rfl,hb,hs⟩:=nh ha
     obtain⟨m2,g2,o2⟩:=eH C hb
     exact au
    ·cases ha
   ·split
    ·rename_i a ha
     split at ha
     ·rename_i z
      rw [DQ] at z;subst z
      obtain⟨p3,p4,rfl,hb,hs⟩:=jT ha
      obtain⟨m2,g2,o2⟩:=eH C hb
      exact au
     ·cases ha
    ·split
     ·rename_i _ f e r hf
      split
      ·rename_i hs
       exact zA C (by assumption) G g o hs (cJ hE _)
      ·exact au
     ·exact au
 ·exact au
def qA:Expr->Option (Expr×Str×Pos)
 | .Attribute o nm ap=>some (o,nm,ap)
 | _=>none
def oW{o:Expr}{nm:Str}{ap:Pos}(h:qA e=some (o,nm,ap)):e=.Attribute o nm ap:=by cases e <;> cases h;rfl
def vb(x:Str):Option MF:=if x == "append" then some gf else if x == "count" then some mD else none
def uZ{x:Str}{f:MF}(C:cY k c X)(h:vb x=some f):∃ id,Slot "list" x id/\typeOf (.builtin id)=pure (.type "method_descriptor")/\MtR X id (AM X.K f):=by
 unfold vb at h
 split at h
 ·rename_i z;cases h;rw [DQ] at z;subst z;exact⟨_,GF,F.type_list_append,sE⟩
 split at h
 ·rename_i z;cases h;rw [DQ] at z;subst z;exact⟨_,F.slot_list_count,F.type_list_count,uY C.room.units⟩
 cases h
def pI(x:Str):Option MF:=if x == "get" then some lh else none
def sG{x:Str}{f:MF}(C:cY k c X)(h:pI x=some f):∃ id,Slot "dict" x id/\typeOf (.builtin id)=pure (.type "method_descriptor")/\MtR X id (AM X.K f):=by
 unfold pI at h
 split at h
 ·rename_i z;cases h;rw [DQ] at z;subst z;exact⟨_,Fd,F.type_dict_get,yp (by have:=C.room.units;omega)⟩
 cases h
theorem ng:∀ {es:List Expr},es.all aD=true->(backTo pos (starEach es X.env)).all (fun x=>!x.1)=true
 | [],_=>rfl
 | e::es,h=>by
  rw [Ea,Dz] at h
  rw [aG h.1]
  show (true&&(backTo pos (starEach es X.env)).all (fun x=>!x.1))=true
  rw [ng h.2];rfl
def AU(o:Expr):Bool:=match o with | .Call _ _ _ _=>false | _=>true
def mG(z:Bool)(E:Expr->ME)(o:Expr)(nm:Str)(ap cp:Pos)(es:List Expr):ME:=match AU o,es with
 | true,e::r=>if (e::r).all aD&&(decide ((e::r).length<30)&&ap.endLine == cp.line) then
   (if nm == "count" then cr else match pI nm with | some f=>cw f (E o) (pe E (e::r)) | none=>match vb nm with | some f=>eG f (E o) (pe E (e::r)) | none=>cr) else cr
 | _,_=>cr
def tf{z:Bool}(C:cY k c X){E:Expr->ME}(hE:∀ e,DE X e (E e)){o:Expr}{nm:Str}{ap:Pos}{es:List Expr}:DE X (.Call (.Attribute o nm ap) es [] pos) (mG z E o nm ap pos es):=by
 unfold mG
 split
 ·rename_i e r hx
  split
  ·rename_i h
   rw [Dz,Dz] at h
   have hs:=h.1
   rw [Ea,Dz] at hs
   have few:((backTo pos (starEach (e::r) X.env)).all (fun x=>!x.1)&&(backToKw pos (keywordEach [] X.env)).all (fun x=>x.1.isSome)&&decide ((e::r).length+([]:List Keyword).length+(if ([]:List Keyword).isEmpty then 0 else 1)<30))=true:=by
    rw [ng h.1]
    show (true&&decide ((e::r).length+0+0<30))=true
    exact h.2.1
   split
   ·rename_i hc
    rw [DQ] at hc;subst hc
    exact au
   ·split
    ·rename_i f hf
     obtain⟨id,h1,h2,h3⟩:=sG C hf
     exact az kN (M.wU h1 h2 h3 (hE _) (cJ hE _) (oX hx) few h.2.2 (aG hs.1) (cT hs.2))
    ·split
     ·rename_i f hf
      obtain⟨id,h1,h2,h3⟩:=uZ C hf
      exact az nT (M.zl h1 h2 h3 (hE _) (cJ hE _) (oX hx) few h.2.2 (aG hs.1) (cT hs.2))
     ·exact au
  ·exact au
 ·exact au
def nC:Expr->Bool
 | .Slice _ _ _ _=>false
 | _=>true
def tm(G:Expr->MG):List Expr->jK
 | []=>dO
 | e::r=>bw (if aD e then G e else vV) (tm G r)
def ij(c:CI)(x:Str):MG:=match c.sc.names.lookup x,fe x c.N with
 | some .local,some i=>aq i
 | some .cell,some i=>if c.all then aq i else vV
 | _,_=>vV
def yT(c:CI)(E:Expr->ME):Expr->MG
 | .Name x _=>ij c x
 | .Subscript o i _=>if nC i then cN (E o) (E i) else vV
 | _=>vV
def yU(c:CI)(E:Expr->ME):Expr->MG
 | .Tuple es _ _=>if es.all aD then cb es.length (tm (fun e=>match e with | .Tuple es _ _=>if es.all aD then cb es.length (tm (yT c E) es) else vV | e=>yT c E e) es) else vV
 | e=>yT c E e
def yR(C:cY k c X)(x:Str):DG X (.Name x pos) (ij c x):=by
 unfold ij
 split
 ·rename_i h1 h2
  exact sf gb <| M.rX (by rw [C.N];exact C.nd) (by rw [C.N];exact aR h2) (by rw [C.sc];exact .inl h1) (.inr (by rw [C.sc];exact h1))
 ·rename_i h1 h2
  split
  ·rename_i ha
   exact sf gb <| M.rX (by rw [C.N];exact C.nd) (by rw [C.N];exact aR h2) (by rw [C.sc];exact .inr h1) (.inl (C.fn ha x))
  ·exact oO
 ·exact oO
def yS(C:cY k c X){E:Expr->ME}(hE:∀ e,DE X e (E e))(e:Expr):DG X e (yT c E e):=by
 cases e with
 | Name x p=>exact yR C x
 | Subscript o i p=>
  show DG X _ (if nC i then cN (E o) (E i) else vV)
  split
  ·rename_i h
   refine sf ou (M.CN (hE o) (hE i) ?_)
   cases i <;> first | (intro _;rfl) | cases h
  ·exact oO
 | _=>exact oO
def gG{es:List Expr}(h:aD e=true):assignEach (e::es) X.env=(false,assign e X.env)::assignEach es X.env:=by cases e <;> first | rfl | cases h
theorem mP:∀ {es:List Expr},es.all aD=true->(assignEach es X.env).length=es.length/\(assignEach es X.env).findIdx? (·.1)=none
 | [],_=>⟨rfl,rfl⟩
 | e::es,h=>by
  rw [Ea,Dz] at h
  rw [gG h.1]
  obtain⟨a,b⟩:=mP h.2
  exact⟨by simp [a],by simp [List.findIdx?_cons,b]⟩
theorem rS{G:Expr->MG}(hG:∀ e,DG X e (G e)):∀ es:List Expr,es.all aD=true->Dw X es (tm G es)
 | [],_=>xa oz <| M.zi
 | e::r,h=>by
  rw [Ea,Dz] at h
  unfold tm
  rw [DU h.1]
  exact xa le <| M.wP (hG e) (rS hG r h.2) (by rw [gG h.1];rfl)
def rR(C:cY k c X){G:Expr->MG}(hG:∀ e,DG X e (G e))(es:List Expr)(j:Nat):DG X (.Tuple es j pos) (if es.all aD then cb es.length (tm G es) else vV):=by
 split
 ·rename_i h
  exact sf eK <| M.CM C.calm (rS hG es h) (mP h).1 (mP h).2
 ·exact oO
def gE(C:cY k c X){E:Expr->ME}(hE:∀ e,DE X e (E e))(e:Expr):DG X e (yU c E e):=by
 have h1:=yS C hE
 cases e with
 | Tuple es j p=>
  refine rR C (fun e=>?_) es j
  cases e with
  | Tuple es j p=>exact rR C h1 es j
  | _=>exact h1 _
 | _=>exact h1 _
def evI(c:CI)(E:Expr->ME)(tg it:Expr):MA:=match jH it with
 | some (x,es)=>if x == "enumerate" && fo c x then (match tg,es with
   | .Tuple _ _ _,[a]=>if aD a then ic else ic
   | _,_=>ic) else if x == "zip" && fo c x then (match tg,es with
   | .Tuple _ _ tp,[a,b]=>if aD a&&aD b then (ic) else ic
   | _,_=>ic) else if x == "range" && fo c x then (match es with
   | [a]=>if aD a then aS (pe E [a]) else ic
   | [a,b]=>if aD a&&aD b then ca (pe E [a,b]) else ic
   | _=>ic) else fU (E it)
 | none=>fU (E it)
def qo(C:cY k c X){E:Expr->ME}(hE:∀ e,DE X e (E e)){tg it:Expr}:DI X tg it (evI c E tg it):=by
 unfold evI
 split
 ·rename_i x es he
  obtain⟨p,p2,rfl⟩:=eS he
  split
  ·rename_i hx
   rw [Dz] at hx
   obtain⟨m,g,o⟩:=eH C hx.2
   have z:=hx.1
   rw [DQ] at z;subst z
   split
   ·split
    ·rename_i h
     exact gi
    ·exact gi
   ·exact gi
  split
  ·rename_i hx
   rw [Dz] at hx
   obtain⟨m,g,o⟩:=eH C hx.2
   have z:=hx.1
   rw [DQ] at z;subst z
   split
   ·split
    ·rename_i h
     rw [Dz] at h
     exact gi
    ·exact gi
   ·exact gi
  split
  ·rename_i hx
   rw [Dz] at hx
   obtain⟨m,g,o⟩:=eH C hx.2
   have z:=hx.1
   rw [DQ] at z;subst z
   split
   ·split
    ·rename_i h
     exact se jd <| M.tG m (cJ hE _) g (aG h)
    ·exact gi
   ·split
    ·rename_i h
     rw [Dz] at h
     exact se jc <| M.tF m (cJ hE _) g (by rw [aG h.1,aG h.2];rfl) (aG h.2)
    ·exact gi
   ·exact gi
  ·exact se lX <| M.qv (hE _)
 ·exact se lX <| M.qv (hE _)
def Ab(c:CI)(it:Expr):Bool:=match jH it with | some (x,_)=>(x == "enumerate" || x == "zip" || x == "range")&&fo c x | none=>false
def ez(scope sc:Scope):Scope:={ scope with names:=scope.names.map fun x=>match x with | (n,k)=>if (k == NameKind.free&&sc.kind == .function&&sc.names.lookup n == some .cell)=true then (n,.cell) else (n,k) }
def zQ(scope:Scope)(env:Env):relabel scope env=ez scope env.scope:=rfl
def oV(scope:Scope):List Str:=(scope.names.filter fun x=>x.2 == .local && !(x.1 == (".0":Str))).map (·.1)++(scope.names.filter fun x=>x.2 == .free).map (·.1)
def mO(c:CI)(scope:Scope):List (Option Nat):=(scope.names.filter fun x=>x.2 == .local && !(x.1 == (".0":Str))).map (fun _=>none)++(scope.names.filter fun x=>x.2 == .free).map (fun x=>fe x.1 c.N)
def Dk(c:CI)(scope:Scope):Bool:=
 scope.kind == .function&&(scope.names.all fun x=>x.2 != .cell)&&(scope.names.all fun x=>x.2 != .local||scope.names.lookup x.1 == some .local)
 && (scope.names.all fun x=>x.2 != .free||c.sc.names.lookup x.1 == some .cell||c.sc.names.lookup x.1 == some .free)
 && kg c.N (oV scope) (fun y=>c.sc.names.lookup y) (fun y=>(ez scope c.sc).names.lookup y) (mO c scope) (oV scope)&&decide (oV scope).Nodup
def xh(c:CI)(scope:Scope):CI:=⟨oV scope,ez scope c.sc,false,c.gs,c.mt⟩
def sg{scope:Scope}(C:cY k c X)(h:Dk c scope=true):BlockOk X (oV scope) scope (mO c scope)/\∀ A s H fp,cY k (xh c scope) (gp X (oV scope) scope A s H fp):=by
 unfold Dk at h
 simp only [Dz,ET,DQ] at h
 obtain⟨⟨⟨⟨⟨h1,h2⟩,h3⟩,h4⟩,h5⟩,h6⟩:=h
 refine⟨blk h6 h1 h2 h3 ?_ ?_,fun A s H fp=>⟨rfl,h6,?_,h1,(fun z=>nomatch z),C.calm,C.room,rfl,C.gs⟩⟩
 ·show (scope.names.all fun x=>x.2 != .free||X.env.scope.names.lookup x.1 == some .cell||X.env.scope.names.lookup x.1 == some .free)=true
  rw [C.sc];exact h4
 ·show kg X.N (oV scope) (fun y=>X.env.scope.names.lookup y) (fun y=>(ez scope X.env.scope).names.lookup y) (mO c scope) (oV scope)=true
  rw [C.sc,C.N];exact h5
 ·show ez scope X.env.scope=_
  rw [C.sc];rfl
def evTs(T:Expr->MT):List Expr->MT
 | []=>du
 | [e]=>T e
 | _=>jZ
def rO{T:Expr->MT}(hT:∀ e,DT X e (T e)):∀ es:List Expr,At X es (evTs T es)
 | []=>Dh nP <| M.wE
 | [e]=>yV (hT e)
 | _::_::_=>fun _ _ _ _ _ _ ⟨_,_,_,_,_,_,_,h,_⟩=>by cases h
def yk{e:Expr}(h:dC e=true)(env:Env)(x:Value):foldedSetIterable e env x=pure x:=by cases e <;> first | rfl | cases h
def eL(c:CI)(E:CI->Expr->ME)(T:CI->Expr->MT)(elt:Expr)(gens:List Comprehension)(scope:Scope)(line:Nat):ME:=match gens with
 | [⟨tg,it,ifs,a⟩]=>if a == 0&&dC it&&Dk c scope then if c.mt.contains (line+100000) then cr else cC (evI c (E c) tg it) (yU (xh c scope) (E (xh c scope)) tg) (evTs (T (xh c scope)) ifs) (E (xh c scope) elt) (mO c scope) else cr
 | _=>cr
def li(C:cY k c X)(hE:∀ c X,cY k c X->∀ e,DE X e (E c e))(hT:∀ c X,cY k c X->∀ e,DT X e (T c e)){elt:Expr}{gens:List Comprehension}{scope:Scope}{line:Nat}:DE X (.ListComp elt gens scope pos) (eL c E T elt gens scope line):=by
 unfold eL
 split
 ·rename_i tg it ifs a
  split
  ·rename_i h
   simp only [Dz,DQ] at h
   obtain⟨⟨h0,h1⟩,h2⟩:=h
   subst h0
   obtain⟨B,C'⟩:=sg C h2
   split
   ·exact au
   ·exact az jg <| M.zq C.calm B (qo C (hE _ _ C)) (fun A s H fp=>gE (C' A s H fp) (hE _ _ (C' A s H fp)) tg) (fun A s H fp=>rO (hT _ _ (C' A s H fp)) ifs) (fun A s H fp=>hE _ _ (C' A s H fp) elt) (dt h1)
  ·exact au
 ·exact au
def CB(E:Expr->ME):List (Option Expr)->List Expr->Option (List (ME×ME))
 | [],[]=>some []
 | some k::ks,v::vs=>(CB E ks vs).bind fun r=>some ((E k,E v)::r)
 | _,_=>none
theorem rP{E:Expr->ME}(hE:∀ e,DE X e (E e)):∀ {ks:List (Option Expr)} {vs:List Expr} {ms:List (ME×ME)},CB E ks vs=some ms->DPs X pos ks vs ms/\ks.all (·.isSome)=true/\ks.length=vs.length
 | [],[],ms,h=>by cases h;exact⟨zf,rfl,rfl⟩
 | some k::ks,v::vs,ms,h=>by
  obtain⟨r,h1,h2⟩:=Dy.mp h
  cases h2
  obtain⟨a,b,d⟩:=rP hE h1
  exact⟨wM (hE k) (hE v) a,by rw [Ea,b];rfl,by rw [DR,DR,d]⟩
 | [],_::_,_,h=>by cases h
 | none::_,_,_,h=>by cases h
 | some _::_,[],_,h=>by cases h
def qp(c:CI)(E:Expr->ME)(ks:List (Option Expr))(vs:List Expr)(line:Nat):ME:=match ks with
 | []=>if vs.isEmpty && !c.mt.contains line then mC (.dct [] []) else cr
 | k::r=>if c.mt.contains (line+900000) then (match k,r,vs with | some k,[],[v]=>cH (E k) (E v) | _,_,_=>cr) else if (k::r).length<=15 then (match CB E (k::r) vs with | some ms=>if c.mt.contains line then df ms else dL ms | none=>cr) else cr
def tq{E:Expr->ME}(C:cY k c X)(hE:∀ e,DE X e (E e))(ks:List (Option Expr))(vs:List Expr)(line:Nat):DE X (.Dict ks vs pos) (qp c E ks vs line):=by
 unfold qp
 split
 ·split
  ·rename_i h
   rw [Dz] at h
   have:vs=[]:=by simpa using h.1
   subst this
   exact az ji <| M.zo
  ·exact au
 ·rename_i k r
  split
  ·split
   ·exact az kP (M.wW (by have:=C.room.units;omega) (hE _) (hE _))
   ·exact au
  split
  ·rename_i hl
   split
   ·rename_i ms h
    obtain⟨a,b,d⟩:=rP (pos:=pos) hE h
    split
    ·exact az kO (M.wV a b d (by simp) hl)
    ·exact az nX (M.zp a b d (by simp) hl)
   ·exact au
  ·exact au
def wl(E:Expr->ME):List Expr->ME
 | []=>cr
 | _=>cr
def tj{E:Expr->ME}(hE:∀ e,DE X e (E e)):∀ es:List Expr,DE X (.JoinedStr es pos) (wl E es)
 | []=>au
 | _::_=>au
def Am(E:Expr->ME)(v:Expr)(cv:Int)(f:Option Expr):ME:=match cv,f with
 | _,_=>cr
def wm{E:Expr->ME}(hE:∀ e,DE X e (E e)){v:Expr}{cv:Int}{f:Option Expr}:DE X (.FormattedValue v cv f pos) (Am E v cv f):=by
 exact au
def zO(E:CI->Expr->ME)(T:CI->Expr->MT)(c:CI):Expr->ME
 | .Constant v _ _=>rT v
 | .Name x _=>qm c x
 | .BinOp a op b p=>wq (c.mt.contains (p.line+200000)) op (E c a) (E c b)
 | .UnaryOp op a _=>evUn op (E c a)
 | .Compare a ops bs _=>wo c E a ops bs
 | .BoolOp op vs _=>match op with | .And=>oB en (vs.map (E c)) | .Or=>oB rl (vs.map (E c))
 | .IfExp t a b _=>vm (T c t) (E c a) (E c b)
 | .Tuple es _ _=>aX (pe (E c) es)
 | .List es pos=>if c.mt.contains pos.line then dJ (pe (E c) es) else bZ (pe (E c) es)
 | .Dict ks vs pos=>qp c (E c) ks vs pos.line
 | .Subscript a i _=>Aj c (E c) a i
 | .Call f es ks p=>match iT f,qA f,ks with | some x,_,[]=>mH c (E c) x es | none,some (o,nm,ap),[]=>mG (c.mt.contains 500000) (E c) o nm ap p es | _,_,_=>cr
 | .ListComp elt gens scope p=>eL c E T elt gens scope p.line
 | .JoinedStr es _=>wl (E c) es
 | .FormattedValue v cv f _=>Am (E c) v cv f
 | _=>cr
def zM(E:CI->Expr->ME)(T:CI->Expr->MT)(c:CI):Expr->MT
 | .UnaryOp op a p=>match op with | .Not=>bX (T c a) | op=>da (E c (.UnaryOp op a p))
 | .BoolOp op vs _=>match op with | .And=>jz cM (vs.map (T c)) | .Or=>jz dI (vs.map (T c))
 | .Compare a ops bs _=>qr c E a ops bs
 | .IfExp _ _ _ _=>jZ
 | e=>da (E c e)
def uu(hE:∀ c X,cY k c X->∀ e,DE X e (E c e))(hT:∀ c X,cY k c X->∀ e,DT X e (T c e))(C:cY k c X)(e:Expr):DE X e (zO E T c e):=by
 have h1:=hE c X C
 have h2:=hT c X C
 cases e with
 | Constant v j p=>exact qq v
 | Name x p=>exact sZ C x
 | BinOp a op b p=>
  show DE X _ (wq (c.mt.contains (p.line+200000)) op (E c a) (E c b))
  exact wp (z:=c.mt.contains (p.line+200000)) (h1 a) (h1 b)
 | UnaryOp op a p=>exact yQ (h1 a)
 | Compare a ops bs p=>exact wn C h1
 | BoolOp op vs p=>cases op with | And=>exact lg h1 vs | Or=>exact oA h1 vs
 | IfExp t a b p=>exact az vk <| M.de_if (h2 t) (h1 a) (h1 b)
 | Tuple es j p=>exact az qZ <| M.CQ (cJ h1 es)
 | List es p=>
  show DE X _ (if c.mt.contains p.line then dJ (pe (E c) es) else bZ (pe (E c) es))
  split
  ·exact az nU <| M.zm (cJ h1 es)
  ·exact az rm <| M.CV (cJ h1 es)
 | Dict ks vs p=>exact tq C h1 ks vs p.line
 | Subscript a i p=>exact wf C h1 a i
 | Call f es ks p=>
  show DE X _ (match iT f,qA f,ks with | some x,_,[]=>mH c (E c) x es | none,some (o,nm,ap),[]=>mG (c.mt.contains 500000) (E c) o nm ap p es | _,_,_=>cr)
  split
  ·rename_i x h
   obtain⟨p2,rfl⟩:=eC h
   exact tw C h1
  ·rename_i o nm ap _ ha
   have:=oW ha
   subst this
   exact tf C h1
  ·exact au
 | ListComp elt gens scope p=>exact li C hE hT
 | JoinedStr es p=>exact tj h1 es
 | FormattedValue v cv f p=>exact wm h1
 | _=>exact au
def ur(hE:∀ c X,cY k c X->∀ e,DE X e (E c e))(hT:∀ c X,cY k c X->∀ e,DT X e (T c e))(C:cY k c X)(e:Expr):DT X e (zM E T c e):=by
 have h1:=hE c X C
 have h2:=hT c X C
 cases e with
 | UnaryOp op a p=>cases op <;> first | exact oT nS <| M.CD (h2 a) | exact oT lS <| M.oJ (h1 _)
 | BoolOp op vs p=>cases op with | And=>exact sU h2 vs | Or=>exact vW h2 vs
 | Compare a ops bs p=>exact tu C h1
 | IfExp t a b p=>exact gh
 | _=>exact oT lS <| M.oJ (h1 _)
def ev:Nat->(CI->Expr->ME)×(CI->Expr->MT)
 | 0=>(fun _ _=>cr,fun _ _=>jZ)
 | n+1=>(zO (ev n).1 (ev n).2,zM (ev n).1 (ev n).2)
theorem gU:∀ n:Nat,(∀ c X,cY k c X->∀ e,DE X e ((ev n).1 c e))/\(∀ c X,cY k c X->∀ e,DT X e ((ev n).2 c e))
 | 0=>⟨fun _ _ _ _=>au,fun _ _ _ _=>gh⟩
 | n+1=>⟨fun _ _ C e=>uu (gU n).1 (gU n).2 C e,fun _ _ C e=>ur (gU n).1 (gU n).2 C e⟩
def dX:Expr->Bool
 | .ListComp _ _ _ _=>false
 | .SetComp _ _ _ _=>false
 | .DictComp _ _ _ _ _=>false
 | _=>true
def cz{t:Option Expr}{l:Nat}(h:dX e=true):swapsWith e t l X.env=pure false:=by cases e <;> first | rfl | cases h
def kZ:Expr->Bool
 | .Tuple _ _ _=>true
 | .List _ _=>true
 | _=>false
def pF{t:Expr}(h:kZ t=false\/kZ e=false):swappedStores [t] e X.env=pure none:=by
 rcases h with h | h
 ·cases t <;> first | rfl | cases h
 ·cases t <;> first | rfl | (cases e <;> first | rfl | cases h)
def wy(c:CI)(E:CI->Expr->ME)(T:CI->Expr->MT)(x:Str)(px:Pos)(e:Expr):MS:=match e with
 | .ListComp elt gens scope p=>if c.all&&(c.sc.names.lookup x == some .local&&px.line == p.line && !(scope.names.any fun y=>y.1 == x&&(y.2 == .local||y.2 == .cell))) then aw (eL c E T elt gens scope p.line) (ij c x) else if c.all&&c.sc.names.lookup x == some .cell then aw (eL c E T elt gens scope p.line) (ij c x) else dc
 | e=>if dX e then aw (E c e) (ij c x) else dc
def Bf:Expr->Option (Str×Pos×Str×Pos)
 | .Tuple [.Name x px,.Name y py] _ _=>some (x,px,y,py)
 | _=>none
def sC{t:Expr}{x y:Str}{px py:Pos}(h:Bf t=some (x,px,y,py)):∃ k p,t=.Tuple [.Name x px,.Name y py] k p:=by
 unfold Bf at h
 split at h
 ·cases h;exact⟨_,_,rfl⟩
 ·cases h
def AA:Expr->Option (Expr×Expr)
 | .Tuple [a,b] _ _=>some (a,b)
 | _=>none
def sk{t a b:Expr}(h:AA t=some (a,b)):∃ k p,t=.Tuple [a,b] k p:=by
 unfold AA at h
 split at h
 ·cases h;exact⟨_,_,rfl⟩
 ·cases h
def pk{x y:Str}{px py p p2:Pos}{k k2:Nat}{a b:Expr}(h:(X.env.kindOf x == some NameKind.local&&X.env.kindOf y == some NameKind.local)=false):swappedStores [.Tuple [.Name x px,.Name y py] k p] (.Tuple [a,b] k2 p2) X.env=pure none:=by
 unfold swappedStores
 simp only
 split
 ·rfl
 split
 ·rfl
 rw [DU]
 generalize hg:List.filterMap _ [Expr.Name x px,Expr.Name y py]=L
 have hL:L.length<=1:=by
  rw [<- hg,Ey,Ey]
  cases hx:(X.env.kindOf x == some NameKind.local) with
  | false=>simp only [hx,FX,Ff,Fy];split <;> simp
  | true=>
   have hy:(X.env.kindOf y == some NameKind.local)=false:=by rw [hx,Bool.true_and] at h;exact h
   simp only [hy,FX,Ff,Fy];split <;> simp
 have h2:(L.length != [Expr.Name x px,Expr.Name y py].length)=true:=by
  rw [bne_iff_ne];show L.length≠2;omega
 rw [h2];rfl
def qU(c:CI)(x y:Str):Bool:=!(c.sc.names.lookup x == some .local&&c.sc.names.lookup y == some .local)
def rQ(c:CI)(E:CI->Expr->ME)(t e:Expr):Option MS:=match Bf t,AA e with
 | some (x,px,y,py),some (a,b)=>if qU c x y then some (aw (E c e) (yU c (E c) t)) else match fe x c.N,fe y c.N with
  | some i,some j=>if (c.all&&c.sc.names.lookup x == some .local&&c.sc.names.lookup y == some .local && !(x == y)&&py.line == px.line&&iO a&&iO b && !(foldedForSure 8 a&&foldedForSure 8 b) && !(constantsAlone 8 a&&constantsAlone 8 b) && !(i == j))=true then some (ib i j (pe (E c) [a,b])) else none
  | _,_=>none
 | _,_=>none
def wj(C:cY k c X){E:CI->Expr->ME}(hE:∀ e,DE X e (E c e)){t:Expr}{m:MS}(h:rQ c E t e=some m):DS X (.Assign [t] e pos) m:=by
 unfold rQ at h
 split at h
 ·rename_i x px y py a b h1 h2
  obtain⟨k1,p1,rfl⟩:=sC h1
  obtain⟨k2,p2,rfl⟩:=sk h2
  split at h
  ·rename_i hn
   cases h
   refine dA cQ <| M.wL (hE _) (gE C hE _) rfl (pk ?_) rfl
   unfold qU at hn
   rw [Bool.not_eq_true'] at hn
   show (X.env.scope.names.lookup x == some NameKind.local&&X.env.scope.names.lookup y == some NameKind.local)=false
   rw [C.sc];exact hn
  split at h
  ·rename_i i j hi hj
   split at h
   ·rename_i hc
    cases h
    simp only [Dz,DQ,Bool.not_eq_true'] at hc
    obtain⟨⟨⟨⟨⟨⟨⟨⟨⟨_,hx⟩,hy⟩,hne⟩,hl⟩,ha⟩,hb⟩,hf⟩,hcn⟩,hij⟩:=hc
    have hx':X.env.scope.names.lookup x=some .local:=by rw [C.sc];exact hx
    have hy':X.env.scope.names.lookup y=some .local:=by rw [C.sc];exact hy
    have hbk:X.env.blockKind=.function:=by unfold Env.blockKind;rw [C.sc,C.fk];rfl
    exact dA rj (M.CJ C.calm (by rw [C.N];exact C.nd) (by rw [C.N];exact aR hi) (by rw [C.N];exact aR hj) (by simpa using hij) hx' hy' (cJ hE _) (uo hbk hx' hy' hne (by simpa using hl) ha hb hf hcn))
   ·cases h
  ·cases h
 ·cases h
def wz(c:CI)(E:CI->Expr->ME)(T:CI->Expr->MT)(t e:Expr):MS:=match t with
 | .Name x px=>wy c E T x px e
 | t=>match rQ c E t e with
 | some m=>m
 | none=>if dX e&&aD t&&(!kZ t || !kZ e) then aw (E c e) (yU c (E c) t) else dc
def fW{m:ME}{s:Stmt}:DS X s (aw m vV):=fun _ _ _ _ _ _ ⟨_,_,_,_,_,_,h,_⟩=>by
 rw [cQ] at h
 obtain⟨_,_,h⟩:=Dy.mp h
 cases h
def tz(C:cY k c X)(hE:∀ c X,cY k c X->∀ e,DE X e (E c e))(hT:∀ c X,cY k c X->∀ e,DT X e (T c e)){x:Str}{px:Pos}:DS X (.Assign [.Name x px] e pos) (wy c E T x px e):=by
 have h1:=hE c X C
 have gen:∀ e,dX e=true->DS X (.Assign [.Name x px] e pos) (aw (E c e) (ij c x)):=fun e hn=>by
  unfold ij
  split
  ·rename_i h1' h2
   exact dA fz <| M.qu (by rw [C.N];exact C.nd) (by rw [C.N];exact aR h2) (by rw [C.sc];exact .inl h1') (h1 e) (cz hn) (.inr (by rw [C.sc];exact h1'))
  ·rename_i h1' h2
   split
   ·rename_i ha
    exact dA fz <| M.qu (by rw [C.N];exact C.nd) (by rw [C.N];exact aR h2) (by rw [C.sc];exact .inr h1') (h1 e) (cz hn) (.inl (C.fn ha x))
   ·exact fW
  ·exact fW
 cases e with
 | ListComp elt gens scope p=>
  show DS X _ (if c.all&&(c.sc.names.lookup x == some .local&&px.line == p.line && !(scope.names.any fun y=>y.1 == x&&(y.2 == .local||y.2 == .cell))) then aw (eL c E T elt gens scope p.line) (ij c x) else if c.all&&c.sc.names.lookup x == some .cell then aw (eL c E T elt gens scope p.line) (ij c x) else dc)
  split
  ·rename_i hw
   rw [Dz] at hw
   have hw1:=hw.2
   simp only [Dz,DQ] at hw1
   have hl:=hw1.1.1
   unfold ij
   rw [hl]
   cases hi:fe x c.N with
   | none=>exact fW
   | some i=>
    have sw:(pure (X.env.blockKind == .function&&X.env.scope.names.lookup x == some .local&&px.line == p.line && !(scope.names.any fun y=>y.1 == x&&(y.2 == .local||y.2 == .cell))):Sem Bool)=pure true:=by
     have hb:X.env.blockKind=.function:=by unfold Env.blockKind;rw [C.sc,C.fk];rfl
     rw [hb,C.sc]
     have:=hw.2
     simp only [Bool.and_assoc] at this ⊢
     rw [this];rfl
    unfold eL
    split
    ·rename_i tg it ifs a
     split
     ·rename_i h
      simp only [Dz,DQ] at h
      obtain⟨⟨h0,h1'⟩,h2⟩:=h
      subst h0
      obtain⟨B,C'⟩:=sg C h2
      split
      ·exact wK
      ·exact dA oa <| M.qt (by rw [C.N];exact C.nd) (by rw [C.N];exact aR hi) (by rw [C.sc];exact .inl hl) C.calm B (qo C (hE _ _ C)) (fun A s H fp=>gE (C' A s H fp) (hE _ _ (C' A s H fp)) tg) (fun A s H fp=>rO (hT _ _ (C' A s H fp)) ifs) (fun A s H fp=>hE _ _ (C' A s H fp) elt) sw (dt h1') (.inr (by rw [C.sc];exact hl))
     ·intro _ _ _ _ _ _ ⟨_,_,_,_,_,_,h,_⟩
      rw [cQ] at h
      obtain⟨_,z,h⟩:=Dy.mp h
      cases z
    ·intro _ _ _ _ _ _ ⟨_,_,_,_,_,_,h,_⟩
     rw [cQ] at h
     obtain⟨_,z,h⟩:=Dy.mp h
     cases z
  ·split
   ·rename_i hw
    rw [Dz,DQ] at hw
    unfold ij
    rw [hw.2]
    cases hi:fe x c.N with
    | none=>exact fW
    | some i=>
     dsimp only
     rw [DU hw.1]
     refine dA fz <| M.qu (by rw [C.N];exact C.nd) (by rw [C.N];exact aR hi) (by rw [C.sc];exact .inr hw.2) (li C hE hT) ?_ (.inl (C.fn hw.1 x))
     show (pure (X.env.blockKind == .function&&X.env.scope.names.lookup x == some .local&&px.line == p.line && !(scope.names.any fun y=>y.1 == x&&(y.2 == .local||y.2 == .cell))):Sem Bool)=pure false
     rw [C.sc,hw.2]
     have:((some NameKind.cell:Option NameKind) == some .local)=false:=by decide
     rw [this,FY];rfl
   ·exact cO
 | SetComp _ _ _ _=>exact cO
 | DictComp _ _ _ _ _=>exact cO
 | _=>exact gen _ rfl
def wx(C:cY k c X)(hE:∀ c X,cY k c X->∀ e,DE X e (E c e))(hT:∀ c X,cY k c X->∀ e,DT X e (T c e)){t:Expr}:DS X (.Assign [t] e pos) (wz c E T t e):=by
 have gen:∀ t,DS X (.Assign [t] e pos) (match rQ c E t e with | some m=>m | none=>if dX e&&aD t&&(!kZ t || !kZ e) then aw (E c e) (yU c (E c) t) else dc):=fun t=>by
  split
  ·rename_i h
   exact wj C (hE _ _ C) h
  split
  ·rename_i h
   simp only [Dz,Fs,Bool.not_eq_true'] at h
   refine dA cQ <| M.wL (hE _ _ C e) (gE C (hE _ _ C) t) (cz h.1.1) (pF h.2) ?_
   rw [gG h.1.2];rfl
  ·exact cO
 cases t with
 | Name x px=>exact tz C hE hT
 | _=>exact gen _
def lB:List MS->MS
 | []=>aO
 | [m]=>m
 | m::r=>aA m (lB r)
theorem eU{F:Stmt->MS}(h:∀ s,DS X s (F s)):∀ ss:List Stmt,lu X ss (lB (ss.map F))
 | []=>qx fT <| M.yZ
 | [s]=>yY (h s)
 | s::s'::r=>qx rg <| M.wH (h s) (eU h (s'::r))
def qd:Expr->Bool
 | .Constant (.str _) _ _=>true
 | _=>false
def wv(c:CI)(E:Expr->ME)(op:Operator)(e:Expr):Expr->MS
 | .Name x _=>match op,c.sc.names.lookup x,fe x c.N with
  | .Add,some .local,some i=>dc
  | _,_,_=>dc
 | _=>dc
def wu{E:Expr->ME}(C:cY k c X)(hE:∀ e,DE X e (E e)){op:Operator}(e:Expr)(t:Expr):DS X (.AugAssign t op e pos) (wv c E op e t):=by
 unfold wv
 split
 ·split
  ·rename_i h1 h2
   exact cO
  ·exact cO
 ·exact cO
def zN(E:CI->Expr->ME)(T:CI->Expr->MT)(F:CI->Stmt->MS)(c:CI):Stmt->MS
 | .Return o _=>match o with | some e=>aZ (E c e) | none=>fun _ S=>some (.rt .non S)
 | .Pass _=>aO
 | .Break _=>fun env S=>some (.bk env S)
 | .Continue _=>fun env S=>some (.ct env S)
 | .Expr e _=>if qd e then aO else if dX e then ei (E c e) else dc
 | .If t a b _=>cx (T c t) (lB (a.map (F c))) (lB (b.map (F c)))
 | .Assign ts e _=>match ts with | [t]=>wz c E T t e | _=>dc
 | .AugAssign t op e _=>wv c (E c) op e t
 | .While tst body els _=>match els with | []=>dc | _=>dc
 | .For tg it body els _=>match els with | []=>if dC it then (if Ab c it then em (evI c (E c) tg it) (yU c (E c) tg) (lB (body.map (F c))) else dw (E c it) (yU c (E c) tg) (lB (body.map (F c)))) else dc | _=>dc
 | _=>dc
def ut{F:CI->Stmt->MS}(hE:∀ c X,cY k c X->∀ e,DE X e (E c e))(hT:∀ c X,cY k c X->∀ e,DT X e (T c e))(hF:∀ c X,cY k c X->∀ e,DS X e (F c e))(C:cY k c X)(s:Stmt):DS X s (zN E T F c s):=by
 have h1:=hE c X C
 have h2:=hT c X C
 have h3:=hF c X C
 cases s with
 | Return o p=>cases o with | none=>exact za | some e=>exact dA rh <| M.CH (h1 e)
 | Pass p=>exact dA fT <| M.zb
 | Break p=>exact wJ
 | Continue p=>exact oM
 | Expr e p=>
  show DS X _ (if qd e then aO else if dX e then ei (E c e) else dc)
  split
  ·rename_i h
   unfold qd at h
   split at h
   ·exact dA fT <| M.CK
   ·cases h
  ·split
   ·rename_i h;exact dA nW <| M.ze (h1 e) (cz h)
   ·exact cO
 | If t a b p=>exact dA rp <| M.ds_if (h2 t) (eU h3 a) (eU h3 b)
 | Assign ts e p=>
  show DS X _ (match ts with | [t]=>wz c E T t e | _=>dc)
  split
  ·exact wx C hE hT
  ·exact cO
 | AugAssign t op e p=>exact wu C h1 e t
 | While tst body els p=>
  cases els with
  | nil=>exact cO
  | cons _ _=>exact cO
 | For tg it body els p=>
  cases els with
  | nil=>
   show DS X _ (if dC it then (if Ab c it then em (evI c (E c) tg it) (yU c (E c) tg) (lB (body.map (F c))) else dw (E c it) (yU c (E c) tg) (lB (body.map (F c)))) else dc)
   split
   ·rename_i h
    split
    ·exact dA rq <| M.wI (by rw [C.xe];exact PassesOwn.never) C.calm (qo C h1) (gE C h1 tg) (eU h3 body) (dt h)
    ·exact dA nV <| M.zd (by rw [C.xe];exact PassesOwn.never) C.calm (h1 it) (gE C h1 tg) (eU h3 body) (dt h)
   ·exact cO
  | cons _ _=>exact cO
 | _=>exact cO
def evS(n:Nat):Nat->CI->Stmt->MS
 | 0=>fun _ _=>dc
 | m+1=>zN (ev n).1 (ev n).2 (evS n m)
theorem wg(n:Nat):∀ m:Nat,∀ c X,cY k c X->∀ s,DS X s (evS n m c s)
 | 0=>fun _ _ _ _=>cO
 | m+1=>fun _ _ C s=>ut (gU n).1 (gU n).2 (wg n m) C s
def Df:Stmt->Option (Str×Str×Expr)
 | .Assign [.Name b _] (.Subscript (.Name x _) (.Subscript o q p) _) _=>some (b,x,.Subscript o q p)
 | _=>none
def tK{s:Stmt}{b x:Str}{ix:Expr}(h:Df s=some (b,x,ix)):gm ix/\∃ pb pt ps pa,s=.Assign [.Name b pb] (.Subscript (.Name x pt) ix ps) pa:=by
 unfold Df at h
 split at h
 ·cases h;exact⟨by intro _ _;rfl,_,_,_,_,rfl⟩
 ·cases h
def De:Stmt->Option (Str×Expr×List Expr)
 | .Return (some (.Call (.Name b _) (e::es) [] _)) _=>some (b,e,es)
 | _=>none
def tJ{s:Stmt}{b:Str}{e:Expr}{es:List Expr}(h:De s=some (b,e,es)):∃ p pc pr,s=.Return (some (.Call (.Name b p) (e::es) [] pc)) pr:=by
 unfold De at h
 split at h
 ·cases h;exact⟨_,_,_,rfl⟩
 ·cases h
def Ap(c:CI)(b x:Str)(ix:Expr)(e:Expr)(es:List Expr):Option MS:=match fe b c.N,Ae c x with
 | some i,some (.ftab l)=>if bI b&&c.sc.names.lookup b == some .local&&(e::es).all aD then some (fV l i ((ev 40).1 c ix) (pe ((ev 40).1 c) (e::es))) else none
 | _,_=>none
def mJ(c:CI):List Stmt->Option MS
 | [s,t]=>match Df s,De t with
  | some (b,x,ix),some (b',e,es)=>if b' == b then Ap c b x ix e es else none
  | _,_=>none
 | _=>none
def tE(C:cY k c X){body:List Stmt}{m:MS}(h:mJ c body=some m):lu X body m:=by
 unfold mJ at h
 split at h
 ·rename_i s t
  split at h
  ·rename_i b x ix b' e es h1 h2
   obtain⟨hs,pb,pt,ps,pa,rfl⟩:=tK h1
   obtain⟨p,pc,pr,rfl⟩:=tJ h2
   split at h
   ·rename_i hb
    rw [DQ] at hb;subst hb
    unfold Ap at h
    split at h
    ·rename_i i l hi hg
     obtain⟨g,o,G⟩:=dh C hg
     split at h
     ·rename_i hc
      simp only [Dz,DQ] at hc
      obtain⟨⟨o1,h3⟩,h4⟩:=hc
      cases h
      rw [Ea,Dz] at h4
      exact qx vo <| M.wG G g (aM o) ((gU 40).1 _ _ C ix) hs C.room (cJ ((gU 40).1 _ _ C) _) (by rw [C.N];exact C.nd) (by rw [C.N];exact aR hi) (by rw [C.sc];exact .inl h3) (by rw [C.sc];exact .inl h3) (.inr (by rw [C.sc];exact h3)) (aM o1) (nB o1)
       (by rw [C.N];exact(DH.mp (aR hi)).1) (aG h4.1) (cT h4.2)
     ·cases h
    ·cases h
   ·cases h
  ·cases h
 ·cases h
def jM(c:CI)(body:List Stmt):MS:=match mJ c body with
 | some m=>m
 | none=>lB (body.map (evS 40 20 c))
def wt(C:cY k c X)(body:List Stmt):lu X body (jM c body):=by
 unfold jM
 cases h:mJ c body with
 | some m=>exact tE C h
 | none=>exact eU (wg 40 20 c X C) body
end
end
def mV(N:List Str)(st:Stmt)(gs:List (Str×GI))(mt:List Nat):CI:=⟨N,af st,true,gs,mt⟩
def GK(P:Program)(w:World)(K:W.Frag)(mg:Str->Option Value)(base:Heap)(k:Nat)(p:Str×GI):Prop:=match p.2 with
 | .fn n f=>Fn P w K mg base k p.1 n f
 | .con d=>GC K mg p.1 d
 | .blt=>mg p.1=none
 | .tab l=>xk w K mg p.1 l
 | .ftab l=>FTab P w K mg base k p.1 l
def bS{P:Program}{w:World}{K:W.Frag}{mg:Str->Option Value}{base:Heap}{k:Nat}{x:Str}{st:Stmt}{N ps:List Str}{gs:List (Str×GI)}{mt:List Nat}
  (F:bG K mg x st) (Sc:ax N ps (af st)) (hb:mU x st ps) (hg:∀ p∈gs,GK P w K mg base k p) :
  Fn P w K mg base (k+1) x ps.length (aQ N (jM (mV N st gs mt) (al st)) ps.length):=
 CO F Sc hb fun a cdv A outer s H E hr=>wt (k:=k) ⟨rfl,Sc.nd,rfl,Sc.kind,fun _ _=>rfl,rfl,hr,rfl,fun p hp=>by
  have:=hg p hp
  obtain⟨x,g⟩:=p
  cases g <;> exact this⟩ _
def GKs(P:Program)(w:World)(K:W.Frag)(mg:Str->Option Value)(base:Heap)(k:Nat):List (Str×GI)->Prop
 | []=>True
 | p::r=>GK P w K mg base k p/\GKs P w K mg base k r
theorem GKs.mem{P:Program}{w:World}{K:W.Frag}{mg:Str->Option Value}{base:Heap}{k:Nat}:∀ {gs:List (Str×GI)},GKs P w K mg base k gs->∀ p∈gs,GK P w K mg base k p
 | q::r,h,p,hp=>by
  rcases Ep.mp hp with rfl | hp
  ·exact h.1
  ·exact GKs.mem h.2 p hp
def BF{P:Program}{w:World}{K:W.Frag}{mg:Str->Option Value}{k:Nat}{st:Stmt}{N:List Str}{gs:List (Str×GI)}{mt:List Nat}{fa:Addr}(F:bG K mg "law" st)(hfa:mg "law" = some (.ref fa))(Sc:ax N ["_law_script"] (af st))
  (hbt:∀ (kV doc pm:Value) (an:Option Addr) (cdv ct v:Value),bindArgs (W.fnOf "law" "law" (cS st) (al st) (af st) .none kV doc pm an cdv ct) ⟨[v],[]⟩=pure [(("_law_script":Str),v)])
  (hg:∀ base,GKs P w K mg base k gs) :
  ∃ fd:FuncData,(∀ (s:Shared) (v:Value),BindsTo s fd ⟨[v],[]⟩ [("_law_script",v)])/\∀ base:Heap,K.In base->base.Ns mainGlobals mg->FnOk P w K mg base si (k+1) fa fd ["_law_script"] (uv K 1 (aQ N (jM (mV N st gs mt) (al st)) 1)):=
 BE F hfa Sc hbt fun base a cdv A outer s H E hr=>wt (k:=k) ⟨rfl,Sc.nd,rfl,Sc.kind,fun _ _=>rfl,rfl,hr,rfl,fun p hp=>by
  have:=GKs.mem (hg base) p hp
  obtain⟨x,g⟩:=p
  cases g <;> exact this⟩ _
section
variable{P:List Value->Prop}
def qF(h:P []):∀ us:List Value,us.length=0->P us:=fun us e=>by rw [EX e];exact h
def gn{n:Nat}(h:∀ a,∀ us:List Value,us.length=n->P (a::us)):∀ us:List Value,us.length=n+1->P us:=fun us e=>by
 cases us with
 | nil=>cases e
 | cons a us=>exact h a us (Nat.succ.inj e)
end
def recF(N:List Str)(st:Stmt)(gs:List (Str×GI))(mt:List Nat)(x:Str)(a:Nat):Nat->List D->aa->Option (D×aa)
 | 0=>fun _ _=>none
 | n+1=>aQ N (jM (mV N st ((x,.fn a (recF N st gs mt x a n))::gs) mt) (al st)) a
section
variable{P:Program}{w:World}{K:W.Frag}{mg:Str->Option Value}{base:Heap}{k:Nat}{x:Str}{st:Stmt}{N ps:List Str}{gs:List (Str×GI)}{mt:List Nat}
theorem GK.up{k':Nat}(h:k<=k'):∀ {p:Str×GI},GK P w K mg base k p->GK P w K mg base k' p
 | (_,.fn _ _),g=>Fn.up g h
 | (_,.con _),g=>g
 | (_,.blt),g=>g
 | (_,.tab _),g=>g
 | (_,.ftab _),g=>FTab.up g h
def yI(F:bG K mg x st)(Sc:ax N ps (af st))(hb:mU x st ps):Fn P w K mg base (k+1) x ps.length (fun _ _=>none):=by
 obtain⟨a,fd,F,hmg⟩:=F.ex
 exact Ag F Sc hmg (F.binds hb) fun cdv A outer s H E hr=>⟨dc,CG,fun ds S d S' _ _ _ h=>by cases h⟩
theorem AL(F:bG K mg x st)(Sc:ax N ps (af st))(hb:mU x st ps)(hg:GKs P w K mg base k gs):∀ n,Fn P w K mg base (k+1+n) x ps.length (recF N st gs mt x ps.length n)
 | 0=>yI F Sc hb
 | n+1=>bS (k:=k+1+n) F Sc hb fun p hp=>by
  rcases Ep.mp hp with rfl | hp
  ·exact AL F Sc hb hg n
  ·exact GK.up (by omega) (GKs.mem hg p hp)
end
def kE(P:Params)(x:Str)(t:Nat)(v:Value):DictEntry:=⟨PyData.keyHash P x,.str x t,v⟩
def kC(x:Str)(t l n a b:Nat)(u v:Value)(c d:Nat):Obj:=⟨.type "code",none,.fields #[.str x t,.str x (t+1),.str "/claim/cut.py" (t+2),.int l 0,.int n 0,.int 0 0,.int 0 0,.int 3 0,.ref a,.bool true,.int 181 0,.ref b,.none,u,v,.ref c,.int d 0,.int l 0,.str "/claim/cut.py" (d+1)],#[]⟩
def kF(x:Str)(st:Stmt)(m:Str)(t c:Nat):Obj:=⟨.type "function",none,.func (W.fnOf x x (cS st) (al st) (af st) .none .none .none (.str m t) none (.ref c) .none),#[]⟩
def fI{K:W.Frag}{h:Heap}{mg:Str->Option Value}(X:K.In h)(G:h.Ns mainGlobals mg){x:Str}{st:Stmt}(m:Str)(f t c:Nat)(e:(W.nsIn K mainGlobals x,K.lookup f,W.codeIn K (.ref c) x,W.keepIn K (.ref f))=(some (some (.ref f)),some (kF x st m t c),true,true)):bG K mg x st:=by
 have e1:=congrArg (·.1) e
 have e2:=congrArg (·.2.1) e
 have e3:=congrArg (·.2.2.1) e
 have e4:=congrArg (·.2.2.2) e
 exact⟨_,_,Cm (st:=st) (show K.lookup f=some ⟨.type "function",none,.func (W.fnOf x x (cS st) (al st) (af st) .none .none .none (.str m t) none (.ref c) .none),#[]⟩ from e2) e3 e4,W.mg_of X G e1⟩
def pM{N:List Str}{c:CI}{b:List Stmt}{m:MS}{n:Nat}(h:jM c b=m):aQ N (jM c b) n=aQ N m n:=by rw [h]
section
variable{env e:ai}{S S':aa}{x y d:D}{f g:aa->D->D->Option D}{a b c:ME}{ms:MA}{t u:MT}{k l:Bool}{p q:MS}{tg:MG}
@[simp high] theorem ob{α β:Type}{a:α}{f:α->Option β}:(some a).bind f=f a:=id rfl
@[simp high] theorem obn{α β:Type}{f:α->Option β}:(none:Option α).bind f=none:=id rfl
@[simp high] theorem oj{α:Type}{a:Option α}:(some a).join=a:=rfl
@[simp high] theorem oe{α:Type}{a:α}{l:List α}:(a::l)[0]?=some a:=rfl
@[simp high] theorem sI{α:Type}{a b:α}{l:List α}:(a::b::l)[1]?=some b:=rfl
@[simp high] theorem vw{α:Type}{a:α}{l:List α}{i:Nat}:(a::l)[i+1]?=l[i]?:=rfl
@[simp high] theorem ls0{α:Type}{a b:α}{l:List α}:(a::l).set 0 b=b::l:=rfl
@[simp high] theorem lsS{α:Type}{a b:α}{l:List α}{i:Nat}:(a::l).set (i+1) b=a::l.set i b:=rfl
def ke(S:aa)(z:D):Option (D×aa):=some (z,S)
@[simp] theorem bv:ke S d=some (d,S):=rfl
@[simp] theorem jh:mC d env S=some (d,S):=by rw [ji];rfl
@[simp] theorem bu{i:Nat}:ac i env S=(env[i]?).join.bind (ke S):=by rw [qY];rfl
def BU(f:aa->D->D->Option D)(x:D)(q:D×aa):Option (D×aa):=(f q.2 x q.1).bind (ke q.2)
def kOp1(f:aa->D->D->Option D)(b:ME)(env:ai)(q:D×aa):Option (D×aa):=(b env q.2).bind (BU f q.1)
@[simp] theorem fC:kOp1 f b env (x,S)=(b env S).bind (BU f x):=id rfl
@[simp] theorem fB:BU f x (y,S)=(f S x y).bind (ke S):=id rfl
@[simp] theorem je:ay f a b env S=(a env S).bind (kOp1 f b env):=by rw [dD];rfl
def zW(q:D×aa):Option (Bool×aa):=match q.1 with | .bl k=>some (k,q.2) | _=>none
@[simp] theorem rE:zW (.bl k,S)=some (k,S):=id rfl
@[simp] theorem rf:aP a env S=(a env S).bind zW:=by rw [jb];rfl
def Cc(g:aa->D->D->Option D)(y:D)(q:D×aa):Option (D×aa):=(g q.2 y q.1).bind (ke q.2)
def vK(g:aa->D->D->Option D)(c:ME)(env:ai)(y:D)(S:aa)(z:D):Option (D×aa):=match z with
 | .bl true=>(c env S).bind (Cc g y)
 | .bl false=>some (.bl false,S)
 | _=>none
def yC(f g:aa->D->D->Option D)(c:ME)(env:ai)(x:D)(q:D×aa):Option (D×aa):=(f q.2 x q.1).bind (vK g c env q.1 q.2)
def Cd(f g:aa->D->D->Option D)(b c:ME)(env:ai)(q:D×aa):Option (D×aa):=(b env q.2).bind (yC f g c env q.1)
@[simp] theorem kCh1_s:Cd f g b c env (x,S)=(b env S).bind (yC f g c env x):=id rfl
@[simp] theorem kCh2_s:yC f g c env x (y,S)=(f S x y).bind (vK g c env y S):=id rfl
@[simp] theorem kChz_t:vK g c env y S (.bl true)=(c env S).bind (Cc g y):=id rfl
@[simp] theorem kChz_f:vK g c env y S (.bl false)=some (.bl false,S):=id rfl
@[simp] theorem kCh3_s:Cc g y (x,S)=(g S y x).bind (ke S):=id rfl
@[simp] theorem mChain_s:bo f g a b c env S=(a env S).bind (Cd f g b c env):=by
 rw [gv];unfold M.bo Cd yC vK
 congr 1
def sM(q:D×aa):Option (Bool×aa):=(iF q.2 q.1).bind fun k=>some (k,q.2)
@[simp] theorem jp:sM (.bl k,S)=some (k,S):=id rfl
@[simp] theorem kTru_n:sM (.non,S)=some (false,S):=id rfl
@[simp] theorem kTru_i{i:Int}:sM (.int i,S)=some (i != 0,S):=id rfl
@[simp] theorem kTru_t{xs:List D}:sM (.tup xs,S)=some (!xs.isEmpty,S):=id rfl
@[simp] theorem kTru_l{xs:List D}:sM (.lst xs,S)=some (!xs.isEmpty,S):=id rfl
@[simp] theorem iZ:da a env S=(a env S).bind sM:=by rw [lS];rfl
def vN(u:MT)(env:ai)(q:Bool×aa):Option (Bool×aa):=if q.1=true then u env q.2 else some (false,q.2)
def BS(u:MT)(env:ai)(q:Bool×aa):Option (Bool×aa):=if q.1=true then some (true,q.2) else u env q.2
def zY(q:Bool×aa):Option (Bool×aa):=some (!q.1,q.2)
@[simp] theorem kAndT_t:vN u env (true,S)=u env S:=id rfl
@[simp] theorem kAndT_f:vN u env (false,S)=some (false,S):=id rfl
@[simp] theorem kOrT_t:BS u env (true,S)=some (true,S):=id rfl
@[simp] theorem BR:BS u env (false,S)=u env S:=id rfl
@[simp] theorem mn:zY (k,S)=some (!k,S):=id rfl
@[simp] theorem mAndT_s:cM t u env S=(t env S).bind (vN u env):=by rw [jj];rfl
@[simp] theorem vg:dI t u env S=(t env S).bind (BS u env):=by rw [lU];rfl
@[simp] theorem lV:bX t env S=(t env S).bind zY:=by rw [nS];rfl
@[simp] theorem mTrue_s:du env S=some (true,S):=by rw [nP];rfl
def Ce(b:ME)(env:ai)(q:D×aa):Option (D×aa):=(iF q.2 q.1).bind fun k=>if k=true then b env q.2 else some (q.1,q.2)
def kOr(b:ME)(env:ai)(q:D×aa):Option (D×aa):=(iF q.2 q.1).bind fun k=>if k=true then some (q.1,q.2) else b env q.2
@[simp] theorem kAnd_t:Ce b env (.bl true,S)=b env S:=id rfl
@[simp] theorem kAnd_f:Ce b env (.bl false,S)=some (.bl false,S):=id rfl
@[simp] theorem kOr_t:kOr b env (.bl true,S)=some (.bl true,S):=id rfl
@[simp] theorem kOr_f:kOr b env (.bl false,S)=b env S:=id rfl
@[simp] theorem fA:en a b env S=(a env S).bind (Ce b env):=by rw [rB];rfl
@[simp] theorem mOr_s:rl a b env S=(a env S).bind (kOr b env):=by rw [vf];rfl
def rJ(q:D×aa):Option (D×aa):=(iF q.2 q.1).bind fun k=>some (.bl (!k),q.2)
@[simp] theorem kNotV_l{xs:List D}:rJ (.lst xs,S)=some (.bl (!!xs.isEmpty),S):=id rfl
@[simp] theorem kNotV_t{xs:List D}:rJ (.tup xs,S)=some (.bl (!!xs.isEmpty),S):=id rfl
@[simp] theorem kOr_c{d:D}{ds:List D}:kOr b env (.lst (d::ds),S)=some (.lst (d::ds),S):=id rfl
@[simp] theorem kOr_e:kOr b env (.lst [],S)=b env S:=id rfl
@[simp] theorem kNotV_s:rJ (.bl k,S)=some (.bl (!k),S):=id rfl
@[simp] theorem mNotV_s:fj a env S=(a env S).bind rJ:=by rw [nR];rfl
def kIf(a b:ME)(env:ai)(q:Bool×aa):Option (D×aa):=if q.1=true then a env q.2 else b env q.2
@[simp] theorem kIf_t:kIf a b env (true,S)=a env S:=id rfl
@[simp] theorem kIf_f:kIf a b env (false,S)=b env S:=id rfl
@[simp] theorem mIf_s:vm t a b env S=(t env S).bind (kIf a b env):=by rw [vk];rfl
@[simp] theorem cu:ae env S=some ([],S):=by rw [lW];rfl
def qa(x:D)(q:List D×aa):Option (List D×aa):=some (x::q.1,q.2)
def vH(ms:MA)(env:ai)(q:D×aa):Option (List D×aa):=(ms env q.2).bind (qa q.1)
@[simp] theorem bg{xs:List D}:qa x (xs,S)=some (x::xs,S):=id rfl
@[simp] theorem bh:vH ms env (x,S)=(ms env S).bind (qa x):=id rfl
@[simp] theorem bE:ab a ms env S=(a env S).bind (vH ms env):=by rw [nY];rfl
def ie(q:List D×aa):Option (D×aa):=if q.1.length<=sizeLine then some (.tup q.1,q.2) else none
def ed(q:List D×aa):Option (D×aa):=if q.1.length<=sizeLine then some (.lst q.1,q.2) else none
def vF(q:List D×aa):Option (D×aa):=if q.1.length<=sizeLine then some (.ref q.2.length,q.2++[.lst q.1]) else none
def sz{n:Nat}(h:n<=1000):n<=sizeLine:=Er h (by decide)
def cA{xs:List D}(h:xs.length<=1000):ie (xs,S)=some (.tup xs,S):=DU (sz h)
def aT{xs:List D}(h:xs.length<=1000):ed (xs,S)=some (.lst xs,S):=DU (sz h)
def vE{xs:List D}(h:xs.length<=1000):vF (xs,S)=some (.ref S.length,S++[.lst xs]):=DU (sz h)
@[simp] theorem lR:aX ms env S=(ms env S).bind ie:=by rw [qZ];rfl
@[simp] theorem pS:bZ ms env S=(ms env S).bind ed:=by rw [rm];rfl
@[simp] theorem mLstR_s:dJ ms env S=(ms env S).bind vF:=by rw [nU];rfl
def Aa(f:List D->aa->Option (D×aa))(q:List D×aa):Option (D×aa):=f q.1 q.2
@[simp] theorem iw{f:List D->aa->Option (D×aa)}{xs:List D}:Aa f (xs,S)=f xs S:=id rfl
@[simp] theorem iq{f:List D->aa->Option (D×aa)}:aL f ms env S=(ms env S).bind (Aa f):=by rw [bM];rfl
def gB(n:Nat)(f:List D->aa->Option (D×aa))(q:List D×aa):Option (D×aa):=if q.1.length=n then f q.1 q.2 else none
@[simp] theorem kCallN_0{f:List D->aa->Option (D×aa)}:gB 0 f ([],S)=f [] S:=id rfl
@[simp] theorem vM{f:List D->aa->Option (D×aa)}:gB 1 f ([x],S)=f [x] S:=id rfl
@[simp] theorem dN{f:List D->aa->Option (D×aa)}:gB 2 f ([x,y],S)=f [x,y] S:=id rfl
@[simp] theorem vL{f:List D->aa->Option (D×aa)}{z:D}:gB 3 f ([x,y,z],S)=f [x,y,z] S:=id rfl
@[simp] theorem kCallN_4{f:List D->aa->Option (D×aa)}{z w:D}:gB 4 f ([x,y,z,w],S)=f [x,y,z,w] S:=id rfl
@[simp] theorem dg{n:Nat}{f:List D->aa->Option (D×aa)}:ag n f ms env S=(ms env S).bind (gB n f):=by rw [gx];rfl
def kIsI(T:String)(q:D×aa):Option (D×aa):=(qj T q.2 q.1).bind (ke q.2)
@[simp] theorem gA{T:String}:kIsI T (x,S)=(qj T S x).bind (ke S):=id rfl
@[simp] theorem gu{T:String}:de T a env S=(a env S).bind (kIsI T):=by rw [rn];rfl
def kUn(f:aa->D->Option D)(q:D×aa):Option (D×aa):=(f q.2 q.1).bind (ke q.2)
@[simp] theorem kUn_s{f:aa->D->Option D}:kUn f (x,S)=(f S x).bind (ke S):=id rfl
@[simp] theorem mUn_s{f:aa->D->Option D}:sH f a env S=(a env S).bind (kUn f):=by rw [vc];rfl
@[simp] theorem ve:ba env S=some (none,S):=by rw [kM];rfl
def zX(q:D×aa):Option (Option Int×aa):=match q.1 with | .int i=>some (some i,q.2) | _=>none
@[simp] theorem yx{i:Int}:zX (.int i,S)=some (some i,S):=id rfl
@[simp] theorem yq:bL a env S=(a env S).bind zX:=by rw [nQ];rfl
def vA(x:D)(l:Option Int)(q:Option Int×aa):Option (D×aa):=match x with
 | .tup xs=>some (.tup (aN xs l q.1),q.2)
 | .lst xs=>some (.lst (aN xs l q.1),q.2)
 | .rol xs=>some (.lst (aN xs l q.1),q.2)
 | .ref r=>match q.2[r]? with | some (.lst xs)=>some (.lst (aN xs l q.1),q.2) | _=>none
 | _=>none
def BM(hi:MO)(env:ai)(x:D)(q:Option Int×aa):Option (D×aa):=(hi env q.2).bind (vA x q.1)
def kSl1(lo hi:MO)(env:ai)(q:D×aa):Option (D×aa):=(lo env q.2).bind (BM hi env q.1)
@[simp] theorem BN{lo hi:MO}:kSl1 lo hi env (x,S)=(lo env S).bind (BM hi env x):=id rfl
@[simp] theorem BL{hi:MO}{l:Option Int}:BM hi env x (l,S)=(hi env S).bind (vA x l):=id rfl
@[simp] theorem BK{xs:List D}{l h:Option Int}:vA (.tup xs) l (h,S)=some (.tup (aN xs l h),S):=id rfl
@[simp] theorem kSl3_l{xs:List D}{l h:Option Int}:vA (.lst xs) l (h,S)=some (.lst (aN xs l h),S):=id rfl
@[simp] theorem kSl3_r{xs:List D}{l h:Option Int}:vA (.rol xs) l (h,S)=some (.lst (aN xs l h),S):=id rfl
@[simp] theorem vd{lo hi:MO}:aY a lo hi env S=(a env S).bind (kSl1 lo hi env):=by rw [kL];rfl
@[simp] theorem lT:aO env S=some (.nx env S):=by rw [fT];rfl
def vB(q:MS):il->Option il
 | .nx e S=>q e S
 | .rt d S=>some (.rt d S)
 | .bk e S=>some (.bk e S)
 | .ct e S=>some (.ct e S)
@[simp] theorem cR:vB q (.nx e S)=q e S:=id rfl
@[simp] theorem rH:vB q (.rt d S)=some (.rt d S):=id rfl
@[simp] theorem kSeq_bk:vB q (.bk e S)=some (.bk e S):=id rfl
@[simp] theorem kSeq_ct:vB q (.ct e S)=some (.ct e S):=id rfl
@[simp] theorem cG:aA p q env S=(p env S).bind (vB q):=by rw [rg];unfold M.aA;congr 1;funext o;cases o <;> rfl
def kRt(q:D×aa):Option il:=some (.rt q.1 q.2)
@[simp] theorem kR:kRt (d,S)=some (.rt d S):=id rfl
@[simp] theorem cq:aZ a env S=(a env S).bind kRt:=by rw [rh];rfl
def zZ(env:ai)(q:D×aa):Option il:=some (.nx env q.2)
@[simp] theorem kDrop_s:zZ env (d,S)=some (.nx env S):=id rfl
@[simp] theorem mDrop_s:ei a env S=(a env S).bind (zZ env):=by rw [nW];rfl
def BW(p q:MS)(env:ai)(r:Bool×aa):Option il:=if r.1=true then p env r.2 else q env r.2
@[simp] theorem pY:BW p q env (true,S)=p env S:=id rfl
@[simp] theorem pZ:BW p q env (false,S)=q env S:=id rfl
@[simp] theorem jf:cx t p q env S=(t env S).bind (BW p q env):=by rw [rp];rfl
def kNx(q:ai×aa):Option il:=some (.nx q.1 q.2)
@[simp] theorem kS:kNx (e,S)=some (.nx e S):=id rfl
def kAsg(tg:MG)(env:ai)(q:D×aa):Option il:=(tg q.1 env q.2).bind kNx
@[simp] theorem gC:kAsg tg env (d,S)=(tg d env S).bind kNx:=id rfl
@[simp] theorem gy:aw a tg env S=(a env S).bind (kAsg tg env):=by rw [cQ];rfl
@[simp] theorem dF{i:Nat}:aq i d env S=some (env.set i (some d),S):=by rw [gb];rfl
@[simp] theorem gNilD_s:dO [] env S=some (env,S):=by rw [oz];rfl
def kGs(gs:jK)(r:List D)(q:ai×aa):Option (ai×aa):=gs r q.1 q.2
@[simp] theorem kGs_s{gs:jK}{r:List D}:kGs gs r (e,S)=gs r e S:=id rfl
@[simp] theorem gConsD_s{gs:jK}{r:List D}:bw tg gs (d::r) env S=(tg d env S).bind (kGs gs r):=by rw [le];rfl
def gTupD_of{n:Nat}{gs:jK}{xs:List D}(h:xs.length=n):cb n gs (.tup xs) env S=gs xs env S:=by rw [eK];exact DU h
@[simp] theorem gTupD_2{gs:jK}:cb 2 gs (.tup [x,y]) env S=gs [x,y] env S:=by rw [eK];rfl
@[simp] theorem gTupD_3{gs:jK}{z:D}:cb 3 gs (.tup [x,y,z]) env S=gs [x,y,z] env S:=by rw [eK];rfl
@[simp] theorem gTupD_4{gs:jK}{z w:D}:cb 4 gs (.tup [x,y,z,w]) env S=gs [x,y,z,w] env S:=by rw [eK];rfl
def oi(env:ai)(d:D)(r:Nat)(k:Int)(S:aa):Option (ai×aa):=match S[r]? with
 | some (.lst xs)=>(sQ xs.length k).bind fun j=>some (env,S.set r (.lst (xs.set j d)))
 | _=>none
def rG(env:ai)(d o:D)(q:D×aa):Option (ai×aa):=match o,q.1 with
 | .ref r,.int k=>oi env d r k q.2
 | _,_=>none
def vz(i:ME)(env:ai)(d:D)(q:D×aa):Option (ai×aa):=(i env q.2).bind (rG env d q.1)
@[simp] theorem kSub1_s:vz a env d (x,S)=(a env S).bind (rG env d x):=id rfl
@[simp] theorem kSub2_s{r:Nat}{i:Int}:rG env d (.ref r) (.int i,S)=oi env d r i S:=id rfl
def jq{r:Nat}{i:Int}{xs:List D}{j:Nat}(h:S[r]?=some (.lst xs))(hj:sQ xs.length i=some j):oi env d r i S=some (env,S.set r (.lst (xs.set j d))):=by
 unfold oi;rw [h];show (sQ xs.length i).bind _=_;rw [hj];rfl
@[simp] theorem gSubD_s:cN a b d env S=(a env S).bind (vz b env d):=by
 rw [ou];unfold M.cN vz rG oi;congr 1
def kFor(tg:MG)(p:MS)(env:ai)(q:List D×aa):Option il:=bd tg p q.1 env q.2
@[simp] theorem mw{xs:List D}:kFor tg p env (xs,S)=bd tg p xs env S:=id rfl
@[simp] theorem lY:em ms tg p env S=(ms env S).bind (kFor tg p env):=by rw [rq];rfl
def sO(tg:MG)(p:MS)(xs:List D):il->Option il
 | .nx e s=>bd tg p xs e s
 | .ct e s=>bd tg p xs e s
 | .bk e s=>some (.nx e s)
 | .rt d s=>some (.rt d s)
def kLp1(tg:MG)(p:MS)(xs:List D)(q:ai×aa):Option il:=(p q.1 q.2).bind (sO tg p xs)
@[simp] theorem pX{xs:List D}:kLp1 tg p xs (e,S)=(p e S).bind (sO tg p xs):=id rfl
@[simp] theorem mr{xs:List D}:sO tg p xs (.nx e S)=bd tg p xs e S:=id rfl
@[simp] theorem kLp2_ct{xs:List D}:sO tg p xs (.ct e S)=bd tg p xs e S:=id rfl
@[simp] theorem kLp2_bk{xs:List D}:sO tg p xs (.bk e S)=some (.nx e S):=id rfl
@[simp] theorem kLp2_rt{xs:List D}:sO tg p xs (.rt d S)=some (.rt d S):=id rfl
@[simp] theorem mForL_nil:bd tg p [] env S=some (.nx env S):=id rfl
def fx{xs:List D}:bd tg p (d::xs) env S=(tg d env S).bind (kLp1 tg p xs):=by
 show (tg d env S).bind _=_
 first | rfl | (congr 1;funext q;show (p q.1 q.2).bind _=(p q.1 q.2).bind _;congr 1;funext o;cases o <;> rfl)
def yz(q:D×aa):Option (List D×aa):=match q.1 with | .lst xs=>some (xs,q.2) | .rol xs=>some (xs,q.2) | .tup xs=>some (xs,q.2) | _=>none
@[simp] theorem kItS_l{xs:List D}:yz (.lst xs,S)=some (xs,S):=id rfl
@[simp] theorem kItS_r{xs:List D}:yz (.rol xs,S)=some (xs,S):=id rfl
@[simp] theorem BV{xs:List D}:yz (.tup xs,S)=some (xs,S):=id rfl
@[simp] theorem BA:fU a env S=(a env S).bind yz:=by rw [lX];rfl
def kR1(q:List D×aa):Option (List D×aa):=match q.1 with | [.int j]=>if -(2 ^ 62)<=j/\j<2 ^ 62 then some (aW 0 j.toNat,q.2) else none | _=>none
def mm{j:Int}(h:-1000000<=j)(h':j<=1000000):kR1 ([.int j],S)=some (aW 0 j.toNat,S):=DU ⟨by omega,by omega⟩
@[simp] theorem eW:aS ms env S=(ms env S).bind kR1:=by rw [jd];rfl
def kR2(q:List D×aa):Option (List D×aa):=match q.1 with | [.int i,.int j]=>if -(2 ^ 62)<=i/\i<2 ^ 62/\-(2 ^ 62)<=j/\j<2 ^ 62 then some (aW i (j - i).toNat,q.2) else none | _=>none
@[simp] theorem mRange2_s:ca ms env S=(ms env S).bind kR2:=by rw [jc];rfl
def qb(q:List D×aa):Option (D×aa):=some (.lst q.1,q.2)
def vJ(g:MG)(t:MT)(e:ME)(cap:List (Option Nat))(env:ai)(q:List D×aa):Option (D×aa):=if q.1.length<=sizeLine then (cI g t e q.1 (xb cap env) q.2).bind qb else none
def vI{cap:List (Option Nat)}{xs:List D}(h:xs.length<=1000):vJ tg t a cap env (xs,S)=(cI tg t a xs (xb cap env) S).bind qb:=DU (sz h)
@[simp] theorem kComp2_s{xs:List D}:qb (xs,S)=some (.lst xs,S):=id rfl
@[simp] theorem yu{cap:List (Option Nat)}:cC ms tg t a cap env S=(ms env S).bind (vJ tg t a cap env):=by rw [jg];rfl
def Ca(x:D)(q:List D×aa):Option (List D×aa):=some (x::q.1,q.2)
def Cb(g:MG)(t:MT)(e:ME)(xs:List D)(env:ai)(q:D×aa):Option (List D×aa):=(cI g t e xs env q.2).bind (Ca q.1)
def yB(g:MG)(t:MT)(e:ME)(xs:List D)(env:ai)(q:Bool×aa):Option (List D×aa):=if q.1=true then (e env q.2).bind (Cb g t e xs env) else cI g t e xs env q.2
def kCl1(g:MG)(t:MT)(e:ME)(xs:List D)(q:ai×aa):Option (List D×aa):=(t q.1 q.2).bind (yB g t e xs q.1)
@[simp] theorem kCl1_s{xs:List D}:kCl1 tg t a xs (e,S)=(t e S).bind (yB tg t a xs e):=id rfl
@[simp] theorem kCl2_t{xs:List D}:yB tg t a xs e (true,S)=(a e S).bind (Cb tg t a xs e):=id rfl
@[simp] theorem kCl2_f{xs:List D}:yB tg t a xs e (false,S)=cI tg t a xs e S:=id rfl
@[simp] theorem kCl3_s{xs:List D}:Cb tg t a xs e (d,S)=(cI tg t a xs e S).bind (Ca d):=id rfl
@[simp] theorem kCl4_s{xs:List D}:Ca d (xs,S)=some (d::xs,S):=id rfl
@[simp] theorem BC:cI tg t a [] env S=some ([],S):=id rfl
def nZ{xs:List D}:cI tg t a (d::xs) env S=(tg d env S).bind (kCl1 tg t a xs):=id rfl
section
variable{g2:MG}{t2:MT}{xs:List D}{mi2:MA}
end
@[simp] theorem CA{i j:Int}:aE S (.int i) (.int j)=some (.int (i+j)):=id rfl
def jB{xs ys:List D}(h:xs.length+ys.length<=1000):aE S (.tup xs) (.tup ys)=some (.tup (xs++ys)):=DU (sz h)
def mF{xs ys:List D}(h:xs.length+ys.length<=1000):aE S (.lst xs) (.lst ys)=some (.lst (xs++ys)):=DU (sz h)
@[simp] theorem Cp{i j:Int}:mz S (.int i) (.int j)=some (.int (i - j)):=id rfl
@[simp] theorem fLt_i{i j:Int}:Ai S (.int i) (.int j)=some (.bl (decide (i<j))):=id rfl
@[simp] theorem fLe_i{i j:Int}:Cv S (.int i) (.int j)=some (.bl (decide (i<=j))):=id rfl
@[simp] theorem fGt_i{i j:Int}:fGt S (.int i) (.int j)=some (.bl (decide (j<i))):=id rfl
@[simp] theorem fGe_i{i j:Int}:fGe S (.int i) (.int j)=some (.bl (decide (j<=i))):=id rfl
@[simp] theorem Cq{i:Int}:wb S (.int i)=some (.int (-i)):=id rfl
def dk{i j:Int}(h:0<j):eh S (.int i) (.int j)=some (.int (i % j)):=DU (Ew h)
def wd{i j:Int}(h:0<j)(h':j<1073741824):sX S (.int i) (.int j)=some (.int (i / j)):=DU (by show (decide (0<j)&&decide (j<1073741824))=true;rw [Ew h,Ew h'];rfl)
def qh{i j:Int}(h:(decide (0<=j)&&decide (j<=1000000)&&decide (i.natAbs<2 ^ 64))=true):ii S (.int i) (.int j)=some (.int (i ^ j.toNat)):=DU h
def eg{i j:Int}(h:fP i j=true):bz S (.int i) (.int j)=some (.int (i * j)):=DU h
def lM{i j:Int}(h:-18446744073709551616<i)(h':i<18446744073709551616):fP i j=true:=by
 unfold fP;rw [Ew (p:=i.natAbs<18446744073709551616) (by omega)];rfl
def lL{i j:Int}(h:-18446744073709551616<j)(h':j<18446744073709551616):fP i j=true:=by
 unfold fP;rw [Ew (p:=j.natAbs<18446744073709551616) (by omega)];simp
@[simp] theorem fIx_t{xs:List D}{i:Int}:aK S (.tup xs) (.int i)=jJ xs i:=id rfl
@[simp] theorem fIx_l{xs:List D}{i:Int}:aK S (.lst xs) (.int i)=jJ xs i:=id rfl
@[simp] theorem fIx_r{xs:List D}{i:Int}:aK S (.rol xs) (.int i)=jJ xs i:=id rfl
def ge{r:Nat}{xs:List D}{i:Int}(h:S[r]?=some (.lst xs)):aK S (.ref r) (.int i)=jJ xs i:=by
 have:dH S (.ref r)=some xs:=by simp only [dH,h]
 have t:sm S (.ref r)=none:=by simp only [sm,h]
 unfold aK;rw [t]
 show (dH S (.ref r)).bind _=_;rw [this];rfl
def qB{α:Type}{xs:List α}{i:Int}(h0:0<=i)(h:i<xs.length):jJ xs i=some (xs[i.toNat]'(by omega)):=by
 unfold jJ sQ;rw [DU h0,DU h];show xs[i.toNat]?=_;rw [Eb]
@[simp] theorem wc{xs:List D}:ak dq [.tup xs] S=some (.int xs.length,S):=id rfl
@[simp] theorem fLen_l{xs:List D}:ak dq [.lst xs] S=some (.int xs.length,S):=id rfl
@[simp] theorem Cu{xs:List D}:ak dq [.rol xs] S=some (.int xs.length,S):=id rfl
@[simp] theorem fInt1_i{i:Int}:ak oI [.int i] S=some (.int i,S):=id rfl
@[simp] theorem fInt1_b:ak oI [.bl k] S=some (.int (if k then 1 else 0),S):=id rfl
@[simp] theorem yM{i j:Int}:ak gd [.int i,.int j] S=some (.int (if j>i then j else i),S):=id rfl
@[simp] theorem yL{i j:Int}:ak oD [.int i,.int j] S=some (.int (if j<i then j else i),S):=id rfl
@[simp] theorem yK{g:List D->D}{xs:List D}:ak (gS g) [.tup xs] S=some (g xs,S):=id rfl
@[simp] theorem fSeq1_l{g:List D->D}{xs:List D}:ak (gS g) [.lst xs] S=some (g xs,S):=id rfl
def fAll_l{xs:List D}{bs:List Bool}(h:jI xs=some bs):ak yP [.lst xs] S=some (.bl (bs.all id),S):=by
 show ((jI xs).bind _).bind _=_;rw [h];rfl
@[simp] theorem fIs_n:Cw S x .non=some (.bl (ub x .non)):=id rfl
@[simp] theorem fIs_b:Cw S x (.bl k)=some (.bl (ub x (.bl k))):=id rfl
@[simp] theorem fIsNot_n:mB S x .non=some (.bl (!ub x .non)):=id rfl
@[simp] theorem fIsNot_b:mB S x (.bl k)=some (.bl (!ub x (.bl k))):=id rfl
def qk(h:aH 40 x=true)(h':aH 40 y=true):sW S x y=some (.bl (eo x y)):=by
 unfold sW;rw [rY h,rY h'];exact DU ⟨h,h'⟩
def qi(h:aH 40 x=true)(h':aH 40 y=true):ud S x y=some (.bl (!eo x y)):=DU ⟨h,h'⟩
@[simp] theorem Cz{i j:Int}:sW S (.int i) (.int j)=some (.bl (i == j)):=qk (by simp [aH]) (by simp [aH])
@[simp] theorem Cr{i j:Int}:ud S (.int i) (.int j)=some (.bl (!(i == j))):=qi (by simp [aH]) (by simp [aH])
@[simp] theorem fEq_bb:sW S (.bl k) (.bl l)=some (.bl (k == l)):=qk (by simp [aH]) (by simp [aH])
@[simp] theorem fEq_ss{i j:Str}:sW S (.str i) (.str j)=some (.bl (i == j)):=qk (by simp [aH]) (by simp [aH])
@[simp] theorem fNe_ss{i j:Str}:ud S (.str i) (.str j)=some (.bl (!(i == j))):=qi (by simp [aH]) (by simp [aH])
def Cy{ys:List D}(hs:dH S y=some ys)(h:aH 40 x=true)(h':ys.all (aH 39)=true):fIn S x y=some (.bl (ys.any fun d=>eo d x)):=by
 unfold fIn;rw [hs];exact DU ⟨h,h'⟩
def fD(f:MF)(x:D)(q:List D×aa):Option (D×aa):=f x q.1 q.2
def rK(f:MF)(ms:MA)(env:ai)(q:D×aa):Option (D×aa):=if ka q.2 q.1=true then (ms env q.2).bind (fD f q.1) else none
@[simp] theorem mMeth_s{f:MF}:eG f a ms env S=(a env S).bind (rK f ms env):=by rw [nT];rfl
@[simp] theorem kMeth_l{f:MF}{xs:List D}:rK f ms env (.lst xs,S)=(ms env S).bind (fD f (.lst xs)):=id rfl
def kMeth_r{f:MF}{r:Nat}{xs:List D}(h:S[r]?=some (.lst xs)):rK f ms env (.ref r,S)=(ms env S).bind (fD f (.ref r)):=by
 unfold rK;exact DU (by simp only [ka,h])
@[simp] theorem vD{f:MF}{xs:List D}:fD f x (xs,S)=f x xs S:=id rfl
def fAppend_r{r:Nat}{xs:List D}(h:S[r]?=some (.lst xs))(hz:xs.length<1000):gf (.ref r) [y] S=some (.non,S.set r (.lst (xs++[y]))):=by
 simp only [gf,h];exact DU (DP hz (by decide))
def yE{ns:List Int}(h:ns.length<64):gL S (.lst (ns.map .int))=some ns:=by
 unfold gL
 rw [DU (show ka S (.lst (ns.map D.int))=true from rfl)]
 show (fF (ns.map D.int)).bind _=_
 rw [jw];exact DU h
def kPar(i j:Nat)(env:ai)(q:List D×aa):Option il:=match q.1 with | [v,w]=>some (.nx ((env.set i (some v)).set j (some w)) q.2) | _=>none
@[simp] theorem Bw{i j:Nat}:ib i j ms env S=(ms env S).bind (kPar i j env):=by rw [rj];rfl
@[simp] theorem BQ{i j:Nat}:kPar i j env ([x,y],S)=some (.nx ((env.set i (some x)).set j (some y)) S):=id rfl
def fCountT_t{xs:List D}(h:aH 40 x=true)(h':xs.all (aH 39)=true):yO (.tup xs) [x] S=some (.int (xs.countP fun d=>eo d x),S):=by
 show (if Az (.tup xs)=true then mE (.tup xs) [x] S else none)=_
 rw [DU (show Az (.tup xs)=true from rfl)]
 exact DU ⟨h,h'⟩
def BO(k:ao)(d:D)(z:List (ao×D)×aa):Option (List (ao×D)×aa):=some ((k,d)::z.1,z.2)
def yw(r:List (ME×ME))(env:ai)(k:ao)(q:D×aa):Option (List (ao×D)×aa):=(db r env q.2).bind (BO k q.1)
def kPr2(b:ME)(r:List (ME×ME))(env:ai)(S:aa)(k:ao):Option (List (ao×D)×aa):=(b env S).bind (yw r env k)
def BP(b:ME)(r:List (ME×ME))(env:ai)(q:D×aa):Option (List (ao×D)×aa):=(ej q.1).bind (kPr2 b r env q.2)
@[simp] theorem Bx:db [] env S=some ([],S):=id rfl
@[simp] theorem zV{r:List (ME×ME)}:db ((a,b)::r) env S=(a env S).bind (BP b r env):=id rfl
@[simp] theorem kPr1_i{i:Int}{r:List (ME×ME)}:BP b r env (.int i,S)=(b env S).bind (yw r env (.inl i)):=id rfl
@[simp] theorem kPr1_s{i:Str}{r:List (ME×ME)}:BP b r env (.str i,S)=(b env S).bind (yw r env (.inr i)):=id rfl
@[simp] theorem kPr3_s{k:ao}{r:List (ME×ME)}:yw r env k (d,S)=(db r env S).bind (BO k d):=id rfl
@[simp] theorem kPr4_s{k:ao}{z:List (ao×D)}:BO k d (z,S)=some ((k,d)::z,S):=id rfl
def kT(z:List (ao×D)×aa):Option (D×aa):=if z.1.length<=15 then some (.dct ((bR [] z.1).map (·.1)) ((bR [] z.1).map (·.2)),z.2) else none
def BZ(z:List (ao×D)×aa):Option (D×aa):=if z.1.length<=15 then some (.ref z.2.length,z.2++[.dct ((bR [] z.1).map (·.1)) ((bR [] z.1).map (·.2))]) else none
@[simp] theorem yt{ps:List (ME×ME)}:dL ps env S=(db ps env S).bind kT:=by rw [nX];rfl
def BX(x:D)(q:D×aa):Option (D×aa):=match x with | .tup xs=>(ee xs).bind fun _=>some (.obj,q.2) | _=>none
def kDo1(b:ME)(env:ai)(p:D×aa):Option (D×aa):=(b env p.2).bind (BX p.1)
@[simp] theorem vp{a b:ME}:cH a b env S=(a env S).bind (kDo1 b env):=by rw [kP];rfl
@[simp] theorem BY{b:ME}{x:D}{S:aa}:kDo1 b env (x,S)=(b env S).bind (BX x):=id rfl
@[simp] theorem mDictR_s{ps:List (ME×ME)}:df ps env S=(db ps env S).bind BZ:=by rw [kO];rfl
theorem oq{k:ao}:∀ {l:List (ao×D)},k ∉ l.map (·.1)->sT l k=false
 | [],_=>rfl
 | p::r,h=>by
  rw [DZ,Ep,not_or] at h
  unfold sT;rw [Eh (fun z=>h.1 z.symm)];exact oq h.2
theorem iU:∀ {l m:List (ao×D)},((m++l).map (·.1)).Nodup->bR m l=m++l
 | [],m,_=>by rw [EC];rfl
 | p::r,m,h=>by
  show bR (uz m p.1 p.2) r=_
  have hn:p.1 ∉ m.map (·.1):=by
   rw [FT,DZ,EN] at h
   intro z;exact h.2.2 _ z _ DF rfl
  unfold uz;rw [oq hn,Eh DM]
  rw [iU (by rw [ED];exact h),ED];rfl
def kI{l:List (ao×D)}(h:(l.map (·.1)).Nodup):bR [] l=l:=iU (m:=[]) h
def vG{l:List (ao×D)}(h:(l.map (·.1)).Nodup)(hl:l.length<=15):kT (l,S)=some (.dct (l.map (·.1)) (l.map (·.2)),S):=by
 unfold kT;rw [DU hl];simp only [kI h]
theorem uf{α β:Type}:∀ (l:List (α×β)),(l.map (·.1)).zip (l.map (·.2))=l
 | []=>rfl
 | p::r=>by rw [DZ,DZ,List.zip_cons_cons,uf r]
@[simp] theorem fIx_dct{ks:List ao}{vs:List D}:aK S (.dct ks vs) y=(ej y).bind (eZ (ks.zip vs)):=id rfl
def kDict_nd{l:List (ao×D)}(h:(l.map (·.1)).Nodup)(hl:l.length<=15):kT (l,S)=some (.dct (l.map (·.1)) (l.map (·.2)),S):=by
 unfold kT;rw [DU hl];simp only [kI h]
def yN{l:List (ao×D)}{k:ao}(h:ej y=some k):lh (.dct (l.map (·.1)) (l.map (·.2))) [y,d] S=some ((eZ l k).getD d,S):=by
 show ((some ((l.map (·.1)).zip (l.map (·.2)))).bind _)=_
 rw [uf];show (ej y).bind _=_;rw [h];rfl
def mq(f:MF)(ms:MA)(env:ai)(q:D×aa):Option (D×aa):=if wZ q.2 q.1=true then (ms env q.2).bind (fD f q.1) else none
@[simp] theorem vj{f:MF}:cw f a ms env S=(a env S).bind (mq f ms env):=by rw [kN];rfl
@[simp] theorem vC{f:MF}{ks:List ao}{vs:List D}:mq f ms env (.dct ks vs,S)=(ms env S).bind (fD f (.dct ks vs)):=id rfl
def kMethD_r{f:MF}{r:Nat}{ks:List ao}{vs:List D}(h:S[r]?=some (.dct ks vs)):mq f ms env (.ref r,S)=(ms env S).bind (fD f (.ref r)):=by
 unfold mq;exact DU (by simp only [wZ,h])
@[simp] theorem valD_nil{k:ao}:eZ [] k=none:=id rfl
@[simp] theorem valD_cons{k k':ao}{l:List (ao×D)}:eZ ((k',d)::l) k=if k'=k then some d else eZ l k:=id rfl
@[simp] theorem keyOf_i{i:Int}:ej (.int i)=some (.inl i):=id rfl
@[simp] theorem keyOf_s{i:Str}:ej (.str i)=some (.inr i):=id rfl
def ol(tg:MG)(p:MS)(env:ai)(q:D×aa):Option il:=match q.1 with
 | .ref r=>bJ tg p r 2000 0 env q.2
 | .lst xs=>bd tg p xs env q.2
 | .rol xs=>bd tg p xs env q.2
 | .tup xs=>bd tg p xs env q.2
 | _=>none
@[simp] theorem yr:dw a tg p env S=(a env S).bind (ol tg p env):=by rw [nV];rfl
@[simp] theorem yA{xs:List D}:ol tg p env (.lst xs,S)=bd tg p xs env S:=id rfl
@[simp] theorem kForD_o{xs:List D}:ol tg p env (.rol xs,S)=bd tg p xs env S:=id rfl
@[simp] theorem kForD_t{xs:List D}:ol tg p env (.tup xs,S)=bd tg p xs env S:=id rfl
@[simp] theorem kForD_r{r:Nat}:ol tg p env (.ref r,S)=bJ tg p r 2000 0 env S:=id rfl
def sN(tg:MG)(p:MS)(r f i:Nat):il->Option il
 | .nx e s=>bJ tg p r f i e s
 | .ct e s=>bJ tg p r f i e s
 | .bk e s=>some (.nx e s)
 | .rt d s=>some (.rt d s)
def kRl1(tg:MG)(p:MS)(r f i:Nat)(q:ai×aa):Option il:=(p q.1 q.2).bind (sN tg p r f i)
@[simp] theorem kRl1_s{r f i:Nat}:kRl1 tg p r f i (e,S)=(p e S).bind (sN tg p r f i):=id rfl
@[simp] theorem kRl2_nx{r f i:Nat}:sN tg p r f i (.nx e S)=bJ tg p r f i e S:=id rfl
@[simp] theorem kRl2_ct{r f i:Nat}:sN tg p r f i (.ct e S)=bJ tg p r f i e S:=id rfl
@[simp] theorem kRl2_bk{r f i:Nat}:sN tg p r f i (.bk e S)=some (.nx e S):=id rfl
@[simp] theorem kRl2_rt{r f i:Nat}:sN tg p r f i (.rt d S)=some (.rt d S):=id rfl
def BB{r f i:Nat}{xs:List D}(h:S[r]?=some (.lst xs))(hx:xs.length<=i):bJ tg p r (f+1) i env S=some (.nx env S):=by
 have hx':xs[i]?=none:=by simpa using hx
 unfold bJ;rw [h];simp only [hx']
def fMaxX_l{ns:List Int}(h:ns.length<64)(h0:ns≠[]):ak gd [.lst (ns.map .int)] S=some (.int (fQ ns),S):=by
 show ((gd S [.lst (ns.map D.int)]).bind _)=_
 have:gd S [.lst (ns.map D.int)]=some (.int (fQ ns)):=by
  show ((gL S (.lst (ns.map D.int))).bind _)=_
  rw [yE h]
  show (if ns.isEmpty=true then none else some (D.int (fQ ns)))=_
  rw [Eh (by cases ns with | nil=>exact absurd rfl h0 | cons _ _=>simp)]
 rw [this];rfl
def szM{n:Nat}(h:n<=1000000):n<=sizeLine:=Er h (by decide)
def vv{i:Int}(h:-1000000<=i)(h':i<=1000000):i.natAbs.log2<1920:=by
 have h1:i.natAbs<=1000000:=by omega
 have h2:i.natAbs<2 ^ 1920:=FA h1 (by decide +kernel)
 by_cases h0:i.natAbs=0
 ·rw [h0];decide
 ·exact(Nat.log2_lt h0).mpr h2
theorem sn:∀ ys:List Str,qJ (ys.map .str)=some ys
 | []=>rfl
 | y::r=>by
  have:=sn r
  show (qJ (r.map .str)).bind _=_
  rw [this];rfl
@[simp] theorem fStr1_n:ak fu [.non] S=some (.str "None",S):=id rfl
def fStr1_i{i:Int}(h:-1000000<=i)(h':i<=1000000):ak fu [.int i] S=some (.str (toString i),S):=by
 show (fu S [.int i]).bind _=_
 rw [show fu S [.int i]=some (.str (toString i)) from DU (vv h h')];rfl
def Bi:il->Option (D×aa)
 | .rt d S'=>some (d,S')
 | .nx _ S'=>some (.non,S')
 | .bk _ _=>none
 | .ct _ _=>none
@[simp] theorem eV:Bi (.rt d S)=some (d,S):=id rfl
@[simp] theorem outM_nx:Bi (.nx e S)=some (.non,S):=id rfl
def bn{N:List Str}{m:MS}{n:Nat}{ds:List D}{S:aa}(h:ds.length=n):aQ N m n ds S=(m (aF N ds) S).bind Bi:=by
 unfold aQ;rw [DU h];first | rfl | (congr 1;funext o;cases o <;> rfl)
@[simp] theorem rep0:List.replicate 0 (none:Option D)=[]:=id rfl
end
def ir:MS:=
 aA (cx (aP (ay fGt (ay aK (ac 0) (mC (.int 0))) (mC (.int 0)))) (aA (aw (ay eh (ay aK (ac 0) (mC (.int 0))) (ac 1)) (aq 2)) (aA (aw (ay sX (ay aK (ac 0) (mC (.int 0))) (ac 1)) (cN (ac 0) (mC (.int 0)))) (aZ (ac 2)))) (aO)) (aA (aw (ay aE (ay aK (ac 0) (mC (.int 2))) (mC (.int 1))) (cN (ac 0) (mC (.int 2)))) (aA (aw (ay eh (ay aE (ay aE (ay bz (ay aK (ac 0) (mC (.int 1))) (mC (.int 48271))) (mC (.int 12345))) (ay bz (mC (.int 7)) (ay aK (ac 0) (mC (.int 2))))) (mC (.int 2147483647))) (cN (ac 0) (mC (.int 1)))) (aZ (ay eh (ay sX (ay eh (ay bz (ay aK (ac 0) (mC (.int 1))) (ay aK (ac 0) (mC (.int 1)))) (mC (.int 1999999973))) (mC (.int 64))) (ac 1)))))
def pW:MS:=
 aA (aw (mC (.int 1)) (aq 0)) (aA (em (aS (ab (mC (.int 10)) (ae))) (aq 1) (aw (ay bz (ac 0) (ay ii (mC (.int 10)) (mC (.int 60)))) (aq 0))) (aZ (ac 0)))
def eX:MS:=
 aA (cx (aP (ay Ai (ac 1) (aL (ak dq) (ab (ac 0) (ae))))) (aZ (ay aK (ac 0) (ac 1))) (aO)) (aZ (mC (.int 0)))
def iu(cellAt far:List D->aa->Option (D×aa)):MS:=
 aA (aw (ag 2 cellAt (ab (ac 0) (ab (ay eh (ac 1) (aL (ak gd) (ab (mC (.int 1)) (ab (aL (ak dq) (ab (ac 0) (ae))) (ae))))) (ae)))) (aq 2)) (aA (aw (ay eh (ay bz (ay aE (ay aE (ay eh (ac 2) (mC (.int 2147483629))) (ay bz (ay bz (mC (.int 7919)) (ac 1)) (ac 1))) (mC (.int 11))) (mC (.int 48271))) (mC (.int 2147483647))) (aq 3)) (aA (aw (ay eh (ay aE (ay aE (ay bz (ac 3) (mC (.int 39373))) (ay bz (mC (.int 7)) (ac 1))) (mC (.int 1))) (mC (.int 2147483629))) (aq 3)) (aA (cx (aP (ay Ai (ac 2) (ay ii (mC (.int 10)) (mC (.int 18))))) (aw (mC (.int 0)) (aq 2)) (aO)) (aZ (dJ (ab (ay eh (ac 2) (ag 0 far ae)) (ab (ac 3) (ab (mC (.int 0)) (ae)))))))))
def Do{a b c:D}:jJ [a,b,c] 0=some a/\jJ [a,b,c] 1=some b/\jJ [a,b,c] 2=some c:=⟨rfl,rfl,rfl⟩
def Pk(S:aa)(r:Nat):Prop:=∃ a b c:Int,S[r]?=some (.lst [.int a,.int b,.int c])/\0<=a/\0<=b/\b<2147483647
def p60:Int:=1000000000000000000000000000000000000000000000000000000000000
def Bh:(10:Int) ^ (60:Int).toNat=p60:=by decide +kernel
def Bg:p60.natAbs<=2 ^ (200 * 1):=by decide +kernel
def ya:0<p60:=by decide +kernel
def yb{i:Int}(h:i.natAbs<2 ^ 4000):fP i p60=true:=by
 unfold fP
 rw [Ew h,Ew (p:=p60.natAbs<2 ^ 4000) (by decide +kernel)]
 simp
def vZ:MS:=aw (ay bz (ac 0) (ay ii (mC (.int 10)) (mC (.int 60)))) (aq 0)
def Co{S:aa}:ii S (.int 10) (.int 60)=some (.int p60):=by
 have h:=qh (S:=S) (i:=10) (j:=60) (by decide +kernel)
 rw [Bh] at h
 exact h
def vY{S:aa}{a p:Int}{o:Option D}(h1:ii S (.int 10) (.int 60)=some (.int p))(h2:bz S (.int a) (.int p)=some (.int (a * p))):vZ [some (.int a),o] S=some (.nx [some (.int (a * p)),o] S):=by
 simp [vZ,h1,h2]
def yJ{S:aa}{a:Int}{o:Option D}(h:fP a p60=true):vZ [some (.int a),o] S=some (.nx [some (.int (a * p60)),o] S):=vY Co (eg h)
def farL{S:aa}{B:Nat}(hB:∀ i:Int,i.natAbs<B->fP i p60=true)(l:List D):∀ (a:Int) (o:Option D),0<a->a.natAbs * 2 ^ (200 * l.length)<B->∃ q o',bd (aq 1) vZ l [some (.int a),o] S=some (.nx [some (.int q),o'] S)/\0<q:=by
 induction l with
 | nil=>exact fun a o h _=>⟨a,o,rfl,h⟩
 | cons d l ih=>
  intro a o h hb
  have h1:a.natAbs<B:=FA (Nat.le_mul_of_pos_right _ (Nat.pow_pos (by decide))) hb
  obtain⟨q,o',e,hq⟩:=ih (a * p60) (some d) (Int.mul_pos h ya) (by
   rw [Int.natAbs_mul]
   refine FA ?_ hb
   rw [DR,Nat.mul_add,Nat.pow_add,Nat.mul_assoc]
   refine GB _ ?_
   rw [FI]
   exact GB _ Bg)
  refine⟨q,o',?_,hq⟩
  rw [fx,dF,ob,pX]
  show (vZ [some (.int a),some d] S).bind _=_
  rw [yJ (hB a h1),ob,mr]
  exact e
def vX{S:aa}{N:List Str}(hN:N.length=2):∃ q:Int,aQ N pW 0 [] S=some (.int q,S)/\0<q:=by
 obtain⟨q,o',e,hq⟩:=farL (S:=S) (fun i h=>yb h) (aW 0 10) 1 none (by decide) (by decide +kernel)
 refine⟨q,?_,hq⟩
 rw [bn (show ([]:List D).length=0 from rfl)]
 have:aF N []=[none,none]:=by simp [aF,hN,List.replicate]
 rw [this]
 have k1:kR1 ([.int 10],S)=some (aW 0 10,S):=mm (by decide) (by decide)
 have e':bd (aq 1) (aw (ay bz (ac 0) (ay ii (mC (.int 10)) (mC (.int 60)))) (aq 0)) (aW 0 10) [some (.int 1),none] S=some (.nx [some (.int q),o'] S):=e
 simp only [pW,cG,gy,jh,ob,gC,dF,ls0,kS,cR,lY,eW,bE,bh,cu,bg,k1,mw,e',cq,bu,oe,oj,bv,kR,eV]
def sx{S:aa}{r:Nat}{m:Int}{N:List Str}(hN:N.length=3)(h:Pk S r)(h0:0<m)(h1:m<1073741824) :
  ∃ q S',aQ N ir 2 [.ref r,.int m] S=some (.int q,S')/\0<=q/\q<m/\Pk S' r/\(∀ j,j≠r->S'[j]?=S[j]?)/\S'.length=S.length:=by
 obtain⟨a,b,c,h,ha,hb,hb'⟩:=h
 have hr:r<S.length:=(DH.mp h).1
 have hm:∀ x:Int,0<=x % m/\x % m<m:=fun x=>⟨ES _ (by omega),FB _ h0⟩
 have hst:aF N [.ref r,.int m]=[some (.ref r),some (.int m),none]:=by simp [aF,hN]
 rw [bn (show [D.ref r,D.int m].length=2 from rfl),hst]
 have hs:∀ c:pd,(S.set r c)[r]?=some c:=fun c=>Ez hr
 by_cases hp:0<a
 ·refine⟨a % m,S.set r (.lst [.int (a / m),.int b,.int c]),?_,(hm a).1,(hm a).2,⟨a / m,b,c,hs _,Int.ediv_nonneg ha (by omega),hb,hb'⟩,fun j hj=>by rw [Em (Ne.symm hj)],by simp⟩
  have w:=jq (env:=[some (.ref r),some (.int m),some (.int (a % m))]) (d:=.int (a / m)) h (show sQ _ 0=some 0 from rfl)
  simp [ir,ge h,hp,dk h0,wd h0 h1,Do,w]
 ·have hB:∀ x:Int,0<=x % 2147483647/\x % 2147483647<2147483647:=fun x=>⟨ES _ (by decide),FB _ (by decide)⟩
  let b':=(b * 48271+12345+7 * (c+1)) % 2147483647
  have hb2:=hB (b * 48271+12345+7 * (c+1))
  have m3:fP b' b'=true:=lM (by omega) (by omega)
  have s1:(S.set r (.lst [.int a,.int b,.int (c+1)]))[r]?=some (.lst [.int a,.int b,.int (c+1)]):=hs _
  have s2:((S.set r (.lst [.int a,.int b,.int (c+1)])).set r (.lst [.int a,.int b',.int (c+1)]))[r]?=some (.lst [.int a,.int b',.int (c+1)]):=Ez (by simpa using hr)
  refine⟨b' * b' % 1999999973 / 64 % m,(S.set r (.lst [.int a,.int b,.int (c+1)])).set r (.lst [.int a,.int b',.int (c+1)]),?_,(hm _).1,(hm _).2,⟨a,b',c+1,s2,ha,(hB _).1,(hB _).2⟩,fun j hj=>by rw [Em (Ne.symm hj),Em (Ne.symm hj)],by simp⟩
  have e1:bz (S.set r (.lst [.int a,.int b,.int (c+1)])) (.int b) (.int 48271)=some (.int (b * 48271)):=eg (lL (by decide) (by decide))
  have e2:bz (S.set r (.lst [.int a,.int b,.int (c+1)])) (.int 7) (.int (c+1))=some (.int (7 * (c+1))):=eg (lM (by decide) (by decide))
  have e3:∀ S x,eh S (.int x) (.int 2147483647)=some (.int (x % 2147483647)):=fun _ _=>dk (by decide)
  have e4:∀ S x,eh S (.int x) (.int 1999999973)=some (.int (x % 1999999973)):=fun _ _=>dk (by decide)
  have e5:∀ S x,sX S (.int x) (.int 64)=some (.int (x / 64)):=fun _ _=>wd (by decide) (by decide)
  have w1:=jq (env:=[some (.ref r),some (.int m),none]) (d:=.int (c+1)) h (show sQ _ 2=some 2 from rfl)
  have w2:=jq (env:=[some (.ref r),some (.int m),none]) (d:=.int b') s1 (show sQ _ 1=some 1 from rfl)
  simp [ir,ge h,ge s1,ge s2,hp,dk h0,Do,e1,e2,e3,e4,e5,w1]
  rw [show (b * 48271+12345+7 * (c+1)) % 2147483647=b' from rfl,w2]
  simp [ge (hs _),Do,eg m3,e4,e5,dk h0]
def oS{S:aa}{ns:List Int}{k:Int}{N:List Str}(hN:N.length=2)(h0:0<=k):∃ v,aQ N eX 2 [.rol (ns.map .int),.int k] S=some (.int v,S):=by
 rw [bn (show [D.rol (ns.map .int),D.int k].length=2 from rfl)]
 have hst:aF N [D.rol (ns.map .int),D.int k]=[some (D.rol (ns.map .int)),some (.int k)]:=by simp [aF,hN]
 rw [hst]
 by_cases h:k<ns.length
 ·have e:jJ (ns.map D.int) k=some (.int (ns[k.toNat]'(by omega))):=by
   rw [qB h0 (by simpa using h)];simp
  exact⟨ns[k.toNat]'(by omega),by simp [eX,h,e]⟩
 ·exact⟨0,by simp [eX,h]⟩
def Dt{S:aa}{a b c:Int}(ha:0<=a)(hb:0<=b)(hb':b<2147483647):Pk (S++[.lst [.int a,.int b,.int c]]) S.length:=⟨a,b,c,by simp,ha,hb,hb'⟩
def sJ{S:aa}{ns:List Int}{k:Int}{N:List Str}{cellAt far:List D->aa->Option (D×aa)}(hN:N.length=4)(h0:0<=k)(h1:k<=100000)
  (hc:∀ S k,0<=k->∃ v,cellAt [.rol (ns.map .int),.int k] S=some (.int v,S)) (hf:∀ S,∃ q,far [] S=some (.int q,S)/\0<q) :
  ∃ a b,aQ N (iu cellAt far) 2 [.rol (ns.map .int),.int k] S=some (.ref S.length,S++[.lst [.int a,.int b,.int 0]])/\0<=a/\0<=b/\b<2147483647:=by
 rw [bn (show [D.rol (ns.map .int),D.int k].length=2 from rfl)]
 have hst:aF N [D.rol (ns.map .int),D.int k]=[some (D.rol (ns.map .int)),some (.int k),none,none]:=by simp [aF,hN,List.replicate]
 rw [hst]
 have hmx:0<(if (ns.length:Int)>1 then (ns.length:Int) else 1):=by split <;> omega
 obtain⟨v,hv⟩:=hc S (k % (if (ns.length:Int)>1 then (ns.length:Int) else 1)) (ES _ (by omega))
 obtain⟨q,hq,q0⟩:=hf S
 have e1:∀ S x,eh S (.int x) (.int 2147483629)=some (.int (x % 2147483629)):=fun _ _=>dk (by decide)
 have e2:∀ S x,eh S (.int x) (.int 2147483647)=some (.int (x % 2147483647)):=fun _ _=>dk (by decide)
 have e3:∀ S x,eh S (.int x) (.int q)=some (.int (x % q)):=fun _ _=>dk q0
 have p1:∀ S,bz S (.int 7919) (.int k)=some (.int (7919 * k)):=fun _=>eg (lM (by decide) (by decide))
 have p2:∀ S,bz S (.int (7919 * k)) (.int k)=some (.int (7919 * k * k)):=fun _=>eg (lL (by omega) (by omega))
 have p3:∀ S x,bz S (.int x) (.int 48271)=some (.int (x * 48271)):=fun _ _=>eg (lL (by decide) (by decide))
 have p4:∀ S x,bz S (.int x) (.int 39373)=some (.int (x * 39373)):=fun _ _=>eg (lL (by decide) (by decide))
 have p5:∀ S,bz S (.int 7) (.int k)=some (.int (7 * k)):=fun _=>eg (lM (by decide) (by decide))
 have pw:∀ S,ii S (.int 10) (.int 18)=some (.int 1000000000000000000):=fun S=>by
  have h:=qh (S:=S) (i:=10) (j:=18) (by decide +kernel)
  rwa [show (10:Int) ^ (18:Int).toNat=1000000000000000000 by decide +kernel] at h
 have hb:∀ x:Int,0<=x % 2147483629/\x % 2147483629<2147483647:=fun x=>⟨ES _ (by decide),by have:=FB x (show (0:Int)<2147483629 by decide);omega⟩
 have kl:∀ S x y,vF ([.int x,.int y,.int 0],S)=some (.ref S.length,S++[.lst [.int x,.int y,.int 0]]):=fun _ _ _=>vE (by simp)
 by_cases h:v<1000000000000000000
 ·refine⟨0 % q,(((v % 2147483629+7919 * k * k+11) * 48271 % 2147483647) * 39373+7 * k+1) % 2147483629,?_,ES _ (by omega),(hb _).1,(hb _).2⟩
  simp [-Int.zero_emod,iu,dk hmx,hv,e1,e2,e3,p1,p2,p3,p4,p5,pw,h,hq,kl]
 ·refine⟨v % q,(((v % 2147483629+7919 * k * k+11) * 48271 % 2147483647) * 39373+7 * k+1) % 2147483629,?_,ES _ (by omega),(hb _).1,(hb _).2⟩
  simp [iu,dk hmx,hv,e1,e2,e3,p1,p2,p3,p4,p5,pw,h,hq,kl]
def eN{xs:List D}{p:D->Bool}{l h:Option Int}(hp:xs.all p=true):(aN xs l h).all p=true:=by
 unfold aN
 rw [Ec] at hp ⊢
 exact fun d hd=>hp d (Gs (Ft hd))
def gk{xs:List D}{l h:Option Int}:(aN xs l h).length<=xs.length:=by
 unfold aN;rw [EW,FM];omega
def iC{xs:List D}{p:D->Bool}{i:Int}(hp:xs.all p=true)(h0:0<=i)(h:i<xs.length):∃ d,jJ xs i=some d/\p d=true:=
 ⟨_,qB h0 h,Ec.mp hp _ (List.getElem_mem _)⟩
theorem gc{tg:MG}{p:MS}(I:ai->aa->Prop):∀ (xs:List D),(∀ d∈xs,∀ env S,I env S->∃ env1 S1 env2 S2,tg d env S=some (env1,S1)/\p env1 S1=some (.nx env2 S2)/\I env2 S2) ->
  ∀ env S,I env S->∃ env' S',bd tg p xs env S=some (.nx env' S')/\I env' S'
 | [],_,env,S,h=>⟨env,S,rfl,h⟩
 | d::xs,hs,env,S,h=>by
  obtain⟨env1,S1,env2,S2,e1,e2,h2⟩:=hs d DF env S h
  obtain⟨env',S',e3,h3⟩:=gc I xs (fun d hd=>hs d (DC _ hd)) env2 S2 h2
  exact⟨env',S',by rw [fx,e1,ob,pX,e2,ob,mr,e3],h3⟩
def pJ{lo:Int}{n:Nat}{d:D}(h:d∈aW lo n):∃ i:Nat,i<n/\d=.int (lo+(i:Int)):=by
 obtain⟨i,hi⟩:=Fl.mp h
 exact⟨i,iL lo n i d hi⟩
def p30:Int:=1000000000000000000000000000000
def pow30{S:aa}:ii S (.int 10) (.int 30)=some (.int p30):=by
 have h:=qh (S:=S) (i:=10) (j:=30) (by decide +kernel)
 rw [show (10:Int) ^ (30:Int).toNat=p30 by decide +kernel] at h
 exact h
def nr:D->Bool
 | .ref _=>false
 | _=>true
def qe:D->Bool
 | .int _=>true
 | .bl _=>true
 | _=>false
def iy:D->Bool
 | .bl _=>true
 | _=>false
def jt:D->Bool
 | .str _=>true
 | .txt=>true
 | _=>false
def js:D->Bool
 | .tup _=>true
 | _=>false
def pf:D->Bool
 | .int _=>true
 | _=>false
def ki(lo hi:Int):D->Bool
 | .int i=>decide (lo<=i)&&decide (i<=hi)
 | _=>false
def oG{S:aa}{d:D}(h:nr d=true):qj "int" S d=some (.bl (qe d)):=by cases d <;> first | rfl | cases h
def gD{S:aa}{d:D}(h:nr d=true):qj "bool" S d=some (.bl (iy d)):=by cases d <;> first | rfl | cases h
def oF{S:aa}{d:D}(h:nr d=true):qj "str" S d=some (.bl (jt d)):=by cases d <;> first | rfl | cases h
def oE{S:aa}{d:D}(h:nr d=true):qj "tuple" S d=some (.bl (js d)):=by cases d <;> first | rfl | cases h
abbrev PF:=List D->aa->Option (D×aa)
def xl(pick:PF):Prop:=∀ (S:aa) (r:Nat) (m:Int),Pk S r->0<m->m<1073741824->∃ q S',pick [.ref r,.int m] S=some (.int q,S')/\0<=q/\q<m/\Pk S' r/\(∀ j,j≠r->S'[j]?=S[j]?)/\S'.length=S.length
def forR{tg:MG}{p:MS}{lo:Int}(I:Nat->ai->aa->Prop)(n:Nat)(step:∀ i,i<n->∀ env S,I i env S->∃ env1 S1 env2 S2,tg (.int (lo+(i:Int))) env S=some (env1,S1)/\p env1 S1=some (.nx env2 S2)/\I (i+1) env2 S2) :
  ∀ env S,I 0 env S->∃ env' S',bd tg p (aW lo n) env S=some (.nx env' S')/\I n env' S':=by
 have gen:∀ (m k:Nat),k+m=n->∀ env S,I k env S->∃ env' S',bd tg p ((List.range' k m).map fun(i:Nat)=>D.int (lo+(i:Int))) env S=some (.nx env' S')/\I n env' S':=by
  intro m
  induction m with
  | zero=>exact fun k hk env S h=>⟨env,S,rfl,by rw [<- hk];exact h⟩
  | succ m ih=>
   intro k hk env S h
   obtain⟨env1,S1,env2,S2,e1,e2,h2⟩:=step k (by omega) env S h
   obtain⟨env',S',e3,h3⟩:=ih (k+1) (by omega) env2 S2 h2
   refine⟨env',S',?_,h3⟩
   rw [List.range'_succ,DZ,fx,e1,ob,pX,e2,ob,mr,e3]
 intro env S h
 have:=gen n 0 (by omega) env S h
 unfold aW
 rw [List.range_eq_range']
 exact this
def EntOk(n:Int)(xs:List D)(d:D):Prop:=∃ (g:Int) (w:Str) (m:Int) (t:D),d=.tup [.int g,.str w,.int m,t]/\0<=g/\g<n/\(w = "read"\/w = "write")/\0<=m/\m<=999/\(t=.non\/∃ k,t=.int k/\1<=k/\k<=9)/\jJ xs g=some (.str "out")
def EntOk.up{n n':Int}{xs:List D}{d:D}(h:EntOk n xs d)(hn:n<=n'):EntOk n' xs d:=by
 obtain⟨g,w,m,t,e,h0,h1,r⟩:=h
 exact⟨g,w,m,t,e,h0,by omega,r⟩
def Ci(x:Str):Prop:=x = "rows"\/x = "readers"\/x = "writers"\/x = "turns"\/x = "passes"
def Keep(r:Nat)(S S':aa):Prop:=(∀ j,j≠r->S'[j]?=S[j]?)/\S'.length=S.length
theorem Keep.trans{r:Nat}{S S' S'':aa}(h:Keep r S S')(h':Keep r S' S''):Keep r S S'':=⟨fun j z=>(h'.1 j z).trans (h.1 j z),h'.2.trans h.2⟩
structure RuleOk(x:Str)(a b c:Int):Prop where
 w:Ci x
 a0:0<=a
 a5:a<=5
 b0:0<=b
 b9:b<=9
 c0:0<=c
 c1:c<=1
def Cs{S:aa}{k l:Bool}:ud S (.bl k) (.bl l)=some (.bl (!(k == l))):=qi (by simp [aH]) (by simp [aH])
inductive Wd where | out | reads | rising | writes | raised
deriving DecidableEq
def Wd.s:Wd->Str
 | .out=>"out"
 | .reads=>"reads"
 | .rising=>"rising"
 | .writes=>"writes"
 | .raised=>"raised"
structure En where
 g:Nat
 wr:Bool
 m:Int
 t:Option Int
def kn(b:Bool):Str:=if b then "write" else "read"
def oh:Option Int->D
 | none=>.non
 | some k=>.int k
def En.d(e:En):D:=.tup [.int (e.g:Nat),.str (kn e.wr),.int e.m,oh e.t]
abbrev Rm:=List Wd×List En
def Wd.d(w:Wd):D:=.str w.s
def Au(ws:List Wd):D:=.tup (ws.map Wd.d)
def esD(es:List En):D:=.tup (es.map En.d)
def xC(R:Rm):D:=.tup [Au R.1,esD R.2]
inductive Rw where | rows | readers | writers | turns | passes
deriving DecidableEq
def Rw.s:Rw->Str
 | .rows=>"rows"
 | .readers=>"readers"
 | .writers=>"writers"
 | .turns=>"turns"
 | .passes=>"passes"
structure Rl where
 w:Rw
 a:Int
 b:Int
 c:Int
def Rl.d(r:Rl):D:=.tup [.str r.w.s,.int r.a,.int r.b,.int r.c]
structure Rl.Ok(r:Rl):Prop where
 a0:0<=r.a
 a5:r.a<=5
 b0:0<=r.b
 b9:r.b<=9
 c0:0<=r.c
 c1:r.c<=1
section
variable{α:Type}{enc:α->D}{p:α->Bool}{f:α->D}{t:MT}{e:ME}{rest:ai}{S:aa}
end
section
variable{S:aa}{e:En}{r:Rl}{R:Rm}
def En.ix0:aK S e.d (.int 0)=some (.int (e.g:Nat)):=rfl
def Rl.ix0:aK S r.d (.int 0)=some (.str r.w.s):=rfl
def Rm.ix0:aK S (xC R) (.int 0)=some (Au R.1):=rfl
end
section
variable{S:aa}{ws:List Wd}{es:List En}{ms:MA}{env:ai}
end
def letB(r:Rl)(ws:List Wd)(wr:Bool):Bool:=
 if ws.count .reads+ws.count .rising+ws.count .out<ws.length then false
 else if wr then decide (ws.count .reads+ws.count .rising=0)
 else decide (ws.count .rising=0)&&(decide (r.a=0)||decide (((ws.count .reads+ws.count .rising:Nat):Int)<r.a))
def ni(i:Nat):D:=.int (i:Int)
def nl(l:List Nat):D:=.lst (l.map ni)
def orL(a b:List Nat):List Nat:=if a=[] then b else a
def Ch(p:En->Bool)(es:List En):List Nat:=(es.zipIdx.filter fun q=>p q.1).map (·.2)
def frL(r:Rl)(es:List En):List Nat:=match r.w with
 | .rows=>(List.range es.length).take 1
 | .readers=>(orL (Ch (fun e=>!e.wr) es) (Ch (fun e=>e.wr) es)).take 1
 | .passes=>(List.range es.length).filter fun i=>decide (fQ (0::(es.take i).map fun e=>e.m+1)<=r.b)
 | .turns=>(orL (Ch (fun e=>decide (e.m=1)) es) (orL (Ch (fun e=>e.wr) es) (Ch (fun e=>!e.wr) es))).take 1
 | .writers=>(orL (Ch (fun e=>e.wr) es) (Ch (fun e=>!e.wr) es)).take 1
section
variable{S:aa}{r:Rl}{es:List En}
end
structure ROk(R:Rm):Prop where
 out:∀ e∈R.2,R.1[e.g]?=some .out
 nd:(R.2.map (·.g)).Nodup
theorem pH:∀ (n:Nat) (l:List Nat),l.Nodup->(∀ x∈l,x<n)->l.length<=n
 | 0,l,_,h=>by cases l with | nil=>exact DK _ | cons x _=>exact absurd (h x (by simp)) (by omega)
 | n+1,l,hn,h=>by
  by_cases hm:n∈l
  ·have:=pH n (l.erase n) (hn.erase n) fun x hx=>by
    have h1:=h x (List.mem_of_mem_erase hx)
    have h2:x≠n:=fun z=>by rw [z] at hx;exact(List.Nodup.not_mem_erase hn) hx
    omega
   rw [List.length_erase_of_mem hm] at this
   omega
  ·have:=pH n l hn fun x hx=>by
    have h1:=h x hx
    have h2:x≠n:=fun z=>hm (z ▸ hx)
    omega
   omega
def ROk.lt{R:Rm}(h:ROk R){e:En}(he:e∈R.2):e.g<R.1.length:=(DH.mp (h.out e he)).1
def ROk.len{R:Rm}(h:ROk R):R.2.length<=R.1.length:=by
 have:=pH R.1.length (R.2.map (·.g)) h.nd fun x hx=>by obtain⟨e,he,rfl⟩:=EO.mp hx;exact h.lt he
 rwa [EI] at this
structure Ev where
 w:Str
 g:Nat
def Ev.d(e:Ev):D:=.tup [.str e.w,.int (e.g:Nat)]
def xi(ws:List Wd):List Nat:=(List.range ws.length).filter fun g=>decide (ws[g]?=some .rising)&&decide (ws.count .out+1=ws.length)
def someL(r:Rl)(ws:List Wd)(es:List En):List Nat:=(frL r es).filter fun i=>match es[i]? with | some e=>letB r ws e.wr | none=>false
def Di(r:Rl)(e:En):En:={ e with m:=e.m+(if r.w=.passes then 1 else 0) }
def yG(r:Rl)(R:Rm)(i:Nat)(e:En):Rm:=(R.1.set e.g (if e.wr then .writes else .reads),(R.2.take i).map (Di r)++R.2.drop (i+1))
def stL(r:Rl)(R:Rm):Rm×List Ev:=match xi R.1 with
 | g::_=>((R.1.set g .raised,R.2),[⟨"steps",g⟩])
 | []=>match someL r R.1 R.2 with
  | i::_=>match R.2[i]? with
   | some e=>(yG r R i e,[⟨"in",e.g⟩])
   | none=>(R,[])
  | []=>(R,[])
def seL(r:Rl):Nat->Rm->Rm×List Ev
 | 0,R=>(R,[])
 | n+1,R=>let a:=stL r R;let b:=seL r n a.1;(b.1,a.2++b.2)
def pN(r:Rl)(es:List En):(es.map (Di r)).map (·.g)=es.map (·.g):=by rw [List.map_map];rfl
def yF{r:Rl}{R:Rm}{i:Nat}{e:En}(h:ROk R)(hi:R.2[i]?=some e):ROk (yG r R i e):=by
 obtain⟨ws,es⟩:=R
 have hs:es=es.take i++e::es.drop (i+1):=by
  obtain⟨hl,he⟩:=DH.mp hi
  rw [<- he,List.getElem_cons_drop,EU]
 have hnd:((es.take i).map (·.g)++e.g::(es.drop (i+1)).map (·.g)).Nodup:=by
  have:=h.nd
  dsimp only at this
  rw [hs] at this
  simpa using this
 rw [EN,Fb] at hnd
 obtain⟨n1,⟨n2,n3⟩,n4⟩:=hnd
 refine⟨fun x hx=>?_,?_⟩
 ·show (ws.set e.g _)[x.g]?=_
  have key:∃ y∈es,y.g=x.g/\x.g≠e.g:=by
   rcases DX.mp hx with hx | hx
   ·obtain⟨y,hy,rfl⟩:=EO.mp hx
    refine⟨y,Ft hy,rfl,fun z=>?_⟩
    exact n4 _ (EO.mpr ⟨y,hy,rfl⟩) _ DF z
   ·refine⟨x,Gs hx,rfl,fun z=>n2 ?_⟩
    rw [<- z];exact EO.mpr ⟨x,hx,rfl⟩
  obtain⟨y,hy,e1,ne⟩:=key
  rw [Em (Ne.symm ne),<- e1]
  exact h.out y hy
 ·show (((es.take i).map (Di r)++es.drop (i+1)).map (·.g)).Nodup
  rw [FT,pN,EN]
  exact⟨n1,n3,fun a ha b hb=>n4 a ha b (DC _ hb)⟩
def qC{ws:List Wd}{g:Nat}(h:g∈xi ws):ws[g]?=some .rising:=by
 have:=(Fc.mp h).2
 rw [Dz] at this
 exact EL this.1
def AG{r:Rl}{R:Rm}(h:ROk R):ROk (stL r R).1/\(stL r R).1.1.length=R.1.length:=by
 unfold stL
 split
 ·rename_i g l hg
  have hr:R.1[g]?=some .rising:=qC (by rw [hg];exact DF)
  refine⟨⟨fun e he=>?_,h.nd⟩,by simp⟩
  show (R.1.set g .raised)[e.g]?=_
  have h1:=h.out e he
  rw [Em (fun z=>by rw [z,h1] at hr;cases hr)]
  exact h1
 ·split
  ·split
   ·rename_i e he
    exact⟨yF h he,by simp [yG]⟩
   ·exact⟨h,rfl⟩
  ·exact⟨h,rfl⟩
theorem ux{r:Rl}:∀ (n:Nat) {R:Rm},ROk R->ROk (seL r n R).1/\(seL r n R).1.1.length=R.1.length
 | 0,R,h=>⟨h,rfl⟩
 | n+1,R,h=>by
  obtain⟨h1,h2⟩:=AG (r:=r) h
  obtain⟨h3,h4⟩:=ux n h1
  exact⟨h3,h4.trans h2⟩
structure SeOk(fronts lets put:PF):Prop where
 f:∀ (S:aa) (r:Rl) (es:List En),es.length<=60->fronts [r.d,esD es] S=some (nl (frL r es),S)
 l:∀ (S:aa) (r:Rl) (ws:List Wd) (wr:Bool),lets [r.d,Au ws,.str (kn wr)] S=some (.bl (letB r ws wr),S)
 p:∀ (S:aa) (ws:List Wd) (i:Nat) (w:Wd),i<ws.length->ws.length<=100->put [Au ws,.int (i:Int),w.d] S=some (Au (ws.set i w),S)
section
variable{S:aa}{ws:List Wd}{es:List En}{r:Rl}
end
inductive Ak where | up | down | leave | stop
deriving DecidableEq
def Ak.s:Ak->Str
 | .up=>"up"
 | .down=>"down"
 | .leave=>"leave"
 | .stop=>"stop"
inductive Dd where
 | ask (wr:Bool) (g:Nat) (t:Option Int)
 | act (k:Ak) (g:Nat)
 | tick
def Dd.d:Dd->D
 | .ask wr g t=>.tup [.str (kn wr),.int (g:Int),oh t]
 | .act k g=>.tup [.str k.s,.int (g:Int)]
 | .tick=>.tup [.str "tick"]
def mT(t:Option Int):Prop:=∀ k,t=some k->0<=k/\k<=9
def Dd.Ok(n:Nat):Dd->Prop
 | .ask _ g t=>g<n/\mT t
 | .act _ g=>g<n
 | .tick=>True
def fX(pick:PF):MS:=
 aA (aw (ag 2 pick (ab (ac 0) (ab (ac 1) (ae)))) (aq 2)) (aA (aw (ag 2 pick (ab (ac 0) (ab (mC (.int 12)) (ae)))) (aq 3)) (aA (cx (aP (ay Ai (ac 3) (mC (.int 6)))) (aZ (aX (ab (ay aK (bZ (ab (mC (.str "read")) (ab (mC (.str "write")) (ae)))) (ay eh (ac 3) (mC (.int 2)))) (ab (ac 2) (ab (ay aK (bZ (ab (mC .non) (ab (mC .non) (ab (mC .non) (ab (mC (.int 0)) (ab (mC (.int 1)) (ab (mC (.int 9)) (ae)))))))) (ag 2 pick (ab (ac 0) (ab (mC (.int 6)) (ae))))) (ae)))))) (aO)) (aA (cx (aP (ay sW (ac 3) (mC (.int 11)))) (aZ (aX (ab (mC (.str "tick")) (ae)))) (aO)) (aZ (aX (ab (ay aK (bZ (ab (mC (.str "up")) (ab (mC (.str "down")) (ab (mC (.str "leave")) (ab (mC (.str "leave")) (ab (mC (.str "stop")) (ae))))))) (ay mz (ac 3) (mC (.int 6)))) (ab (ac 2) (ae))))))))
def zB{q:Int}(h0:0<=q)(h1:q<6):∃ t:Option Int,jJ [D.non,D.non,D.non,D.int 0,D.int 1,D.int 9] q=some (oh t)/\mT t:=by
 have n:mT none:=fun k h=>by cases h
 have s:∀ j:Int,0<=j->j<=9->mT (some j):=fun j a b k h=>by cases h;exact⟨a,b⟩
 obtain rfl | rfl | rfl | rfl | rfl | rfl:q=0\/q=1\/q=2\/q=3\/q=4\/q=5:=by omega
 ·exact⟨none,rfl,n⟩
 ·exact⟨none,rfl,n⟩
 ·exact⟨none,rfl,n⟩
 ·exact⟨some 0,rfl,s 0 (by decide) (by decide)⟩
 ·exact⟨some 1,rfl,s 1 (by decide) (by decide)⟩
 ·exact⟨some 9,rfl,s 9 (by decide) (by decide)⟩
def Dn{q:Int}(h0:6<=q)(h1:q<11):∃ k:Ak,jJ [D.str "up",D.str "down",D.str "leave",D.str "leave",D.str "stop"] (q - 6)=some (.str k.s):=by
 obtain rfl | rfl | rfl | rfl | rfl:q=6\/q=7\/q=8\/q=9\/q=10:=by omega
 ·exact⟨.up,rfl⟩
 ·exact⟨.down,rfl⟩
 ·exact⟨.leave,rfl⟩
 ·exact⟨.leave,rfl⟩
 ·exact⟨.stop,rfl⟩
def at_wr{q:Int}:∃ wr:Bool,jJ [D.str "read",D.str "write"] (q % 2)=some (.str (kn wr)):=by
 obtain h | h:q % 2=0\/q % 2=1:=by omega
 ·exact⟨false,by rw [h];rfl⟩
 ·exact⟨true,by rw [h];rfl⟩
def wQ{pick:PF}(hp:xl pick){S:aa}{r n:Nat}{N:List Str}(hN:N.length=4)(P:Pk S r)(h1:1<=n)(h9:n<=9):∃ (dd:Dd) (S':aa),aQ N (fX pick) 2 [.ref r,.int (n:Int)] S=some (dd.d,S')/\dd.Ok n/\Pk S' r/\Keep r S S':=by
 have hst:aF N [D.ref r,.int (n:Int)]=[some (.ref r),some (.int (n:Int)),none,none]:=by simp [aF,hN,List.replicate]
 rw [bn (show [D.ref r,D.int (n:Int)].length=2 from rfl),hst]
 obtain⟨g,S1,e1,g0,g1,P1,K1⟩:=hp _ _ (n:Int) P (by omega) (by omega)
 obtain⟨q,S2,e2,q0,q1,P2,K2⟩:=hp _ _ 12 P1 (by decide) (by decide)
 obtain⟨g',rfl⟩:∃ g':Nat,g=(g':Int):=⟨g.toNat,by omega⟩
 have md:∀ S,eh S (.int q) (.int 2)=some (.int (q % 2)):=fun S=>dk (by decide)
 by_cases h6:q<6
 ·obtain⟨l,S3,e3,l0,l1,P3,K3⟩:=hp _ _ 6 P2 (by decide) (by decide)
  obtain⟨t,et,ot⟩:=zB l0 l1
  obtain⟨wr,ew⟩:=at_wr (q:=q)
  have k1:∀ S,ed ([D.str "read",D.str "write"],S)=some (.lst [D.str "read",D.str "write"],S):=fun S=>aT (by simp)
  have k2:∀ S,ed ([D.non,D.non,D.non,D.int 0,D.int 1,D.int 9],S)=some (.lst [D.non,D.non,D.non,D.int 0,D.int 1,D.int 9],S):=fun S=>aT (by simp)
  have k3:∀ S (a b c:D),ie ([a,b,c],S)=some (.tup [a,b,c],S):=fun S a b c=>cA (by simp)
  refine⟨.ask wr g' t,S3,?_,⟨by omega,ot⟩,P3,Keep.trans K1 (Keep.trans K2 K3)⟩
  simp [fX,e1,e2,h6,k1,md,ew,e3,k2,et,k3,Dd.d]
 ·by_cases h11:q=11
  ·subst h11
   have k1:∀ S (a:D),ie ([a],S)=some (.tup [a],S):=fun S a=>cA (by simp)
   refine⟨.tick,S2,?_,trivial,P2,Keep.trans K1 K2⟩
   simp [fX,e1,e2,k1,Dd.d]
  ·obtain⟨k,ek⟩:=Dn (q:=q) (by omega) (by omega)
   have k1:∀ S,ed ([D.str "up",D.str "down",D.str "leave",D.str "leave",D.str "stop"],S)=some (.lst [D.str "up",D.str "down",D.str "leave",D.str "leave",D.str "stop"],S):=fun S=>aT (by simp)
   have k2:∀ S (a b:D),ie ([a,b],S)=some (.tup [a,b],S):=fun S a b=>cA (by simp)
   refine⟨.act k g',S2,?_,(by show g'<n;omega),P2,Keep.trans K1 K2⟩
   simp [fX,e1,e2,h6,Ex.mpr h11,k1,ek,k2,Dd.d]
def fw(es:List En)(g:Nat):Bool:=es.any fun e=>decide (e.g=g)
def zy(R:Rm):Dd->Bool
 | .tick=>true
 | .ask _ g _=>decide (R.1[g]?=some .out) && !fw R.2 g
 | .act .up g=>decide (R.1[g]?=some .reads)
 | .act .down g=>decide (R.1[g]?=some .writes)||decide (R.1[g]?=some .raised)
 | .act .leave g=>decide (R.1[g]?≠some .out)
 | .act .stop g=>fw R.2 g||decide (R.1[g]?=some .rising)
def mkL(r:Rl)(w:Wd)(es:List En):List En:=if r.w=.turns/\w=.writes then es.map (fun e=>if e.wr then e else { e with m:=1 }) else es
section
variable{S:aa}{ws:List Wd}{es:List En}{r:Rl}
end
def evsD(l:List Ev):D:=.tup (l.map Ev.d)
def cZ(r:Rl)(R:Rm):Rm×List Ev:=seL r (2 * R.1.length) R
def zF(wr:Bool)(g:Nat)(t:Option Int):En:=⟨g,wr,0,if t=some 0 then some 1 else t⟩
def zD(r:Rl)(R:Rm)(wr:Bool)(g:Nat)(t:Option Int):Rm×List Ev:=
 let a:=cZ r (R.1,R.2++[zF wr g t])
 if fw a.1.2 g=false then a
 else if t=some 0 then ((a.1.1,a.1.2.filter fun e=>decide (e.g≠g)),a.2++[⟨"no",g⟩])
 else (a.1,a.2++[⟨"waits",g⟩])
def zj(e:En):En:={ e with t:=e.t.map (· - 1) }
def tickL(r:Rl)(R:Rm):Rm×List Ev:=
 let a:=cZ r (R.1,(R.2.map zj).filter fun e=>decide (e.t≠some 0))
 (a.1,(((R.2.map zj).filter fun e=>decide (e.t=some 0)).map fun e=>⟨"ends",e.g⟩)++a.2)
def Cn(k:Ak)(g:Nat):List Ev:=match k with
 | .up=>[]
 | .stop=>[⟨"ends",g⟩]
 | .down=>[⟨"down",g⟩]
 | .leave=>[⟨"out",g⟩]
def uh(k:Ak)(w:Wd):Wd:=match k with
 | .up=>.rising
 | .down=>.reads
 | .leave=>.out
 | .stop=>if w=.rising then .reads else .out
def Dq(r:Rl)(k:Ak)(w:Wd)(g:Nat)(es:List En):List En:=(if k=.down\/k=.leave then mkL r w es else es).filter fun e=>decide (e.g≠g)
def actL(r:Rl)(R:Rm)(k:Ak)(g:Nat)(w:Wd):Rm×List Ev:=
 let a:=cZ r (R.1.set g (uh k w),Dq r k w g R.2)
 (a.1,Cn k g++a.2++(if a.1.1[g]?=some .rising then [⟨"waits",g⟩] else []))
def wO(r:Rl)(R:Rm)(dd:Dd):Option (Rm×List Ev):=
 if zy R dd=false then none else match dd with
 | .tick=>some (tickL r R)
 | .ask wr g t=>some (zD r R wr g t)
 | .act k g=>if k=.up/\(r.c=0\/Wd.rising∈R.1) then some (R,[⟨"no",g⟩]) else match R.1[g]? with
  | some w=>some (actL r R k g w)
  | none=>none
def lz{es:List En}{g:Nat}(h:fw es g=false){e:En}(he:e∈es):e.g≠g:=fun z=>by
 have:fw es g=true:=List.any_eq_true.mpr ⟨e,he,by simp [z]⟩
 rw [h] at this;cases this
theorem ROk.filter{ws:List Wd}{es:List En}(h:ROk (ws,es))(p:En->Bool):ROk (ws,es.filter p):=
 ⟨fun e he=>h.out e (Fc.mp he).1,List.Sublist.nodup (List.Sublist.map _ (List.filter_sublist)) h.nd⟩
def ROk.mapE{ws:List Wd}{es:List En}(h:ROk (ws,es))(f:En->En)(hf:∀ e,(f e).g=e.g):ROk (ws,es.map f):=
 ⟨fun e he=>by obtain⟨x,hx,rfl⟩:=EO.mp he;rw [hf];exact h.out x hx,by
  show ((es.map f).map (·.g)).Nodup
  rw [List.map_map,show ((·.g) ∘ f)=(fun e:En=>e.g) from funext hf];exact h.nd⟩
def ROk.setW{ws:List Wd}{es:List En}(h:ROk (ws,es))(g:Nat)(w:Wd)(hg:∀ e∈es,e.g≠g):ROk (ws.set g w,es):=
 ⟨fun e he=>by show (ws.set g w)[e.g]?=_;rw [Em (Ne.symm (hg e he))];exact h.out e he,h.nd⟩
def eu{r:Rl}{R:Rm}(h:ROk R):ROk (cZ r R).1/\(cZ r R).1.1.length=R.1.length:=ux _ h
def zE{R:Rm}{wr:Bool}{g:Nat}{t:Option Int}(h:ROk R)(hw:R.1[g]?=some .out)(hs:fw R.2 g=false):ROk (R.1,R.2++[zF wr g t]):=
 ⟨fun e he=>by
  rcases DX.mp he with he | he
  ·exact h.out e he
  ·rw [Ei.mp he];exact hw,by
  show ((R.2++[zF wr g t]).map (·.g)).Nodup
  rw [FT,EN]
  refine⟨h.nd,by simp,fun a ha b hb=>?_⟩
  obtain⟨e,he,rfl⟩:=EO.mp ha
  simp [zF] at hb
  rw [hb];exact lz hs he⟩
def Bu{r:Rl}{w:Wd}{ws:List Wd}{es:List En}(h:ROk (ws,es)):ROk (ws,mkL r w es):=by
 unfold mkL;split
 ·exact h.mapE _ fun e=>by split <;> rfl
 ·exact h
def zG{r:Rl}{k:Ak}{w:Wd}{g:Nat}{ws:List Wd}{es:List En}(h:ROk (ws,es))(w':Wd):ROk (ws.set g w',Dq r k w g es):=by
 unfold Dq
 refine ROk.setW (ROk.filter ?_ _) g w' fun e he=>EL (Fc.mp he).2
 split
 ·exact Bu h
 ·exact h
def wN{r:Rl}{R:Rm}{dd:Dd}{x:Rm×List Ev}(h:ROk R)(hx:wO r R dd=some x):ROk x.1/\x.1.1.length=R.1.length:=by
 unfold wO at hx
 split at hx
 ·cases hx
 ·rename_i hc
  have hc:zy R dd=true:=by simpa using hc
  cases dd with
  | tick=>
   cases hx
   obtain⟨a,b⟩:=eu (r:=r) (R:=(R.1,(R.2.map zj).filter fun e=>decide (e.t≠some 0))) (ROk.filter (ROk.mapE h zj fun e=>rfl) _)
   exact⟨a,b⟩
  | ask wr g t=>
   cases hx
   simp only [zy,Dz,ET,Bool.not_eq_true'] at hc
   obtain⟨a,b⟩:=eu (r:=r) (zE (wr:=wr) (t:=t) h hc.1 hc.2)
   unfold zD
   dsimp only
   split
   ·exact⟨a,b⟩
   ·split
    ·exact⟨ROk.filter a _,b⟩
    ·exact⟨a,b⟩
  | act k g=>
   dsimp only at hx
   split at hx
   ·cases hx;exact⟨h,rfl⟩
   ·split at hx
    ·rename_i w hw
     cases hx
     obtain⟨a,b⟩:=eu (r:=r) (zG (r:=r) (k:=k) (w:=w) (g:=g) h (uh k w))
     exact⟨a,b.trans (by simp)⟩
    ·cases hx
def tZ(settled:PF):Prop:=∀ (S:aa) (r:Rl) (R:Rm),ROk R->R.1.length<=50->settled [r.d,xC R] S=some (.tup [xC (cZ r R).1,.ref S.length],S++[.lst ((cZ r R).2.map Ev.d)])
section
variable{S:aa}{ws:List Wd}{es:List En}{r:Rl}{R:Rm}
end
structure DoOk(can asked settled marked put:PF):Prop where
 c:∀ (S:aa) (R:Rm) (dd:Dd),R.2.length<=60->dd.Ok R.1.length->∃ T,can [xC R,dd.d] S=some (.bl (zy R dd),S++T)
 a:∀ (S:aa) (r:Rl) (R:Rm) (wr:Bool) (g:Nat) (t:Option Int),ROk R->R.1.length<=50->R.1[g]?=some .out->fw R.2 g=false->∃ T,asked [r.d,xC R,(Dd.ask wr g t).d] S=some (.tup [xC (zD r R wr g t).1,evsD (zD r R wr g t).2],S++T)
 s:tZ settled
 m:∀ (S:aa) (r:Rl) (w:Wd) (es:List En),es.length<=60->marked [r.d,w.d,esD es] S=some (esD (mkL r w es),S)
 p:∀ (S:aa) (ws:List Wd) (i:Nat) (w:Wd),i<ws.length->ws.length<=100->put [Au ws,.int (i:Int),w.d] S=some (Au (ws.set i w),S)
section
variable{S:aa}{ws:List Wd}{es:List En}{r:Rl}{R:Rm}
end
def Grow(r:Nat)(S S':aa):Prop:=S.length<=S'.length/\∀ j,j<S.length->j≠r->S'[j]?=S[j]?
def Grow.of{r:Nat}{S S':aa}(h:Keep r S S'):Grow r S S':=⟨Nat.le_of_eq h.2.symm,fun j _ hj=>h.1 j hj⟩
theorem Grow.trans{r:Nat}{S S' S'':aa}(h:Grow r S S')(h':Grow r S' S''):Grow r S S'':=⟨Er h.1 h'.1,fun j hj hr=>(h'.2 j (DP hj h.1) hr).trans (h.2 j hj hr)⟩
def Pk.lt{S:aa}{r:Nat}(h:Pk S r):r<S.length:=by
 obtain⟨a,b,d,h,z⟩:=h
 exact(DH.mp h).1
structure Formed(R:Rm):Prop where
 ok:ROk R
 m0:∀ e∈R.2,0<=e.m/\e.m<=999
 t1:∀ e∈R.2,∀ k,e.t=some k->1<=k/\k<=9
def jD(n:Nat):Rm:=(List.replicate n .out,[])
def tD{n:Nat}:ROk (jD n):=⟨fun e h=>by simp [jD] at h,by simp [jD]⟩
inductive Behind(r:Rl)(n:Nat):List Dd->Rm->Prop
 | nil:Behind r n [] (jD n)
 | snoc {l:List Dd} {R:Rm} {d:Dd} {x:Rm×List Ev} (h:Behind r n l R) (hd:d.Ok n) (e:wO r R d=some x):Behind r n (l++[d]) x.1
def Behind.ok{r:Rl}{n:Nat}{l:List Dd}{R:Rm}(h:Behind r n l R):ROk R/\R.1.length=n:=by
 induction h with
 | nil=>exact⟨tD,by simp [jD]⟩
 | snoc h hd e ih=>obtain⟨a,b⟩:=wN ih.1 e;exact⟨a,b.trans ih.2⟩
section
variable{α:Type}{enc:α->D}{p:Nat->α->Bool}{f:Nat->α->D}{t:MT}{e:ME}{rest:ai}{S:aa}
end
def ixW(p:Wd->Bool)(ws:List Wd):List Nat:=(ws.zipIdx.filter fun q=>p q.1).map (·.2)
def iB(ws:List Wd)(g:Nat):List Wd:=(ws.zipIdx.filter fun q=>!decide (q.1=.out) && !decide (q.2=g)).map (·.1)
def qy(r:Rl)(R:Rm)(g:Nat):Bool:=
 if R.1[g]?=some .rising then (iB R.1 g).isEmpty else match R.2.find? fun e=>decide (e.g=g) with
 | none=>false
 | some e=>if e.wr then (iB R.1 g).isEmpty else (iB R.1 g).all (fun w=>decide (w=.reads))&&(decide (r.a=0)||decide (((iB R.1 g).length:Int)<r.a))
section
variable{S:aa}{R:Rm}{r:Rl}{g:Nat}
end
def favB(w:Rw)(e:En):Bool:=match w with
 | .rows=>false
 | .readers=>!e.wr
 | _=>e.wr
def turnB(w:Rw)(e:En):Bool:=decide (w=.turns)&&decide (e.m=1)
def foreL(w:Rw)(es:List En):List Nat:=(es.filter (turnB w)).map (·.g)++(es.filter (favB w)).map (·.g)++es.map (·.g)
section
variable{S:aa}{es:List En}{w:Rw}{r:Rl}{R:Rm}
def zT(r:Rl)(R:Rm):List En->Option Nat
 | []=>none
 | e::l=>if qy r R e.g then some e.g else if r.b<=e.m then none else zT r R l
def nextB(r:Rl)(R:Rm):Option Nat:=if r.w=.passes then zT r R R.2 else match (foreL r.w R.2).head? with
 | none=>none
 | some g=>if qy r R g then some g else none
end
section
variable{ws:List Wd}{es:List En}{r:Rl}{R:Rm}{g:Nat}
def comeB(r:Rl)(R:Rm):Option Ev:=match (ixW (fun w=>decide (w=.rising)) R.1).find? (qy r R) with
 | some g=>some ⟨"steps",g⟩
 | none=>(nextB r R).map fun g=>⟨"in",g⟩
inductive zH(r:Rl)(R:Rm):Option Ev->Rm->List Ev->Prop
 | up (g:Nat) (h:R.1[g]?=some .rising):zH r R (some ⟨"steps",g⟩) (R.1.set g .raised,R.2) [⟨"steps",g⟩]
 | go (i:Nat) (e:En) (h:R.2[i]?=some e):zH r R (some ⟨"in",e.g⟩) (yG r R i e) [⟨"in",e.g⟩]
 | no:zH r R none R []
theorem lm{a b:Wd}:∀ {ws:List Wd} {i:Nat},ws[i]?=some a->a≠b->∀ c,(ws.set i b).count c+(if a=c then 1 else 0)=ws.count c+(if b=c then 1 else 0)
 | [],i,h,_,c=>by simp at h
 | w::l,0,h,hn,c=>by
  simp at h;subst h
  rw [List.set_cons_zero,Fo,Fo]
  by_cases h1:w=c <;> by_cases h2:b=c <;> simp [h1,h2] <;> omega
 | w::l,i+1,h,hn,c=>by
  have:=lm (i:=i) (ws:=l) (by simpa using h) hn c
  rw [List.set_cons_succ,Fo,Fo]
  omega
end
section
variable{S:aa}{ws:List Wd}{es:List En}{r:Rl}{R:Rm}{g:Nat}
def evoD:Option Ev->D
 | none=>.non
 | some v=>v.d
structure StOk(br co:PF):Prop where
 c:∀ (S:aa) (r:Rl) (R:Rm),R.1.length<=100->R.2.length<=100->co [r.d,xC R] S=some (evoD (comeB r R),S)
 b:∀ (S:aa) (r:Rl) (R:Rm) (v:Ev) (R':Rm) (l:List Ev),ROk R->R.1.length<=50->zH r R (some v) R' l->br [r.d,xC R,v.d] S=some (xC R',S)
end
section
variable{S:aa}{r:Rl}{R:Rm}
end
section
variable{r:Rl}
structure Calm(ws:List Wd):Prop where
 only:∀ w∈ws,w=.out\/w=.reads
 one:1<=ws.count .reads
theorem Calm.set{ws:List Wd}(c:Calm ws){g:Nat}(hg:ws[g]?=some .out):Calm (ws.set g .reads)/\(ws.set g .reads).count .reads=ws.count .reads+1:=by
 have h:=lm (b:=.reads) hg (by decide) .reads
 simp at h
 have:=c.one
 refine⟨⟨fun w hw=>?_,by omega⟩,h⟩
 rcases List.mem_or_eq_of_mem_set hw with z | z
 ·exact c.only w z
 ·exact .inr z
end
section
variable{α:Type}{enc:α->D}{p:α->Bool}{f:α->D}{t:MT}{e:ME}{rest:ai}{S:aa}{r:Nat}{xs:List α}
end
section
variable{r:Rl}{es:List En}
end
end MI
section
set_option maxHeartbeats 4000000
namespace K11
open L2 MI
open M hiding mC ac ay aP bo da cM dI bX en rl fj vm ae ab aX bZ dJ sH ba bL aY aL de ag aO aA aZ ei cx aq dO bw cb cN aw aS ca em cC fU du eG ib dL df cw dw fV cH
def jN(i:Nat):Stmt:=PySem.Challenge.pw_manyreaders_k11_deeds_or_none.main.body.getD i (.Pass ⟨0,0,0,0⟩)
abbrev bf:Stmt:=jN 11
abbrev cj:Stmt:=jN 13
abbrev bU:Stmt:=jN 12
abbrev bT:Stmt:=jN 14
abbrev bV:Stmt:=jN 15
abbrev bq:Stmt:=jN 4
abbrev cU:Stmt:=jN 3
abbrev ci:Stmt:=jN 1
abbrev bC:Stmt:=jN 2
abbrev cV:Stmt:=jN 9
abbrev bt:Stmt:=jN 19
abbrev bW:Stmt:=jN 18
abbrev bD:Stmt:=jN 16
abbrev be:Stmt:=jN 17
abbrev kA:Stmt:=jN 20
def bP:D:=(.int 9)
def cB:D:=(.tup [(.str "up"),(.str "down"),(.str "leave"),(.str "stop")])
def iA:D:=(.tup [(.str "read"),(.str "write")])
structure mW(w:World)(K:W.Frag)(mg:Str->Option Value):Prop where
 d__law_cell_at:bG K mg "_law_cell_at" bf
 d__law_far:bG K mg "_law_far" cj
 d__law_left:bG K mg "_law_left" bU
 d__law_pick:bG K mg "_law_pick" bT
 d__law_deed:bG K mg "_law_deed" bV
 d_is_tuple_of:bG K mg "is_tuple_of" bq
 d_is_word:bG K mg "is_word" cU
 d_is_whole:bG K mg "is_whole" ci
 d_is_between:bG K mg "is_between" bC
 d_is_deed:bG K mg "is_deed" cV
 d__law_nested:bG K mg "_law_nested" bt
 d__law_bent:bG K mg "_law_bent" bW
 d__law_whole:bG K mg "_law_whole" bD
 d__law_is_deed:bG K mg "_law_is_deed" be
 d_law:bG K mg "law" kA
 z_bool:mg "bool" = none
 z_int:mg "int" = none
 z_isinstance:mg "isinstance" = none
 z_len:mg "len" = none
 z_list:mg "list" = none
 z_max:mg "max" = none
 z_min:mg "min" = none
 z_range:mg "range" = none
 z_str:mg "str" = none
 z_tuple:mg "tuple" = none
 g_GREATEST_LEFT:GC K mg "GREATEST_LEFT" bP
 g_GUEST_WORDS:GC K mg "GUEST_WORDS" cB
 g_WANTS:GC K mg "WANTS" iA
section
variable{P:Program}{w:World}{K:W.Frag}{mg:Str->Option Value}{base:Heap}
def bB:List Str:=["_law_script","_law_k"]
def eJ:List (Str×GI):=[("len",.blt)]
def bx:=aQ bB (jM (mV bB bf eJ []) (al bf)) 2
def hU:ax bB ["_law_script","_law_k"] (af bf):=⟨rfl,rfl,rfl,by decide +kernel,rfl,by decide +kernel,by decide +kernel⟩
def hX(T:mW w K mg):Fn P w K mg base 1 "_law_cell_at" 2 bx:=
 bS T.d__law_cell_at hU (fun _ _ _ _ _ _=>gn fun _=>gn fun _=>qF rfl) (GKs.mem (gs:=eJ) ⟨T.z_len,trivial⟩)
def dn:List Str:=["_law_far_here","_law_k"]
def jy:List (Str×GI):=[("range",.blt)]
def dj:=aQ dn (jM (mV dn cj jy []) (al cj)) 0
def nk:ax dn [] (af cj):=⟨rfl,rfl,rfl,by decide +kernel,rfl,by decide +kernel,by decide +kernel⟩
def nA(T:mW w K mg):Fn P w K mg base 1 "_law_far" 0 dj:=
 bS T.d__law_far nk (fun _ _ _ _ _ _=>qF rfl) (GKs.mem (gs:=jy) ⟨T.z_range,trivial⟩)
def cD:List Str:=["_law_script","_law_k","_law_cell","_law_seed"]
def gN:List (Str×GI):=[("_law_cell_at",.fn 2 bx),("max",.blt),("_law_far",.fn 0 dj),("len",.blt)]
def bY:=aQ cD (jM (mV cD bU gN [34]) (al bU)) 2
def lD:ax cD ["_law_script","_law_k"] (af bU):=⟨rfl,rfl,rfl,by decide +kernel,rfl,by decide +kernel,by decide +kernel⟩
def lI(T:mW w K mg):Fn P w K mg base 2 "_law_left" 2 bY:=
 bS T.d__law_left lD (fun _ _ _ _ _ _=>gn fun _=>gn fun _=>qF rfl) (GKs.mem (gs:=gN) ⟨(hX T).up (by decide),T.z_max,(nA T).up (by decide),T.z_len,trivial⟩)
def dB:List Str:=["_law_left_here","_law_many","_law_digit"]
def gM:List (Str×GI):=[]
def aC:=aQ dB (jM (mV dB bT gM []) (al bT)) 2
def lC:ax dB ["_law_left_here","_law_many"] (af bT):=⟨rfl,rfl,rfl,by decide +kernel,rfl,by decide +kernel,by decide +kernel⟩
def dW(T:mW w K mg):Fn P w K mg base 1 "_law_pick" 2 aC:=
 bS T.d__law_pick lC (fun _ _ _ _ _ _=>gn fun _=>gn fun _=>qF rfl) (GKs.mem (gs:=gM) trivial)
def cE:List Str:=["_law_left_here","_law_n","_law_guest","_law_way"]
def gO:List (Str×GI):=[("_law_pick",.fn 2 aC)]
def aV:=aQ cE (jM (mV cE bV gO []) (al bV)) 2
def lE:ax cE ["_law_left_here","_law_n"] (af bV):=⟨rfl,rfl,rfl,by decide +kernel,rfl,by decide +kernel,by decide +kernel⟩
def lJ(T:mW w K mg):Fn P w K mg base 2 "_law_deed" 2 aV:=
 bS T.d__law_deed lE (fun _ _ _ _ _ _=>gn fun _=>gn fun _=>qF rfl) (GKs.mem (gs:=gO) ⟨(dW T).up (by decide),trivial⟩)
def bN:List Str:=["thing","many"]
def fq:List (Str×GI):=[("isinstance",.blt),("tuple",.blt),("len",.blt)]
def ah:=aQ bN (jM (mV bN bq fq []) (al bq)) 2
def iI:ax bN ["thing","many"] (af bq):=⟨rfl,rfl,rfl,by decide +kernel,rfl,by decide +kernel,by decide +kernel⟩
def iQ(T:mW w K mg):Fn P w K mg base 1 "is_tuple_of" 2 ah:=
 bS T.d_is_tuple_of iI (fun _ _ _ _ _ _=>gn fun _=>gn fun _=>qF rfl) (GKs.mem (gs:=fq) ⟨T.z_isinstance,T.z_tuple,T.z_len,trivial⟩)
def dR:List Str:=["thing","words"]
def lb:List (Str×GI):=[("isinstance",.blt),("str",.blt)]
def cy:=aQ dR (jM (mV dR cU lb []) (al cU)) 2
def pq:ax dR ["thing","words"] (af cU):=⟨rfl,rfl,rfl,by decide +kernel,rfl,by decide +kernel,by decide +kernel⟩
def pD(T:mW w K mg):Fn P w K mg base 1 "is_word" 2 cy:=
 bS T.d_is_word pq (fun _ _ _ _ _ _=>gn fun _=>gn fun _=>qF rfl) (GKs.mem (gs:=lb) ⟨T.z_isinstance,T.z_str,trivial⟩)
def dm:List Str:=["thing"]
def jx:List (Str×GI):=[("isinstance",.blt),("int",.blt),("bool",.blt)]
def di:=aQ dm (jM (mV dm ci jx []) (al ci)) 1
def nj:ax dm ["thing"] (af ci):=⟨rfl,rfl,rfl,by decide +kernel,rfl,by decide +kernel,by decide +kernel⟩
def nz(T:mW w K mg):Fn P w K mg base 1 "is_whole" 1 di:=
 bS T.d_is_whole nj (fun _ _ _ _ _ _=>gn fun _=>qF rfl) (GKs.mem (gs:=jx) ⟨T.z_isinstance,T.z_int,T.z_bool,trivial⟩)
def ce:List Str:=["thing","low","high"]
def fZ:List (Str×GI):=[("is_whole",.fn 1 di)]
def bp:=aQ ce (jM (mV ce bC fZ []) (al bC)) 3
def jR:ax ce ["thing","low","high"] (af bC):=⟨rfl,rfl,rfl,by decide +kernel,rfl,by decide +kernel,by decide +kernel⟩
def jV(T:mW w K mg):Fn P w K mg base 2 "is_between" 3 bp:=
 bS T.d_is_between jR (fun _ _ _ _ _ _=>gn fun _=>gn fun _=>gn fun _=>qF rfl) (GKs.mem (gs:=fZ) ⟨(nz T).up (by decide),trivial⟩)
def dS:List Str:=["n","thing","want","guest","left"]
def lc:List (Str×GI):=[("is_tuple_of",.fn 2 ah),("is_word",.fn 2 cy),("WANTS",.con iA),("is_between",.fn 3 bp),("GUEST_WORDS",.con cB),("GREATEST_LEFT",.con bP)]
def cX:=aQ dS (jM (mV dS cV lc []) (al cV)) 2
def pv:ax dS ["n","thing"] (af cV):=⟨rfl,rfl,rfl,by decide +kernel,rfl,by decide +kernel,by decide +kernel⟩
def pE(T:mW w K mg):Fn P w K mg base 3 "is_deed" 2 cX:=
 bS T.d_is_deed pv (fun _ _ _ _ _ _=>gn fun _=>gn fun _=>qF rfl) (GKs.mem (gs:=lc) ⟨(iQ T).up (by decide),(pD T).up (by decide),T.g_WANTS,(jV T).up (by decide),T.g_GUEST_WORDS,T.g_GREATEST_LEFT,trivial⟩)
def bO:List Str:=["_law_thing","_law_deep","_law_turn"]
def ft:List (Str×GI):=[("range",.blt)]
def aJ:=aQ bO (jM (mV bO bt ft []) (al bt)) 2
def iJ:ax bO ["_law_thing","_law_deep"] (af bt):=⟨rfl,rfl,rfl,by decide +kernel,rfl,by decide +kernel,by decide +kernel⟩
def iR(T:mW w K mg):Fn P w K mg base 1 "_law_nested" 2 aJ:=
 bS T.d__law_nested iJ (fun _ _ _ _ _ _=>gn fun _=>gn fun _=>qF rfl) (GKs.mem (gs:=ft) ⟨T.z_range,trivial⟩)
def cF:List Str:=["_law_left_here","_law_n","_law_deed_here","_law_words","_law_odd","_law_word","_law_thing","_law_some"]
def gP:List (Str×GI):=[("list",.blt),("_law_pick",.fn 2 aC),("str",.blt)]
def bm:=aQ cF (jM (mV cF bW gP [900073,950000]) (al bW)) 3
def lF:ax cF ["_law_left_here","_law_n","_law_deed_here"] (af bW):=⟨rfl,rfl,rfl,by decide +kernel,rfl,by decide +kernel,by decide +kernel⟩
def lK(T:mW w K mg):Fn P w K mg base 2 "_law_bent" 3 bm:=
 bS T.d__law_bent lF (fun _ _ _ _ _ _=>gn fun _=>gn fun _=>gn fun _=>qF rfl) (GKs.mem (gs:=gP) ⟨T.z_list,(dW T).up (by decide),T.z_str,trivial⟩)
def cf:List Str:=["_law_thing","_law_least","_law_most"]
def ga:List (Str×GI):=[("isinstance",.blt),("int",.blt),("bool",.blt)]
def aU:=aQ cf (jM (mV cf bD ga []) (al bD)) 3
def jS:ax cf ["_law_thing","_law_least","_law_most"] (af bD):=⟨rfl,rfl,rfl,by decide +kernel,rfl,by decide +kernel,by decide +kernel⟩
def jW(T:mW w K mg):Fn P w K mg base 1 "_law_whole" 3 aU:=
 bS T.d__law_whole jS (fun _ _ _ _ _ _=>gn fun _=>gn fun _=>gn fun _=>qF rfl) (GKs.mem (gs:=ga) ⟨T.z_isinstance,T.z_int,T.z_bool,trivial⟩)
def bA:List Str:=["_law_n","_law_thing","_law_sizes"]
def eI:List (Str×GI):=[("len",.blt),("_law_whole",.fn 3 aU),("isinstance",.blt),("tuple",.blt),("str",.blt)]
def bi:=aQ bA (jM (mV bA be eI []) (al be)) 2
def hR:ax bA ["_law_n","_law_thing"] (af be):=⟨rfl,rfl,rfl,by decide +kernel,rfl,by decide +kernel,by decide +kernel⟩
def hV(T:mW w K mg):Fn P w K mg base 2 "_law_is_deed" 2 bi:=
 bS T.d__law_is_deed hR (fun _ _ _ _ _ _=>gn fun _=>gn fun _=>qF rfl) (GKs.mem (gs:=eI) ⟨T.z_len,(jW T).up (by decide),T.z_isinstance,T.z_tuple,T.z_str,trivial⟩)
def oZ:List Str:=["_law_script","_law_k","_law_left_here","_law_n","_law_some","_law_turn","_law_deed_here","_law_thing","_law_found"]
def Ad:List (Str×GI):=[("range",.blt),("max",.blt),("_law_left",.fn 2 bY),("min",.blt),("_law_pick",.fn 2 aC),("_law_deed",.fn 2 aV),("is_deed",.fn 2 cX),("len",.blt),("_law_nested",.fn 2 aJ),("_law_bent",.fn 3 bm),("isinstance",.blt),("bool",.blt),("_law_is_deed",.fn 2 bi)]
def oC:=aQ oZ (jM (mV oZ kA Ad []) (al kA)) 1
def AI:ax oZ ["_law_script"] (af kA):=⟨rfl,rfl,rfl,by decide +kernel,rfl,by decide +kernel,by decide +kernel⟩
def Ck(T:mW w K mg):GKs P w K mg base 3 Ad:=⟨T.z_range,T.z_max,(lI T).up (by decide),T.z_min,(dW T).up (by decide),(lJ T).up (by decide),(pE T).up (by decide),T.z_len,(iR T).up (by decide),(lK T).up (by decide),T.z_isinstance,T.z_bool,(hV T).up (by decide),trivial⟩
end
def Dp{l:W.OpenLaw}{w:World}{K:W.Frag}{h:Heap}{mg:Str->Option Value}{fa:Addr}(X:K.In h)(G:h.Ns mainGlobals mg)(hfa:mg "law" = some (.ref fa))(T:mW w K mg) :
  ∃ fd:FuncData,(∀ (s:Shared) (v:Value),BindsTo s fd ⟨[v],[]⟩ [("_law_script",v)])/\∀ base:Heap,K.In base->base.Ns mainGlobals mg->FnOk l.prog w K mg base si 4 fa fd ["_law_script"] (uv K 1 oC):=
 BF T.d_law hfa AI (fun _ _ _ _ _ _ _=>rfl) fun base=>Ck T
def walk{l:W.OpenLaw}{q:Program}{loose:List Str}{XP:(Str->Option Value)->Heap->Prop}{YP:World->Heap->Prop}{d:DefRec}{K:Params->W.Frag}(hn:l.most=some 63)(hdf:d.params.defaults=[])(hnm:d.name = "law")
  (hY:∀ (w:World) (h:Heap),YP w h->(K w.params).In h) (hlaw:∀ ns:List Int,ns.length<=63->∃ S',oC [.rol (ns.map .int)] []=some (.bl true,S'))
  (F:∀ (w:World) (mg:Str->Option Value) (h:Heap),(K w.params).In h->h.Ns mainGlobals mg->mW w (K w.params) mg) :
  W.WalkO q loose XP YP l.row.toRowW d [] (fun f vs=>PySem.call f vs):=
 L2.xo (n:=63) (k:=4) (x:="_law_script") (CX:=fun _=>si) (sp:=fun w=>uv (K w.params) 1 oC) hn (by decide) hdf ⟨rfl,by decide,by decide⟩ hY
  (fun w mg fa h KX G hmg=>Dp KX G (hnm ▸ hmg) (F w mg h KX G)) (fun _ _ a ns hl _ hS=>BD hlaw hl hS) fun _ _ _ _ _ z=>z
end K11
end
section
set_option maxHeartbeats 4000000
namespace K11
open L2 MI
open M hiding mC ac ay aP bo da cM dI bX en rl fj vm ae ab aX bZ dJ sH ba bL aY aL de ag aO aA aZ ei cx aq dO bw cb cN aw aS ca em cC fU du eG ib dL df cw dw fV cH
def iY:MS:=
 eX
def ia:bx=aQ bB iY 2:=pM rfl
def pP:MS:=
 pW
def nK:dj=aQ dn pP 0:=pM rfl
def nN:MS:=
 iu bx dj
def lO:bY=aQ cD nN 2:=pM rfl
def nM:MS:=
 ir
def lN:aC=aQ dB nM 2:=pM rfl
def nO:MS:=
 fX aC
def lP:aV=aQ cE nO 2:=pM rfl
def fh:MS:=
 aZ (en (de "tuple" (ac 0)) (ay sW (aL (ak dq) (ab (ac 0) (ae))) (ac 1)))
def iV:ah=aQ bN fh 2:=pM rfl
def kK:MS:=
 aZ (en (de "str" (ac 0)) (ay fIn (ac 0) (ac 1)))
def pK:cy=aQ dR kK 2:=pM rfl
def iX:MS:=
 aZ (en (de "int" (ac 0)) (fj (de "bool" (ac 0))))
def nJ:di=aQ dm iX 1:=pM rfl
def fR:MS:=
 aZ (en (ag 1 di (ab (ac 0) (ae))) (bo Cv Cv (ac 1) (ac 0) (ac 2)))
def jX:bp=aQ ce fR 3:=pM rfl
def cn:MS:=
 aA (cx (da (ag 2 ah (ab (ac 1) (ab (mC (.int 1)) (ae))))) (aZ (ag 2 cy (ab (ay aK (ac 1) (mC (.int 0))) (ab (aX (ab (mC (.str "tick")) (ae))) (ae))))) (aO)) (aA (cx (da (ag 2 ah (ab (ac 1) (ab (mC (.int 2)) (ae))))) (aZ (en (ag 2 cy (ab (ay aK (ac 1) (mC (.int 0))) (ab (mC cB) (ae)))) (ag 3 bp (ab (ay aK (ac 1) (mC (.int 1))) (ab (mC (.int 0)) (ab (ay mz (ac 0) (mC (.int 1))) (ae))))))) (aO)) (aA (cx (bX (da (ag 2 ah (ab (ac 1) (ab (mC (.int 3)) (ae)))))) (aZ (mC (.bl false))) (aO)) (aA (aw (ac 1) (cb 3 (bw (aq 2) (bw (aq 3) (bw (aq 4) (dO)))))) (aZ (en (ag 2 cy (ab (ac 2) (ab (mC iA) (ae)))) (en (ag 3 bp (ab (ac 3) (ab (mC (.int 0)) (ab (ay mz (ac 0) (mC (.int 1))) (ae))))) (rl (ay Cw (ac 4) (mC .non)) (ag 3 bp (ab (ac 4) (ab (mC (.int 0)) (ab (mC bP) (ae))))))))))))
def pL:cX=aQ dS cn 2:=pM rfl
def fi:MS:=
 aA (em (aS (ab (ac 1) (ae))) (aq 2) (aw (aX (ab (ac 0) (ab (mC (.int 0)) (ae)))) (aq 0))) (aZ (ac 0))
def iW:aJ=aQ bO fi 2:=pM rfl
def gH:MS:=
 aA (aw (bZ (ab (mC (.str "read")) (ab (mC (.str "write")) (ab (mC (.str "up")) (ab (mC (.str "down")) (ab (mC (.str "leave")) (ab (mC (.str "stop")) (ab (mC (.str "tick")) (ab (mC (.str "reads")) (ab (mC (.str "")) (ab (mC (.str "Read")) (ab (mC (.str "ticks")) (ae))))))))))))) (aq 3)) (aA (aw (bZ (ab (ac 1) (ab (sH wb (mC (.int 1))) (ab (ay mz (ac 1) (mC (.int 1))) (ab (mC (.bl true)) (ab (mC (.bl false)) (ab (mC .non) (ab (mC (.str "0")) (ab (aX (ab (mC (.int 0)) (ae))) (ab (bZ (ab (mC (.int 0)) (ae))) (ab (ay ii (mC (.int 10)) (mC (.int 30))) (ab (mC (.int 9)) (ab (mC (.int 10)) (ae)))))))))))))) (aq 4)) (aA (ib 5 6 (ab (ay aK (ac 3) (ag 2 aC (ab (ac 0) (ab (mC (.int 11)) (ae))))) (ab (ay aK (ac 4) (ag 2 aC (ab (ac 0) (ab (mC (.int 12)) (ae))))) (ae)))) (aA (aw (bZ (ab (aL (ak (gS .lst)) (ab (ac 2) (ae))) (ab (ay aE (ac 2) (aX (ab (mC .non) (ae)))) (ab (ay aE (ac 2) (aX (ab (ac 6) (ae)))) (ab (aY (ac 2) (ba) (bL (sH wb (mC (.int 1))))) (ab (aY (ac 2) (ba) (bL (mC (.int 1)))) (ab (aX (ab (ac 2) (ae))) (ab (ay aE (aX (ab (ac 5) (ae))) (aY (ac 2) (bL (mC (.int 1))) (ba))) (ae))))))))) (aq 7)) (aA (aw (ay aE (ac 7) (bZ (ab (ay aE (ay aE (aY (ac 2) (ba) (bL (mC (.int 1)))) (aX (ab (ac 6) (ae)))) (aY (ac 2) (bL (mC (.int 2))) (ba))) (ab (ay aE (aY (ac 2) (ba) (bL (mC (.int 2)))) (aX (ab (ac 6) (ae)))) (ab (aY (ac 2) (bL (mC (.int 1))) (ba)) (ab (ay aE (aX (ab (ac 6) (ae))) (aY (ac 2) (bL (mC (.int 1))) (ba))) (ae))))))) (aq 7)) (aA (aw (ay aE (ac 7) (bZ (ab (ay aE (aY (ac 2) (ba) (bL (mC (.int 2)))) (aX (ab (ay aK (bZ (ab (mC .non) (ab (mC (.int 0)) (ab (mC (.int 9)) (ae))))) (ag 2 aC (ab (ac 0) (ab (mC (.int 3)) (ae))))) (ae)))) (ab (aY (ac 2) (ba) (bL (mC (.int 2)))) (ab (aL (ak gR) (ab (ac 2) (ae))) (ab (cH (ac 2) (mC (.bl true))) (ae))))))) (aq 7)) (aZ (ay aK (ac 7) (ag 2 aC (ab (ac 0) (ab (mC (.int 15)) (ae)))))))))))
def lQ:bm=aQ cF gH 3:=pM rfl
def fS:MS:=
 aZ (en (de "int" (ac 0)) (en (fj (de "bool" (ac 0))) (bo Cv Cv (ac 1) (ac 0) (ac 2))))
def jY:aU=aQ cf fS 3:=pM rfl
def eE:MS:=
 aA (cx (dI (bX (da (de "tuple" (ac 1)))) (dI (aP (ay sW (aL (ak dq) (ab (ac 1) (ae))) (mC (.int 0)))) (bX (da (de "str" (ay aK (ac 1) (mC (.int 0)))))))) (aZ (mC (.bl false))) (aO)) (aA (aw (dL [(mC (.str "read"),mC (.int 3)),(mC (.str "write"),mC (.int 3)),(mC (.str "up"),mC (.int 2)),(mC (.str "down"),mC (.int 2)),(mC (.str "leave"),mC (.int 2)),(mC (.str "stop"),mC (.int 2)),(mC (.str "tick"),mC (.int 1))]) (aq 2)) (aA (cx (aP (ay ud (cw lh (ac 2) (ab (ay aK (ac 1) (mC (.int 0))) (ab (mC (.int 0)) (ae)))) (aL (ak dq) (ab (ac 1) (ae))))) (aZ (mC (.bl false))) (aO)) (aA (cx (cM (aP (ay fGt (aL (ak dq) (ab (ac 1) (ae))) (mC (.int 1)))) (bX (da (ag 3 aU (ab (ay aK (ac 1) (mC (.int 1))) (ab (mC (.int 0)) (ab (ay mz (ac 0) (mC (.int 1))) (ae)))))))) (aZ (mC (.bl false))) (aO)) (aZ (rl (ay Ai (aL (ak dq) (ab (ac 1) (ae))) (mC (.int 3))) (rl (ay Cw (ay aK (ac 1) (mC (.int 2))) (mC .non)) (ag 3 aU (ab (ay aK (ac 1) (mC (.int 2))) (ab (mC (.int 0)) (ab (mC (.int 9)) (ae)))))))))))
def hZ:bi=aQ bA eE 2:=pM rfl
def zU:MS:=
 aA (em (aS (ab (aL (ak gd) (ab (mC (.int 3)) (ab (aL (ak oD) (ab (aL (ak dq) (ab (ac 0) (ae))) (ab (mC (.int 8)) (ae)))) (ae)))) (ae))) (aq 1) (aA (aw (ag 2 bY (ab (ac 0) (ab (ac 1) (ae)))) (aq 2)) (aA (aw (ay aE (mC (.int 1)) (ag 2 aC (ab (ac 2) (ab (mC (.int 5)) (ae))))) (aq 3)) (aA (aw (bZ (ab (mC .non) (ab (mC (.bl true)) (ab (mC (.int 0)) (ab (mC (.str "")) (ab (mC (.str "tick")) (ab (mC (.str "read")) (ab (aX (ae)) (ab (bZ (ae)) (ab (mC (.dct [] [])) (ab (aX (ab (mC (.str "tick")) (ae))) (ab (bZ (ab (mC (.str "tick")) (ae))) (ab (aX (ab (aX (ab (mC (.str "tick")) (ae))) (ae))) (ab (aX (ab (mC .non) (ab (mC (.int 0)) (ae)))) (ab (aX (ab (mC (.int 0)) (ab (mC (.str "up")) (ae)))) (ae)))))))))))))))) (aq 4)) (aA (aw (ay aE (ac 4) (cC (fU (aX (ab (mC (.int 1)) (ab (mC (.int 59)) (ae))))) (aq 0) (du) (ag 2 aJ (ab (aX (ab (mC (.str "up")) (ab (mC (.int 0)) (ae)))) (ab (ac 0) (ae)))) [none])) (aq 4)) (aA (em (aS (ab (mC (.int 12)) (ae))) (aq 5) (aA (aw (ag 2 aV (ab (ac 2) (ab (ac 3) (ae)))) (aq 6)) (aw (ay aE (ac 4) (bZ (ab (ac 6) (ab (ag 3 bm (ab (ac 2) (ab (ac 3) (ab (ac 6) (ae))))) (ab (ag 3 bm (ab (ac 2) (ab (ac 3) (ab (ag 2 aV (ab (ac 2) (ab (mC (.int 9)) (ae)))) (ae))))) (ae)))))) (aq 4)))) (dw (ac 4) (aq 7) (aA (aw (ag 2 cX (ab (ac 3) (ab (ac 7) (ae)))) (aq 8)) (cx (dI (bX (da (de "bool" (ac 8)))) (aP (ay ud (ac 8) (ag 2 bi (ab (ac 3) (ab (ac 7) (ae))))))) (aZ (mC (.bl false))) (aO)))))))))) (aZ (mC (.bl true)))
def Bv:oC=aQ oZ zU 1:=pM rfl
end K11
end
section
namespace K11
open MI L2
open M hiding mC ac ay aP bo da cM dI bX en rl fj vm ae ab aX bZ dJ sH ba bL aY aL de ag aO aA aZ ei cx aq dO bw cb cN aw aS ca em cC fU du eG ib dL df cw dw cH
def gt:xl aC:=fun S r m h h0 h1=>by rw [lN];exact sx rfl h h0 h1
def left{S:aa}{ns:List Int}{k:Int}(h0:0<=k)(h1:k<=100000):∃ a b,bY [.rol (ns.map .int),.int k] S=some (.ref S.length,S++[.lst [.int a,.int b,.int 0]])/\0<=a/\0<=b/\b<2147483647:=by
 rw [lO]
 exact sJ (N:=cD) (cellAt:=bx) (far:=dj) rfl h0 h1 (fun S k h=>by rw [ia];exact oS (N:=bB) rfl h) (fun S=>by rw [nK];exact vX (N:=dn) rfl)
def el:D->Bool
 | .ref _=>false
 | .txt=>false
 | _=>true
def gW{d:D}(h:el d=true):nr d=true:=by cases d <;> first | rfl | cases h
def on{S:aa}{d:D}(h:nr d=true):di [d] S=some (.bl (pf d),S):=by
 rw [nJ,bn (show [d].length=1 from rfl),show aF dm [d]=[some d] from rfl]
 simp only [iX,cq,fA,gu,bu,oe,oj,ob,bv,gA,oG h]
 cases d <;> simp [qe,iy,pf,gD h]
def dE{S:aa}{d:D}{lo hi:Int}(h:nr d=true):bp [d,.int lo,.int hi] S=some (.bl (ki lo hi d),S):=by
 rw [jX,bn (show [d,D.int lo,D.int hi].length=3 from rfl),show aF ce [d,.int lo,.int hi]=[some d,some (.int lo),some (.int hi)] from rfl]
 simp only [fR,cq,fA,dg,bE,cu,bh,bg,bu,oe,oj,ob,bv,vM,on h]
 cases d <;> simp [pf,ki]
 rename_i i
 by_cases h1:lo<=i <;> simp [h1]
def dZ{S:aa}{d:D}{lo hi:Int}(h:nr d=true):aU [d,.int lo,.int hi] S=some (.bl (ki lo hi d),S):=by
 rw [jY,bn (show [d,D.int lo,D.int hi].length=3 from rfl),show aF cf [d,.int lo,.int hi]=[some d,some (.int lo),some (.int hi)] from rfl]
 simp only [fS,cq,fA,gu,bu,oe,sI,vw,oj,ob,bv,gA,oG h]
 cases d <;> simp [qe,iy,ki,gD h]
 rename_i i
 by_cases h1:lo<=i <;> simp [h1]
def ar{S:aa}{d:D}{n:Int}(h:nr d=true):ah [d,.int n] S=some (.bl (match d with | .tup xs=>decide ((xs.length:Int)=n) | _=>false),S):=by
 rw [iV,bn (show [d,D.int n].length=2 from rfl),show aF bN [d,.int n]=[some d,some (.int n)] from rfl]
 simp only [fh,cq,fA,gu,bu,oe,sI,oj,ob,bv,gA,oE h]
 cases d <;> simp [js]
 rfl
def wB(ys:List D):D->Bool
 | .str x=>ys.any fun y=>eo y (.str x)
 | _=>false
def fE{S:aa}{d:D}{ys:List D}(h:el d=true)(hy:ys.all (aH 39)=true):cy [d,.tup ys] S=some (.bl (wB ys d),S):=by
 rw [pK,bn (show [d,D.tup ys].length=2 from rfl),show aF dR [d,.tup ys]=[some d,some (.tup ys)] from rfl]
 simp only [kK,cq,fA,gu,bu,oe,sI,oj,ob,bv,gA,oF (gW h)]
 cases d with
 | str x=>
  have hi:fIn S (.str x) (.tup ys)=some (.bl (ys.any fun y=>eo y (.str x))):=Cy (ys:=ys) rfl rfl hy
  simp [jt,hi,wB]
 | txt=>cases h
 | _=>simp [jt,wB]
def jO(x:Str):Nat:=if x == "read" then 3 else if x == "write" then 3 else if x == "up" then 2 else if x == "down" then 2 else if x == "leave" then 2 else if x == "stop" then 2 else if x == "tick" then 1 else 0
def yl:D->Bool
 | .non=>true
 | _=>false
def bF(n:Int):D->Bool
 | .tup [.str x]=>jO x == 1
 | .tup [.str x,g]=>jO x == 2&&ki 0 (n - 1) g
 | .tup [.str x,g,t]=>jO x == 3&&(ki 0 (n - 1) g&&(yl t||ki 0 9 t))
 | _=>false
def qE(x:Str):x = "read"\/x = "write"\/x = "up"\/x = "down"\/x = "leave"\/x = "stop"\/x = "tick"\/(x ≠ "read"/\x ≠ "write"/\x ≠ "up"/\x ≠ "down"/\x ≠ "leave"/\x ≠ "stop"/\x ≠ "tick"):=by
 by_cases h1:x = "read";· exact .inl h1
 by_cases h2:x = "write";· exact .inr (.inl h2)
 by_cases h3:x = "up";· exact .inr (.inr (.inl h3))
 by_cases h4:x = "down";· exact .inr (.inr (.inr (.inl h4)))
 by_cases h5:x = "leave";· exact .inr (.inr (.inr (.inr (.inl h5))))
 by_cases h6:x = "stop";· exact .inr (.inr (.inr (.inr (.inr (.inl h6)))))
 by_cases h7:x = "tick";· exact .inr (.inr (.inr (.inr (.inr (.inr (.inl h7))))))
 exact .inr (.inr (.inr (.inr (.inr (.inr (.inr ⟨h1,h2,h3,h4,h5,h6,h7⟩))))))
def w1{x:Str}:wB [.str "tick"] (.str x)=(jO x == 1):=by
 rcases qE x with rfl | rfl | rfl | rfl | rfl | rfl | rfl | ⟨h1,h2,h3,h4,h5,h6,h7⟩
 iterate 7 decide +kernel
 simp [wB,jO,eo,h1,h2,h3,h4,h5,h6,h7,Ne.symm h7]
def w2{x:Str}:wB [.str "up",.str "down",.str "leave",.str "stop"] (.str x)=(jO x == 2):=by
 rcases qE x with rfl | rfl | rfl | rfl | rfl | rfl | rfl | ⟨h1,h2,h3,h4,h5,h6,h7⟩
 iterate 7 decide +kernel
 simp [wB,jO,eo,h1,h2,h3,h4,h5,h6,h7,Ne.symm h3,Ne.symm h4,Ne.symm h5,Ne.symm h6]
def w3{x:Str}:wB [.str "read",.str "write"] (.str x)=(jO x == 3):=by
 rcases qE x with rfl | rfl | rfl | rfl | rfl | rfl | rfl | ⟨h1,h2,h3,h4,h5,h6,h7⟩
 iterate 7 decide +kernel
 simp [wB,jO,eo,h1,h2,h3,h4,h5,h6,h7,Ne.symm h1,Ne.symm h2]
def szL:List (ao×D):=[(.inr "read",.int 3),(.inr "write",.int 3),(.inr "up",.int 2),(.inr "down",.int 2),(.inr "leave",.int 2),(.inr "stop",.int 2),(.inr "tick",.int 1)]
def yH{S:aa}{x:Str}:lh (.dct (szL.map (·.1)) (szL.map (·.2))) [.str x,.int 0] S=some (.int (jO x:Int),S):=by
 rw [yN (k:=.inr x) rfl]
 have:(eZ szL (.inr x)).getD (.int 0)=.int (jO x:Int):=by
  rcases qE x with rfl | rfl | rfl | rfl | rfl | rfl | rfl | ⟨h1,h2,h3,h4,h5,h6,h7⟩
  iterate 7 rfl
  simp [szL,jO,h1,h2,h3,h4,h5,h6,h7,Ne.symm h1,Ne.symm h2,Ne.symm h3,Ne.symm h4,Ne.symm h5,Ne.symm h6,Ne.symm h7]
 rw [this]
def cL:D->Bool
 | .ref _=>false
 | .tup xs=>xs.all el
 | _=>true
def zK{d:D}(h:cL d=true):nr d=true:=by cases d <;> first | rfl | cases h
def vP{x:D}:ub x .non=yl x:=by cases x <;> rfl
def beq_d{a b:Nat}:(a == b)=decide ((a:Int)=(b:Int)):=by
 by_cases h:a=b
 ·subst h;simp
 ·rw [Ex.mpr h,Eo (by omega)]
def ix0{S:aa}{a:D}{r:List D}:aK S (.tup (a::r)) (.int 0)=some a:=by
 rw [fIx_t,qB (by decide) (by simp only [DR];omega)];rfl
def gT{a b c:D}{S:aa}{x0 x1:Option D}:cb 3 (bw (aq 2) (bw (aq 3) (bw (aq 4) (dO)))) (.tup [a,b,c]) [x0,x1,none,none,none] S=some ([x0,x1,some a,some b,some c],S):=by simp
def qc{S:aa}{d:D}{n:Int}(h:cL d=true):cX [.int n,d] S=some (.bl (bF n d),S):=by
 rw [pL,bn (show [D.int n,d].length=2 from rfl),show aF dS [.int n,d]=[some (.int n),some d,none,none,none] from rfl]
 have gw:cB=.tup [.str "up",.str "down",.str "leave",.str "stop"]:=rfl
 have ww:iA=.tup [.str "read",.str "write"]:=rfl
 have g9:bP=.int 9:=rfl
 have tk:ie ([.str "tick"],S)=some (.tup [.str "tick"],S):=cA (by simp)
 cases d with
 | tup xs=>
  match xs,h with
  | [],h=>
   have t1:ah [.tup [],.int 1] S=some (.bl false,S):=ar rfl
   have t2:ah [.tup [],.int 2] S=some (.bl false,S):=ar rfl
   have t3:ah [.tup [],.int 3] S=some (.bl false,S):=ar rfl
   simp [cn,t1,t2,t3,bF]
  | [a],h=>
   have ha:el a=true:=by simpa [cL] using h
   have e1:=fE (S:=S) (ys:=[.str "tick"]) ha rfl
   have t1:ah [.tup [a],.int 1] S=some (.bl true,S):=ar rfl
   have x0:aK S (.tup [a]) (.int 0)=some a:=rfl
   simp only [cn,cG,jf,iZ,dg,bE,bu,oe,sI,vw,oj,ob,bv,bh,jh,cu,bg,dN,t1,jp,pY,cq,je,fC,fB,x0,lR,tk,e1,kR,rH,eV]
   cases a <;> first | rfl | rw [w1];rfl
  | [a,g],h=>
   have ha:el a=true/\el g=true:=by simpa [cL] using h
   have e1:=fE (S:=S) (ys:=[.str "up",.str "down",.str "leave",.str "stop"]) ha.1 rfl
   have e2:=dE (S:=S) (lo:=0) (hi:=n - 1) (gW ha.2)
   have t1:ah [.tup [a,g],.int 1] S=some (.bl false,S):=ar rfl
   have t2:ah [.tup [a,g],.int 2] S=some (.bl true,S):=ar rfl
   have x0:aK S (.tup [a,g]) (.int 0)=some a:=rfl
   have x1:aK S (.tup [a,g]) (.int 1)=some g:=rfl
   simp only [cn,gw,cG,jf,iZ,dg,bE,bu,oe,sI,vw,oj,ob,bv,bh,jh,cu,bg,dN,t1,t2,jp,pY,pZ,lT,cR,cq,fA,je,fC,fB,x0,e1]
   cases a with
   | str x=>rw [w2];cases hq:jO x == 2 <;> simp [e2,x1,hq,bF]
   | _=>simp [wB,bF]
  | [a,g,t],h=>
   have ha:el a=true/\el g=true/\el t=true:=by simpa [cL] using h
   have e1:=fE (S:=S) (ys:=[.str "read",.str "write"]) ha.1 rfl
   have e2:=dE (S:=S) (lo:=0) (hi:=n - 1) (gW ha.2.1)
   have e3:=dE (S:=S) (lo:=0) (hi:=9) (gW ha.2.2)
   have t1:ah [.tup [a,g,t],.int 1] S=some (.bl false,S):=ar rfl
   have t2:ah [.tup [a,g,t],.int 2] S=some (.bl false,S):=ar rfl
   have t3:ah [.tup [a,g,t],.int 3] S=some (.bl true,S):=ar rfl
   simp only [cn,ww,g9,cG,jf,iZ,lV,mn,dg,bE,bu,oe,sI,vw,oj,ob,bv,bh,jh,cu,bg,dN,t1,t2,t3,jp,Ge,pZ,lT,cR,gy,gC,gT,kS,cq,fA,e1]
   cases a with
   | str x=>rw [w3];cases hq:jO x == 3 <;> cases hg:ki 0 (n - 1) g <;> cases ht:yl t <;> simp [e2,e3,hq,hg,ht,vP,bF]
   | _=>simp [wB,bF]
  | a::g::t::u::r,h=>
   have t0:∀ k:Int,k<=3->ah [.tup (a::g::t::u::r),.int k] S=some (.bl false,S):=fun k hk=>by
    rw [ar rfl]
    have:¬ (((a::g::t::u::r).length:Int)=k):=by simp only [DR];omega
    simp only [Eo this]
   simp [cn,t0 1 (by decide),t0 2 (by decide),t0 3 (by decide),bF]
 | ref _=>cases h
 | _=>
  have t0:∀ k:Int,ah [_,.int k] S=some (.bl false,S):=fun k=>ar (zK h)
  simp [cn,t0,bF]
def r1:MS:=aA (cx (aP (ay ud (cw lh (ac 2) (ab (ay aK (ac 1) (mC (.int 0))) (ab (mC (.int 0)) (ae)))) (aL (ak dq) (ab (ac 1) (ae))))) (aZ (mC (.bl false))) (aO)) (aA (cx (cM (aP (ay fGt (aL (ak dq) (ab (ac 1) (ae))) (mC (.int 1)))) (bX (da (ag 3 aU (ab (ay aK (ac 1) (mC (.int 1))) (ab (mC (.int 0)) (ab (ay mz (ac 0) (mC (.int 1))) (ae)))))))) (aZ (mC (.bl false))) (aO)) (aZ (rl (ay Ai (aL (ak dq) (ab (ac 1) (ae))) (mC (.int 3))) (rl (ay Cw (ay aK (ac 1) (mC (.int 2))) (mC .non)) (ag 3 aU (ab (ay aK (ac 1) (mC (.int 2))) (ab (mC (.int 0)) (ab (mC (.int 9)) (ae)))))))))
def xy(x:Str):jO x<=3:=by
 unfold jO;repeat' split
 all_goals decide
def r1_ok{S:aa}{n:Int}{x:Str}{r:List D}(h:r.all el=true):r1 [some (.int n),some (.tup (.str x::r)),some (.dct (szL.map (·.1)) (szL.map (·.2)))] S=some (.rt (.bl (bF n (.tup (.str x::r)))) S):=by
 have x0:aK S (.tup (.str x::r)) (.int 0)=some (.str x):=ix0
 by_cases hq:(jO x:Int)=((r.length+1:Nat):Int)
 ·have hs:=xy x
  match r,h,hq with
  | [],h,hq => 
   have hz:jO x=1:=by simp only [EH] at hq;omega
   simp [r1,yH,x0,hz,bF]
  | [g],h,hq=>
   have hz:jO x=2:=by simp only [DR,EH] at hq;omega
   have e2:=dZ (S:=S) (lo:=0) (hi:=n - 1) (gW (show el g=true by simpa using h))
   have x1:aK S (.tup [.str x,g]) (.int 1)=some g:=rfl
   cases hg:ki 0 (n - 1) g <;> simp [r1,yH,x0,x1,e2,hg,hz,bF]
  | [g,t],h,hq=>
   have hz:jO x=3:=by simp only [DR,EH] at hq;omega
   have hl:el g=true/\el t=true:=by simpa using h
   have e2:=dZ (S:=S) (lo:=0) (hi:=n - 1) (gW hl.1)
   have e3:=dZ (S:=S) (lo:=0) (hi:=9) (gW hl.2)
   have x1:aK S (.tup [.str x,g,t]) (.int 1)=some g:=rfl
   have x2:aK S (.tup [.str x,g,t]) (.int 2)=some t:=rfl
   cases hg:ki 0 (n - 1) g <;> cases ht:yl t <;> simp [r1,yH,x0,x1,x2,e2,e3,hg,hz,ht,vP,bF]
  | g::t::u::r,h,hq=>simp only [DR] at hq;omega
 ·have hb:bF n (.tup (.str x::r))=false:=by
   match r,hq with
   | [],hq=>simp only [EH] at hq;simp [bF];omega
   | [g],hq=>simp [bF];intro z;rw [z] at hq;simp at hq
   | [g,t],hq=>simp [bF];intro z;rw [z] at hq;simp at hq
   | g::t::u::r,hq=>rfl
  have hl:ak dq [.tup (.str x::r)] S=some (.int ((r.length+1:Nat):Int),S):=wc
  have hn:ud S (.int (jO x:Int)) (.int ((r.length+1:Nat):Int))=some (.bl true):=by rw [Cr,Ex.mpr hq];rfl
  rw [hb]
  simp only [r1,cG,jf,rf,je,vj,bu,oe,sI,vw,oj,ob,bv,vC,bE,bh,fC,jh,fB,x0,cu,bg,vD,yH,iq,iw,hl,hn,rE,pY,cq,kR,rH]
def jm{S:aa}{d:D}{n:Int}(h:cL d=true):bi [.int n,d] S=some (.bl (bF n d),S):=by
 rw [hZ,bn (show [D.int n,d].length=2 from rfl),show aF bA [.int n,d]=[some (.int n),some d,none] from rfl]
 have kd:kT (szL,S)=some (.dct (szL.map (·.1)) (szL.map (·.2)),S):=vG (by decide +kernel) (by decide)
 have hm:eE=aA (cx (dI (bX (da (de "tuple" (ac 1)))) (dI (aP (ay sW (aL (ak dq) (ab (ac 1) (ae))) (mC (.int 0)))) (bX (da (de "str" (ay aK (ac 1) (mC (.int 0)))))))) (aZ (mC (.bl false))) (aO)) (aA (aw (dL [(mC (.str "read"),mC (.int 3)),(mC (.str "write"),mC (.int 3)),(mC (.str "up"),mC (.int 2)),(mC (.str "down"),mC (.int 2)),(mC (.str "leave"),mC (.int 2)),(mC (.str "stop"),mC (.int 2)),(mC (.str "tick"),mC (.int 1))]) (aq 2)) r1):=rfl
 rw [hm]
 simp only [cG,jf,vg,lV,iZ,gu,bu,oe,sI,vw,oj,ob,bv,gA,oE (zK h),jp,mn]
 cases d with
 | tup xs=>
  match xs,h with
  | [],h=>simp [js,bF]
  | a::r,h=>
   have ha:el a=true/\r.all el=true:=by simpa [cL] using h
   have hl:ak dq [.tup (a::r)] S=some (.int ((r.length+1:Nat):Int),S):=wc
   have he:sW S (.int ((r.length+1:Nat):Int)) (.int 0)=some (.bl false):=by rw [Cz,Ex.mpr (by omega)]
   have x0:aK S (.tup (a::r)) (.int 0)=some a:=ix0
   simp only [js,Ge,BR,vg,rf,je,iq,bE,bu,oe,sI,vw,oj,ob,bv,bh,cu,bg,iw,hl,fC,jh,fB,he,rE,lV,iZ,gu,x0,gA,oF (gW ha.1),jp,mn]
   cases a with
   | str x=>
    have kd':db [(mC (.str "read"),mC (.int 3)),(mC (.str "write"),mC (.int 3)),(mC (.str "up"),mC (.int 2)),(mC (.str "down"),mC (.int 2)),(mC (.str "leave"),mC (.int 2)),(mC (.str "stop"),mC (.int 2)),(mC (.str "tick"),mC (.int 1))] [some (.int n),some (.tup (.str x::r)),none] S=some (szL,S):=by
     simp [szL]
    simp only [jt,Ge,pZ,lT,cR,cG,gy,yt,kd',ob,kd,gC,dF,ls0,lsS,kS,r1_ok ha.2,eV]
   | txt=>cases ha.1
   | _=>simp [jt,bF]
 | ref _=>cases h
 | _=>simp [js,bF]
def okT(ks:List (Option ao)):Bool:=ks.all okK&&decide ((tupleText (ks.map xD)).length<=sizeLine)
def askN:∀ (wr:Bool) (g:_root_.Fin 9),okT [some (.inr (kn wr)),some (.inl ((g:Nat):Int)),none]=true:=by decide +kernel
def askS:∀ (wr:Bool) (g:_root_.Fin 9) (t:_root_.Fin 10),okT [some (.inr (kn wr)),some (.inl ((g:Nat):Int)),some (.inl ((t:Nat):Int))]=true:=by decide +kernel
def actT(k:Ak):∀ g:_root_.Fin 9,okT [some (.inr k.s),some (.inl ((g:Nat):Int))]=true:=by cases k <;> decide +kernel
structure Flt(ws:List D):Prop where
 el:ws.all el=true
 few:ws.length<=3
 str:∀ S,ak gR [.tup ws] S=some (.txt,S)
 key:∃ ks,ee ws=some ks
def my{ws:List D}{ks:List (Option ao)}(h:ws.all el=true)(hl:ws.length<=3)(hk:ee ws=some ks)(hz:okT ks=true):Flt ws:=by
 refine⟨h,hl,fun S=>?_,ks,hk⟩
 unfold okT at hz
 rw [Dz,ET] at hz
 show (gR S [.tup ws]).bind _=_
 have:gR S [.tup ws]=some .txt:=by
  show (ee ws).bind _=_
  rw [hk]
  exact DU hz
 rw [this];rfl
def wR{dd:Dd}{m:Nat}(h:dd.Ok m)(hm:m<=9):∃ ws,dd.d=.tup ws/\Flt ws:=by
 cases dd with
 | ask wr g t=>
  obtain⟨hg,ht⟩:=h
  cases t with
  | none=>exact⟨_,rfl,my (by simp [el,oh]) (by simp) rfl (askN wr ⟨g,by omega⟩)⟩
  | some k=>
   obtain⟨h0,h9⟩:=ht k rfl
   obtain⟨j,rfl⟩:∃ j:Nat,k=(j:Int):=⟨k.toNat,by omega⟩
   exact⟨_,rfl,my (by simp [el,oh]) (by simp) rfl (askS wr ⟨g,by omega⟩ ⟨j,by omega⟩)⟩
 | act k g=>
  have hg:g<m:=h
  exact⟨_,rfl,my (by simp [el]) (by simp) rfl (actT k ⟨g,by omega⟩)⟩
 | tick=>exact⟨_,rfl,my (by simp [el]) (by simp) (ks:=[some (.inr "tick")]) rfl (by decide +kernel)⟩
def bWords:List D:=[.str "read",.str "write",.str "up",.str "down",.str "leave",.str "stop",.str "tick",.str "reads",.str "",.str "Read",.str "ticks"]
def Dm(n:Int):List D:=[.int n,.int (-1),.int (n - 1),.bl true,.bl false,.non,.str "0",.tup [.int 0],.lst [.int 0],.int p30,.int 9,.int 10]
def bQ{p:D->Bool}{xs ys:List D}(h:xs.all p=true)(h':ys.all p=true):(xs++ys).all p=true:=by rw [List.all_append,h,h'];rfl
def B1(ws:List D)(x w:D):List D:=[.lst ws,.tup (ws++[.non]),.tup (ws++[x]),.tup (aN ws none (some (-1))),.tup (aN ws none (some 1)),.tup [.tup ws],.tup ([w]++aN ws (some 1) none)]
def B2(ws:List D)(x:D):List D:=[.tup (aN ws none (some 1)++[x]++aN ws (some 2) none),.tup (aN ws none (some 2)++[x]),.tup (aN ws (some 1) none),.tup ([x]++aN ws (some 1) none)]
def B3(ws:List D)(y:D):List D:=[.tup (aN ws none (some 2)++[y]),.tup (aN ws none (some 2)),.txt,.obj]
def bent{S:aa}{r:Nat}{n:Int}{ws:List D}(P:Pk S r)(F:Flt ws):∃ d S',bm [.ref r,.int n,.tup ws] S=some (d,S')/\cL d=true/\Pk S' r:=by
 rw [lQ,bn (show [D.ref r,D.int n,D.tup ws].length=3 from rfl),show aF cF [D.ref r,D.int n,D.tup ws]=[some (.ref r),some (.int n),some (.tup ws),none,none,none,none,none] from rfl]
 obtain⟨q1,S1,e1,l1,g1,P1,_,_⟩:=gt _ _ 11 P (by decide) (by decide)
 obtain⟨w,i1,ow⟩:=iC (show bWords.all el=true by decide +kernel) l1 (show q1<(bWords.length:Nat) from g1)
 obtain⟨q2,S2,e2,l2,g2,P2,_,_⟩:=gt _ _ 12 P1 (by decide) (by decide)
 obtain⟨x,i2,ox⟩:=iC (xs:=Dm n) (p:=el) rfl l2 (show q2<((Dm n).length:Nat) from g2)
 obtain⟨q3,S3,e3,l3,g3,P3,_,_⟩:=gt _ _ 3 P2 (by decide) (by decide)
 obtain⟨y,i3,oy⟩:=iC (xs:=[.non,.int 0,.int 9]) (p:=el) rfl l3 (show q3<((3:Nat):Int) from g3)
 obtain⟨q4,S4,e4,l4,g4,P4,_,_⟩:=gt _ _ 15 P3 (by decide) (by decide)
 have hl:=F.few
 have n1:=gk (xs:=ws) (l:=none) (h:=some 1)
 have n2:=gk (xs:=ws) (l:=none) (h:=some 2)
 have n3:=gk (xs:=ws) (l:=some 1) (h:=none)
 have n4:=gk (xs:=ws) (l:=some 2) (h:=none)
 have c0:=eN (l:=none) (h:=some (-1)) F.el
 have c1:=eN (l:=none) (h:=some 1) F.el
 have c2:=eN (l:=none) (h:=some 2) F.el
 have c3:=eN (l:=some 1) (h:=none) F.el
 have c4:=eN (l:=some 2) (h:=none) F.el
 have kw:∀ S,ed ([D.str "read",.str "write",.str "up",.str "down",.str "leave",.str "stop",.str "tick",.str "reads",.str "",.str "Read",.str "ticks"],S)=some (.lst bWords,S):=fun S=>aT (by simp)
 have ko:∀ S,ed ([D.int n,.int (-1),.int (n - 1),.bl true,.bl false,.non,.str "0",.tup [.int 0],.lst [.int 0],.int p30,.int 9,.int 10],S)=some (.lst (Dm n),S):=fun S=>aT (by simp)
 have t1:∀ S d,ie ([d],S)=some (.tup [d],S):=fun S d=>cA (by simp)
 have k1:∀ S (a:D),ed ([a],S)=some (.lst [a],S):=fun S a=>aT (by simp)
 have k3:∀ S (a b c:D),ed ([a,b,c],S)=some (.lst [a,b,c],S):=fun S a b c=>aT (by simp)
 have k4:∀ S (a b c d:D),ed ([a,b,c,d],S)=some (.lst [a,b,c,d],S):=fun S a b c d=>aT (by simp)
 have k7:∀ S (a b c d e f g:D),ed ([a,b,c,d,e,f,g],S)=some (.lst [a,b,c,d,e,f,g],S):=fun S a b c d e f g=>aT (by simp)
 have a1:∀ S (d:D),aE S (.tup ws) (.tup [d])=some (.tup (ws++[d])):=fun S d=>jB (by simp;omega)
 have a2:∀ S (d:D),aE S (.tup [d]) (.tup (aN ws (some 1) none))=some (.tup ([d]++aN ws (some 1) none)):=fun S d=>jB (by simp;omega)
 have a3:∀ S (d:D),aE S (.tup (aN ws none (some 1))) (.tup [d])=some (.tup (aN ws none (some 1)++[d])):=fun S d=>jB (by simp;omega)
 have a4:∀ S (d:D),aE S (.tup (aN ws none (some 1)++[d])) (.tup (aN ws (some 2) none))=some (.tup (aN ws none (some 1)++[d]++aN ws (some 2) none)):=fun S d=>jB (by simp;omega)
 have a5:∀ S (d:D),aE S (.tup (aN ws none (some 2))) (.tup [d])=some (.tup (aN ws none (some 2)++[d])):=fun S d=>jB (by simp;omega)
 have kb1:∀ S,ed ([.lst ws,.tup (ws++[.non]),.tup (ws++[x]),.tup (aN ws none (some (-1))),.tup (aN ws none (some 1)),.tup [.tup ws],.tup ([w]++aN ws (some 1) none)],S)=some (.lst (B1 ws x w),S):=fun S=>aT (by simp)
 have kb2:∀ S,ed ([.tup (aN ws none (some 1)++[x]++aN ws (some 2) none),.tup (aN ws none (some 2)++[x]),.tup (aN ws (some 1) none),.tup ([x]++aN ws (some 1) none)],S)=some (.lst (B2 ws x),S):=fun S=>aT (by simp)
 have kb3:∀ S,ed ([.tup (aN ws none (some 2)++[y]),.tup (aN ws none (some 2)),.txt,.obj],S)=some (.lst (B3 ws y),S):=fun S=>aT (by simp)
 have ky:∀ S,ed ([.non,.int 0,.int 9],S)=some (.lst [.non,.int 0,.int 9],S):=fun S=>aT (by simp)
 have s1:∀ S,aE S (.lst (B1 ws x w)) (.lst (B2 ws x))=some (.lst (B1 ws x w++B2 ws x)):=fun S=>mF (by simp [B1,B2])
 have s2:∀ S,aE S (.lst (B1 ws x w++B2 ws x)) (.lst (B3 ws y))=some (.lst (B1 ws x w++B2 ws x++B3 ws y)):=fun S=>mF (by simp [B1,B2,B3])
 obtain⟨ks,hk⟩:=F.key
 have kd:∀ S,BX (.tup ws) (.bl true,S)=some (.obj,S):=fun S=>by show (ee ws).bind _=_;rw [hk];rfl
 have hb:(B1 ws x w++B2 ws x++B3 ws y).all cL=true:=by
  refine bQ (bQ ?_ ?_) ?_
  ·simp only [B1,Ea,FJ,Fj,Dz]
   exact⟨rfl,bQ F.el rfl,bQ F.el (by simp [ox]),c0,c1,rfl,bQ (by simp [ow]) c3⟩
  ·simp only [B2,Ea,FJ,Fj,Dz]
   exact⟨bQ (bQ c1 (by simp [ox])) c4,bQ c2 (by simp [ox]),c3,bQ (by simp [ox]) c3⟩
  ·simp only [B3,Ea,FJ,Fj,Dz]
   exact⟨bQ c2 (by simp [oy]),c2,rfl,rfl⟩
 obtain⟨d,i4,od⟩:=iC hb l4 (show q4<(((B1 ws x w++B2 ws x++B3 ws y).length:Nat):Int) from g4)
 refine⟨d,S4,?_,od,P4⟩
 simp only [gH,cG,gy,pS,bE,jh,ob,bh,cu,bg,kw,gC,dF,ls0,lsS,kS,cR,bu,oe,sI,vw,oj,bv,mUn_s,kUn_s,Cq,je,fC,fB,Cp,lR,t1,k1,pow30,ko,Bw,dg,dN,e1,e2,fIx_l,i1,i2,BQ,
  iq,iw,yK,a1,a2,a3,a4,a5,vd,BN,ve,BL,yq,yx,BK,kb1,kb2,s1,ky,e3,i3,F.str,vp,BY,kd,kb3,s2,cq,e4,i4,kR,eV]
def deed{S:aa}{r m:Nat}(P:Pk S r)(h1:1<=m)(h9:m<=9):∃ ws S',aV [.ref r,.int (m:Int)] S=some (.tup ws,S')/\Flt ws/\Pk S' r:=by
 obtain⟨dd,S',e,hd,P',_⟩:=wQ gt (N:=cE) rfl P h1 h9
 obtain⟨ws,hw,F⟩:=wR hd h9
 rw [hw] at e
 exact⟨ws,S',by rw [lP];exact e,F,P'⟩
def uX{S:aa}{k:Nat}(hk:k<=100):∃ d,aJ [.tup [.str "up",.int 0],.int (k:Int)] S=some (d,S)/\cL d=true:=by
 rw [iW,bn (show [D.tup [.str "up",.int 0],D.int (k:Int)].length=2 from rfl),show aF bO [D.tup [.str "up",.int 0],D.int (k:Int)]=[some (.tup [.str "up",.int 0]),some (.int (k:Int)),none] from rfl]
 have k1:kR1 ([.int (k:Int)],S)=some (aW 0 (k:Int).toNat,S):=mm (by omega) (by omega)
 have t2:∀ a b,ie ([a,b],S)=some (.tup [a,b],S):=fun a b=>cA (by simp)
 obtain⟨env',S',e,rfl,d,o,rfl,h1,h2⟩:=gc (tg:=aq 2) (p:=aw (aX (ab (ac 0) (ab (mC (.int 0)) (ae)))) (aq 0)) (fun env T=>T=S/\∃ d o,env=[some d,some (.int (k:Int)),o]/\el d=true/\cL d=true) (aW 0 (k:Int).toNat) (fun z hz env T hI=>by
  obtain⟨rfl,d,o,rfl,h1,h2⟩:=hI
  refine⟨_,_,_,_,dF,?_,rfl,.tup [d,.int 0],some z,rfl,rfl,by show [d,D.int 0].all el=true;rw [Ea,h1];rfl⟩
  simp [t2]) [some (.tup [.str "up",.int 0]),some (.int (k:Int)),none] S ⟨rfl,_,_,rfl,rfl,rfl⟩
 refine⟨d,?_,h2⟩
 simp only [fi,cG,lY,eW,bE,bu,oe,sI,vw,oj,ob,bv,bh,cu,bg,k1,mw,e,cR,cq,kR,eV]
def t12:MS:=aA (aw (ag 2 aV (ab (ac 2) (ab (ac 3) (ae)))) (aq 6)) (aw (ay aE (ac 4) (bZ (ab (ac 6) (ab (ag 3 bm (ab (ac 2) (ab (ac 3) (ab (ac 6) (ae))))) (ab (ag 3 bm (ab (ac 2) (ab (ac 3) (ab (ag 2 aV (ab (ac 2) (ab (mC (.int 9)) (ae)))) (ae))))) (ae)))))) (aq 4))
def chk:MS:=aA (aw (ag 2 cX (ab (ac 3) (ab (ac 7) (ae)))) (aq 8)) (cx (dI (bX (da (de "bool" (ac 8)))) (aP (ay ud (ac 8) (ag 2 bi (ab (ac 3) (ab (ac 7) (ae))))))) (aZ (mC (.bl false))) (aO))
def po:ME:=bZ (ab (mC .non) (ab (mC (.bl true)) (ab (mC (.int 0)) (ab (mC (.str "")) (ab (mC (.str "tick")) (ab (mC (.str "read")) (ab (aX (ae)) (ab (bZ (ae)) (ab (mC (.dct [] [])) (ab (aX (ab (mC (.str "tick")) (ae))) (ab (bZ (ab (mC (.str "tick")) (ae))) (ab (aX (ab (aX (ab (mC (.str "tick")) (ae))) (ae))) (ab (aX (ab (mC .non) (ab (mC (.int 0)) (ae)))) (ab (aX (ab (mC (.int 0)) (ab (mC (.str "up")) (ae)))) (ae)))))))))))))))
def turn:MS:=aA (aw (ag 2 bY (ab (ac 0) (ab (ac 1) (ae)))) (aq 2)) (aA (aw (ay aE (mC (.int 1)) (ag 2 aC (ab (ac 2) (ab (mC (.int 5)) (ae))))) (aq 3)) (aA (aw po (aq 4)) (aA (aw (ay aE (ac 4) (cC (fU (aX (ab (mC (.int 1)) (ab (mC (.int 59)) (ae))))) (aq 0) (du) (ag 2 aJ (ab (aX (ab (mC (.str "up")) (ab (mC (.int 0)) (ae)))) (ab (ac 0) (ae)))) [none])) (aq 4)) (aA (em (aS (ab (mC (.int 12)) (ae))) (aq 5) t12) (dw (ac 4) (aq 7) chk)))))
def zP:List D:=[.non,.bl true,.int 0,.str "",.str "tick",.str "read",.tup [],.lst [],.dct [] [],.tup [.str "tick"],.lst [.str "tick"],.tup [.tup [.str "tick"]],.tup [.non,.int 0],.tup [.int 0,.str "up"]]
def so{S:aa}{env:ai}:po env S=some (.lst zP,S):=by
 have k1:ed ([.non,.bl true,.int 0,.str "",.str "tick",.str "read",.tup [],.lst [],.dct [] [],.tup [.str "tick"],.lst [.str "tick"],.tup [.tup [.str "tick"]],.tup [.non,.int 0],.tup [.int 0,.str "up"]],S)=some (.lst zP,S):=aT (by simp)
 have t0:ie ([],S)=some (.tup [],S):=cA (by simp)
 have l0:ed ([],S)=some (.lst [],S):=aT (by simp)
 have l1:∀ d,ed ([d],S)=some (.lst [d],S):=fun d=>aT (by simp)
 have t1:∀ d,ie ([d],S)=some (.tup [d],S):=fun d=>cA (by simp)
 have t2:∀ a b,ie ([a,b],S)=some (.tup [a,b],S):=fun a b=>cA (by simp)
 simp only [po,pS,bE,jh,ob,bh,lR,cu,t0,l0,t1,t2,bg,l1,k1]
def loopC{S:aa}{a0 a1 a2 a4 a5 a6 a7 a8:Option D}{n:Int}{xs:List D}(hx:xs.all cL=true):∃ b7 b8,bd (aq 7) chk xs [a0,a1,a2,some (.int n),a4,a5,a6,a7,a8] S=some (.nx [a0,a1,a2,some (.int n),a4,a5,a6,b7,b8] S):=by
 obtain⟨env',S',e,rfl,b7,b8,rfl⟩:=gc (tg:=aq 7) (p:=chk) (fun env T=>T=S/\∃ b7 b8,env=[a0,a1,a2,some (.int n),a4,a5,a6,b7,b8]) xs (fun d hd env T hI=>by
  obtain⟨rfl,b7,b8,rfl⟩:=hI
  have hd:=Ec.mp hx d hd
  refine⟨_,_,_,_,dF,?_,rfl,some d,some (.bl (bF n d)),rfl⟩
  simp [chk,qc hd,jm hd,gD (d:=.bl (bF n d)) rfl,iy,Cs]) _ S ⟨rfl,a7,a8,rfl⟩
 exact⟨b7,b8,e⟩
def AF{S:aa}{r n:Nat}{xs:List D}{a0 a1 a5 a6 a7 a8:Option D}(P:Pk S r)(h1:1<=n)(h5:n<=5)(hx:xs.all cL=true)(hl:xs.length<=900) :
  ∃ b6 ys S',t12 [a0,a1,some (.ref r),some (.int (n:Int)),some (.lst xs),a5,a6,a7,a8] S=some (.nx [a0,a1,some (.ref r),some (.int (n:Int)),some (.lst ys),a5,b6,a7,a8] S')/\ys.all cL=true/\ys.length=xs.length+3/\Pk S' r:=by
 obtain⟨ws,S1,e1,F1,P1⟩:=deed P h1 (by omega)
 obtain⟨d1,S2,e2,o1,P2⟩:=bent (n:=(n:Int)) P1 F1
 obtain⟨ws2,S3,e3,F2,P3⟩:=deed (m:=9) P2 (by decide) (by decide)
 obtain⟨d2,S4,e4,o2,P4⟩:=bent (n:=(n:Int)) P3 F2
 have k3:ed ([.tup ws,d1,d2],S4)=some (.lst [.tup ws,d1,d2],S4):=aT (by simp)
 have ad:aE S4 (.lst xs) (.lst [.tup ws,d1,d2])=some (.lst (xs++[.tup ws,d1,d2])):=mF (by simp;omega)
 refine⟨some (.tup ws),xs++[.tup ws,d1,d2],S4,?_,bQ hx (by rw [Ea,Ea,Ea,o1,o2,show cL (.tup ws)=true from F1.el];rfl),by simp,P4⟩
 simp only [t12,cG,gy,dg,bE,bu,oe,sI,vw,oj,ob,bv,bh,cu,bg,dN,vL,e1,gC,dF,ls0,lsS,kS,cR,je,fC,pS,e2,jh,show aV [.ref r,.int 9] S2=some (.tup ws2,S3) from e3,e4,k3,fB,ad]
def xr{S:aa}{ns:List Int}{k:Int}{a2 a3 a4 a5 a6 a7 a8:Option D}(h0:0<=k)(h1:k<=100000) :
  ∃ b2 b3 b4 b5 b6 b7 b8 S',turn [some (.rol (ns.map .int)),some (.int k),a2,a3,a4,a5,a6,a7,a8] S=some (.nx [some (.rol (ns.map .int)),some (.int k),b2,b3,b4,b5,b6,b7,b8] S'):=by
 obtain⟨p,q,e1,p0,q0,q1⟩:=left (S:=S) (ns:=ns) h0 h1
 obtain⟨m,S2,e2,m0,m5,P2,_,_⟩:=gt _ _ 5 (Dt (S:=S) (c:=0) p0 q0 q1) (by decide) (by decide)
 obtain⟨n,hn⟩:∃ n:Nat,1+m=(n:Int):=⟨(1+m).toNat,by omega⟩
 obtain⟨d1,n1,o1⟩:=uX (S:=S2) (k:=1) (by decide)
 obtain⟨d2,n2,o2⟩:=uX (S:=S2) (k:=59) (by decide)
 have t2:∀ a b,ie ([a,b],S2)=some (.tup [a,b],S2):=fun a b=>cA (by simp)
 have kc:∀ env,vJ (aq 0) du (ag 2 aJ (ab (aX (ab (mC (.str "up")) (ab (mC (.int 0)) (ae)))) (ab (ac 0) (ae)))) [none] env ([.int 1,.int 59],S2)=some (.lst [d1,d2],S2):=fun env=>by
  rw [vI (by simp),show xb [none] env=[none] from rfl]
  simp [nZ,t2,show aJ [.tup [.str "up",.int 0],.int 1] S2=some (d1,S2) from n1,show aJ [.tup [.str "up",.int 0],.int 59] S2=some (d2,S2) from n2]
 have a1:aE S2 (.lst zP) (.lst [d1,d2])=some (.lst (zP++[d1,d2])):=mF (by simp [zP])
 have k12:kR1 ([.int 12],S2)=some (aW 0 12,S2):=mm (by decide) (by decide)
 obtain⟨env',S3,e3,b5,b6,ys,rfl,P3,h3,h4⟩:=forR (tg:=aq 5) (p:=t12) (lo:=0) (fun i env T=>∃ b5 b6 ys,env=[some (.rol (ns.map .int)),some (.int k),some (.ref S.length),some (.int (n:Int)),some (.lst ys),b5,b6,a7,a8]/\Pk T S.length/\ys.all cL=true/\ys.length=16+3 * i) 12
  (fun i hi env T hI=>by
   obtain⟨b5,b6,ys,rfl,P,hy,hl⟩:=hI
   obtain⟨c6,zs,T',e,hz,hl',P'⟩:=AF (a0:=some (.rol (ns.map .int))) (a1:=some (.int k)) (a5:=some (.int (0+(i:Int)))) (a6:=b6) (a7:=a7) (a8:=a8) P (show 1<=n by omega) (by omega) hy (by omega)
   exact⟨_,_,_,_,dF,e,_,_,zs,rfl,P',hz,by omega⟩)
  [some (.rol (ns.map .int)),some (.int k),some (.ref S.length),some (.int (n:Int)),some (.lst (zP++[d1,d2])),a5,a6,a7,a8] S2 ⟨a5,a6,zP++[d1,d2],rfl,P2,bQ (by decide +kernel) (by simp [o1,o2]),by simp [zP]⟩
 obtain⟨b7,b8,f1⟩:=loopC (S:=S3) (a0:=some (.rol (ns.map .int))) (a1:=some (.int k)) (a2:=some (.ref S.length)) (a4:=some (.lst ys)) (a5:=b5) (a6:=b6) (a7:=a7) (a8:=a8) (n:=(n:Int)) h3
 refine⟨some (.ref S.length),some (.int (n:Int)),some (.lst ys),b5,b6,b7,b8,S3,?_⟩
 simp only [turn,cG,gy,dg,bE,bu,oe,sI,vw,oj,ob,bv,bh,cu,bg,dN,e1,gC,dF,ls0,lsS,kS,cR,je,jh,fC,e2,fB,CA,hn,so,yu,BA,lR,t2,BV,kc,a1,lY,eW,k12,mw,e3,yr,yA,f1]
def vx:∀ ns:List Int,ns.length<=63->∃ S',oC [.rol (ns.map .int)] []=some (.bl true,S'):=fun ns hl=>by
 rw [Bv,bn (show [D.rol (ns.map .int)].length=1 from rfl),show aF oZ [D.rol (ns.map .int)]=[some (.rol (ns.map .int)),none,none,none,none,none,none,none,none] from rfl]
 have hm:zU=aA (em (aS (ab (aL (ak gd) (ab (mC (.int 3)) (ab (aL (ak oD) (ab (aL (ak dq) (ab (ac 0) (ae))) (ab (mC (.int 8)) (ae)))) (ae)))) (ae))) (aq 1) turn) (aZ (mC (.bl true))):=rfl
 rw [hm]
 generalize hk:(if (if (8:Int)<(ns.length:Int) then (8:Int) else (ns.length:Int))>3 then (if (8:Int)<(ns.length:Int) then (8:Int) else (ns.length:Int)) else (3:Int))=k
 have hk':0<=k/\k<=26:=by rw [<- hk];split <;> (try split) <;> omega
 have k1:kR1 ([.int k],[])=some (aW 0 k.toNat,[]):=mm (by omega) (by omega)
 obtain⟨env',S',e,a1,a2,a3,a4,a5,a6,a7,a8,rfl⟩:=gc (tg:=aq 1) (p:=turn) (fun env _=>∃ a1 a2 a3 a4 a5 a6 a7 a8,env=[some (.rol (ns.map .int)),a1,a2,a3,a4,a5,a6,a7,a8]) (aW 0 k.toNat) (fun d hd env S hI=>by
  obtain⟨a1,a2,a3,a4,a5,a6,a7,a8,rfl⟩:=hI
  obtain⟨i,hi,rfl⟩:=pJ hd
  obtain⟨b2,b3,b4,b5,b6,b7,b8,S2,e⟩:=xr (S:=S) (ns:=ns) (k:=0+(i:Int)) (a2:=a2) (a3:=a3) (a4:=a4) (a5:=a5) (a6:=a6) (a7:=a7) (a8:=a8) (by omega) (by omega)
  exact⟨_,_,_,_,dF,e,_,_,_,_,_,_,_,_,rfl⟩) [some (.rol (ns.map .int)),none,none,none,none,none,none,none,none] [] ⟨_,_,_,_,_,_,_,_,rfl⟩
 refine⟨S',?_⟩
 simp only [cG,lY,eW,bE,jh,ob,iq,bh,bu,oe,oj,bv,cu,bg,iw,Cu,yL,yM,EI,hk,k1,mw,e,cR,cq,kR,eV]
end K11
end
namespace K11
def c0:Stmt:=jN 0
def c5:Stmt:=jN 5
def c6:Stmt:=jN 6
def c7:Stmt:=jN 7
def c8:Stmt:=jN 8
def c10:Stmt:=jN 10
def pw2:Program:={ PySem.Challenge.pw_manyreaders_k11_deeds_or_none with main:={ PySem.Challenge.pw_manyreaders_k11_deeds_or_none.main with body:=[c0,ci,bC,cU,bq,c5,c6,c7,c8,cV,c10,bf,bU,cj,bT,bV,bD,be,bW,bt,kA] } }
def lw:W.OpenLaw:={ PySem.Challenge.rw_manyreaders_k11_deeds_or_none with prog:=pw2 }
def lw_eq:PySem.Challenge.rw_manyreaders_k11_deeds_or_none=lw:=by kernel_rfl
end K11
namespace K11
open L2 MI M
def kf0(P:Params):W.Frag:=[(3,⟨.type "dict",none,.dict #[kE P "__name__" 165 (.str "law_manyreaders_k11_deeds_or_none" 244),kE P "__doc__" 166 .none,kE P "__package__" 167 .none,kE P "__loader__" 168 (.builtin "__main__.__loader__#opaque"),kE P "__spec__" 169 .none,kE P "__annotations__" 170 (.ref 6),kE P "__builtins__" 171 (.ref 4),kE P "__file__" 173 (.str "/claim/cut.py" 172),kE P "__cached__" 174 .none,kE P "is_whole" 195 (.ref 21),kE P "is_between" 204 (.ref 28),kE P "is_word" 212 (.ref 35),kE P "is_tuple_of" 220 (.ref 42),kE P "WANTS" 223 (.ref 43),kE P "GREATEST_LEFT" 225 (.int 9 224),kE P "GUEST_WORDS" 232 (.ref 44),kE P "is_deed" 243 (.ref 51),kE P "_law_cell_at" 253 (.ref 58),kE P "_law_left" 263 (.ref 65),kE P "_law_far" 271 (.ref 72),kE P "_law_pick" 280 (.ref 79),kE P "_law_deed" 290 (.ref 86),kE P "_law_whole" 299 (.ref 93),kE P "_law_is_deed" 308 (.ref 100),kE P "_law_bent" 322 (.ref 107),kE P "_law_nested" 331 (.ref 114),kE P "law" 337 (.ref 119)] 27,#[]⟩),(20,kC "is_whole" 189 2 1 15 16 (.ref 17) (.ref 18) 19 193),(21,kF "is_whole" ci "manyreaders.kinds" 187 20),(27,kC "is_between" 196 4 3 22 23 (.ref 24) (.ref 25) 26 202),(28,kF "is_between" bC "manyreaders.kinds" 187 27),(34,kC "is_word" 205 6 2 29 30 (.ref 31) (.ref 32) 33 210),(35,kF "is_word" cU "manyreaders.kinds" 187 34),(41,kC "is_tuple_of" 213 8 2 36 37 (.ref 38) (.ref 39) 40 218)]
def kf1(P:Params):W.Frag:=[(42,kF "is_tuple_of" bq "manyreaders.kinds" 187 41),(43,⟨.type "tuple",none,.seq #[.str "read" 221,.str "write" 222] 0,#[]⟩),(44,⟨.type "tuple",none,.seq #[.str "up" 228,.str "down" 229,.str "leave" 230,.str "stop" 231] 0,#[]⟩),(50,kC "is_deed" 233 14 2 45 46 (.ref 47) (.ref 48) 49 241),(51,kF "is_deed" cV "manyreaders.deeds" 226 50),(57,kC "_law_cell_at" 246 24 2 52 53 (.ref 54) (.ref 55) 56 251),(58,kF "_law_cell_at" bf "law_manyreaders_k11_deeds_or_none" 244 57),(64,kC "_law_left" 254 28 2 59 60 (.ref 61) (.ref 62) 63 261)]
def kf2(P:Params):W.Frag:=[(65,kF "_law_left" bU "law_manyreaders_k11_deeds_or_none" 244 64),(71,kC "_law_far" 264 35 0 66 67 (.ref 68) (.ref 69) 70 269),(72,kF "_law_far" cj "law_manyreaders_k11_deeds_or_none" 244 71),(78,kC "_law_pick" 272 40 2 73 74 (.ref 75) (.ref 76) 77 278),(79,kF "_law_pick" bT "law_manyreaders_k11_deeds_or_none" 244 78),(85,kC "_law_deed" 281 48 2 80 81 (.ref 82) (.ref 83) 84 288),(86,kF "_law_deed" bV "law_manyreaders_k11_deeds_or_none" 244 85),(92,kC "_law_whole" 291 56 3 87 88 (.ref 89) (.ref 90) 91 297)]
def kf3(P:Params):W.Frag:=[(93,kF "_law_whole" bD "law_manyreaders_k11_deeds_or_none" 244 92),(99,kC "_law_is_deed" 300 58 2 94 95 (.ref 96) (.ref 97) 98 306),(100,kF "_law_is_deed" be "law_manyreaders_k11_deeds_or_none" 244 99),(106,kC "_law_bent" 309 67 3 101 102 (.ref 103) (.ref 104) 105 320),(107,kF "_law_bent" bW "law_manyreaders_k11_deeds_or_none" 244 106),(113,kC "_law_nested" 323 75 2 108 109 (.ref 110) (.ref 111) 112 329),(114,kF "_law_nested" bt "law_manyreaders_k11_deeds_or_none" 244 113),(118,kC "law" 332 79 1 115 116 .none .none 117 335)]
def kf4(P:Params):W.Frag:=[(119,kF "law" kA "law_manyreaders_k11_deeds_or_none" 244 118)]
def gI(P:Params):W.Frag:=((kf0 P)++(kf1 P))++((kf2 P)++((kf3 P)++(kf4 P)))
def kads:List Addr:=[3,20,21,27,28,34,35,41,42,43,44,50,51,57,58,64,65,71,72,78,79,85,86,92,93,99,100,106,107,113,114,118,119]
def txt{w:World}{h:Heap}{mg:Str->Option Value}(X:(gI w.params).In h)(G:h.Ns mainGlobals mg):mW w (gI w.params) mg:=
 ⟨fI X G "law_manyreaders_k11_deeds_or_none" 58 244 57 (by kernel_rfl),fI X G "law_manyreaders_k11_deeds_or_none" 72 244 71 (by kernel_rfl),fI X G "law_manyreaders_k11_deeds_or_none" 65 244 64 (by kernel_rfl),fI X G "law_manyreaders_k11_deeds_or_none" 79 244 78 (by kernel_rfl),fI X G "law_manyreaders_k11_deeds_or_none" 86 244 85 (by kernel_rfl),fI X G "manyreaders.kinds" 42 187 41 (by kernel_rfl),fI X G "manyreaders.kinds" 35 187 34 (by kernel_rfl),fI X G "manyreaders.kinds" 21 187 20 (by kernel_rfl),fI X G "manyreaders.kinds" 28 187 27 (by kernel_rfl),fI X G "manyreaders.deeds" 51 226 50 (by kernel_rfl),fI X G "law_manyreaders_k11_deeds_or_none" 114 244 113 (by kernel_rfl),fI X G "law_manyreaders_k11_deeds_or_none" 107 244 106 (by kernel_rfl),fI X G "law_manyreaders_k11_deeds_or_none" 93 244 92 (by kernel_rfl),fI X G "law_manyreaders_k11_deeds_or_none" 100 244 99 (by kernel_rfl),fI X G "law_manyreaders_k11_deeds_or_none" 119 244 118 (by kernel_rfl),EE X G (by kernel_rfl),EE X G (by kernel_rfl),EE X G (by kernel_rfl),EE X G (by kernel_rfl),EE X G (by kernel_rfl),EE X G (by kernel_rfl),EE X G (by kernel_rfl),EE X G (by kernel_rfl),EE X G (by kernel_rfl),EE X G (by kernel_rfl),⟨_,V.int 9,W.mg_of X G (show W.nsIn (gI w.params) mainGlobals "GREATEST_LEFT" = some (some (.int 9 224)) by kernel_rfl),⟨_,rfl⟩,fun μ H=>.int _⟩,⟨_,.ref 44,W.mg_of X G (show W.nsIn (gI w.params) mainGlobals "GUEST_WORDS" = some (some (.ref 44)) by kernel_rfl),rfl,fun μ H=>.ktup (vs:=[V.str "up",V.str "down",V.str "leave",V.str "stop"]) ⟨_,_,_,(show (gI w.params).lookup 44=some ⟨.type "tuple",none,.seq #[.str "up" 228,.str "down" 229,.str "leave" 230,.str "stop" 231] 0,#[]⟩ by kernel_rfl),rfl,rfl,rfl,(show 4<=sizeLine by decide),.cons ⟨_,rfl⟩ (.cons ⟨_,rfl⟩ (.cons ⟨_,rfl⟩ (.cons ⟨_,rfl⟩ (.nil))))⟩ (.cons (.str _) (.cons (.str _) (.cons (.str _) (.cons (.str _) (.nil)))))⟩,⟨_,.ref 43,W.mg_of X G (show W.nsIn (gI w.params) mainGlobals "WANTS" = some (some (.ref 43)) by kernel_rfl),rfl,fun μ H=>.ktup (vs:=[V.str "read",V.str "write"]) ⟨_,_,_,(show (gI w.params).lookup 43=some ⟨.type "tuple",none,.seq #[.str "read" 221,.str "write" 222] 0,#[]⟩ by kernel_rfl),rfl,rfl,rfl,(show 2<=sizeLine by decide),.cons ⟨_,rfl⟩ (.cons ⟨_,rfl⟩ (.nil))⟩ (.cons (.str _) (.cons (.str _) (.nil)))⟩⟩
end K11
open PySem.W
set_option maxRecDepth 100000 in
set_option maxHeartbeats 0 in
theorem PySem.Challenge.cw_manyreaders_k11_deeds_or_none_holds : PySem.Challenge.rw_manyreaders_k11_deeds_or_none.Holds := by
 rw [K11.lw_eq];w_on;o_law;o_head (kHook K11.gI K11.kads (fun _=>by kernel_rfl));(case hw=>w_witness2)
 exact K11.walk (l:=K11.lw) rfl rfl rfl (fun w h Y=>PySem.W.kIn_of Y) K11.vx fun w mg h KX G=>K11.txt KX G

end
