import PyProof.Rows.All
import Wide.All
import OpenK.AllK
import Wide.FinOn
import Lean
import PyProof.EqAt
import PyProof.EqKinds
import PyProof.TupleCall
import PySem.Challenge.RW_manyreaders_k55_whole_safe_and_full
open Option renaming some -> Z,none -> U
local macro_rules|`(tactic|ac_rfl)=>`(tactic|exact⟨rfl,rfl,rfl,by decide +kernel,rfl,by decide +kernel,by decide +kernel⟩)
noncomputable section
set_option Elab.async false
set_option linter.all false
set_option maxRecDepth 100000
open PySem PySem.Spec PyProof.Rows
def Ui:=@Option.bind_eq_some_iff
def Uj:=@List.getElem?_eq_some_iff
def Uk:=@Bool.and_eq_true
def Ul:=@List.mem_cons_self
def Um:=@List.size_toArray
def Uo:=@decide_eq_true
def Up:=@wpAny_bind
def Uq:=@List.getElem?_eq_getElem
def Ur:=@List.mem_cons_of_mem
def Us:=@of_decide_eq_true
def Ut:=@decide_eq_false
def Uu:=@Option.some.inj
def Uv:=@Heap.get?_push_of_some
def Uw:=@Nat.le_refl
def Ux:=@List.length_map
def Uy:=@List.map_cons
def Uz:=@List.mem_map
def UA:=@Heap.lt_size
def UB:=@List.any_eq_true
def UC:=@List.length_append
def UD:=@wpAny_pure
def UE:=@List.length_cons
def UF:=@List.all_eq_true
def UG:=@Heap.get?_push_size
def UH:=@List.mem_of_getElem?
def UI:=@Nat.lt_of_lt_of_le
def UJ:=@List.mem_append
def UK:=@Bool.eq_iff_iff
def UL:=@List.mem_filter
def UM:=@List.getElem?_append_left
def UN:=@List.mem_singleton
def UO:=@List.mem_cons
def UP:=@List.getElem?_set_self
def UQ:=@List.filter_cons
def UR:=@Nat.ne_of_lt
def US:=@List.mem_append_left
def UT:=@List.getElem?_set_ne
def UU:=@List.replicate_succ
def UV:=@Nat.le_trans
def UW:=@List.mem_append_right
def UX:=@List.append_nil
def UY:=@Bool.not_true
def UZ:=@List.find?_cons
def Va:=@wpAny_mono
def Vb:=@List.all_cons
def Vc:=@Bool.false_eq_true
def Vd:=@List.length_singleton
def Ve:=@List.mem_of_mem_take
def Vf:=@List.count_cons
def Vg:=@List.eq_nil_of_length_eq_zero
def Vh:=@beq_eq_false_iff_ne
def Vi:=@decide_eq_true_eq
def Vj:=@List.flatten_cons
def Vk:=@Bool.not_false
def Vl:=@List.map_append
def Vm:=@List.getElem?_append_right
def Vn:=@List.filter_eq_self
def Vo:=@W.mg_none_of
def Vp:=@Bool.or_eq_true
def Vq:=@if_false
def Vr:=@List.mem_range
def Vs:=@List.map_map
def Vt:=@Bool.false_and
def Vu:=@wpAny_newObj_type
def Vv:=@List.nodup_append
def Vw:=@List.append_assoc
def Vx:=@Int.toNat_natCast
def Vy:=@List.nodup_cons
def Vz:=@List.nil_append
def VA:=@List.filterMap_cons
def VB:=@List.zipIdx_cons
def VC:=@List.length_filter_le
def VD:=@wpAny_truthy_bool
def VE:=@PyProof.Rows.slot_tuple_getitem
def VF:=@Option.isSome_iff_exists
def VG:=@List.getElem?_map
def VH:=@PySem.mem_of_lookup
def VI:=@Nat.lt_irrefl
def VJ:=@List.any_cons
def VL:=@List.findIdx?_cons
def VM:=@List.countP_eq_length_filter
def VN:=@wpAny_passesOwn
def VO:=@codeAny_mono
def VP:=@PyProof.Rows.callWith_type1
def VQ:=@wpAny_holding
def VR:=@Bool.true_and
def VS:=@F.slot_tuple_iterator_next
def VT:=@W.mg_of
def VU:=@W.kia_one
def VW:=@List.drop_eq_getElem_cons
def VX:=@List.length_take
def VY:=@if_true
def VZ:=@wpAny_callSpecial?_slot
def Wa:=@wpAny_Call_Name_kw
def Wb:=@List.length_nil
def Wc:=@Int.emod_nonneg
def We:=@wpAny_pyIter_list
def Wf:=@decide_true
def Wg:=@call_meets
def Wh:=@Option.some.injEq
def Wi:=@List.filter_congr
def Wj:=@List.take_append_drop
def Wk:=@List.mem_iff_getElem?
def Wl:=@List.getElem?_eq_none
def Wm:=@List.lookup_cons
def Wn:=@List.countP_cons
def Wo:=@List.mem_of_mem_drop
def Wp:=@wpAny_standAt
def Wq:=@List.mem_zipIdx_iff_getElem?
def Wr:=@wpAny_field
def Wt:=@Nat.zero_le
def Wu:=@decide_eq_true_iff
def Wv:=@Nat.lt_of_le_of_lt
def Ww:=@List.drop_zero
def Wx:=@Bool.and_false
def Wy:=@List.flatMap_cons
def Wz:=@AutoSeq1.sub_tuple_tuple
def WA:=@List.getElem?_cons_succ
def WB:=@List.filter_cons_of_pos
def WC:=@List.filter_cons_of_neg
def WD:=@F.plain_set_update_loop
def WE:=@Bool.and_true
def WF:=@wpAny_call_entry
def WG:=@List.not_mem_nil
def WH:=@List.mem_flatMap
def WI:=@List.drop_length
def WJ:=@wpAny_Call_method_late
def WK:=@Option.map_eq_some_iff
def WL:=@List.take_of_length_le
def WM:=@Calls.callWith_builtin
def WN:=@wpAny_execs_nil
def WO:=@decide_false
def WP:=@Nat.zero_add
def WQ:=@F.slot_int_rmul
def WR:=@Calls.evalArgs_plain
def WS:=@Heap.size_push
def WT:=@List.map_congr_left
def WU:=@Array.length_toList
def WV:=@wpAny_pyIter_tuple
def WX:=@assignInOrder_cons
def WY:=@List.findIdx?_eq_some_iff_getElem
def WZ:=@List.filter_append
def Xa:=@Int.emod_lt_of_pos
def Xb:=@F.args_tuple_add_2
def Xc:=@typeIs_int
def Xd:=@Nat.lt_succ_of_lt
def Xe:=@F.slot_list_count
def Xf:=@F.entry_tuple_add
def Xg:=@Bool.not_eq_false
def Xh:=@Nat.ne_of_gt
def Xi:=@Nat.mul_comm
def Xj:=@List.map_nil
def Xk:=@List.any_map
def Xl:=@noFill_tuple_add
def Xm:=@Option.getD_some
def Xn:=@List.length_drop
def Xo:=@List.getElem_mem
def Xp:=@F.slot_tuple_add
def Xq:=@AutoSeq1.idx_int
def Xr:=@F.args_tuple_iterator_next_1
def Xs:=@codeAny_builtin
def Xt:=@W.kitx_list
def Xu:=@PassesOwn.never
def Xv:=@Option.map_some
def Xw:=@Nat.le_succ
def Xx:=@List.of_mem_zip
def Xy:=@List.foldl_cons
def Xz:=@F.entry_tuple_iterator_next
def XA:=@Calls.Name_function_global
def XB:=@wpAny_binaryOp_repeat_ref
def XC:=@List.findIdx?_eq_none_iff
def XD:=@wpAny_rule
def XE:=@wpAny_comprehension_free
def XF:=@intBits_le
def XG:=@List.getElem?_take_of_lt
def XH:=@seq_tuple_add
def XI:=@List.getElem?_replicate
def XJ:=@List.getElem?_cons_zero
def XM:=@F.entry_set_update_loop
def XN:=@Bool.or_false
def XO:=@subscriptTail_builtinR
def XQ:=@Nat.le_of_succ_le_succ
def XR:=@List.range_succ_eq_map
def XS:=@Heap.get?_update_other
def XT:=@wpAny_typeOf
def XU:=@seqIndex_neg
def XV:=@concat_meets
def XW:=@Nat.le_of_lt
def XX:=@Nat.le_of_eq
def XY:=@Nat.add_zero
def XZ:=@List.set_getElem_self
def Ya:=@List.all_nil
def Yb:=@List.all_map
def Yc:=@Int.le_trans
def Yd:=@Heap.get?_update_self
def Ye:=@List.mem_iff_getElem
def Yf:=@List.getElem_toArray
def Yg:=@Around.under_plainId
def Yh:=@sizeLine_eq
def Yi:=@seqIndex_of
def Yj:=@entry_tuple_getitem
def Yk:=@Nat.mul_le_mul_left
def Yl:=@List.filter_sublist
def Ym:=@Heap.SameBut.update
def Yn:=@or_false
def Yo:=@args_tuple_getitem
def Yp:=@Obj.data_mapFields
def Yq:=@List.set_cons_zero
def Yr:=@List.set_cons_succ
def Ys:=@List.mem_filterMap
def Yt:=@List.find?_eq_none
def Yu:=@List.Sublist.nodup
def Yv:=@F.slot_tuple_count
def Yw:=@F.slot_list_append
def Yx:=@Calls.Constant_str
namespace L2
abbrev bC:=Sum Int Str
noncomputable def vK:bC->Value->Bool
 | .inl k,v=>Value.isInt k v
 | .inr x,v=>Value.isStrOf x v
noncomputable def keyH(w:World):bC->Int
 | .inl k=>hashInt k
 | .inr x=>hashStr w x
def cY:∀ {k:bC} {v:Value},vK k v=true->(∃ i t,k=Sum.inl i/\v=Value.int i t)\/(∃ x t,k=Sum.inr x/\v=Value.str x t)
 | .inl i,v,h=>by
  obtain⟨t,e⟩:=Value.isInt_shape (k:=i) (v:=v) h
  exact .inl ⟨i,t,rfl,e⟩
 | .inr x,v,h=>by
  obtain⟨t,e⟩:=Value.isStrOf_shape (x:=x) (v:=v) h
  exact .inr ⟨x,t,rfl,e⟩
def FM(i:Int)(t:Tok):vK (.inl i) (.int i t)=true:=by simp [vK,Value.isInt]
def FL(x:Str)(t:Tok):vK (.inr x) (.str x t)=true:=by simp [vK,Value.isStrOf]
def RN(a b:Int):decide ((Sum.inl a:bC)=Sum.inl b)=(a == b):=by
 by_cases e:a=b
 ·subst e;simp
 ·have h:¬ (Sum.inl a:bC)=Sum.inl b:=λq=>e (Sum.inl.inj q)
  rw [Ut h]
  exact(Vh.mpr e).symm
def RK(a b:Str):decide ((Sum.inr a:bC)=Sum.inr b)=decide (a=b):=by
 by_cases e:a=b
 ·subst e;simp
 ·have h:¬ (Sum.inr a:bC)=Sum.inr b:=λq=>e (Sum.inr.inj q)
  rw [Ut h,Ut e]
def RM(a:Int)(b:Str):decide ((Sum.inl a:bC)=Sum.inr b)=false:=Ut (λq=>nomatch q)
def RL(a:Str)(b:Int):decide ((Sum.inr a:bC)=Sum.inl b)=false:=Ut (λq=>nomatch q)
noncomputable def bU(prog:Program)(w:World):PySem.KeyKind prog w bC where
 is:=vK
 hash:=keyH w
 inj:=λv a b ha hb=>by
  rcases cY ha with ⟨i,t,rfl,rfl⟩ | ⟨x,t,rfl,rfl⟩
  ·rcases cY hb with ⟨j,u,rfl,e⟩ | ⟨y,u,rfl,e⟩
   ·injection e with e1 _;rw [e1]
   ·exact nomatch e
  ·rcases cY hb with ⟨j,u,rfl,e⟩ | ⟨y,u,rfl,e⟩
   ·exact nomatch e
   ·injection e with e1 _;rw [e1]
 byValue:=λk v h=>by
  rcases cY h with ⟨i,t,rfl,rfl⟩ | ⟨x,t,rfl,rfl⟩ <;> rfl
 pyHash:=λhv h=>by
  rcases cY hv with ⟨i,t,rfl,rfl⟩ | ⟨x,t,rfl,rfl⟩
  ·exact wpAny_pyHash_int h
  ·exact wpAny_pyHash_str h
 eqBool:=λhu hv h=>by
  rcases cY hu with ⟨i,t,rfl,rfl⟩ | ⟨x,t,rfl,rfl⟩
  ·rcases cY hv with ⟨j,u,rfl,rfl⟩ | ⟨y,u,rfl,rfl⟩
   ·rw [RN] at h;exact wpAny_eqBool_int h
   ·rw [RM] at h;exact SeqAt.EqAt.int_str i t y u _ _ _ _ h
  ·rcases cY hv with ⟨j,u,rfl,rfl⟩ | ⟨y,u,rfl,rfl⟩
   ·rw [RL] at h;exact SeqAt.EqAt.str_int x t j u _ _ _ _ h
   ·rw [RK] at h;exact wpAny_eqBool_str h
 «strs»:=λk x t v h=>by
  rcases cY h with ⟨i,u,rfl,e⟩ | ⟨y,u,rfl,e⟩
  ·exact nomatch e
  ·injection e with e1 _
   subst e1
   cases v <;> rfl
def zF(prog:Program)(w:World)(i:Int)(t:Tok):(bU prog w).is (.inl i) (.int i t)=true:=FM i t
def zE(prog:Program)(w:World)(x:Str)(t:Tok):(bU prog w).is (.inr x) (.str x t)=true:=FL x t
inductive V where
 | non | bl (b:Bool) | int (i:Int) | str (x:Str) | byt (b:Array UInt8) | flt (b:UInt64) | ref (a:Addr) | ty (n:String)
 deriving DecidableEq
def RelV:V->Value->Prop
 | .non,u=>u=Value.none
 | .bl b,u=>u=Value.bool b
 | .int i,u=>∃ t,u=Value.int i t
 | .str x,u=>∃ t,u=Value.str x t
 | .byt b,u=>∃ t,u=Value.bytes b t
 | .flt b,u=>∃ t,u=Value.float b t
 | .ref a,u=>u=Value.ref a
 | .ty n,u=>u=Value.type n
abbrev Vals:List V->List Value->Prop:=Paired RelV
theorem Vals.length{xs:List V}{us:List Value}(r:Vals xs us):xs.length=us.length:=Paired.length r
theorem Vals.get:∀ {xs:List V} {us:List Value} {i:Nat} {x:V},Vals xs us->xs[i]?=Z x->∃ u,us[i]?=Z u/\RelV x u
 | _,_,_,_,.nil,e=>by simp at e
 | _,_,0,_,.cons r _,e=>by simp at e;subst e;exact⟨_,rfl,r⟩
 | _,_,i+1,x,.cons _ t,e=>by
  obtain⟨u,h1,h2⟩:=Vals.get (i:=i) (x:=x) t (by simpa using e)
  exact⟨u,by simpa using h1,h2⟩
theorem Vals.set{x:V}{u:Value}(r:RelV x u):∀ {xs:List V} {us:List Value} (i:Nat),Vals xs us->Vals (xs.set i x) (us.set i u)
 | _,_,_,.nil=>.nil
 | _,_,0,.cons _ t=>.cons r t
 | _,_,i+1,.cons q t=>.cons q (Vals.set r i t)
theorem Vals.append:∀ {xs ys:List V} {us ws:List Value},Vals xs us->Vals ys ws->Vals (xs++ys) (us++ws)
 | _,_,_,_,.nil,s=>s
 | _,_,_,_,.cons r t,s=>.cons r (Vals.append t s)
theorem Vals.take:∀ {xs:List V} {us:List Value} (n:Nat),Vals xs us->Vals (xs.take n) (us.take n)
 | _,_,0,_=>.nil
 | _,_,_+1,.nil=>.nil
 | _,_,n+1,.cons r t=>.cons r (Vals.take n t)
theorem Vals.drop:∀ {xs:List V} {us:List Value} (n:Nat),Vals xs us->Vals (xs.drop n) (us.drop n)
 | _,_,0,r=>r
 | _,_,_+1,.nil=>.nil
 | _,_,n+1,.cons _ t=>Vals.drop n t
def RelO:Option V->Option Value->Prop
 | some v,Z u=>RelV v u
 | none,U=>True
 | _,_=>False
def KV{κ:Type}:List (κ×V)->List (κ×Value)->Prop:=Paired λ(p:κ×V) (q:κ×Value)=>p.1=q.1/\RelV p.2 q.2
noncomputable def kV:bC->V
 | .inl i=>.int i
 | .inr x=>.str x
inductive HO where
 | lst (xs:List V)
 | tup (xs:List V)
 | dK (kvs:List (bC×V)) | dT (kvs:List (List bC×V))
 | set (S:Int->Bool) (n:Nat)
 | ins (C dx:Addr) (fs:List (Str×V))
 | own (x:Addr)
 | xd (fs:List (Str×V))
 | met (f x:Addr)
 | rng (lo hi:Int)
 | frz (o:Obj) (u:HO)
 | tbl (ps:Array Value)
 | ext (φ:Heap->Prop)
abbrev Hp:=Addr->Option HO
noncomputable def upd(H:Hp)(a:Addr)(o:HO):Hp:=λb=>if b=a then Z o else H b
def bo{H:Hp}{a:Addr}{o:HO}:upd H a o a=Z o:=by unfold upd;rw [if_pos rfl]
def bh{H:Hp}{a b:Addr}{o:HO}(h:b≠a):upd H a o b=H b:=by unfold upd;rw [if_neg h]
def bW{H:Hp}{a b:Addr}{o:HO}(h:H a=Z o)(h':H b=U):a≠b:=by
 intro e;subst e;rw [h] at h';cases h'
def IsTupN(h:Heap)(a:Addr)(items:Array Value):Prop:=∃ o,h.get? a=Z o/\o.cls=.type "tuple"/\(∃ n,o.data=.seq items n)/\o.dict=U
def IsTupN.up{h:Heap}{a:Addr}{items:Array Value}(x:IsTupN h a items):IsTup h a items:=by
 obtain⟨o,e,c,d,_⟩:=x
 exact⟨o,e,c,d⟩
theorem IsTupN.lt{h:Heap}{a:Addr}{items:Array Value}(x:IsTupN h a items):a<h.objs.size:=x.up.lt
def IsTupN.new(h:Heap)(items:Array Value):IsTupN (h.push { cls:=.type "tuple",data:=.seq items }) h.objs.size items:=⟨_,UG _ rfl,rfl,⟨_,rfl⟩,rfl⟩
section
variable(P:Program)(w:World)
def ObjOk(H:Hp)(h:Heap)(a:Addr):HO->Prop
 | .lst xs=>xs.length<=sizeLine/\∃ (its:List Value) (n:Nat),Vals xs its/\h.get? a=Z { cls:=.type "list",data:=.seq its.toArray n }
 | .tup xs=>xs.length<=sizeLine/\∃ its:List Value,Vals xs its/\IsTupN h a its.toArray
 | .dK kvs=>kvs.length<=sizeLine/\(a == sysModules)=false/\∃ vs,KV kvs vs/\h.DictOf (bU P w) a vs
 | .dT kvs=>kvs.length<=sizeLine/\(a == sysModules)=false/\∃ xs:List (List bC×Addr×Value),
   Paired (λ(p:List bC×V) (q:List bC×Addr×Value)=>p.1=q.1/\H q.2.1=Z (.tup (p.1.map kV))/\RelV p.2 q.2.2) kvs xs /\
   ∃ o es ep,h.get? a=Z o/\o.ExactDict/\o.data=.dict es ep/\es.toList=xs.map (entryOfKey (tupleKind (bU P w)))/\(xs.map (·.1)).Nodup
 | .set S n=>h.SetOf (intKind P w) a S n
 | .ins C dx fs=>H dx=Z (.own a)/\fs.length<=1000/\dx≠a/\h.get? a=Z (W.instObj C dx) /\
   ∃ mA,h.Ns1 dx mA/\(∀ f,RelO (fs.lookup f) (mA f))/\PySem.Within mA (fs.map (·.1))
 | .own _=>∃ o,h.get? a=Z o
 | .xd fs=>∃ mA,h.Ns1 a mA/\∀ f,RelO (fs.lookup f) (mA f)
 | .rng lo hi=>∃ t u v,h.get? a=Z { cls:=.type "range",data:=.fields #[.int lo t,.int hi u,.int 1 v] }
 | .frz o u=>h.get? a=Z o/\ObjOk H h a u
 | .tbl ps=>h.get? a=Z { cls:=.none,data:=.fields ps }
 | .met f x=>h.get? a=Z (W.methodObj (.ref f) (.ref x))
 | .ext φ=>φ h/\(∃ o,h.get? a=Z o)/\∀ h1 h2:Heap,φ h1->(∀ o,h1.get? a=Z o->h2.get? a=Z o)->φ h2
def HOk(H:Hp)(h:Heap):Prop:=∀ a o,H a=Z o->ObjOk P w H h a o
end
section
variable{P:Program}{w:World}{H H':Hp}{h h':Heap}{a:Addr}{o:HO}
theorem ObjOk.lt(x:ObjOk P w H h a o):a<h.objs.size:=by
 cases o with
 | lst xs=>obtain⟨_,_,_,_,e⟩:=x;exact UA e
 | tup xs=>obtain⟨_,_,_,p⟩:=x;exact p.lt
 | dK kvs=>obtain⟨_,_,_,_,o,_,_,e,_⟩:=x;exact UA e
 | dT kvs=>obtain⟨_,_,_,_,o,_,_,e,_⟩:=x;exact UA e
 | set S n=>obtain⟨o,_,_,_,e,_⟩:=x;exact UA e
 | ins C dx fs=>obtain⟨_,_,_,e,_⟩:=x;exact UA e
 | own y=>obtain⟨_,e⟩:=x;exact UA e
 | xd fs=>obtain⟨_,⟨_,_,_,e,_⟩,_⟩:=x;exact UA e
 | rng lo hi=>obtain⟨_,_,_,e⟩:=x;exact UA e
 | frz ob u=>obtain⟨e,_⟩:=x;exact UA e
 | tbl ps=>exact UA (show h.get? a=Z _ from x)
 | met f y=>exact UA (show h.get? a=Z _ from x)
 | ext φ=>obtain⟨_,⟨_,e⟩,_⟩:=x;exact UA e
theorem Paired.mapP{α β:Type}{F G:α->β->Prop}:∀ {l₁:List α} {l₂:List β},Paired F l₁ l₂->(∀ a b,F a b->G a b)->Paired G l₁ l₂
 | _,_,.nil,_=>.nil
 | _,_,.cons r t,f=>.cons (f _ _ r) (Paired.mapP t f)
def ObjOk.stay(x:ObjOk P w H h a o)(k:∀ b u,(b=a\/H b=Z (.own a))->h.get? b=Z u->h'.get? b=Z u)
  (ho:∀ b,H b=Z (.own a)->H' b=Z (.own a)) (ht:∀ b xs,H b=Z (.tup xs)->H' b=Z (.tup xs)):ObjOk P w H' h' a o:=by
 induction o with
 | lst xs=>obtain⟨z,its,n,r,e⟩:=x;exact⟨z,its,n,r,k _ _ (.inl rfl) e⟩
 | tup xs=>obtain⟨z,its,r,ob,e,c⟩:=x;exact⟨z,its,r,ob,k _ _ (.inl rfl) e,c⟩
 | dK kvs=>obtain⟨z,y,vs,r,ob,es,ep,e,c⟩:=x;exact⟨z,y,vs,r,ob,es,ep,k _ _ (.inl rfl) e,c⟩
 | dT kvs=>
  obtain⟨z,y,xs,r,ob,es,ep,e,c⟩:=x
  exact⟨z,y,xs,Paired.mapP r λp q z=>⟨z.1,ht _ _ z.2.1,z.2.2⟩,ob,es,ep,k _ _ (.inl rfl) e,c⟩
 | set S n=>obtain⟨ob,es,ep,t,e,c⟩:=x;exact⟨ob,es,ep,t,k _ _ (.inl rfl) e,c⟩
 | ins C dx fs=>
  obtain⟨d,z,ne,e,mA,⟨od,es,ep,e2,c⟩,r⟩:=x
  exact⟨ho _ d,z,ne,k _ _ (.inl rfl) e,mA,⟨od,es,ep,k _ _ (.inr d) e2,c⟩,r⟩
 | own y=>obtain⟨ob,e⟩:=x;exact⟨ob,k _ _ (.inl rfl) e⟩
 | xd fs=>obtain⟨mA,⟨od,es,ep,e,c⟩,r⟩:=x;exact⟨mA,⟨od,es,ep,k _ _ (.inl rfl) e,c⟩,r⟩
 | rng lo hi=>obtain⟨t,u,v,e⟩:=x;exact⟨t,u,v,k _ _ (.inl rfl) e⟩
 | frz ob u ih=>obtain⟨e,q⟩:=x;exact⟨k _ _ (.inl rfl) e,ih q⟩
 | tbl ps=>
  have e:h.get? a=Z { cls:=.none,data:=.fields ps }:=x
  show h'.get? a=Z { cls:=.none,data:=.fields ps }
  exact k a _ (.inl rfl) e
 | met f y=>
  have e:h.get? a=Z (W.methodObj (.ref f) (.ref y)):=x
  show h'.get? a=Z (W.methodObj (.ref f) (.ref y))
  exact k a _ (.inl rfl) e
 | ext φ=>obtain⟨p,⟨o,e⟩,st⟩:=x;exact⟨st _ _ p λo q=>k _ _ (.inl rfl) q,⟨o,k _ _ (.inl rfl) e⟩,st⟩
theorem HOk.lt(x:HOk P w H h)(e:H a=Z o):a<h.objs.size:=(x a o e).lt
def HOk.fresh(x:HOk P w H h)(e:h.objs.size<=a):H a=U:=by
 cases q:H a with
 | none=>rfl
 | some u=>exact absurd (UI (x.lt q) e) (VI _)
def HOk.kept(x:HOk P w H h)(k:∀ b u,h.get? b=Z u->h'.get? b=Z u):HOk P w H h':=λa o e=>
 (x a o e).stay (λb u _ q=>k b u q) (λ_ q=>q) λ_ _ q=>q
def HOk.laid(x:HOk P w H h)(k:∀ b u,h.get? b=Z u->h'.get? b=Z u)(hp:h.objs.size<=a)(new:ObjOk P w (upd H a o) h' a o):HOk P w (upd H a o) h':=λb u e=>by
 have hn:=x.fresh hp
 by_cases hb:b=a
 ·subst hb;rw [bo] at e;cases e;exact new
 ·rw [bh hb] at e
  exact(x b u e).stay (λc v _ q=>k c v q) (λc q=>by rw [bh (bW q hn)];exact q) λc xs q=>by rw [bh (bW q hn)];exact q
end
def Rd(H:Hp)(a:Addr)(u:HO):Prop:=H a=Z u\/∃ o,H a=Z (.frz o u)
def Rd.ok{P:Program}{w:World}{H:Hp}{h:Heap}{a:Addr}{u:HO}(r:Rd H a u)(x:HOk P w H h):ObjOk P w H h a u:=by
 rcases r with r | ⟨o,r⟩
 ·exact x a u r
 ·obtain⟨_,q⟩:=x a _ r
  exact q
def Mut:Option HO->Prop
 | some (.lst _)=>True
 | some (.dK _)=>True
 | some (.dT _)=>True
 | some (.set _ _)=>True
 | some (.ins _ _ _)=>True
 | some (.ext _)=>True
 | _=>False
section
variable{P:Program}{w:World}{H:Hp}{h h':Heap}{x e:Addr}{o':HO}
def HOk.write(ok:HOk P w H h)(mu:Mut (H x))(he:e=x\/H e=Z (.own x))(k:∀ b u,b≠e->h.get? b=Z u->h'.get? b=Z u)(heo:∃ u,h'.get? e=Z u)
  (new:ObjOk P w (upd H x o') h' x o'):HOk P w (upd H x o') h':=λb u q=>by
 have nown:∀ c y,H c=Z (.own y)->c≠x:=λc y r z=>by subst z;rw [r] at mu;exact mu
 have ntup:∀ c xs,H c=Z (.tup xs)->c≠x:=λc xs r z=>by subst z;rw [r] at mu;exact mu
 by_cases hb:b=x
 ·subst hb;rw [bo] at q;cases q;exact new
 ·rw [bh hb] at q
  by_cases hbe:b=e
  ·have q':H b=Z (.own x):=by
    rcases he with z | z
    ·exact absurd (hbe.trans z) hb
    ·rw [hbe];exact z
   rw [q] at q';cases q'
   obtain⟨v,hv⟩:=heo
   exact⟨v,by rw [hbe];exact hv⟩
  ·refine(ok b u q).stay (λc v hc r=>k c v ?_ r) (λc r=>by rw [bh (nown c b r)];exact r) λc xs r=>by rw [bh (ntup c xs r)];exact r
   rcases hc with rfl | hc
   ·exact hbe
   ·rintro rfl
    rcases he with z | z
    ·exact nown c b hc z
    ·rw [hc] at z;cases z;exact hb rfl
end
structure Un(fs ex:List Addr)(H H':Hp)(h h':Heap):Prop where
 keep:∀ b o,h.get? b=Z o->H b=U->b ∉ fs->b ∉ ex->h'.get? b=Z o
 slot:∀ b o,h.get? b=Z o->H b=U->b∈fs->b ∉ ex->∃ sl,h'.get? b=Z { o with slots:=sl }
 free:∀ b o,h.get? b=Z o->H b=U->b ∉ ex->H' b=U
 there:∀ b o,h.get? b=Z o->b ∉ ex->∃ o',h'.get? b=Z o'
 tups:∀ b xs,H b=Z (.tup xs)->H' b=Z (.tup xs)
 frzs:∀ b o u,H b=Z (.frz o u)->H' b=Z (.frz o u)
 tbls:∀ b ps,H b=Z (.tbl ps)->∃ more,H' b=Z (.tbl (ps++more))
section
variable{fs fs' ex ex':List Addr}{H H1 H2:Hp}{h h1 h2 h':Heap}{a x e:Addr}{o:HO}
def Un.any(u:Un fs ex H H1 h h1){b:Addr}{ob:Obj}(q:h.get? b=Z ob)(n:H b=U)(hx:b ∉ ex):∃ sl,h1.get? b=Z { ob with slots:=sl }:=by
 by_cases hb:b∈fs
 ·exact u.slot b ob q n hb hx
 ·exact⟨ob.slots,u.keep b ob q n hb hx⟩
def Un.kept(k:∀ b u,h.get? b=Z u->h'.get? b=Z u):Un fs ex H H h h':=
 ⟨λb ob q _ _ _=>k b ob q,λb ob q _ _ _=>⟨ob.slots,k b ob q⟩,λ_ _ _ n _=>n,λb ob q _=>⟨ob,k b ob q⟩,λ_ _ q=>q,λ_ _ _ q=>q,λ_ ps q=>⟨#[],by rw [q];simp⟩⟩
def Un.refl:Un fs ex H H h h:=Un.kept λ_ _ q=>q
def Un.laid(k:∀ b u,h.get? b=Z u->h'.get? b=Z u)(hp:h.objs.size<=a)(hn:H a=U):Un fs ex H (upd H a o) h h' where
 keep:=λb u q _ _ _=>k b u q
 slot:=λb u q _ _ _=>⟨u.slots,k b u q⟩
 free:=λb u q n _=>by rw [bh (UR (UI (UA q) hp))];exact n
 there:=λb u q _=>⟨u,k b u q⟩
 tups:=λb xs q=>by rw [bh (bW q hn)];exact q
 frzs:=λb u xs q=>by rw [bh (bW q hn)];exact q
 tbls:=λb ps q=>⟨#[],by rw [bh (bW q hn),q];simp⟩
def Un.write(mu:Mut (H x))(he:e=x\/H e=Z (.own x))(k:∀ b u,b≠e->h.get? b=Z u->h'.get? b=Z u)(heo:∃ u,h'.get? e=Z u):Un fs ex H (upd H x o) h h':=by
 have hx:∀ b,H b=U->b≠x:=λb n z=>by subst z;rw [n] at mu;exact mu
 have hb:∀ b,H b=U->b≠e:=λb n z=>by
  subst z
  rcases he with r | r
  ·exact hx b n r
  ·rw [n] at r;cases r
 have hm:∀ b u,H b=Z u->¬ Mut (Z u)->b≠x:=λb u q nm z=>by subst z;rw [q] at mu;exact nm mu
 refine⟨λb u q n _ _=>k b u (hb b n) q,λb u q n _ _=>⟨u.slots,k b u (hb b n) q⟩,λb u q n _=>by rw [bh (hx b n)];exact n,λb u q _=>?_,
  λb xs q=>by rw [bh (hm b _ q λz=>z)];exact q,λb u xs q=>by rw [bh (hm b _ q λz=>z)];exact q,λb ps q=>⟨#[],by rw [bh (hm b _ q λz=>z),q];simp⟩⟩
 by_cases hbe:b=e
 ·subst hbe;exact heo
 ·exact⟨u,k b u hbe q⟩
end
def trk(h:Heap)(H:Hp):List Addr:=(List.range h.objs.size).filter λa=>(H a).isSome
noncomputable def yp(h:Heap)(H:Hp):Heap:=W.hideAll h (trk h H)
def FX(h:Heap)(H:Hp):(yp h H).objs.size=h.objs.size:=W.hideAll_size _ _
def JE{h:Heap}{H:Hp}{b:Addr}{o:Obj}(e:h.get? b=Z o)(n:H b=U):(yp h H).get? b=Z o:=
 W.hideAll_get _ e λhm=>by
  have q:(H b).isSome=true:=(UL.mp hm).2
  rw [n] at q;simp at q
def MY{h:Heap}{H:Hp}{b:Addr}{o:Obj}(e:(yp h H).get? b=Z o):h.get? b=Z o/\H b=U:=by
 have e':h.get? b=Z o:=W.of_hideAll (trk h H) e
 refine⟨e',?_⟩
 cases q:H b with
 | none=>rfl
 | some x=>
  have hm:b∈trk h H:=UL.mpr ⟨Vr.mpr (UA e'),by simp [q]⟩
  have z:(yp h H).get? b=U:=W.hideAll_none (trk h H) hm
  rw [z] at e;cases e
structure Mod(K:W.Frag)(mg:Str->Option Value)(base:Heap):Prop where
 kin:K.In base
 glob:base.Ns mainGlobals mg
 blt:∃ mb,base.Ns builtinsNs mb/\∀ x:Str,x ≠ "__name__"->mb x=bootBuiltins x
 nolimit:base.NoLimit
structure Cx where
 prog:Program
 w:World
 K:W.Frag
 mg:Str->Option Value
 base:Heap
 A:Around
 N:List Str
 s₀:Shared
 H₀:Hp
 env:Env
 outer:List Env
 stack:List Env
 ex:List Addr
 fn:Str->Bool
 calm:Bool
 pn:List (Addr×Obj)
 xe:Value->Shared->Prop
def Hg(l:List Env):List Addr:=l.filterMap (·.frame)
abbrev Cx.fs(X:Cx):List Addr:=Hg X.outer
def Ua(sc:Scope)(x:Str):Prop:=sc.names.lookup x=Z .local\/sc.names.lookup x=Z .cell\/sc.names.lookup x=Z .free
def Lz(sc:Scope)(x:Str):Prop:=sc.names.lookup x=Z .local\/sc.names.lookup x=Z .cell
def Look(env:Env)(h:Heap)(m:Str->Option Value)(x:Str)(u:Value):Prop:=
 (env.kindOf x=Z .local/\m x=Z u)\/((env.kindOf x=Z .cell\/env.kindOf x=Z .free)/\∃ c,env.cells.lookup x=Z c/\h.IsCell c (Z u))
structure Cx.Ok(X:Cx):Prop where
 mod:Mod X.K X.mg X.base
 kind:X.env.scope.kind=.function
 glob:X.env.globals=mainGlobals
 blt:X.env.builtins=builtinsNs
 above:X.s₀.heap.objs.size<=X.env.locals
 inj:∀ x y c,X.env.cells.lookup x=Z c->X.env.cells.lookup y=Z c->x=y
 has:∀ x,(X.env.kindOf x=Z .cell\/X.env.kindOf x=Z .free)->∃ c,X.env.cells.lookup x=Z c
 cab:∀ x c,X.fn x=true->X.env.cells.lookup x=Z c->X.s₀.heap.objs.size<=c
 hd:X.calm=true->X.A.handled=U
 frames:X.A.frames=Z X.stack
 stk:X.stack=X.outer\/(X.stack=X.env::X.outer/\X.env.frame=Z X.env.locals)
 exf:∀ b∈X.ex,b≠X.env.locals/\∀ x c,X.env.cells.lookup x=Z c->c≠b
 bs:∀ b o,X.base.get? b=Z o->X.s₀.heap.get? b=Z o/\X.H₀ b=U
 bsz:X.base.objs.size<=X.s₀.heap.objs.size
 noex:∀ b o,X.base.get? b=Z o->b ∉ X.ex
 exfs:∀ b∈X.ex,b ∉ X.fs
 funs:X.s₀.heap.FunFrames X.base X.outer
 frf:∀ b∈X.fs,X.H₀ b=U
structure Inv(X:Cx)(pins:List (Addr×Obj))(σ:List (Option V))(H:Hp)(s:Shared):Prop where
 ok:X.Ok
 os:s.os=X.s₀.os
 bare:AllBare s.gens
 base:Un X.fs X.ex X.H₀ H X.s₀.heap s.heap
 loc:∃ m,s.heap.Ns X.env.locals m/\∀ (i:Nat) (x:Str) (v:V),X.N[i]?=Z x->σ[i]?=Z (Z v)->Ua X.env.scope x->∃ u,RelV v u/\Look X.env s.heap m x u
 cell:∀ x c,X.env.cells.lookup x=Z c->∃ v,s.heap.IsCell c v
 free:H X.env.locals=U
 freeC:∀ x c,X.env.cells.lookup x=Z c->H c=U
 pin:∀ p∈X.pn++pins,s.heap.get? p.1=Z p.2/\H p.1=U/\p.1≠X.env.locals/\p.1 ∉ X.fs/\∀ v,p.2.data≠.cell v
 hok:HOk X.prog X.w H s.heap
 len:σ.length=X.N.length
section
variable{X:Cx}{pins:List (Addr×Obj)}{σ:List (Option V)}{H H':Hp}{s:Shared}{h':Heap}
def Cx.Ok.nofr(ok:X.Ok){b:Addr}{o:Obj}(e:X.base.get? b=Z o):b ∉ X.fs:=λhb=>by
 have:=(ok.funs.mem hb).1
 rw [e] at this;cases this
theorem Inv.bs(I:Inv X pins σ H s):∀ b o,X.base.get? b=Z o->s.heap.get? b=Z o/\H b=U:=λb o e=>
 ⟨I.base.keep b o (I.ok.bs b o e).1 (I.ok.bs b o e).2 (I.ok.nofr e) (I.ok.noex b o e),I.base.free b o (I.ok.bs b o e).1 (I.ok.bs b o e).2 (I.ok.noex b o e)⟩
def Inv.bk(I:Inv X pins σ H s):∀ b o,X.base.get? b=Z o->s.heap.get? b=Z o:=λb o e=>(I.bs b o e).1
theorem Inv.mod(I:Inv X pins σ H s):Mod X.K X.mg X.base:=I.ok.mod
def Inv.kIn(I:Inv X pins σ H s):X.K.In s.heap:=I.ok.mod.kin.keeps I.bk
theorem Inv.lt(I:Inv X pins σ H s):X.env.locals<s.heap.objs.size:=let ⟨_,hn,_⟩:=I.loc;hn.lt
def Inv.sz(I:Inv X pins σ H s):X.s₀.heap.objs.size<=s.heap.objs.size:=UV I.ok.above (XW I.lt)
def Inv.nofs(I:Inv X pins σ H s){a:Addr}(h:s.heap.objs.size<=a):a ∉ X.fs:=λhb=>by
 obtain⟨_,o,ho,_⟩:=I.ok.funs.mem hb
 exact absurd (UI (UA ho) (UV I.sz h)) (VI _)
def Inv.cne(I:Inv X pins σ H s):∀ x c,X.env.cells.lookup x=Z c->c≠X.env.locals:=λx c e z=>by
 obtain⟨v,o,ho,hd⟩:=I.cell x c e
 obtain⟨m,⟨o',es,ep,ho',hd',_⟩,_⟩:=I.loc
 rw [z,ho'] at ho;cases ho;rw [hd'] at hd;cases hd
theorem Inv.funs(I:Inv X pins σ H s):s.heap.FunFrames X.base X.outer:=by
 have all:∀ (l:List Env),(∀ b∈Hg l,b∈X.fs)->X.s₀.heap.FunFrames X.base l->s.heap.FunFrames X.base l:=by
  intro l
  induction l with
  | nil=>intro _ _;trivial
  | cons env r ih=>
   intro hs hl
   obtain⟨hk,⟨L,o,hf,hn,ho,hd⟩,hr⟩:=hl
   have hL:L∈X.fs:=hs L (by unfold Hg;rw [VA,hf];exact Ul)
   obtain⟨sl,e⟩:=I.base.slot L o ho (I.ok.frf L hL) hL λz=>I.ok.exfs L z hL
   exact⟨hk,⟨L,_,hf,hn,e,hd⟩,ih (λb hb=>hs b (by unfold Hg;rw [VA,hf];exact Ur _ hb)) hr⟩
 exact all X.outer (λ_ hb=>hb) I.ok.funs
theorem Inv.stack(I:Inv X pins σ H s):s.heap.FunFrames X.base X.stack:=by
 rcases I.ok.stk with e | ⟨e,hf⟩
 ·rw [e];exact I.funs
 ·rw [e]
  obtain⟨m,hn,_⟩:=I.loc
  refine .cons (by rw [I.ok.kind];decide) hf hn ?_ I.funs
  exact Heap.get?_none_of_le (UV I.ok.bsz I.ok.above)
def Inv.stkSub(I:Inv X pins σ H s):∀ b∈Hg X.stack,b∈X.env.locals::X.fs:=λb hb=>by
 rcases I.ok.stk with e | ⟨e,hf⟩
 ·rw [e] at hb;exact Ur _ hb
 ·rw [e] at hb
  unfold Hg at hb
  rw [VA,hf] at hb
  exact hb
def Inv.stkFree(I:Inv X pins σ H s):∀ b∈Hg X.stack,H b=U:=λb hb=>by
 rcases UO.mp (I.stkSub b hb) with e | hb
 ·rw [e];exact I.free
 ·obtain⟨_,o,ho,_⟩:=I.ok.funs.mem hb
  exact I.base.free b o ho (I.ok.frf b hb) λz=>I.ok.exfs b z hb
def Inv.step{g':Array GenState}{t':Nat}{d':Drawn}{ch:List Addr}(I:Inv X pins σ H s)
  (hch:∀ b∈ch,(b∈X.ex\/X.s₀.heap.objs.size<=b)/\b≠X.env.locals/\(∀ x c,X.env.cells.lookup x=Z c->c≠b)/\∀ p∈X.pn++pins,p.1≠b)
  (keep:∀ b o,b≠X.env.locals->b ∉ X.fs->b ∉ ch->s.heap.get? b=Z o->H b=U->h'.get? b=Z o)
  (slot:∀ b o,b≠X.env.locals->b∈X.fs->b ∉ ch->s.heap.get? b=Z o->H b=U->∃ sl,h'.get? b=Z { o with slots:=sl }) (free:∀ b o,b ∉ ch->s.heap.get? b=Z o->H b=U->H' b=U)
  (there:∀ b o,b ∉ ch->s.heap.get? b=Z o->∃ o',h'.get? b=Z o')
  (tups:∀ b xs,H b=Z (.tup xs)->H' b=Z (.tup xs)) (frzs:∀ b o u,H b=Z (.frz o u)->H' b=Z (.frz o u)) (tbls:∀ b ps,H b=Z (.tbl ps)->∃ more,H' b=Z (.tbl (ps++more)))
  (ns:∀ m,s.heap.Ns X.env.locals m->h'.Ns X.env.locals m) (hok:HOk X.prog X.w H' h') (hg:AllBare g') :
  Inv X pins σ H' { s with heap:=h',gens:=g',drawn:=d',toks:=t' }:=by
 have neL:∀ b o,X.s₀.heap.get? b=Z o->b≠X.env.locals:=λb o e=>UR (UI (UA e) I.ok.above)
 have neC:∀ b o,X.s₀.heap.get? b=Z o->b ∉ X.ex->b ∉ ch:=λb o e hx hb=>by
  rcases(hch b hb).1 with z | z
  ·exact hx z
  ·exact absurd (UI (UA e) z) (VI _)
 have cellK:∀ x c,X.env.cells.lookup x=Z c->∀ v,s.heap.IsCell c v->h'.IsCell c v:=λx c e v ⟨o,ho,hd⟩=>by
  have nch:c ∉ ch:=λz=>(hch c z).2.2.1 x c e rfl
  by_cases hc:c∈X.fs
  ·obtain⟨sl,q⟩:=slot c o (I.cne x c e) hc nch ho (I.freeC x c e)
   exact⟨_,q,hd⟩
  ·exact⟨o,keep c o (I.cne x c e) hc nch ho (I.freeC x c e),hd⟩
 refine⟨I.ok,I.os,hg,⟨λb o e n hb hx=>?_,λb o e n hb hx=>?_,λb o e n hx=>?_,λb o e hx=>?_,λb xs e=>tups b xs (I.base.tups b xs e),λb o xs e=>frzs b o xs (I.base.frzs b o xs e),λb ps e=>?_⟩,?_,λx c e=>?_,?_,λx c e=>?_,λp hp=>?_,hok,I.len⟩
 ·exact keep b o (neL b o e) hb (neC b o e hx) (I.base.keep b o e n hb hx) (I.base.free b o e n hx)
 ·obtain⟨sl,e1⟩:=I.base.slot b o e n hb hx
  obtain⟨sl',e2⟩:=slot b _ (neL b o e) hb (neC b o e hx) e1 (I.base.free b o e n hx)
  exact⟨sl',e2⟩
 ·obtain⟨o',e1⟩:=I.base.there b o e hx
  exact free b o' (neC b o e hx) e1 (I.base.free b o e n hx)
 ·obtain⟨o',e1⟩:=I.base.there b o e hx
  exact there b o' (neC b o e hx) e1
 ·obtain⟨m1,e1⟩:=I.base.tbls b ps e
  obtain⟨m2,e2⟩:=tbls b _ e1
  exact⟨m1++m2,by rw [e2,Array.append_assoc]⟩
 ·obtain⟨m,hn,hl⟩:=I.loc
  refine⟨m,ns m hn,λi x v e1 e2 e3=>?_⟩
  obtain⟨u,r,l⟩:=hl i x v e1 e2 e3
  refine⟨u,r,?_⟩
  rcases l with l | ⟨k,c,e,z⟩
  ·exact .inl l
  ·exact .inr ⟨k,c,e,cellK x c e _ z⟩
 ·obtain⟨v,z⟩:=I.cell x c e
  exact⟨v,cellK x c e v z⟩
 ·obtain⟨m,⟨o,_,_,ho,_⟩,_⟩:=I.loc
  exact free _ o (λz=>(hch _ z).2.1 rfl) ho I.free
 ·obtain⟨v,o,ho,hd⟩:=I.cell x c e
  exact free c o (λz=>(hch c z).2.2.1 x c e rfl) ho (I.freeC x c e)
 ·obtain⟨e,n,ne,nf,d⟩:=I.pin p hp
  have nch:p.1 ∉ ch:=λz=>(hch p.1 z).2.2.2 p hp rfl
  exact⟨keep p.1 p.2 ne nf nch e n,free p.1 p.2 nch e n,ne,nf,d⟩
def Inv.un{t':Nat}(I:Inv X pins σ H s)(u:Un X.fs [] H H' s.heap h')(hok:HOk X.prog X.w H' h'):Inv X pins σ H' { s with heap:=h',toks:=t' }:=by
 obtain⟨m,⟨o,es,ep,ho,r⟩,_⟩:=id I.loc
 obtain⟨sl,hL⟩:=u.any ho I.free (by simp)
 exact I.step (g':=s.gens) (d':=s.drawn) (ch:=[]) (λ_ z=>nomatch z) (λb o _ hb _ e n=>u.keep b o e n hb (by simp)) (λb o _ hb _ e n=>u.slot b o e n hb (by simp)) (λb o _ e n=>u.free b o e n (by simp)) (λb o _ e=>u.there b o e (by simp)) u.tups u.frzs u.tbls (λm' hm=>by
  obtain⟨o',es',ep',ho',r'⟩:=hm
  rw [ho] at ho';cases ho'
  exact⟨_,es',ep',hL,r'⟩) hok I.bare
def Inv.call{g':Array GenState}{t':Nat}{d':Drawn}{ch:List Addr}(I:Inv X pins σ H s)(u:Un (Hg X.stack) ch H H' s.heap h')(hok:HOk X.prog X.w H' h')(hg:AllBare g')
  (hch:∀ b∈ch,(b∈X.ex\/X.s₀.heap.objs.size<=b)/\b≠X.env.locals/\(∀ x c,X.env.cells.lookup x=Z c->c≠b)/\∀ p∈X.pn++pins,p.1≠b) :
  Inv X pins σ H' { s with heap:=h',gens:=g',drawn:=d',toks:=t' }:=by
 obtain⟨m,⟨o,es,ep,ho,r⟩,_⟩:=id I.loc
 obtain⟨sl,hL⟩:=u.any ho I.free λz=>(hch _ z).2.1 rfl
 exact I.step (ch:=ch) hch (λb o hL hb hc e n=>u.keep b o e n (λz=>(UO.mp (I.stkSub b z)).elim hL hb) hc) (λb o _ _ hc e n=>u.any e n hc) (λb o hc e n=>u.free b o e n hc) (λb o hc e=>u.there b o e hc) u.tups u.frzs u.tbls (λm' hm=>by
  obtain⟨o',es',ep',ho',r'⟩:=hm
  rw [ho] at ho';cases ho'
  exact⟨_,es',ep',hL,r'⟩) hok hg
def Inv.turned{t':Nat}{it:Addr}(I:Inv X pins σ H s)(k:∀ b o,b≠it->s.heap.get? b=Z o->h'.get? b=Z o)(hn:H it=U)(hL:it≠X.env.locals)
  (h1:it∈X.ex\/X.s₀.heap.objs.size<=it) (h2:∀ x c,X.env.cells.lookup x=Z c->c≠it) (h3:∀ p∈X.pn++pins,p.1≠it):Inv X pins σ H { s with heap:=h',toks:=t' }:=by
 have nit:∀ b u,H b=Z u->b≠it:=λb u e z=>by rw [z,hn] at e;cases e
 refine I.step (g':=s.gens) (d':=s.drawn) (ch:=[it]) (λb hb=>?_) (λb o _ _ hc e _=>k b o (λz=>hc (by simp [z])) e) (λb o _ _ hc e _=>⟨o.slots,k b o (λz=>hc (by simp [z])) e⟩) (λ_ _ _ _ n=>n)
  (λb o hc e=>⟨o,k b o (λz=>hc (by simp [z])) e⟩) (λ_ _ e=>e) (λ_ _ _ e=>e) (λb ps e=>⟨#[],by rw [e];simp⟩) (λm hm=>?_) (λb u e=>?_) I.bare
 ·have e:b=it:=by simpa using hb
  subst e
  exact⟨h1,hL,h2,h3⟩
 ·obtain⟨o,es,ep,ho,r⟩:=hm
  exact⟨o,es,ep,k _ o (Ne.symm hL) ho,r⟩
 ·refine(I.hok b u e).stay (λc v hc q=>k c v ?_ q) (λ_ q=>q) λ_ _ q=>q
  rcases hc with z | z
  ·rw [z];exact nit b u e
  ·exact nit c _ z
def Inv.tok(I:Inv X pins σ H s)(t:Nat):Inv X pins σ H { s with toks:=t }:=I.un (h':=s.heap) (t':=t) Un.refl I.hok
theorem Inv.kept{t':Nat}(I:Inv X pins σ H s)(k:∀ b u,s.heap.get? b=Z u->h'.get? b=Z u):Inv X pins σ H { s with heap:=h',toks:=t' }:=I.un (Un.kept k) (I.hok.kept k)
theorem Inv.laid{a:Addr}{o:HO}{t':Nat}(I:Inv X pins σ H s)(k:∀ b u,s.heap.get? b=Z u->h'.get? b=Z u)(hp:s.heap.objs.size<=a)(new:ObjOk X.prog X.w (upd H a o) h' a o) :
  Inv X pins σ (upd H a o) { s with heap:=h',toks:=t' }:=I.un (Un.laid k hp (I.hok.fresh hp)) (I.hok.laid k hp new)
theorem Inv.write{x e:Addr}{o:HO}{t':Nat}(I:Inv X pins σ H s)(mu:Mut (H x))(he:e=x\/H e=Z (.own x))(k:∀ b u,b≠e->s.heap.get? b=Z u->h'.get? b=Z u)(heo:∃ u,h'.get? e=Z u)
  (new:ObjOk X.prog X.w (upd H x o) h' x o):Inv X pins σ (upd H x o) { s with heap:=h',toks:=t' }:=I.un (Un.write mu he k heo) (I.hok.write mu he k heo new)
def Inv.pins_of{pins':List (Addr×Obj)}(I:Inv X pins σ H s)(h:∀ p∈pins',s.heap.get? p.1=Z p.2/\H p.1=U/\p.1≠X.env.locals/\p.1 ∉ X.fs/\∀ v,p.2.data≠.cell v):Inv X pins' σ H s:=
 ⟨I.ok,I.os,I.bare,I.base,I.loc,I.cell,I.free,I.freeC,λp hp=>(UJ.mp hp).elim (λz=>I.pin p (US _ z)) (h p),I.hok,I.len⟩
def zA{N:List Str}(hN:N.Nodup){i j:Nat}{x:Str}(a:N[i]?=Z x)(b:N[j]?=Z x):i=j:=by
 obtain⟨h1,e1⟩:=Uj.mp a
 obtain⟨h2,e2⟩:=Uj.mp b
 exact(List.getElem_inj hN).mp (e1.trans e2.symm)
def uY{M:Model}{A:Around}{E:Value->Shared->Prop}{i:Nat}{x:Str}{v:V}{u:Value}{Q:Unit->Shared->Prop}(I:Inv X pins σ H s)(hN:X.N.Nodup)(hi:X.N[i]?=Z x)(hx:Lz X.env.scope x)(r:RelV v u)
  (h:∀ s',Inv X pins (σ.set i (Z v)) H s'->(∃ a,Heap.SameBut a s.heap s'.heap/\(a=X.env.locals\/X.env.cells.lookup x=Z a))->Q () s') (hf:X.fn x=true\/X.env.scope.names.lookup x=Z .local:=by first | exact .inl rfl | exact .inr rfl | assumption):wpAny M A (storeName X.env x u) Q E s:=by
 obtain⟨m,hn,hl⟩:=id I.loc
 have hcls:(X.env.scope.kind == .class||(X.env.scope.kind == .module&&X.env.locals != X.env.globals))=false:=by rw [I.ok.kind];rfl
 have hiσ:i < σ.length:=by rw [I.len];exact(Uj.mp hi).1
 have cne:=I.cne
 have tracked:∀ {a:Addr} {h':Heap},(∃ o,s.heap.get? a=Z o/\H a=U)->Heap.SameBut a s.heap h'->HOk X.prog X.w H h':=λ{a h'} ha hs b ob e=>by
  obtain⟨_,_,hfree⟩:=ha
  refine(I.hok b ob e).stay (λc w' hc q=>(hs.2 c ?_).trans q) (λ_ q=>q) λ_ _ q=>q
  rintro rfl
  rcases hc with rfl | hc
  ·rw [hfree] at e;cases e
  ·rw [hfree] at hc;cases hc
 rcases hx with hk | hk
 ·refine wpAny_storeName_local hk hn (λh' hn' hs=>?_) hcls
  obtain⟨oL,_,_,hoL,_⟩:=id hn
  refine h _ ⟨I.ok,I.os,I.bare,⟨λb o e n hb hx=>?_,λb o e n hb hx=>?_,I.base.free,λb o e hx=>?_,I.base.tups,I.base.frzs,I.base.tbls⟩,⟨_,hn',λj y v' e1 e2 e3=>?_⟩,λy c e=>?_,I.free,I.freeC,λp hp=>?_,tracked ⟨oL,hoL,I.free⟩ hs,by simpa using I.len⟩ ⟨_,hs,.inl rfl⟩
  ·exact(hs.2 b (UR (UI (UA e) I.ok.above))).trans (I.base.keep b o e n hb hx)
  ·obtain⟨sl,e1⟩:=I.base.slot b o e n hb hx
   exact⟨sl,(hs.2 b (UR (UI (UA e) I.ok.above))).trans e1⟩
  ·obtain⟨o',e1⟩:=I.base.there b o e hx
   exact⟨o',(hs.2 b (UR (UI (UA e) I.ok.above))).trans e1⟩
  ·by_cases hj:j=i
   ·subst hj
    rw [hi] at e1;cases e1
    rw [UP hiσ] at e2
    cases e2
    exact⟨u,r,.inl ⟨hk,by simp⟩⟩
   ·rw [UT (Ne.symm hj)] at e2
    obtain⟨u',r',q⟩:=hl j y v' e1 e2 e3
    refine⟨u',r',?_⟩
    rcases q with ⟨k,e⟩ | ⟨k,c,e,z⟩
    ·refine .inl ⟨k,?_⟩
     have:y≠x:=λe=>hj (zA hN e1 (e ▸ hi))
     simp [this,e]
    ·exact .inr ⟨k,c,e,z.sameBut hs (cne y c e)⟩
  ·obtain⟨w',z⟩:=I.cell y c e
   exact⟨w',z.sameBut hs (cne y c e)⟩
  ·obtain⟨e,n,ne,nf,d⟩:=I.pin p hp
   exact⟨(hs.2 p.1 ne).trans e,n,ne,nf,d⟩
 ·have hfn:X.fn x=true:=by
   rcases hf with z | z
   ·exact z
   ·rw [z] at hk;cases hk
  obtain⟨c,hc⟩:=I.ok.has x (.inl hk)
  obtain⟨w',z⟩:=I.cell x c hc
  refine wpAny_storeName_cell I.ok.kind hk hc z (λh' hc' hs=>?_)
  obtain⟨oc,hoc,hocd⟩:=id z
  refine h { s with heap:=h' } ⟨I.ok,I.os,I.bare,⟨λb o e n hb hx=>?_,λb o e n hb hx=>?_,I.base.free,λb o e hx=>?_,I.base.tups,I.base.frzs,I.base.tbls⟩,⟨m,hn.sameBut hs (Ne.symm (cne x c hc)),λj y v' e1 e2 e3=>?_⟩,λy c' e=>?_,I.free,I.freeC,λp hp=>?_,tracked ⟨oc,hoc,I.freeC x c hc⟩ hs,by simpa using I.len⟩ ⟨c,hs,.inr hc⟩
  ·exact(hs.2 b (UR (UI (UA e) (I.ok.cab x c hfn hc)))).trans (I.base.keep b o e n hb hx)
  ·obtain⟨sl,e1⟩:=I.base.slot b o e n hb hx
   exact⟨sl,(hs.2 b (UR (UI (UA e) (I.ok.cab x c hfn hc)))).trans e1⟩
  ·obtain⟨o',e1⟩:=I.base.there b o e hx
   exact⟨o',(hs.2 b (UR (UI (UA e) (I.ok.cab x c hfn hc)))).trans e1⟩
  ·by_cases hj:j=i
   ·subst hj
    rw [hi] at e1;cases e1
    rw [UP hiσ] at e2
    cases e2
    exact⟨u,r,.inr ⟨.inl hk,c,hc,hc'⟩⟩
   ·rw [UT (Ne.symm hj)] at e2
    obtain⟨u',r',q⟩:=hl j y v' e1 e2 e3
    refine⟨u',r',?_⟩
    rcases q with q | ⟨k,c',e,z'⟩
    ·exact .inl q
    ·refine .inr ⟨k,c',e,z'.sameBut hs ?_⟩
     rintro rfl
     exact hj (zA hN e1 (I.ok.inj _ _ _ e hc ▸ hi))
  ·by_cases hcc:c'=c
   ·subst hcc;exact⟨_,hc'⟩
   ·obtain⟨w2,z2⟩:=I.cell y c' e
    exact⟨w2,z2.sameBut hs hcc⟩
  ·obtain⟨e,n,ne,nf,d⟩:=I.pin p hp
   refine⟨(hs.2 p.1 ?_).trans e,n,ne,nf,d⟩
   intro q
   rw [q,hoc] at e
   have q':oc=p.2:=Uu e
   exact d w' (by rw [<- q'];exact hocd)
def oq{M:Model}{A:Around}{E:Value->Shared->Prop}{i:Nat}{x:Str}{v:V}{u:Value}{Q:Unit->Shared->Prop}(I:Inv X pins σ H s)(hN:X.N.Nodup)(hi:X.N[i]?=Z x)(hx:Lz X.env.scope x)(r:RelV v u)
  (h:∀ s',Inv X pins (σ.set i (Z v)) H s'->Q () s') (hf:X.fn x=true\/X.env.scope.names.lookup x=Z .local:=by first | exact .inl rfl | exact .inr rfl | assumption):wpAny M A (storeName X.env x u) Q E s:=
 uY I hN hi hx r (λs' I' _=>h s' I') hf
def Inv.call'{s':Shared}{ch:List Addr}(I:Inv X pins σ H s)(ho:s'.os=s.os)(u:Un (Hg X.stack) ch H H' s.heap s'.heap)(hok:HOk X.prog X.w H' s'.heap)(hg:AllBare s'.gens)
  (hch:∀ b∈ch,(b∈X.ex\/X.s₀.heap.objs.size<=b)/\b≠X.env.locals/\(∀ x c,X.env.cells.lookup x=Z c->c≠b)/\∀ p∈X.pn++pins,p.1≠b):Inv X pins σ H' s':=by
 obtain⟨h',g',d',t',o'⟩:=s'
 have e:o'=s.os:=ho
 subst e
 exact I.call (g':=g') (t':=t') (d':=d') u hok hg hch
end
abbrev XK:=Value->Option Addr->Hp->Prop
abbrev St:=List (Option V)
abbrev VK:=V->Hp->Prop
abbrev TE:=St->Hp->VK->Prop
abbrev TT:=St->Hp->(Bool->Hp->Prop)->Prop
abbrev TA:=St->Hp->(List V->Hp->Prop)->Prop
structure uQ where
 nx:St->Hp->Prop
 rt:VK
 bk:St->Hp->Prop:=λ_ _=>False
 ct:St->Hp->Prop:=λ_ _=>False
abbrev TS:=uQ->St->Hp->Prop
def EP(X:Cx)(pins:List (Addr×Obj))(σ:St)(Q:VK)(u:Value)(s':Shared):Prop:=∃ v H',Inv X pins σ H' s'/\RelV v u/\Q v H'
def TP(X:Cx)(pins:List (Addr×Obj))(σ:St)(Q:Bool->Hp->Prop)(b:Bool)(s':Shared):Prop:=∃ H',Inv X pins σ H' s'/\Q b H'
def AP(X:Cx)(pins:List (Addr×Obj))(σ:St)(Q:List V->Hp->Prop)(us:List Value)(s':Shared):Prop:=∃ vs H',Inv X pins σ H' s'/\Vals vs us/\Q vs H'
def SP(X:Cx)(pins:List (Addr×Obj))(D:uQ)(f:Flow)(s':Shared):Prop:=
 match f with
 | .next=>∃ σ' H',Inv X pins σ' H' s'/\D.nx σ' H'
 | .brk=>∃ σ' H',Inv X pins σ' H' s'/\D.bk σ' H'
 | .cont=>∃ σ' H',Inv X pins σ' H' s'/\D.ct σ' H'
 | .ret u=>∃ v σ' H',Inv X pins σ' H' s'/\RelV v u/\D.rt v H'
def PE(X:Cx)(e:Expr)(t:TE):Prop:=
 ∀ (pins:List (Addr×Obj)) (s:Shared) (σ:St) (H:Hp) (Q:VK),Inv X pins σ H s->t σ H Q->wpAny (model X.prog X.w) X.A (eval e X.env) (EP X pins σ Q) X.xe s
def PT(X:Cx)(e:Expr)(t:TT):Prop:=
 ∀ (pins:List (Addr×Obj)) (s:Shared) (σ:St) (H:Hp) (Q:Bool->Hp->Prop),Inv X pins σ H s->t σ H Q->wpAny (model X.prog X.w) X.A (isTrue e X.env (eval e X.env)) (TP X pins σ Q) X.xe s
def PW(X:Cx)(e:Expr)(t:TT):Prop:=
 ∀ (whole:Sem Value) (pins:List (Addr×Obj)) (s:Shared) (σ:St) (H:Hp) (Q:Bool->Hp->Prop),Inv X pins σ H s->t σ H Q->wpAny (model X.prog X.w) X.A (isTrue e X.env whole) (TP X pins σ Q) X.xe s
def PW.pt{X:Cx}{e:Expr}{t:TT}(h:PW X e t):PT X e t:=h _
def PA(X:Cx)(es:List Expr)(t:TA):Prop:=
 ∀ (pos:Pos) (pins:List (Addr×Obj)) (s:Shared) (σ:St) (H:Hp) (Q:List V->Hp->Prop),Inv X pins σ H s->t σ H Q->wpAny (model X.prog X.w) X.A (spliced (backTo pos (starEach es X.env))) (AP X pins σ Q) X.xe s
def PS(X:Cx)(st:Stmt)(t:TS):Prop:=
 ∀ (pins:List (Addr×Obj)) (s:Shared) (σ:St) (H:Hp) (D:uQ),Inv X pins σ H s->t D σ H->wpAny (model X.prog X.w) X.A (exec st X.env) (SP X pins D) X.xe s
def PSs(X:Cx)(st:List Stmt)(t:TS):Prop:=
 ∀ (pins:List (Addr×Obj)) (s:Shared) (σ:St) (H:Hp) (D:uQ),Inv X pins σ H s->t D σ H->wpAny (model X.prog X.w) X.A (execs st X.env) (SP X pins D) X.xe s
def da{α:Type}{t:Sem α}{Q Q':α->Shared->Prop}{M:Model}{A:Around}{E:Value->Shared->Prop}{s:Shared}(h:wpAny M A t Q E s)(hQ:∀ a s,Q a s->Q' a s):wpAny M A t Q' E s:=Va h hQ λ_ _ x=>x
section
variable{X:Cx}
def bin{a b:Expr}{ta tb:TE}(ha:PE X a ta)(hb:PE X b tb){pins:List (Addr×Obj)}{s:Shared}{σ:St}{H:Hp}{R:V->V->Hp->Prop}(I:Inv X pins σ H s)(h:ta σ H λx H1=>tb σ H1 λy H2=>R x y H2)
  {α:Type} {Q:α->Shared->Prop} {f:Value->Value->Sem α}
  (hf:∀ v u s2 x y H2,Inv X pins σ H2 s2->RelV x v->RelV y u->R x y H2->wpAny (model X.prog X.w) X.A (f v u) Q X.xe s2) :
  wpAny (model X.prog X.w) X.A (eval a X.env) (λv s₁=>wpAny (model X.prog X.w) X.A (eval b X.env) (λu s₂=>wpAny (model X.prog X.w) X.A (f v u) Q X.xe s₂) X.xe s₁) X.xe s:=by
 refine da (ha pins s σ H _ I h) λv s1 ⟨x,H1,I1,r1,q1⟩=>?_
 refine da (hb pins s1 σ H1 _ I1 q1) λu s2 ⟨y,H2,I2,r2,q2⟩=>?_
 exact hf v u s2 x y H2 I2 r1 r2 q2
def tVar(i:Nat):TE:=λσ H Q=>∃ v,σ[i]?=Z (Z v)/\Q v H
def tC(v:V):TE:=λ_ H Q=>Q v H
def Iq{i:Nat}{x:Str}{pos:Pos}(hN:X.N[i]?=Z x)(hv:Ua X.env.scope x)(hd:(x == ("__debug__":Str))=false:=by decide)(hcd:(x == ("__classdict__":Str))=false:=by decide):PE X (.Name x pos) (tVar i):=by
 intro pins s σ H Q I h
 obtain⟨v,e,h⟩:=h
 obtain⟨m,hn,hl⟩:=I.loc
 obtain⟨u,r,l⟩:=hl i x v hN e hv
 have fin:EP X pins σ Q u s:=⟨v,H,I,r,h⟩
 rcases l with ⟨hk,hm⟩ | ⟨hk,c,hc,hcell⟩
 ·exact wpAny_Name (wpAny_loadName_local I.ok.kind hk hn hm fin) hd
 ·rcases hk with hk | hk
  ·exact wpAny_Name (wpAny_loadName_cell I.ok.kind hk hc hcell fin) hd
  ·exact wpAny_Name (wpAny_loadName_free I.ok.kind hk hc hcell fin hcd) hd
def QR{i j pos}:PE X (.Constant (.int i) j pos) (tC (.int i)):=λ_ _ _ H _ I h=>wpAny_Constant_int ⟨.int i,H,I.tok _,⟨_,rfl⟩,h⟩
def pe_bl{b j pos}:PE X (.Constant (.bool b) j pos) (tC (.bl b)):=λ_ _ _ H _ I h=>Constant_bool ⟨.bl b,H,I,rfl,h⟩
def QQ{j pos}:PE X (.Constant .none j pos) (tC .non):=λ_ _ _ H _ I h=>Constant_none ⟨.non,H,I,rfl,h⟩
def QN{x j pos}:PE X (.Constant (.str x) j pos) (tC (.str x)):=λ_ _ _ H _ I h=>Yx ⟨.str x,H,I.tok _,⟨_,rfl⟩,h⟩
def Gl(X:Cx)(x:Str):Prop:=X.env.kindOf x=Z .globalImplicit
def yf{E:Value->Shared->Prop}{pins:List (Addr×Obj)}{s:Shared}{σ:St}{H:Hp}{x:Str}{u:Value}{pos:Pos}{Q:Value->Shared->Prop}(I:Inv X pins σ H s)(hg:Gl X x)(hm:X.mg x=Z u)(h:Q u s)
  (hd:(x == ("__debug__":Str))=false:=by decide):wpAny (model X.prog X.w) X.A (eval (.Name x pos) X.env) Q E s:=
 XA I.ok.kind hg (Calls.loadGlobal_global (by rw [I.ok.glob];exact I.mod.glob.keeps I.bk) hm h) hd
def pL{E:Value->Shared->Prop}{pins:List (Addr×Obj)}{s:Shared}{σ:St}{H:Hp}{x:Str}{u:Value}{pos:Pos}{Q:Value->Shared->Prop}(I:Inv X pins σ H s)(hg:Gl X x)(hm:X.mg x=U)(hv:bootBuiltins x=Z u)(h:Q u s)
  (hn:x ≠ "__name__":=by decide) (hd:(x == ("__debug__":Str))=false:=by decide):wpAny (model X.prog X.w) X.A (eval (.Name x pos) X.env) Q E s:=by
 obtain⟨mb,h1,h2⟩:=I.mod.blt
 exact XA I.ok.kind hg (Calls.loadGlobal_builtin (by rw [I.ok.glob];exact I.mod.glob.keeps I.bk) hm (by rw [I.ok.blt];exact h1.keeps I.bk) ((h2 x hn).trans hv) h) hd
def xr{x:Str}{v:V}{u:Value}{pos:Pos}(hg:Gl X x)(hm:X.mg x=Z u)(r:RelV v u)(hd:(x == ("__debug__":Str))=false:=by decide):PE X (.Name x pos) (tC v):=
 λ_ _ _ H _ I h=>yf I hg hm ⟨v,H,I,r,h⟩ hd
def Mz{x:Str}{v:V}{u:Value}{pos:Pos}(hg:Gl X x)(hm:X.mg x=U)(hv:bootBuiltins x=Z u)(r:RelV v u)(hn:x ≠ "__name__":=by decide)(hd:(x == ("__debug__":Str))=false:=by decide):PE X (.Name x pos) (tC v):=
 λ_ _ _ H _ I h=>pL I hg hm hv ⟨v,H,I,r,h⟩ hn hd
variable{a b:Expr}{ta tb:TE}{pos:Pos}
variable{tA tB':TT}{rest:List Expr}
def tAnd(t u:TT):TT:=λσ H Q=>t σ H λc H1=>if c=true then u σ H1 Q else Q false H1
def tOr(t u:TT):TT:=λσ H Q=>t σ H λc H1=>if c=true then Q true H1 else u σ H1 Q
def tNot(t:TT):TT:=λσ H Q=>t σ H λc H1=>Q (!c) H1
def Mg(ha:PT X a tA):PW X (.BoolOp .And [a] pos) tA:=by
 intro wh pins s σ H Q I h
 refine isTrue_and (da (ha pins s σ H Q I h) λc s1 e=>?_)
 cases c with
 | true=>exact isTrue_and_nil e
 | false=>exact e
def QD(ha:PT X a tA):PW X (.BoolOp .Or [a] pos) tA:=by
 intro wh pins s σ H Q I h
 refine isTrue_or (da (ha pins s σ H Q I h) λc s1 e=>?_)
 cases c with
 | false=>exact isTrue_or_nil e
 | true=>exact e
def QE(ha:PT X a tA)(hb:PW X (.BoolOp .And (b::rest) pos) tB'):PW X (.BoolOp .And (a::b::rest) pos) (tAnd tA tB'):=by
 intro wh pins s σ H Q I h
 refine isTrue_and (da (ha pins s σ H _ I h) λc s1 ⟨H1,I1,q1⟩=>?_)
 cases c with
 | true=>exact hb wh pins s1 σ H1 Q I1 q1
 | false=>exact⟨H1,I1,q1⟩
def pw_or(ha:PT X a tA)(hb:PW X (.BoolOp .Or (b::rest) pos) tB'):PW X (.BoolOp .Or (a::b::rest) pos) (tOr tA tB'):=by
 intro wh pins s σ H Q I h
 refine isTrue_or (da (ha pins s σ H _ I h) λc s1 ⟨H1,I1,q1⟩=>?_)
 cases c with
 | true=>exact⟨H1,I1,q1⟩
 | false=>exact hb wh pins s1 σ H1 Q I1 q1
def QF(ha:PT X a tA):PT X (.UnaryOp .Not a pos) (tNot tA):=by
 intro pins s σ H Q I h
 exact isTrue_not (ha pins s σ H (λc H1=>Q (!c) H1) I h)
def QP{op}{t:TE}(h:PE X a t):PE X (.BoolOp op [a] pos) t:=λpins s σ H Q I hw=>BoolOp_one (h pins s σ H Q I hw)
def tIf(t:TT)(ta tb:TE):TE:=λσ H Q=>t σ H λc H1=>if c=true then ta σ H1 Q else tb σ H1 Q
def Iw{c:Expr}(hc:PT X c tA)(ha:PE X a ta)(hb:PE X b tb):PE X (.IfExp c a b pos) (tIf tA ta tb):=by
 intro pins s σ H Q I h
 refine wpAny_IfExp (da (hc pins s σ H _ I h) λd s1 ⟨H1,I1,q1⟩=>?_)
 cases d with
 | true=>exact ha pins s1 σ H1 Q I1 q1
 | false=>exact hb pins s1 σ H1 Q I1 q1
end
def mU(K:W.Frag)(H:Hp)(a:Addr)(xs:List V):Prop:=
 Rd H a (.lst xs) \/
  ∃ (o:Obj) (its:Array Value) (n:Nat),K.lookup a=Z o/\o.cls=.type "list"/\o.dict=U/\o.data=.seq its n/\its.size<=sizeLine/\Vals xs its.toList
def oo(K:W.Frag)(H:Hp)(a:Addr)(xs:List V):Prop:=
 Rd H a (.tup xs) \/
  ∃ (o:Obj) (its:Array Value) (n:Nat),K.lookup a=Z o/\o.cls=.type "tuple"/\o.dict=U/\o.data=.seq its n/\its.size<=sizeLine/\Vals xs its.toList
noncomputable def absV:Value->Option V
 | .none=>Z .non
 | .bool b=>Z (.bl b)
 | .int i _=>Z (.int i)
 | .str x _=>Z (.str x)
 | .bytes b _=>Z (.byt b)
 | .float b _=>Z (.flt b)
 | .ref a=>Z (.ref a)
 | .type n=>Z (.ty n)
 | _=>U
def RelV.abs{x:V}{u:Value}(r:RelV x u):absV u=Z x:=by
 cases x with
 | non=>cases r;rfl
 | bl _=>cases r;rfl
 | int _=>obtain⟨t,rfl⟩:=r;rfl
 | str _=>obtain⟨t,rfl⟩:=r;rfl
 | byt _=>obtain⟨t,rfl⟩:=r;rfl
 | flt _=>obtain⟨t,rfl⟩:=r;rfl
 | ref _=>cases r;rfl
 | ty _=>cases r;rfl
theorem RelV.inj{x y:V}{u:Value}(r:RelV x u)(q:RelV y u):x=y:=Uu (r.abs.symm.trans q.abs)
theorem Vals.inj:∀ {xs ys:List V} {us:List Value},Vals xs us->Vals ys us->xs=ys
 | _,_,_,.nil,.nil=>rfl
 | _,_,_,.cons r t,.cons r' t'=>by rw [r.inj r',Vals.inj t t']
section
variable{X:Cx}{pins:List (Addr×Obj)}{σ:St}{H:Hp}{s:Shared}{a:Addr}{xs ys:List V}
def Inv.list(I:Inv X pins σ H s)(h:mU X.K H a xs):∃ its:List Value,Vals xs its/\PlainL s.heap a its.toArray/\xs.length<=sizeLine:=by
 rcases h with h | ⟨o,its,n,hk,hc,hd,hs,hz,r⟩
 ·obtain⟨z,its,n,r,e⟩:=h.ok I.hok
  exact⟨its,r,⟨_,n,e,rfl,rfl,rfl⟩,z⟩
 ·refine⟨its.toList,r,⟨o,n,I.kIn a o hk,hc,hd,by simpa using hs⟩,?_⟩
  have e:=r.length
  simp only [WU] at e
  omega
def Inv.tuple(I:Inv X pins σ H s)(h:oo X.K H a xs):∃ its:List Value,Vals xs its/\IsTup s.heap a its.toArray/\xs.length<=sizeLine:=by
 rcases h with h | ⟨o,its,n,hk,hc,hdn,hs,hz,r⟩
 ·obtain⟨z,its,r,p⟩:=h.ok I.hok
  exact⟨its,r,p.up,z⟩
 ·refine⟨its.toList,r,⟨o,I.kIn a o hk,hc,n,by simpa using hs⟩,?_⟩
  have e:=r.length
  simp only [WU] at e
  omega
def Inv.list_inj(I:Inv X pins σ H s)(h:mU X.K H a xs)(h':mU X.K H a ys):xs=ys:=by
 obtain⟨its,r,⟨o,n,e,_,_,d⟩,_⟩:=I.list h
 obtain⟨its',r',⟨o',n',e',_,_,d'⟩,_⟩:=I.list h'
 rw [e] at e';cases e'
 rw [d] at d'
 injection d' with d1 _
 have:its=its':=by simpa using congrArg Array.toList d1
 subst this
 exact r.inj r'
def Inv.tuple_inj(I:Inv X pins σ H s)(h:oo X.K H a xs)(h':oo X.K H a ys):xs=ys:=by
 obtain⟨its,r,⟨o,e,_,n,d⟩,_⟩:=I.tuple h
 obtain⟨its',r',⟨o',e',_,n',d'⟩,_⟩:=I.tuple h'
 rw [e] at e';cases e'
 rw [d] at d'
 injection d' with d1 _
 have:its=its':=by simpa using congrArg Array.toList d1
 subst this
 exact r.inj r'
end
noncomputable abbrev Cx.wish(X:Cx)(E:Value->Shared->Prop):Cx:={ X with xe:=E }
noncomputable abbrev Cx.nox(X:Cx):Cx:=X.wish λ_ _=>False
theorem Cx.Ok.wish{X:Cx}(ok:X.Ok)(E:Value->Shared->Prop):(X.wish E).Ok:=
 ⟨ok.mod,ok.kind,ok.glob,ok.blt,ok.above,ok.inj,ok.has,ok.cab,ok.hd,ok.frames,ok.stk,ok.exf,ok.bs,ok.bsz,ok.noex,ok.exfs,ok.funs,ok.frf⟩
def Cx.Ok.unwish{X:Cx}{E:Value->Shared->Prop}(ok:(X.wish E).Ok):X.Ok:=
 ⟨ok.mod,ok.kind,ok.glob,ok.blt,ok.above,ok.inj,ok.has,ok.cab,ok.hd,ok.frames,ok.stk,ok.exf,ok.bs,ok.bsz,ok.noex,ok.exfs,ok.funs,ok.frf⟩
section
variable{X:Cx}{pins:List (Addr×Obj)}{σ:St}{H:Hp}{s:Shared}{E:Value->Shared->Prop}
theorem Inv.wish(I:Inv X pins σ H s)(E:Value->Shared->Prop):Inv (X.wish E) pins σ H s:=⟨I.ok.wish E,I.os,I.bare,I.base,I.loc,I.cell,I.free,I.freeC,I.pin,I.hok,I.len⟩
theorem Inv.unwish(I:Inv (X.wish E) pins σ H s):Inv X pins σ H s:=⟨I.ok.unwish,I.os,I.bare,I.base,I.loc,I.cell,I.free,I.freeC,I.pin,I.hok,I.len⟩
theorem SP.unwish{D:uQ}{f:Flow}{s':Shared}(h:SP (X.wish E) pins D f s'):SP X pins D f s':=by
 cases f with
 | next=>obtain⟨σ',H',I,q⟩:=h;exact⟨σ',H',I.unwish,q⟩
 | brk=>obtain⟨σ',H',I,q⟩:=h;exact⟨σ',H',I.unwish,q⟩
 | cont=>obtain⟨σ',H',I,q⟩:=h;exact⟨σ',H',I.unwish,q⟩
 | ret u=>obtain⟨v,σ',H',I,r,q⟩:=h;exact⟨v,σ',H',I.unwish,r,q⟩
theorem PSs.nox{st:List Stmt}{t:TS}(h:PSs X.nox st t):PSs X st t:=λpins s σ H D I hw=>
 Va (h pins s σ H D (I.wish _) hw) (λ_ _ q=>q.unwish) λ_ _ z=>False.elim z
end
section
variable{X:Cx}{st:Stmt}{rest:List Stmt}{t u:TS}{e:Expr}{te:TE}{pos:Pos}
def HD:TS:=λD σ H=>D.nx σ H
def tSeq(t u:TS):TS:=λD σ H=>t { D with nx:=u D } σ H
def Mk:PSs X [] HD:=λ_ _ σ H _ I h=>WN ⟨σ,H,I,h⟩
def zk(h1:PS X st t)(h2:PSs X rest u):PSs X (st::rest) (tSeq t u):=by
 intro pins s σ H D I h
 refine wpAny_execs_cons (da (h1 pins s σ H { D with nx:=u D } I h) λf s1 q=>?_)
 cases f with
 | next=>
  obtain⟨σ',H',I',q⟩:=q
  exact h2 pins s1 σ' H' D I' q
 | ret v=>exact q
 | brk=>exact q
 | cont=>exact q
def DB(h1:PS X st t):PSs X [st] t:=by
 intro pins s σ H D I h
 refine wpAny_execs_cons (da (h1 pins s σ H D I h) λf s1 q=>?_)
 cases f with
 | next=>exact WN q
 | ret v=>exact q
 | brk=>exact q
 | cont=>exact q
def Qq:TS:=λD σ H=>D.bk σ H
def tCont:TS:=λD σ H=>D.ct σ H
def Mm:PS X (.Pass pos) HD:=λ_ _ σ H _ I h=>wpAny_Pass ⟨σ,H,I,h⟩
def Ik:PS X (.Break pos) Qq:=λ_ _ σ H _ I h=>wpAny_Break ⟨σ,H,I,h⟩
def zm:PS X (.Continue pos) tCont:=λ_ _ σ H _ I h=>wpAny_Continue ⟨σ,H,I,h⟩
def Inv.quiet{pins:List (Addr×Obj)}{σ:St}{H:Hp}{s:Shared}(I:Inv X pins σ H s):interactive X.env=false:=by simp [interactive,I.ok.kind]
def QH{x j pos pos'}:PS X (.Expr (.Constant (.str x) j pos) pos') HD:=λ_ s σ H _ I h=>wpAny_Expr (Yx (show SP X _ _ .next { s with toks:=s.toks+1 } from ⟨σ,H,I.tok _,h⟩)) I.quiet
def tDrop(te:TE):TS:=λD σ H=>te σ H λ_ H1=>D.nx σ H1
def Mn(he:PE X e te)(hs:swapsWith e U pos.line X.env=pure false:=by rfl):PS X (.Expr e pos) (tDrop te):=by
 intro pins s σ H D I h
 exact wpAny_Expr_any (da (he pins s σ H _ I h) λv s1 ⟨x,H1,I1,r1,q1⟩=>⟨σ,H1,I1,q1⟩) I.quiet hs
def tRet(te:TE):TS:=λD σ H=>te σ H D.rt
def Ii(he:PE X e te):PS X (.Return (Z e) pos) (tRet te):=by
 intro pins s σ H D I h
 exact wpAny_Return_some (da (he pins s σ H _ I h) λv s1 ⟨x,H1,I1,r1,q1⟩=>⟨x,σ,H1,I1,r1,q1⟩)
def tRetN:TS:=λD _ H=>D.rt .non H
def Ml:PS X (.Return U pos) tRetN:=λ_ _ σ H _ I h=>wpAny_Return_none ⟨.non,σ,H,I,rfl,h⟩
def tIfS(c:TT)(t u:TS):TS:=λD σ H=>c σ H λb H1=>if b=true then t D σ H1 else u D σ H1
def ps_if{c:Expr}{a b:List Stmt}{tc:TT}(hc:PT X c tc)(ha:PSs X a t)(hb:PSs X b u):PS X (.If c a b pos) (tIfS tc t u):=by
 intro pins s σ H D I h
 refine wpAny_If (da (hc pins s σ H _ I h) λd s1 ⟨H1,I1,q1⟩=>?_)
 cases d with
 | true=>exact ha pins s1 σ H1 D I1 q1
 | false=>exact hb pins s1 σ H1 D I1 q1
end
abbrev TG:=V->St->Hp->(St->Hp->Prop)->Prop
abbrev PU:=List V->St->Hp->(St->Hp->Prop)->Prop
def PG(X:Cx)(target:Expr)(t:TG):Prop:=
 ∀ (pins:List (Addr×Obj)) (s:Shared) (σ:St) (H:Hp) (v:V) (u:Value) (Q:St->Hp->Prop),Inv X pins σ H s->RelV v u->t v σ H Q ->
  wpAny (model X.prog X.w) X.A (assign target X.env u) (λ_ s'=>∃ σ' H',Inv X pins σ' H' s'/\Q σ' H') X.xe s
def PGs(X:Cx)(ts:List Expr)(t:PU):Prop:=
 ∀ (pins:List (Addr×Obj)) (s:Shared) (σ:St) (H:Hp) (vs:List V) (us:List Value) (Q:St->Hp->Prop),Inv X pins σ H s->Vals vs us->t vs σ H Q ->
  wpAny (model X.prog X.w) X.A (assignInOrder ((assignEach ts X.env).map (·.2)) us) (λ_ s'=>∃ σ' H',Inv X pins σ' H' s'/\Q σ' H') X.xe s
abbrev Ub:=V->V->V->Hp->(Hp->Prop)->Prop
def PSet(X:Cx)(t:Ub):Prop:=
 ∀ (pins:List (Addr×Obj)) (s:Shared) (σ:St) (H:Hp) (o i v:V) (ov iv u:Value) (Q:Hp->Prop),Inv X pins σ H s->RelV o ov->RelV i iv->RelV v u->t o i v H Q ->
  wpAny (model X.prog X.w) X.A (setItem ov iv u) (λ_ s'=>∃ H',Inv X pins σ H' s'/\Q H') X.xe s
section
variable{X:Cx}{pos:Pos}
def Et(i:Nat):TG:=λv σ H Q=>Q (σ.set i (Z v)) H
def Mu{i:Nat}{x:Str}(hN:X.N.Nodup)(hi:X.N[i]?=Z x)(hx:Lz X.env.scope x)(hf:X.fn x=true\/X.env.scope.names.lookup x=Z .local:=by first | exact .inl rfl | exact .inr rfl | assumption):PG X (.Name x pos) (Et i):=by
 intro pins s σ H v u Q I r h
 exact wpAny_assign_Name (oq I hN hi hx r (λs' I'=>⟨_,H,I',h⟩) hf)
noncomputable def gNil:PU:=λvs σ H Q=>vs=[]/\Q σ H
noncomputable def gCons(t:TG)(u:PU):PU:=λvs σ H Q=>∃ v r,vs=v::r/\t v σ H λσ' H'=>u r σ' H' Q
def Mt:PGs X [] gNil:=by
 intro pins s σ H vs us Q I r h
 obtain⟨e,h⟩:=h
 subst e
 cases r
 exact assignInOrder_nil ⟨σ,H,I,h⟩
def Ip{e:Expr}{es:List Expr}{t:TG}{u:PU}(h1:PG X e t)(h2:PGs X es u)
  (hs:(assignEach (e::es) X.env).map (·.2)=assign e X.env::(assignEach es X.env).map (·.2):=by rfl):PGs X (e::es) (gCons t u):=by
 intro pins s σ H vs us Q I r h
 obtain⟨v,vr,e1,h⟩:=h
 subst e1
 cases r with
 | cons r rr=>
  rw [hs]
  refine WX (da (h1 pins s σ H _ _ _ I r h) λ_ s1 ⟨σ1,H1,I1,q1⟩=>?_)
  exact h2 pins s1 σ1 H1 _ _ Q I1 rr q1
def gTup(K:W.Frag)(n:Nat)(t:PU):TG:=λv σ H Q=>∃ a xs,v=.ref a/\oo K H a xs/\xs.length=n/\t xs σ H Q
def QK{es:List Expr}{k:Nat}{t:PU}{n:Nat}(hc:X.calm=true)(h:PGs X es t)
  (hn:(assignEach es X.env).length=n:=by rfl) (hst:(assignEach es X.env).findIdx? (·.1)=U:=by rfl):PG X (.Tuple es k pos) (gTup X.K n t):=by
 intro pins s σ H v u Q I r hw
 obtain⟨a,xs,e1,hq,hl,hw⟩:=hw
 subst e1
 cases r
 obtain⟨its,rv,ht,hz⟩:=I.tuple hq
 refine assign_Tuple_tuple (I.ok.hd hc) ht (by simp [hn,<- hl,rv.length]) hst λh' hx=>?_
 have I1:Inv X pins σ H { s with heap:=h' }:=I.kept (t':=s.toks) λb o e=>hx b o (UR (UA e)) e
 exact h pins _ σ H xs _ Q I1 (by simpa using rv) hw
def gSub(to ti:TE)(t:Ub):TG:=λv σ H Q=>to σ H λo H1=>ti σ H1 λi H2=>t o i v H2 λH3=>Q σ H3
def QL{o i:Expr}{to ti:TE}{t:Ub}(ho:PE X o to)(hi:PE X i ti)(hs:PSet X t)
  (ha:∀ v,assign (.Subscript o i pos) X.env v=(do
   let ov <- holding [v] (eval o X.env)
   let iv <- holding [v,ov] (eval i X.env)
   standAt pos
   holding [v,ov,iv] (setItem ov iv v)
   release [v,ov,iv] []):=by intro _;rfl):PG X (.Subscript o i pos) (gSub to ti t):=by
 intro pins s σ H v u Q I r h
 rw [ha]
 refine Up (VQ (da (ho pins s σ H _ I h) λov s1 ⟨x,H1,I1,r1,q1⟩=>?_))
 refine Up (VQ (da (hi pins s1 σ H1 _ I1 q1) λiv s2 ⟨y,H2,I2,r2,q2⟩=>?_))
 refine Up (Wp (Up (VQ (da (hs pins s2 σ H2 x y v ov iv u _ I2 r1 r2 r q2) λ_ s3 ⟨H3,I3,q3⟩=>?_))))
 exact wpAny_release ⟨σ,H3,I3,q3⟩
def HH(te:TE)(g:TG):TS:=λD σ H=>te σ H λx H1=>g x σ H1 D.nx
def QI{tg e:Expr}{te:TE}{g:TG}(he:PE X e te)(hg:PG X tg g)(hs:swapsWithSole [tg] e pos.line X.env=pure false:=by rfl)(hw:swappedStores [tg] e X.env=pure U:=by rfl)
  (h1:(assignEach [tg] X.env).map (·.2)=[assign tg X.env]:=by rfl):PS X (.Assign [tg] e pos) (HH te g):=by
 intro pins s σ H D I h
 refine wpAny_Assign_stores (da (he pins s σ H _ I h) λv s1 ⟨x,H1,I1,r1,q1⟩=>?_) hs hw
 rw [h1]
 exact da (hg pins s1 σ H1 x v _ I1 r1 q1) λ_ s2 q=>q
def Ih{i:Nat}{x:Str}{e:Expr}{te:TE}{pos':Pos}(hN:X.N.Nodup)(hi:X.N[i]?=Z x)(hx:Lz X.env.scope x)(he:PE X e te)(hs:swapsWith e (Z (.Name x pos')) pos.line X.env=pure false:=by rfl)(hf:X.fn x=true\/X.env.scope.names.lookup x=Z .local:=by first | exact .inl rfl | exact .inr rfl | assumption) :
  PS X (.Assign [.Name x pos'] e pos) (HH te (Et i)):=by
 intro pins s σ H D I h
 refine wpAny_Assign_Name (da (he pins s σ H _ I h) λv s1 ⟨y,H1,I1,r1,q1⟩=>?_) hs
 exact oq I1 hN hi hx r1 (λs2 I2=>⟨_,H1,I2,q1⟩) hf
def tPar(i j:Nat)(ta:TA):TS:=λD σ H=>ta σ H λvs H1=>∃ v w,vs=[v,w]/\D.nx ((σ.set i (Z v)).set j (Z w)) H1
def QG{i j:Nat}{x y:Str}{a b:Expr}{ta:TA}{px py pt:Pos}{kt k2 pt2}(hc:X.calm=true)(hN:X.N.Nodup)(hi:X.N[i]?=Z x)(hj:X.N[j]?=Z y)(hij:i≠j)
  (hx:X.env.scope.names.lookup x=Z .local) (hy:X.env.scope.names.lookup y=Z .local) (ha:PA X [a,b] ta)
  (hw:swappedStores [.Tuple [.Name x px,.Name y py] kt pt] (.Tuple [a,b] k2 pt2) X.env=pure (Z [x,y]))
  (hs:swapsWithSole [.Tuple [.Name x px,.Name y py] kt pt] (.Tuple [a,b] k2 pt2) pos.line X.env=pure false:=by rfl) :
  PS X (.Assign [.Tuple [.Name x px,.Name y py] kt pt] (.Tuple [a,b] k2 pt2) pos) (tPar i j ta):=by
 intro pins s σ H D I h
 rw [exec_Assign_arm]
 refine Up (Wp ?_)
 rw [hs]
 refine Up (UD ?_)
 rw [if_neg (by decide)]
 refine Up (Tuple_ (da (ha _ pins s σ H _ I h) λus s1 ⟨vs,H1,I1,r1,q1⟩=>?_))
 obtain⟨v,w,e1,q1⟩:=q1
 subst e1
 obtain⟨u1,u2,rfl,rv,rw'⟩:∃ u1 u2,us=[u1,u2]/\RelV v u1/\RelV w u2:=by
  cases r1 with
  | cons p q=>
   cases q with
   | cons p' q'=>
    cases q'
    exact⟨_,_,rfl,p,p'⟩
 refine Vu ?_ (by show 2<=sizeLine;decide)
 have I2:Inv X pins σ H1 { s1 with heap:=s1.heap.push { cls:=.type "tuple",data:=.seq [u1,u2].toArray } }:=I1.kept (t':=s1.toks) λb o e=>Uv _ e
 rw [hw]
 refine Up (UD ?_)
 show wpAny (model X.prog X.w) X.A (do rule "assign.swapped-stores";let items <- unpackItems (.ref s1.heap.objs.size) 2 U;assignInOrder [λv=>bindName X.env y v,λv=>bindName X.env x v] items.reverse;pure Flow.next) _ _ _
 refine Up (XD (Up (unpackItems_tuple (items:=#[u1,u2]) (I.ok.hd hc) (IsTup.new s1.heap _) λh' hx'=>?_)))
 have I3:=I2.kept (h':=h') (t':=s1.toks) λb o e=>hx' b o (UR (UA e)) e
 show wpAny _ _ (assignInOrder [λv=>bindName X.env y v,λv=>bindName X.env x v] [u2,u1] >>= λ_=>pure Flow.next) _ _ _
 refine Up (WX (wpAny_bindName (oq I3 hN hj (.inl hy) rw' (λs2 I4=>?_) (.inr hy))))
 refine WX (wpAny_bindName (oq I4 hN hi (.inl hx) rv (λs3 I5=>assignInOrder_nil (UD ?_)) (.inr hx)))
 rw [List.set_comm _ _ (Ne.symm hij)] at I5
 exact⟨_,H1,I5,q1⟩
end
section
variable{X:Cx}{pos:Pos}
def Qn(c:TT)(tb:TS):TS:=λD σ H=>∃ W:Nat->St->Hp->Prop,(∃ m,W m σ H)/\∀ m σ H,W m σ H ->
 c σ H λb H1=>if b=true then ∃ N:St->Hp->Prop,(∀ σ' H',N σ' H'->∃ m',m'<m/\W m' σ' H')/\tb { D with nx:=N,ct:=N,bk:=D.nx } σ H1 else D.nx σ H1
def Ig{c:Expr}{body:List Stmt}{tc:TT}{tb:TS}(hp:PassesOwn (model X.prog X.w) X.A X.env X.xe)(hc:PT X c tc)(hb:PSs X body tb):PS X (.While c body [] pos) (Qn tc tb):=by
 intro pins s σ H D I h
 obtain⟨W,⟨m0,w0⟩,turn⟩:=h
 refine wpAny_While (codeAny_whileLoop (λn s'=>∃ σ' H',Inv X pins σ' H' s'/\W n σ' H') ?_ m0 ⟨σ,H,I,w0⟩)
 rintro n s1 ⟨σ1,H1,I1,w1⟩
 refine VN hp (da (hc pins s1 σ1 H1 _ I1 (turn n σ1 H1 w1)) λb s2 ⟨H2,I2,q2⟩=>?_)
 cases b with
 | true=>
  obtain⟨N,hN,q2⟩:=q2
  rw [if_pos rfl]
  refine VN hp (da (hb pins s2 σ1 H2 _ I2 q2) λf s3 q3=>?_)
  cases f with
  | next=>
   obtain⟨σ3,H3,I3,n3⟩:=q3
   obtain⟨m',hm,w3⟩:=hN σ3 H3 n3
   exact⟨m',hm,σ3,H3,I3,w3⟩
  | cont=>
   obtain⟨σ3,H3,I3,n3⟩:=q3
   obtain⟨m',hm,w3⟩:=hN σ3 H3 n3
   exact⟨m',hm,σ3,H3,I3,w3⟩
  | brk=>exact q3
  | ret v=>exact q3
 | false=>
  rw [if_neg Bool.false_ne_true]
  exact WN ⟨σ1,H2,I2,q2⟩
end
structure It where
 go:Nat->Hp->Prop
 yld:Nat->Hp->V->Hp->Prop
 stop:Nat->Hp->Prop
def qb(X:Cx)(pins:List (Addr×Obj))(H:Hp)(b:Addr):Prop:=
 H b=U/\b≠X.env.locals/\b ∉ X.fs/\(b∈X.ex\/X.s₀.heap.objs.size<=b)/\(∀ x c,X.env.cells.lookup x=Z c->c≠b)/\∀ p∈X.pn++pins,p.1≠b
def Inv.fpOk{X:Cx}{pins:List (Addr×Obj)}{σ:St}{H H':Hp}{s:Shared}{b:Addr}(I:Inv X pins σ H s)(hb:s.heap.objs.size<=b)(hn:H' b=U):qb X pins H' b:=by
 refine⟨hn,Xh (UI I.lt hb),I.nofs hb,.inr (UV I.sz hb),λx c e z=>?_,λp hp z=>?_⟩
 ·obtain⟨v,q⟩:=I.cell x c e
  exact absurd (UI q.lt (by rw [z];exact hb)) (VI _)
 ·exact absurd (UI (UA (I.pin p hp).1) (by rw [z];exact hb)) (VI _)
structure GY(P:Program)(w:World)(K:W.Frag)(tg:Expr)(J:It)(fp:List Addr)(it:Addr)(tn:Nat->Heap->Prop):Prop where
 mem:it∈fp
 obj:∀ i h,tn i h->∀ b∈fp,∃ o,h.get? b=Z o/\∀ v,o.data≠.cell v
 keep:∀ i h h',tn i h->(∀ b∈fp,∀ o,h.get? b=Z o->h'.get? b=Z o)->tn i h'
 item:∀ (X:Cx),X.prog=P->X.w=w->X.K=K->X.calm=true->∀ (i:Nat) (pins:List (Addr×Obj)) (s:Shared) (σ:St) (H:Hp) (E:Value->Shared->Prop),Inv X pins σ H s->(∀ b∈fp,qb X pins H b)->tn i s.heap->J.go i H ->
  wpAny (model P w) X.A (pyNext (.ref it)) (λr s1=>∃ u,r=Z u /\
   wpAny (model P w) X.A (letOwnedTupleGo tg (.ref it) u) (λ_ s2=>∃ x H',Inv X pins σ H' s2/\RelV x u/\J.yld i H x H'/\tn (i+1) s2.heap/\∀ b∈fp,H' b=U) E s1) E s
 done:∀ (X:Cx),X.prog=P->X.w=w->X.K=K->X.calm=true->∀ (i:Nat) (pins:List (Addr×Obj)) (s:Shared) (σ:St) (H:Hp) (E:Value->Shared->Prop),Inv X pins σ H s->(∀ b∈fp,qb X pins H b)->tn i s.heap->J.stop i H ->
  wpAny (model P w) X.A (pyNext (.ref it)) (λr s1=>r=U/\Inv X pins σ H s1) E s
 self:∀ (A:Around) (i:Nat) (s:Shared) (Q:Value->Shared->Prop) (E:Value->Shared->Prop),tn i s.heap->Q (.ref it) s->wpAny (model P w) A (pyIter (.ref it)) Q E s
abbrev TI:=St->Hp->(It->Hp->Prop)->Prop
def PIE(X:Cx)(pins:List (Addr×Obj))(σ:St)(tg:Expr)(R:It->Hp->Prop)(itv:Value)(s2:Shared):Prop:=
 ∃ (it:Addr) (fp:List Addr) (tn:Nat->Heap->Prop) (J:It) (H':Hp),itv=.ref it/\Inv X pins σ H' s2/\GY X.prog X.w X.K tg J fp it tn/\tn 0 s2.heap/\(∀ b∈fp,qb X pins H' b)/\R J H'
def PI(X:Cx)(tg iter:Expr)(wi:TI):Prop:=
 ∀ (pins:List (Addr×Obj)) (s:Shared) (σ:St) (H:Hp) (R:It->Hp->Prop),Inv X pins σ H s->wi σ H R ->
  wpAny (model X.prog X.w) X.A (eval iter X.env) (λv s1=>wpAny (model X.prog X.w) X.A (pyIter v) (PIE X pins σ tg R) X.xe s1) X.xe s
def JF{M:Model}{A:Around}{E:Value->Shared->Prop}{s:Shared}{tg:Expr}{it:Addr}{u:Value}{o:Obj}{n:String}{vs:Array Value}{Q:Unit->Shared->Prop}(ho:s.heap.get? it=Z o)(hc:o.cls=.type n)(hd:o.data=.fields vs)
  (hn:["enumerate","zip","dict_itemiterator","dict_reverseitemiterator","odict_iterator","itertools.zip_longest","itertools.pairwise"].contains n=false) (hQ:Q () s):wpAny M A (letOwnedTupleGo tg (.ref it) u) Q E s:=by
 unfold letOwnedTupleGo
 cases tg <;> first
  | exact UD hQ
  | (cases u <;> first
    | exact UD hQ
    | (refine Up (wpAny_load ho ?_); rw [hc,hd]; show wpAny M A (if (["enumerate","zip","dict_itemiterator","dict_reverseitemiterator","odict_iterator","itertools.zip_longest","itertools.pairwise"].contains n&&vs[0]? == Z (rawInt _))=true then _ else _) Q E s; rw [if_neg (by intro h;rw [hn,Vt] at h;cases h)]; exact UD hQ))
noncomputable def Itl(K:W.Frag)(a:Addr):It:=
 ⟨λi H=>∃ xs x,mU K H a xs/\xs[i]?=Z x,λi H x H'=>H'=H/\∀ xs,mU K H a xs->xs[i]?=Z x,λi H=>∃ xs,mU K H a xs/\xs.length<=i⟩
noncomputable def Itt(K:W.Frag)(a:Addr):It:=
 ⟨λi H=>∃ xs x,oo K H a xs/\xs[i]?=Z x,λi H x H'=>H'=H/\∀ xs,oo K H a xs->xs[i]?=Z x,λi H=>∃ xs,oo K H a xs/\xs.length<=i⟩
noncomputable def Itr(lo:Int)(n:Nat):It:=⟨λi _=>i<n,λi H x H'=>H'=H/\x=.int (lo+i),λi _=>n<=i⟩
def uU{P:Program}{w:World}{K:W.Frag}{tg:Expr}(a it:Addr):GY P w K tg (Itl K a) [it] it (λi h=>h.IsListIter it a i) where
 mem:=by simp
 obj:=λi h st b hb=>by
  have e:b=it:=by simpa using hb
  subst e
  obtain⟨o,e,c,d⟩:=st
  exact⟨o,e,λv z=>by rw [d] at z;cases z⟩
 keep:=λi h h' st k=>st.at λo e=>k it (by simp) o e
 item:=by
  intro X hP hw hK hc i pins s σ H E I hf st hg
  subst hP hw hK
  obtain⟨xs,x,hq,hx⟩:=hg
  obtain⟨its,rv,p,hz⟩:=I.list hq
  obtain⟨u,hu,ru⟩:=rv.get hx
  obtain⟨f0,f1,f2,f3,f4,f5⟩:=hf it (by simp)
  refine wpAny_pyNext_list_item st p.isList (x:=u) (by simpa using hu) λh' st' sb=>?_
  have I1:Inv X pins σ H { s with heap:=h' }:=I.turned (t':=s.toks) (λb o hb e=>(sb.2 b hb).trans e) f0 f1 f3 f4 f5
  obtain⟨o,e,c,d⟩:=id st'
  exact⟨u,rfl,JF (s:={ s with heap:=h' }) e c d (by decide) ⟨x,H,I1,ru,⟨rfl,λys hy=>by rw [I.list_inj hy hq];exact hx⟩,st',λb hb=>(hf b hb).1⟩⟩
 done:=by
  intro X hP hw hK hc i pins s σ H E I hf st hg
  subst hP hw hK
  obtain⟨xs,hq,hx⟩:=hg
  obtain⟨its,rv,p,hz⟩:=I.list hq
  obtain⟨f0,f1,f2,f3,f4,f5⟩:=hf it (by simp)
  have hl:=rv.length
  exact wpAny_pyNext_list_end (I.ok.hd hc) st p.isList (by simp;omega) λh' eb=>⟨rfl,I.turned (t':=s.toks) (λb o hb e=>eb b o hb e) f0 f1 f3 f4 f5⟩
 self:=λ_ _ _ _ _ st h=>wpAny_pyIter_listiter st h
def Bs{P:Program}{w:World}{K:W.Frag}{tg:Expr}(a it:Addr):GY P w K tg (Itt K a) [it] it (λi h=>h.IsTupleIter it a i) where
 mem:=by simp
 obj:=λi h st b hb=>by
  have e:b=it:=by simpa using hb
  subst e
  obtain⟨o,e,c,d⟩:=st
  exact⟨o,e,λv z=>by rw [d] at z;cases z⟩
 keep:=λi h h' st k=>st.at λo e=>k it (by simp) o e
 item:=by
  intro X hP hw hK hc i pins s σ H E I hf st hg
  subst hP hw hK
  obtain⟨xs,x,hq,hx⟩:=hg
  obtain⟨its,rv,p,hz⟩:=I.tuple hq
  obtain⟨u,hu,ru⟩:=rv.get hx
  obtain⟨f0,f1,f2,f3,f4,f5⟩:=hf it (by simp)
  refine wpAny_pyNext_tuple_item st (show s.heap.IsTuple a its.toArray from p) (x:=u) (by simpa using hu) λh' st' sb=>?_
  have I1:Inv X pins σ H { s with heap:=h' }:=I.turned (t':=s.toks) (λb o hb e=>(sb.2 b hb).trans e) f0 f1 f3 f4 f5
  obtain⟨o,e,c,d⟩:=id st'
  exact⟨u,rfl,JF (s:={ s with heap:=h' }) e c d (by decide) ⟨x,H,I1,ru,⟨rfl,λys hy=>by rw [I.tuple_inj hy hq];exact hx⟩,st',λb hb=>(hf b hb).1⟩⟩
 done:=by
  intro X hP hw hK hc i pins s σ H E I hf st hg
  subst hP hw hK
  obtain⟨xs,hq,hx⟩:=hg
  obtain⟨its,rv,p,hz⟩:=I.tuple hq
  obtain⟨f0,f1,f2,f3,f4,f5⟩:=hf it (by simp)
  have hl:=rv.length
  exact wpAny_pyNext_tuple_end (I.ok.hd hc) st (show s.heap.IsTuple a its.toArray from p) (by simp;omega) λh' eb=>⟨rfl,I.turned (t':=s.toks) (λb o hb e=>eb b o hb e) f0 f1 f3 f4 f5⟩
 self:=λ_ _ _ _ _ st h=>wpAny_pyIter_tupleiter st h
def Bt{P:Program}{w:World}{K:W.Frag}{tg:Expr}(it:Addr)(lo:Int)(n:Nat):GY P w K tg (Itr lo n) [it] it (λi h=>IsRangeIter h it (lo+(i:Nat) * 1) ((n:Int) - (i:Nat)) 1) where
 mem:=by simp
 obj:=λi h st b hb=>by
  have e:b=it:=by simpa using hb
  subst e
  exact⟨_,st,λv z=>by
   have z':Data.fields _=Data.cell v:=z
   cases z'⟩
 keep:=λi h h' st k=>k it (by simp) _ st
 item:=by
  intro X hP hw hK hc i pins s σ H E I hf st hg
  subst hP hw hK
  obtain⟨f0,f1,f2,f3,f4,f5⟩:=hf it (by simp)
  have W:=Walks.range (prog:=X.prog) (w:=X.w) (I.ok.hd hc) it lo 1 n
  refine W.item i s _ _ hg st λv h' tk hv st' kk=>?_
  obtain⟨t,rfl⟩:=hv
  have I1:Inv X pins σ H { s with heap:=h',toks:=tk }:=I.turned (λb o hb e=>kk b o (by simpa using hb) e) f0 f1 f3 f4 f5
  refine⟨_,rfl,JF (s:={ s with heap:=h',toks:=tk }) (n:="range_iterator") st' rfl rfl (by decide) ⟨.int (lo+i),H,I1,⟨t,?_⟩,⟨rfl,rfl⟩,st',λb hb=>(hf b hb).1⟩⟩
  rw [Int.mul_one]
 done:=by
  intro X hP hw hK hc i pins s σ H E I hf st hg
  subst hP hw hK
  obtain⟨f0,f1,f2,f3,f4,f5⟩:=hf it (by simp)
  exact wpAny_pyNext_range_end (I.ok.hd hc) st (by have:n<=i:=hg;omega) λh' eb=>⟨rfl,I.turned (t':=s.toks) (λb o hb e=>eb b o hb e) f0 f1 f3 f4 f5⟩
 self:=λ_ _ _ _ _ st h=>wpAny_pyIter_rangeiter st h
section
variable{X:Cx}{tg:Expr}
def iList(K:W.Frag)(tl:TE):TI:=λσ H R=>tl σ H λx H1=>∃ a,x=.ref a/\(∃ xs,mU K H1 a xs)/\R (Itl K a) H1
def Mr{l:Expr}{tl:TE}(hl:PE X l tl):PI X tg l (iList X.K tl):=by
 intro pins s σ H R I h
 refine da (hl pins s σ H _ I h) λv s1 ⟨x,H1,I1,r1,q1⟩=>?_
 obtain⟨a,e,⟨xs,hq⟩,q⟩:=q1
 subst e
 cases r1
 obtain⟨its,rv,p,hz⟩:=I1.list hq
 refine We p.isList ?_
 refine⟨s1.heap.objs.size,[s1.heap.objs.size],_,_,H1,rfl,I1.kept (t':=s1.toks) λb o e=>Uv _ e,uU a _,⟨_,UG _ rfl,rfl,rfl⟩,λb hb=>?_,q⟩
 have e:b=s1.heap.objs.size:=by simpa using hb
 subst e
 exact I1.fpOk (Uw _) (I1.hok.fresh (Uw _))
def zj{pins:List (Addr×Obj)}{σ:St}{H:Hp}{s:Shared}{R:It->Hp->Prop}{E:Value->Shared->Prop}{lo hi:Int}{t u v:Tok}{tk:Nat}(I:Inv X pins σ H s)(h1:-(2 ^ 62)<=lo)(h2:lo<2 ^ 62)(h3:-(2 ^ 62)<=hi)(h4:hi<2 ^ 62)
  (q:R (Itr lo (hi - lo).toNat) H):wpAny (model X.prog X.w) X.A (pyIter (.ref s.heap.objs.size)) (PIE X pins σ tg R) E { s with heap:=s.heap.push { cls:=.type "range",data:=.fields #[.int lo t,.int hi u,.int 1 v] },toks:=tk }:=by
 refine wpAny_pyIter_range (IsRange.new ..) (small_one h1 h2 h3 h4) ?_
 have I1:Inv X pins σ H { s with heap:=s.heap.push { cls:=.type "range",data:=.fields #[.int lo t,.int hi u,.int 1 v] },toks:=tk }:=I.kept λb o e=>Uv _ e
 refine⟨(s.heap.push { cls:=.type "range",data:=.fields #[.int lo t,.int hi u,.int 1 v] }).objs.size,[(s.heap.push { cls:=.type "range",data:=.fields #[.int lo t,.int hi u,.int 1 v] }).objs.size],_,_,H,rfl,
  I1.kept (t':=tk) λb o e=>Uv _ e,Bt _ lo (hi - lo).toNat,?_,λb hb=>?_,q⟩
 ·have e1:lo+((0:Nat):Int) * 1=lo:=by simp
  have e2:(((hi - lo).toNat:Nat):Int) - ((0:Nat):Int)=Builtin.Range.rangeSize lo hi 1:=by rw [rangeSize_one];split <;> omega
  show IsRangeIter _ _ (lo+((0:Nat):Int) * 1) ((((hi - lo).toNat:Nat):Int) - ((0:Nat):Int)) 1
  rw [e1,e2]
  exact UG _ rfl
 ·have e:b=(s.heap.push { cls:=.type "range",data:=.fields #[.int lo t,.int hi u,.int 1 v] }).objs.size:=by simpa using hb
  subst e
  exact I1.fpOk (Uw _) (I1.hok.fresh (Uw _))
def iRng1(ta:TA):TI:=λσ H R=>ta σ H λvs H1=>∃ j:Int,vs=[.int j]/\-(2 ^ 62)<=j/\j<2 ^ 62/\R (Itr 0 j.toNat) H1
def iRng2(ta:TA):TI:=λσ H R=>ta σ H λvs H1=>∃ i j:Int,vs=[.int i,.int j]/\(-(2 ^ 62)<=i/\i<2 ^ 62/\-(2 ^ 62)<=j/\j<2 ^ 62)/\R (Itr i (j - i).toNat) H1
def vi{a:Expr}{ta:TA}{p pos:Pos}(hg:Gl X "range")(hm:X.mg "range" = U)(ha:PA X [a] ta)(hs:starEach [a] X.env=[(false,eval a X.env)]:=by rfl):PI X tg (.Call (.Name "range" p) [a] [] pos) (iRng1 ta):=by
 intro pins s σ H R I h
 refine Call_ (pL I hg hm boot_range (VP (da (ha pos pins s σ H _ I h) λus s1 ⟨vs,H1,I1,r1,q1⟩=>?_) hs rfl))
 obtain⟨j,e,q1,q2,q⟩:=q1
 subst e
 cases r1 with
 | cons r rr=>
  cases rr
  obtain⟨t,rfl⟩:=r
  exact call_range_1 (zj I1 (by omega) (by omega) q1 q2 (by simpa using q))
def Fl{a b:Expr}{ta:TA}{p pos:Pos}(hg:Gl X "range")(hm:X.mg "range" = U)(ha:PA X [a,b] ta)(hs:starEach [a,b] X.env=[(false,eval a X.env),(false,eval b X.env)]:=by rfl)(hs2:starEach [b] X.env=[(false,eval b X.env)]:=by rfl) :
  PI X tg (.Call (.Name "range" p) [a,b] [] pos) (iRng2 ta):=by
 intro pins s σ H R I h
 refine Call_ (pL I hg hm boot_range (VP (da (ha pos pins s σ H _ I h) λus s1 ⟨vs,H1,I1,r1,q1⟩=>?_) (by rw [hs,hs2]) (by rw [hs2];rfl)))
 obtain⟨i,j,e,⟨q1,q2,q3,q4⟩,q⟩:=q1
 subst e
 cases r1 with
 | cons r rr=>
  cases rr with
  | cons r' rr=>
   cases rr
   obtain⟨t,rfl⟩:=r
   obtain⟨t',rfl⟩:=r'
   exact call_range_2 (zj I1 q1 q2 q3 q4 q)
def tFor(wi:TI)(g:TG)(tb:TS):TS:=λD σ H=>wi σ H λJ H1=>∃ W:Nat->Nat->St->Hp->Prop,(∃ m,W 0 m σ H1)/\∀ i m σ H,W i m σ H ->
 (J.stop i H/\D.nx σ H)\/(J.go i H/\∃ N:St->Hp->Prop,(∀ σ' H',N σ' H'->∃ m',m'<m/\W (i+1) m' σ' H')/\∀ x H',J.yld i H x H'->g x σ H' λσ2 H2=>tb { D with nx:=N,ct:=N,bk:=D.nx } σ2 H2)
noncomputable def rW(fp:List Addr)(h:Heap):List (Addr×Obj):=fp.filterMap λb=>(h.get? b).map λo=>(b,o)
def kR{fp:List Addr}{h:Heap}{b:Addr}{o:Obj}(hb:b∈fp)(e:h.get? b=Z o):(b,o)∈rW fp h:=Ys.mpr ⟨b,hb,by rw [e];rfl⟩
def Fv{fp:List Addr}{h:Heap}{p:Addr×Obj}(hp:p∈rW fp h):p.1∈fp/\h.get? p.1=Z p.2:=by
 obtain⟨b,hb,e⟩:=Ys.mp hp
 cases q:h.get? b with
 | none=>rw [q] at e;cases e
 | some o=>
  rw [q] at e
  have e':(b,o)=p:=Uu e
  subst e'
  exact⟨hb,q⟩
def Inv.pinned{pins:List (Addr×Obj)}{σ:St}{H:Hp}{s:Shared}{fp:List Addr}(I:Inv X pins σ H s)(hf:∀ b∈fp,qb X pins H b)(ho:∀ b∈fp,∃ o,s.heap.get? b=Z o/\∀ v,o.data≠.cell v):Inv X (pins++rW fp s.heap) σ H s:=
 I.pins_of λp hp=>(UJ.mp hp).elim (λz=>I.pin p (UW _ z)) λz=>by
  obtain⟨hb,e⟩:=Fv z
  obtain⟨f0,f1,f2,_⟩:=hf p.1 hb
  obtain⟨o,e',d⟩:=ho p.1 hb
  rw [e] at e';cases e'
  exact⟨e,f0,f1,f2,d⟩
def Inv.unpinned{pins pl:List (Addr×Obj)}{σ:St}{H:Hp}{s:Shared}(I:Inv X (pins++pl) σ H s):Inv X pins σ H s:=I.pins_of λp hp=>I.pin p (UW _ (US _ hp))
def Ij{iter:Expr}{body:List Stmt}{wi:TI}{g:TG}{tb:TS}{pos:Pos}(hp:PassesOwn (model X.prog X.w) X.A X.env X.xe)(hc:X.calm=true)(hi:PI X tg iter wi)(hg:PG X tg g)(hb:PSs X body tb)
  (hs:∀ x,foldedSetIterable iter X.env x=pure x:=by intro _;rfl):PS X (.For tg iter body [] pos) (tFor wi g tb):=by
 intro pins s σ H D I h
 refine wpAny_For (da (hi pins s σ H _ I h) λv s1 h1=>da h1 λitv s2 h2=>?_) hs
 obtain⟨it,fp,tn,J,H2,e,I2,T,st2,f2,W,⟨m0,w0⟩,turn⟩:=h2
 subst e
 have stat:∀ {H':Hp},(∀ b∈fp,H' b=U)->∀ b∈fp,qb X pins H' b:=λhn b hb=>⟨hn b hb,(f2 b hb).2⟩
 refine codeAny_forLoop_any (λn s'=>∃ i σ' H',Inv X pins σ' H' s'/\tn i s'.heap/\(∀ b∈fp,H' b=U)/\W i n σ' H') ?_ m0 ⟨0,σ,H2,I2,st2,λb hb=>(f2 b hb).1,w0⟩
 rintro n s3 ⟨i,σ3,H3,I3,st3,fr3,w3⟩
 rcases turn i n σ3 H3 w3 with ⟨stop,qn⟩ | ⟨go,N,hN,step⟩
 ·refine VN hp (da (T.done X rfl rfl rfl hc i pins s3 σ3 H3 X.xe I3 (stat fr3) st3 stop) λr s4 ⟨hr,I4⟩=>?_)
  subst hr
  exact WN ⟨σ3,H3,I4,qn⟩
 ·refine VN hp (da (T.item X rfl rfl rfl hc i pins s3 σ3 H3 X.xe I3 (stat fr3) st3 go) λr s4 ⟨u,hr,h4⟩=>?_)
  subst hr
  refine VN hp (da h4 λ_ s5 ⟨x,H5,I5,r5,y5,st5,fr5⟩=>?_)
  have I5':=I5.pinned (stat fr5) (T.obj _ _ st5)
  refine VN hp (da (hg _ s5 σ3 H5 x u _ I5' r5 (step x H5 y5)) λ_ s6 ⟨σ6,H6,I6,q6⟩=>?_)
  refine VN hp (da (hb _ s6 σ6 H6 _ I6 q6) λf s7 q7=>?_)
  have again:∀ {σ7:St} {H7:Hp},Inv X (pins++rW fp s5.heap) σ7 H7 s7->N σ7 H7->∃ m,m<n/\∃ i σ' H',Inv X pins σ' H' s7/\tn i s7.heap/\(∀ b∈fp,H' b=U)/\W i m σ' H':=λ{σ7 H7} I7 n7=>by
   obtain⟨m',hm,w7⟩:=hN σ7 H7 n7
   refine⟨m',hm,i+1,σ7,H7,I7.unpinned,T.keep _ _ _ st5 λb hb o e=>(I7.pin (b,o) (UW _ (UW _ (kR hb e)))).1,λb hb=>?_,w7⟩
   obtain⟨o,e,d⟩:=T.obj _ _ st5 b hb
   exact(I7.pin (b,o) (UW _ (UW _ (kR hb e)))).2.1
  cases f with
  | next=>obtain⟨σ7,H7,I7,n7⟩:=q7;exact again I7 n7
  | cont=>obtain⟨σ7,H7,I7,n7⟩:=q7;exact again I7 n7
  | brk=>obtain⟨σ7,H7,I7,q7⟩:=q7;exact⟨σ7,H7,I7.unpinned,q7⟩
  | ret v=>obtain⟨x7,σ7,H7,I7,r7,q7⟩:=q7;exact⟨x7,σ7,H7,I7.unpinned,r7,q7⟩
end
abbrev R2:=V->V->Hp->VK->Prop
def OpR(X:Cx)(f:Value->Value->Sem Value)(r:R2):Prop:=
 ∀ (pins:List (Addr×Obj)) (s:Shared) (σ:St) (H:Hp) (x y:V) (v u:Value) (Q:VK),Inv X pins σ H s->RelV x v->RelV y u->r x y H Q ->
  wpAny (model X.prog X.w) X.A (f v u) (EP X pins σ Q) X.xe s
def UnR(X:Cx)(f:Value->Sem Value)(r:V->Hp->VK->Prop):Prop:=
 ∀ (pins:List (Addr×Obj)) (s:Shared) (σ:St) (H:Hp) (x:V) (v:Value) (Q:VK),Inv X pins σ H s->RelV x v->r x H Q ->
  wpAny (model X.prog X.w) X.A (f v) (EP X pins σ Q) X.xe s
def CallR(X:Cx)(f:Value)(r:List V->Hp->VK->Prop):Prop:=
 ∀ (pins:List (Addr×Obj)) (s:Shared) (σ:St) (H:Hp) (xs:List V) (us:List Value) (Q:VK),Inv X pins σ H s->Vals xs us->r xs H Q ->
  wpAny (model X.prog X.w) X.A (call f us) (EP X pins σ Q) X.xe s
def TruR(X:Cx)(r:V->Hp->(Bool->Hp->Prop)->Prop):Prop:=
 ∀ (pins:List (Addr×Obj)) (s:Shared) (σ:St) (H:Hp) (x:V) (v:Value) (Q:Bool->Hp->Prop),Inv X pins σ H s->RelV x v->r x H Q ->
  wpAny (model X.prog X.w) X.A (truthy v) (TP X pins σ Q) X.xe s
def tOp(r:R2)(ta tb:TE):TE:=λσ H Q=>ta σ H λx H1=>tb σ H1 λy H2=>r x y H2 Q
def tUn(r:V->Hp->VK->Prop)(ta:TE):TE:=λσ H Q=>ta σ H λx H1=>r x H1 Q
noncomputable def rI(C:Int->Int->Prop)(g:Int->Int->V):R2:=λx y H Q=>∃ i j,x=.int i/\y=.int j/\C i j/\Q (g i j) H
noncomputable def Md(g:Int->Int->V):R2:=λx y H Q=>∃ i j,x=.int i/\y=.int j/\Q (g i j) H
def rU(g:Int->V):V->Hp->VK->Prop:=λx H Q=>∃ i,x=.int i/\Q (g i) H
section
variable{X:Cx}{a b c:Expr}{ta tb tc:TE}{pos:Pos}
def TQ(ha:PE X a ta)(hb:PE X b tb){pins:List (Addr×Obj)}{s:Shared}{σ:St}{H:Hp}{R:V->V->Hp->Prop}(I:Inv X pins σ H s)
  (h:ta σ H λx H1=>tb σ H1 λy H2=>R x y H2) {Q:Value->Shared->Prop} {f:Value->Value->Sem Value}
  (hf:∀ v u s2 x y H2,Inv X pins σ H2 s2->RelV x v->RelV y u->R x y H2->wpAny (model X.prog X.w) X.A (f v u) Q X.xe s2) :
  wpAny (model X.prog X.w) X.A (eval a X.env) (λv s₁=>wpAny (model X.prog X.w) X.A (eval b X.env) (λu s₂=>wpAny (model X.prog X.w) X.A (f v u) Q X.xe s₂) X.xe s₁) X.xe s:=by
 refine da (ha pins s σ H _ I h) λv s1 ⟨x,H1,I1,r1,q1⟩=>?_
 refine da (hb pins s1 σ H1 _ I1 q1) λu s2 ⟨y,H2,I2,r2,q2⟩=>?_
 exact hf v u s2 x y H2 I2 r1 r2 q2
def pe_op{op:Operator}{r:R2}(ho:OpR X (binaryOp op) r)(ha:PE X a ta)(hb:PE X b tb):PE X (.BinOp a op b pos) (tOp r ta tb):=by
 intro pins s σ H Q I h
 exact wpAny_BinOp (TQ ha hb I h λv u s2 x y H2 I2 rx ry q=>ho pins s2 σ H2 x y v u Q I2 rx ry q)
def pe_un{op:UnaryOp}{r:V->Hp->VK->Prop}(ho:UnR X (unaryOp op) r)(ha:PE X a ta):PE X (.UnaryOp op a pos) (tUn r ta):=by
 intro pins s σ H Q I h
 exact UnaryOp_ (da (ha pins s σ H _ I h) λv s1 ⟨x,H1,I1,r1,q1⟩=>ho pins s1 σ H1 x v Q I1 r1 q1)
def opI{f:Value->Value->Sem Value}{C:Int->Int->Prop}{g:Int->Int->Int}
  (rule:∀ (i j:Int) (t u:Tok) (s:Shared) (Q:Value->Shared->Prop) (E:Value->Shared->Prop),C i j->Q (.int (g i j) s.toks) { s with toks:=s.toks+1 }->wpAny (model X.prog X.w) X.A (f (.int i t) (.int j u)) Q E s) :
  OpR X f (rI C λi j=>.int (g i j)):=by
 intro pins s σ H x y v u Q I rx ry h
 obtain⟨i,j,rfl,rfl,hc,q⟩:=h
 obtain⟨t,rfl⟩:=rx
 obtain⟨t',rfl⟩:=ry
 exact rule i j t t' s _ _ hc ⟨.int (g i j),H,I.tok _,⟨_,rfl⟩,q⟩
def opI0{f:Value->Value->Sem Value}{g:Int->Int->Int}
  (rule:∀ (i j:Int) (t u:Tok) (s:Shared) (Q:Value->Shared->Prop) (E:Value->Shared->Prop),Q (.int (g i j) s.toks) { s with toks:=s.toks+1 }->wpAny (model X.prog X.w) X.A (f (.int i t) (.int j u)) Q E s) :
  OpR X f (Md λi j=>.int (g i j)):=by
 intro pins s σ H x y v u Q I rx ry h
 obtain⟨i,j,rfl,rfl,q⟩:=h
 obtain⟨t,rfl⟩:=rx
 obtain⟨t',rfl⟩:=ry
 exact rule i j t t' s _ _ ⟨.int (g i j),H,I.tok _,⟨_,rfl⟩,q⟩
def MU{f:Value->Value->Sem Value}{g:Int->Int->Bool}
  (rule:∀ (i j:Int) (t u:Tok) (s:Shared) (Q:Value->Shared->Prop) (E:Value->Shared->Prop),Q (.bool (g i j)) s->wpAny (model X.prog X.w) X.A (f (.int i t) (.int j u)) Q E s) :
  OpR X f (Md λi j=>.bl (g i j)):=by
 intro pins s σ H x y v u Q I rx ry h
 obtain⟨i,j,rfl,rfl,q⟩:=h
 obtain⟨t,rfl⟩:=rx
 obtain⟨t',rfl⟩:=ry
 exact rule i j t t' s _ _ ⟨.bl (g i j),H,I,rfl,q⟩
def CDiv(i j:Int):Prop:=0<j/\j<1073741824
def CPow(i j:Int):Prop:=0<=j/\j<=1000000/\i.natAbs<2 ^ 64
def Re:OpR X (binaryOp .Add) (Md λi j=>.int (i+j)):=opI0 λ_ _ _ _ _ _ _ q=>add_int q
def QZ:OpR X (binaryOp .Sub) (Md λi j=>.int (i - j)):=opI0 λ_ _ _ _ _ _ _ q=>sub_int q
def MM:OpR X (binaryOp .FloorDiv) (rI CDiv λi j=>.int (i / j)):=opI λi j _ _ _ _ _ hc q=>by
 have h1:(0:Int)<j:=hc.1
 have h2:j<1073741824:=hc.2
 exact floordiv_int (by omega) (by rw [Int.fdiv_eq_ediv_of_nonneg i (by omega)];exact q) (.inl (PyProof.noPylong_small (by omega)))
def Rc:OpR X (binaryOp .Mod) (rI (λ_ j=>0<j) λi j=>.int (i % j)):=opI λi j _ _ _ _ _ hc q=>by
 have h1:(0:Int)<j:=hc
 exact mod_int' (by omega) (by rw [Int.fmod_eq_emod_of_nonneg i (by omega)];exact q)
def Rb:OpR X (binaryOp .Pow) (rI CPow λi j=>.int (i ^ j.toNat)):=opI λ_ _ _ _ _ _ _ hc q=>pow_int_small hc.1 hc.2.1 hc.2.2 q
def unI{f:Value->Sem Value}{g:Int->Int}
  (rule:∀ (i:Int) (t:Tok) (s:Shared) (Q:Value->Shared->Prop) (E:Value->Shared->Prop),Q (.int (g i) s.toks) { s with toks:=s.toks+1 }->wpAny (model X.prog X.w) X.A (f (.int i t)) Q E s) :
  UnR X f (rU λi=>.int (g i)):=by
 intro pins s σ H x v Q I rx h
 obtain⟨i,rfl,q⟩:=h
 obtain⟨t,rfl⟩:=rx
 exact rule i t s _ _ ⟨.int (g i),H,I.tok _,⟨_,rfl⟩,q⟩
def Qg:UnR X (unaryOp .USub) (rU λi=>.int (-i)):=unI λ_ _ _ _ _ q=>neg_int q
end
section
variable{X:Cx}{a b c:Expr}{ta tb tc:TE}{pos:Pos}
def op_lt:OpR X (compareOp .Lt) (Md λi j=>.bl (decide (i<j))):=MU λ_ _ _ _ _ _ _ q=>lt_int q
def op_le:OpR X (compareOp .LtE) (Md λi j=>.bl (decide (i<=j))):=MU λ_ _ _ _ _ _ _ q=>le_int q
def op_gt:OpR X (compareOp .Gt) (Md λi j=>.bl (decide (j<i))):=MU λ_ _ _ _ _ _ _ q=>gt_int q
def op_ge:OpR X (compareOp .GtE) (Md λi j=>.bl (decide (j<=i))):=MU λ_ _ _ _ _ _ _ q=>ge_int q
def OpR.or{f:Value->Value->Sem Value}{r r':R2}(h:OpR X f r)(h':OpR X f r'):OpR X f (λx y H Q=>r x y H Q\/r' x y H Q):=by
 intro pins s σ H x y v u Q I rx ry q
 rcases q with q | q
 ·exact h pins s σ H x y v u Q I rx ry q
 ·exact h' pins s σ H x y v u Q I rx ry q
def Mx{op:CmpOp}{r:R2}(ho:OpR X (compareOp op) r)(ha:PE X a ta)(hb:PE X b tb)(hm:behindInMarks op b=false):PE X (.Compare a [op] [b] pos) (tOp r ta tb):=by
 intro pins s σ H Q I h
 exact wpAny_Compare1 (TQ ha hb I h λv u s2 x y H2 I2 rx ry q=>ho pins s2 σ H2 x y v u Q I2 rx ry q) hm
def OV(t:TE):TT:=λσ H Q=>t σ H λx H'=>∃ k,x=.bl k/\Q k H'
def Mj{op:CmpOp}{r:R2}(ho:OpR X (compareOp op) r)(ha:PE X a ta)(hb:PE X b tb)(hm:behindInMarks op b=false):PT X (.Compare a [op] [b] pos) (OV (tOp r ta tb)):=by
 intro pins s σ H Q I h
 refine wpAny_isTrue_Compare1 (da (ha pins s σ H _ I h) λv s1 ⟨x,H1,I1,r1,q1⟩=>da (hb pins s1 σ H1 _ I1 q1) λu s2 ⟨y,H2,I2,r2,q2⟩=>
  da (ho pins s2 σ H2 x y v u _ I2 r1 r2 q2) λc s3 ⟨z,H3,I3,r3,k,e,q3⟩=>?_) hm
 subst e
 cases r3
 exact VD ⟨H3,I3,q3⟩
def Bw(r r':R2)(ta tb tc:TE):TE:=λσ H Q=>ta σ H λx H1=>tb σ H1 λy H2=>r x y H2 λz H3=>∃ k,z=.bl k /\
 (if k=true then tc σ H3 λw' H4=>r' y w' H4 Q else Q (.bl false) H3)
def Iy{op op':CmpOp}{r r':R2}(ho:OpR X (compareOp op) r)(ho':OpR X (compareOp op') r')(ha:PE X a ta)(hb:PE X b tb)(hc:PE X c tc)
  (hm:lastMarks [op,op'] [b,c]=false:=by with_unfolding_all rfl):PE X (.Compare a [op,op'] [b,c] pos) (Bw r r' ta tb tc):=by
 intro pins s σ H Q I h
 refine Compare_chain (da (ha pins s σ H _ I h) λv s1 ⟨x,H1,I1,r1,q1⟩=>chain_link (da (hb pins s1 σ H1 _ I1 q1) λu s2 ⟨y,H2,I2,r2,q2⟩=>
  da (ho pins s2 σ H2 x y v u _ I2 r1 r2 q2) λd s3 ⟨z,H3,I3,r3,k,e,q3⟩=>?_)) hm
 subst e
 cases r3
 refine VD ?_
 cases k with
 | false=>exact ite_ff ⟨.bl false,H3,I3,rfl,q3⟩
 | true=>exact ite_tt (chain_last (da (hc pins s3 σ H3 _ I3 q3) λw' s4 ⟨z',H4,I4,r4,q4⟩=>ho' pins s4 σ H4 y z' u w' Q I4 r2 r4 q4))
def Ie{op op':CmpOp}{r r':R2}(ho:OpR X (compareOp op) r)(ho':OpR X (compareOp op') r')(ha:PE X a ta)(hb:PE X b tb)(hc:PE X c tc)
  (hm:lastMarks [op,op'] [b,c]=false:=by with_unfolding_all rfl):PT X (.Compare a [op,op'] [b,c] pos) (OV (Bw r r' ta tb tc)):=by
 intro pins s σ H Q I h
 refine isTrue_chain (da (ha pins s σ H _ I h) λv s1 ⟨x,H1,I1,r1,q1⟩=>test_link (da (hb pins s1 σ H1 _ I1 q1) λu s2 ⟨y,H2,I2,r2,q2⟩=>
  da (ho pins s2 σ H2 x y v u _ I2 r1 r2 q2) λd s3 ⟨z,H3,I3,r3,k,e,q3⟩=>?_)) hm
 subst e
 cases r3
 refine VD ?_
 cases k with
 | false=>
  obtain⟨k',e',q'⟩:=q3
  cases e'
  exact ite_ff ⟨H3,I3,q'⟩
 | true=>
  refine ite_tt (test_last (da (hc pins s3 σ H3 _ I3 q3) λw' s4 ⟨z',H4,I4,r4,q4⟩=>da (ho' pins s4 σ H4 y z' u w' _ I4 r2 r4 q4) λd' s5 ⟨z2,H5,I5,r5,k2,e2,q5⟩=>?_))
  subst e2
  cases r5
  exact VD ⟨H5,I5,q5⟩
def GZ(K:W.Frag)(x:V)(H:Hp)(k:Bool):Prop:=
 match x with
 | .non=>k=false
 | .bl b=>k=b
 | .int i=>k=(i != 0)
 | .str y=>y.length<=sizeLine/\k=((y.length:Int) != 0)
 | .byt y=>y.size<=sizeLine/\k=((y.size:Int) != 0)
 | .ref p=>(∃ xs,mU K H p xs/\k = !xs.isEmpty)\/(∃ xs,oo K H p xs/\k = !xs.isEmpty)\/∃ kvs,H p=Z (.dK kvs)/\k = !kvs.isEmpty
 | _=>False
def CL{κ:Type}{kvs:List (κ×V)}{vs:List (κ×Value)}(r:KV kvs vs):(!vs.isEmpty) = !kvs.isEmpty:=by
 cases r <;> rfl
def tf{xs:List V}{its:List Value}(r:Vals xs its):(!its.toArray.isEmpty) = !xs.isEmpty:=by
 cases r <;> simp
def pK:(sizeLine:Nat)<2 ^ 63:=by rw [Yh];decide
def wL:TruR X (λx H Q=>∃ k,GZ X.K x H k/\Q k H):=by
 intro pins s σ H x v Q I rx h
 obtain⟨k,e,q⟩:=h
 have hl:=pK
 have hs:sizeLine=16777216:=Yh
 cases x with
 | non=>
  cases rx
  have e':k=false:=e
  subst e'
  exact truthy_none ⟨H,I,q⟩
 | bl b=>
  cases rx
  have e':k=b:=e
  subst e'
  exact VD ⟨H,I,q⟩
 | int i=>
  obtain⟨t,rfl⟩:=rx
  have e':k=(i != 0):=e
  subst e'
  exact PySem.P.truthy_int ⟨H,I,q⟩
 | str y=>
  obtain⟨t,rfl⟩:=rx
  obtain⟨hy,e'⟩:y.length<=sizeLine/\k=((y.length:Int) != 0):=e
  subst e'
  exact PySem.P.truthy_str (by omega) ⟨H,I.tok _,q⟩
 | byt y=>
  obtain⟨t,rfl⟩:=rx
  obtain⟨hy,e'⟩:y.size<=sizeLine/\k=((y.size:Int) != 0):=e
  subst e'
  exact W.truthy_bytes (by omega) ⟨H,I.tok _,q⟩
 | ref p=>
  cases rx
  have e':(∃ xs,mU X.K H p xs/\k = !xs.isEmpty)\/(∃ xs,oo X.K H p xs/\k = !xs.isEmpty)\/∃ kvs,H p=Z (.dK kvs)/\k = !kvs.isEmpty:=e
  rcases e' with ⟨xs,hx,e'⟩ | ⟨xs,hx,e'⟩ | ⟨kvs,hx,e'⟩
  ·subst e'
   obtain⟨its,r,pl,hz⟩:=I.list hx
   have hlen:=r.length
   exact wpAny_truthy_list pl.isList (by simp only [Um];omega) ⟨H,I.tok _,by rw [tf r];exact q⟩
  ·subst e'
   obtain⟨its,r,pl,hz⟩:=I.tuple hx
   have hlen:=r.length
   exact truthy_tuple pl (by simp only [Um];omega) ⟨H,I.tok _,by rw [tf r];exact q⟩
  ·subst e'
   obtain⟨hz,hS,vs,r,m⟩:kvs.length<=sizeLine/\(p == sysModules)=false/\∃ vs,KV kvs vs/\s.heap.DictOf (bU X.prog X.w) p vs:=I.hok p _ hx
   have hlen:kvs.length=vs.length:=Paired.length r
   exact wpAny_truthy_dict hS m (by omega) ⟨H,I.tok _,by rw [CL r];exact q⟩
 | _=>exact(show False from e).elim
def Ic(ha:PE X a ta)(he:∀ whole,isTrue a X.env whole=(do let v <- whole;standAt a.pos;holding [v] (truthy v))) :
  PT X a (λσ H Q=>ta σ H λx H'=>∃ k,GZ X.K x H' k/\Q k H'):=by
 intro pins s σ H Q I h
 exact isTrue_plain (da (ha pins s σ H _ I h) λv s1 ⟨x,H1,I1,r1,q1⟩=>wL pins s1 σ H1 x v Q I1 r1 q1) (he _)
def BX:OpR X (binaryOp .Add) (λx y H Q=>∃ i j,x=.str i/\y=.str j/\i.length+j.length<=sizeLine/\Q (.str (i++j)) H):=by
 intro pins s σ H x y v u Q I rx ry h
 obtain⟨i,j,rfl,rfl,hz,q⟩:=h
 obtain⟨t,rfl⟩:=rx
 obtain⟨t',rfl⟩:=ry
 exact add_str (λt' tk=>⟨.str (i++j),H,I.tok _,⟨_,rfl⟩,q⟩) hz
def jL{x:V}{us:List Value}(r:Vals [x] us):∃ u,us=[u]/\RelV x u:=by
 cases r with
 | cons r1 r2=>cases r2;exact⟨_,rfl,r1⟩
def Hv{x y:V}{us:List Value}(r:Vals [x,y] us):∃ u w',us=[u,w']/\RelV x u/\RelV y w':=by
 cases r with
 | cons r1 r2=>
  cases r2 with
  | cons r3 r4=>cases r4;exact⟨_,_,rfl,r1,r3⟩
def GO(hc:X.calm=true):CallR X (.builtin "max") (λxs H Q=>∃ i j,xs=[.int i,.int j]/\Q (.int (if j>i then j else i)) H):=by
 intro pins s σ H xs us Q I r h
 obtain⟨i,j,rfl,q⟩:=h
 obtain⟨u,w',rfl,⟨t,rfl⟩,⟨t',rfl⟩⟩:=Hv r
 refine max_two_ints (I.ok.hd hc) λh' tk k=>⟨_,H,I.kept k,?_,q⟩
 by_cases hj:j>i
 ·rw [if_pos hj,if_pos hj];exact⟨_,rfl⟩
 ·rw [if_neg hj,if_neg hj];exact⟨_,rfl⟩
def GM(hc:X.calm=true):CallR X (.builtin "min") (λxs H Q=>∃ i j,xs=[.int i,.int j]/\Q (.int (if j<i then j else i)) H):=by
 intro pins s σ H xs us Q I r h
 obtain⟨i,j,rfl,q⟩:=h
 obtain⟨u,w',rfl,⟨t,rfl⟩,⟨t',rfl⟩⟩:=Hv r
 refine min_two_ints (I.ok.hd hc) λh' tk k=>⟨_,H,I.kept k,?_,q⟩
 by_cases hj:j<i
 ·rw [if_pos hj,if_pos hj];exact⟨_,rfl⟩
 ·rw [if_neg hj,if_neg hj];exact⟨_,rfl⟩
def GR:CallR X (.type "int") (λxs H Q=>(∃ i,xs=[.int i]/\Q (.int i) H)\/∃ k,xs=[.bl k]/\Q (.int (if k then 1 else 0)) H):=by
 intro pins s σ H xs us Q I r h
 rcases h with ⟨i,rfl,q⟩ | ⟨k,rfl,q⟩
 ·obtain⟨u,rfl,t,rfl⟩:=jL r
  exact call_int_int ⟨.int i,H,I,⟨_,rfl⟩,q⟩
 ·obtain⟨u,rfl,r1⟩:=jL r
  cases r1
  exact call_int_bool ⟨.int (if k then 1 else 0),H,I.tok _,⟨_,rfl⟩,q⟩
end
section
variable{prog:Program}{w:World}{A:Around}{E:Value->Shared->Prop}{s:Shared}{K:W.Frag}{x dx C f:Addr}{mA:Str->Option Value}{name:Str}{v:Value}
end
def RelO.some_of{v:V}{o:Option Value}(r:RelO (Z v) o):∃ u,o=Z u/\RelV v u:=by
 cases o with
 | none=>exact(show False from r).elim
 | some u=>exact⟨u,rfl,r⟩
section
variable{P:Program}{w:World}{H H':Hp}{h h':Heap}{a C dx:Addr}{fs fs':List (Str×V)}
end
section
variable{X:Cx}{pins:List (Addr×Obj)}{σ:St}{H:Hp}{s:Shared}{a C dx:Addr}{fs:List (Str×V)}{f:Str}{v:V}{A:Around}{E:Value->Shared->Prop}
end
section
variable{X:Cx}{o e value:Expr}{f:Str}{pos pos' tpos:Pos}{ta tv:TE}
end
section
variable{X:Cx}{pins:List (Addr×Obj)}{σ:St}{H:Hp}{s:Shared}{A:Around}{E:Value->Shared->Prop}{Q:Value->Shared->Prop}{c:Value}{b:Bool}
end
structure Room(k:Nat)(A:Around):Prop where
 hd:A.handled=U
 dp:A.depth+3 * k+5<recursionLimit
 un:A.units+16 * k+200<cLine
def Room.mono{j k:Nat}{A:Around}(r:Room k A)(h:j<=k):Room j A:=⟨r.hd,by have:=r.dp;omega,by have:=r.un;omega⟩
theorem Room.deeper{k:Nat}{A:Around}(r:Room (k+1) A)(env:Env):Room k (A.deeper env):=
 ⟨r.hd,by have:=r.dp;show A.depth+1+3 * k+5<_;omega,by have:=r.un;show A.units+3+16 * k+200<_;omega⟩
theorem Room.depth{k:Nat}{A:Around}(r:Room k A):A.depth<recursionLimit:=by have:=r.dp;omega
theorem Room.units{k:Nat}{A:Around}(r:Room k A):A.units+64<cLine:=by have:=r.un;omega
def tNil:TA:=λ_ H Q=>Q [] H
def tCons(ta:TE)(tr:TA):TA:=λσ H Q=>ta σ H λx H1=>tr σ H1 λxs H2=>Q (x::xs) H2
section
variable{X:Cx}{e:Expr}{es:List Expr}{te:TE}{t:TA}{pos:Pos}
def BW:PA X [] tNil:=λ_ _ _ _ H Q I h=>Calls.spliced_nil ⟨[],H,I,.nil,h⟩
def qV(ha:PE X e te)(hr:PA X es t)(hs:starEach (e::es) X.env=(false,eval e X.env)::starEach es X.env:=by rfl):PA X (e::es) (tCons te t):=by
 intro pos pins s σ H Q I h
 rw [hs]
 show wpAny _ _ (spliced ((false,eval e X.env)::backTo pos (starEach es X.env))) _ _ s
 refine Calls.spliced_cons (da (ha pins s σ H _ I h) λu s1 ⟨x,H1,I1,r1,q1⟩=>?_)
 exact da (hr pos pins s1 σ H1 _ I1 q1) λus s2 ⟨xs,H2,I2,r2,q2⟩=>⟨x::xs,H2,I2,.cons r1 r2,q2⟩
def tTup(t:TA):TE:=λσ H Q=>t σ H λxs H1=>xs.length<=sizeLine/\∀ p,H1 p=U->Q (.ref p) (upd H1 p (.tup xs))
def tLst(t:TA):TE:=λσ H Q=>t σ H λxs H1=>xs.length<=sizeLine/\∀ p,H1 p=U->Q (.ref p) (upd H1 p (.lst xs))
def QM{x1}(h:PA X es t):PE X (.Tuple es x1 pos) (tTup t):=by
 intro pins s σ H Q I hq
 refine wpAny_Tuple_spliced (da (h pos pins s σ H _ I hq) λus s1 ⟨xs,H1,I1,r,z,q⟩=>⟨by rw [<- r.length];exact z,?_⟩)
 have hf:H1 s1.heap.objs.size=U:=I1.hok.fresh (Uw _)
 refine⟨.ref s1.heap.objs.size,upd H1 s1.heap.objs.size (.tup xs),I1.laid (t':=s1.toks) (λb u e=>Uv _ e) (Uw _) ?_,rfl,q _ hf⟩
 exact⟨z,us,r,⟨_,UG _ rfl,rfl,⟨_,rfl⟩,rfl⟩⟩
def Iu(h:PA X es t):PE X (.List es pos) (tLst t):=by
 intro pins s σ H Q I hq
 refine wpAny_List_spliced (da (h pos pins s σ H _ I hq) λus s1 ⟨xs,H1,I1,r,z,q⟩=>⟨by rw [<- r.length];exact z,?_⟩)
 have hf:H1 s1.heap.objs.size=U:=I1.hok.fresh (Uw _)
 refine⟨.ref s1.heap.objs.size,upd H1 s1.heap.objs.size (.lst xs),I1.laid (t':=s1.toks) (λb u e=>Uv _ e) (Uw _) ?_,rfl,q _ hf⟩
 exact⟨z,us,0,r,UG _ rfl⟩
end
abbrev Sp:=List V->Hp->VK->XK->Prop
abbrev Hi:=List Env->Hp->Shared->XK->Value->Shared->Prop
structure OT(P:Program)(w:World)(K:W.Frag)(mg:Str->Option Value)(base:Heap)(A:Around)(outer:List Env)(s:Shared)(H:Hp):Prop where
 frames:A.frames=Z outer
 mod:Mod K mg base
 bs:∀ b o,base.get? b=Z o->s.heap.get? b=Z o/\H b=U
 bsz:base.objs.size<=s.heap.objs.size
 funs:s.heap.FunFrames base outer
 frf:∀ b∈Hg outer,H b=U
 hok:HOk P w H s.heap
 bare:AllBare s.gens
def CE(outer:List Env)(P:Program)(w:World)(H:Hp)(s:Shared)(Q:VK)(u:Value)(s':Shared):Prop:=
 ∃ v H',s'.os=s.os/\AllBare s'.gens/\Un (Hg outer) [] H H' s.heap s'.heap/\HOk P w H' s'.heap/\RelV v u/\Q v H'
def CR(CX:Hi)(outer:List Env)(P:Program)(w:World)(H:Hp)(s:Shared)(Q:VK)(E:XK)(r:Result)(s':Shared):Prop:=
 match r with
 | .ok (.ret u)=>CE outer P w H s Q u s'
 | .ok _=>False
 | .error e=>CX outer H s E e s'
structure FnOk(P:Program)(w:World)(K:W.Frag)(mg:Str->Option Value)(base:Heap)(CX:Hi)(k:Nat)(f:Addr)(fd:FuncData)(ps:List Str)(sp:Sp):Prop where
 len:∀ vs H Q E,sp vs H Q E->vs.length=ps.length
 run:∀ (A:Around) (outer:List Env) (s:Shared) (H:Hp) (args:Args) (us:List Value) (vs:List V) (Q:VK) (E:XK),Room k A->OT P w K mg base A outer s H->BindsTo s fd args (ps.zip us)->Vals vs us->sp vs H Q E ->
  codeAny (model P w) A (.call (.ref f) args) (CR CX outer P w H s Q E) s
theorem FnOk.mono{P:Program}{w:World}{K:W.Frag}{mg:Str->Option Value}{base:Heap}{CX:Hi}{j k:Nat}{f:Addr}{fd:FuncData}{ps:List Str}{sp:Sp}(F:FnOk P w K mg base CX j f fd ps sp)(h:j<=k) :
  FnOk P w K mg base CX k f fd ps sp:=⟨F.len,λA outer s H args us vs Q E hr=>F.run A outer s H args us vs Q E (hr.mono h)⟩
section
variable{X:Cx}{pins:List (Addr×Obj)}{σ:St}{H:Hp}{s s':Shared}
def Inv.env0(I:Inv X pins σ H s):OT X.prog X.w X.K X.mg X.base X.A X.stack s H:=
 ⟨I.ok.frames,I.ok.mod,I.bs,UV I.ok.bsz I.sz,I.stack,I.stkFree,I.hok,I.bare⟩
def Inv.after{Q:VK}{u:Value}(I:Inv X pins σ H s)(h:CE X.stack X.prog X.w H s Q u s'):EP X pins σ Q u s':=by
 obtain⟨v,H',os,bare,un,hok,r,q⟩:=h
 obtain⟨hh,g,d,t,os'⟩:=s'
 obtain rfl:os'=s.os:=os
 exact⟨v,H',I.call (h':=hh) (g':=g) (d':=d) (t':=t) (ch:=[]) un hok bare (λb z=>absurd z (by simp)),r,q⟩
end
def Du(sp:Sp)(dvs:List V)(E:XK)(t:TA):TE:=λσ H Q=>t σ H λvs H1=>sp (vs++dvs) H1 Q E
def Binds(K:W.Frag)(fd:FuncData)(ps:List Str)(ds:List Value):Prop:=
 ∀ (s:Shared) (us:List Value),K.In s.heap->(us++ds).length=ps.length->BindsTo s fd ⟨us,[]⟩ (ps.zip (us++ds))
def Binds.all{K:W.Frag}{fd:FuncData}{ps:List Str}(h:∀ us:List Value,us.length=ps.length->bindArgs fd ⟨us,[]⟩=pure (ps.zip us)):Binds K fd ps []:=λs us _ hl=>by
 rw [UX] at hl ⊢
 exact .of_eq (h us hl)
def yL(CX:Hi)(X:Cx)(E:XK):Prop:=∀ (pins:List (Addr×Obj)) (σ:St) (H:Hp) (s:Shared) (e:Value) (s':Shared),Inv X pins σ H s->CX X.stack H s E e s'->X.xe e s'
section
variable{X:Cx}{CX:Hi}{k:Nat}{f C:Addr}{fd:FuncData}{ps:List Str}{sp:Sp}{dvs:List V}{ds:List Value}{E:XK}{x m:Str}{p pos apos:Pos}{e o:Expr}{es:List Expr}{ta:TE}{t:TA}
def BM{pins:List (Addr×Obj)}{σ:St}{H:Hp}{s:Shared}{Q:VK}{us:List Value}{vs:List V}(F:FnOk X.prog X.w X.K X.mg X.base CX k f fd ps sp)(hr:Room k X.A)(hb:Binds X.K fd ps ds)(hd:Vals dvs ds)(hx:yL CX X E)
  (I:Inv X pins σ H s) (r:Vals vs us) (h:sp (vs++dvs) H Q E):wpAny (model X.prog X.w) X.A (call (.ref f) us) (EP X pins σ Q) X.xe s:=by
 have r2:Vals (vs++dvs) (us++ds):=r.append hd
 have hl:(us++ds).length=ps.length:=by rw [<- r2.length];exact F.len _ _ _ _ h
 refine wpAny_call (VO (F.run X.A X.stack s H ⟨us,[]⟩ (us++ds) (vs++dvs) Q E hr I.env0 (hb s us I.kIn hl) r2 h) λr s' hq=>?_)
 cases r with
 | error e=>exact hx pins σ H s e s' I hq
 | ok fl=>
  cases fl with
  | ret u=>exact I.after hq
  | next=>exact False.elim hq
  | brk=>exact False.elim hq
  | cont=>exact False.elim hq
def My(F:FnOk X.prog X.w X.K X.mg X.base CX k f fd ps sp)(hr:Room k X.A)(hg:Gl X x)(hm:X.mg x=Z (.ref f))(hk:W.keepIn X.K (.ref f)=true)(hb:Binds X.K fd ps ds)(hd:Vals dvs ds)(hx:yL CX X E)
  (ha:PA X (e::es) t) (hdb:(x == ("__debug__":Str))=false:=by decide) (he:starEach (e::es) X.env=(false,eval e X.env)::starEach es X.env:=by rfl) (hpl:(backTo pos (starEach es X.env)).any (·.1)=false:=by rfl) :
  PE X (.Call (.Name x p) (e::es) [] pos) (Du sp dvs E t):=by
 intro pins s σ H Q I h
 refine Wa (yf I hg hm ?_ hdb)
 refine W.callWith_K (h₀:=X.base) I.ok.mod.kin hk (da (ha pos pins s σ H _ I h) λus s1 ⟨vs,H1,I1,r,q⟩=>⟨I1.kIn,?_⟩) he hpl
 exact BM F hr hb hd hx I1 r q
def IA(F:FnOk X.prog X.w X.K X.mg X.base CX k f fd ps sp)(hr:Room k X.A)(hg:Gl X x)(hm:X.mg x=Z (.ref f))(hk:W.keepIn X.K (.ref f)=true)(hb:Binds X.K fd ps ds)(hd:Vals dvs ds)(hx:yL CX X E)
  (hdb:(x == ("__debug__":Str))=false:=by decide):PE X (.Call (.Name x p) [] [] pos) (Du sp dvs E tNil):=by
 intro pins s σ H Q I h
 refine Wa (yf I hg hm ?_ hdb)
 exact W.callWith_K0 I.kIn hk (BM (us:=[]) F hr hb hd hx I .nil h)
end
section
variable{X:Cx}{CX:Hi}{k:Nat}{f C:Addr}{fd:FuncData}{ps ks:List Str}{sp:Sp}{E:XK}{x m:Str}{p pos apos kpos:Pos}{e o:Expr}{es:List Expr}{kws:List Keyword}{te ta:TE}{t tk:TA}{nm:Option Str}
variable{g:List Value->List Value->List Value}{gV:List V->List V->List V}
end
structure aM(N P:List Str)(sc:Scope):Prop where
 kind:sc.kind=.function
 co:sc.isCoroutine=false
 gen:sc.isGenerator=false
 nd:N.Nodup
 pre:N.take P.length=P
 par:∀ x∈P,sc.names.lookup x=Z .local\/sc.names.lookup x=Z .cell
 nofree:∀ y∈sc.names,y.2≠.free
theorem wG{kindOf:Str->Option NameKind}{x:Str}:∀ {binds:List (Str×Value)} {m:Str->Option Value},(∀ v,(x,v) ∉ binds)->bindL kindOf binds m x=m x
 | [],_,_=>rfl
 | (n,v)::r,m,h=>by
  unfold bindL
  rw [wG λw hw=>h w (Ur _ hw)]
  split
  ·have:x≠n:=by rintro rfl;exact h v Ul
   simp [this]
  ·rfl
theorem wI{kindOf:Str->Option NameKind}{x:Str}:∀ {binds:List (Str×Value)} {m:Str->Option Value},(∀ v,(x,v) ∉ binds)->bindC kindOf binds m x=m x
 | [],_,_=>rfl
 | (n,v)::r,m,h=>by
  unfold bindC
  rw [wI λw hw=>h w (Ur _ hw)]
  split
  ·rfl
  ·have:x≠n:=by rintro rfl;exact h v Ul
   simp [this]
theorem wH{kindOf:Str->Option NameKind}{x:Str}{v:Value}:∀ {P:List Str} {vs:List Value} {i:Nat} {m:Str->Option Value},P.Nodup->P[i]?=Z x->vs[i]?=Z v->kindOf x=Z .local ->
  bindL kindOf (P.zip vs) m x=Z v
 | [],_,_,_,_,h,_,_=>by simp at h
 | _::_,[],_,_,_,_,h,_=>by simp at h
 | p::P,w::vs,0,m,nd,h1,h2,hk=>by
  simp at h1 h2;subst h1;subst h2
  show bindL kindOf ((p,w)::P.zip vs) m p=_
  unfold bindL
  rw [wG λv hv=>(Vy.mp nd).1 (Xx hv).1,if_pos hk]
  simp
 | p::P,w::vs,i+1,m,nd,h1,h2,hk=>by
  show bindL kindOf ((p,w)::P.zip vs) m x=_
  unfold bindL
  exact wH (i:=i) (Vy.mp nd).2 (by simpa using h1) (by simpa using h2) hk
theorem wJ{kindOf:Str->Option NameKind}{x:Str}{v:Value}:∀ {P:List Str} {vs:List Value} {i:Nat} {m:Str->Option Value},P.Nodup->P[i]?=Z x->vs[i]?=Z v->kindOf x≠Z .local ->
  bindC kindOf (P.zip vs) m x=Z v
 | [],_,_,_,_,h,_,_=>by simp at h
 | _::_,[],_,_,_,_,h,_=>by simp at h
 | p::P,w::vs,0,m,nd,h1,h2,hk=>by
  simp at h1 h2;subst h1;subst h2
  show bindC kindOf ((p,w)::P.zip vs) m p=_
  unfold bindC
  rw [wI λv hv=>(Vy.mp nd).1 (Xx hv).1,if_neg hk]
  simp
 | p::P,w::vs,i+1,m,nd,h1,h2,hk=>by
  show bindC kindOf ((p,w)::P.zip vs) m x=_
  unfold bindC
  exact wJ (i:=i) (Vy.mp nd).2 (by simpa using h1) (by simpa using h2) hk
noncomputable def start(N:List Str)(vs:List V):St:=vs.map Z++List.replicate (N.length - vs.length) U
noncomputable def uL(CX:Hi)(P:Program)(w:World)(K:W.Frag)(mg:Str->Option Value)(base:Heap)(N:List Str)(qual:Str)(scope:Scope)(f:Addr)(cd:Value)(A:Around)(outer:List Env)(s:Shared)(H:Hp)(E:XK):Cx where
 prog:=P
 w:=w
 K:=K
 mg:=mg
 base:=base
 A:=A.deeper (envOfC qual scope s.heap.objs.size f cd)
 N:=N
 s₀:=s
 H₀:=H
 env:=envOfC qual scope s.heap.objs.size f cd
 outer:=outer
 stack:=envOfC qual scope s.heap.objs.size f cd::outer
 ex:=[]
 calm:=true
 fn:=λ_=>true
 pn:=[]
 xe:=λe s'=>wpAny (model P w) (A.deeper (envOfC qual scope s.heap.objs.size f cd)) (leaving (envOfC qual scope s.heap.objs.size f cd) e) (λ_ s''=>CX outer H s E e s'') (λe' s''=>CX outer H s E e' s'') s'
def Bc{sc:Scope}{n:Nat}{x:Str}(h:sc.names.lookup x=Z .cell):∃ c,(cellsFrom n sc.names []).lookup x=Z c:=by
 have q:=W.cellsFrom_some sc.names n [] (.inl h)
 exact VF.mp q
def FV{CX:Hi}{P:Program}{w:World}{K:W.Frag}{mg:Str->Option Value}{base:Heap}{N ps:List Str}{qual:Str}{scope:Scope}{f:Addr}{cd:Value}{A:Around}{outer:List Env}{s s1:Shared}{H:Hp}{E:XK}{us:List Value}{vs:List V}
  (S:aM N ps scope) (hd:A.handled=U) (e0:OT P w K mg base A outer s H) (hl:vs.length=ps.length) (r:Vals vs us)
  (x:InCallC s s.heap.objs.size (bindL (envOfC qual scope s.heap.objs.size f cd).kindOf (ps.zip us) λ_=>U) (cellsFrom (s.heap.objs.size+1) scope.names []) (bindC (envOfC qual scope s.heap.objs.size f cd).kindOf (ps.zip us) λ_=>U) s1) :
  Inv (uL CX P w K mg base N qual scope f cd A outer s H E) [] (start N vs) H s1:=by
 have hpl:ps.length<=N.length:=by have:=congrArg List.length S.pre;rw [VX] at this;omega
 obtain⟨h1,tk,rfl,hk⟩:=x.done
 have noA:∀ b:Addr,b ∉ (uL CX P w K mg base N qual scope f cd A outer s H E).ex:=λb z=>absurd (show b∈([]:List Addr) from z) (by simp)
 refine⟨⟨e0.mod,S.kind,rfl,rfl,Uw _,λy z c h1 h2=>?_,λy hy=>?_,λy c _ h=>?_,λ_=>hd,Around.frames_deeper e0.frames,.inr ⟨rfl,rfl⟩,λb z=>absurd z (noA b),e0.bs,e0.bsz,λb _ _=>noA b,λb z=>absurd z (noA b),e0.funs,e0.frf⟩,
  rfl,e0.bare,Un.kept hk,⟨_,x.toInCall.ns,λi y v h1 h2 h3=>?_⟩,λy c h=>⟨_,x.cell y c h⟩,e0.hok.fresh (Uw _),λy c h=>?_,λp hp=>absurd (show p∈([]:List (Addr×Obj)) from hp) (by simp),e0.hok.kept hk,?_⟩
 ·exact name_of_addr x.apart (VH h1) (VH h2)
 ·have hy:scope.names.lookup y=Z .cell\/scope.names.lookup y=Z .free:=hy
  rcases hy with hy | hy
  ·exact Bc hy
  ·exact absurd rfl (S.nofree _ (VH hy))
 ·exact XW (x.above y c (VH h))
 ·have hi:i<vs.length:=by
   unfold start at h2
   by_cases hi:i<vs.length
   ·exact hi
   ·rw [Vm (by simpa using hi)] at h2
    rw [XI] at h2
    split at h2 <;> cases h2
  have ha:vs[i]?=Z v:=by
   unfold start at h2
   rw [UM (by simpa using hi),VG] at h2
   cases e:vs[i]? with
   | none=>rw [e] at h2;cases h2
   | some a=>rw [e] at h2;cases h2;rfl
  obtain⟨u,hu,rv⟩:=r.get ha
  have hp:ps[i]?=Z y:=by
   rw [<- S.pre,XG (by omega)];exact h1
  have ndP:ps.Nodup:=by rw [<- S.pre];exact S.nd.sublist (List.take_sublist _ _)
  refine⟨u,rv,?_⟩
  rcases S.par y (UH hp) with k | k
  ·exact .inl ⟨k,wH ndP hp hu k⟩
  ·obtain⟨c,e⟩:=Bc (n:=s.heap.objs.size+1) k
   refine .inr ⟨.inl k,c,e,?_⟩
   have q:=x.cell y c e
   rw [wJ ndP hp hu (by show scope.names.lookup y≠_;rw [k];decide)] at q
   exact q
 ·exact e0.hok.fresh (XW (x.above y c (VH h)))
 ·unfold start
  show _=N.length
  rw [UC,Ux,List.length_replicate]
  omega
def fn_of{CX:Hi}{P:Program}{w:World}{K:W.Frag}{mg:Str->Option Value}{base:Heap}{k:Nat}{f:Addr}{name qual:Str}{params:Arguments}{body:List Stmt}{scope:Scope}{dV kV doc pm cdv ct oc:Value}{an od:Option Addr}
  {osl:Array (Option Value)} {N ps:List Str} {sp:Sp} (lk:K.lookup f=Z ⟨oc,od,.func (W.fnOf name qual params body scope dV kV doc pm an cdv ct),osl⟩) (hcd:W.codeIn K cdv qual=true) (S:aM N ps scope)
  (len:∀ vs H Q E,sp vs H Q E->vs.length=ps.length)
  (hbody:∀ (A:Around) (outer:List Env) (s:Shared) (H:Hp) (vs:List V) (Q:VK) (E:XK),Room k (A.deeper (envOfC qual scope s.heap.objs.size f cdv))->sp vs H Q E ->
   ∃ t,PSs (uL CX P w K mg base N qual scope f cdv A outer s H E) body t/\t { nx:=λ_ H'=>Q .non H',rt:=Q } (start N vs) H) :
  FnOk P w K mg base CX (k+1) f (W.fnOf name qual params body scope dV kV doc pm an cdv ct) ps sp:=by
 refine⟨len,λA outer s H args us vs Q E hr e0 hb r hsp=>?_⟩
 have hl:=len _ _ _ _ hsp
 have KX:K.In s.heap:=e0.mod.kin.keeps λb o e=>(e0.bs b o e).1
 have lim:s.heap.NoLimit:=e0.mod.nolimit.keeps λb o e=>(e0.bs b o e).1
 have hkind:∀ y∈ps.zip us,scope.names.lookup y.1=Z .local\/(scope.names.lookup y.1=Z .cell/\((cellsFrom (s.heap.objs.size+1) scope.names []).lookup y.1).isSome=true):=λ⟨n,v⟩ hy=>by
  rcases S.par n (Xx hy).1 with q | q
  ·exact .inl q
  ·exact .inr ⟨q,W.cellsFrom_some _ _ _ (.inl q)⟩
 refine codeAny_call_function hr.depth (KX _ _ lk) rfl S.co S.gen rfl (W.codeRec_of KX hcd) (hb _ _ _ _ ?_)
 refine wpAny_newFunctionEnv_cells S.kind hkind λenv he s1 x=>?_
 subst he
 refine⟨lim.keeps x.toInCall.keep,codeAny_func ?_⟩
 obtain⟨t,ht,hq⟩:=hbody A outer s H vs Q E (hr.deeper _) hsp
 have I:Inv (uL CX P w K mg base N qual scope f cdv A outer s H E) [] (start N vs) H s1:=FV S hr.hd e0 hl r x
 refine Va (ht [] s1 (start N vs) H _ I hq) (λfl s' hs=>?_) λe s' hs=>hs
 have fin:∀ {σ':St} {H':Hp} {v:V} {u:Value},Inv (uL CX P w K mg base N qual scope f cdv A outer s H E) [] σ' H' s'->RelV v u->Q v H'->CE outer P w H s Q u s':=
  λ{σ' H' v u} J rv q=>⟨v,H',J.os,J.bare,J.base,J.hok,rv,q⟩
 cases fl with
 | ret u=>
  obtain⟨v,σ',H',J,rv,q⟩:=hs
  exact fin J rv q
 | next=>
  obtain⟨σ',H',J,q⟩:=hs
  exact fin (v:=V.non) (u:=Value.none) J rfl q
 | brk=>
  obtain⟨_,_,_,q⟩:=hs
  exact False.elim q
 | cont=>
  obtain⟨_,_,_,q⟩:=hs
  exact False.elim q
section
variable{X:Cx}{x:Str}{p pos:Pos}{e:Expr}{es:List Expr}{t:TA}{id T:String}{r:List V->Hp->VK->Prop}
def tCB(r:List V->Hp->VK->Prop)(t:TA):TE:=λσ H Q=>t σ H λvs H1=>r vs H1 Q
def rX(hc:CallR X (.builtin id) r)(hg:Gl X x)(hm:X.mg x=U)(hv:bootBuiltins x=Z (.builtin id))(ha:PA X (e::es) t)(hn:x ≠ "__name__":=by decide)(hdb:(x == ("__debug__":Str))=false:=by decide)
  (he:starEach (e::es) X.env=(false,eval e X.env)::starEach es X.env:=by rfl) (hpl:(backTo pos (starEach es X.env)).any (·.1)=false:=by rfl):PE X (.Call (.Name x p) (e::es) [] pos) (tCB r t):=by
 intro pins s σ H Q I h
 refine Wa (pL I hg hm hv ?_ hn hdb)
 exact PyProof.Rows.callWith_builtin1 (da (ha pos pins s σ H _ I h) λus s1 ⟨vs,H1,I1,r1,q1⟩=>hc pins s1 σ H1 vs us Q I1 r1 q1) he hpl
def vj(hc:CallR X (.type T) r)(hg:Gl X x)(hm:X.mg x=U)(hv:bootBuiltins x=Z (.type T))(ha:PA X (e::es) t)(hn:x ≠ "__name__":=by decide)(hdb:(x == ("__debug__":Str))=false:=by decide)
  (he:starEach (e::es) X.env=(false,eval e X.env)::starEach es X.env:=by rfl) (hpl:(backTo pos (starEach es X.env)).any (·.1)=false:=by rfl):PE X (.Call (.Name x p) (e::es) [] pos) (tCB r t):=by
 intro pins s σ H Q I h
 refine Wa (pL I hg hm hv ?_ hn hdb)
 exact VP (da (ha pos pins s σ H _ I h) λus s1 ⟨vs,H1,I1,r1,q1⟩=>hc pins s1 σ H1 vs us Q I1 r1 q1) he hpl
end
end L2
namespace HT
section
open PySem.SeqAt
open PySem.AutoSeq1 (wpAny_loadPart')
open PySem.MeetsSeq PySem.MeetsSeq2 PySem.MeetsSeq3
end
section
variable{prog:Program}{w:World}{A:Around}{E:Value->Shared->Prop}{s:Shared}
def OD{t b:Addr}{vs ws:List Value}{Q:Value->Shared->Prop}(ht:IsTup s.heap t vs.toArray)(hb:IsTup s.heap b ws.toArray)(hv:vs≠[])
  (h1:ws=[]->Q (.ref t) s) (h2:ws≠[]->Q (.ref s.heap.objs.size) { s with heap:=s.heap.push { cls:=.type "tuple",data:=.seq (vs++ws).toArray } })
  (hsz:vs.length+ws.length<=sizeLine):wpAny (model prog w) A (binaryOp .Add (.ref t) (.ref b)) Q E s:=by
 obtain⟨⟨cls,dd,data,sl⟩,ho,hc,n,hd⟩:=id ht
 obtain⟨⟨cls2,dd2,data2,sl2⟩,ho2,hc2,n2,hd2⟩:=id hb
 simp only at hc hd hc2 hd2
 subst hc hd hc2 hd2
 have e:vs.toArray++ws.toArray=(vs++ws).toArray:=by simp
 by_cases hw:ws=[]
 ·exact XV ⟨_,ho,rfl⟩ ⟨_,ho2,rfl⟩ Xl XH Xp Xf (Xb _ _)
   (tuple_addW1 t b vs.toArray ws.toArray n n2 dd dd2 sl sl2 (by simpa using hv) (by simp [hw])) ⟨ho,ho2,h1 hw⟩
 ·refine XV ⟨_,ho,rfl⟩ ⟨_,ho2,rfl⟩ Xl XH Xp Xf (Xb _ _)
   (tuple_addW2 t b vs.toArray ws.toArray n n2 dd dd2 sl sl2 (by simpa using hv) (by simpa using hw) (by rw [Um,Um];exact hsz)) ⟨ho,ho2,?_⟩
  rw [e]
  exact h2 hw
noncomputable def eu(n d:Nat):Option Int->Nat
 | none=>d
 | some v=>if v<0 then (v+(n:Int)).toNat else min v.toNat n
def sIx_nat(n d k:Nat):eu n d (Z (k:Int))=min k n:=by
 show (if (k:Int)<0 then ((k:Int)+(n:Int)).toNat else min (k:Int).toNat n)=min k n
 rw [if_neg (by omega),Vx]
def Qy(n d:Nat)(hd:d<=n)(o:Option Int):eu n d o<=n:=by
 cases o with
 | none=>exact hd
 | some v=>
  show (if v<0 then (v+(n:Int)).toNat else min v.toNat n)<=n
  by_cases hv:v<0
  ·rw [if_pos hv];omega
  ·rw [if_neg hv];exact Nat.min_le_right _ _
def EJ(v:Int)(n d:Nat):(if v<0 then max (v+(n:Int)) 0 else min v (n:Int))=((eu n d (Z v):Nat):Int):=by
 show (if v<0 then max (v+(n:Int)) 0 else min v (n:Int))=(((if v<0 then (v+(n:Int)).toNat else min v.toNat n):Nat):Int)
 by_cases hv:v<0
 ·simp only [if_pos hv];omega
 ·simp only [if_neg hv];omega
def Dl(lo hi:Option Int)(n:Nat):Builtin.Slice.sliceAdjust lo hi 1 (n:Int)=(((eu n 0 lo:Nat):Int),((eu n n hi:Nat):Int)):=by
 have h1:¬ ((1:Int)<0):=by omega
 unfold Builtin.Slice.sliceAdjust
 simp only [h1,Vq]
 refine Prod.ext ?_ ?_
 ·cases lo with
  | none=>rfl
  | some v=>exact EJ v n 0
 ·cases hi with
  | none=>rfl
  | some v=>exact EJ v n n
def BU(i j:Nat):Builtin.Slice.slicePlaces (i:Int) (j:Int) 1=j - i:=by
 unfold Builtin.Slice.slicePlaces
 have h1:(1:Int)>0:=by omega
 simp only [h1,VY,Int.ediv_one]
 split <;> omega
def rL{v:Value}{o:Option Int}{Q:Option Int->Shared->Prop}(p:IsPart v o)(h:Q o s):wpAny (model prog w) A (Builtin.Slice.slicePartIndex v) Q E s:=by
 cases p with
 | none=>exact slicePart_none h
 | int i t=>exact slicePart_int h
def jM{sl:Addr}{vl vu:Value}{lo hi:Option Int}{n:Nat}{Q:Int×Int×Nat->Shared->Prop}(hs:s.heap.IsSliceOf sl vl vu .none)(pl:IsPart vl lo)(pu:IsPart vu hi)
  (h:Q (((eu n 0 lo:Nat):Int),1,eu n n hi - eu n 0 lo) s):wpAny (model prog w) A (Builtin.Slice.sliceApplied (.ref sl) (pure (n:Int))) Q E s:=by
 obtain⟨os,hos,hcs,hds⟩:=id hs
 unfold Builtin.Slice.sliceApplied Builtin.Slice.sliceFields
 refine Up (Up (Wr hos hds (x:=vl) rfl (Up (Wr hos hds (x:=vu) rfl (Up (Wr hos hds (x:=.none) rfl (UD ?_)))))))
 refine Up (slicePart_none ?_)
 show wpAny _ _ (if ((1:Int) == 0)=true then _ else _) _ _ s
 rw [if_neg (by decide)]
 refine Up (rL pl (Up (rL pu (Up (UD ?_)))))
 show wpAny _ _ (match Builtin.Slice.sliceAdjust lo hi 1 (n:Int) with | (lo,hi)=>pure (lo,(1:Int),Builtin.Slice.slicePlaces lo hi 1)) _ _ s
 rw [Dl lo hi n]
 show wpAny _ _ (pure (((eu n 0 lo:Nat):Int),(1:Int),Builtin.Slice.slicePlaces ((eu n 0 lo:Nat):Int) ((eu n n hi:Nat):Int) 1)) _ _ s
 rw [BU]
 exact UD h
def Im(xs:Array Value)(i k:Nat):((List.range k).filterMap λ(m:Nat)=>xs[((i:Int)+(m:Int) * 1).toNat]?).toArray=((xs.toList.drop i).take k).toArray:=by
 have e:(λ(m:Nat)=>xs[((i:Int)+(m:Int) * 1).toNat]?)=λm=>xs[i+m]?:=by
  funext m
  have:((i:Int)+(m:Int) * 1).toNat=i+m:=by omega
  rw [this]
 rw [e]
 have:=pick_run xs i k
 rw [List.filterMap_map] at this
 have e2:((λx=>xs[x]?) ∘ λx=>i+x)=λm=>xs[i+m]?:=rfl
 rw [e2] at this
 rw [this]
def oV{t sl:Addr}{items:Array Value}{vl vu:Value}{lo hi:Option Int}{Q:Value->Shared->Prop}(ht:IsTup s.heap t items)(hs:s.heap.IsSliceOf sl vl vu .none)(pl:IsPart vl lo)(pu:IsPart vu hi)
  (hw:¬ (eu items.size 0 lo=0/\eu items.size items.size hi=items.size))
  (h:Q (.ref s.heap.objs.size) { s with heap:=s.heap.push { cls:=.type "tuple",data:=.seq ((items.toList.drop (eu items.size 0 lo)).take (eu items.size items.size hi - eu items.size 0 lo)).toArray } })
  (hsz:items.size<=sizeLine):wpAny (model prog w) A (getItem (.ref t) (.ref sl)) Q E s:=by
 have htake:sizeOk (.seq ((items.toList.drop (eu items.size 0 lo)).take (eu items.size items.size hi - eu items.size 0 lo)).toArray):=by
  show ((items.toList.drop (eu items.size 0 lo)).take (eu items.size items.size hi - eu items.size 0 lo)).toArray.size<=sizeLine
  rw [Um,VX,Xn,WU]
  omega
 have hj:eu items.size items.size hi<=items.size:=Qy _ _ (Uw _) hi
 obtain⟨os,hos,hcs,hds⟩:=id hs
 have hTs:s.TypeIs (.ref sl) "slice":=⟨os,hos,hcs⟩
 unfold getItem
 try with_reducible refine VQ ?_
 first | refine Up (UD ?_) | skip
 refine Up (wpAny_sequenceKey ht.typeIs (by decide) ?_)
 refine Up (VZ (name:=Str.ofString "__getitem__") ht.typeIs VE
  (WF VE ht.typeIs Yj ?_ (Yo _ _)))
 show wpAny _ _ (Builtin.Tuple.tupleItemsOf (.ref t) >>= _) _ _ s
 refine Up (tupleItemsOf_ ht ?_)
 refine Up (XT hTs ?_)
 rw [if_pos (by decide)]
 refine Up (jM hs pl pu ?_)
 have hno:¬ ((((eu items.size 0 lo:Nat):Int) == 0&&(1:Int) == 1&&(eu items.size items.size hi - eu items.size 0 lo) == items.size)=true):=by
  intro q
  rw [Uk,Uk] at q
  have q1:((eu items.size 0 lo:Nat):Int)=0:=eq_of_beq q.1.1
  have q2:eu items.size items.size hi - eu items.size 0 lo=items.size:=eq_of_beq q.2
  exact hw ⟨by omega,by omega⟩
 show wpAny _ _ (if (((eu items.size 0 lo:Nat):Int) == 0&&(1:Int) == 1&&(eu items.size items.size hi - eu items.size 0 lo) == items.size)=true then _ else _) _ _ s
 rw [if_neg hno,Im]
 first
  | exact Up (m:=Builtin.Tuple.tupleExact _) (Vu (UD ⟨_,rfl,UD h⟩) htake)
  | exact Up (m:=Builtin.Tuple.tupleExact _) (Vu (Up (UD (UD ⟨_,rfl,UD h⟩))) htake)
  | exact Up (Up (m:=Builtin.Tuple.tupleExact _) (Vu (UD (UD ⟨_,rfl,UD h⟩)) htake))
  | exact Up (Up (m:=Builtin.Tuple.tupleExact _) (Vu (UD ⟨_,rfl,UD h⟩) htake))
end
end HT
namespace L2
abbrev TO:=St->Hp->(Option Int->Hp->Prop)->Prop
def PO(X:Cx)(e:Option Expr)(t:TO):Prop:=
 ∀ (pins:List (Addr×Obj)) (s:Shared) (σ:St) (H:Hp) (Q:Option Int->Hp->Prop),Inv X pins σ H s->t σ H Q ->
  wpAny (model X.prog X.w) X.A (evalPart e X.env) (λu s'=>∃ o H',Inv X pins σ H' s'/\IsPart u o/\Q o H') X.xe s
noncomputable def LP:TO:=λ_ H Q=>Q U H
noncomputable def tPart(t:TE):TO:=λσ H Q=>t σ H λx H1=>∃ i,x=.int i/\Q (Z i) H1
section
variable{X:Cx}{e:Expr}{te:TE}{lo hi:Option Expr}{tl th:TO}{pos p2:Pos}
def Mq:PO X U LP:=by
 intro pins s σ H Q I h
 rw [evalPart_none]
 exact UD ⟨U,H,I,.none,h⟩
def Mp(h:PE X e te):PO X (Z e) (tPart te):=by
 intro pins s σ H Q I hw
 rw [evalPart_some]
 refine da (h pins s σ H _ I hw) λu s1 ⟨x,H1,I1,r1,q1⟩=>?_
 obtain⟨i,rfl,q⟩:=q1
 obtain⟨t,rfl⟩:=r1
 exact⟨Z i,H1,I1,.int i t,q⟩
def SlR(X:Cx)(r:V->Option Int->Option Int->Hp->VK->Prop):Prop:=
 ∀ (pins:List (Addr×Obj)) (s:Shared) (σ:St) (H:Hp) (x:V) (v vl vu:Value) (lo hi:Option Int) (sl:Addr) (Q:VK),Inv X pins σ H s->RelV x v->s.heap.IsSliceOf sl vl vu .none->IsPart vl lo->IsPart vu hi->r x lo hi H Q ->
  ∃ T id,typeLookup (.type T) "__getitem__" = pure (Z (.builtin id))/\s.TypeIs v T/\wpAny (model X.prog X.w) X.A (getItem v (.ref sl)) (EP X pins σ Q) X.xe s
def SlR.or{r r':V->Option Int->Option Int->Hp->VK->Prop}(h:SlR X r)(h':SlR X r'):SlR X (λx lo hi H Q=>r x lo hi H Q\/r' x lo hi H Q):=by
 intro pins s σ H x v vl vu lo hi sl Q I rx hs pl pu q
 rcases q with q | q
 ·exact h pins s σ H x v vl vu lo hi sl Q I rx hs pl pu q
 ·exact h' pins s σ H x v vl vu lo hi sl Q I rx hs pl pu q
def tSl(r:V->Option Int->Option Int->Hp->VK->Prop)(te:TE)(tl th:TO):TE:=λσ H Q=>te σ H λx H1=>tl σ H1 λl H2=>th σ H2 λu H3=>r x l u H3 Q
def Ir{r:V->Option Int->Option Int->Hp->VK->Prop}(hr:SlR X r)(he:PE X e te)(hl:PO X lo tl)(hu:PO X hi th):PE X (.Subscript e (.Slice lo hi U p2) pos) (tSl r te tl th):=by
 intro pins s σ H Q I h
 refine Subscript_ (da (he pins s σ H _ I h) λv s1 ⟨x,H1,I1,r1,q1⟩=>?_)
 refine wpAny_Slice (da (hl pins s1 σ H1 _ I1 q1) λvl s2 ⟨l,H2,I2,pl,q2⟩=>da (hu pins s2 σ H2 _ I2 q2) λvu s3 ⟨u,H3,I3,pu,q3⟩=>?_)
 rw [evalPart_none]
 refine UD ?_
 have I4:Inv X pins σ H3 { s3 with heap:=s3.heap.push { cls:=.type "slice",data:=.fields #[vl,vu,.none] } }:=I3.kept (t':=s3.toks) λb ob q=>Uv _ q
 obtain⟨T,id,hT,ht,hg⟩:=hr pins { s3 with heap:=s3.heap.push { cls:=.type "slice",data:=.fields #[vl,vu,.none] } } σ H3 x v vl vu l u s3.heap.objs.size Q I4 r1 (Heap.IsSliceOf.new ..) pl pu q3
 show wpAny (model X.prog X.w) X.A (subscriptTail e (.Slice lo hi U p2) v (.ref s3.heap.objs.size)) (EP X pins σ Q) X.xe { s3 with heap:=s3.heap.push { cls:=.type "slice",data:=.fields #[vl,vu,.none] } }
 exact tail_any (ops:=[.ref s3.heap.objs.size,v]) ht hT hg (by with_unfolding_all rfl)
noncomputable def Bb(xs:List V)(lo hi:Option Int):List V:=(xs.drop (HT.eu xs.length 0 lo)).take (HT.eu xs.length xs.length hi - HT.eu xs.length 0 lo)
def qI(xs:List V)(lo hi:Option Int):(Bb xs lo hi).length<=xs.length:=by
 unfold Bb
 rw [VX,Xn]
 omega
def rSlT(K:W.Frag):V->Option Int->Option Int->Hp->VK->Prop:=λx lo hi H Q=>∃ a xs,x=.ref a/\oo K H a xs /\
 ¬ (HT.eu xs.length 0 lo=0/\HT.eu xs.length xs.length hi=xs.length)/\∀ p,H p=U->Q (.ref p) (upd H p (.tup (Bb xs lo hi)))
def Qt:SlR X (rSlT X.K):=by
 intro pins s σ H x v vl vu lo hi sl Q I rx hs pl pu h
 obtain⟨a,xs,rfl,hx,hw,q⟩:=h
 cases rx
 obtain⟨its,r,ht,hz⟩:=I.tuple hx
 have hlen:its.toArray.size=xs.length:=by rw [Um];exact r.length.symm
 refine⟨"tuple",_,PyProof.Rows.slot_tuple_getitem.lookup,ht.typeIs,?_⟩
 refine HT.oV ht hs pl pu (by rw [hlen];exact hw) ?_ (by rw [hlen];exact hz)
 rw [hlen]
 refine⟨.ref s.heap.objs.size,_,I.laid (t':=s.toks) (o:=.tup (Bb xs lo hi)) (λb ob q=>Uv _ q) (Uw _) ?_,rfl,q _ (I.hok.fresh (Uw _))⟩
 exact⟨UV (qI xs lo hi) hz,_,(r.drop (HT.eu xs.length 0 lo)).take (HT.eu xs.length xs.length hi - HT.eu xs.length 0 lo),IsTupN.new _ _⟩
noncomputable def rCatT(K:W.Frag):R2:=λx y H Q=>∃ a b xs ys,x=.ref a/\y=.ref b/\oo K H a xs/\oo K H b ys/\xs≠[]/\xs.length+ys.length<=sizeLine /\
 (ys=[]->Q (.ref a) H)/\(ys≠[]->∀ p,H p=U->Q (.ref p) (upd H p (.tup (xs++ys))))
def Vals.nil_iff{xs:List V}{us:List Value}(r:Vals xs us):us=[]↔xs=[]:=by
 cases r with
 | nil=>simp
 | cons _ _=>simp
def MN:OpR X (binaryOp .Add) (rCatT X.K):=by
 intro pins s σ H x y v u Q I rx ry h
 obtain⟨a,b,xs,ys,rfl,rfl,ha,hb,hx,hz,q1,q2⟩:=h
 cases rx
 cases ry
 obtain⟨its,r1,p1,_⟩:=I.tuple ha
 obtain⟨its2,r2,p2,_⟩:=I.tuple hb
 refine HT.OD p1 p2 (λz=>hx (r1.nil_iff.mp z)) (λz=>⟨.ref a,H,I,rfl,q1 (r2.nil_iff.mp z)⟩) (λz=>?_) (by rw [<- r1.length,<- r2.length];exact hz)
 refine⟨.ref s.heap.objs.size,_,I.laid (t':=s.toks) (o:=.tup (xs++ys)) (λb ob q=>Uv _ q) (Uw _) ?_,rfl,q2 (λw=>z (r2.nil_iff.mpr w)) _ (I.hok.fresh (Uw _))⟩
 exact⟨by rw [UC];exact hz,_,r1.append r2,IsTupN.new _ _⟩
end
def CH(n:Nat)(i:Int):Option Nat:=if 0<=i then (if i<n then Z i.toNat else U) else if -(n:Int)<=i then Z (i+n).toNat else U
noncomputable def oa{α:Type}(xs:List α)(i:Int):Option α:=(CH xs.length i).bind λj=>xs[j]?
def Em{n:Nat}{i:Int}{j:Nat}(h:CH n i=Z j):seqIndex? i n=Z j/\j<n/\-(n:Int)<=i/\i<n:=by
 unfold CH at h
 by_cases h0:0<=i
 ·rw [if_pos h0] at h
  by_cases h1:i<n
  ·rw [if_pos h1] at h
   have e:i.toNat=j:=Uu h
   exact⟨by rw [Yi h0 h1,e],by omega,by omega,h1⟩
  ·rw [if_neg h1] at h;cases h
 ·rw [if_neg h0] at h
  by_cases h1:-(n:Int)<=i
  ·rw [if_pos h1] at h
   have e:(i+n).toNat=j:=Uu h
   exact⟨by rw [XU (by omega) h1,e],by omega,h1,by omega⟩
  ·rw [if_neg h1] at h;cases h
def EN{α:Type}{xs:List α}{i:Int}{v:α}(h:oa xs i=Z v):∃ j,seqIndex? i xs.length=Z j/\xs[j]?=Z v/\j<xs.length/\-(xs.length:Int)<=i/\i<xs.length:=by
 unfold oa at h
 cases e:CH xs.length i with
 | none=>rw [e] at h;cases h
 | some j=>
  rw [e] at h
  obtain⟨h1,h2,h3,h4⟩:=Em e
  exact⟨j,h1,h,h2,h3,h4⟩
def ON{α:Type}{xs:List α}{j:Nat}{v:α}(h:xs[j]?=Z v):oa xs (j:Int)=Z v:=by
 have hj:j<xs.length:=(Uj.mp h).1
 have e:CH xs.length (j:Int)=Z j:=by
  unfold CH
  rw [if_pos (by omega),if_pos (by omega)];simp
 unfold oa;rw [e];exact h
def mV(b:Expr):Prop:=∀ o i,subscripted b false o i=operate [o,i] (getItem o i)
def IxR(X:Cx)(r:R2):Prop:=
 ∀ (value slice:Expr) (pins:List (Addr×Obj)) (s:Shared) (σ:St) (H:Hp) (x y:V) (v u:Value) (Q:VK),Inv X pins σ H s->RelV x v->RelV y u->r x y H Q ->
  subscripted slice false v u=operate [v,u] (getItem v u)->wpAny (model X.prog X.w) X.A (subscriptTail value slice v u) (EP X pins σ Q) X.xe s
def MtR(X:Cx)(id:String)(r:V->List V->Hp->VK->Prop):Prop:=
 ∀ (pins:List (Addr×Obj)) (s:Shared) (σ:St) (H:Hp) (x:V) (xs:List V) (v:Value) (us:List Value) (Q:VK),Inv X pins σ H s->RelV x v->Vals xs us->r x xs H Q ->
  wpAny (model X.prog X.w) X.A (call (.builtin id) (v::us)) (EP X pins σ Q) X.xe s
section
variable{X:Cx}{a b:Expr}{ta tb:TE}{pos:Pos}
def IxR.or{r r':R2}(h:IxR X r)(h':IxR X r'):IxR X (λx y H Q=>r x y H Q\/r' x y H Q):=by
 intro value slice pins s σ H x y v u Q I rx ry q hs
 rcases q with q | q
 ·exact h value slice pins s σ H x y v u Q I rx ry q hs
 ·exact h' value slice pins s σ H x y v u Q I rx ry q hs
def Iv{r:R2}(hr:IxR X r)(ha:PE X a ta)(hb:PE X b tb)(hs:mV b):PE X (.Subscript a b pos) (tOp r ta tb):=by
 intro pins s σ H Q I h
 exact Subscript_ (TQ ha hb I h λv u s2 x y H2 I2 rx ry q=>hr a b pins s2 σ H2 x y v u Q I2 rx ry q (hs _ _))
noncomputable def rIxL(K:W.Frag):R2:=λx y H Q=>∃ p xs i v,x=.ref p/\y=.int i/\mU K H p xs/\oa xs i=Z v/\Q v H
noncomputable def rIxT(K:W.Frag):R2:=λx y H Q=>∃ p xs i v,x=.ref p/\y=.int i/\oo K H p xs/\oa xs i=Z v/\Q v H
def ix_list:IxR X (rIxL X.K):=by
 intro value slice pins s σ H x y v u Q I rx ry h hs
 obtain⟨p,xs,i,z,rfl,rfl,hq,he,q⟩:=h
 cases rx
 obtain⟨t,rfl⟩:=ry
 obtain⟨its,r,pl,hz⟩:=I.list hq
 obtain⟨j,h1,h2,h3,h4,h5⟩:=EN he
 obtain⟨w,ew,rw'⟩:=r.get h2
 have hl:=r.length
 have hn:=pK
 have fin:EP X pins σ Q w s:=⟨z,H,I,rw',q⟩
 by_cases h0:0<=i
 ·have hj:i.toNat=j:=by
   rw [Yi h0 h5] at h1
   exact Uu h1
  exact item_listR pl.isList h0 (by omega) (by rw [hj];simpa using ew) fin hs
 ·have hj:(i+(its.toArray.size:Int)).toNat=j:=by
   rw [XU (by omega) h4] at h1
   rw [Um,<- hl]
   exact Uu h1
  exact XO (x:=w) pl.isList.typeIs slot_list_getitem.lookup
   (wpAny_getItem_list_neg (Q:=λr s'=>r=w/\EP X pins σ Q r s') pl.isList (by omega) (by rw [Um] <;> omega) (by omega) (by rw [hj];simpa using ew) ⟨rfl,fin⟩) hs
def Sz:IxR X (rIxT X.K):=by
 intro value slice pins s σ H x y v u Q I rx ry h hs
 obtain⟨p,xs,i,z,rfl,rfl,hq,he,q⟩:=h
 cases rx
 obtain⟨t,rfl⟩:=ry
 obtain⟨its,r,pl,hz⟩:=I.tuple hq
 obtain⟨j,h1,h2,h3,h4,h5⟩:=EN he
 obtain⟨w,ew,rw'⟩:=r.get h2
 have hl:=r.length
 have hn:=pK
 have fin:EP X pins σ Q w s:=⟨z,H,I,rw',q⟩
 exact XO (x:=w) pl.typeIs slot_tuple_getitem.lookup
  (getItem_tuple (j:=j) (Q:=λr s'=>r=w/\EP X pins σ Q r s') pl (by omega) (by omega) (by rw [Um,<- hl];exact h1) (by simpa using ew) ⟨rfl,fin⟩) hs
def Cs(its:List Value)(n j:Nat)(u:Value):Obj.mapSeq (·.setIfInBounds j u) { cls:=.type "list",data:=.seq its.toArray n } = { cls:=.type "list",data:=.seq (its.set j u).toArray n }:=by
 simp [Obj.mapSeq]
theorem Inv.lst{pins:List (Addr×Obj)}{σ:St}{H:Hp}{s:Shared}{p:Addr}{xs:List V}(I:Inv X pins σ H s)(h:H p=Z (.lst xs)) :
  ∃ (its:List Value) (n:Nat),Vals xs its/\s.heap.get? p=Z { cls:=.type "list",data:=.seq its.toArray n }/\xs.length<=sizeLine:=by
 obtain⟨z,its,n,r,e⟩:=I.hok p _ h
 exact⟨its,n,r,e,z⟩
def Inv.lstUpd{pins:List (Addr×Obj)}{σ:St}{H:Hp}{s:Shared}{p:Addr}{xs ys:List V}{its its':List Value}{n n':Nat}{f:Obj->Obj}(I:Inv X pins σ H s)(h:H p=Z (.lst xs))
  (ho:s.heap.get? p=Z { cls:=.type "list",data:=.seq its.toArray n }) (hf:f { cls:=.type "list",data:=.seq its.toArray n } = { cls:=.type "list",data:=.seq its'.toArray n' }) (r:Vals ys its') (hz:ys.length<=sizeLine) (t:Nat) :
  Inv X pins σ (upd H p (.lst ys)) { s with heap:=s.heap.update p f,toks:=t }:=by
 have e:(s.heap.update p f).get? p=Z { cls:=.type "list",data:=.seq its'.toArray n' }:=by
  rw [Yd f ho (by rw [hf] <;> rfl),hf]
 refine I.write (x:=p) (e:=p) (by rw [h];trivial) (.inl rfl) (λb u hb q=>(XS _ _ (Ne.symm hb)).trans q) ⟨_,e⟩ ?_
 exact⟨hz,its',n',r,e⟩
def rSetL:V->V->V->Hp->(Hp->Prop)->Prop:=λo i v H Q=>∃ p xs k j,o=.ref p/\i=.int k/\H p=Z (.lst xs)/\CH xs.length k=Z j/\Q (upd H p (.lst (xs.set j v)))
def HS:PSet X rSetL:=by
 intro pins s σ H o i v ov iv u Q I ro ri rv h
 obtain⟨p,xs,k,j,rfl,rfl,hp,hj,q⟩:=h
 cases ro
 obtain⟨t,rfl⟩:=ri
 obtain⟨its,n,r,ho,hz⟩:=I.lst hp
 obtain⟨h1,h2,h3,h4⟩:=Em hj
 have hl:=r.length
 have hn:=pK
 have I':Inv X pins σ (upd H p (.lst (xs.set j v))) { s with heap:=s.heap.update p (Obj.mapSeq (·.setIfInBounds j u)) }:=
  I.lstUpd hp ho (Cs its n j u) (r.set rv j) (by rw [List.length_set];exact hz) s.toks
 by_cases h0:0<=k
 ·have hk:k.toNat=j:=by
   rw [Yi h0 h4] at h1
   exact Uu h1
  exact W.ki_setAt ho h0 (by omega) (by rw [Um,<- hl];exact h4) (by rw [hk];exact⟨_,I',q⟩)
 ·have hk:(k+(its.toArray.size:Int)).toNat=j:=by
   rw [XU (by omega) h3] at h1
   rw [Um,<- hl]
   exact Uu h1
  exact W.ki_setBack ho (by omega) (by rw [Um,<- hl];exact h3) (by omega) (by rw [hk];exact⟨_,I',q⟩)
def wQ(lo hi:Option Int)(n:Nat):(sliceBounds lo hi U n).1=((HT.eu n 0 lo:Nat):Int)/\(sliceBounds lo hi U n).2.1=((HT.eu n n hi:Nat):Int)/\(sliceBounds lo hi U n).2.2=1:=by
 refine⟨?_,?_,rfl⟩
 ·cases lo with
  | none=>simp [sliceBounds,HT.eu]
  | some i=>
   simp only [sliceBounds,HT.eu,Option.getD_none,show (1:Int)>0 by decide,VY]
   by_cases h:i<0
   ·simp only [h,VY] <;> omega
   ·simp only [h,Vq] <;> omega
 ·cases hi with
  | none=>simp [sliceBounds,HT.eu]
  | some i=>
   simp only [sliceBounds,HT.eu,Option.getD_none,show (1:Int)>0 by decide,VY]
   by_cases h:i<0
   ·simp only [h,VY] <;> omega
   ·simp only [h,Vq] <;> omega
def uk(its:List Value)(lo hi:Option Int):slicePick its.toArray lo hi U=((its.drop (HT.eu its.length 0 lo)).take (HT.eu its.length its.length hi - HT.eu its.length 0 lo)).toArray:=by
 obtain⟨h1,h2,h3⟩:=wQ lo hi its.toArray.size
 unfold slicePick
 rw [h1,h2,h3]
 simp only [sliceRange_one,pick_run,Um] <;> rfl
def rSlL(K:W.Frag):V->Option Int->Option Int->Hp->VK->Prop:=λx lo hi H Q=>∃ a xs,x=.ref a/\mU K H a xs/\∀ p,H p=U->Q (.ref p) (upd H p (.lst (Bb xs lo hi)))
def LZ:SlR X (rSlL X.K):=by
 intro pins s σ H x v vl vu lo hi sl Q I rx hs pl pu h
 obtain⟨a,xs,rfl,hx,q⟩:=h
 cases rx
 obtain⟨its,r,ht,hz⟩:=I.list hx
 have hlen:=r.length
 refine⟨"list",_,slot_list_getitem.lookup,ht.isList.typeIs,?_⟩
 refine wpAny_getItem_list_slice ht.isList hs pl pu .none (by simp) ?_ (by rw [Um] <;> omega)
 rw [uk,<- hlen]
 refine⟨.ref s.heap.objs.size,_,I.laid (t':=s.toks) (o:=.lst (Bb xs lo hi)) (λb ob q=>Uv _ q) (Uw _) ?_,rfl,q _ (I.hok.fresh (Uw _))⟩
 exact⟨UV (qI xs lo hi) hz,_,0,(r.drop (HT.eu xs.length 0 lo)).take (HT.eu xs.length xs.length hi - HT.eu xs.length 0 lo),UG _ rfl⟩
def call_len_seq:CallR X (.builtin "len") (λxs H Q=>∃ p ys,xs=[.ref p]/\(mU X.K H p ys\/oo X.K H p ys)/\Q (.int ys.length) H):=by
 intro pins s σ H xs us Q I r h
 obtain⟨p,ys,rfl,hq,q⟩:=h
 obtain⟨u,rfl,rx⟩:=jL r
 cases rx
 have hn:=pK
 rcases hq with hq | hq
 ·obtain⟨its,r',pl,hz⟩:=I.list hq
  have hlen:=r'.length
  exact Calls.call_len_list pl.isList (by simp only [Um] <;> omega) ⟨.int ys.length,H,I.tok _,⟨s.toks+1,by rw [Um,hlen]⟩,q⟩
 ·obtain⟨its,r',pl,hz⟩:=I.tuple hq
  have hlen:=r'.length
  exact len_tuple pl (by simp only [Um] <;> omega) ⟨.int ys.length,H,I.tok _,⟨s.toks+1,by rw [Um,hlen]⟩,q⟩
def yG:CallR X (.builtin "len") (λxs H Q=>∃ z,xs=[.str z]/\z.length<=sizeLine/\Q (.int z.length) H):=by
 intro pins s σ H xs us Q I r h
 obtain⟨z,rfl,hz,q⟩:=h
 obtain⟨u,rfl,t,rfl⟩:=jL r
 have hn:=pK
 exact len_str (by omega) ⟨.int z.length,H,I.tok _,⟨_,rfl⟩,q⟩
def CallR.or{f:Value}{r r':List V->Hp->VK->Prop}(h:CallR X f r)(h':CallR X f r'):CallR X f (λxs H Q=>r xs H Q\/r' xs H Q):=by
 intro pins s σ H xs us Q I rs q
 rcases q with q | q
 ·exact h pins s σ H xs us Q I rs q
 ·exact h' pins s σ H xs us Q I rs q
def yF:CallR X (.type "list") (λxs H Q=>∃ p ys,xs=[.ref p]/\(mU X.K H p ys\/oo X.K H p ys)/\∀ l,H l=U->Q (.ref l) (upd H l (.lst ys))):=by
 intro pins s σ H xs us Q I r h
 obtain⟨p,ys,rfl,hq,q⟩:=h
 obtain⟨u,rfl,rx⟩:=jL r
 cases rx
 have fin:∀ (its:List Value),Vals ys its->ys.length<=sizeLine->∀ (h':Heap) (c':Nat),(∀ b o',s.heap.get? b=Z o'->h'.get? b=Z o') ->
   h'.get? s.heap.objs.size=Z { cls:=.type "list",dict:=U,data:=.seq its.toArray c',slots:=#[] }->EP X pins σ Q (.ref s.heap.objs.size) { s with heap:=h' }:=λits r' hz h' c' kp e=>
  ⟨.ref s.heap.objs.size,_,I.laid (t':=s.toks) kp (Uw _) (show ObjOk X.prog X.w _ h' _ (.lst ys) from ⟨hz,its,c',r',e⟩),rfl,q _ (I.hok.fresh (Uw _))⟩
 rcases hq with hq | hq
 ·obtain⟨its,r',pl,hz⟩:=I.list hq
  have hlen:=r'.length
  obtain⟨o,ho,hc,n,hd⟩:=pl.isList
  exact call_list_seq p (.inl rfl) ho hc hd (λh' c' kp e=>fin its r' hz h' c' kp e) (by simp only [Um] <;> omega)
 ·obtain⟨its,r',pl,hz⟩:=I.tuple hq
  have hlen:=r'.length
  obtain⟨o,ho,hc,n,hd⟩:=pl
  exact call_list_seq p (.inr rfl) ho hc hd (λh' c' kp e=>fin its r' hz h' c' kp e) (by simp only [Um] <;> omega)
def uO:CallR X (.type "tuple") (λxs H Q=>∃ p ys,xs=[.ref p]/\((mU X.K H p ys/\∀ l,H l=U->Q (.ref l) (upd H l (.tup ys)))\/(oo X.K H p ys/\Q (.ref p) H))):=by
 intro pins s σ H xs us Q I r h
 obtain⟨p,ys,rfl,h⟩:=h
 obtain⟨u,rfl,rx⟩:=jL r
 cases rx
 rcases h with ⟨hq,q⟩ | ⟨hq,q⟩
 ·obtain⟨its,r',pl,hz⟩:=I.list hq
  have hlen:=r'.length
  refine call_tuple_list pl.isList (λh' kp=>?_) (by simp only [Um] <;> omega)
  have I1:Inv X pins σ H { s with heap:=h' }:=I.kept (t':=s.toks) kp
  have I2:Inv X pins σ (upd H h'.objs.size (.tup ys)) { s with heap:=h'.push { cls:=.type "tuple",data:=.seq its.toArray } }:=
   I1.laid (t':=s.toks) (λb o e=>Uv _ e) (Uw _) (show ObjOk X.prog X.w _ _ _ (.tup ys) from ⟨hz,its,r',IsTupN.new _ _⟩)
  exact⟨.ref h'.objs.size,_,I2,rfl,q _ (I1.hok.fresh (Uw _))⟩
 ·obtain⟨its,r',pl,hz⟩:=I.tuple hq
  exact call_tuple_same pl ⟨.ref p,H,I,rfl,q⟩
def tyV(K:W.Frag)(T:String)(x:V)(H:Hp):Prop:=match x with
 | .str _=>T = "str"
 | .int _=>T = "int"
 | .ref p=>(T = "list"/\∃ xs,mU K H p xs)\/(T = "tuple"/\∃ o,K.lookup p=Z o/\o.cls=.type "tuple"/\o.dict=U) \/
   (T = "dict"/\((∃ kvs,H p=Z (.dK kvs))\/∃ kvs,H p=Z (.dT kvs)))\/(T = "set"/\∃ S n,H p=Z (.set S n))
 | _=>False
def Qi{pins:List (Addr×Obj)}{σ:St}{H:Hp}{s:Shared}{T:String}{x:V}{v:Value}(I:Inv X pins σ H s)(r:RelV x v)(ty:tyV X.K T x H) :
  s.TypeIs v T/\∀ a,v=.ref a->∃ ob,s.heap.get? a=Z ob/\ob.dict=U:=by
 cases x with
 | str z=>
  obtain⟨t,rfl⟩:=r
  cases (show T = "str" from ty)
  exact⟨typeIs_str s z t,λ_ e=>nomatch e⟩
 | int i=>
  obtain⟨t,rfl⟩:=r
  cases (show T = "int" from ty)
  exact⟨Xc s i t,λ_ e=>nomatch e⟩
 | ref p=>
  cases r
  rcases ty with ⟨rfl,xs,hq⟩ | ⟨rfl,o,hk,hc,hd⟩ | ⟨rfl,hk⟩ | ⟨rfl,S,n,hk⟩
  ·obtain⟨its,_,pl,_⟩:=I.list hq
   refine⟨pl.isList.typeIs,λa e=>?_⟩
   cases e
   obtain⟨o,n,e,c,hd,_⟩:=pl
   exact⟨o,e,hd⟩
  ·refine⟨⟨o,I.kIn p o hk,hc⟩,λa e=>?_⟩
   cases e
   exact⟨o,I.kIn _ o hk,hd⟩
  ·have z:∃ o,s.heap.get? p=Z o/\o.ExactDict:=by
    rcases hk with ⟨kvs,hk⟩ | ⟨kvs,hk⟩
    ·obtain⟨_,_,_,_,o,_,_,e,ex,_⟩:=I.hok p _ hk
     exact⟨o,e,ex⟩
    ·obtain⟨_,_,_,_,o,_,_,e,ex,_⟩:=I.hok p _ hk
     exact⟨o,e,ex⟩
   obtain⟨o,e,ex⟩:=z
   refine⟨⟨o,e,ex.1⟩,λa e2=>?_⟩
   cases e2
   exact⟨o,e,ex.2.1⟩
  ·obtain⟨o,_,_,_,e,ex,_⟩:=I.hok p _ hk
   refine⟨⟨o,e,ex.1⟩,λa e2=>?_⟩
   cases e2
   exact⟨o,e,ex.2.1⟩
 | _=>exact False.elim ty
def tBM(K:W.Frag)(T:String)(r:V->List V->Hp->VK->Prop)(to:TE)(t:TA):TE:=λσ H Q=>to σ H λx H1=>tyV K T x H1/\t σ H1 λxs H2=>r x xs H2 Q
variable{o e:Expr}{es:List Expr}{to:TE}{t:TA}{name:Str}{apos cpos:Pos}{T id:String}{r:V->List V->Hp->VK->Prop}
def pe_bm(pa:PlainAttrs T)(slot:Slot T name id)(hty:typeOf (.builtin id)=pure (.type "method_descriptor"))(hm:MtR X id r)(ho:PE X o to)(ha:PA X (e::es) t)
  (hbase:attributeBase o name X.env (eval o X.env)=eval o X.env:=by rfl)
  (hfew:((backTo cpos (starEach (e::es) X.env)).all (λx=>!x.1)&&(backToKw cpos (keywordEach [] X.env)).all (λx=>x.1.isSome)
   && decide ((e::es).length+([]:List Keyword).length+(if ([]:List Keyword).isEmpty then 0 else 1)<30))=true:=by rfl)
  (hline:(apos.endLine == cpos.line)=true:=by rfl) (hs:starEach (e::es) X.env=(false,eval e X.env)::starEach es X.env:=by rfl) (hplain:(backTo cpos (starEach es X.env)).any (·.1)=false:=by rfl) :
  PE X (.Call (.Attribute o name apos) (e::es) [] cpos) (tBM X.K T r to t):=by
 intro pins s σ H Q I h
 refine WJ hbase hfew hline rfl (da (ho pins s σ H _ I h) λv s1 ⟨x,H1,I1,r1,ty,q1⟩=>?_)
 obtain⟨h1,h2⟩:=Qi I1 r1 ty
 refine⟨T,id,pa,slot,hty,h1,h2,?_⟩
 have hA:=ha cpos pins s1 σ H1 _ I1 q1
 rw [hs] at hA ⊢
 refine WM (by show (false||(backTo cpos (starEach es X.env)).any (·.1))=false;rw [hplain] <;> rfl) (WR ?_)
 exact da hA λus s2 ⟨vs,H2,I2,r2,q2⟩=>hm pins s2 σ H2 x vs v us Q I2 r1 r2 q2
end
def MtM(X:Cx)(id:String)(r:V->List V->Hp->VK->Prop):Prop:=
 ∀ (pins:List (Addr×Obj)) (s:Shared) (σ:St) (H:Hp) (x:V) (xs:List V) (v:Value) (us:List Value) (Q:VK),Inv X pins σ H s->RelV x v->Vals xs us->r x xs H Q ->
  wpAny (model X.prog X.w) X.A (call (.builtin id) (v::us)) (EP X pins σ Q) X.xe s
def Vals.one:∀ {x:V} {us:List Value},Vals [x] us->∃ u,us=[u]/\RelV x u
 | _,_,.cons r .nil=>⟨_,rfl,r⟩
theorem Vals.rep{xs:List V}{us:List Value}(h:Vals xs us):∀ k:Nat,Vals (List.replicate k xs).flatten (List.replicate k us).flatten
 | 0=>.nil
 | k+1=>by
  rw [UU,UU,Vj,Vj]
  exact Vals.append h (Vals.rep h k)
theorem wg(its:List Value):∀ (k:Nat) (acc:List Value),
  List.foldl (λx1 x2=>x1++x2) acc.toArray (List.replicate k its.toArray)=(acc++(List.replicate k its).flatten).toArray
 | 0,acc=>by simp
 | k+1,acc=>by
  have e:acc.toArray++its.toArray=(acc++its).toArray:=by simp
  have e2:(acc++its)++(List.replicate k its).flatten=acc++(List.replicate (k+1) its).flatten:=by
   rw [UU,Vj,Vw]
  rw [<- e2,<- wg its k (acc++its),<- e,UU,Xy]
section
variable{X:Cx}{pins:List (Addr×Obj)}{σ:St}{H:Hp}{s:Shared}{l b:Addr}{xs ys zs:List V}
def Inv.lset{its its':List Value}{n:Nat}{f:Array Value->Array Value}{t':Nat}(I:Inv X pins σ H s)(hH:H l=Z (.lst xs))
  (e:s.heap.get? l=Z { cls:=.type "list",data:=.seq its.toArray n }) (hf:f its.toArray=its'.toArray) (hv:Vals ys its') (hz:ys.length<=sizeLine) :
  Inv X pins σ (upd H l (.lst ys)) { s with heap:=s.heap.update l (Obj.mapSeq f),toks:=t' }:=by
 have q:=PySem.IsL.update e f
 rw [hf] at q
 refine I.write (x:=l) (e:=l) (by rw [hH];exact trivial) (.inl rfl) (λb' u hb hu=>(XS s.heap (Obj.mapSeq f) (Ne.symm hb)).trans hu) ⟨_,q⟩ ?_
 exact⟨hz,its',_,hv,q⟩
def Inv.lnew{its:List Value}{t':Nat}(I:Inv X pins σ H s)(hv:Vals ys its)(hz:ys.length<=sizeLine) :
  Inv X pins σ (upd H s.heap.objs.size (.lst ys)) { s with heap:=s.heap.push { cls:=.type "list",data:=.seq its.toArray },toks:=t' }:=
 I.laid (λ_ _ q=>Uv _ q) (Uw _) ⟨hz,its,0,hv,UG _ rfl⟩
theorem Inv.fresh(I:Inv X pins σ H s):H s.heap.objs.size=U:=I.hok.fresh (Uw _)
def Inv.lstM(I:Inv X pins σ H s)(hH:H l=Z (.lst xs)):xs.length<=sizeLine/\∃ (its:List Value) (n:Nat),Vals xs its/\xs.length=its.length/\s.heap.get? l=Z { cls:=.type "list",data:=.seq its.toArray n }:=by
 obtain⟨z,its,n,r,e⟩:=I.hok l _ hH
 exact⟨z,its,n,r,r.length,e⟩
def zy{n:Nat}(h:n<=sizeLine):Builtin.List.listTooLong n=false:=by
 unfold Builtin.List.listTooLong
 exact Ut (by omega)
end
section
variable{X:Cx}
def Mf:V->List V->Hp->VK->Prop:=λx vs H Q=>∃ l xs y,x=.ref l/\vs=[y]/\H l=Z (.lst xs)/\xs.length<sizeLine/\Q .non (upd H l (.lst (xs++[y])))
def vq:MtM X "list.append" Mf:=by
 intro pins s σ H x vs v us Q I rx rv h
 obtain⟨l,xs,y,rfl,rfl,hH,hz,q⟩:=h
 cases rx
 obtain⟨u,rfl,ru⟩:=rv.one
 obtain⟨z,its,n,r,hl,e⟩:=I.lstM hH
 refine Wg Yw ⟨_,e,rfl⟩ F.entry_list_append (F.args_list_append_2 _ _) (PySem.list_append l its.toArray n u (by rw [Um];omega)) ⟨e,?_⟩
 refine⟨.non,_,I.lset (its':=its++[u]) hH e (by simp) (r.append (.cons ru .nil)) ?_,rfl,q⟩
 rw [UC,Vd]
 omega
def Me:V->List V->Hp->VK->Prop:=λx vs H Q=>∃ l b xs zs,x=.ref l/\vs=[.ref b]/\H l=Z (.lst xs)/\H b=Z (.lst zs)/\xs.length+zs.length<=sizeLine/\Q .non (upd H l (.lst (xs++zs)))
def mt_extend:MtM X "list.extend" Me:=by
 intro pins s σ H x vs v us Q I rx rv h
 obtain⟨l,b,xs,zs,rfl,rfl,hH,hB,hz,q⟩:=h
 cases rx
 obtain⟨u,rfl,ru⟩:=rv.one
 cases ru
 obtain⟨z,its,n,r,hl,e⟩:=I.lstM hH
 obtain⟨z2,its2,n2,r2,hl2,e2⟩:=I.lstM hB
 have hsz:its.toArray.size+its2.toArray.size<=sizeLine:=by rw [Um,Um];omega
 have hlong:¬ (!its.toArray.isEmpty&&Builtin.List.listTooLong (its.toArray.size+its2.toArray.size))=true:=by
  rw [zy hsz,Wx]
  exact Bool.false_ne_true
 refine Wg F.slot_list_extend ⟨_,e,rfl⟩ F.entry_list_extend (F.args_list_extend_2 _ _)
  (AutoSeq1.list_extend_list_list_0 l its.toArray n b its2.toArray n2 hlong (by rw [Um];omega) (by omega)) ⟨e,e2,?_⟩
 refine⟨.non,_,I.lset (its':=its++its2) hH e (by simp) (r.append r2) ?_,rfl,q⟩
 rw [UC]
 omega
noncomputable def rCat:R2:=λx y H Q=>∃ l b xs zs,x=.ref l/\y=.ref b/\H l=Z (.lst xs)/\H b=Z (.lst zs)/\xs.length+zs.length<=sizeLine/\∀ p,H p=U->Q (.ref p) (upd H p (.lst (xs++zs)))
def IC:OpR X (binaryOp .Add) rCat:=by
 intro pins s σ H x y v u Q I rx ry h
 obtain⟨l,b,xs,zs,rfl,rfl,hH,hB,hz,q⟩:=h
 cases rx
 cases ry
 obtain⟨z,its,n,r,hl,e⟩:=I.lstM hH
 obtain⟨z2,its2,n2,r2,hl2,e2⟩:=I.lstM hB
 refine PySem.P.add_list e e2 ?_ (by rw [Um,Um];omega)
 have ea:its.toArray++its2.toArray=(its++its2).toArray:=by simp
 rw [ea]
 exact⟨.ref _,_,I.lnew (t':=s.toks) (r.append r2) (by rw [UC];omega),rfl,q _ I.fresh⟩
noncomputable def rRep:R2:=λx y H Q=>∃ l k xs,x=.ref l/\y=.int k/\H l=Z (.lst xs)/\-(2 ^ 63)<=k/\k<2 ^ 63/\xs.length * k.toNat<=sizeLine /\
 ∀ p,H p=U->Q (.ref p) (upd H p (.lst (List.replicate k.toNat xs).flatten))
def ye{α:Type}(xs:List α)(k:Nat):(List.replicate k xs).flatten.length=k * xs.length:=by
 induction k with
 | zero=>simp
 | succ k ih=>rw [UU,Vj,UC,ih,Nat.succ_mul,Nat.add_comm]
def Ra:OpR X (binaryOp .Mult) rRep:=by
 intro pins s σ H x y v u Q I rx ry h
 obtain⟨l,k,xs,rfl,rfl,hH,h1,h2,hz,q⟩:=h
 cases rx
 obtain⟨t,rfl⟩:=ry
 obtain⟨z,its,n,r,hl,e⟩:=I.lstM hH
 have hlen:its.toArray.size * k.toNat<=sizeLine:=by rw [Um,<- hl];exact hz
 have hcap:¬ its.toArray.size * k.toNat>(2 ^ 63 - 1) / 8:=by
  have:(sizeLine:Nat)<=(2 ^ 63 - 1) / 8:=by decide
  omega
 have hfit:¬ (!Builtin.List.listFitsIndex k)=true:=by
  rw [fitsIndex_both h1 h2]
  exact Bool.false_ne_true
 have hlong:¬ Builtin.List.listTooLong (its.toArray.size * k.toNat)=true:=by
  rw [zy hlen]
  exact Bool.false_ne_true
 have hnew:List.foldl (λx1 x2=>x1++x2) #[] (List.replicate (if its.toArray.isEmpty=true then 0 else k.toNat) its.toArray)=(List.replicate k.toNat its).flatten.toArray:=by
  have f0:∀ m:Nat,List.foldl (λx1 x2=>x1++x2) #[] (List.replicate m its.toArray)=(List.replicate m its).flatten.toArray:=λm=>by
   have:=wg its m []
   rw [Vz] at this
   exact this
  rw [f0]
  cases its with
  | nil=>simp
  | cons a r'=>rw [if_neg (by simp)]
 refine XB (T:="list") (U:="int") (by decide) ⟨_,e,rfl⟩ (λs'=>Xc s' k t) noFill_list_mul F.fills_int_mul WQ repeat_list F.slot_int_index.lookup
  (Wg WQ (Xc s k t) F.entry_int_rmul (F.args_int_rmul_2 _ _) (int___rmul___int_list k t l its.toArray n)
   ⟨e,rfl,⟨_,e,rfl⟩,Wg F.slot_list_mul ⟨_,e,rfl⟩ F.entry_list_mul (F.args_list_mul_2 _ _) (AutoListH.list___mul___list_int_3 l its.toArray n k t hfit hcap hlong) ⟨e,?_⟩⟩)
 rw [hnew]
 exact⟨.ref _,_,I.lnew (t':=s.toks) (r.rep k.toNat) (by rw [ye,Xi];exact hz),rfl,q _ I.fresh⟩
end
section
variable{prog:Program}{w:World}{A:Around}{E:Value->Shared->Prop}{s:Shared}
end
section
variable{X:Cx}
end
section
variable{κ:Type}[DecidableEq κ]
noncomputable def rC(kvs:List (κ×V))(k:κ):Option V:=(kvs.find? λkv=>decide (kv.1=k)).map (·.2)
noncomputable def uw(kvs:List (κ×V))(k:κ)(v:V):List (κ×V):=
 if (kvs.any λkv=>decide (kv.1=k))=true then kvs.map (λkv=>if kv.1=k then (kv.1,v) else kv) else kvs++[(k,v)]
def rA{p:κ×V}{r:List (κ×V)}{k:κ}(e:p.1=k):rC (p::r) k=Z p.2:=by simp [rC,UZ,e]
def rB{p:κ×V}{r:List (κ×V)}{k:κ}(e:¬ p.1=k):rC (p::r) k=rC r k:=by simp [rC,UZ,e]
def Al(kvs:List (κ×V))(k:κ)(v:V):(uw kvs k v).length<=kvs.length+1:=by
 unfold uw
 split
 ·rw [Ux];omega
 ·rw [UC,UE,Wb];omega
def KV.val{kvs:List (κ×V)}{vs:List (κ×Value)}(r:KV kvs vs)(k:κ):RelO (rC kvs k) (valueAt vs k):=by
 unfold KV at r
 induction r with
 | nil=>exact True.intro
 | @cons p q ps qs h t ih=>
  obtain⟨h1,h2⟩:=h
  by_cases e:p.1=k
  ·have e':q.1=k:=h1.symm.trans e
   have b:valueAt (q::qs) k=Z q.2:=by simp [valueAt,UZ,e']
   rw [rA e,b];exact h2
  ·have e':¬ q.1=k:=λz=>e (h1.trans z)
   have b:valueAt (q::qs) k=valueAt qs k:=by simp [valueAt,UZ,e']
   rw [rB e,b];exact ih
theorem KV.any{kvs:List (κ×V)}{vs:List (κ×Value)}(r:KV kvs vs)(k:κ):(kvs.any λkv=>decide (kv.1=k))=vs.any λkv=>decide (kv.1=k):=by
 unfold KV at r
 induction r with
 | nil=>rfl
 | cons h t ih=>rw [VJ,VJ,ih,h.1]
def KV.repl{kvs:List (κ×V)}{vs:List (κ×Value)}(r:KV kvs vs)(k:κ){y:V}{u:Value}(ry:RelV y u) :
  KV (kvs.map λkv=>if kv.1=k then (kv.1,y) else kv) (vs.map λkv=>if kv.1=k then (kv.1,u) else kv):=by
 unfold KV at r ⊢
 induction r with
 | nil=>exact .nil
 | @cons p q ps qs h t ih=>
  rw [Uy,Uy]
  refine .cons ?_ ih
  obtain⟨h1,h2⟩:=h
  by_cases e:p.1=k
  ·rw [if_pos e,if_pos (h1.symm.trans e)];exact⟨h1,ry⟩
  ·rw [if_neg e,if_neg (λz=>e (h1.trans z))];exact⟨h1,h2⟩
def KV.put{kvs:List (κ×V)}{vs:List (κ×Value)}(r:KV kvs vs)(k:κ){y:V}{u:Value}(ry:RelV y u):KV (uw kvs k y) (stored vs k u):=by
 unfold uw stored
 rw [r.any k]
 by_cases e:(vs.any λkv=>decide (kv.1=k))=true
 ·rw [if_pos e,if_pos e];exact r.repl k ry
 ·rw [if_neg e,if_neg e];exact Paired.snoc r ⟨rfl,ry⟩
end
def vL{P:Program}{w:World}{k:bC}{u:Value}(r:RelV (kV k) u):(bU P w).is k u=true:=by
 cases k with
 | inl i=>obtain⟨t,e⟩:=(show ∃ t,u=Value.int i t from r);subst e;exact zF P w i t
 | inr x=>obtain⟨t,e⟩:=(show ∃ t,u=Value.str x t from r);subst e;exact zE P w x t
theorem vP{P:Program}{w:World}:∀ {ks:List bC} {us:List Value},Vals (ks.map kV) us->ItemsAre (bU P w) ks us
 | [],_,r=>by rw [Xj] at r;cases r;exact .nil
 | k::ks,_,r=>by
  rw [Uy] at r
  cases r with
  | cons h t=>exact .cons (vL h) (vP t)
abbrev KT(H:Hp):List (List bC×V)->List (List bC×Addr×Value)->Prop:=Paired λp q=>p.1=q.1/\H q.2.1=Z (.tup (p.1.map kV))/\RelV p.2 q.2.2
def KT.val{H:Hp}{kvs:List (List bC×V)}{xs:List (List bC×Addr×Value)}(r:KT H kvs xs)(k:List bC):RelO (rC kvs k) ((atKey xs k).map (·.2)):=by
 induction r with
 | nil=>exact True.intro
 | @cons p q ps qs h t ih=>
  obtain⟨h1,_,h2⟩:=h
  by_cases e:p.1=k
  ·have e':q.1=k:=h1.symm.trans e
   have b:atKey (q::qs) k=Z q.2:=by simp [atKey,UZ,e']
   rw [rA e,b];exact h2
  ·have e':¬ q.1=k:=λz=>e (h1.trans z)
   have b:atKey (q::qs) k=atKey qs k:=by simp [atKey,UZ,e']
   rw [rB e,b];exact ih
section
variable{P:Program}{w:World}{H:Hp}{h:Heap}{a:Addr}
def Pc{u:HO}(ok:HOk P w H h)(e:Rd H a u):ObjOk P w H h a u:=e.ok ok
def EE{kvs:List (bC×V)}(ok:HOk P w H h)(e:Rd H a (.dK kvs)):kvs.length<=sizeLine/\(a == sysModules)=false/\∃ vs,KV kvs vs/\h.DictOf (bU P w) a vs:=
 show ObjOk P w H h a (.dK kvs) from Pc ok e
def dk_of{kvs:List (bC×V)}(ok:HOk P w H h)(e:H a=Z (.dK kvs)):kvs.length<=sizeLine/\(a == sysModules)=false/\∃ vs,KV kvs vs/\h.DictOf (bU P w) a vs:=EE ok (.inl e)
def Jl{ks:List bC}(ok:HOk P w H h)(e:H a=Z (.tup (ks.map kV))):(tupleKind (bU P w)).is h ks a:=by
 obtain⟨_,its,r,o,h1,h2,⟨n,h3⟩,_⟩:=(show ObjOk P w H h a (.tup (ks.map kV)) from ok a _ e)
 exact⟨o,its.toArray,n,h1,h2,h3,by simpa using vP r⟩
def Kz{kvs:List (List bC×V)}(ok:HOk P w H h)(e:Rd H a (.dT kvs)):kvs.length<=sizeLine/\(a == sysModules)=false /\
  ∃ xs,KT H kvs xs/\h.DictOfH (tupleKind (bU P w)) a xs:=by
 obtain⟨z,y,xs,r,o,es,ep,h1,h2,h3,h4,h5⟩:=(show ObjOk P w H h a (.dT kvs) from Pc ok e)
 refine⟨z,y,xs,r,o,es,ep,h1,h2,h3,h4,λx hx=>?_,h5⟩
 have all:∀ {l:List (List bC×V)} {m:List (List bC×Addr×Value)},KT H l m->∀ x∈m,(tupleKind (bU P w)).is h x.1 x.2.1:=by
  intro l m q
  induction q with
  | nil=>intro x hx;exact nomatch hx
  | @cons p q ps qs hq t ih=>
   intro x hx
   rcases UO.mp hx with e | hx
   ·subst e
    exact Jl ok (by rw [<- hq.1];exact hq.2.1)
   ·exact ih x hx
 exact all r x hx
end
def DGet(H:Hp)(a:Addr)(y:V)(r:Option V):Prop:=
 (∃ kvs k,Rd H a (.dK kvs)/\y=kV k/\r=rC kvs k)\/∃ kvs k b,Rd H a (.dT kvs)/\y=.ref b/\H b=Z (.tup (k.map kV))/\r=rC kvs k
theorem DGet.k{H:Hp}{a:Addr}{kvs:List (bC×V)}{k:bC}(e:H a=Z (.dK kvs)):DGet H a (kV k) (rC kvs k):=.inl ⟨kvs,k,.inl e,rfl,rfl⟩
section
variable{X:Cx}{pins:List (Addr×Obj)}{σ:St}{H:Hp}{s:Shared}{a:Addr}{y v:V}{u r:Value}{o:Option V}{A:Around}{E:Value->Shared->Prop}
def Inv.big(I:Inv X pins σ H s):sysModules<s.heap.objs.size:=by
 have h:mainGlobals<s.heap.objs.size:=(I.mod.glob.keeps I.bk).lt
 exact Nat.lt_trans (by decide) h
def GD{Q:Value->Shared->Prop}(hu:A.units+1<cLine)(I:Inv X pins σ H s)(g:DGet H a y (Z v))(ry:RelV y u)(h:∀ w' s',Inv X pins σ H s'->RelV v w'->Q w' s') :
  wpAny (model X.prog X.w) A (getItem (.ref a) u) Q E s:=by
 rcases g with ⟨kvs,k,e,ey,l⟩ | ⟨kvs,k,b,e,ey,eb,l⟩
 ·subst ey
  obtain⟨z,hd,vs,rel,dd⟩:=EE I.hok e
  obtain⟨w',hw,rw'⟩:=RelO.some_of (v:=v) (o:=valueAt vs k) (by rw [l];exact rel.val k)
  exact wpAny_getItem_of (vL ry) dd.mapOf hw (h w' _ (I.tok _) rw')
 ·subst ey
  cases (show u=Value.ref b from ry)
  obtain⟨z,hd,xs,rel,dd⟩:=Kz I.hok e
  obtain⟨w',hw,rw'⟩:=RelO.some_of (v:=v) (o:=(atKey xs k).map (·.2)) (by rw [l];exact rel.val k)
  obtain⟨p,hp,hp2⟩:=WK.mp hw
  refine wpAny_getItem_heap (tupleKind_room_in1 hu) (Jl I.hok eb) dd hp ?_
  rw [hp2]
  exact h w' _ (I.tok _) rw'
def OC{h':Heap}{t':Nat}{ob:HO}(I:Inv X pins σ H s)(mu:Mut (H a))(hs:Heap.SameBut a s.heap h')(he:∃ q,h'.get? a=Z q)(new:ObjOk X.prog X.w (upd H a ob) h' a ob) :
  Inv X pins σ (upd H a ob) { s with heap:=h',toks:=t' }:=
 I.write (x:=a) (e:=a) mu (.inl rfl) (λb q hb z=>(hs.2 b hb).trans z) he new
def Tn{P:Program}{w:World}{H':Hp}{h':Heap}{kvs:List (bC×V)}{vs:List (bC×Value)}(z:kvs.length<=sizeLine)(hd:(a == sysModules)=false)(rel:KV kvs vs)(dd:h'.DictOf (bU P w) a vs) :
  ObjOk P w H' h' a (.dK kvs):=⟨z,hd,vs,rel,dd⟩
end
section
variable{X:Cx}{pins:List (Addr×Obj)}{σ:St}{H:Hp}{s:Shared}{a:Addr}{kvs:List (bC×V)}{k:bC}{u:Value}{A:Around}{E:Value->Shared->Prop}
end
def AY{X:Cx}{pins:List (Addr×Obj)}{σ:St}{H:Hp}{s:Shared}{a:Addr}{y:V}{o:Option V}(I:Inv X pins σ H s)(g:DGet H a y o):s.TypeIs (.ref a) "dict":=by
 rcases g with ⟨kvs,k,e,_,_⟩ | ⟨kvs,k,b,e,_,_,_⟩
 ·obtain⟨_,_,vs,_,dd⟩:=EE I.hok e
  exact dd.typeIs
 ·obtain⟨_,_,xs,_,dd⟩:=Kz I.hok e
  exact dd.typeIs
section
variable{X:Cx}{o i e value:Expr}{pos pos' tpos:Pos}{td ty tv:TE}
end
def AX{P:Program}{w:World}{H:Hp}(h:Heap)(hb:sysModules<h.objs.size):ObjOk P w H (h.push { cls:=.type "dict",data:=.dict #[] }) h.objs.size (.dK []):=
 ⟨Wt _,Vh.mpr (Ne.symm (UR hb)),[],.nil,Heap.DictOf.new h⟩
def Qp:TE:=λ_ H Q=>∀ p,H p=U->Q (.ref p) (upd H p (.dK []))
section
variable{X:Cx}{pos:Pos}
def Ix:PE X (.Dict [] [] pos) Qp:=λpins s σ H Q I h=>
 wpAny_Dict_empty ⟨.ref s.heap.objs.size,_,I.laid (a:=s.heap.objs.size) (o:=.dK []) (t':=s.toks) (λ_ _ q=>Uv _ q) (Uw _) (AX s.heap I.big),rfl,h _ (I.hok.fresh (Uw _))⟩
end
def wN:List (TE×TE)->St->Hp->(List (V×V)->Hp->Prop)->Prop
 | [],_,H,Q=>Q [] H
 | (tk,tv)::r,σ,H,Q=>tk σ H λx H1=>tv σ H1 λy H2=>wN r σ H2 λps H3=>Q ((x,y)::ps) H3
abbrev VV:List (V×V)->List (Value×Value)->Prop:=Paired λp q=>RelV p.1 q.1/\RelV p.2 q.2
def PPs(X:Cx)(pos:Pos)(keys:List (Option Expr))(values:List Expr)(trs:List (TE×TE)):Prop:=
 ∀ (pins:List (Addr×Obj)) (s:Shared) (σ:St) (H:Hp) (Q:List (V×V)->Hp->Prop),Inv X pins σ H s->wN trs σ H Q ->
  wpAny (model X.prog X.w) X.A (evalPairs (pairTrees keys values X.env pos)) (λvs s'=>∃ ps H',Inv X pins σ H' s'/\VV ps vs/\Q ps H') X.xe s
def Mo{X:Cx}{pos:Pos}:PPs X pos [] [] []:=λpins s σ H Q I h=>pairTrees_nil_walk ⟨[],H,I,.nil,h⟩
def Il{X:Cx}{pos:Pos}{k v:Expr}{ks:List (Option Expr)}{vs:List Expr}{tk tv:TE}{trs:List (TE×TE)}(hk:PE X k tk)(hv:PE X v tv)(hr:PPs X pos ks vs trs) :
  PPs X pos (Z k::ks) (v::vs) ((tk,tv)::trs):=λpins s σ H Q I h=>
 pairTrees_cons_walk (da (hk pins s σ H _ I h) λu s1 ⟨x,H1,I1,rx,q1⟩=>da (hv pins s1 σ H1 _ I1 q1) λw2 s2 ⟨y,H2,I2,ry,q2⟩=>
  da (hr pins s2 σ H2 _ I2 q2) λws s3 ⟨ps,H3,I3,rel,q3⟩=>⟨(x,y)::ps,H3,I3,.cons ⟨rx,ry⟩ rel,q3⟩)
noncomputable def lC(kvs more:List (bC×V)):List (bC×V):=more.foldl (λacc kv=>uw acc kv.1 kv.2) kvs
def KV.merge:∀ {more:List (bC×V)} {rs:List (bC×Value)} {kvs:List (bC×V)} {vs:List (bC×Value)},KV more rs->KV kvs vs->KV (lC kvs more) (merged vs rs):=by
 intro more rs kvs vs r
 unfold KV at r
 induction r generalizing kvs vs with
 | nil=>intro q;exact q
 | @cons p q ps qs h t ih=>
  intro r0
  have e:KV (uw kvs p.1 p.2) (stored vs q.1 q.2):=by
   have:=r0.put p.1 h.2
   rw [<- h.1];exact this
  exact ih e
theorem nz:∀ (more kvs:List (bC×V)),(lC kvs more).length<=kvs.length+more.length
 | [],kvs=>by show kvs.length<=kvs.length+0;omega
 | p::r,kvs=>by
  have h1:=nz r (uw kvs p.1 p.2)
  have h2:=Al kvs p.1 p.2
  show (lC (uw kvs p.1 p.2) r).length<=_
  rw [UE];omega
theorem tX{P:Program}{w:World}:∀ {kvs:List (bC×V)} {ws:List (Value×Value)},VV (kvs.map λkv=>(kV kv.1,kv.2)) ws->∃ rs,Carries (bU P w) ws rs/\KV kvs rs
 | [],_,r=>by rw [Xj] at r;cases r;exact⟨[],True.intro,.nil⟩
 | p::kvs,_,r=>by
  rw [Uy] at r
  cases r with
  | @cons a b as bs h t=>
   obtain⟨rs,c,q⟩:=tX (P:=P) (w:=w) t
   obtain⟨b1,b2⟩:=b
   exact⟨(p.1,b2)::rs,⟨vL h.1,rfl,c⟩,.cons ⟨rfl,h.2⟩ q⟩
def tDisp(trs:List (TE×TE)):TE:=λσ H Q=>∀ p,H p=U->wN trs σ (upd H p (.dK [])) λps H2=>H2 p=Z (.dK [])/\∃ kvs:List (bC×V),ps=kvs.map (λkv=>(kV kv.1,kv.2))/\kvs.length<=15/\Q (.ref p) (upd H2 p (.dK (lC [] kvs)))
def DC{X:Cx}{pos:Pos}{keys:List (Option Expr)}{values:List Expr}{trs:List (TE×TE)}(h:PPs X pos keys values trs)(hall:keys.all (·.isSome)=true)(hl:keys.length=values.length)(h0:keys≠[])
  (h15:keys.length<=15):PE X (.Dict keys values pos) (tDisp trs):=by
 intro pins s σ H Q I q
 have hn:=I.hok.fresh (Uw s.heap.objs.size)
 have I1:=I.laid (a:=s.heap.objs.size) (o:=.dK []) (h':=s.heap.push { cls:=.type "dict",data:=.dict #[] }) (t':=s.toks) (λ_ _ q=>Uv _ q) (Uw _) (AX s.heap I.big)
 refine wpAny_Dict_walk (knd:=bU X.prog X.w) hall hl h0 h15 (da (h pins _ σ _ _ I1 (q _ hn)) λws s2 ⟨ps,H2,I2,rel,e,kvs,ep,lk,q2⟩=>?_)
 subst ep
 obtain⟨rs,c,rk⟩:=tX (P:=X.prog) (w:=X.w) rel
 obtain⟨z,hd,vs0,r0,dd⟩:=dk_of I2.hok e
 cases r0
 refine⟨rs,c,dd,λh' dd' hs=>⟨.ref s.heap.objs.size,_,?_,rfl,q2⟩⟩
 have hz:(lC [] kvs).length<=sizeLine:=by
  have h1:=nz kvs []
  rw [Wb] at h1
  rw [Yh];omega
 have he:∃ q,h'.get? s.heap.objs.size=Z q:=let ⟨q,_,_,hq,_⟩:=dd';⟨q,hq⟩
 exact OC I2 (by rw [e];exact True.intro) hs he (Tn hz hd (rk.merge .nil) dd')
def IsD(H:Hp)(a:Addr):Prop:=(∃ kvs,Rd H a (.dK kvs))\/∃ kvs,Rd H a (.dT kvs)
def SC{X:Cx}{pins:List (Addr×Obj)}{σ:St}{H:Hp}{s:Shared}{a:Addr}(I:Inv X pins σ H s)(d:IsD H a) :
  s.TypeIs (.ref a) "dict"/\(∀ b,Value.ref a=.ref b->∃ ob,s.heap.get? b=Z ob/\ob.dict=U)/\(a == sysModules)=false:=by
 rcases d with ⟨kvs,e⟩ | ⟨kvs,e⟩
 ·obtain⟨_,hd,vs,_,dd⟩:=EE I.hok e
  refine⟨dd.typeIs,λb q=>?_,hd⟩
  cases q
  obtain⟨ob,_,_,h1,h2,_⟩:=dd
  exact⟨ob,h1,h2.2.1⟩
 ·obtain⟨_,hd,xs,_,dd⟩:=Kz I.hok e
  refine⟨dd.typeIs,λb q=>?_,hd⟩
  cases q
  obtain⟨ob,_,_,h1,h2,_⟩:=dd
  exact⟨ob,h1,h2.2.1⟩
section
variable{X:Cx}{pins:List (Addr×Obj)}{σ:St}{H:Hp}{s:Shared}{a:Addr}{y d:V}{u r:Value}{o:Option V}{A:Around}{E:Value->Shared->Prop}
end
section
variable{X:Cx}{o e f:Expr}{apos cpos:Pos}{td ty tx:TE}
end
section
variable{X:Cx}{pins:List (Addr×Obj)}{σ:St}{H:Hp}{s:Shared}{a:Addr}{kvs:List (bC×V)}{A:Around}{E:Value->Shared->Prop}
end
section
variable{X:Cx}{pins:List (Addr×Obj)}{σ:St}{H:Hp}{s:Shared}{a:Addr}{y:V}{u:Value}{A:Around}{E:Value->Shared->Prop}
end
end L2
namespace Att
open PySem.W PySem.Calls
def qO{P:Params}{h:Heap}:∀ (ns:List Int) (vs:List Value),WellAll P h vs (ns.map WData.int)->IntsAre vs ns:=by
 intro ns
 induction ns with
 | nil=>
  intro vs w
  rw [Xj] at w
  cases w
  exact .nil
 | cons n ns ih=>
  intro vs w
  rw [Uy] at w
  cases w with
  | cons a b=>
   cases a
   exact .cons _ _ (ih _ b)
def EZ{l:OpenLaw}{n:Nat}(hn:l.most=Z n){P:Params}{h:Heap}{args:List WData}{vals:List Value}
  (hpre:l.row.toRowW.claim.pre args=true) (hwl:WellAll P h vals args) :
  ∃ a vs ns,vals=[Value.ref a]/\args=[WData.list (ns.map WData.int)]/\h.get? a=Z { cls:=.type "list",data:=.seq vs.toArray }/\IntsAre vs ns/\ns.length<=n:=by
 have hsh:WShape.hasAll [] args [.list .int]=true:=(pre_splitW hpre).1
 have hc:l.pre.holds [] { args:=args } = true:=(pre_splitW hpre).2
 obtain⟨d,r,rfl,h1,h2⟩:=hasAllW_cons hsh
 obtain rfl:=hasAllW_nil h2
 obtain⟨xs,rfl,h3⟩:=hasW_list h1
 obtain⟨ns,rfl⟩:=items_int h3
 have hlen:ns.length<=n:=by
  unfold OpenLaw.pre at hc
  have h4:(WTm.not (.lt (.lit (.int (n:Int))) (.len (.arg 0)))).holds [] { args:=[.list (ns.map .int)] } = true:=by
   have h4:=(holds_andW hc).1
   rw [hn] at h4
   exact h4
  have h5:=condW_of h4 (w_not (w_lt w_lit (w_len_list (w_arg rfl))))
  rw [Ux] at h5
  refine Nat.le_of_not_lt λq=>?_
  have q':(n:Int)<((ns.length:Nat):Int):=by omega
  first
   | (rw [Uo q'] at h5;exact absurd h5 (by decide))
   | (simp at h5;omega)
 cases hwl with
 | cons w1 w2=>
  cases w2
  cases w1 with
  | list ho hall=>exact⟨_,_,ns,rfl,rfl,ho,qO ns _ hall,hlen⟩
def Fj(l:OpenLaw)(args:List WData):l.row.toRowW.claim.post args (.bool true) args=true:=
 postW_of (r:=l.row.toRowW) (X:=(true == true))
  (show WShape.has [] (.bool true) .bool=true by first | rfl | decide | simp [WShape.has,WShape.arms,WShape.armsAll])
  (show (WTm.eq .res (.lit (.bool true))).value [] { args:=args,res:=Z (.bool true),after:=args } = Z (.bool (true == true)) from w_eq_bool (w_res rfl) w_lit) rfl
def Bl{l:OpenLaw}{n:Nat}{q:Program}{loose:List Str}{XP:(Str->Option Value)->Heap->Prop}{YP:World->Heap->Prop}{d:DefRec}
  (hn:l.most=Z n) (hdf:d.params.defaults=[])
  (call:∀ (w:World) (s₀ s₁:Shared) (mg mb:Str->Option Value) (fa:Addr) (o:Obj) (pm cd doc:Value) (a:Addr) (vs:List Value) (ns:List Int),
   Ground q loose [] XP w s₀ mg mb s₁.heap->YP w s₁.heap ->
   s₁.heap.get? fa=Z o->o.data=.func (docDef d.name d.params d.body d.scope pm cd doc)->s₁.heap.CodeRec cd d.name->mg d.name=Z (.ref fa) ->
   s₁.heap.get? a=Z { cls:=.type "list",data:=.seq vs.toArray }->IntsAre vs ns->ns.length<=n->s₁.gens = #[] ->
   codeAny (model l.prog w) callerA (.call (.ref fa) ⟨[.ref a],[]⟩) (λr s'=>r=.ok (.ret (.bool true))/\OldK s₁.heap s'.heap/\s'.os=s₁.os/\AllBare s'.gens) s₁) :
  WalkO q loose XP YP l.row.toRowW d [] (λf vs=>PySem.call f vs):=by
 intro w s₀ s₁ mg mb G Y fa o pm cd doc dV kV ho hd hcd hD hmg hg args vals as hpre hlay hrd hwl hlo
 obtain rfl:dV=.none:=Dflts.none hD hdf
 obtain rfl:kV=.none:=Dflts.noKw hD
 obtain⟨a,vs,ns,rfl,rfl,hobj,hints,hlen⟩:=EZ hn hpre hwl
 refine enter_call (VO (call w s₀ s₁ mg mb fa o pm cd doc a vs ns G Y ho (fd_plain hd) hcd hmg hobj hints hlen hg) λr s' hq=>?_)
 obtain⟨rfl,h2,h3,h4⟩:=hq
 exact⟨.inl ⟨.bool true,.bool true,[],rfl,λ_=>rfl,.bool true,Fj l _,λ_=>⟨List.Pairwise.nil,λ_ hm=>(nomatch hm)⟩⟩,h2,h3,h4⟩
section
variable{prog:Program}{w:World}{A:Around}{E:Value->Shared->Prop}{s:Shared}{K:Frag}
end
end Att
namespace L2
theorem uT:∀ {vs:List Value} {ns:List Int},IntsAre vs ns->Vals (ns.map V.int) vs
 | _,_,.nil=>.nil
 | _,_,.cons n t h=>.cons ⟨t,rfl⟩ (uT h)
def Uf(H:Hp):Prop:=∀ b,H b=U\/∃ o xs,H b=Z (.frz o (.lst xs))
def Jk{P:Program}{w:World}{K:W.Frag}{mg mb:Str->Option Value}{CX:Hi}{k:Nat}{fa a:Addr}{fd:FuncData}{x:Str}{sp:Sp}{s₁:Shared}{vs:List Value}{ns:List Int}
  (KX:K.In s₁.heap) (hns:s₁.heap.Ns mainGlobals mg) (hb:s₁.heap.Ns builtinsNs mb) (hbb:∀ x:Str,x ≠ "__name__"->mb x=bootBuiltins x) (hlim:s₁.heap.NoLimit) (hg:s₁.gens = #[])
  (ha:s₁.heap.get? a=Z { cls:=.type "list",data:=.seq vs.toArray }) (hi:IntsAre vs ns) (hl:ns.length<=sizeLine) (hr:Room k callerA)
  (F:∀ base:Heap,K.In base->base.Ns mainGlobals mg->FnOk P w K mg base CX k fa fd [x] sp) (hbind:∀ (s:Shared) (u:Value),BindsTo s fd ⟨[u],[]⟩ [(x,u)])
  (hsp:∀ H:Hp,Uf H->mU K H a (ns.map V.int)->sp [.ref a] H (λv _=>v=.bl true) λ_ _ _=>False)
  (hCX:∀ H e s',CX [] H s₁ (λ_ _ _=>False) e s'->False) :
  codeAny (model P w) callerA (.call (.ref fa) ⟨[.ref a],[]⟩) (λr s'=>r=.ok (.ret (.bool true))/\OldK s₁.heap s'.heap/\s'.os=s₁.os/\AllBare s'.gens) s₁:=by
 have rv:=uT hi
 have lenV:=hi.length
 have core:∀ H:Hp,Uf H->mU K H a (ns.map V.int)->HOk P w H s₁.heap->(∀ b,H b≠U->b=a)->(H a≠U->K.lookup a=U) ->
   codeAny (model P w) callerA (.call (.ref fa) ⟨[.ref a],[]⟩) (λr s'=>r=.ok (.ret (.bool true))/\OldK s₁.heap s'.heap/\s'.os=s₁.os/\AllBare s'.gens) s₁:=by
  intro H hO hS hok hA hK
  have base_of:∀ {b:Addr} {o:Obj},s₁.heap.get? b=Z o->H b=U->(yp s₁.heap H).get? b=Z o:=λe n=>JE e n
  have noA:∀ {b:Addr} {o:Obj} {es:Array DictEntry} {ep:Nat},s₁.heap.get? b=Z o->o.data=.dict es ep->H b=U:=λ{b o es ep} e d=>by
   cases q:H b with
   | none=>rfl
   | some u=>
    have e':b=a:=hA b (by rw [q];simp)
    subst e'
    rw [ha] at e;cases e
    have d':Data.seq vs.toArray _=Data.dict es ep:=d
    cases d'
  have nsK:∀ {b:Addr} {m:Str->Option Value},s₁.heap.Ns b m->(yp s₁.heap H).Ns b m:=λ{b m} ⟨o,es,ep,e,d,r⟩=>⟨o,es,ep,base_of e (noA e d),d,r⟩
  have hKb:K.In (yp s₁.heap H):=λb o e=>base_of (KX b o e) (by
   cases q:H b with
   | none=>rfl
   | some u=>
    have e':b=a:=hA b (by rw [q];simp)
    subst e'
    rw [hK (by rw [q];simp)] at e;cases e)
  have hM:Mod K mg (yp s₁.heap H):=⟨hKb,nsK hns,⟨mb,nsK hb,hbb⟩,let ⟨mc,h1,h2⟩:=hlim;⟨mc,nsK h1,h2⟩⟩
  have e0:OT P w K mg (yp s₁.heap H) callerA [] s₁ H:=⟨rfl,hM,λb o e=>MY e,XX (FX _ _),trivial,λb hb=>absurd (show b∈([]:List Addr) from hb) (by simp),hok,.of_eq hg⟩
  refine VO ((F _ hKb (nsK hns)).run callerA [] s₁ H ⟨[.ref a],[]⟩ [.ref a] [.ref a] _ _ hr e0 (hbind s₁ (.ref a)) (.cons rfl .nil) (hsp H hO hS)) λr s' h=>?_
  cases r with
  | error e=>exact(hCX H e s' h).elim
  | ok fl=>
   cases fl with
   | next=>exact False.elim h
   | brk=>exact False.elim h
   | cont=>exact False.elim h
   | ret u=>
    obtain⟨v,H',os,bare,un,hok',r',q⟩:=h
    have q':v=.bl true:=q
    subst q'
    obtain rfl:u=Value.bool true:=r'
    refine⟨rfl,OldK.of_keep λb o e=>?_,os,bare⟩
    cases q:H b with
    | none=>exact un.keep b o e q (by intro z;exact absurd (show b∈([]:List Addr) from z) (by simp)) (by simp)
    | some u=>
     rcases hO b with z | ⟨ob,xs,z⟩
     ·rw [q] at z;cases z
     ·have z2:=un.frzs b ob _ z
      obtain⟨e1,_⟩:=hok b _ z
      obtain⟨e2,_⟩:=hok' b _ z2
      rw [e] at e1;cases e1
      exact e2
 cases hk:K.lookup a with
 | some o=>
  have e:=KX a o hk
  rw [ha] at e
  cases e
  refine core (λ_=>U) (λ_=>.inl rfl) (.inr ⟨_,vs.toArray,_,hk,rfl,rfl,rfl,by rw [Um,lenV];exact hl,by simpa using rv⟩) (λb u z=>by have z':(U:Option HO)=Z u:=z;cases z') (λb z=>absurd rfl z) λz=>absurd rfl z
 | none=>
  refine core (λb=>if b=a then Z (.frz { cls:=.type "list",data:=.seq vs.toArray } (.lst (ns.map V.int))) else U) (λb=>?_) (.inl (.inr ⟨{ cls:=.type "list",data:=.seq vs.toArray },if_pos rfl⟩)) (λb u z=>?_) (λb z=>?_) λ_=>hk
  ·by_cases hb:b=a
   ·exact .inr ⟨_,_,if_pos hb⟩
   ·exact .inl (if_neg hb)
  ·by_cases hb:b=a
   ·have z':=(if_pos hb).symm.trans z
    cases z'
    subst hb
    exact⟨ha,by rw [Ux];exact hl,vs,_,rv,ha⟩
   ·have z':=(if_neg hb).symm.trans z
    cases z'
  ·by_cases hb:b=a
   ·exact hb
   ·exact absurd (if_neg hb) z
def LH{l:W.OpenLaw}{n k:Nat}{q:Program}{loose:List Str}{XP:(Str->Option Value)->Heap->Prop}{YP:World->Heap->Prop}{d:DefRec}{K:Params->W.Frag}{CX:World->Hi}{sp:World->Sp}{x:Str}
  (hn:l.most=Z n) (hn2:n<=sizeLine) (hdf:d.params.defaults=[]) (hr:Room k callerA)
  (hY:∀ (w:World) (h:Heap),YP w h->(K w.params).In h)
  (F:∀ (w:World) (mg:Str->Option Value) (fa:Addr) (h:Heap),(K w.params).In h->h.Ns mainGlobals mg->mg d.name=Z (.ref fa) ->
   ∃ fd:FuncData,(∀ (s:Shared) (u:Value),BindsTo s fd ⟨[u],[]⟩ [(x,u)]) /\
    ∀ base:Heap,(K w.params).In base->base.Ns mainGlobals mg->FnOk l.prog w (K w.params) mg base (CX w) k fa fd [x] (sp w))
  (hsp:∀ (w:World) (H:Hp) (a:Addr) (ns:List Int),ns.length<=n->Uf H->mU (K w.params) H a (ns.map V.int)->sp w [.ref a] H (λv _=>v=.bl true) λ_ _ _=>False)
  (hCX:∀ (w:World) (H:Hp) (s:Shared) (e:Value) (s':Shared),CX w [] H s (λ_ _ _=>False) e s'->False) :
  W.WalkO q loose XP YP l.row.toRowW d [] (λf vs=>PySem.call f vs):=by
 refine Att.Bl hn hdf λw s₀ s₁ mg mb fa o pm cd doc a vs ns G Y ho hd hcd hmg hobj hints hlen hg=>?_
 have KX:=hY w _ Y
 obtain⟨fd,hb,hF⟩:=F w mg fa _ KX G.T.g hmg
 exact Jk KX G.T.g G.T.b G.T.builtins G.T.nolimit hg hobj hints (UV hlen hn2) hr hF hb (λH hO hS=>hsp w H a ns hlen hO hS) λH e s'=>hCX w H s₁ e s'
noncomputable def iI(s:Stmt):Arguments:=match s with
 | .FunctionDef _ a _ _ _ _ _ _ _ _=>a
 | _=>{ posonlyargs:=[],args:=[],vararg:=U,kwonlyargs:=[],kw_defaults:=[],kwarg:=U,defaults:=[] }
noncomputable def aF(s:Stmt):List Stmt:=match s with
 | .FunctionDef _ _ b _ _ _ _ _ _ _=>b
 | _=>[]
noncomputable def ar(s:Stmt):Scope:=match s with
 | .FunctionDef _ _ _ _ _ _ sc _ _ _=>sc
 | _=>{ kind:=.function,names:=[],isGenerator:=false,isCoroutine:=false }
noncomputable abbrev EQ:Hi:=λ_ _ _ _ _ _=>False
noncomputable abbrev E0:XK:=λ_ _ _=>False
def IB{X:Cx}:yL EQ X E0:=λ_ _ _ _ _ _ _ h=>h.elim
structure Fun(K:W.Frag)(x qual:Str)(st:Stmt)(f:Addr)(fd:FuncData):Prop where
 ex:∃ (oc:Value) (od:Option Addr) (kV doc pm:Value) (an:Option Addr) (cdv ct:Value) (osl:Array (Option Value)),
  fd=W.fnOf x qual (iI st) (aF st) (ar st) .none kV doc pm an cdv ct/\K.lookup f=Z ⟨oc,od,.func fd,osl⟩/\W.codeIn K cdv qual=true
 kp:W.keepIn K (.ref f)=true
section
variable{P:Program}{w:World}{K:W.Frag}{mg:Str->Option Value}{base:Heap}
def Fun.ok{x qual:Str}{st:Stmt}{f:Addr}{fd:FuncData}{N ps:List Str}{k:Nat}{sp:Sp}(F:Fun K x qual st f fd)(S:aM N ps (ar st))(len:∀ vs H Q E,sp vs H Q E->vs.length=ps.length)
  (hbody:∀ (cdv:Value) (A:Around) (outer:List Env) (s:Shared) (H:Hp) (vs:List V) (Q:VK) (E:XK),Room k (A.deeper (envOfC qual (ar st) s.heap.objs.size f cdv))->sp vs H Q E ->
   ∃ t,PSs (uL EQ P w K mg base N qual (ar st) f cdv A outer s H E).nox (aF st) t/\t { nx:=λ_ H'=>Q .non H',rt:=Q } (start N vs) H):FnOk P w K mg base EQ (k+1) f fd ps sp:=by
 obtain⟨oc,od,kV,doc,pm,an,cdv,ct,osl,rfl,lk,hcd⟩:=F.ex
 refine fn_of lk hcd S len λA outer s H vs Q E hr hsp=>?_
 obtain⟨t,h,q⟩:=hbody cdv A outer s H vs Q E hr hsp
 exact⟨t,h.nox,q⟩
def Fun.binds{x qual:Str}{st:Stmt}{f:Addr}{fd:FuncData}{ps:List Str}(F:Fun K x qual st f fd)
  (h:∀ (kV doc pm:Value) (an:Option Addr) (cdv ct:Value) (us:List Value),us.length=ps.length->bindArgs (W.fnOf x qual (iI st) (aF st) (ar st) .none kV doc pm an cdv ct) ⟨us,[]⟩=pure (ps.zip us)):Binds K fd ps []:=by
 obtain⟨oc,od,kV,doc,pm,an,cdv,ct,osl,rfl,lk,hcd⟩:=F.ex
 exact .all (h kV doc pm an cdv ct)
def SG{x qual:Str}{st:Stmt}{f:Addr}{oc:Value}{od an:Option Addr}{osl:Array (Option Value)}{kV doc pm cdv ct:Value}(l:K.lookup f=Z ⟨oc,od,.func (W.fnOf x qual (iI st) (aF st) (ar st) .none kV doc pm an cdv ct),osl⟩)
  (c:W.codeIn K cdv qual=true) (k:W.keepIn K (.ref f)=true):Fun K x qual st f (W.fnOf x qual (iI st) (aF st) (ar st) .none kV doc pm an cdv ct):=⟨⟨oc,od,kV,doc,pm,an,cdv,ct,osl,rfl,l,c⟩,k⟩
end
section
variable{X:Cx}
end
section
variable{κ:Type}[DecidableEq κ]
end
noncomputable def lX(cells:List (Str×Addr)):List (Str×NameKind)->List (Str×Addr)->List (Str×Addr)
 | [],acc=>acc
 | (n,k)::r,acc=>if k == .free then lX cells r ((n,(cells.lookup n).getD 0)::acc) else lX cells r acc
theorem iz{env:Env}:∀ (names:List (Str×NameKind)) (acc:List (Str×Addr)),(∀ x∈names,x.2=.free->(env.cells.lookup x.1).isSome=true) ->
  (forIn names acc λ(x:Str×NameKind) (r:List (Str×Addr))=>(do
   if x.2 == .free then do let c <- cellOf env x.1;pure (ForInStep.yield ((x.1,c)::r)) else pure (ForInStep.yield r):Sem (ForInStep (List (Str×Addr)))))=pure (lX env.cells names acc)
 | [],acc,_=>rfl
 | (n,k)::r,acc,h=>by
  rw [List.forIn_cons]
  cases hk:k == NameKind.free with
  | true=>
   have e:k=.free:=by simpa using hk
   have hs:=h (n,k) Ul e
   obtain⟨c,hc⟩:=VF.mp hs
   have hc':env.cells.lookup n=Z c:=hc
   have hce:cellOf env n=pure c:=by unfold cellOf;rw [hc']
   simp only [VY,hce,hc',Xm,pure_bind,lX,hk]
   rw [iz r _ λx hx=>h x (Ur _ hx)]
  | false=>
   simp only [Vc,Vq,pure_bind,lX,hk]
   exact iz r _ λx hx=>h x (Ur _ hx)
def nE{scope:Scope}{env:Env}(h:∀ x∈scope.names,x.2=.free->(env.cells.lookup x.1).isSome=true):closureFor scope env=pure (lX env.cells scope.names []):=by
 have q:=iz (env:=env) scope.names [] h
 unfold closureFor
 refine Eq.trans ?_ (Eq.trans (congrArg (λ(m:Sem (List (Str×Addr)))=>m >>= λcs=>pure cs) q) ?_)
 ·rfl
 ·rfl
theorem pV(cells:List (Str×Addr)):∀ (names:List (Str×NameKind)) (acc:List (Str×Addr)),(∀ x∈names,x.2=.free->(cells.lookup x.1).isSome=true)->(∀ y c,acc.lookup y=Z c->cells.lookup y=Z c) ->
  ∀ y c,(lX cells names acc).lookup y=Z c->cells.lookup y=Z c
 | [],_,_,ha=>ha
 | (n,k)::r,acc,h,ha=>by
  unfold lX
  split
  ·rename_i hk
   refine pV cells r _ (λx hx=>h x (Ur _ hx)) λy c e=>?_
   rw [Wm] at e
   split at e
   ·rename_i hy
    have hy':y=n:=by simpa using hy
    subst hy'
    obtain⟨c',hc'⟩:=VF.mp (h (y,k) Ul (by simpa using hk))
    have hc'':cells.lookup y=Z c':=hc'
    rw [hc''] at e ⊢
    exact e
   ·exact ha y c e
  ·exact pV cells r _ (λx hx=>h x (Ur _ hx)) ha
theorem nZ(cells:List (Str×Addr)):∀ (names:List (Str×NameKind)) (acc:List (Str×Addr)) (y:Str),(acc.lookup y).isSome=true->((lX cells names acc).lookup y).isSome=true
 | [],_,_,h=>h
 | (n,k)::r,acc,y,h=>by
  unfold lX
  split
  ·refine nZ cells r _ y ?_
   rw [Wm]
   split
   ·rfl
   ·exact h
  ·exact nZ cells r _ y h
theorem po(cells:List (Str×Addr)):∀ (names:List (Str×NameKind)) (acc:List (Str×Addr)) (y:Str),(y,NameKind.free)∈names->((lX cells names acc).lookup y).isSome=true
 | [],_,_,h=>by simp at h
 | (n,k)::r,acc,y,h=>by
  unfold lX
  rcases UO.mp h with e | h
  ·cases e
   rw [if_pos (by rfl)]
   exact nZ cells r _ _ (by rw [Wm];simp)
  ·split
   ·exact po cells r _ y h
   ·exact po cells r _ y h
theorem kK{scope:Scope}{env:Env}{y:Str}:∀ {names:List (Str×NameKind)},
  ((names.map λ(n,k)=>if (k == NameKind.free&&env.scope.kind == .function&&env.kindOf n == Z .cell) then (n,NameKind.cell) else (n,k)).lookup y=Z .cell \/
  (names.map λ(n,k)=>if (k == NameKind.free&&env.scope.kind == .function&&env.kindOf n == Z .cell) then (n,NameKind.cell) else (n,k)).lookup y=Z .free) ->
  (∀ x∈names,x.2≠.cell)->(y,NameKind.free)∈names
 | [],h,_=>by simp at h
 | (n,k)::r,h,hc=>by
  have ih:=@kK scope env y r
  have hr:∀ x∈r,x.2≠.cell:=λx hx=>hc x (Ur _ hx)
  rw [Uy] at h
  by_cases hq:(k == NameKind.free&&env.scope.kind == .function&&env.kindOf n == Z .cell)=true
  ·have hk:k=.free:=by
    have:=hq
    simp only [Uk] at this
    simpa using this.1.1
   simp only [hq,VY] at h
   simp only [Wm] at h
   cases hy:y == n with
   | true=>
    have e:y=n:=by simpa using hy
    rw [e,hk]
    exact Ul
   | false=>
    simp only [hy] at h
    exact Ur _ (ih h hr)
  ·simp only [hq,Vc,Vq] at h
   simp only [Wm] at h
   cases hy:y == n with
   | true=>
    simp only [hy] at h
    have e:y=n:=by simpa using hy
    rcases h with h | h
    ·exact absurd (Uu h) (hc (n,k) Ul)
    ·rw [e,<- Uu h]
     exact Ul
   | false=>
    simp only [hy] at h
    exact Ur _ (ih h hr)
noncomputable def kD(X:Cx)(N':List Str)(scope:Scope)(C:Addr)(s:Shared)(H:Hp)(fp:List Addr):Cx:=
 {X with N:=N',s₀:=s,H₀:=H,env:=compEnvC scope (lX X.env.cells scope.names []) C X.env,outer:=X.stack,ex:=fp,fn:=λ_=>false,pn:=[],xe:=λ_ _=>False }
def LD(X:Cx)(ifs:List Expr)(t:TT):Prop:=
 ∀ (pins:List (Addr×Obj)) (s:Shared) (σ:St) (H:Hp) (Q:Bool->Hp->Prop),Inv X pins σ H s->t σ H Q->wpAny (model X.prog X.w) X.A (forIn ifs true λc r=>if r=true then do let ok <- isTrue c X.env (eval c X.env);pure (ForInStep.yield ok) else pure (ForInStep.yield r)) (TP X pins σ Q) X.xe s
def Mi{X:Cx}:LD X [] (λ_ H Q=>Q true H):=λ_ _ _ H _ I h=>wpAny_tests_nil ⟨H,I,h⟩
def Mh{X:Cx}{c:Expr}{t:TT}(h:PT X c t):LD X [c] t:=λpins s σ H Q I q=>wpAny_tests_one (h pins s σ H Q I q)
noncomputable def lq(e tg:Expr)(p0:Pos)(ifs:List Expr)(d:Nat)(it acc:Value)(env:Env)(bc:Sem Unit):Sem Fin:=do
 standAt p0
 let r <- pyNext it
 match r with
 | none=>pure (Fin.done Flow.next)
 | some v=>do
  letOwnedTupleGo tg it v
  assign tg env v
  let ok <- forIn ifs true λc r=>if r=true then do let ok <- isTrue c env (eval c env);pure (ForInStep.yield ok) else pure (ForInStep.yield r)
  if ok=true then do bc;again (.compLoop e d it acc env) else again (.compLoop e d it acc env)
noncomputable def Kv(elt:Expr)(acc:Value)(env:Env):Sem Unit:=do
 let x <- eval elt env
 let _ <- call (.builtin "list.append") [acc,x]
 pure ()
section
variable{prog:Program}{w:World}{A:Around}{R:Result->Shared->Prop}{s:Shared}
def lV{e elt tg:Expr}{gens:List Comprehension}{scope:Scope}{pos p0:Pos}{ifs:List Expr}{d:Nat}{it acc:Value}{env:Env}{bc:Sem Unit}(he:e=.ListComp elt gens scope pos)(htn:compTurn e d it acc env=lq e tg p0 ifs d it acc env bc)(I:Nat->Shared->Prop)
  (turn:∀ n s,I n s->wpAny (model prog w) A (pyNext it) (λr s₁=>match r with
   | none=>R (.ok .next) s₁
   | some v=>wpAny (model prog w) A (letOwnedTupleGo tg it v) (λ_ s₁'=>wpAny (model prog w) A (assign tg env v) (λ_ s₂=>
     wpAny (model prog w) A (forIn ifs true λc r=>if r=true then do let ok <- isTrue c env (eval c env);pure (ForInStep.yield ok) else pure (ForInStep.yield r)) (λok s₃=>
      if ok=true then wpAny (model prog w) A bc (λ_ s₅=>∃ m,m<n/\I m s₅) (λ_ _=>False) s₃
      else ∃ m,m<n/\I m s₃) (λ_ _=>False) s₂) (λ_ _=>False) s₁') (λ_ _=>False) s₁) (λ_ _=>False) s)
  (n:Nat) (h:I n s) :
  codeAny (model prog w) A (.compLoop e d it acc env) R s:=by
 refine codeAny_loop rfl I (λn s hI=>?_) n h
 subst he
 show wpAny _ A ((compTurn (.ListComp elt gens scope pos) d it acc env).onRaise (λx=>do noteFrame x env;theTreesLotGoes x)) _ _ s
 refine wpAny_noted ?_
 rw [htn]
 refine Up (Wp (Up (Va (turn n s hI) (λr s₁ h₁=>?_) λ_ _ h'=>h'.elim)))
 cases r with
 | none=>exact UD h₁
 | some v=>
  refine Up (Va h₁ (λ_ s₁' h₁'=>?_) λ_ _ h'=>h'.elim)
  refine Up (Va h₁' (λ_ s₂ h₂=>Up (Va h₂ (λok s₃ h₃=>?_) λ_ _ h'=>h'.elim)) λ_ _ h'=>h'.elim)
  cases ok with
  | false=>exact UD ⟨rfl,h₃⟩
  | true=>exact Up (Va h₃ (λ_ s₅ h₅=>UD ⟨rfl,h₅⟩) λ_ _ h'=>h'.elim)
end
abbrev TB:=St->Hp->(St->Hp->Prop)->Prop
def PB(X:Cx)(m:Sem Unit)(tb:TB):Prop:=
 ∀ (pins:List (Addr×Obj)) (s:Shared) (σ:St) (H:Hp) (Q:St->Hp->Prop),Inv X pins σ H s->tb σ H Q->wpAny (model X.prog X.w) X.A m (λ_ s'=>∃ σ' H',Inv X pins σ' H' s'/\Q σ' H') X.xe s
def tEm(te:TE)(p:Addr):TB:=λσ H Q=>te σ H λy H5=>∃ ys,H5 p=Z (.lst ys)/\ys.length<sizeLine/\Q σ (upd H5 p (.lst (ys++[y])))
def xu{X:Cx}{elt:Expr}{te:TE}{p:Addr}(he:PE X elt te):PB X (Kv elt (.ref p) X.env) (tEm te p):=λpins s σ H Q I h=>by
 refine Up (da (he pins s σ H _ I h) λxv s8 ⟨y,H8,J8,r8,q8⟩=>?_)
 obtain⟨ys,hy,hz,q9⟩:=q8
 refine Up (da (vq _ s8 σ H8 (.ref p) [y] (.ref p) [xv] (λ_ H9=>H9=upd H8 p (.lst (ys++[y]))) J8 rfl (.cons r8 .nil) ⟨_,ys,y,rfl,rfl,hy,hz,rfl⟩) λ_ s9 ⟨_,H9,J9,_,e9⟩=>?_)
 subst e9
 exact UD ⟨_,_,J9,q9⟩
def Bv(J:It)(g:TG)(tt:TT)(tb:TB)(σ:St)(H:Hp)(Q:St->Hp->Prop):Prop:=∃ W:Nat->Nat->St->Hp->Prop,(∃ m,W 0 m σ H)/\∀ i m σ' H',W i m σ' H' ->
 (J.stop i H'/\Q σ' H')\/(J.go i H'/\∀ x H2,J.yld i H' x H2->g x σ' H2 λσ2 H3=>tt σ2 H3 λok H4=>
  if ok=true then tb σ2 H4 λσ3 H5=>∃ m',m'<m/\W (i+1) m' σ3 H5 else ∃ m',m'<m/\W (i+1) m' σ2 H4)
def wB{X:Cx}{e elt tg:Expr}{gens:List Comprehension}{scope:Scope}{pos p0:Pos}{ifs:List Expr}{d:Nat}{acc:Value}{bc:Sem Unit}{g:TG}{tt:TT}{tb:TB}{it:Addr}{fp:List Addr}{tn:Nat->Heap->Prop}{J:It}
  (hc:X.calm=true) (hx:∀ e s,X.xe e s->False) (hl:e=.ListComp elt gens scope pos) (htn:compTurn e d (.ref it) acc X.env=lq e tg p0 ifs d (.ref it) acc X.env bc) (hg:PG X tg g) (ht:LD X ifs tt) (hb:PB X bc tb) (T:GY X.prog X.w X.K tg J fp it tn)
  {pins:List (Addr×Obj)} {s:Shared} {σ:St} {H:Hp} {Q:St->Hp->Prop} (I:Inv X pins σ H s) (st:tn 0 s.heap) (f2:∀ b∈fp,qb X pins H b) (h:Bv J g tt tb σ H Q) :
  codeAny (model X.prog X.w) X.A (.compLoop e d (.ref it) acc X.env) (λr s'=>∃ σ' H',r=.ok .next/\Inv X pins σ' H' s'/\Q σ' H') s:=by
 obtain⟨W,⟨m0,w0⟩,turn⟩:=h
 have no:∀ e s,X.xe e s->(λ(_:Value) (_:Shared)=>False) e s:=hx
 have stat:∀ {H':Hp},(∀ b∈fp,H' b=U)->∀ b∈fp,qb X pins H' b:=λhn b hb=>⟨hn b hb,(f2 b hb).2⟩
 refine lV hl htn (λn s'=>∃ i σ' H',Inv X pins σ' H' s'/\tn i s'.heap/\(∀ b∈fp,H' b=U)/\W i n σ' H') ?_ m0 ⟨0,_,_,I,st,λb hb=>(f2 b hb).1,w0⟩
 rintro n s3 ⟨i,σ3,H3,J3,st3,fr3,w3⟩
 rcases turn i n σ3 H3 w3 with ⟨stop,qn⟩ | ⟨go,step⟩
 ·refine da (T.done X rfl rfl rfl hc i pins s3 σ3 H3 _ J3 (stat fr3) st3 stop) λr s4 ⟨hr,J4⟩=>?_
  subst hr
  exact⟨σ3,H3,rfl,J4,qn⟩
 ·refine da (T.item X rfl rfl rfl hc i pins s3 σ3 H3 _ J3 (stat fr3) st3 go) λr s4 ⟨u,hr,h4⟩=>?_
  subst hr
  refine da h4 λ_ s5 ⟨x,H5,J5,r5,y5,st5,fr5⟩=>?_
  have J5':=J5.pinned (stat fr5) (T.obj _ _ st5)
  refine Va (hg _ s5 σ3 H5 x u _ J5' r5 (step x H5 y5)) (λ_ s6 ⟨σ6,H6,J6,q6⟩=>?_) no
  refine Va (ht _ s6 σ6 H6 _ J6 q6) (λok s7 ⟨H7,J7,q7⟩=>?_) no
  have again:∀ {s':Shared} {σ7:St} {H7:Hp},Inv X (pins++rW fp s5.heap) σ7 H7 s'->(∃ m',m'<n/\W (i+1) m' σ7 H7)->∃ m,m<n/\∃ i σ' H',Inv X pins σ' H' s'/\tn i s'.heap/\(∀ b∈fp,H' b=U)/\W i m σ' H':=λ{s' σ7 H7} J7 n7=>by
   obtain⟨m',hm,w7⟩:=n7
   refine⟨m',hm,i+1,σ7,H7,J7.unpinned,T.keep _ _ _ st5 λb hb o e=>(J7.pin (b,o) (UW _ (UW _ (kR hb e)))).1,λb hb=>?_,w7⟩
   obtain⟨o,e,d⟩:=T.obj _ _ st5 b hb
   exact(J7.pin (b,o) (UW _ (UW _ (kR hb e)))).2.1
  cases ok with
  | false=>
   rw [if_neg Bool.false_ne_true] at q7 ⊢
   exact again J7 q7
  | true=>
   rw [if_pos rfl] at q7 ⊢
   exact Va (hb _ s7 σ6 H7 _ J7 q7) (λ_ s9 ⟨σ9,H9,J9,q9⟩=>again J9 q9) no
structure BlockOk(X:Cx)(N':List Str)(scope:Scope)(cap:List (Option Nat)):Prop where
 kind:scope.kind=.function
 nocell:∀ x∈scope.names,x.2≠.cell
 names:∀ x∈scope.names,x.2=.local->scope.names.lookup x.1=Z .local
 free:∀ x∈scope.names,x.2=.free->(X.env.kindOf x.1=Z .cell\/X.env.kindOf x.1=Z .free)
 nd:N'.Nodup
 len:cap.length=N'.length
 cap:∀ (j i:Nat),cap[j]?=Z (Z i)->∃ y,N'[j]?=Z y/\X.N[i]?=Z y/\Ua X.env.scope y/\(X.env.kindOf y=Z .cell\/X.env.kindOf y=Z .free)/\((relabel scope X.env).names.lookup y=Z .cell\/(relabel scope X.env).names.lookup y=Z .free)
noncomputable def σB(cap:List (Option Nat))(σ:St):St:=cap.map λo=>o.bind λi=>(σ[i]?).join
section
variable{X:Cx}{pins:List (Addr×Obj)}{σ:St}{H:Hp}{s:Shared}{N':List Str}{scope:Scope}{cap:List (Option Nat)}{C:Addr}{fp:List Addr}
theorem BlockOk.cells(B:BlockOk X N' scope cap)(ok:X.Ok):∀ x∈scope.names,x.2=.free->(X.env.cells.lookup x.1).isSome=true:=λx hx hf=>by
 obtain⟨c,e⟩:=ok.has x.1 (B.free x hx hf)
 rw [e];rfl
def BlockOk.cl(B:BlockOk X N' scope cap)(ok:X.Ok):∀ y c,(lX X.env.cells scope.names []).lookup y=Z c->X.env.cells.lookup y=Z c:=
 pV _ _ _ (B.cells ok) λy c e=>by simp at e
def Inv.notStk(I:Inv X pins σ H s){b:Addr}(h1:b≠X.env.locals)(h2:b ∉ X.fs):b ∉ Hg X.stack:=λz=>(UO.mp (I.stkSub b z)).elim h1 h2
def Inv.block{h4:Heap}{tk:Nat}{m0:Str->Option Value}(I:Inv X pins σ H s)(B:BlockOk X N' scope cap)(hfp:∀ b∈fp,qb X pins H b/\b<s.heap.objs.size)(hC:s.heap.objs.size<=C)
  (hk:∀ b o,s.heap.get? b=Z o->h4.get? b=Z o) (hn:h4.Ns C m0):Inv (kD X N' scope C s H fp) [] (σB cap σ) H { s with heap:=h4,toks:=tk }:=by
 have okX:=I.ok
 have hcl:=B.cl okX
 have cellC:∀ x c,(lX X.env.cells scope.names []).lookup x=Z c->∃ v,s.heap.IsCell c v:=λx c e=>I.cell x c (hcl x c e)
 have neC:∀ b o,s.heap.get? b=Z o->b≠C:=λb o e=>UR (UI (UA e) hC)
 refine⟨⟨okX.mod,B.kind,okX.glob,okX.blt,hC,λx y c e1 e2=>okX.inj x y c (hcl x c e1) (hcl y c e2),λx hx=>?_,λx c e _=>(by cases e),okX.hd,okX.frames,.inl rfl,λb hb=>⟨λz=>?_,λx c e z=>?_⟩,λb o e=>I.bs b o e,UV okX.bsz I.sz,λb o e hb=>?_,λb hb z=>?_,I.stack,I.stkFree⟩,
  rfl,I.bare,Un.kept hk,⟨m0,hn,λj y v e1 e2 e3=>?_⟩,λx c e=>?_,I.hok.fresh hC,λx c e=>I.freeC x c (hcl x c e),λp hp=>absurd (show p∈([]:List (Addr×Obj)) from hp) (by simp),I.hok.kept hk,?_⟩
 ·have q:=kK (scope:=scope) (env:=X.env) (y:=x) (names:=scope.names) hx B.nocell
  exact VF.mp (po _ _ _ _ q)
 ·have z':b=C:=z
  exact absurd (hfp b hb).2 (by rw [z'];exact Nat.not_lt.mpr hC)
 ·exact(hfp b hb).1.2.2.2.2.1 x c (hcl x c e) z
 ·obtain⟨h0,h1,h2,h3,h4',h5⟩:=(hfp b hb).1
  rcases h3 with h3 | h3
  ·exact okX.noex b o e h3
  ·have:=(okX.bs b o e).1
   exact absurd (UI (UA this) h3) (VI _)
 ·obtain⟨h0,h1,h2,h3,h4',h5⟩:=(hfp b hb).1
  exact I.notStk h1 h2 z
 ·have e1':N'[j]?=Z y:=e1
  unfold σB at e2
  rw [VG] at e2
  cases ec:cap[j]? with
  | none=>rw [ec] at e2;cases e2
  | some o=>
   rw [ec] at e2
   cases o with
   | none=>cases e2
   | some i=>
    obtain⟨y',n1,n2,vis,kx,kb⟩:=B.cap j i ec
    rw [e1'] at n1;cases n1
    have e2':(σ[i]?).join=Z v:=Uu e2
    have e2'':σ[i]?=Z (Z v):=by
     cases q:σ[i]? with
     | none=>rw [q] at e2';cases e2'
     | some z=>rw [q] at e2';exact congrArg Z e2'
    obtain⟨m,hm,hl⟩:=I.loc
    obtain⟨u,ru,lk⟩:=hl i y v n2 e2'' vis
    refine⟨u,ru,.inr ⟨kb,?_⟩⟩
    rcases lk with ⟨k,_⟩ | ⟨k,c,ec',z⟩
    ·rcases kx with kx | kx
     ·rw [kx] at k;cases k
     ·rw [kx] at k;cases k
    ·have q:=kK (scope:=scope) (env:=X.env) (y:=y) (names:=scope.names) kb B.nocell
     obtain⟨c',hc'⟩:=VF.mp (po X.env.cells scope.names [] y q)
     have:=hcl y c' hc'
     rw [ec'] at this;cases this
     exact⟨c,hc',z.keeps hk⟩
 ·obtain⟨v,z⟩:=cellC x c e
  exact⟨v,z.keeps hk⟩
 ·show (σB cap σ).length=N'.length
  unfold σB
  rw [Ux,B.len]
def Inv.unblock{Hf:Hp}{s':Shared}{σ':St}{pins':List (Addr×Obj)}(I:Inv X pins σ H s)(hfp:∀ b∈fp,qb X pins H b)(J:Inv (kD X N' scope C s H fp) pins' σ' Hf s'):Inv X pins σ Hf s':=
 I.call' (ch:=fp) J.os J.base J.hok J.bare λb hb=>by
  obtain⟨h0,h1,h2,h3,h4,h5⟩:=hfp b hb
  exact⟨h3,h1,h4,h5⟩
end
def rJ(wi:TI)(g:TG)(tt:TT)(tb:Addr->TB)(cap:List (Option Nat)):TE:=λσ H Q=>wi σ H λJ H1=>∀ p,H1 p=U->Bv J g tt (tb p) (σB cap σ) (upd H1 p (.lst [])) λ_ H'=>Q (.ref p) H'
def HF(wi:TI)(g:TG)(tt:TT)(te:TE)(cap:List (Option Nat)):TE:=rJ wi g tt (tEm te) cap
def Behind(X:Cx)(pins:List (Addr×Obj))(σ:St)(Q:VK)(acc:Value)(C:Addr)(r:Result)(s':Shared):Prop:=
 ∃ p Hf m,r=.ok .next/\acc=.ref p/\Inv X pins σ Hf s'/\Q (.ref p) Hf/\s'.heap.Ns C m/\Hf C=U/\C≠X.env.locals/\X.s₀.heap.objs.size<=C/\(∀ x c,X.env.cells.lookup x=Z c->c≠C)/\(∀ q∈X.pn++pins,q.1≠C)
def tU{X:Cx}{elt iter tg:Expr}{ifs:List Expr}{rest:List Comprehension}{scope:Scope}{pos:Pos}{N':List Str}{cap:List (Option Nat)}{wi:TI}{g:TG}{tt:TT}{tb:Addr->TB}{bc:Value->Env->Sem Unit}
  (hc:X.calm=true) (B:BlockOk X N' scope cap) (hi:PI X tg iter wi) (hg:∀ C s H fp,PG (kD X N' scope C s H fp) tg g) (ht:∀ C s H fp,LD (kD X N' scope C s H fp) ifs tt)
  (htn:∀ it acc env,compTurn (.ListComp elt (⟨tg,iter,ifs,0⟩::rest) scope pos) 0 it acc env=lq (.ListComp elt (⟨tg,iter,ifs,0⟩::rest) scope pos) tg iter.pos ifs 0 it acc env (bc acc env))
  (hb:∀ C s H fp p,PB (kD X N' scope C s H fp) (bc (.ref p) (kD X N' scope C s H fp).env) (tb p))
  {pins:List (Addr×Obj)} {s:Shared} {σ:St} {H:Hp} {Q:VK} (I:Inv X pins σ H s) (h:rJ wi g tt tb cap σ H Q) {E:Value->Shared->Prop} (hE:∀ e s,X.xe e s->E e s) :
  wpAny (model X.prog X.w) X.A (eval iter X.env) (λx s₁=>wpAny (model X.prog X.w) X.A (pyIter x) (λit s₂=>wpAny (model X.prog X.w) X.A (newList []) (λacc s₃=>
   wpAny (model X.prog X.w) X.A (newFunctionEnv scope X.env.globals (lX X.env.cells scope.names []) [] X.env.qual U .none (Z X.env)) (λcenv s₄=>
    codeAny (model X.prog X.w) X.A (.compStart (.ListComp elt (⟨tg,iter,ifs,0⟩::rest) scope pos) 0 it acc { cenv with scope:=relabel scope X.env }) (Behind X pins σ Q acc cenv.locals) s₄) E s₃) E s₂) E s₁) E s:=by
 refine Va (hi pins s σ H _ I h) (λv s1 h1=>Va h1 (λitv s2 h2=>?_) hE) hE
 obtain⟨it,fp,tn,J,H1,e,I2,T,st2,f2,hW⟩:=h2
 subst e
 refine Vu (wpAny_newFunctionEnv B.nocell (by intro y hy;simp at hy) (λh₁ hns₁ hsb₁=>?_) B.kind)
 dsimp only at hns₁ hsb₁ ⊢
 have hp1:H1 s2.heap.objs.size=U:=I2.hok.fresh (Uw _)
 have hL:=hW s2.heap.objs.size hp1
 have I3:Inv X pins σ (upd H1 s2.heap.objs.size (.lst [])) { s2 with heap:=s2.heap.push { cls:=.type "list",dict:=U,data:=.seq ([]:List Value).toArray },toks:=s2.toks }:=
  I2.laid (λb o e=>Uv _ e) (Uw _) ⟨Wt _,[],_,.nil,UG _ rfl⟩
 generalize hH2:s2.heap.push { cls:=.type "list",dict:=U,data:=.seq ([]:List Value).toArray } = H2 at hns₁ hsb₁ I3 ⊢
 have hC:H2.objs.size=s2.heap.objs.size+1:=by rw [<- hH2,WS]
 have ltfp:∀ b∈fp,b<s2.heap.objs.size:=λb hb=>by
  obtain⟨o,e,_⟩:=T.obj _ _ st2 b hb
  exact UA e
 have hf3:∀ b∈fp,qb X pins (upd H1 s2.heap.objs.size (.lst [])) b/\b<H2.objs.size:=λb hb=>by
  obtain⟨a0,a⟩:=f2 b hb
  refine⟨⟨?_,a⟩,by rw [hC];exact Xd (ltfp b hb)⟩
  rw [bh (UR (ltfp b hb))];exact a0
 have up:∀ b o,H2.get? b=Z o->h₁.get? b=Z o:=λb o e=>hsb₁.extBut b o (UR (UA e)) (Uv _ e)
 have I4:=I3.block (C:=H2.objs.size) (fp:=fp) (h4:=h₁) (tk:=s2.toks+([]:List (Str×Value)).length) B hf3 (Uw _) up hns₁
 have st4:tn 0 h₁:=T.keep _ _ _ st2 λb hb o e=>up b o (by rw [<- hH2];exact Uv _ e)
 have loop:codeAny (model X.prog X.w) X.A (.compLoop (.ListComp elt (⟨tg,iter,ifs,0⟩::rest) scope pos) 0 (.ref it) (.ref s2.heap.objs.size) (compEnvC scope (lX X.env.cells scope.names []) H2.objs.size X.env))
    (Behind X pins σ Q (.ref s2.heap.objs.size) H2.objs.size) { s2 with heap:=h₁,toks:=s2.toks+([]:List (Str×Value)).length }:=by
  refine VO (wB (X:=kD X N' scope H2.objs.size { s2 with heap:=H2,toks:=s2.toks } (upd H1 s2.heap.objs.size (.lst [])) fp) hc (λ_ _ z=>z) rfl (htn _ _ _) (hg _ _ _ _) (ht _ _ _ _) (hb _ _ _ _ _) T I4 st4 (λb hb=>?_) hL) λr s4 ⟨σ4,H4,hr,J4,qn⟩=>?_
  ·obtain⟨h0,h1,h2,h3,h4',h5⟩:=(hf3 b hb).1
   exact⟨h0,UR (hf3 b hb).2,I3.notStk h1 h2,.inl hb,λx c e=>h4' x c (B.cl I3.ok x c e),λp hp=>absurd (show p∈([]:List (Addr×Obj)) from hp) (by simp)⟩
  ·obtain⟨m,hm,_⟩:=J4.loc
   have IX:=I3.unblock (λb hb=>(hf3 b hb).1) J4
   refine⟨_,H4,m,hr,rfl,IX,qn,hm,J4.free,?_,?_,λx c e z=>?_,λq hq z=>?_⟩
   ·exact Ne.symm (UR I3.lt)
   ·exact I3.sz
   ·obtain⟨v,q⟩:=I3.cell x c e
    exact absurd q.lt (by rw [z];exact VI _)
   ·exact absurd (UA (I3.pin q hq).1) (by rw [z];exact VI _)
 exact codeAny_compStart_list loop (T.self _ 0 _ _ _ st4 loop)
def zn{X:Cx}{elt iter tg:Expr}{ifs:List Expr}{rest:List Comprehension}{scope:Scope}{pos:Pos}{N':List Str}{cap:List (Option Nat)}{wi:TI}{g:TG}{tt:TT}{tb:Addr->TB}{bc:Value->Env->Sem Unit}
  (hc:X.calm=true) (B:BlockOk X N' scope cap) (hi:PI X tg iter wi) (hg:∀ C s H fp,PG (kD X N' scope C s H fp) tg g) (ht:∀ C s H fp,LD (kD X N' scope C s H fp) ifs tt) (htn:∀ it acc env,compTurn (.ListComp elt (⟨tg,iter,ifs,0⟩::rest) scope pos) 0 it acc env=lq (.ListComp elt (⟨tg,iter,ifs,0⟩::rest) scope pos) tg iter.pos ifs 0 it acc env (bc acc env))
  (hb:∀ C s H fp p,PB (kD X N' scope C s H fp) (bc (.ref p) (kD X N' scope C s H fp).env) (tb p))
  (hs:∀ x,foldedSetIterable iter X.env x=pure x:=by intro _;rfl):PE X (.ListComp elt (⟨tg,iter,ifs,0⟩::rest) scope pos) (rJ wi g tt tb cap):=by
 intro pins s σ H Q I h
 rw [eval_ListComp]
 refine XE (use:=U) rfl hs (nE (B.cells I.ok)) B.kind B.names ?_
 refine Va (tU hc B hi hg ht htn hb I h λ_ _ x=>x) (λx s1 h1=>Va h1 (λit s2 h2=>Va h2 (λacc s3 h3=>Va h3 (λcenv s4 h4=>VO h4 λr s' hr=>?_) λ_ _ x=>x) λ_ _ x=>x) λ_ _ x=>x) λ_ _ x=>x
 obtain⟨p,Hf,m,rfl,rfl,J,q,hn,c1,c2,c3,c4,c5⟩:=hr
 exact⟨m,hn,λh' sb=>⟨_,Hf,J.turned (t':=s'.toks) (λb o hb e=>(sb.2 b hb).trans e) c1 c2 (.inr c3) c4 c5,(show RelV (.ref p) (.ref p) from rfl),q⟩⟩
def qe{X:Cx}{elt iter tg:Expr}{ifs:List Expr}{rest:List Comprehension}{scope:Scope}{pos spos py:Pos}{N':List Str}{cap:List (Option Nat)}{wi:TI}{g:TG}{tt:TT}{tb:Addr->TB}{bc:Value->Env->Sem Unit}{y:Str}{i:Nat}
  (hN:X.N.Nodup) (hy:X.N[i]?=Z y) (hx:Lz X.env.scope y)
  (hc:X.calm=true) (B:BlockOk X N' scope cap) (hi:PI X tg iter wi) (hg:∀ C s H fp,PG (kD X N' scope C s H fp) tg g) (ht:∀ C s H fp,LD (kD X N' scope C s H fp) ifs tt) (htn:∀ it acc env,compTurn (.ListComp elt (⟨tg,iter,ifs,0⟩::rest) scope pos) 0 it acc env=lq (.ListComp elt (⟨tg,iter,ifs,0⟩::rest) scope pos) tg iter.pos ifs 0 it acc env (bc acc env))
  (hb:∀ C s H fp p,PB (kD X N' scope C s H fp) (bc (.ref p) (kD X N' scope C s H fp).env) (tb p))
  (hsw:swapsWith (.ListComp elt (⟨tg,iter,ifs,0⟩::rest) scope pos) (Z (.Name y py)) spos.line X.env=pure true:=by rfl)
  (hs:∀ x,foldedSetIterable iter X.env x=pure x:=by intro _;rfl) (hf:X.fn y=true\/X.env.scope.names.lookup y=Z .local:=by first | exact .inl rfl | exact .inr rfl | assumption) :
  PS X (.Assign [.Name y py] (.ListComp elt (⟨tg,iter,ifs,0⟩::rest) scope pos) spos) (HH (rJ wi g tt tb cap) (Et i)):=by
 intro pins s σ H D I h
 rw [exec_Assign_Name_used _ _ _ _ hsw]
 refine Up (Wp (Up ?_))
 show wpAny _ _ (do let _ <- comprehension (.ListComp elt (⟨tg,iter,ifs,0⟩::rest) scope pos) scope X.env _ (newList []) false (eval iter X.env) (Z (assign (.Name y py) X.env))) _ _ s
 refine Up (Va (XE (use:=Z (assign (.Name y py) X.env)) (Q:=λ_ s'=>SP X pins D .next s') rfl hs (nE (B.cells I.ok)) B.kind B.names
  (Va (tU hc B hi hg ht htn hb I h λ_ _ x=>x) (λx s1 h1=>Va h1 (λit s2 h2=>Va h2 (λacc s3 h3=>Va h3 (λcenv s4 h4=>VO h4 λr s' hr=>?_) λ_ _ x=>x) λ_ _ x=>x) λ_ _ x=>x) λ_ _ x=>x))
  (λ_ s' hq=>UD (UD hq)) λ_ _ e=>e)
 obtain⟨p,Hf,m,rfl,rfl,J,q,hn,c1,c2,c3,c4,c5⟩:=hr
 refine wpAny_assign_Name (uY J hN hy hx (v:=.ref p) rfl (λs2 J2 ⟨a,sb,ha⟩=>?_) hf)
 refine⟨m,hn.sameBut sb ?_,λh' sb2=>⟨_,Hf,J2.turned (t':=s2.toks) (λb o hb e=>(sb2.2 b hb).trans e) c1 c2 (.inr c3) c4 c5,q⟩⟩
 rcases ha with rfl | ha
 ·exact c2
 ·exact Ne.symm (c4 _ _ ha)
def Mw{X:Cx}{elt iter tg:Expr}{ifs:List Expr}{scope:Scope}{pos:Pos}{N':List Str}{cap:List (Option Nat)}{wi:TI}{g:TG}{tt:TT}{te:TE}
  (hc:X.calm=true) (B:BlockOk X N' scope cap) (hi:PI X tg iter wi) (hg:∀ C s H fp,PG (kD X N' scope C s H fp) tg g) (ht:∀ C s H fp,LD (kD X N' scope C s H fp) ifs tt) (he:∀ C s H fp,PE (kD X N' scope C s H fp) elt te)
  (hs:∀ x,foldedSetIterable iter X.env x=pure x:=by intro _;rfl):PE X (.ListComp elt [⟨tg,iter,ifs,0⟩] scope pos) (HF wi g tt te cap):=
 zn hc B hi hg ht (λ_ _ _=>compTurn_list ..) (λC s H fp p=>xu (he C s H fp)) hs
def BO{X:Cx}{elt iter tg:Expr}{ifs:List Expr}{scope:Scope}{pos spos py:Pos}{N':List Str}{cap:List (Option Nat)}{wi:TI}{g:TG}{tt:TT}{te:TE}{y:Str}{i:Nat}
  (hN:X.N.Nodup) (hy:X.N[i]?=Z y) (hx:Lz X.env.scope y)
  (hc:X.calm=true) (B:BlockOk X N' scope cap) (hi:PI X tg iter wi) (hg:∀ C s H fp,PG (kD X N' scope C s H fp) tg g) (ht:∀ C s H fp,LD (kD X N' scope C s H fp) ifs tt) (he:∀ C s H fp,PE (kD X N' scope C s H fp) elt te)
  (hsw:swapsWith (.ListComp elt [⟨tg,iter,ifs,0⟩] scope pos) (Z (.Name y py)) spos.line X.env=pure true:=by rfl)
  (hs:∀ x,foldedSetIterable iter X.env x=pure x:=by intro _;rfl) (hf:X.fn y=true\/X.env.scope.names.lookup y=Z .local:=by first | exact .inl rfl | exact .inr rfl | assumption) :
  PS X (.Assign [.Name y py] (.ListComp elt [⟨tg,iter,ifs,0⟩] scope pos) spos) (HH (HF wi g tt te cap) (Et i)):=
 qe hN hy hx hc B hi hg ht (λ_ _ _=>compTurn_list ..) (λC s H fp p=>xu (he C s H fp)) hsw hs hf
end L2
namespace M
open L2
inductive D where
 | non
 | bl (b:Bool)
 | int (i:Int)
 | str (x:Str)
 | tup (xs:List D)
 | lst (xs:List D)
 | rol (xs:List D)
 | dct (ks:List bC) (vs:List D)
 | ref (r:Nat)
inductive ui where
 | lst (xs:List D)
 | dct (ks:List bC) (vs:List D)
abbrev ab:=List ui
structure Fp where
 cs:List Addr
 fb:List Addr
def Fp.no(μ:Fp)(a:Addr):Prop:=a ∉ μ.cs/\a ∉ μ.fb
abbrev aW:=List (Option D)
def Na{α:Type}{N:List α}(hN:N.Nodup){i j:Nat}{x:α}(a:N[i]?=Z x)(b:N[j]?=Z x):i=j:=by
 obtain⟨h1,e1⟩:=Uj.mp a
 obtain⟨h2,e2⟩:=Uj.mp b
 exact(List.getElem_inj hN).mp (e1.trans e2.symm)
def KList(K:W.Frag)(a:Addr)(xs:List V):Prop:=∃ (o:Obj) (its:Array Value) (n:Nat),K.lookup a=Z o/\o.cls=.type "list"/\o.dict=U/\o.data=.seq its n/\its.size<=sizeLine/\Vals xs its.toList
def KTup(K:W.Frag)(a:Addr)(xs:List V):Prop:=∃ (o:Obj) (its:Array Value) (n:Nat),K.lookup a=Z o/\o.cls=.type "tuple"/\o.dict=U/\o.data=.seq its n/\its.size<=sizeLine/\Vals xs its.toList
mutual
inductive Rep(K:W.Frag)(μ:Fp)(H:Hp):V->D->Prop
 | non:Rep K μ H .non .non
 | bl (b:Bool):Rep K μ H (.bl b) (.bl b)
 | int (i:Int):Rep K μ H (.int i) (.int i)
 | str (x:Str):Rep K μ H (.str x) (.str x)
 | tup {a:Addr} {vs:List V} {ds:List D} (h:H a=Z (.tup vs)) (n:μ.no a) (r:Reps K μ H vs ds):Rep K μ H (.ref a) (.tup ds)
 | ktup {a:Addr} {vs:List V} {ds:List D} (h:KTup K a vs) (r:Reps K μ H vs ds):Rep K μ H (.ref a) (.tup ds)
 | lst {a:Addr} {vs:List V} {ds:List D} (h:H a=Z (.lst vs)) (n:μ.no a) (r:Reps K μ H vs ds):Rep K μ H (.ref a) (.lst ds)
 | rol {a:Addr} {vs:List V} {ds:List D} (h:Rd H a (.lst vs)) (n:μ.no a) (r:Reps K μ H vs ds):Rep K μ H (.ref a) (.rol ds)
 | krol {a:Addr} {vs:List V} {ds:List D} (h:KList K a vs) (r:Reps K μ H vs ds):Rep K μ H (.ref a) (.rol ds)
 | dct {a:Addr} {kvs:List (bC×V)} {ds:List D} (h:H a=Z (.dK kvs)) (n:μ.no a) (r:Reps K μ H (kvs.map (·.2)) ds):Rep K μ H (.ref a) (.dct (kvs.map (·.1)) ds)
 | ref {a:Addr} {r:Nat} (h:μ.cs[r]?=Z a):Rep K μ H (.ref a) (.ref r)
inductive Reps(K:W.Frag)(μ:Fp)(H:Hp):List V->List D->Prop
 | nil:Reps K μ H [] []
 | cons {v:V} {d:D} {vs:List V} {ds:List D} (h:Rep K μ H v d) (t:Reps K μ H vs ds):Reps K μ H (v::vs) (d::ds)
end
structure Ext(μ:Fp)(H:Hp)(μ':Fp)(H':Hp):Prop where
 fb:μ'.fb = μ.fb
 pre:∃ l,μ'.cs = μ.cs++l/\∀ a∈l,H a=U
 keep:∀ a o,a ∉ μ.cs->H a=Z o->H' a=Z o
 dom:∀ a ∈ μ'.cs,H' a≠U
section
variable{K:W.Frag}{μ μ' μ'':Fp}{H H' H'':Hp}
def Ext.stays(e:Ext μ H μ' H'){a:Addr}{o:HO}(h:H a=Z o)(n:μ.no a):H' a=Z o/\μ'.no a:=by
 refine⟨e.keep a o n.1 h,λz=>?_,by rw [e.fb];exact n.2⟩
 obtain⟨l,q,hl⟩:=e.pre
 rw [q] at z
 rcases UJ.mp z with z | z
 ·exact n.1 z
 ·rw [hl a z] at h;cases h
def Ext.keeps(e:Ext μ H μ' H'){a:Addr}{o:HO}(h:H a=Z o)(n:a ∉ μ.cs):H' a=Z o/\a ∉ μ'.cs:=by
 refine⟨e.keep a o n h,λz=>?_⟩
 obtain⟨l,q,hl⟩:=e.pre
 rw [q] at z
 rcases UJ.mp z with z | z
 ·exact n z
 ·rw [hl a z] at h;cases h
theorem Ext.trans(e:Ext μ H μ' H')(f:Ext μ' H' μ'' H''):Ext μ H μ'' H'':=by
 obtain⟨l,q,hl⟩:=e.pre
 obtain⟨l',q',hl'⟩:=f.pre
 refine⟨f.fb.trans e.fb,⟨l++l',by rw [q',q,Vw],λa ha=>?_⟩,λa o n h=>?_,f.dom⟩
 ·rcases UJ.mp ha with ha | ha
  ·exact hl a ha
  ·have h1:=hl' a ha
   cases q2:H a with
   | none=>rfl
   | some o=>
    by_cases hm:a ∈ μ.cs
    ·exact absurd h1 (e.dom a (by rw [q];exact US _ hm))
    ·rw [e.keep a o hm q2] at h1;cases h1
 ·have:=e.keeps h n
  exact f.keep a o this.2 this.1
def Ext.refl(h:∀ a ∈ μ.cs,H a≠U):Ext μ H μ H:=⟨rfl,⟨[],by simp,λ_ z=>by simp at z⟩,λ_ _ _ h=>h,h⟩
mutual
theorem Rep.imp(hk:∀ {a:Addr} {o:HO},H a=Z o->μ.no a->H' a=Z o/\μ'.no a)(hr:∀ {r:Nat} {a:Addr},μ.cs[r]?=Z a->μ'.cs[r]?=Z a):∀ {v:V} {d:D},Rep K μ H v d->Rep K μ' H' v d
 | _,_,.non=>.non
 | _,_,.bl b=>.bl b
 | _,_,.int i=>.int i
 | _,_,.str x=>.str x
 | _,_,.tup h n r=>.tup (hk h n).1 (hk h n).2 (Reps.imp hk hr r)
 | _,_,.ktup h r=>.ktup h (Reps.imp hk hr r)
 | _,_,.lst h n r=>.lst (hk h n).1 (hk h n).2 (Reps.imp hk hr r)
 | _,_,.rol (.inl h) n r=>.rol (.inl (hk h n).1) (hk h n).2 (Reps.imp hk hr r)
 | _,_,.rol (.inr ⟨o,h⟩) n r=>.rol (.inr ⟨o,(hk h n).1⟩) (hk h n).2 (Reps.imp hk hr r)
 | _,_,.krol h r=>.krol h (Reps.imp hk hr r)
 | _,_,.dct h n r=>.dct (hk h n).1 (hk h n).2 (Reps.imp hk hr r)
 | _,_,.ref h=>.ref (hr h)
theorem Reps.imp(hk:∀ {a:Addr} {o:HO},H a=Z o->μ.no a->H' a=Z o/\μ'.no a)(hr:∀ {r:Nat} {a:Addr},μ.cs[r]?=Z a->μ'.cs[r]?=Z a):∀ {vs:List V} {ds:List D},Reps K μ H vs ds->Reps K μ' H' vs ds
 | _,_,.nil=>.nil
 | _,_,.cons h t=>.cons (Rep.imp hk hr h) (Reps.imp hk hr t)
end
def yI{l m:List Addr}{k:List Addr}(q:k=l++m){r:Nat}{a:Addr}(h:l[r]?=Z a):k[r]?=Z a:=by
 rw [q,UM (Uj.mp h).1];exact h
def Ext.ix(e:Ext μ H μ' H'){r:Nat}{a:Addr}(h:μ.cs[r]?=Z a):μ'.cs[r]?=Z a:=by
 obtain⟨l,q,_⟩:=e.pre
 exact yI q h
def Rep.mono(e:Ext μ H μ' H'){v:V}{d:D}(r:Rep K μ H v d):Rep K μ' H' v d:=r.imp e.stays e.ix
def Reps.mono(e:Ext μ H μ' H'){vs:List V}{ds:List D}(r:Reps K μ H vs ds):Reps K μ' H' vs ds:=r.imp e.stays e.ix
theorem Reps.length:∀ {vs:List V} {ds:List D},Reps K μ H vs ds->vs.length=ds.length
 | _,_,.nil=>rfl
 | _,_,.cons _ t=>by simp [Reps.length t]
theorem Reps.get:∀ {vs:List V} {ds:List D} {i:Nat} {d:D},Reps K μ H vs ds->ds[i]?=Z d->∃ v,vs[i]?=Z v/\Rep K μ H v d
 | _,_,_,_,.nil,e=>by simp at e
 | _,_,0,_,.cons h _,e=>by simp at e;subst e;exact⟨_,rfl,h⟩
 | _,_,i+1,d,.cons _ t,e=>by
  obtain⟨u,h1,h2⟩:=Reps.get (i:=i) (d:=d) t (by simpa using e)
  exact⟨u,by simpa using h1,h2⟩
theorem Reps.append:∀ {vs ws:List V} {ds es:List D},Reps K μ H vs ds->Reps K μ H ws es->Reps K μ H (vs++ws) (ds++es)
 | _,_,_,_,.nil,s=>s
 | _,_,_,_,.cons r t,s=>.cons r (Reps.append t s)
theorem Reps.take:∀ {vs:List V} {ds:List D} (n:Nat),Reps K μ H vs ds->Reps K μ H (vs.take n) (ds.take n)
 | _,_,0,_=>.nil
 | _,_,_+1,.nil=>.nil
 | _,_,n+1,.cons r t=>.cons r (Reps.take n t)
theorem Reps.drop:∀ {vs:List V} {ds:List D} (n:Nat),Reps K μ H vs ds->Reps K μ H (vs.drop n) (ds.drop n)
 | _,_,0,r=>r
 | _,_,_+1,.nil=>.nil
 | _,_,n+1,.cons _ t=>Reps.drop n t
theorem Reps.set{x:V}{d:D}(r:Rep K μ H x d):∀ {vs:List V} {ds:List D} (i:Nat),Reps K μ H vs ds->Reps K μ H (vs.set i x) (ds.set i d)
 | _,_,_,.nil=>.nil
 | _,_,0,.cons _ t=>.cons r t
 | _,_,i+1,.cons q t=>.cons q (Reps.set r i t)
theorem Reps.flat{xs:List V}:∀ (k:Nat) {ds:List D},Reps K μ H xs ds->Reps K μ H (List.replicate k xs).flatten (List.replicate k ds).flatten
 | 0,_,_=>.nil
 | k+1,_,r=>by rw [UU,UU,Vj,Vj];exact r.append (Reps.flat k r)
def CellOk(K:W.Frag)(μ:Fp)(H:Hp)(a:Addr):ui->Prop
 | .lst ds=>∃ vs,H a=Z (.lst vs)/\Reps K μ H vs ds
 | .dct ks ds=>∃ kvs,H a=Z (.dK kvs)/\ks=kvs.map (·.1)/\Reps K μ H (kvs.map (·.2)) ds
structure SOk(K:W.Frag)(μ:Fp)(S:ab)(H:Hp):Prop where
 nd:μ.cs.Nodup
 len:μ.cs.length=S.length
 cell:∀ (r:Nat) (a:Addr) (c:ui),μ.cs[r]?=Z a->S[r]?=Z c->CellOk K μ H a c
 fdom:∀ a ∈ μ.fb,H a≠U
 disj:∀ a ∈ μ.fb,a ∉ μ.cs
def CellOk.ne_none{a:Addr}{c:ui}(h:CellOk K μ H a c):H a≠U:=by
 cases c with
 | lst ds=>obtain⟨vs,h,_⟩:=h;rw [h];simp
 | dct ks ds=>obtain⟨vs,h,_⟩:=h;rw [h];simp
theorem CellOk.mono(e:Ext μ H μ' H'){a:Addr}{c:ui}(he:H' a=H a)(h:CellOk K μ H a c):CellOk K μ' H' a c:=by
 cases c with
 | lst ds=>obtain⟨vs,h,r⟩:=h;exact⟨vs,he.trans h,r.mono e⟩
 | dct ks ds=>obtain⟨vs,h,q,r⟩:=h;exact⟨vs,he.trans h,q,r.mono e⟩
def SOk.dom{S:ab}(s:SOk K μ S H):∀ a ∈ μ.cs,H a≠U:=λa ha=>by
 obtain⟨r,hr⟩:=Wk.mp ha
 have hl:=(Uj.mp hr).1
 rw [s.len] at hl
 exact(s.cell r a S[r] hr (by simp [hl])).ne_none
def SOk.ext{S:ab}(s:SOk K μ S H):Ext μ H μ H:=.refl s.dom
def SOk.notMem{S:ab}(s:SOk K μ S H){p:Addr}(h:H p=U):μ.no p:=⟨λz=>s.dom p z h,λz=>s.fdom p z h⟩
def SOk.laid{S:ab}(s:SOk K μ S H){p:Addr}{o:HO}(h:H p=U):Ext μ H μ (upd H p o)/\SOk K μ S (upd H p o):=by
 have e:Ext μ H μ (upd H p o):=⟨rfl,⟨[],by simp,λ_ z=>by simp at z⟩,λa o' _ q=>by rw [bh (bW q h)];exact q,λa ha=>by
  by_cases z:a=p
  ·subst z;rw [bo];simp
  ·rw [bh z];exact s.dom a ha⟩
 refine⟨e,s.nd,s.len,λr a c h1 h2=>(s.cell r a c h1 h2).mono e ?_,λa ha=>?_,s.disj⟩
 case refine_2=>
  by_cases z:a=p
  ·subst z;rw [bo];simp
  ·rw [bh z];exact s.fdom a ha
 have:=(s.cell r a c h1 h2).ne_none
 refine bh λz=>?_
 rw [z] at this
 exact this h
def SOk.alloc{S:ab}(s:SOk K μ S H){p:Addr}{vs:List V}{ds:List D}(h:H p=U)(r:Reps K μ H vs ds):Ext μ H ⟨μ.cs++[p],μ.fb⟩ (upd H p (.lst vs))/\SOk K ⟨μ.cs++[p],μ.fb⟩ (S++[.lst ds]) (upd H p (.lst vs)):=by
 have hp:=s.notMem h
 have e:Ext μ H ⟨μ.cs++[p],μ.fb⟩ (upd H p (.lst vs)):=⟨rfl,⟨[p],rfl,λa z=>by rw [UN.mp z];exact h⟩,λa o' _ q=>by rw [bh (bW q h)];exact q,λa ha=>by
  by_cases z:a=p
  ·subst z;rw [bo];simp
  ·rw [bh z]
   rcases UJ.mp ha with q | q
   ·exact s.dom a q
   ·exact absurd (UN.mp q) z⟩
 refine⟨e,?_,by simp [s.len],λi a c h1 h2=>?_,λa ha=>?_,λa ha z=>?_⟩
 case refine_3=>
  by_cases z:a=p
  ·subst z;rw [bo];simp
  ·rw [bh z];exact s.fdom a ha
 case refine_4=>
  rcases UJ.mp z with q | q
  ·exact s.disj a ha q
  ·rw [UN.mp q] at ha;exact hp.2 ha
 ·show (μ.cs++[p]).Nodup
  rw [Vv]
  exact⟨s.nd,by simp,λa ha b hb=>by rw [UN.mp hb];rintro rfl;exact hp.1 ha⟩
 ·have h1:(μ.cs++[p])[i]?=Z a:=h1
  by_cases hi:i < μ.cs.length
  ·rw [UM hi] at h1
   rw [UM (by rw [<- s.len];exact hi)] at h2
   have q:=s.cell i a c h1 h2
   refine q.mono e (bh λz=>?_)
   exact hp.1 (z ▸ UH h1)
  ·have hl:i = μ.cs.length:=by
    have:=(Uj.mp h1).1
    simp at this;omega
   subst hl
   rw [Vm (Uw _)] at h1
   rw [s.len,Vm (Uw _)] at h2
   simp at h1 h2
   subst h1 h2
   exact⟨vs,bo,r.mono e⟩
def SOk.write{S:ab}(s:SOk K μ S H){i:Nat}{a:Addr}{vs vs':List V}{ds:List D}(hi:μ.cs[i]?=Z a)(h:H a=Z (.lst vs))(r:Reps K μ H vs' ds):Ext μ H μ (upd H a (.lst vs'))/\SOk K μ (S.set i (.lst ds)) (upd H a (.lst vs')):=by
 have ha:=UH hi
 have e:Ext μ H μ (upd H a (.lst vs')):=⟨rfl,⟨[],by simp,λ_ z=>by simp at z⟩,λb o' n q=>by rw [bh (by rintro rfl;exact n ha)];exact q,λb hb=>by
  by_cases z:b=a
  ·subst z;rw [bo];simp
  ·rw [bh z];exact s.dom b hb⟩
 refine⟨e,s.nd,by simp [s.len],λj b c h1 h2=>?_,λb hb=>?_,s.disj⟩
 case refine_2=>
  by_cases z:b=a
  ·subst z;rw [bo];simp
  ·rw [bh z];exact s.fdom b hb
 by_cases hj:j=i
 ·subst hj
  rw [hi] at h1;cases h1
  have hl:j<S.length:=by rw [<- s.len];exact(Uj.mp hi).1
  rw [UP hl] at h2
  cases h2
  exact⟨vs',bo,r.mono e⟩
 ·rw [UT (Ne.symm hj)] at h2
  refine(s.cell j b c h1 h2).mono e (bh λz=>hj ?_)
  subst z
  exact Na s.nd h1 hi
inductive EOk(K:W.Frag)(μ:Fp)(H:Hp):L2.St->aW->Prop
 | nil:EOk K μ H [] []
 | no {x:Option V} {σ:L2.St} {env:aW} (t:EOk K μ H σ env):EOk K μ H (x::σ) (U::env)
 | yes {v:V} {d:D} {σ:L2.St} {env:aW} (h:Rep K μ H v d) (t:EOk K μ H σ env):EOk K μ H (Z v::σ) (Z d::env)
theorem EOk.mono(e:Ext μ H μ' H'):∀ {σ:L2.St} {env:aW},EOk K μ H σ env->EOk K μ' H' σ env
 | _,_,.nil=>.nil
 | _,_,.no t=>.no (EOk.mono e t)
 | _,_,.yes h t=>.yes (h.mono e) (EOk.mono e t)
theorem EOk.get:∀ {σ:L2.St} {env:aW} {i:Nat} {d:D},EOk K μ H σ env->env[i]?=Z (Z d)->∃ v,σ[i]?=Z (Z v)/\Rep K μ H v d
 | _,_,_,_,.nil,h=>by simp at h
 | _,_,0,_,.no _,h=>by simp at h
 | _,_,0,_,.yes h _,q=>by simp at q;subst q;exact⟨_,rfl,h⟩
 | _,_,i+1,d,.no t,h=>by
  obtain⟨v,h1,h2⟩:=EOk.get (i:=i) (d:=d) t (by simpa using h)
  exact⟨v,by simpa using h1,h2⟩
 | _,_,i+1,d,.yes _ t,h=>by
  obtain⟨v,h1,h2⟩:=EOk.get (i:=i) (d:=d) t (by simpa using h)
  exact⟨v,by simpa using h1,h2⟩
theorem EOk.set{v:V}{d:D}(r:Rep K μ H v d):∀ {σ:L2.St} {env:aW} (i:Nat),EOk K μ H σ env->EOk K μ H (σ.set i (Option.some v)) (env.set i (Option.some d))
 | _,_,_,.nil=>.nil
 | _,_,0,.no t=>.yes r t
 | _,_,0,.yes _ t=>.yes r t
 | _,_,i+1,.no t=>.no (EOk.set r i t)
 | _,_,i+1,.yes h t=>.yes h (EOk.set r i t)
theorem EOk.start{N:Nat}:∀ {vs:List V} {ds:List D},Reps K μ H vs ds->EOk K μ H (vs.map Option.some++List.replicate N Option.none) (ds.map Option.some++List.replicate N Option.none)
 | _,_,.nil=>by
  induction N with
  | zero=>exact .nil
  | succ n ih=>exact .no ih
 | _,_,.cons h t=>.yes h (EOk.start t)
theorem EOk.block{σ:L2.St}{env:aW}(h:EOk K μ H σ env):∀ (cap:List (Option Nat)),EOk K μ H (σB cap σ) (cap.map λo=>o.bind λi=>(env[i]?).join)
 | []=>.nil
 | Option.none::r=>.no (EOk.block h r)
 | Option.some i::r=>by
  show EOk K μ H ((σ[i]?).join::σB r σ) ((env[i]?).join::_)
  cases q:(env[i]?).join with
  | none=>exact .no (EOk.block h r)
  | some d=>
   have q':env[i]?=Option.some (Option.some d):=by
    cases z:env[i]? with
    | none=>rw [z] at q;cases q
    | some y=>rw [z] at q;exact congrArg Option.some q
   obtain⟨v,h1,h2⟩:=h.get q'
   rw [h1]
   exact .yes h2 (EOk.block h r)
def DL{p a:Addr}{cs fb:List Addr}(n:(⟨cs,p::fb⟩:Fp).no a):(⟨cs,fb⟩:Fp).no a:=⟨n.1,λz=>n.2 (Ur _ z)⟩
def Rep.less{p:Addr}{cs fb:List Addr}{v:V}{d:D}(r:Rep K ⟨cs,p::fb⟩ H v d):Rep K ⟨cs,fb⟩ H v d:=r.imp (λh n=>⟨h,DL n⟩) λh=>h
def Reps.less{p:Addr}{cs fb:List Addr}{v:List V}{d:List D}(r:Reps K ⟨cs,p::fb⟩ H v d):Reps K ⟨cs,fb⟩ H v d:=r.imp (λh n=>⟨h,DL n⟩) λh=>h
def DK{p:Addr}{o:HO}{cs fb:List Addr}(hp:H p=U){a:Addr}{o':HO}(h:H a=Z o')(n:(⟨cs,fb⟩:Fp).no a):upd H p o a=Z o'/\(⟨cs,p::fb⟩:Fp).no a:=⟨(bh (bW h hp)).trans h,n.1,λz=>(UO.mp z).elim (bW h hp) n.2⟩
def Rep.more{p:Addr}{o:HO}{cs fb:List Addr}(hp:H p=U){v:V}{d:D}(r:Rep K ⟨cs,fb⟩ H v d):Rep K ⟨cs,p::fb⟩ (upd H p o) v d:=r.imp (DK hp) λh=>h
def Reps.more{p:Addr}{o:HO}{cs fb:List Addr}(hp:H p=U){v:List V}{d:List D}(r:Reps K ⟨cs,fb⟩ H v d):Reps K ⟨cs,p::fb⟩ (upd H p o) v d:=r.imp (DK hp) λh=>h
def Fp.no.ne{μ:Fp}{a p:Addr}(n:μ.no a)(hp:p ∈ μ.fb):a≠p:=λz=>n.2 (by rw [z];exact hp)
def Rep.chg{p:Addr}{o:HO}(hp:p ∈ μ.fb){v:V}{d:D}(r:Rep K μ H v d):Rep K μ (upd H p o) v d:=r.imp (λh n=>⟨(bh (n.ne hp)).trans h,n⟩) λh=>h
def Reps.chg{p:Addr}{o:HO}(hp:p ∈ μ.fb){v:List V}{d:List D}(r:Reps K μ H v d):Reps K μ (upd H p o) v d:=r.imp (λh n=>⟨(bh (n.ne hp)).trans h,n⟩) λh=>h
theorem EOk.more{p:Addr}{o:HO}{cs fb:List Addr}(hp:H p=U):∀ {σ:L2.St} {env:aW},EOk K ⟨cs,fb⟩ H σ env->EOk K ⟨cs,p::fb⟩ (upd H p o) σ env
 | _,_,.nil=>.nil
 | _,_,.no t=>.no (EOk.more hp t)
 | _,_,.yes h t=>.yes (h.more hp) (EOk.more hp t)
theorem EOk.chg{p:Addr}{o:HO}(hp:p ∈ μ.fb):∀ {σ:L2.St} {env:aW},EOk K μ H σ env->EOk K μ (upd H p o) σ env
 | _,_,.nil=>.nil
 | _,_,.no t=>.no (EOk.chg hp t)
 | _,_,.yes h t=>.yes (h.chg hp) (EOk.chg hp t)
theorem CellOk.upd{p a:Addr}{o:HO}{c:ui}(μ':Fp)(hpa:a≠p)(h:CellOk K μ H a c)(f:∀ vs ds,Reps K μ H vs ds->Reps K μ' (upd H p o) vs ds):CellOk K μ' (upd H p o) a c:=by
 cases c with
 | lst ds=>obtain⟨vs,h,r⟩:=h;exact⟨vs,(bh hpa).trans h,f _ _ r⟩
 | dct ks ds=>obtain⟨vs,h,q,r⟩:=h;exact⟨vs,(bh hpa).trans h,q,f _ _ r⟩
theorem SOk.less{S:ab}{p:Addr}{cs fb:List Addr}(s:SOk K ⟨cs,p::fb⟩ S H):SOk K ⟨cs,fb⟩ S H:=
 ⟨s.nd,s.len,λr a c h1 h2=>by
  have:=s.cell r a c h1 h2
  cases c with
  | lst ds=>obtain⟨vs,h,r⟩:=this;exact⟨vs,h,r.less⟩
  | dct ks ds=>obtain⟨vs,h,q,r⟩:=this;exact⟨vs,h,q,r.less⟩,λa ha=>s.fdom a (Ur _ ha),λa ha=>s.disj a (Ur _ ha)⟩
theorem SOk.more{S:ab}{p:Addr}{o:HO}{cs fb:List Addr}(s:SOk K ⟨cs,fb⟩ S H)(hp:H p=U):SOk K ⟨cs,p::fb⟩ S (upd H p o):=by
 have hn:=s.notMem hp
 refine⟨s.nd,s.len,λr a c h1 h2=>(s.cell r a c h1 h2).upd _ (λz=>?_) λvs ds r=>r.more hp,λa ha=>?_,λa ha z=>?_⟩
 ·exact hn.1 (z ▸ UH h1)
 ·by_cases z:a=p
  ·subst z;rw [bo];simp
  ·rw [bh z];exact s.fdom a ((UO.mp ha).resolve_left z)
 ·rcases UO.mp ha with rfl | ha
  ·exact hn.1 z
  ·exact s.disj a ha z
theorem SOk.chg{S:ab}{p:Addr}{o:HO}(s:SOk K μ S H)(hp:p ∈ μ.fb):SOk K μ S (upd H p o):=by
 refine⟨s.nd,s.len,λr a c h1 h2=>(s.cell r a c h1 h2).upd _ (λz=>?_) λvs ds r=>r.chg hp,λa ha=>?_,s.disj⟩
 ·exact s.disj p hp (z ▸ UH h1)
 ·by_cases z:a=p
  ·subst z;rw [bo];simp
  ·rw [bh z];exact s.fdom a ha
end
abbrev ME:=aW->ab->Option (D×ab)
abbrev MT:=aW->ab->Option (Bool×ab)
abbrev MA:=aW->ab->Option (List D×ab)
inductive oi where
 | nx (env:aW) (S:ab)
 | rt (d:D) (S:ab)
 | bk (env:aW) (S:ab)
 | ct (env:aW) (S:ab)
abbrev MS:=aW->ab->Option oi
def Post(K:W.Frag)(μ:Fp)(H:Hp)(S':ab)(d:D)(Q:VK):Prop:=∀ v H' μ',Ext μ H μ' H'->SOk K μ' S' H'->Rep K μ' H' v d->Q v H'
def PostT(K:W.Frag)(μ:Fp)(H:Hp)(S':ab)(b:Bool)(Q:Bool->Hp->Prop):Prop:=∀ H' μ',Ext μ H μ' H'->SOk K μ' S' H'->Q b H'
def PostA(K:W.Frag)(μ:Fp)(H:Hp)(S':ab)(ds:List D)(Q:List V->Hp->Prop):Prop:=∀ vs H' μ',Ext μ H μ' H'->SOk K μ' S' H'->Reps K μ' H' vs ds->Q vs H'
def PostN(K:W.Frag)(μ:Fp)(H:Hp)(S':ab)(env':aW)(Q:L2.St->Hp->Prop):Prop:=∀ σ' H' μ',Ext μ H μ' H'->SOk K μ' S' H'->EOk K μ' H' σ' env'->Q σ' H'
def PostS(K:W.Frag)(μ:Fp)(H:Hp)(o:oi)(E:uQ):Prop:=match o with
 | .nx env' S'=>PostN K μ H S' env' E.nx
 | .rt d S'=>Post K μ H S' d E.rt
 | .bk env' S'=>PostN K μ H S' env' E.bk
 | .ct env' S'=>PostN K μ H S' env' E.ct
inductive tM(K:W.Frag)(m:ME)(σ:L2.St)(H:Hp)(Q:VK):Prop
 | mk (μ:Fp) (S:ab) (env:aW) (d:D) (S':ab) (hS:SOk K μ S H) (hE:EOk K μ H σ env) (h:m env S=Z (d,S')) (post:Post K μ H S' d Q)
inductive yN(K:W.Frag)(m:MT)(σ:L2.St)(H:Hp)(Q:Bool->Hp->Prop):Prop
 | mk (μ:Fp) (S:ab) (env:aW) (b:Bool) (S':ab) (hS:SOk K μ S H) (hE:EOk K μ H σ env) (h:m env S=Z (b,S')) (post:PostT K μ H S' b Q)
inductive tMA(K:W.Frag)(m:MA)(σ:L2.St)(H:Hp)(Q:List V->Hp->Prop):Prop
 | mk (μ:Fp) (S:ab) (env:aW) (ds:List D) (S':ab) (hS:SOk K μ S H) (hE:EOk K μ H σ env) (h:m env S=Z (ds,S')) (post:PostA K μ H S' ds Q)
inductive tMS(K:W.Frag)(m:MS)(E:uQ)(σ:L2.St)(H:Hp):Prop
 | mk (μ:Fp) (S:ab) (env:aW) (o:oi) (hS:SOk K μ S H) (hE:EOk K μ H σ env) (h:m env S=Z o) (post:PostS K μ H o E)
inductive mY(K:W.Frag)(f:ab->D->D->Option D)(x y:V)(H:Hp)(Q:VK):Prop
 | mk (μ:Fp) (S:ab) (dx dy dz:D) (hS:SOk K μ S H) (h1:Rep K μ H x dx) (h2:Rep K μ H y dy) (h3:f S dx dy=Z dz) (post:Post K μ H S dz Q)
inductive rM1(K:W.Frag)(f:ab->D->Option D)(x:V)(H:Hp)(Q:VK):Prop
 | mk (μ:Fp) (S:ab) (dx dz:D) (hS:SOk K μ S H) (h1:Rep K μ H x dx) (h3:f S dx=Z dz) (post:Post K μ H S dz Q)
inductive Hd(K:W.Frag)(f:List D->ab->Option (D×ab))(vs:List V)(H:Hp)(Q:VK):Prop
 | mk (μ:Fp) (S:ab) (ds:List D) (d:D) (S':ab) (hS:SOk K μ S H) (h1:Reps K μ H vs ds) (h3:f ds S=Z (d,S')) (post:Post K μ H S' d Q)
def DE(X:Cx)(e:Expr)(m:ME):Prop:=PE X e (tM X.K m)
def DT(X:Cx)(e:Expr)(m:MT):Prop:=PT X e (yN X.K m)
def DW(X:Cx)(e:Expr)(m:MT):Prop:=PW X e (yN X.K m)
def DA(X:Cx)(es:List Expr)(m:MA):Prop:=PA X es (tMA X.K m)
def DS(X:Cx)(st:Stmt)(m:MS):Prop:=PS X st (tMS X.K m)
def uR(X:Cx)(st:List Stmt)(m:MS):Prop:=PSs X st (tMS X.K m)
section
variable{X:Cx}{K:W.Frag}{μ μ':Fp}{H H':Hp}{S S':ab}
def Post.ext{d:D}{Q:VK}(e:Ext μ H μ' H')(p:Post K μ H S' d Q):Post K μ' H' S' d Q:=λv H2 μ2 e2 s r=>p v H2 μ2 (e.trans e2) s r
def Post.here{d:D}{Q:VK}{v:V}(p:Post K μ H S d Q)(s:SOk K μ S H)(r:Rep K μ H v d):Q v H:=p v H μ s.ext s r
def PE.imp{e:Expr}{t t':TE}(h:PE X e t)(i:∀ σ H Q,t' σ H Q->t σ H Q):PE X e t':=λpins s σ H Q I q=>h pins s σ H Q I (i σ H Q q)
def PT.imp{e:Expr}{t t':TT}(h:PT X e t)(i:∀ σ H Q,t' σ H Q->t σ H Q):PT X e t':=λpins s σ H Q I q=>h pins s σ H Q I (i σ H Q q)
def PW.imp{e:Expr}{t t':TT}(h:PW X e t)(i:∀ σ H Q,t' σ H Q->t σ H Q):PW X e t':=λw pins s σ H Q I q=>h w pins s σ H Q I (i σ H Q q)
def PA.imp{e:List Expr}{t t':TA}(h:PA X e t)(i:∀ σ H Q,t' σ H Q->t σ H Q):PA X e t':=λpos pins s σ H Q I q=>h pos pins s σ H Q I (i σ H Q q)
def PS.imp{e:Stmt}{t t':TS}(h:PS X e t)(i:∀ E σ H,t' E σ H->t E σ H):PS X e t':=λpins s σ H E I q=>h pins s σ H E I (i E σ H q)
def PSs.imp{e:List Stmt}{t t':TS}(h:PSs X e t)(i:∀ E σ H,t' E σ H->t E σ H):PSs X e t':=λpins s σ H E I q=>h pins s σ H E I (i E σ H q)
def OpR.imp{f:Value->Value->Sem Value}{r r':R2}(h:OpR X f r)(i:∀ x y H Q,r' x y H Q->r x y H Q):OpR X f r':=λpins s σ H x y v u Q I rx ry q=>h pins s σ H x y v u Q I rx ry (i x y H Q q)
def UnR.imp{f:Value->Sem Value}{r r':V->Hp->VK->Prop}(h:UnR X f r)(i:∀ x H Q,r' x H Q->r x H Q):UnR X f r':=λpins s σ H x v Q I rx q=>h pins s σ H x v Q I rx (i x H Q q)
def CallR.imp{f:Value}{r r':List V->Hp->VK->Prop}(h:CallR X f r)(i:∀ x H Q,r' x H Q->r x H Q):CallR X f r':=λpins s σ H x v Q I rx q=>h pins s σ H x v Q I rx (i x H Q q)
def IxR.imp{r r':R2}(h:IxR X r)(i:∀ x y H Q,r' x y H Q->r x y H Q):IxR X r':=λva sl pins s σ H x y v u Q I rx ry q=>h va sl pins s σ H x y v u Q I rx ry (i x y H Q q)
noncomputable def ac(i:Nat):ME:=λenv S=>(env[i]?).join.bind λd=>Z (d,S)
noncomputable def mC(d:D):ME:=λ_ S=>Z (d,S)
def FS{α:Type}{o:Option (Option α)}{a:α}(h:o.join=Z a):o=Z (Z a):=by
 cases o with
 | none=>cases h
 | some o=>exact congrArg Z h
def Ts{i:Nat}{x:Str}{pos:Pos}(hN:X.N[i]?=Z x)(hv:Ua X.env.scope x)(hd:(x == ("__debug__":Str))=false:=by decide)(hcd:(x == ("__classdict__":Str))=false:=by decide):DE X (.Name x pos) (ac i):=
 PE.imp (Iq hN hv hd hcd) λσ H Q ⟨μ,S,env,d,S',hS,hE,hm,post⟩=>by
  obtain⟨d',h1,h2⟩:=Ui.mp hm
  cases h2
  obtain⟨v,e,r⟩:=hE.get (FS h1)
  exact⟨v,e,post.here hS r⟩
def lR{e:Expr}{v:V}{d:D}(h:PE X e (tC v))(r:∀ μ H,Rep X.K μ H v d):DE X e (mC d):=
 PE.imp h λσ H Q ⟨μ,S,env,d',S',hS,hE,hm,post⟩=>by cases hm;exact post.here hS (r μ H)
def TC{i:Int}{j pos}:DE X (.Constant (.int i) j pos) (mC (.int i)):=lR QR λ_ _=>.int i
def de_bl{b j pos}:DE X (.Constant (.bool b) j pos) (mC (.bl b)):=lR pe_bl λ_ _=>.bl b
def Tw{j pos}:DE X (.Constant .none j pos) (mC .non):=lR QQ λ_ _=>.non
def Tu{x j pos}:DE X (.Constant (.str x) j pos) (mC (.str x)):=lR QN λ_ _=>.str x
structure GC(K:W.Frag)(mg:Str->Option Value)(x:Str)(d:D):Prop where
 ex:∃ u v,mg x=Z u/\RelV v u/\∀ μ H,Rep K μ H v d
def Ou{x:Str}{d:D}{pos:Pos}(g:GC X.K X.mg x d)(hg:Gl X x:=by rfl)(hd:(x == ("__debug__":Str))=false:=by decide):DE X (.Name x pos) (mC d):=by
 obtain⟨u,v,h1,h2,h3⟩:=g.ex
 exact lR (xr hg h1 h2 hd) h3
noncomputable def ax(f:ab->D->D->Option D)(a b:ME):ME:=λenv S=>(a env S).bind λp=>(b env p.2).bind λq=>(f q.2 p.1 q.1).bind λz=>Z (z,q.2)
def Jc{f:ab->D->D->Option D}{a b:ME}{env:aW}{S S':ab}{d:D}(h:ax f a b env S=Z (d,S')):∃ x S1 y,a env S=Z (x,S1)/\b env S1=Z (y,S')/\f S' x y=Z d:=by
 obtain⟨⟨x,S1⟩,h1,h⟩:=Ui.mp h
 obtain⟨⟨y,S2⟩,h2,h⟩:=Ui.mp h
 obtain⟨z,h3,h⟩:=Ui.mp h
 cases h
 exact⟨x,S1,y,h1,h2,h3⟩
def wO{f:ab->D->D->Option D}{ma mb:ME}{σ:L2.St}{Q:VK}(h:tM K (ax f ma mb) σ H Q):tOp (mY K f) (tM K ma) (tM K mb) σ H Q:=by
 obtain⟨μ,S,env,d,S',hS,hE,hm,post⟩:=h
 obtain⟨x,S1,y,h1,h2,h3⟩:=Jc hm
 exact⟨μ,S,env,x,S1,hS,hE,h1,λv H1 μ1 e1 s1 r1=>⟨μ1,S1,env,y,S',s1,hE.mono e1,h2,λw H2 μ2 e2 s2 r2=>⟨μ2,S',x,y,d,s2,r1.mono e2,r2,h3,(post.ext e1).ext e2⟩⟩⟩
section
variable{a b c:Expr}{ma mb mc:ME}{pos:Pos}
def wz{op:Operator}{f:ab->D->D->Option D}(ho:OpR X (binaryOp op) (mY X.K f))(ha:DE X a ma)(hb:DE X b mb):DE X (.BinOp a op b pos) (ax f ma mb):=
 PE.imp (pe_op ho ha hb) λ_ _ _ h=>wO h
def TF{op:CmpOp}{f:ab->D->D->Option D}(ho:OpR X (compareOp op) (mY X.K f))(ha:DE X a ma)(hb:DE X b mb)(hm:behindInMarks op b=false):DE X (.Compare a [op] [b] pos) (ax f ma mb):=
 PE.imp (Mx ho ha hb hm) λ_ _ _ h=>wO h
noncomputable def au(m:ME):MT:=λenv S=>(m env S).bind λp=>match p.1 with | .bl k=>Z (k,p.2) | _=>U
def sB{m:ME}{env:aW}{S S':ab}{k:Bool}(h:au m env S=Z (k,S')):m env S=Z (.bl k,S'):=by
 obtain⟨⟨x,S1⟩,h1,h⟩:=Ui.mp h
 cases x <;> first | (cases h;exact h1) | cases h
def Rep.bl_inv{v:V}{k:Bool}(h:Rep K μ H v (.bl k)):v=.bl k:=by cases h;rfl
def Rep.int_inv{v:V}{k:Int}(h:Rep K μ H v (.int k)):v=.int k:=by cases h;rfl
def Rep.str_inv{v:V}{k:Str}(h:Rep K μ H v (.str k)):v=.str k:=by cases h;rfl
def Td{op:CmpOp}{f:ab->D->D->Option D}(ho:OpR X (compareOp op) (mY X.K f))(ha:DE X a ma)(hb:DE X b mb)(hm:behindInMarks op b=false):DT X (.Compare a [op] [b] pos) (au (ax f ma mb)):=
 PT.imp (Mj ho ha hb hm) λσ H Q ⟨μ,S,env,k,S',hS,hE,hm,post⟩=>by
  have h:=sB hm
  refine wO ⟨μ,S,env,_,S',hS,hE,h,λv H' μ' e s r=>?_⟩
  exact⟨k,r.bl_inv,post H' μ' e s⟩
noncomputable def cH(f g:ab->D->D->Option D)(a b c:ME):ME:=λenv S=>(a env S).bind λp=>(b env p.2).bind λq=>(f q.2 p.1 q.1).bind λz=>match z with
 | .bl true=>(c env q.2).bind λr=>(g r.2 q.1 r.1).bind λz=>Z (z,r.2)
 | .bl false=>Z (.bl false,q.2)
 | _=>U
def uW{f g:ab->D->D->Option D}{σ:L2.St}{Q:VK}(h:tM K (cH f g ma mb mc) σ H Q):Bw (mY K f) (mY K g) (tM K ma) (tM K mb) (tM K mc) σ H Q:=by
 obtain⟨μ,S,env,d,S',hS,hE,hm,post⟩:=h
 obtain⟨⟨x,S1⟩,h1,hm⟩:=Ui.mp hm
 obtain⟨⟨y,S2⟩,h2,hm⟩:=Ui.mp hm
 obtain⟨z,h3,hm⟩:=Ui.mp hm
 refine⟨μ,S,env,x,S1,hS,hE,h1,λv H1 μ1 e1 s1 r1=>⟨μ1,S1,env,y,S2,s1,hE.mono e1,h2,λw H2 μ2 e2 s2 r2=>⟨μ2,S2,x,y,z,s2,r1.mono e2,r2,h3,λu H3 μ3 e3 s3 r3=>?_⟩⟩⟩
 cases z with
 | bl k=>
  refine⟨k,r3.bl_inv,?_⟩
  cases k with
  | false=>cases hm;rw [if_neg Bool.false_ne_true];exact post _ H3 μ3 ((e1.trans e2).trans e3) s3 (.bl false)
  | true=>
   obtain⟨⟨t,S4⟩,h4,hm⟩:=Ui.mp hm
   obtain⟨z,h5,hm⟩:=Ui.mp hm
   cases hm
   rw [if_pos rfl]
   exact⟨μ3,S2,env,t,S4,s3,hE.mono ((e1.trans e2).trans e3),h4,λu' H4 μ4 e4 s4 r4=>⟨μ4,_,y,t,_,s4,(r2.mono e3).mono e4,r4,h5,post.ext (((e1.trans e2).trans e3).trans e4)⟩⟩
 | _=>cases hm
def KZ{op op':CmpOp}{f g:ab->D->D->Option D}(ho:OpR X (compareOp op) (mY X.K f))(ho':OpR X (compareOp op') (mY X.K g))(ha:DE X a ma)(hb:DE X b mb)(hc:DE X c mc)
  (hm:lastMarks [op,op'] [b,c]=false:=by with_unfolding_all rfl):DE X (.Compare a [op,op'] [b,c] pos) (cH f g ma mb mc):=
 PE.imp (Iy ho ho' ha hb hc hm) λ_ _ _ h=>uW h
def KA{op op':CmpOp}{f g:ab->D->D->Option D}(ho:OpR X (compareOp op) (mY X.K f))(ho':OpR X (compareOp op') (mY X.K g))(ha:DE X a ma)(hb:DE X b mb)(hc:DE X c mc)
  (hm:lastMarks [op,op'] [b,c]=false:=by with_unfolding_all rfl):DT X (.Compare a [op,op'] [b,c] pos) (au (cH f g ma mb mc)):=
 PT.imp (Ie ho ho' ha hb hc hm) λσ H Q ⟨μ,S,env,k,S',hS,hE,hm,post⟩=>by
  have h:=sB hm
  refine uW ⟨μ,S,env,_,S',hS,hE,h,λv H' μ' e s r=>?_⟩
  exact⟨k,r.bl_inv,post H' μ' e s⟩
noncomputable def rE(S:ab):D->Option Bool
 | .non=>Z false
 | .bl b=>Z b
 | .int i=>Z (i != 0)
 | .str y=>if y.length<=sizeLine then Z ((y.length:Int) != 0) else U
 | .tup xs=>Z (!xs.isEmpty)
 | .lst xs=>Z (!xs.isEmpty)
 | .rol xs=>Z (!xs.isEmpty)
 | .dct ks _=>Z (!ks.isEmpty)
 | .ref r=>match S[r]? with
  | some (.lst xs)=>Z (!xs.isEmpty)
  | some (.dct ks _)=>Z (!ks.isEmpty)
  | none=>U
theorem Reps.isEmpty{vs:List V}{ds:List D}(r:Reps K μ H vs ds):(!ds.isEmpty) = !vs.isEmpty:=by cases r <;> rfl
def qm{α β:Type}(f:α->β)(l:List α):(!(l.map f).isEmpty) = !l.isEmpty:=by cases l <;> rfl
def qU{x:V}{d:D}{k:Bool}(s:SOk K μ S H)(r:Rep K μ H x d)(h:rE S d=Z k):GZ K x H k:=by
 cases r with
 | non=>cases h;rfl
 | bl b=>cases h;rfl
 | int i=>cases h;rfl
 | str y=>
  simp only [rE] at h
  split at h
  ·rename_i hy;cases h;exact⟨hy,rfl⟩
  ·cases h
 | @tup a vs ds h' n r=>cases h;exact .inr (.inl ⟨vs,.inl (.inl h'),r.isEmpty⟩)
 | @ktup a vs ds h' r=>cases h;exact .inr (.inl ⟨vs,.inr h',r.isEmpty⟩)
 | @lst a vs ds h' n r=>cases h;exact .inl ⟨vs,.inl (.inl h'),r.isEmpty⟩
 | @rol a vs ds h' n r=>cases h;exact .inl ⟨vs,.inl h',r.isEmpty⟩
 | @krol a vs ds h' r=>cases h;exact .inl ⟨vs,.inr h',r.isEmpty⟩
 | @dct a kvs ds h' n r=>cases h;exact .inr (.inr ⟨kvs,h',qm _ _⟩)
 | @ref a i h'=>
  simp only [rE] at h
  cases q:S[i]? with
  | none=>rw [q] at h;cases h
  | some c=>
   rw [q] at h
   have ck:=s.cell i a c h' q
   cases c with
   | lst xs=>cases h;obtain⟨vs,e,r⟩:=ck;exact .inl ⟨vs,.inl (.inl e),r.isEmpty⟩
   | dct ks xs=>cases h;obtain⟨kvs,e,rfl,r⟩:=ck;exact .inr (.inr ⟨kvs,e,qm _ _⟩)
noncomputable def cG(m:ME):MT:=λenv S=>(m env S).bind λp=>(rE p.2 p.1).bind λk=>Z (k,p.2)
def AT(ha:DE X a ma)(he:∀ whole,isTrue a X.env whole=(do let v <- whole;standAt a.pos;holding [v] (truthy v)):=by intro _;rfl):DT X a (cG ma):=
 PT.imp (Ic ha he) λσ H Q ⟨μ,S,env,k,S',hS,hE,hm,post⟩=>by
  obtain⟨⟨x,S1⟩,h1,hm⟩:=Ui.mp hm
  obtain⟨k',h2,hm⟩:=Ui.mp hm
  cases hm
  exact⟨μ,S,env,x,S1,hS,hE,h1,λv H' μ' e s r=>⟨k,qU s r h2,post H' μ' e s⟩⟩
variable{ta tb tc:MT}{rest:List Expr}
noncomputable def cM(a b:MT):MT:=λenv S=>(a env S).bind λp=>if p.1=true then b env p.2 else Z (false,p.2)
noncomputable def cX(a b:MT):MT:=λenv S=>(a env S).bind λp=>if p.1=true then Z (true,p.2) else b env p.2
noncomputable def cy(a:MT):MT:=λenv S=>(a env S).bind λp=>Z (!p.1,p.2)
def LR{σ:L2.St}{Q:Bool->Hp->Prop}(h:yN K (cM ta tb) σ H Q):tAnd (yN K ta) (yN K tb) σ H Q:=by
 obtain⟨μ,S,env,k,S',hS,hE,hm,post⟩:=h
 obtain⟨⟨x,S1⟩,h1,hm⟩:=Ui.mp hm
 refine⟨μ,S,env,x,S1,hS,hE,h1,λH1 μ1 e1 s1=>?_⟩
 cases x with
 | true=>rw [if_pos rfl] at hm ⊢;exact⟨μ1,S1,env,k,S',s1,hE.mono e1,hm,λH2 μ2 e2 s2=>post H2 μ2 (e1.trans e2) s2⟩
 | false=>rw [if_neg Bool.false_ne_true] at hm ⊢;cases hm;exact post H1 μ1 e1 s1
def Qo{σ:L2.St}{Q:Bool->Hp->Prop}(h:yN K (cX ta tb) σ H Q):tOr (yN K ta) (yN K tb) σ H Q:=by
 obtain⟨μ,S,env,k,S',hS,hE,hm,post⟩:=h
 obtain⟨⟨x,S1⟩,h1,hm⟩:=Ui.mp hm
 refine⟨μ,S,env,x,S1,hS,hE,h1,λH1 μ1 e1 s1=>?_⟩
 cases x with
 | false=>rw [if_neg Bool.false_ne_true] at hm ⊢;exact⟨μ1,S1,env,k,S',s1,hE.mono e1,hm,λH2 μ2 e2 s2=>post H2 μ2 (e1.trans e2) s2⟩
 | true=>rw [if_pos rfl] at hm ⊢;cases hm;exact post H1 μ1 e1 s1
def ED(ha:DT X a ta):DW X (.BoolOp .And [a] pos) ta:=Mg ha
def Kw(ha:DT X a ta):DW X (.BoolOp .Or [a] pos) ta:=QD ha
def Kx(ha:DT X a ta)(hb:DW X (.BoolOp .And (b::rest) pos) tb):DW X (.BoolOp .And (a::b::rest) pos) (cM ta tb):=PW.imp (QE ha hb) λ_ _ _ h=>LR h
def PK(ha:DT X a ta)(hb:DW X (.BoolOp .Or (b::rest) pos) tb):DW X (.BoolOp .Or (a::b::rest) pos) (cX ta tb):=PW.imp (pw_or ha hb) λ_ _ _ h=>Qo h
def NY(h:DW X a ta):DT X a ta:=PW.pt h
def Tc(ha:DT X a ta):DT X (.UnaryOp .Not a pos) (cy ta):=PT.imp (QF ha) λσ H Q ⟨μ,S,env,k,S',hS,hE,hm,post⟩=>by
 obtain⟨⟨x,S1⟩,h1,hm⟩:=Ui.mp hm
 cases hm
 exact⟨μ,S,env,x,S1,hS,hE,h1,λH1 μ1 e1 s1=>post H1 μ1 e1 s1⟩
noncomputable def df(a b:ME):ME:=λenv S=>(a env S).bind λp=>match p.1 with | .bl true=>b env p.2 | .bl false=>Z (.bl false,p.2) | _=>U
noncomputable def uj(a b:ME):ME:=λenv S=>(a env S).bind λp=>match p.1 with | .bl false=>b env p.2 | .bl true=>Z (.bl true,p.2) | _=>U
def KS{op}(h:DE X a ma):DE X (.BoolOp op [a] pos) ma:=QP h
noncomputable def fX(a:ME):ME:=λenv S=>(a env S).bind λp=>match p.1 with | .bl k=>Z (.bl (!k),p.2) | _=>U
noncomputable def on(t:MT)(a b:ME):ME:=λenv S=>(t env S).bind λp=>if p.1=true then a env p.2 else b env p.2
def de_if(hc:DT X c tc)(ha:DE X a ma)(hb:DE X b mb):DE X (.IfExp c a b pos) (on tc ma mb):=PE.imp (Iw hc ha hb) λσ H Q ⟨μ,S,env,d,S',hS,hE,hm,post⟩=>by
 obtain⟨⟨x,S1⟩,h1,hm⟩:=Ui.mp hm
 refine⟨μ,S,env,x,S1,hS,hE,h1,λH1 μ1 e1 s1=>?_⟩
 cases x with
 | true=>rw [if_pos rfl] at hm ⊢;exact⟨μ1,S1,env,d,S',s1,hE.mono e1,hm,post.ext e1⟩
 | false=>rw [if_neg Bool.false_ne_true] at hm ⊢;exact⟨μ1,S1,env,d,S',s1,hE.mono e1,hm,post.ext e1⟩
variable{es:List Expr}{ms:MA}
noncomputable def ag:MA:=λ_ S=>Z ([],S)
noncomputable def aa(a:ME)(r:MA):MA:=λenv S=>(a env S).bind λp=>(r env p.2).bind λq=>Z (p.1::q.1,q.2)
def TH:DA X [] ag:=PA.imp BW λσ H Q ⟨μ,S,env,d,S',hS,hE,hm,post⟩=>by cases hm;exact post [] H μ hS.ext hS .nil
def OB(ha:DE X a ma)(hr:DA X es ms)(hs:starEach (a::es) X.env=(false,eval a X.env)::starEach es X.env:=by rfl):DA X (a::es) (aa ma ms):=PA.imp (qV ha hr hs) λσ H Q ⟨μ,S,env,ds,S',hS,hE,hm,post⟩=>by
 obtain⟨⟨x,S1⟩,h1,hm⟩:=Ui.mp hm
 obtain⟨⟨xs,S2⟩,h2,hm⟩:=Ui.mp hm
 cases hm
 exact⟨μ,S,env,x,S1,hS,hE,h1,λv H1 μ1 e1 s1 r1=>⟨μ1,S1,env,xs,S2,s1,hE.mono e1,h2,λvs H2 μ2 e2 s2 r2=>post (v::vs) H2 μ2 (e1.trans e2) s2 (.cons (r1.mono e2) r2)⟩⟩
noncomputable def aX(ms:MA):ME:=λenv S=>(ms env S).bind λp=>if p.1.length<=sizeLine then Z (.tup p.1,p.2) else U
noncomputable def iq(ms:MA):ME:=λenv S=>(ms env S).bind λp=>if p.1.length<=sizeLine then Z (.lst p.1,p.2) else U
noncomputable def eM(ms:MA):ME:=λenv S=>(ms env S).bind λp=>if p.1.length<=sizeLine then Z (.ref p.2.length,p.2++[.lst p.1]) else U
theorem Post.tup{vs:List V}{ds:List D}{Q:VK}{p:Addr}(post:Post K μ H S (.tup ds) Q)(s:SOk K μ S H)(hp:H p=U)(r:Reps K μ H vs ds):Q (.ref p) (upd H p (.tup vs)):=by
 obtain⟨e,s'⟩:=s.laid (o:=.tup vs) hp
 exact post _ _ _ e s' (.tup bo (s.notMem hp) (r.mono e))
theorem Post.lst{vs:List V}{ds:List D}{Q:VK}{p:Addr}(post:Post K μ H S (.lst ds) Q)(s:SOk K μ S H)(hp:H p=U)(r:Reps K μ H vs ds):Q (.ref p) (upd H p (.lst vs)):=by
 obtain⟨e,s'⟩:=s.laid (o:=.lst vs) hp
 exact post _ _ _ e s' (.lst bo (s.notMem hp) (r.mono e))
def Post.lstR{vs:List V}{ds:List D}{Q:VK}{p:Addr}(post:Post K μ H (S++[.lst ds]) (.ref S.length) Q)(s:SOk K μ S H)(hp:H p=U)(r:Reps K μ H vs ds):Q (.ref p) (upd H p (.lst vs)):=by
 obtain⟨e,s'⟩:=s.alloc hp r
 exact post _ _ _ e s' (.ref (by rw [<- s.len,Vm (Uw _)];simp))
def Tt{k}(h:DA X es ms):DE X (.Tuple es k pos) (aX ms):=PE.imp (QM h) λσ H Q ⟨μ,S,env,d,S',hS,hE,hm,post⟩=>by
 obtain⟨⟨xs,S1⟩,h1,hm⟩:=Ui.mp hm
 dsimp only at hm
 split at hm
 ·rename_i hl
  cases hm
  exact⟨μ,S,env,_,_,hS,hE,h1,λvs H1 μ1 e1 s1 r1=>⟨by rw [r1.length];exact hl,λp hp=>(post.ext e1).tup s1 hp r1⟩⟩
 ·cases hm
def Tx(h:DA X es ms):DE X (.List es pos) (iq ms):=PE.imp (Iu h) λσ H Q ⟨μ,S,env,d,S',hS,hE,hm,post⟩=>by
 obtain⟨⟨xs,S1⟩,h1,hm⟩:=Ui.mp hm
 dsimp only at hm
 split at hm
 ·rename_i hl
  cases hm
  exact⟨μ,S,env,_,_,hS,hE,h1,λvs H1 μ1 e1 s1 r1=>⟨by rw [r1.length];exact hl,λp hp=>(post.ext e1).lst s1 hp r1⟩⟩
 ·cases hm
def Ot(h:DA X es ms):DE X (.List es pos) (eM ms):=PE.imp (Iu h) λσ H Q ⟨μ,S,env,d,S',hS,hE,hm,post⟩=>by
 obtain⟨⟨xs,S1⟩,h1,hm⟩:=Ui.mp hm
 dsimp only at hm
 split at hm
 ·rename_i hl
  cases hm
  exact⟨μ,S,env,_,_,hS,hE,h1,λvs H1 μ1 e1 s1 r1=>⟨by rw [r1.length];exact hl,λp hp=>(post.ext e1).lstR s1 hp r1⟩⟩
 ·cases hm
def Ov:DE X (.Dict [] [] pos) (mC (.dct [] [])):=PE.imp Ix λσ H Q ⟨μ,S,env,d,S',hS,hE,hm,post⟩=>by
 cases hm
 intro p hp
 obtain⟨e,s'⟩:=hS.laid (o:=.dK []) hp
 exact post _ _ _ e s' (.dct (kvs:=[]) bo (hS.notMem hp) .nil)
end
end
mutual
noncomputable def js:D->D->Bool
 | .non,.non=>true
 | .bl a,.bl b=>a == b
 | .bl a,.int b=>(if a then 1 else 0) == b
 | .int a,.bl b=>a == (if b then 1 else 0)
 | .int a,.int b=>a == b
 | .str a,.str b=>a == b
 | .tup xs,.tup ys=>eqDs xs ys
 | .lst xs,.lst ys=>eqDs xs ys
 | _,_=>false
noncomputable def eqDs:List D->List D->Bool
 | [],[]=>true
 | x::xs,y::ys=>js x y&&eqDs xs ys
 | _,_=>false
end
noncomputable def ci:Nat->D->Bool
 | _,.non=>true
 | _,.bl _=>true
 | _,.int _=>true
 | _,.str _=>true
 | n+1,.tup xs=>xs.all (ci n)
 | n+1,.lst xs=>xs.all (ci n)
 | _,_=>false
theorem sa:∀ {n m:Nat} {d:D},n<=m->ci n d=true->ci m d=true
 | n,m,.non,_,_=>by simp [ci]
 | n,m,.bl _,_,_=>by simp [ci]
 | n,m,.int _,_,_=>by simp [ci]
 | n,m,.str _,_,_=>by simp [ci]
 | 0,m,.tup _,_,h=>by simp [ci] at h
 | 0,m,.lst _,_,h=>by simp [ci] at h
 | n+1,m+1,.tup xs,hl,h=>by
  simp only [ci,UF] at h ⊢
  exact λd hd=>sa (XQ hl) (h d hd)
 | n+1,m+1,.lst xs,hl,h=>by
  simp only [ci,UF] at h ⊢
  exact λd hd=>sa (XQ hl) (h d hd)
 | n+1,0,.tup _,hl,_=>absurd hl (by omega)
 | n+1,0,.lst _,hl,_=>absurd hl (by omega)
 | n,m,.rol _,_,h=>by cases n <;> simp [ci] at h
 | n,m,.dct _ _,_,h=>by cases n <;> simp [ci] at h
 | n,m,.ref _,_,h=>by cases n <;> simp [ci] at h
theorem yB:∀ (xs ys:List D),eqDs xs ys=((List.range (min xs.length ys.length)).all (λj=>match xs[j]?,ys[j]? with | some a,Z b=>js a b | _,_=>true)&&xs.length == ys.length)
 | [],[]=>rfl
 | [],y::ys=>by simp [eqDs]
 | x::xs,[]=>by simp [eqDs]
 | x::xs,y::ys=>by
  have ih:=yB xs ys
  rw [eqDs,ih]
  have hm:min (x::xs).length (y::ys).length=min xs.length ys.length+1:=by simp only [UE];omega
  rw [hm,XR,Vb,Yb]
  simp only [XJ,UE,Bool.and_assoc]
  congr 1
  congr 1
  rw [UK];simp
section
variable{X:Cx}{pins:List (Addr×Obj)}{σ:L2.St}{H:Hp}{s:Shared}{μ:Fp}{A:Around}
def Rep.sqT{K:W.Frag}{v:V}{ds:List D}(r:Rep K μ H v (.tup ds)):∃ a vs,v=.ref a/\oo K H a vs/\Reps K μ H vs ds:=by
 cases r with
 | tup h n r=>exact⟨_,_,rfl,.inl (.inl h),r⟩
 | ktup h r=>exact⟨_,_,rfl,.inr h,r⟩
def Rep.sqL{K:W.Frag}{v:V}{ds:List D}(r:Rep K μ H v (.lst ds)):∃ a vs,v=.ref a/\H a=Z (.lst vs)/\μ.no a/\Reps K μ H vs ds:=by
 cases r with
 | lst h n r=>exact⟨_,_,rfl,h,n,r⟩
def Rep.sqR{K:W.Frag}{v:V}{ds:List D}(r:Rep K μ H v (.rol ds)):∃ a vs,v=.ref a/\mU K H a vs/\Reps K μ H vs ds:=by
 cases r with
 | rol h n r=>exact⟨_,_,rfl,.inl h,r⟩
 | krol h r=>exact⟨_,_,rfl,.inr h,r⟩
def ntl(I:Inv X pins σ H s){a:Addr}{xs ys:List V}(h:oo X.K H a xs)(h':mU X.K H a ys):False:=by
 obtain⟨its,_,⟨o,e,c,_⟩,_⟩:=I.tuple h
 obtain⟨its',_,⟨o',n',e',c',_⟩,_⟩:=I.list h'
 rw [e] at e';cases e'
 rw [c] at c'
 exact absurd c' (by simp)
def Rep.non_inv{K:W.Frag}{v:V}(h:Rep K μ H v .non):v=.non:=by cases h;rfl
def DD{n:Nat}{xs:List D}:ci n (.rol xs)=false:=by cases n <;> rfl
def DH{n:Nat}{ks:List bC}{xs:List D}:ci n (.dct ks xs)=false:=by cases n <;> rfl
def DF{n:Nat}{r:Nat}:ci n (.ref r)=false:=by cases n <;> rfl
def qW{n:Nat}{xs:List D}(h:ci n (.tup xs)=true):∃ m,m+1=n/\∀ x∈xs,ci m x=true:=by
 cases n with
 | zero=>cases h
 | succ n=>exact⟨n,rfl,UF.mp h⟩
def qX{n:Nat}{xs:List D}(h:ci n (.lst xs)=true):∃ m,m+1=n/\∀ x∈xs,ci m x=true:=by
 cases n with
 | zero=>cases h
 | succ n=>exact⟨n,rfl,UF.mp h⟩
inductive Fm(K:W.Frag)(μ:Fp)(H:Hp):D->V->Prop
 | non:Fm K μ H .non .non
 | bl (b:Bool):Fm K μ H (.bl b) (.bl b)
 | int (i:Int):Fm K μ H (.int i) (.int i)
 | str (x:Str):Fm K μ H (.str x) (.str x)
 | tup {xs:List D} {l:Addr} {vs:List V} (q:oo K H l vs) (r:Reps K μ H vs xs):Fm K μ H (.tup xs) (.ref l)
 | lst {xs:List D} {l:Addr} {vs:List V} (q:mU K H l vs) (r:Reps K μ H vs xs):Fm K μ H (.lst xs) (.ref l)
def qE{K:W.Frag}{n:Nat}{x:D}{a:V}(hx:ci n x=true)(r:Rep K μ H a x):Fm K μ H x a:=by
 cases x with
 | non=>rw [r.non_inv];exact .non
 | bl b=>rw [r.bl_inv];exact .bl b
 | int b=>rw [r.int_inv];exact .int b
 | str b=>rw [r.str_inv];exact .str b
 | tup xs=>obtain⟨l,vs,rfl,q,r⟩:=r.sqT;exact .tup q r
 | lst xs=>obtain⟨l,vs,rfl,q,_,r⟩:=r.sqL;exact .lst (.inl (.inl q)) r
 | rol _=>rw [DD] at hx;cases hx
 | dct _ _=>rw [DH] at hx;cases hx
 | ref _=>rw [DF] at hx;cases hx
theorem Reps.injN{K:W.Frag}{n:Nat}(ih:∀ {v:V} {x y:D},ci n x=true->ci n y=true->Rep K μ H v x->Rep K μ H v y->x=y):∀ {vs:List V} {xs ys:List D},(∀ x∈xs,ci n x=true)->(∀ y∈ys,ci n y=true)->Reps K μ H vs xs->Reps K μ H vs ys->xs=ys
 | _,_,_,_,_,.nil,.nil=>rfl
 | _,_,_,hx,hy,.cons h t,.cons h' t'=>by
  rw [ih (hx _ Ul) (hy _ Ul) h h',Reps.injN ih (λx m=>hx x (Ur _ m)) (λx m=>hy x (Ur _ m)) t t']
def At(I:Inv X pins σ H s)(n:Nat)(ih:∀ m,m+1=n->∀ {v:V} {x y:D},ci m x=true->ci m y=true->Rep X.K μ H v x->Rep X.K μ H v y->x=y){v:V}{x y:D}(hx:ci n x=true)(hy:ci n y=true)(rx:Rep X.K μ H v x)(ry:Rep X.K μ H v y):x=y:=by
 have fy:=qE hy ry
 cases x with
 | tup xs=>
  obtain⟨a,vs,rfl,q,r⟩:=rx.sqT
  obtain⟨m,hm,ox⟩:=qW hx
  cases fy with
  | tup q' r'=>
   cases I.tuple_inj q' q
   obtain⟨m',hm',oy⟩:=qW hy
   have:m'=m:=by omega
   subst this
   rw [Reps.injN (ih m' hm) ox oy r r']
  | lst q' _=>exact(ntl I q q').elim
 | lst xs=>
  obtain⟨a,vs,rfl,q,_,r⟩:=rx.sqL
  obtain⟨m,hm,ox⟩:=qX hx
  cases y with
  | lst ys=>
   obtain⟨m',hm',oy⟩:=qX hy
   have:m'=m:=by omega
   subst this
   obtain⟨a',vs',e,q',_,r'⟩:=ry.sqL
   cases e
   rw [q] at q';cases q'
   rw [Reps.injN (ih m' hm) ox oy r r']
  | _=>cases fy <;> exact(ntl I (by assumption) (.inl (.inl q))).elim
 | non=>rw [rx.non_inv] at fy;cases fy;rfl
 | bl b=>rw [rx.bl_inv] at fy;cases fy;rfl
 | int b=>rw [rx.int_inv] at fy;cases fy;rfl
 | str b=>rw [rx.str_inv] at fy;cases fy;rfl
 | rol _=>rw [DD] at hx;cases hx
 | dct _ _=>rw [DH] at hx;cases hx
 | ref _=>rw [DF] at hx;cases hx
def Rep.inj(I:Inv X pins σ H s)(n:Nat):∀ {v:V} {x y:D},ci n x=true->ci n y=true->Rep X.K μ H v x->Rep X.K μ H v y->x=y:=by
 induction n with
 | zero=>exact λhx hy rx ry=>At I 0 (λm h=>absurd h (Nat.succ_ne_zero m)) hx hy rx ry
 | succ n ih=>exact λhx hy rx ry=>At I (n+1) (λm h=>by cases h;exact ih) hx hy rx ry
theorem lQ:∀ (n:Nat) (x:D),ci n x=true->js x x=true
 | n,.non,_=>rfl
 | n,.bl _,_=>by simp [js]
 | n,.int _,_=>by simp [js]
 | n,.str _,_=>by simp [js]
 | 0,.tup _,h=>by simp [ci] at h
 | 0,.lst _,h=>by simp [ci] at h
 | n+1,.tup xs,h=>by
  simp only [ci,UF] at h
  rw [js]
  induction xs with
  | nil=>rfl
  | cons x xs ih=>rw [eqDs,lQ n x (h x Ul),ih λy m=>h y (Ur _ m)];rfl
 | n+1,.lst xs,h=>by
  simp only [ci,UF] at h
  rw [js]
  induction xs with
  | nil=>rfl
  | cons x xs ih=>rw [eqDs,lQ n x (h x Ul),ih λy m=>h y (Ur _ m)];rfl
 | n,.rol _,h=>by cases n <;> simp [ci] at h
 | n,.dct _ _,h=>by cases n <;> simp [ci] at h
 | n,.ref _,h=>by cases n <;> simp [ci] at h
open PySem.SeqAt
def vT(A:Around):A.in1.units=A.units+1:=rfl
def vQ{its its2:List Value}{vs ws:List V}{xs ys:List D}{P:Value->Value->Bool->Prop}(r1:Vals vs its)(q1:Reps X.K μ H vs xs)(r2:Vals ws its2)(q2:Reps X.K μ H ws ys)
  (h:∀ (j:Nat) (v w:V) (u u':Value) (x y:D),xs[j]?=Z x->ys[j]?=Z y->Rep X.K μ H v x->Rep X.K μ H w y->RelV v u->RelV w u'->P u u' (js x y)) :
  ∀ j (h1:j<its.toArray.size) (h2:j<its2.toArray.size),P its.toArray[j] its2.toArray[j] (match xs[j]?,ys[j]? with | some a,Z b=>js a b | _,_=>true):=λj h1 h2=>by
 have l1:=r1.length
 have l2:=r2.length
 have m1:=q1.length
 have m2:=q2.length
 have h1':j<its.length:=by simpa using h1
 have h2':j<its2.length:=by simpa using h2
 have hx:xs[j]?=Z xs[j]:=Uq (by omega)
 have hy:ys[j]?=Z ys[j]:=Uq (by omega)
 obtain⟨v,e1,p1⟩:=q1.get hx
 obtain⟨w,e2,p2⟩:=q2.get hy
 obtain⟨u,f1,g1⟩:=r1.get e1
 obtain⟨u',f2,g2⟩:=r2.get e2
 rw [hx,hy]
 have:=h j v w u u' _ _ hx hy p1 p2 g1 g2
 have f1':its.toArray[j]=u:=by simpa [Uq h1'] using f1
 have f2':its2.toArray[j]=u':=by simpa [Uq h2'] using f2
 rw [f1',f2']
 exact this
structure Uh(A:Around)(s:Shared)(u v:Value)(b:Bool):Prop where
 eq:EqAt A s u v b
 rc:RcAt A s u v b
 ne:RcNeAt A s u v (!b)
def EC(I:Inv X pins σ H s)(n:Nat)(ih:∀ m,m+1=n->∀ (A:Around) {a b:V} {u v:Value} {x y:D},A.units+m<cLine->ci m x=true->ci m y=true->Rep X.K μ H a x->Rep X.K μ H b y->RelV a u->RelV b v->Uh A s u v (js x y))
  (A:Around) {a b:V} {u v:Value} {x y:D} (hn:A.units+n<cLine) (hx:ci n x=true) (hy:ci n y=true) (rx:Rep X.K μ H a x) (ry:Rep X.K μ H b y) (ra:RelV a u) (rb:RelV b v):Uh A s u v (js x y):=by
 have hu:A.units<cLine:=by omega
 cases qE hx rx with
 | non=>
  cases ra
  cases qE hy ry with
  | non=>cases rb;exact⟨EqAt.same _,RcAt.none_none,RcNeAt.none_none⟩
  | bl b=>cases rb;exact⟨EqAt.none_bool b,RcAt.none_bool b,RcNeAt.none_bool b⟩
  | int b=>obtain⟨t,rfl⟩:=rb;exact⟨EqAt.none_int b t,RcAt.none_int b t,RcNeAt.none_int b t⟩
  | str b=>obtain⟨t,rfl⟩:=rb;exact⟨EqAt.none_str b t,RcAt.none_str b t,RcNeAt.none_str b t⟩
  | tup q r=>cases rb;obtain⟨its,rv,p,_⟩:=I.tuple q;exact⟨EqAt.none_tuple p hu,RcAt.none_tuple p hu,RcNeAt.none_tuple p hu⟩
  | lst q r=>cases rb;obtain⟨its,rv,p,_⟩:=I.list q;exact⟨EqAt.none_list p.isList hu,RcAt.none_list p.isList hu,RcNeAt.none_list p.isList hu⟩
 | bl a=>
  cases ra
  cases qE hy ry with
  | non=>cases rb;exact⟨EqAt.bool_none a,RcAt.bool_none a,RcNeAt.bool_none a⟩
  | bl b=>cases rb;exact⟨EqAt.bool_bool a b,RcAt.bool_bool a b,RcNeAt.bool_bool a b⟩
  | int b=>obtain⟨t,rfl⟩:=rb;exact⟨EqAt.bool_int a b t,RcAt.bool_int a b t,RcNeAt.bool_int a b t⟩
  | str b=>obtain⟨t,rfl⟩:=rb;exact⟨EqAt.bool_str a b t,RcAt.bool_str a b t,RcNeAt.bool_str a b t⟩
  | tup q r=>cases rb;obtain⟨its,rv,p,_⟩:=I.tuple q;exact⟨EqAt.bool_tuple a p hu,RcAt.bool_tuple a p hu,RcNeAt.bool_tuple a p hu⟩
  | lst q r=>cases rb;obtain⟨its,rv,p,_⟩:=I.list q;exact⟨EqAt.bool_list a p.isList hu,RcAt.bool_list a p.isList hu,RcNeAt.bool_list a p.isList hu⟩
 | int a=>
  obtain⟨t',rfl⟩:=ra
  cases qE hy ry with
  | non=>cases rb;exact⟨EqAt.int_none a t',RcAt.int_none a t',RcNeAt.int_none a t'⟩
  | bl b=>cases rb;exact⟨EqAt.int_bool a t' b,RcAt.int_bool a t' b,RcNeAt.int_bool a t' b⟩
  | int b=>obtain⟨t,rfl⟩:=rb;exact⟨EqAt.int_int a t' b t,RcAt.int_int a t' b t,RcNeAt.int_int a t' b t⟩
  | str b=>obtain⟨t,rfl⟩:=rb;exact⟨EqAt.int_str a t' b t,RcAt.int_str a t' b t,RcNeAt.int_str a t' b t⟩
  | tup q r=>cases rb;obtain⟨its,rv,p,_⟩:=I.tuple q;exact⟨EqAt.int_tuple a t' p hu,RcAt.int_tuple a t' p hu,RcNeAt.int_tuple a t' p hu⟩
  | lst q r=>cases rb;obtain⟨its,rv,p,_⟩:=I.list q;exact⟨EqAt.int_list a t' p.isList hu,RcAt.int_list a t' p.isList hu,RcNeAt.int_list a t' p.isList hu⟩
 | str a=>
  obtain⟨t',rfl⟩:=ra
  cases qE hy ry with
  | non=>cases rb;exact⟨EqAt.str_none a t',RcAt.str_none a t',RcNeAt.str_none a t'⟩
  | bl b=>cases rb;exact⟨EqAt.str_bool a t' b,RcAt.str_bool a t' b,RcNeAt.str_bool a t' b⟩
  | int b=>obtain⟨t,rfl⟩:=rb;exact⟨EqAt.str_int a t' b t,RcAt.str_int a t' b t,RcNeAt.str_int a t' b t⟩
  | str b=>obtain⟨t,rfl⟩:=rb;exact⟨EqAt.str_str a t' b t,RcAt.str_str a t' b t,RcNeAt.str_str a t' b t⟩
  | tup q r=>cases rb;obtain⟨its,rv,p,_⟩:=I.tuple q;exact⟨EqAt.str_tuple a t' p hu,RcAt.str_tuple a t' p hu,RcNeAt.str_tuple a t' p hu⟩
  | lst q r=>cases rb;obtain⟨its,rv,p,_⟩:=I.list q;exact⟨EqAt.str_list a t' p.isList hu,RcAt.str_list a t' p.isList hu,RcNeAt.str_list a t' p.isList hu⟩
 | @tup xs l vs q r=>
  cases ra
  obtain⟨its,rv,p,_⟩:=I.tuple q
  cases qE hy ry with
  | non=>cases rb;exact⟨EqAt.tuple_none p hu,RcAt.tuple_none p hu,RcNeAt.tuple_none p hu⟩
  | bl b=>cases rb;exact⟨EqAt.tuple_bool b p hu,RcAt.tuple_bool b p hu,RcNeAt.tuple_bool b p hu⟩
  | int b=>obtain⟨t,rfl⟩:=rb;exact⟨EqAt.tuple_int b t p hu,RcAt.tuple_int b t p hu,RcNeAt.tuple_int b t p hu⟩
  | str b=>obtain⟨t,rfl⟩:=rb;exact⟨EqAt.tuple_str b t p hu,RcAt.tuple_str b t p hu,RcNeAt.tuple_str b t p hu⟩
  | @tup ys l' vs' q' r'=>
   cases rb
   obtain⟨its',rv',p',_⟩:=I.tuple q'
   obtain⟨m,hm,ox⟩:=qW hx
   obtain⟨m',hm',oy⟩:=qW hy
   have:m'=m:=by omega
   subst this
   have all:=vQ (P:=λu u' b=>EqAt A.in1 s u u' b) rv r rv' r' λj v w u u' x y hx' hy' q1 q2 g1 g2=>
    (ih m' hm A.in1 (by rw [vT];omega) (ox x (UH hx')) (oy y (UH hy')) q1 q2 g1 g2).eq
   have e0:its.toArray.size=xs.length:=by rw [Um,<- rv.length,r.length]
   have e1:its'.toArray.size=ys.length:=by rw [Um,<- rv'.length,r'.length]
   have key:=RcAt.tuples (A:=A) (s:=s) p p' hu all
   have kne:=RcNeAt.tuples (A:=A) (s:=s) p p' hu all
   rw [e0,e1,<- yB] at key kne
   refine⟨?_,key,kne⟩
   by_cases hl:l=l'
   ·subst hl
    rw [<- Rep.inj I n hx hy rx ry,lQ _ _ hx]
    exact EqAt.same _
   ·exact EqAt.of_refs hl key
  | lst q' r'=>cases rb;obtain⟨its',rv',p',_⟩:=I.list q';exact⟨EqAt.tuple_list p p'.isList hu,RcAt.tuple_list p p'.isList hu,RcNeAt.tuple_list p p'.isList hu⟩
 | @lst xs l vs q r=>
  cases ra
  obtain⟨its,rv,p0,_⟩:=I.list q
  have p:=p0.isList
  cases qE hy ry with
  | non=>cases rb;exact⟨EqAt.list_none p hu,RcAt.list_none p hu,RcNeAt.list_none p hu⟩
  | bl b=>cases rb;exact⟨EqAt.list_bool b p hu,RcAt.list_bool b p hu,RcNeAt.list_bool b p hu⟩
  | int b=>obtain⟨t,rfl⟩:=rb;exact⟨EqAt.list_int b t p hu,RcAt.list_int b t p hu,RcNeAt.list_int b t p hu⟩
  | str b=>obtain⟨t,rfl⟩:=rb;exact⟨EqAt.list_str b t p hu,RcAt.list_str b t p hu,RcNeAt.list_str b t p hu⟩
  | tup q' r'=>cases rb;obtain⟨its',rv',p',_⟩:=I.tuple q';exact⟨EqAt.list_tuple p p' hu,RcAt.list_tuple p p' hu,RcNeAt.list_tuple p p' hu⟩
  | @lst ys l' vs' q' r'=>
   cases rb
   obtain⟨its',rv',p0',_⟩:=I.list q'
   have p':=p0'.isList
   obtain⟨m,hm,ox⟩:=qX hx
   obtain⟨m',hm',oy⟩:=qX hy
   have:m'=m:=by omega
   subst this
   have all:=vQ (P:=λu u' b=>EqAt A.in1 s u u' b) rv r rv' r' λj v w u u' x y hx' hy' q1 q2 g1 g2=>
    (ih m' hm A.in1 (by rw [vT];omega) (ox x (UH hx')) (oy y (UH hy')) q1 q2 g1 g2).eq
   have e0:its.toArray.size=xs.length:=by rw [Um,<- rv.length,r.length]
   have e1:its'.toArray.size=ys.length:=by rw [Um,<- rv'.length,r'.length]
   have key:RcAt A s (.ref l) (.ref l') (eqDs xs ys)/\RcNeAt A s (.ref l) (.ref l') (!eqDs xs ys):=by
    rw [yB]
    by_cases hlen:xs.length=ys.length
    ·have k1:=RcAt.lists (A:=A) (s:=s) p p' (by rw [e0,e1,hlen]) hu all
     have k2:=RcNeAt.lists (A:=A) (s:=s) p p' (by rw [e0,e1,hlen]) hu all
     rw [e0] at k1 k2
     rw [<- hlen,Nat.min_self,beq_self_eq_true,WE]
     exact⟨k1,k2⟩
    ·rw [show (xs.length == ys.length)=false from Vh.mpr hlen,Wx]
     exact⟨RcAt.lists_lengths (A:=A) (s:=s) p p' (by rw [e0,e1];exact bne_iff_ne.mpr hlen) hu,RcNeAt.lists_lengths (A:=A) (s:=s) p p' (by rw [e0,e1];exact bne_iff_ne.mpr hlen) hu⟩
   refine⟨?_,key.1,key.2⟩
   by_cases hl:l=l'
   ·subst hl
    rw [<- Rep.inj I n hx hy rx ry,lQ _ _ hx]
    exact EqAt.same _
   ·exact EqAt.of_refs hl key.1
def TL(I:Inv X pins σ H s)(n:Nat):∀ (A:Around) {a b:V} {u v:Value} {x y:D},A.units+n<cLine->ci n x=true->ci n y=true->Rep X.K μ H a x->Rep X.K μ H b y->RelV a u->RelV b v->Uh A s u v (js x y):=by
 induction n with
 | zero=>exact λA _ _ _ _ _ _ hn hx hy rx ry ra rb=>EC I 0 (λm h=>absurd h (Nat.succ_ne_zero m)) A hn hx hy rx ry ra rb
 | succ n ih=>exact λA _ _ _ _ _ _ hn hx hy rx ry ra rb=>EC I (n+1) (λm h=>by cases h;exact ih) A hn hx hy rx ry ra rb
def eqRc(I:Inv X pins σ H s)(n:Nat)(A:Around){a b:V}{u v:Value}{x y:D}(hn:A.units+n<cLine)(hx:ci n x=true)(hy:ci n y=true)(rx:Rep X.K μ H a x)(ry:Rep X.K μ H b y)(ra:RelV a u)(rb:RelV b v) :
  EqAt A s u v (js x y)/\RcAt A s u v (js x y):=⟨(TL I n A hn hx hy rx ry ra rb).eq,(TL I n A hn hx hy rx ry ra rb).rc⟩
def neRc(I:Inv X pins σ H s)(n:Nat)(A:Around){a b:V}{u v:Value}{x y:D}(hn:A.units+n<cLine)(hx:ci n x=true)(hy:ci n y=true)(rx:Rep X.K μ H a x)(ry:Rep X.K μ H b y)(ra:RelV a u)(rb:RelV b v) :
  RcNeAt A s u v (!js x y):=(TL I n A hn hx hy rx ry ra rb).ne
end
section
variable{X:Cx}{pins:List (Addr×Obj)}{σ:L2.St}{H:Hp}{s:Shared}{μ:Fp}{A:Around}
end
noncomputable def iD(S:ab):D->Option (List D)
 | .tup xs=>Z xs
 | .lst xs=>Z xs
 | .rol xs=>Z xs
 | .ref r=>match S[r]? with | some (.lst xs)=>Z xs | _=>U
 | _=>U
section
variable{X:Cx}{K:W.Frag}{μ:Fp}{H:Hp}{S:ab}
def ju{x:V}{d:D}{ds:List D}(s:SOk K μ S H)(r:Rep K μ H x d)(h:iD S d=Z ds):∃ a vs,x=.ref a/\(mU K H a vs\/oo K H a vs)/\Reps K μ H vs ds:=by
 cases r with
 | tup h' n r=>cases h;exact⟨_,_,rfl,.inr (.inl (.inl h')),r⟩
 | ktup h' r=>cases h;exact⟨_,_,rfl,.inr (.inr h'),r⟩
 | lst h' n r=>cases h;exact⟨_,_,rfl,.inl (.inl (.inl h')),r⟩
 | rol h' n r=>cases h;exact⟨_,_,rfl,.inl (.inl h'),r⟩
 | krol h' r=>cases h;exact⟨_,_,rfl,.inl (.inr h'),r⟩
 | @ref a i h'=>
  simp only [iD] at h
  cases q:S[i]? with
  | none=>rw [q] at h;cases h
  | some c=>
   rw [q] at h
   have ck:=s.cell i a c h' q
   cases c with
   | lst xs=>cases h;obtain⟨vs,e,r⟩:=ck;exact⟨_,vs,rfl,.inl (.inl (.inl e)),r⟩
   | dct ks xs=>cases h
 | _=>cases h
mutual
theorem Rep.free:∀ {n:Nat} {v:V} {d:D},ci n d=true->Rep K μ H v d->Rep K ⟨[],[]⟩ H v d
 | _,_,_,_,.non=>.non
 | _,_,_,_,.bl b=>.bl b
 | _,_,_,_,.int i=>.int i
 | _,_,_,_,.str x=>.str x
 | n+1,_,_,h,.tup a _ r=>.tup a ⟨by simp,by simp⟩ (Reps.free (n:=n) h r)
 | n+1,_,_,h,.ktup a r=>.ktup a (Reps.free (n:=n) h r)
 | n+1,_,_,h,.lst a _ r=>.lst a ⟨by simp,by simp⟩ (Reps.free (n:=n) h r)
 | 0,_,_,h,.tup _ _ _=>by simp [ci] at h
 | 0,_,_,h,.ktup _ _=>by simp [ci] at h
 | 0,_,_,h,.lst _ _ _=>by simp [ci] at h
 | n,_,_,h,.rol _ _ _=>by cases n <;> simp [ci] at h
 | n,_,_,h,.krol _ _=>by cases n <;> simp [ci] at h
 | n,_,_,h,.dct _ _ _=>by cases n <;> simp [ci] at h
 | n,_,_,h,.ref _=>by cases n <;> simp [ci] at h
theorem Reps.free:∀ {n:Nat} {vs:List V} {ds:List D},ds.all (ci n)=true->Reps K μ H vs ds->Reps K ⟨[],[]⟩ H vs ds
 | _,_,_,_,.nil=>.nil
 | _,_,_,h,.cons r t=>by
  rw [Vb,Uk] at h
  exact .cons (Rep.free h.1 r) (Reps.free h.2 t)
end
noncomputable def qS(S:ab):D->D
 | .ref r=>match S[r]? with | some (.lst xs)=>.lst xs | _=>.ref r
 | d=>d
def EG{n:Nat}{d:D}(h:ci n d=true):qS S d=d:=by
 cases d <;> first | rfl | (cases n <;> simp [ci] at h)
def Ba{n:Nat}{v:V}{d:D}(s:SOk K μ S H)(r:Rep K μ H v d)(h:ci n (qS S d)=true):Rep K ⟨[],[]⟩ H v (qS S d):=by
 by_cases hd:qS S d=d
 ·rw [hd] at h ⊢;exact Rep.free h r
 ·cases r with
  | @ref a i h'=>
   cases q:S[i]? with
   | none=>exact absurd (by simp only [qS,q]) hd
   | some c=>
    cases c with
    | dct ks vs=>exact absurd (by simp only [qS,q]) hd
    | lst xs=>
     have e:qS S (.ref i)=.lst xs:=by simp only [qS,q]
     rw [e] at h ⊢
     obtain⟨vs,e,r⟩:=s.cell i a _ h' q
     cases n with
     | zero=>simp [ci] at h
     | succ n=>exact .lst e ⟨by simp,by simp⟩ (Reps.free (n:=n) h r)
  | _=>exact absurd rfl hd
noncomputable def cI(S:ab)(x y:D):Option D:=if ci 40 (qS S x)=true/\ci 40 (qS S y)=true then Z (.bl (js (qS S x) (qS S y))) else U
noncomputable def eV(S:ab)(x y:D):Option D:=if ci 40 x=true/\ci 40 y=true then Z (.bl (!js x y)) else U
def op_Eq(hu:X.A.units+64<cLine):OpR X (compareOp .Eq) (mY X.K cI):=by
 intro pins s σ H x y v u Q I rx ry h
 obtain⟨μ,S,dx,dy,dz,hS,h1,h2,h3,post⟩:=h
 simp only [cI] at h3
 split at h3
 ·rename_i hk
  cases h3
  exact(eqRc I 40 X.A (by omega) hk.1 hk.2 (Ba hS h1 hk.1) (Ba hS h2 hk.2) rx ry).2 X.prog X.w X.xe _ ⟨.bl _,H,I,rfl,post.here hS (.bl _)⟩
 ·cases h3
def op_Ne(hu:X.A.units+64<cLine):OpR X (compareOp .NotEq) (mY X.K eV):=by
 intro pins s σ H x y v u Q I rx ry h
 obtain⟨μ,S,dx,dy,dz,hS,h1,h2,h3,post⟩:=h
 simp only [eV] at h3
 split at h3
 ·rename_i hk
  cases h3
  exact neRc I 40 X.A (by omega) hk.1 hk.2 h1 h2 rx ry X.prog X.w X.xe _ ⟨.bl _,H,I,rfl,post.here hS (.bl _)⟩
 ·cases h3
open Classical in
def dX(K:W.Frag)(μ:Fp)(H:Hp)(x:D)(u:Value):Bool:=decide (∃ v d,RelV v u/\Rep K μ H v d/\ci 39 d=true/\js d x=true)
open Classical in
def pj{pins:List (Addr×Obj)}{σ:L2.St}{s:Shared}(I:Inv X pins σ H s){x d:D}{v:V}{u:Value}(rv:RelV v u)(r:Rep X.K μ H v d)(ok:ci 39 d=true):dX X.K μ H x u=js d x:=by
 unfold dX
 cases e:js d x with
 | true=>exact Uo ⟨v,d,rv,r,ok,e⟩
 | false=>
  refine Ut ?_
  rintro⟨v',d',rv',r',ok',e'⟩
  cases rv.inj rv'
  rw [Rep.inj I 39 ok ok' r r'] at e
  rw [e] at e';cases e'
theorem kn{pins:List (Addr×Obj)}{σ:L2.St}{s:Shared}(I:Inv X pins σ H s){x:D}:∀ {vs:List V} {us:List Value} {ds:List D},Vals vs us->Reps X.K μ H vs ds->(∀ d∈ds,ci 39 d=true) ->
  us.any (dX X.K μ H x)=ds.any λd=>js d x
 | _,_,_,.nil,.nil,_=>rfl
 | _,_,_,.cons rv tv,.cons r t,ok=>by
  rw [VJ,VJ,pj I rv r (ok _ Ul),kn I tv t λd m=>ok d (Ur _ m)]
theorem fG{pins:List (Addr×Obj)}{σ:L2.St}{s:Shared}(I:Inv X pins σ H s){A:Around}(hu:A.units+40<cLine){x:D}{v:V}{u:Value}(rx:RelV v u)(rD:Rep X.K μ H v x)(okx:ci 40 x=true) :
  ∀ {vs:List V} {us:List Value} {ds:List D},Vals vs us->Reps X.K μ H vs ds->(∀ d∈ds,ci 39 d=true)->∀ w∈us,SeqAt.EqAt A s w u (dX X.K μ H x w)
 | _,_,_,.nil,.nil,_=>λw hw=>by cases hw
 | _,_,_,.cons rv tv,.cons r t,ok=>λw hw=>by
  rcases UO.mp hw with rfl | hw
  ·rw [pj I rv r (ok _ Ul)]
   exact(eqRc I 40 A hu (sa (by decide) (ok _ Ul)) okx r rD rv rx).1
  ·exact fG I hu rx rD okx tv t (λd m=>ok d (Ur _ m)) w hw
noncomputable def nk(S:ab)(x y:D):Option D:=(iD S y).bind λds=>if ci 40 x=true/\ds.all (ci 39)=true then Z (.bl (ds.any λd=>js d x)) else U
noncomputable def JT(S:ab)(x y:D):Option D:=(iD S y).bind λds=>if ci 40 x=true/\ds.all (ci 39)=true then Z (.bl (!ds.any λd=>js d x)) else U
def op_In(hu:X.A.units+64<cLine):OpR X (compareOp .In) (mY X.K nk):=by
 intro pins s σ H x y v u Q I rx ry h
 obtain⟨μ,S,dx,dy,dz,hS,h1,h2,h3,post⟩:=h
 obtain⟨ds,e,h3⟩:=Ui.mp h3
 split at h3
 ·rename_i hk
  cases h3
  obtain⟨a,vs,rfl,hq,r⟩:=ju hS h2 e
  cases ry
  have ok:=UF.mp hk.2
  rcases hq with hq | hq
  ·obtain⟨its,rv,pl,hz⟩:=I.list hq
   refine SeqAt.in_listAt (dX X.K μ H dx) pl.isList (λw hw=>fG I (by show X.A.units+1+40<cLine;omega) rx h1 hk.1 rv r ok w (by simpa using hw)) ⟨.bl _,H,I,rfl,?_⟩
   rw [show its.toArray.any (dX X.K μ H dx)=its.any (dX X.K μ H dx) by simp,kn I rv r ok]
   exact post.here hS (.bl _)
  ·obtain⟨its,rv,pl,hz⟩:=I.tuple hq
   refine SeqAt.in_tupleAt (dX X.K μ H dx) pl (λw hw=>fG I (by show X.A.units+1+40<cLine;omega) rx h1 hk.1 rv r ok w (by simpa using hw)) ⟨.bl _,H,I,rfl,?_⟩
   rw [show its.toArray.any (dX X.K μ H dx)=its.any (dX X.K μ H dx) by simp,kn I rv r ok]
   exact post.here hS (.bl _)
 ·cases h3
def ID(hu:X.A.units+64<cLine):OpR X (compareOp .NotIn) (mY X.K JT):=by
 intro pins s σ H x y v u Q I rx ry h
 obtain⟨μ,S,dx,dy,dz,hS,h1,h2,h3,post⟩:=h
 obtain⟨ds,e,h3⟩:=Ui.mp h3
 split at h3
 ·rename_i hk
  cases h3
  obtain⟨a,vs,rfl,hq,r⟩:=ju hS h2 e
  cases ry
  have ok:=UF.mp hk.2
  rcases hq with hq | hq
  ·obtain⟨its,rv,pl,hz⟩:=I.list hq
   refine SeqAt.notIn_listAt (dX X.K μ H dx) pl.isList (λw hw=>fG I (by show X.A.units+1+40<cLine;omega) rx h1 hk.1 rv r ok w (by simpa using hw)) ⟨.bl _,H,I,rfl,?_⟩
   rw [show its.toArray.any (dX X.K μ H dx)=its.any (dX X.K μ H dx) by simp,kn I rv r ok]
   exact post.here hS (.bl _)
  ·obtain⟨its,rv,pl,hz⟩:=I.tuple hq
   refine SeqAt.notIn_tupleAt (dX X.K μ H dx) pl (λw hw=>fG I (by show X.A.units+1+40<cLine;omega) rx h1 hk.1 rv r ok w (by simpa using hw)) ⟨.bl _,H,I,rfl,?_⟩
   rw [show its.toArray.any (dX X.K μ H dx)=its.any (dX X.K μ H dx) by simp,kn I rv r ok]
   exact post.here hS (.bl _)
 ·cases h3
noncomputable def oU:D->D->Bool
 | .non,.non=>true
 | .bl a,.bl b=>a == b
 | _,_=>false
noncomputable def AO(S:ab)(x y:D):Option D:=match y with | .non=>Z (.bl (oU x y)) | .bl _=>Z (.bl (oU x y)) | _=>U
noncomputable def dm(S:ab)(x y:D):Option D:=match y with | .non=>Z (.bl (!oU x y)) | .bl _=>Z (.bl (!oU x y)) | _=>U
def JD{x y:V}{dx dy:D}{v u:Value}(h1:Rep K μ H x dx)(h2:Rep K μ H y dy)(rx:RelV x v)(ry:RelV y u)(hy:dy=.non\/∃ b,dy=.bl b):plainIs v u=true/\(v == u)=oU dx dy:=by
 rcases hy with rfl | ⟨b,rfl⟩
 ·cases h2;cases ry
  cases h1 <;> first | (cases rx;exact⟨rfl,rfl⟩) | (obtain⟨t,rfl⟩:=rx;exact⟨rfl,rfl⟩)
 ·cases h2;cases ry
  cases h1 <;> first | (cases rx;exact⟨rfl,rfl⟩) | (obtain⟨t,rfl⟩:=rx;exact⟨rfl,rfl⟩) | (cases rx;rename_i c;refine⟨rfl,?_⟩;cases b <;> cases c <;> rfl)
def op_Is:OpR X (compareOp .Is) (mY X.K AO):=by
 intro pins s σ H x y v u Q I rx ry h
 obtain⟨μ,S,dx,dy,dz,hS,h1,h2,h3,post⟩:=h
 have hy:(dy=.non\/∃ b,dy=.bl b)/\dz=.bl (oU dx dy):=by
  cases dy <;> first | (cases h3;exact⟨.inl rfl,rfl⟩) | (cases h3;exact⟨.inr ⟨_,rfl⟩,rfl⟩) | cases h3
 obtain⟨p,e⟩:=JD h1 h2 rx ry hy.1
 cases hy.2
 exact wpAny_is_plain p ⟨.bl _,H,I,congrArg Value.bool e,post.here hS (.bl _)⟩
def IE:OpR X (compareOp .IsNot) (mY X.K dm):=by
 intro pins s σ H x y v u Q I rx ry h
 obtain⟨μ,S,dx,dy,dz,hS,h1,h2,h3,post⟩:=h
 have hy:(dy=.non\/∃ b,dy=.bl b)/\dz=.bl (!oU dx dy):=by
  cases dy <;> first | (cases h3;exact⟨.inl rfl,rfl⟩) | (cases h3;exact⟨.inr ⟨_,rfl⟩,rfl⟩) | cases h3
 obtain⟨p,e⟩:=JD h1 h2 rx ry hy.1
 cases hy.2
 exact wpAny_isNot_plain p ⟨.bl _,H,I,congrArg (λb=>Value.bool (!b)) e,post.here hS (.bl _)⟩
end
end M
namespace HT
section
variable{prog:Program}{w:World}{A:Around}{E:Value->Shared->Prop}{s:Shared}
def OE{t b:Addr}{ws:List Value}{Q:Value->Shared->Prop}(ht:IsTup s.heap t #[])(hb:IsTup s.heap b ws.toArray)(h:Q (.ref b) s):wpAny (model prog w) A (binaryOp .Add (.ref t) (.ref b)) Q E s:=by
 obtain⟨⟨cls,dd,data,sl⟩,ho,hc,n,hd⟩:=id ht
 obtain⟨⟨cls2,dd2,data2,sl2⟩,ho2,hc2,n2,hd2⟩:=id hb
 simp only at hc hd hc2 hd2
 subst hc hd hc2 hd2
 exact XV ⟨_,ho,rfl⟩ ⟨_,ho2,rfl⟩ Xl XH Xp Xf (Xb _ _)
   (tuple_addW0 t b #[] ws.toArray n n2 dd dd2 sl sl2 rfl) ⟨ho,ho2,h⟩
def nh{t sl:Addr}{items:Array Value}{vl vu:Value}{lo hi:Option Int}{Q:Value->Shared->Prop}(ht:IsTup s.heap t items)(hs:s.heap.IsSliceOf sl vl vu .none)(pl:IsPart vl lo)(pu:IsPart vu hi)
  (hw:eu items.size 0 lo=0/\eu items.size items.size hi=items.size) (h:Q (.ref t) s):wpAny (model prog w) A (getItem (.ref t) (.ref sl)) Q E s:=by
 obtain⟨os,hos,hcs,hds⟩:=id hs
 have hTs:s.TypeIs (.ref sl) "slice":=⟨os,hos,hcs⟩
 unfold getItem
 try with_reducible refine VQ ?_
 first | refine Up (UD ?_) | skip
 refine Up (wpAny_sequenceKey ht.typeIs (by decide) ?_)
 refine Up (VZ (name:=Str.ofString "__getitem__") ht.typeIs VE
  (WF VE ht.typeIs Yj ?_ (Yo _ _)))
 show wpAny _ _ (Builtin.Tuple.tupleItemsOf (.ref t) >>= _) _ _ s
 refine Up (tupleItemsOf_ ht ?_)
 refine Up (XT hTs ?_)
 rw [if_pos (by decide)]
 refine Up (jM hs pl pu ?_)
 have hyes:(((eu items.size 0 lo:Nat):Int) == 0&&(1:Int) == 1&&(eu items.size items.size hi - eu items.size 0 lo) == items.size)=true:=by
  rw [hw.1,hw.2];simp
 show wpAny _ _ (if (((eu items.size 0 lo:Nat):Int) == 0&&(1:Int) == 1&&(eu items.size items.size hi - eu items.size 0 lo) == items.size)=true then _ else _) _ _ s
 rw [if_pos hyes]
 unfold Builtin.Tuple.tupleIsExact
 refine Up (Up (XT ht.typeIs (UD ?_)))
 rw [if_pos (by decide)]
 exact Up (XD (Up (UD (UD ⟨_,rfl,UD h⟩))))
end
end HT
namespace M
open L2
section
variable{X:Cx}{K:W.Frag}{μ μ':Fp}{H H':Hp}{S:ab}
noncomputable def Gc(g:Int->Int->D)(S:ab)(x y:D):Option D:=match x,y with | .int i,.int j=>Z (g i j) | _,_=>U
noncomputable def AQ(C:Int->Int->Bool)(g:Int->Int->D)(S:ab)(x y:D):Option D:=match x,y with | .int i,.int j=>if C i j=true then Z (g i j) else U | _,_=>U
def oC{f:Value->Value->Sem Value}{g:Int->Int->V}{g':Int->Int->D}(h:OpR X f (Md g))(hg:∀ i j μ H,Rep X.K μ H (g i j) (g' i j)):OpR X f (mY X.K (Gc g')):=
 OpR.imp h λx y H Q ⟨μ,S,dx,dy,dz,hS,h1,h2,h3,post⟩=>by
  cases dx <;> cases dy <;> first | cases h3 | skip
  exact⟨_,_,h1.int_inv,h2.int_inv,post.here hS (hg _ _ _ _)⟩
def xx{f:Value->Value->Sem Value}{C:Int->Int->Prop}{C':Int->Int->Bool}{g:Int->Int->V}{g':Int->Int->D}(h:OpR X f (rI C g))(hC:∀ i j,C' i j=true->C i j)(hg:∀ i j μ H,Rep X.K μ H (g i j) (g' i j)):OpR X f (mY X.K (AQ C' g')):=
 OpR.imp h λx y H Q ⟨μ,S,dx,dy,dz,hS,h1,h2,h3,post⟩=>by
  cases dx <;> cases dy <;> first | cases h3 | skip
  simp only [AQ] at h3
  split at h3
  ·rename_i hc
   cases h3
   exact⟨_,_,h1.int_inv,h2.int_inv,hC _ _ hc,post.here hS (hg _ _ _ _)⟩
  ·cases h3
noncomputable def qP:=Gc λi j=>.int (i - j)
noncomputable def SO:=Gc λi j=>.bl (decide (i<j))
noncomputable def SR:=Gc λi j=>.bl (decide (i<=j))
noncomputable def yR:=Gc λi j=>.bl (decide (j<i))
noncomputable def fGe:=Gc λi j=>.bl (decide (j<=i))
def Rf:OpR X (binaryOp .Sub) (mY X.K qP):=oC QZ λ_ _ _ _=>.int _
def op_Lt:OpR X (compareOp .Lt) (mY X.K SO):=oC op_lt λ_ _ _ _=>.bl _
def op_Le:OpR X (compareOp .LtE) (mY X.K SR):=oC op_le λ_ _ _ _=>.bl _
def op_Gt:OpR X (compareOp .Gt) (mY X.K yR):=oC op_gt λ_ _ _ _=>.bl _
def op_Ge:OpR X (compareOp .GtE) (mY X.K fGe):=oC op_ge λ_ _ _ _=>.bl _
noncomputable def la:=AQ (λ_ j=>decide (0<j)) λi j=>.int (i % j)
noncomputable def Gd:=AQ (λ_ j=>decide (0<j)&&decide (j<1073741824)) λi j=>.int (i / j)
noncomputable def uJ:=AQ (λi j=>decide (0<=j)&&decide (j<=1000000)&&decide (i.natAbs<2 ^ 64)) λi j=>.int (i ^ j.toNat)
def Ri:OpR X (binaryOp .Mod) (mY X.K la):=xx Rc (λ_ _ h=>Us h) λ_ _ _ _=>.int _
def Rj:OpR X (binaryOp .FloorDiv) (mY X.K Gd):=xx MM (λ_ _ h=>by simpa [CDiv] using h) λ_ _ _ _=>.int _
def Rg:OpR X (binaryOp .Pow) (mY X.K uJ):=xx Rb (λi j h=>by
 simp only [Uk,Vi] at h
 exact⟨h.1.1,h.1.2,h.2⟩) λ_ _ _ _=>.int _
def oF(i j:Int):Bool:=decide (i.natAbs<18446744073709551616)||decide (j.natAbs<18446744073709551616)||(decide (i.natAbs<2 ^ 4000)&&decide (j.natAbs<2 ^ 4000))
def Nd{i j:Int}(h:oF i j=true):IntMulOk i j:=by
 unfold oF at h
 simp only [Vp,Uk,Vi] at h
 rcases h with (h | h) | h
 ·exact .of_left (XF (k:=64) (by omega))
 ·exact .of_right (XF (k:=64) (by omega))
 ·exact .of_bits (UV (XF (k:=4000) h.1) (by decide)) (UV (XF (k:=4000) h.2) (by decide))
def ML:OpR X (binaryOp .Mult) (rI (λi j=>oF i j=true) λi j=>.int (i * j)):=opI λ_ _ _ _ _ _ _ hc q=>mul_int q (Nd hc)
noncomputable def SN(S:ab)(x y:D):Option D:=match x,y with
 | .int i,.int j=>if oF i j=true then Z (.int (i * j)) else U
 | _,_=>U
def Rh:OpR X (binaryOp .Mult) (mY X.K SN):=OpR.imp ML λx y H Q ⟨μ,S,dx,dy,dz,hS,h1,h2,h3,post⟩=>by
 cases dx <;> cases dy <;> first | cases h3 | skip
 simp only [SN] at h3
 split at h3
 ·rename_i hc
  cases h3
  exact⟨_,_,h1.int_inv,h2.int_inv,hc,post.here hS (.int _)⟩
 ·cases h3
noncomputable def Kc(S:ab)(x y:D):Option D:=match x,y with
 | .int i,.int j=>Z (.int (i+j))
 | .str i,.str j=>if i.length+j.length<=sizeLine then Z (.str (i++j)) else U
 | .tup xs,.tup ys=>if xs.length+ys.length<=sizeLine then Z (.tup (xs++ys)) else U
 | .lst xs,.lst ys=>if xs.length+ys.length<=sizeLine then Z (.lst (xs++ys)) else U
 | _,_=>U
def Rn:OpR X (binaryOp .Add) (mY X.K Kc):=by
 intro pins s σ H x y v u Q I rx ry h
 obtain⟨μ,S,dx,dy,dz,hS,h1,h2,h3,post⟩:=h
 cases dx <;> cases dy <;> first | cases h3 | skip
 case int.int i j=>exact Re pins s σ H x y v u Q I rx ry ⟨_,_,h1.int_inv,h2.int_inv,post.here hS (.int _)⟩
 case str.str i j=>
  simp only [Kc] at h3
  split at h3
  ·rename_i hl;cases h3
   exact BX pins s σ H x y v u Q I rx ry ⟨_,_,h1.str_inv,h2.str_inv,hl,post.here hS (.str _)⟩
  ·cases h3
 case tup.tup xs ys=>
  simp only [Kc] at h3
  split at h3
  ·rename_i hl;cases h3
   have h2':=h2
   have h1':=h1
   obtain⟨a,vs,rfl,q1,r1⟩:=h1.sqT
   obtain⟨b,ws,rfl,q2,r2⟩:=h2.sqT
   have e1:=r1.length
   have e2:=r2.length
   by_cases hv:vs=[]
   ·subst hv
    have hx:xs=[]:=Vg (by simpa using e1.symm)
    subst hx
    cases rx;cases ry
    obtain⟨its,rv,p1,_⟩:=I.tuple q1
    obtain⟨its2,rv2,p2,_⟩:=I.tuple q2
    have:its=[]:=rv.nil_iff.mpr rfl
    subst this
    exact HT.OE p1 p2 ⟨.ref b,H,I,rfl,post.here hS h2'⟩
   ·refine MN pins s σ H _ _ v u Q I rx ry ⟨a,b,vs,ws,rfl,rfl,q1,q2,hv,by omega,λhw=>?_,λhw p hp=>post.tup hS hp (r1.append r2)⟩
    subst hw
    have hy:ys=[]:=Vg (by simpa using e2.symm)
    subst hy
    rw [UX] at post
    exact post.here hS h1'
  ·cases h3
 case lst.lst xs ys=>
  simp only [Kc] at h3
  split at h3
  ·rename_i hl;cases h3
   obtain⟨a,vs,rfl,q1,n1,r1⟩:=h1.sqL
   obtain⟨b,ws,rfl,q2,n2,r2⟩:=h2.sqL
   have e1:=r1.length
   have e2:=r2.length
   exact IC pins s σ H _ _ v u Q I rx ry ⟨a,b,vs,ws,rfl,rfl,q1,q2,by omega,λp hp=>post.lst hS hp (r1.append r2)⟩
  ·cases h3
def Qh:UnR X (unaryOp .USub) (rM1 X.K λ_ x=>match x with | .int i=>Z (.int (-i)) | _=>U):=UnR.imp Qg λx H Q ⟨μ,S,dx,dz,hS,h1,h3,post⟩=>by
 cases dx <;> first | cases h3 | skip
 exact⟨_,h1.int_inv,post.here hS (.int _)⟩
noncomputable def yP(f:ab->D->Option D)(a:ME):ME:=λenv S=>(a env S).bind λp=>(f p.2 p.1).bind λz=>Z (z,p.2)
def de_un{a:Expr}{ma:ME}{pos:Pos}{op:UnaryOp}{f:ab->D->Option D}(ho:UnR X (unaryOp op) (rM1 X.K f))(ha:DE X a ma):DE X (.UnaryOp op a pos) (yP f ma):=
 PE.imp (pe_un ho ha) λσ H Q ⟨μ,S,env,d,S',hS,hE,hm,post⟩=>by
  obtain⟨⟨x,S1⟩,h1,hm⟩:=Ui.mp hm
  obtain⟨z,h2,hm⟩:=Ui.mp hm
  cases hm
  exact⟨μ,S,env,x,_,hS,hE,h1,λv H1 μ1 e1 s1 r1=>⟨μ1,_,x,_,s1,r1,h2,post.ext e1⟩⟩
def OM{vs:List V}{ds:List D}{i:Int}{d:D}(r:Reps K μ H vs ds)(h:oa ds i=Z d):∃ v,oa vs i=Z v/\Rep K μ H v d:=by
 unfold oa at h ⊢
 rw [r.length]
 obtain⟨j,h1,h2⟩:=Ui.mp h
 obtain⟨v,h3,h4⟩:=r.get h2
 exact⟨v,by rw [h1];exact h3,h4⟩
noncomputable def fIx(S:ab)(x y:D):Option D:=match y with | .int i=>(iD S x).bind λxs=>oa xs i | _=>U
def ix_D:IxR X (mY X.K fIx):=IxR.imp (ix_list.or Sz) λx y H Q ⟨μ,S,dx,dy,dz,hS,h1,h2,h3,post⟩=>by
 cases dy <;> first | cases h3 | skip
 rename_i i
 obtain⟨xs,e,h3⟩:=Ui.mp h3
 obtain⟨a,vs,rfl,hq,r⟩:=ju hS h1 e
 obtain⟨v,h4,h5⟩:=OM r h3
 rcases hq with hq | hq
 ·exact .inl ⟨a,vs,i,v,rfl,h2.int_inv,hq,h4,post.here hS h5⟩
 ·exact .inr ⟨a,vs,i,v,rfl,h2.int_inv,hq,h4,post.here hS h5⟩
noncomputable def lb{α:Type}(xs:List α)(lo hi:Option Int):List α:=(xs.drop (HT.eu xs.length 0 lo)).take (HT.eu xs.length xs.length hi - HT.eu xs.length 0 lo)
abbrev MO:=aW->ab->Option (Option Int×ab)
noncomputable def cb:MO:=λ_ S=>Z (U,S)
noncomputable def cW(m:ME):MO:=λenv S=>(m env S).bind λp=>match p.1 with | .int i=>Z (Z i,p.2) | _=>U
inductive tMO(K:W.Frag)(m:MO)(σ:L2.St)(H:Hp)(Q:Option Int->Hp->Prop):Prop
 | mk (μ:Fp) (S:ab) (env:aW) (o:Option Int) (S':ab) (hS:SOk K μ S H) (hE:EOk K μ H σ env) (h:m env S=Z (o,S')) (post:∀ H' μ',Ext μ H μ' H'->SOk K μ' S' H'->Q o H')
def DO(X:Cx)(e:Option Expr)(m:MO):Prop:=PO X e (tMO X.K m)
def PO.imp{e:Option Expr}{t t':TO}(h:PO X e t)(i:∀ σ H Q,t' σ H Q->t σ H Q):PO X e t':=λpins s σ H Q I q=>h pins s σ H Q I (i σ H Q q)
def Oj:DO X U cb:=PO.imp Mq λσ H Q ⟨μ,S,env,d,S',hS,hE,hm,post⟩=>by cases hm;exact post H μ hS.ext hS
def Oi{e:Expr}{m:ME}(h:DE X e m):DO X (Z e) (cW m):=PO.imp (Mp h) λσ H Q ⟨μ,S,env,d,S',hS,hE,hm,post⟩=>by
 obtain⟨⟨x,S1⟩,h1,hm⟩:=Ui.mp hm
 cases x <;> first | cases hm | skip
 exact⟨μ,S,env,_,_,hS,hE,h1,λv H1 μ1 e1 s1 r1=>⟨_,r1.int_inv,post H1 μ1 e1 s1⟩⟩
noncomputable def ca(a:ME)(lo hi:MO):ME:=λenv S=>(a env S).bind λp=>(lo env p.2).bind λl=>(hi env l.2).bind λh=>match p.1 with
 | .tup xs=>Z (.tup (lb xs l.1 h.1),h.2)
 | .lst xs=>Z (.lst (lb xs l.1 h.1),h.2)
 | .rol xs=>Z (.lst (lb xs l.1 h.1),h.2)
 | .ref r=>match h.2[r]? with | some (.lst xs)=>Z (.lst (lb xs l.1 h.1),h.2) | _=>U
 | _=>U
def rm{vs:List V}{ds:List D}{lo hi:Option Int}(r:Reps K μ H vs ds):Reps K μ H (Bb vs lo hi) (lb ds lo hi):=by
 unfold Bb lb
 rw [r.length]
 exact(r.drop _).take _
def LY:SlR X (λx lo hi H Q=>∃ a xs,x=.ref a/\oo X.K H a xs/\(HT.eu xs.length 0 lo=0/\HT.eu xs.length xs.length hi=xs.length)/\Q (.ref a) H):=by
 intro pins s σ H x v vl vu lo hi sl Q I rx hs pl pu h
 obtain⟨a,xs,rfl,hx,hw,q⟩:=h
 cases rx
 obtain⟨its,r,ht,hz⟩:=I.tuple hx
 have hlen:its.toArray.size=xs.length:=by rw [Um];exact r.length.symm
 refine⟨"tuple",_,PyProof.Rows.slot_tuple_getitem.lookup,ht.typeIs,?_⟩
 exact HT.nh ht hs pl pu (by rw [hlen];exact hw) ⟨.ref a,H,I,rfl,q⟩
def KQ{a:Expr}{lo hi:Option Expr}{ma:ME}{ml mh:MO}{pos p2:Pos}(ha:DE X a ma)(hl:DO X lo ml)(hh:DO X hi mh):DE X (.Subscript a (.Slice lo hi U p2) pos) (ca ma ml mh):=
 PE.imp (Ir (SlR.or LY (SlR.or Qt LZ)) ha hl hh) λσ H Q ⟨μ,S,env,d,S',hS,hE,hm,post⟩=>by
  obtain⟨⟨x,S1⟩,h1,hm⟩:=Ui.mp hm
  obtain⟨⟨l,S2⟩,h2,hm⟩:=Ui.mp hm
  obtain⟨⟨h,S3⟩,h3,hm⟩:=Ui.mp hm
  refine⟨μ,S,env,x,S1,hS,hE,h1,λv H1 μ1 e1 s1 r1=>⟨μ1,S1,env,l,S2,s1,hE.mono e1,h2,λH2 μ2 e2 s2=>⟨μ2,S2,env,h,S3,s2,(hE.mono e1).mono e2,h3,λH3 μ3 e3 s3=>?_⟩⟩⟩
  have r3:=(r1.mono e2).mono e3
  have e:=(e1.trans e2).trans e3
  cases x with
  | tup xs=>
   cases hm
   have r3':=r3
   obtain⟨a,vs,rfl,q1,r⟩:=r3.sqT
   by_cases hw:HT.eu vs.length 0 l=0/\HT.eu vs.length vs.length h=vs.length
   ·refine .inl ⟨a,vs,rfl,q1,hw,?_⟩
    have:lb xs l h=xs:=by unfold lb;rw [<- r.length,hw.1,hw.2];simp [r.length]
    rw [this] at post
    exact post _ H3 μ3 e s3 r3'
   ·exact .inr (.inl ⟨a,vs,rfl,q1,hw,λp hp=>(post.ext e).tup s3 hp (rm r)⟩)
  | lst xs=>
   cases hm
   obtain⟨a,vs,rfl,q1,n1,r⟩:=r3.sqL
   exact .inr (.inr ⟨a,vs,rfl,.inl (.inl q1),λp hp=>(post.ext e).lst s3 hp (rm r)⟩)
  | rol xs=>
   cases hm
   obtain⟨a,vs,rfl,q1,r⟩:=r3.sqR
   exact .inr (.inr ⟨a,vs,rfl,q1,λp hp=>(post.ext e).lst s3 hp (rm r)⟩)
  | ref r=>
   dsimp only at hm
   split at hm
   ·rename_i xs q
    cases hm
    cases r3 with
    | @ref a _ ha=>
     obtain⟨vs,hv,rv⟩:=s3.cell r a _ ha q
     exact .inr (.inr ⟨a,vs,rfl,.inl (.inl hv),λp hp=>(post.ext e).lst s3 hp (rm rv)⟩)
   ·cases hm
  | _=>cases hm
end
section
variable{X:Cx}{K:W.Frag}{μ μ':Fp}{H H':Hp}{S:ab}
noncomputable def bn(f:List D->ab->Option (D×ab))(ms:MA):ME:=λenv S=>(ms env S).bind λp=>f p.1 p.2
def HG{f:List D->ab->Option (D×ab)}{ms:MA}{σ:L2.St}{Q:VK}(h:tM K (bn f ms) σ H Q):tCB (Hd K f) (tMA K ms) σ H Q:=by
 obtain⟨μ,S,env,d,S',hS,hE,hm,post⟩:=h
 obtain⟨⟨xs,S1⟩,h1,hm⟩:=Ui.mp hm
 exact⟨μ,S,env,xs,S1,hS,hE,h1,λvs H1 μ1 e1 s1 r1=>⟨μ1,S1,xs,d,S',s1,r1,hm,post.ext e1⟩⟩
section
variable{x:Str}{p pos:Pos}{e:Expr}{es:List Expr}{ms:MA}{id T:String}{f:List D->ab->Option (D×ab)}
def lT(hc:CallR X (.builtin id) (Hd X.K f))(hm:X.mg x=U)(hv:bootBuiltins x=Z (.builtin id))(ha:DA X (e::es) ms)(hg:Gl X x:=by rfl)(hn:x ≠ "__name__":=by decide)(hdb:(x == ("__debug__":Str))=false:=by decide)
  (he:starEach (e::es) X.env=(false,eval e X.env)::starEach es X.env:=by rfl) (hpl:(backTo pos (starEach es X.env)).any (·.1)=false:=by rfl):DE X (.Call (.Name x p) (e::es) [] pos) (bn f ms):=
 PE.imp (rX hc hg hm hv ha hn hdb he hpl) λ_ _ _ h=>HG h
def pU(hc:CallR X (.type T) (Hd X.K f))(hm:X.mg x=U)(hv:bootBuiltins x=Z (.type T))(ha:DA X (e::es) ms)(hg:Gl X x:=by rfl)(hn:x ≠ "__name__":=by decide)(hdb:(x == ("__debug__":Str))=false:=by decide)
  (he:starEach (e::es) X.env=(false,eval e X.env)::starEach es X.env:=by rfl) (hpl:(backTo pos (starEach es X.env)).any (·.1)=false:=by rfl):DE X (.Call (.Name x p) (e::es) [] pos) (bn f ms):=
 PE.imp (vj hc hg hm hv ha hn hdb he hpl) λ_ _ _ h=>HG h
end
def Reps.one{vs:List V}{d:D}(r:Reps K μ H vs [d]):∃ v,vs=[v]/\Rep K μ H v d:=by
 cases r with
 | cons h t=>cases t;exact⟨_,rfl,h⟩
def Reps.two{vs:List V}{d e:D}(r:Reps K μ H vs [d,e]):∃ v w,vs=[v,w]/\Rep K μ H v d/\Rep K μ H w e:=by
 cases r with
 | cons h t=>cases t with | cons h' t=>cases t;exact⟨_,_,rfl,h,h'⟩
noncomputable def aT(f:ab->List D->Option D):List D->ab->Option (D×ab):=λds S=>(f S ds).bind λd=>Z (d,S)
def dB{f:ab->List D->Option D}{ds:List D}{S S':ab}{d:D}(h:aT f ds S=Z (d,S')):S'=S/\f S ds=Z d:=by
 obtain⟨z,h1,h⟩:=Ui.mp h
 cases h
 exact⟨rfl,h1⟩
noncomputable def eI(S:ab):List D->Option D
 | [.str z]=>if z.length<=sizeLine then Z (.int z.length) else U
 | [d]=>(iD S d).bind λxs=>Z (.int xs.length)
 | _=>U
def Ln:CallR X (.builtin "len") (Hd X.K (aT eI)):=CallR.imp (call_len_seq.or yG) λxs H Q ⟨μ,S,ds,d,S',hS,hr,hm,post⟩=>by
 obtain⟨rfl,hm⟩:=dB hm
 match ds,hr,hm with
 | [D.str z],hr,hm=>
  obtain⟨v,rfl,r⟩:=hr.one
  simp only [eI] at hm
  split at hm
  ·rename_i hl;cases hm;exact .inr ⟨z,by rw [r.str_inv],hl,post.here hS (.int _)⟩
  ·cases hm
 | [D.non],hr,hm=>cases hm
 | [D.bl _],hr,hm=>cases hm
 | [D.int _],hr,hm=>cases hm
 | [D.dct _ _],hr,hm=>cases hm
 | [D.tup xs],hr,hm=>
  obtain⟨v,rfl,r⟩:=hr.one
  cases hm
  obtain⟨a,vs,rfl,hq,r⟩:=ju hS r rfl
  exact .inl ⟨a,vs,rfl,hq,by rw [r.length];exact post.here hS (.int _)⟩
 | [D.lst xs],hr,hm=>
  obtain⟨v,rfl,r⟩:=hr.one
  cases hm
  obtain⟨a,vs,rfl,hq,r⟩:=ju hS r rfl
  exact .inl ⟨a,vs,rfl,hq,by rw [r.length];exact post.here hS (.int _)⟩
 | [D.rol xs],hr,hm=>
  obtain⟨v,rfl,r⟩:=hr.one
  cases hm
  obtain⟨a,vs,rfl,hq,r⟩:=ju hS r rfl
  exact .inl ⟨a,vs,rfl,hq,by rw [r.length];exact post.here hS (.int _)⟩
 | [D.ref i],hr,hm=>
  obtain⟨v,rfl,r⟩:=hr.one
  obtain⟨xs,h1,hm⟩:=Ui.mp hm
  cases hm
  obtain⟨a,vs,rfl,hq,r⟩:=ju hS r h1
  exact .inl ⟨a,vs,rfl,hq,by rw [r.length];exact post.here hS (.int _)⟩
 | [],hr,hm=>cases hm
 | a::b::c,hr,hm=>simp [eI] at hm
noncomputable def wm(S:ab):List D->Option D
 | [.int i]=>Z (.int i)
 | [.bl k]=>Z (.int (if k then 1 else 0))
 | _=>U
def Lo:CallR X (.type "int") (Hd X.K (aT wm)):=CallR.imp GR λxs H Q ⟨μ,S,ds,d,S',hS,hr,hm,post⟩=>by
 obtain⟨rfl,hm⟩:=dB hm
 match ds,hr,hm with
 | [D.int i],hr,hm=>obtain⟨v,rfl,r⟩:=hr.one;cases hm;exact .inl ⟨i,by rw [r.int_inv],post.here hS (.int _)⟩
 | [D.bl k],hr,hm=>obtain⟨v,rfl,r⟩:=hr.one;cases hm;exact .inr ⟨k,by rw [r.bl_inv],post.here hS (.int _)⟩
 | [D.non],hr,hm=>cases hm
 | [D.str _],hr,hm=>cases hm
 | [D.dct _ _],hr,hm=>cases hm
 | [D.tup _],hr,hm=>cases hm
 | [D.lst _],hr,hm=>cases hm
 | [D.rol _],hr,hm=>cases hm
 | [D.ref _],hr,hm=>cases hm
 | [],hr,hm=>cases hm
 | a::b::c,hr,hm=>simp [wm] at hm
noncomputable def PC(S:ab):List D->Option D
 | [.int i,.int j]=>Z (.int (if j>i then j else i))
 | _=>U
noncomputable def AM(S:ab):List D->Option D
 | [.int i,.int j]=>Z (.int (if j<i then j else i))
 | _=>U
def Pv{ds:List D}{f:Int->Int->D}{d:D}(h:(match ds with | [.int i,.int j]=>Z (f i j) | _=>U)=Z d):∃ i j,ds=[.int i,.int j]/\d=f i j:=by
 split at h
 ·cases h;exact⟨_,_,rfl,rfl⟩
 ·cases h
def GU(hc:X.calm=true):CallR X (.builtin "max") (Hd X.K (aT PC)):=CallR.imp (GO hc) λxs H Q ⟨μ,S,ds,d,S',hS,hr,hm,post⟩=>by
 obtain⟨rfl,hm⟩:=dB hm
 obtain⟨i,j,rfl,rfl⟩:=Pv (f:=λi j=>.int (if j>i then j else i)) hm
 obtain⟨v,w,rfl,r1,r2⟩:=hr.two
 exact⟨i,j,by rw [r1.int_inv,r2.int_inv],post.here hS (.int _)⟩
def GS(hc:X.calm=true):CallR X (.builtin "min") (Hd X.K (aT AM)):=CallR.imp (GM hc) λxs H Q ⟨μ,S,ds,d,S',hS,hr,hm,post⟩=>by
 obtain⟨rfl,hm⟩:=dB hm
 obtain⟨i,j,rfl,rfl⟩:=Pv (f:=λi j=>.int (if j<i then j else i)) hm
 obtain⟨v,w,rfl,r1,r2⟩:=hr.two
 exact⟨i,j,by rw [r1.int_inv,r2.int_inv],post.here hS (.int _)⟩
noncomputable def dc(c:List D->D)(S:ab):List D->Option D
 | [d]=>(iD S d).bind λxs=>Z (c xs)
 | _=>U
def tK{c:List D->D}{S:ab}{ds:List D}{d:D}(h:dc c S ds=Z d):∃ x xs,ds=[x]/\iD S x=Z xs/\d=c xs:=by
 match ds,h with
 | [x],h=>
  obtain⟨xs,h1,h⟩:=Ui.mp h
  cases h
  exact⟨x,xs,rfl,h1,rfl⟩
 | [],h=>cases h
 | _::_::_,h=>cases h
def GV:CallR X (.type "list") (Hd X.K (aT (dc .lst))):=CallR.imp yF λxs H Q ⟨μ,S,ds,d,S',hS,hr,hm,post⟩=>by
 obtain⟨rfl,hm⟩:=dB hm
 obtain⟨x,ys,rfl,h1,rfl⟩:=tK hm
 obtain⟨v,rfl,r⟩:=hr.one
 obtain⟨a,vs,rfl,hq,r⟩:=ju hS r h1
 exact⟨a,vs,rfl,hq,λl hl=>post.lst hS hl r⟩
def Dh:CallR X (.type "tuple") (Hd X.K (aT (dc .tup))):=CallR.imp uO λxs H Q ⟨μ,S,ds,d,S',hS,hr,hm,post⟩=>by
 obtain⟨rfl,hm⟩:=dB hm
 obtain⟨x,ys,rfl,h1,rfl⟩:=tK hm
 obtain⟨v,rfl,r⟩:=hr.one
 cases x with
 | tup zs=>
  cases h1
  have r':=r
  obtain⟨a,vs,rfl,q,r⟩:=r.sqT
  exact⟨a,vs,rfl,.inr ⟨q,post.here hS r'⟩⟩
 | lst zs=>
  cases h1
  obtain⟨a,vs,rfl,q,n,r⟩:=r.sqL
  exact⟨a,vs,rfl,.inl ⟨.inl (.inl q),λl hl=>post.tup hS hl r⟩⟩
 | rol zs=>
  cases h1
  obtain⟨a,vs,rfl,q,r⟩:=r.sqR
  exact⟨a,vs,rfl,.inl ⟨q,λl hl=>post.tup hS hl r⟩⟩
 | ref i=>
  simp only [iD] at h1
  cases r with
  | @ref a _ h'=>
   cases q:S'[i]? with
   | none=>rw [q] at h1;cases h1
   | some c=>
    rw [q] at h1
    have ck:=hS.cell i a c h' q
    cases c with
    | lst xs=>cases h1;obtain⟨vs,e,r⟩:=ck;exact⟨a,vs,rfl,.inl ⟨.inl (.inl e),λl hl=>post.tup hS hl r⟩⟩
    | dct ks xs=>cases h1
 | _=>cases h1
noncomputable def gO:List D->Option (List Bool)
 | []=>Z []
 | .bl b::r=>(gO r).bind λbs=>Z (b::bs)
 | _=>U
noncomputable def uK(S:ab):List D->Option D
 | [.lst xs]=>(gO xs).bind λbs=>Z (.bl (bs.all id))
 | _=>U
noncomputable def AR(S:ab):List D->Option D
 | [.lst xs]=>(gO xs).bind λbs=>Z (.bl (bs.any id))
 | _=>U
theorem lZ:∀ {vs:List V} {ds:List D} {us:List Value} {bs:List Bool},Reps K μ H vs ds->Vals vs us->gO ds=Z bs->LSm.BoolsAre us bs
 | _,_,_,_,.nil,.nil,h=>by cases h;exact .nil
 | _,_,_,_,.cons (d:=d) r t,.cons rv tv,h=>by
  cases d <;> first | cases h | skip
  obtain⟨cs,h1,h⟩:=Ui.mp h
  cases h
  cases r;cases rv
  exact .cons _ (lZ t tv h1)
def Lq(hc:X.calm=true):CallR X (.builtin "all") (Hd X.K (aT uK)):=by
 intro pins s σ H xs us Q I rv h
 obtain⟨μ,S,ds,d,S',hS,hr,hm,post⟩:=h
 obtain⟨rfl,hm⟩:=dB hm
 match ds,hr,hm with
 | [D.lst zs],hr,hm=>
  obtain⟨v,rfl,r⟩:=hr.one
  obtain⟨bs,h1,hm⟩:=Ui.mp hm
  cases hm
  obtain⟨u,rfl,ru⟩:=jL rv
  obtain⟨a,vs,rfl,q,n,r⟩:=r.sqL
  cases ru
  obtain⟨its,rv',pl,hz⟩:=I.list (.inl (.inl q))
  have hl:=pl.isList
  have hb:=lZ r rv' h1
  have hlt:a<s.heap.objs.size:=by obtain⟨_,e,_⟩:=hl;exact UA e
  refine call_all_walk (We hl ?_)
  refine⟨s.heap.objs.size,[s.heap.objs.size,a],[s.heap.objs.size],its.toArray.size,_,_,λi=>(bs[i]?).getD true,rfl,Walks.list (A:=X.A.in1) (I.ok.hd hc) _ a (UR hlt) its.toArray,
   ⟨⟨_,UG _ rfl,rfl,rfl⟩,hl.push _⟩,λi v s' Q' E' hP hQ=>?_,λh' tk hk=>?_⟩
  ·obtain⟨b,e,rfl⟩:=hb.get i v (by simpa using hP)
   simp only [e,Xm] at hQ
   exact VD hQ
  ·have e:((List.range its.toArray.size).all λi=>(bs[i]?).getD true)=bs.all id:=by
    rw [Um,hb.length];exact LSm.range_all bs
   rw [e]
   exact⟨.bl _,H,I.kept (LSm.kept_iter hk),rfl,post.here hS (.bl _)⟩
 | [D.non],hr,hm=>cases hm
 | [D.bl _],hr,hm=>cases hm
 | [D.int _],hr,hm=>cases hm
 | [D.str _],hr,hm=>cases hm
 | [D.dct _ _],hr,hm=>cases hm
 | [D.tup _],hr,hm=>cases hm
 | [D.rol _],hr,hm=>cases hm
 | [D.ref _],hr,hm=>cases hm
 | [],hr,hm=>cases hm
 | a::b::c,hr,hm=>simp [uK] at hm
noncomputable def tyD(S:ab):D->Option String
 | .non=>Z "NoneType"
 | .bl _=>Z "bool"
 | .int _=>Z "int"
 | .str _=>Z "str"
 | .tup _=>Z "tuple"
 | .lst _=>Z "list"
 | .rol _=>Z "list"
 | .dct _ _=>Z "dict"
 | .ref r=>match S[r]? with | some (.lst _)=>Z "list" | some (.dct _ _)=>Z "dict" | none=>U
def JB(T:String)(t:String):Bool:=t == T||(t == "bool" && T == "int")
noncomputable def tL(T:String)(S:ab)(d:D):Option D:=(tyD S d).bind λt=>Z (.bl (JB T t))
noncomputable def ir(T:String)(m:ME):ME:=λenv S=>(m env S).bind λp=>(tL T p.2 p.1).bind λd=>Z (d,p.2)
def ES{S:ab}{d:D}{t:String}(h:tyD S d=Z t):t = "NoneType"\/t = "bool"\/t = "int"\/t = "str"\/t = "tuple"\/t = "list"\/t = "dict":=by
 cases d <;> simp only [tyD] at h <;> first | (cases h;simp) | (split at h <;> first | (cases h;simp) | cases h)
def Nm(K:W.Frag){T t:String}(hT:T = "int"\/T = "bool"\/T = "str"\/T = "tuple"\/T = "list"\/T = "dict")(ht:t = "NoneType"\/t = "bool"\/t = "int"\/t = "str"\/t = "tuple"\/t = "list"\/t = "dict") :
  W.kitOne K (.type t) (.type T)=Z (JB T t):=by
 rcases hT with rfl | rfl | rfl | rfl | rfl | rfl <;> rcases ht with rfl | rfl | rfl | rfl | rfl | rfl | rfl <;> rfl
def kia_D{pins:List (Addr×Obj)}{σ:L2.St}{s:Shared}{v:V}{u:Value}{d:D}{t:String}{b:Bool}{c:Value}{Q:Value->Shared->Prop}{E:Value->Shared->Prop}(I:Inv X pins σ H s)(hS:SOk X.K μ S H)(r:Rep X.K μ H v d)(ru:RelV v u)(ht:tyD S d=Z t)
  (e:W.kitOne X.K (.type t) c=Z b) (h:∀ tk,Q (.bool b) { s with toks:=tk }):wpAny (model X.prog X.w) X.A (call (.builtin "isinstance") [u,c]) Q E s:=by
 have tupK:∀ {a:Addr} {vs:List V},oo X.K H a vs->W.KitAt a "tuple" s.heap:=λ{a vs} q=>by
  obtain⟨its,_,⟨o,h1,h2,_⟩,_⟩:=I.tuple q;exact⟨o,h1,h2⟩
 have lstK:∀ {a:Addr} {vs:List V},mU X.K H a vs->W.KitAt a "list" s.heap:=λ{a vs} q=>by
  obtain⟨its,_,⟨o,n,h1,h2,_⟩,_⟩:=I.list q;exact⟨o,h1,h2⟩
 have dK:∀ {a:Addr} {kvs:List (bC×V)},H a=Z (.dK kvs)->W.KitAt a "dict" s.heap:=λ{a kvs} q=>by
  obtain⟨_,_,vs,_,p⟩:=(show ObjOk X.prog X.w H s.heap a (.dK kvs) from I.hok a _ q)
  obtain⟨o,es,ep,h1,h2,_⟩:=p
  exact⟨o,h1,h2.1⟩
 cases r with
 | non=>cases ht;cases ru;exact VU W.kitx_none I.kIn True.intro e (λz=>nomatch z) h
 | bl y=>cases ht;cases ru;exact VU W.kitx_bool I.kIn True.intro e (λz=>nomatch z) h
 | int i=>cases ht;obtain⟨t,rfl⟩:=ru;exact VU W.kitx_int I.kIn True.intro e (λz=>nomatch z) h
 | str y=>cases ht;obtain⟨t,rfl⟩:=ru;exact VU W.kitx_str I.kIn True.intro e (λz=>nomatch z) h
 | tup q n r=>cases ht;cases ru;exact VU W.kitx_tuple I.kIn (tupK (.inl (.inl q))) e (λz=>nomatch z) h
 | ktup q r=>cases ht;cases ru;exact VU W.kitx_tuple I.kIn (tupK (.inr q)) e (λz=>nomatch z) h
 | lst q n r=>cases ht;cases ru;exact VU Xt I.kIn (lstK (.inl (.inl q))) e (λz=>nomatch z) h
 | rol q n r=>cases ht;cases ru;exact VU Xt I.kIn (lstK (.inl q)) e (λz=>nomatch z) h
 | krol q r=>cases ht;cases ru;exact VU Xt I.kIn (lstK (.inr q)) e (λz=>nomatch z) h
 | dct q n r=>cases ht;cases ru;exact VU W.kitx_dict I.kIn (dK q) e (λz=>nomatch z) h
 | @ref a i h'=>
  cases ru
  simp only [tyD] at ht
  cases q:S[i]? with
  | none=>rw [q] at ht;cases ht
  | some c'=>
   rw [q] at ht
   have ck:=hS.cell i a c' h' q
   cases c' with
   | lst xs=>cases ht;obtain⟨vs,q,r⟩:=ck;exact VU Xt I.kIn (lstK (.inl (.inl q))) e (λz=>nomatch z) h
   | dct ks xs=>cases ht;obtain⟨kvs,q,r⟩:=ck;exact VU W.kitx_dict I.kIn (dK q) e (λz=>nomatch z) h
def GB{a:Expr}{ma:ME}{T:String}{x:Str}{p p2 pos:Pos}(hm:X.mg "isinstance" = U)(hmT:X.mg x=U)(hb:bootBuiltins x=Z (.type T))(ha:DE X a ma)
  (hT:T = "int"\/T = "bool"\/T = "str"\/T = "tuple"\/T = "list"\/T = "dict":=by simp)
  (hg:Gl X "isinstance":=by rfl) (hgT:Gl X x:=by rfl) (hn:x ≠ "__name__":=by decide) (hd:(x == ("__debug__":Str))=false:=by decide)
  (hs1:starEach [a,.Name x p2] X.env=(false,eval a X.env)::starEach [.Name x p2] X.env:=by rfl) (hs2:starEach [.Name x p2] X.env=(false,eval (.Name x p2) X.env)::starEach [] X.env:=by rfl) (hpl:(backTo pos (starEach [.Name x p2] X.env)).any (·.1)=false:=by rfl) :
  DE X (.Call (.Name "isinstance" p) [a,.Name x p2] [] pos) (ir T ma):=by
 have hc:CallR X (.builtin "isinstance") (λvs H Q=>∃ v μ S d t,vs=[v,.ty T]/\SOk X.K μ S H/\Rep X.K μ H v d/\tyD S d=Z t/\Q (.bl (JB T t)) H):=by
  intro pins s σ H xs us Q I rv h
  obtain⟨v,μ,S,d,t,rfl,hS,r,ht,q⟩:=h
  obtain⟨u,w',rfl,r1,r2⟩:=Hv rv
  cases r2
  exact kia_D I hS r r1 ht (Nm _ hT (ES ht)) λtk=>⟨.bl _,H,I.tok _,rfl,q⟩
 refine PE.imp (rX hc hg hm boot_isinstance (qV ha (qV (Mz (v:=.ty T) hgT hmT hb rfl hn hd) BW hs2) hs1) (by decide) (by decide) hs1 hpl) λσ H Q ⟨μ,S,env,d,S',hS,hE,hm,post⟩=>?_
 obtain⟨⟨x,S1⟩,h1,hm⟩:=Ui.mp hm
 obtain⟨z,h2,hm⟩:=Ui.mp hm
 cases hm
 obtain⟨t,h3,h2⟩:=Ui.mp h2
 cases h2
 exact⟨μ,S,env,x,S1,hS,hE,h1,λv H1 μ1 e1 s1 r1=>⟨v,μ1,S1,x,t,rfl,s1,r1,h3,post _ H1 μ1 e1 s1 (.bl _)⟩⟩
end
section
variable{X:Cx}{K:W.Frag}{μ μ':Fp}{H H':Hp}{S:ab}
noncomputable def HR(K:W.Frag)(n:Nat)(f:List D->ab->Option (D×ab)):Sp:=λvs H Q _=>∃ μ S ds d S',SOk K μ S H/\Reps K μ H vs ds/\ds.length=n/\f ds S=Z (d,S')/\Post K μ H S' d Q
structure Fn(P:Program)(w:World)(K:W.Frag)(mg:Str->Option Value)(base:Heap)(k:Nat)(x:Str)(n:Nat)(f:List D->ab->Option (D×ab)):Prop where
 ex:∃ (a:Addr) (fd:FuncData) (ps:List Str),ps.length=n/\FnOk P w K mg base EQ k a fd ps (HR K n f)/\mg x=Z (.ref a)/\W.keepIn K (.ref a)=true/\Binds K fd ps []
noncomputable def ai(n:Nat)(f:List D->ab->Option (D×ab))(ms:MA):ME:=λenv S=>(ms env S).bind λp=>if p.1.length=n then f p.1 p.2 else U
def yY{n:Nat}{f:List D->ab->Option (D×ab)}{ms:MA}{σ:L2.St}{Q:VK}(h:tM K (ai n f ms) σ H Q):Du (HR K n f) [] E0 (tMA K ms) σ H Q:=by
 obtain⟨μ,S,env,d,S',hS,hE,hm,post⟩:=h
 obtain⟨⟨xs,S1⟩,h1,hm⟩:=Ui.mp hm
 dsimp only at hm
 split at hm
 ·rename_i hn
  refine⟨μ,S,env,xs,S1,hS,hE,h1,λvs H1 μ1 e1 s1 r1=>?_⟩
  show HR K n f (vs++[]) H1 Q E0
  rw [UX]
  exact⟨μ1,S1,xs,d,S',s1,r1,hn,hm,post.ext e1⟩
 ·cases hm
def Oy{k n:Nat}{x:Str}{f:List D->ab->Option (D×ab)}{e:Expr}{es:List Expr}{ms:MA}{p pos:Pos}(F:Fn X.prog X.w X.K X.mg X.base k x n f)(hr:Room k X.A)(ha:DA X (e::es) ms)(hg:Gl X x:=by rfl)
  (hdb:(x == ("__debug__":Str))=false:=by decide) (he:starEach (e::es) X.env=(false,eval e X.env)::starEach es X.env:=by rfl) (hpl:(backTo pos (starEach es X.env)).any (·.1)=false:=by rfl) :
  DE X (.Call (.Name x p) (e::es) [] pos) (ai n f ms):=by
 obtain⟨a,fd,ps,hn,F,hm,hk,hb⟩:=F.ex
 exact PE.imp (My F hr hg hm hk hb .nil IB ha hdb he hpl) λ_ _ _ h=>yY h
def La{k:Nat}{x:Str}{f:List D->ab->Option (D×ab)}{p pos:Pos}(F:Fn X.prog X.w X.K X.mg X.base k x 0 f)(hr:Room k X.A)(hg:Gl X x:=by rfl)
  (hdb:(x == ("__debug__":Str))=false:=by decide):DE X (.Call (.Name x p) [] [] pos) (ai 0 f ag):=by
 obtain⟨a,fd,ps,hn,F,hm,hk,hb⟩:=F.ex
 refine PE.imp (IA F hr hg hm hk hb .nil IB hdb) λσ H Q h=>?_
 obtain⟨μ,S,env,d,S',hS,hE,hm,post⟩:=h
 exact⟨μ,S,[],d,S',hS,.nil,rfl,hm,post⟩
mutual
noncomputable def lW(n:Nat):D->Bool
 | .tup xs=>closDs n xs
 | .lst xs=>closDs n xs
 | .rol xs=>closDs n xs
 | .dct _ xs=>closDs n xs
 | .ref r=>decide (r<n)
 | _=>true
noncomputable def closDs(n:Nat):List D->Bool
 | []=>true
 | d::ds=>lW n d&&closDs n ds
end
noncomputable def wD(n:Nat):ui->Bool
 | .lst xs=>closDs n xs
 | .dct _ xs=>closDs n xs
mutual
theorem Rep.trunc{cs l fb:List Addr}:∀ {v:V} {d:D},Rep K ⟨cs++l,fb⟩ H v d->lW cs.length d=true->Rep K ⟨cs,fb⟩ H v d
 | _,_,.non,_=>.non
 | _,_,.bl b,_=>.bl b
 | _,_,.int i,_=>.int i
 | _,_,.str x,_=>.str x
 | _,_,.tup h n r,c=>.tup h ⟨λz=>n.1 (US _ z),n.2⟩ (Reps.trunc r (by simpa only [lW] using c))
 | _,_,.ktup h r,c=>.ktup h (Reps.trunc r (by simpa only [lW] using c))
 | _,_,.lst h n r,c=>.lst h ⟨λz=>n.1 (US _ z),n.2⟩ (Reps.trunc r (by simpa only [lW] using c))
 | _,_,.rol h n r,c=>.rol h ⟨λz=>n.1 (US _ z),n.2⟩ (Reps.trunc r (by simpa only [lW] using c))
 | _,_,.krol h r,c=>.krol h (Reps.trunc r (by simpa only [lW] using c))
 | _,_,.dct h n r,c=>.dct h ⟨λz=>n.1 (US _ z),n.2⟩ (Reps.trunc r (by simpa only [lW] using c))
 | _,_,.ref h,c=>.ref (by
   have hl:=Us c
   have h:(cs++l)[_]?=Z _:=h
   rw [UM hl] at h
   exact h)
theorem Reps.trunc{cs l fb:List Addr}:∀ {vs:List V} {ds:List D},Reps K ⟨cs++l,fb⟩ H vs ds->closDs cs.length ds=true->Reps K ⟨cs,fb⟩ H vs ds
 | _,_,.nil,_=>.nil
 | _,_,.cons h t,c=>by
  rw [closDs,Uk] at c
  exact .cons (Rep.trunc h c.1) (Reps.trunc t c.2)
end
mutual
theorem Rep.closed:∀ {v:V} {d:D},Rep K μ H v d->lW μ.cs.length d=true
 | _,_,.non=>rfl
 | _,_,.bl b=>rfl
 | _,_,.int i=>rfl
 | _,_,.str x=>rfl
 | _,_,.tup h n r=>Reps.closed r
 | _,_,.ktup h r=>Reps.closed r
 | _,_,.lst h n r=>Reps.closed r
 | _,_,.rol h n r=>Reps.closed r
 | _,_,.krol h r=>Reps.closed r
 | _,_,.dct h n r=>Reps.closed r
 | _,_,.ref h=>Uo (Uj.mp h).1
theorem Reps.closed:∀ {vs:List V} {ds:List D},Reps K μ H vs ds->closDs μ.cs.length ds=true
 | _,_,.nil=>rfl
 | _,_,.cons h t=>by rw [closDs,Rep.closed h,Reps.closed t];rfl
end
theorem SOk.closed(s:SOk K μ S H):∀ c∈S,wD S.length c=true:=λc hc=>by
 obtain⟨r,hr⟩:=Wk.mp hc
 have hl:=(Uj.mp hr).1
 have hl':r < μ.cs.length:=by rw [s.len];exact hl
 have:=s.cell r _ c (Uq hl') hr
 cases c with
 | lst ds=>obtain⟨vs,_,q⟩:=this;rw [<- s.len];exact q.closed
 | dct ks ds=>obtain⟨vs,_,_,q⟩:=this;rw [<- s.len];exact q.closed
theorem SOk.trunc{S' g:ab}(s:SOk K μ (S'++g) H)(hc:∀ c∈S',wD S'.length c=true):∃ cs l,μ.cs=cs++l/\cs.length=S'.length/\SOk K ⟨cs,μ.fb⟩ S' H:=by
 obtain⟨cs0,fb⟩:=μ
 have hlen:cs0.length=S'.length+g.length:=by have:=s.len;simpa using this
 have hcl:(cs0.take S'.length).length=S'.length:=by rw [VX];omega
 refine⟨cs0.take S'.length,cs0.drop S'.length,(Wj _ _).symm,hcl,s.nd.sublist (List.take_sublist _ _),hcl,λr a c h1 h2=>?_,s.fdom,λa ha z=>s.disj a ha (Ve z)⟩
 have hr:=(Uj.mp h2).1
 have h1':cs0[r]?=Z a:=by
  have h1:(cs0.take S'.length)[r]?=Z a:=h1
  rwa [XG hr] at h1
 have ck:=s.cell r a c h1' (by rw [UM hr];exact h2)
 have cc:=hc c (UH h2)
 have e:cs0=cs0.take S'.length++cs0.drop S'.length:=(Wj _ _).symm
 cases c with
 | lst ds=>
  obtain⟨vs,q,r⟩:=ck
  have r':Reps K ⟨cs0.take S'.length++cs0.drop S'.length,fb⟩ H vs ds:=by rw [<- e];exact r
  exact⟨vs,q,r'.trunc (by rw [hcl];exact cc)⟩
 | dct ks ds=>
  obtain⟨vs,q,q2,r⟩:=ck
  have r':Reps K ⟨cs0.take S'.length++cs0.drop S'.length,fb⟩ H (vs.map (·.2)) ds:=by rw [<- e];exact r
  exact⟨vs,q,q2,r'.trunc (by rw [hcl];exact cc)⟩
theorem Post.trunc{S' g:ab}{d:D}{Q:VK}(post:Post K μ H S' d Q)(hd:lW S'.length d=true)(hc:∀ c∈S',wD S'.length c=true)(hl:μ.cs.length<=S'.length):Post K μ H (S'++g) d Q:=λv H' μ' e s r=>by
 obtain⟨cs,l,q,hcl,s'⟩:=s.trunc hc
 obtain⟨cs',fb'⟩:=μ'
 have q':cs'=cs++l:=q
 subst q'
 refine post v H' ⟨cs,fb'⟩ ⟨e.fb,?_,e.keep,λa ha=>e.dom a (US _ ha)⟩ s' (r.trunc (by rw [hcl];exact hd))
 obtain⟨l0,q0,h0⟩:=e.pre
 have q0:cs++l = μ.cs++l0:=q0
 have hle:μ.cs.length<=cs.length:=by rw [hcl];exact hl
 refine⟨cs.drop μ.cs.length,?_,λa ha=>h0 a ?_⟩
 ·have t1:(cs++l).take μ.cs.length = μ.cs:=by rw [q0];simp
  rw [List.take_append_of_le_length hle] at t1
  show cs = μ.cs++cs.drop μ.cs.length
  conv=>lhs;rw [<- Wj μ.cs.length cs,t1]
 ·have t2:(cs++l).drop μ.cs.length=l0:=by rw [q0];simp
  rw [<- t2,List.drop_append_of_le_length hle]
  exact US _ ha
def Runs(m:MS)(env:aW)(S:ab)(d:D)(S':ab):Prop:=
 ∃ o g,m env S=Z o/\(g=[]\/(lW S'.length d=true/\(∀ c∈S',wD S'.length c=true)/\S.length<=S'.length))/\(o=.rt d (S'++g)\/(d=.non/\∃ env',o=.nx env' (S'++g)))
def Runs.ret{m:MS}{env:aW}{S S':ab}{d:D}(h:m env S=Z (.rt d S')):Runs m env S d S':=⟨_,[],h,.inl rfl,.inl (by rw [UX])⟩
noncomputable def ay(N:List Str)(ds:List D):aW:=ds.map Z++List.replicate (N.length - ds.length) U
def Py{P:Program}{w:World}{mg:Str->Option Value}{base:Heap}{k:Nat}{x qual:Str}{st:Stmt}{a:Addr}{fd:FuncData}{N ps:List Str}{f:List D->ab->Option (D×ab)}
  (F:L2.Fun K x qual st a fd) (Sc:aM N ps (ar st))
  (hbody:∀ (cdv:Value) (A:Around) (outer:List PySem.Env) (s:Shared) (H:Hp) (E:XK),Room k (A.deeper (envOfC qual (ar st) s.heap.objs.size a cdv)) ->
   ∃ m,uR (uL EQ P w K mg base N qual (ar st) a cdv A outer s H E).nox (aF st) m/\∀ ds S d S',ds.length=ps.length->(∀ c∈S,wD S.length c=true)->closDs S.length ds=true->f ds S=Z (d,S')->Runs m (ay N ds) S d S') :
  FnOk P w K mg base EQ (k+1) a fd ps (HR K ps.length f):=by
 refine F.ok Sc (λvs H Q E h=>?_) (λcdv A outer s H vs Q E hr h=>?_)
 ·obtain⟨μ,S,ds,d,S',hS,hr,hn,hf,post⟩:=h
  rw [hr.length,hn]
 ·obtain⟨m,hm,run⟩:=hbody cdv A outer s H E hr
  refine⟨_,hm,?_⟩
  obtain⟨μ,S,ds,d,S',hS,hrp,hn,hf,post⟩:=h
  obtain⟨o,g,ho,hg,hend⟩:=run ds S d S' hn hS.closed (by rw [<- hS.len];exact hrp.closed) hf
  have post':Post K μ H (S'++g) d Q:=by
   rcases hg with rfl | ⟨c1,c2,c3⟩
   ·rw [UX];exact post
   ·exact post.trunc c1 c2 (by rw [hS.len];exact c3)
  have hEnv:EOk K μ H (L2.start N vs) (ay N ds):=by unfold L2.start ay;rw [hrp.length];exact EOk.start hrp
  rcases hend with rfl | ⟨rfl,env',rfl⟩
  ·exact⟨μ,S,_,_,hS,hEnv,ho,post'⟩
  ·exact⟨μ,S,_,_,hS,hEnv,ho,λσ' H' μ' e s' _=>post' .non H' μ' e s' .non⟩
def Pz{P:Program}{w:World}{mg:Str->Option Value}{base:Heap}{k:Nat}{x qual:Str}{st:Stmt}{a:Addr}{fd:FuncData}{N ps:List Str}{f:List D->ab->Option (D×ab)}
  (F:L2.Fun K x qual st a fd) (Sc:aM N ps (ar st)) (hmg:mg x=Z (.ref a)) (hb:Binds K fd ps [])
  (hbody:∀ (cdv:Value) (A:Around) (outer:List PySem.Env) (s:Shared) (H:Hp) (E:XK),Room k (A.deeper (envOfC qual (ar st) s.heap.objs.size a cdv)) ->
   ∃ m,uR (uL EQ P w K mg base N qual (ar st) a cdv A outer s H E).nox (aF st) m/\∀ ds S d S',ds.length=ps.length->(∀ c∈S,wD S.length c=true)->closDs S.length ds=true->f ds S=Z (d,S')->Runs m (ay N ds) S d S') :
  Fn P w K mg base (k+1) x ps.length f:=⟨a,fd,ps,rfl,Py F Sc hbody,hmg,F.kp,hb⟩
end
section
variable{X:Cx}{K:W.Frag}{μ μ':Fp}{H H':Hp}{S:ab}
def PostN.ext{S':ab}{env':aW}{Q:L2.St->Hp->Prop}(e:Ext μ H μ' H')(p:PostN K μ H S' env' Q):PostN K μ' H' S' env' Q:=λσ2 H2 μ2 e2 s r=>p σ2 H2 μ2 (e.trans e2) s r
theorem PostS.ext{o:oi}{E:uQ}(e:Ext μ H μ' H')(p:PostS K μ H o E):PostS K μ' H' o E:=by
 cases o with
 | nx env S=>exact PostN.ext e p
 | rt d S=>exact Post.ext e p
 | bk env S=>exact PostN.ext e p
 | ct env S=>exact PostN.ext e p
noncomputable def aR:MS:=λenv S=>Z (.nx env S)
noncomputable def aA(a b:MS):MS:=λenv S=>(a env S).bind λo=>match o with | .nx env' S'=>b env' S' | o=>Z o
def Oa:uR X [] aR:=PSs.imp Mk λE σ H ⟨μ,S,env,o,hS,hE,hm,post⟩=>by cases hm;exact post σ H μ hS.ext hS hE
def LO{a b:MS}{E:uQ}{σ:L2.St}(h:tMS K (aA a b) E σ H):tSeq (tMS K a) (tMS K b) E σ H:=by
 obtain⟨μ,S,env,o,hS,hE,hm,post⟩:=h
 obtain⟨o1,h1,hm⟩:=Ui.mp hm
 refine⟨μ,S,env,o1,hS,hE,h1,?_⟩
 cases o1 with
 | nx env' S'=>exact λσ' H' μ' e s r=>⟨μ',S',env',o,s,r,hm,post.ext e⟩
 | rt d S'=>cases hm;exact post
 | bk env' S'=>cases hm;exact post
 | ct env' S'=>cases hm;exact post
def KC{st:Stmt}{rest:List Stmt}{a b:MS}(h1:DS X st a)(h2:uR X rest b):uR X (st::rest) (aA a b):=PSs.imp (zk h1 h2) λ_ _ _ h=>LO h
def NZ{st:Stmt}{a:MS}(h1:DS X st a):uR X [st] a:=DB h1
variable{pos:Pos}{e c:Expr}{m:ME}{mt:MT}{a b:List Stmt}{ma mb:MS}
def Oc:DS X (.Pass pos) aR:=PS.imp Mm λE σ H ⟨μ,S,env,o,hS,hE,hm,post⟩=>by cases hm;exact post σ H μ hS.ext hS hE
def KF:DS X (.Break pos) (λenv S=>Z (.bk env S)):=PS.imp Ik λE σ H ⟨μ,S,env,o,hS,hE,hm,post⟩=>by cases hm;exact post σ H μ hS.ext hS hE
def AV:DS X (.Continue pos) (λenv S=>Z (.ct env S)):=PS.imp zm λE σ H ⟨μ,S,env,o,hS,hE,hm,post⟩=>by cases hm;exact post σ H μ hS.ext hS hE
def Tj{x j p}:DS X (.Expr (.Constant (.str x) j p) pos) aR:=PS.imp QH λE σ H ⟨μ,S,env,o,hS,hE,hm,post⟩=>by cases hm;exact post σ H μ hS.ext hS hE
noncomputable def aJ(m:ME):MS:=λenv S=>(m env S).bind λp=>Z (.rt p.1 p.2)
def Tg(he:DE X e m):DS X (.Return (Z e) pos) (aJ m):=PS.imp (Ii he) λE σ H ⟨μ,S,env,o,hS,hE,hm,post⟩=>by
 obtain⟨⟨d,S1⟩,h1,hm⟩:=Ui.mp hm
 cases hm
 exact⟨μ,S,env,d,S1,hS,hE,h1,post⟩
def Ob:DS X (.Return U pos) (λ_ S=>Z (.rt .non S)):=PS.imp Ml λE σ H ⟨μ,S,env,o,hS,hE,hm,post⟩=>by cases hm;exact Post.here post hS .non
noncomputable def fJ(m:ME):MS:=λenv S=>(m env S).bind λp=>Z (.nx env p.2)
def Of(he:DE X e m)(hs:swapsWith e U pos.line X.env=pure false:=by rfl):DS X (.Expr e pos) (fJ m):=PS.imp (Mn he hs) λE σ H ⟨μ,S,env,o,hS,hE,hm,post⟩=>by
 obtain⟨⟨d,S1⟩,h1,hm⟩:=Ui.mp hm
 cases hm
 exact⟨μ,S,env,d,S1,hS,hE,h1,λv H' μ' ex s r=>post σ H' μ' ex s (hE.mono ex)⟩
noncomputable def bu(t:MT)(a b:MS):MS:=λenv S=>(t env S).bind λp=>if p.1=true then a env p.2 else b env p.2
def ds_if(hc:DT X c mt)(ha:uR X a ma)(hb:uR X b mb):DS X (.If c a b pos) (bu mt ma mb):=PS.imp (ps_if hc ha hb) λE σ H ⟨μ,S,env,o,hS,hE,hm,post⟩=>by
 obtain⟨⟨k,S1⟩,h1,hm⟩:=Ui.mp hm
 refine⟨μ,S,env,k,S1,hS,hE,h1,λH1 μ1 e1 s1=>?_⟩
 cases k with
 | true=>rw [if_pos rfl] at hm ⊢;exact⟨μ1,S1,env,o,s1,hE.mono e1,hm,post.ext e1⟩
 | false=>rw [if_neg Bool.false_ne_true] at hm ⊢;exact⟨μ1,S1,env,o,s1,hE.mono e1,hm,post.ext e1⟩
abbrev MG:=D->aW->ab->Option (aW×ab)
abbrev ug:=List D->aW->ab->Option (aW×ab)
inductive HE(K:W.Frag)(g:MG)(v:V)(σ:L2.St)(H:Hp)(Q:L2.St->Hp->Prop):Prop
 | mk (μ:Fp) (S:ab) (env:aW) (d:D) (env':aW) (S':ab) (hS:SOk K μ S H) (hE:EOk K μ H σ env) (h1:Rep K μ H v d) (h:g d env S=Z (env',S')) (post:PostN K μ H S' env' Q)
inductive tMGs(K:W.Frag)(g:ug)(vs:List V)(σ:L2.St)(H:Hp)(Q:L2.St->Hp->Prop):Prop
 | mk (μ:Fp) (S:ab) (env:aW) (ds:List D) (env':aW) (S':ab) (hS:SOk K μ S H) (hE:EOk K μ H σ env) (h1:Reps K μ H vs ds) (h:g ds env S=Z (env',S')) (post:PostN K μ H S' env' Q)
def DG(X:Cx)(tg:Expr)(g:MG):Prop:=PG X tg (HE X.K g)
def Ug(X:Cx)(tg:List Expr)(g:ug):Prop:=PGs X tg (tMGs X.K g)
def PG.imp{tg:Expr}{t t':TG}(h:PG X tg t)(i:∀ v σ H Q,t' v σ H Q->t v σ H Q):PG X tg t':=λpins s σ H v u Q I r q=>h pins s σ H v u Q I r (i v σ H Q q)
def PGs.imp{tg:List Expr}{t t':PU}(h:PGs X tg t)(i:∀ v σ H Q,t' v σ H Q->t v σ H Q):PGs X tg t':=λpins s σ H v u Q I r q=>h pins s σ H v u Q I r (i v σ H Q q)
noncomputable def ah(i:Nat):MG:=λd env S=>Z (env.set i (Z d),S)
def EF{i:Nat}{x:Str}(hN:X.N.Nodup)(hi:X.N[i]?=Z x)(hx:Lz X.env.scope x)(hf:X.fn x=true\/X.env.scope.names.lookup x=Z .local:=by first | exact .inl rfl | exact .inr rfl | assumption):DG X (.Name x pos) (ah i):=
 PG.imp (Mu hN hi hx hf) λv σ H Q ⟨μ,S,env,d,env',S',hS,hE,hr,hm,post⟩=>by cases hm;exact post _ H μ hS.ext hS (hE.set hr i)
noncomputable def aQ:ug:=λds env S=>match ds with | []=>Z (env,S) | _=>U
noncomputable def af(g:MG)(gs:ug):ug:=λds env S=>match ds with | d::r=>(g d env S).bind λp=>gs r p.1 p.2 | []=>U
def On:Ug X [] aQ:=PGs.imp Mt λv σ H Q ⟨μ,S,env,ds,env',S',hS,hE,hr,hm,post⟩=>by
 cases hr with
 | nil=>cases hm;exact⟨rfl,post σ H μ hS.ext hS hE⟩
 | cons _ _=>cases hm
def KN{t:Expr}{ts:List Expr}{g:MG}{gs:ug}(h1:DG X t g)(h2:Ug X ts gs)(hs:(assignEach (t::ts) X.env).map (·.2)=assign t X.env::(assignEach ts X.env).map (·.2):=by rfl):Ug X (t::ts) (af g gs):=
 PGs.imp (Ip h1 h2 hs) λv σ H Q ⟨μ,S,env,ds,env',S',hS,hE,hr,hm,post⟩=>by
  cases hr with
  | nil=>cases hm
  | @cons v d vs ds h t=>
   obtain⟨⟨env1,S1⟩,h1,hm⟩:=Ui.mp hm
   exact⟨v,vs,rfl,μ,S,env,d,env1,S1,hS,hE,h,h1,λσ1 H1 μ1 e1 s1 r1=>⟨μ1,S1,env1,ds,env',S',s1,r1,t.mono e1,hm,post.ext e1⟩⟩
noncomputable def aY(n:Nat)(gs:ug):MG:=λd env S=>match d with | .tup xs=>if xs.length=n then gs xs env S else U | _=>U
def To{es:List Expr}{k n:Nat}{gs:ug}(hc:X.calm=true)(h:Ug X es gs)(hn:(assignEach es X.env).length=n:=by rfl)(hst:(assignEach es X.env).findIdx? (·.1)=U:=by rfl):DG X (.Tuple es k pos) (aY n gs):=
 PG.imp (QK hc h hn hst) λv σ H Q ⟨μ,S,env,d,env',S',hS,hE,hr,hm,post⟩=>by
  cases d with
  | tup xs=>
   simp only [aY] at hm
   split at hm
   ·rename_i hl
    obtain⟨a,vs,rfl,q,r⟩:=hr.sqT
    exact⟨a,vs,rfl,q,by rw [r.length];exact hl,μ,S,env,xs,env',S',hS,hE,r,hm,post⟩
   ·cases hm
  | _=>cases hm
noncomputable def dS(o i:ME):MG:=λd env S=>(o env S).bind λp=>(i env p.2).bind λq=>match p.1,q.1 with
 | .ref r,.int k=>match q.2[r]? with
  | some (.lst xs)=>(CH xs.length k).bind λj=>Z (env,q.2.set r (.lst (xs.set j d)))
  | _=>U
 | _,_=>U
def Tp{o i:Expr}{mo mi:ME}(ho:DE X o mo)(hi:DE X i mi)(ha:∀ v,assign (.Subscript o i pos) X.env v=(do
   let ov <- holding [v] (eval o X.env)
   let iv <- holding [v,ov] (eval i X.env)
   standAt pos
   holding [v,ov,iv] (setItem ov iv v)
   release [v,ov,iv] []):=by intro _;rfl):DG X (.Subscript o i pos) (dS mo mi):=
 PG.imp (QL ho hi HS ha) λv σ H Q ⟨μ,S,env,d,env',S',hS,hE,hr,hm,post⟩=>by
  obtain⟨⟨x,S1⟩,h1,hm⟩:=Ui.mp hm
  obtain⟨⟨y,S2⟩,h2,hm⟩:=Ui.mp hm
  refine⟨μ,S,env,x,S1,hS,hE,h1,λv1 H1 μ1 e1 s1 r1=>⟨μ1,S1,env,y,S2,s1,hE.mono e1,h2,λv2 H2 μ2 e2 s2 r2=>?_⟩⟩
  cases x with
  | ref r=>
   cases y with
   | int k=>
    dsimp only at hm
    cases q:S2[r]? with
    | none=>rw [q] at hm;cases hm
    | some c=>
     rw [q] at hm
     cases c with
     | lst xs=>
      obtain⟨j,h3,hm⟩:=Ui.mp hm
      cases hm
      have r1':=r1.mono e2
      cases r1' with
      | @ref a _ h'=>
       obtain⟨vs,hv,rv⟩:=s2.cell r a _ h' q
       have rd:=(hr.mono e1).mono e2
       obtain⟨e3,s3⟩:=s2.write h' hv (rv.set rd j)
       exact⟨a,vs,k,j,rfl,r2.int_inv,hv,by rw [rv.length];exact h3,post σ _ μ2 ((e1.trans e2).trans e3) s3 (hE.mono ((e1.trans e2).trans e3))⟩
     | dct ks xs=>cases hm
   | _=>cases hm
  | _=>cases hm
noncomputable def aS(m:ME)(g:MG):MS:=λenv S=>(m env S).bind λp=>(g p.1 env p.2).bind λq=>Z (.nx q.1 q.2)
def LQ{g:MG}{E:uQ}{σ:L2.St}(h:tMS K (aS m g) E σ H):HH (tM K m) (HE K g) E σ H:=by
 obtain⟨μ,S,env,o,hS,hE,hm,post⟩:=h
 obtain⟨⟨d,S1⟩,h1,hm⟩:=Ui.mp hm
 obtain⟨⟨env2,S2⟩,h2,hm⟩:=Ui.mp hm
 cases hm
 exact⟨μ,S,env,d,S1,hS,hE,h1,λv H1 μ1 e1 s1 r1=>⟨μ1,S1,env,d,env2,S2,s1,hE.mono e1,r1,h2,PostN.ext e1 post⟩⟩
def KH{tg:Expr}{g:MG}(he:DE X e m)(hg:DG X tg g)(hs:swapsWithSole [tg] e pos.line X.env=pure false:=by rfl)(hw:swappedStores [tg] e X.env=pure U:=by rfl)
  (h1:(assignEach [tg] X.env).map (·.2)=[assign tg X.env]:=by rfl):DS X (.Assign [tg] e pos) (aS m g):=PS.imp (QI he hg hs hw h1) λ_ _ _ h=>LQ h
def CV{i:Nat}{x:Str}{pos':Pos}(hN:X.N.Nodup)(hi:X.N[i]?=Z x)(hx:Lz X.env.scope x)(he:DE X e m)(hs:swapsWith e (Z (.Name x pos')) pos.line X.env=pure false:=by rfl)(hf:X.fn x=true\/X.env.scope.names.lookup x=Z .local:=by first | exact .inl rfl | exact .inr rfl | assumption) :
  DS X (.Assign [.Name x pos'] e pos) (aS m (ah i)):=PS.imp (Ih hN hi hx he hs hf) λE σ H h=>by
 obtain⟨μ,S,env,o,hS,hE,hm,post⟩:=h
 obtain⟨⟨d,S1⟩,h1,hm⟩:=Ui.mp hm
 cases hm
 exact⟨μ,S,env,d,S1,hS,hE,h1,λv H1 μ1 e1 s1 r1=>post _ H1 μ1 e1 s1 ((hE.mono e1).set r1 i)⟩
structure ExtP(μ:Fp)(H:Hp)(μ':Fp)(H':Hp):Prop where
 fb:∃ l,μ'.fb=l++μ.fb/\∀ a∈l,H a=U
 pre:∃ l,μ'.cs = μ.cs++l/\∀ a∈l,H a=U
 keep:∀ a o,a ∉ μ.cs->H a=Z o->H' a=Z o
 dom:∀ a ∈ μ'.cs,H' a≠U
def Ext.toP(e:Ext μ H μ' H'):ExtP μ H μ' H':=⟨⟨[],by rw [e.fb];rfl,λ_ z=>by simp at z⟩,e.pre,e.keep,e.dom⟩
def ExtP.stays(e:ExtP μ H μ' H'){a:Addr}{o:HO}(h:H a=Z o)(n:μ.no a):H' a=Z o/\μ'.no a:=by
 refine⟨e.keep a o n.1 h,λz=>?_,λz=>?_⟩
 ·obtain⟨l,q,hl⟩:=e.pre
  rw [q] at z
  rcases UJ.mp z with z | z
  ·exact n.1 z
  ·rw [hl a z] at h;cases h
 ·obtain⟨l,q,hl⟩:=e.fb
  rw [q] at z
  rcases UJ.mp z with z | z
  ·rw [hl a z] at h;cases h
  ·exact n.2 z
def ExtP.then{μ'':Fp}{H'':Hp}(e:ExtP μ H μ' H')(f:Ext μ' H' μ'' H''):ExtP μ H μ'' H'':=by
 obtain⟨l,q,hl⟩:=e.pre
 obtain⟨l',q',hl'⟩:=f.pre
 refine⟨by rw [f.fb];exact e.fb,⟨l++l',by rw [q',q,Vw],λa ha=>?_⟩,λa o n h=>?_,f.dom⟩
 ·rcases UJ.mp ha with ha | ha
  ·exact hl a ha
  ·have h1:=hl' a ha
   cases q2:H a with
   | none=>rfl
   | some o=>
    by_cases hm:a ∈ μ.cs
    ·exact absurd h1 (e.dom a (by rw [q];exact US _ hm))
    ·rw [e.keep a o hm q2] at h1;cases h1
 ·have h1:=e.keep a o n h
  refine f.keep a o (λz=>?_) h1
  rw [q] at z
  rcases UJ.mp z with z | z
  ·exact n z
  ·rw [hl a z] at h;cases h
def ExtP.chg{p:Addr}{o:HO}(e:ExtP μ H μ' H')(hp:H p=U):ExtP μ H μ' (upd H' p o):=
 ⟨e.fb,e.pre,λa o' n h=>by rw [bh (bW h hp)];exact e.keep a o' n h,λa ha=>by
  by_cases z:a=p
  ·subst z;rw [bo];simp
  ·rw [bh z];exact e.dom a ha⟩
def ExtP.ix(e:ExtP μ H μ' H'){r:Nat}{a:Addr}(h:μ.cs[r]?=Z a):μ'.cs[r]?=Z a:=by
 obtain⟨l,q,_⟩:=e.pre
 exact yI q h
def Rep.monoP(e:ExtP μ H μ' H'){v:V}{d:D}(r:Rep K μ H v d):Rep K μ' H' v d:=r.imp e.stays e.ix
def Hb(K:W.Frag)(μ:Fp)(H:Hp)(J:It)(xs:List D):Prop:=
 ∀ μ' H' S',ExtP μ H μ' H'->SOk K μ' S' H'->∀ i,(∀ d,xs[i]?=Z d->J.go i H'/\∀ x H2,J.yld i H' x H2->Ext μ' H' μ' H2/\SOk K μ' S' H2/\Rep K μ' H2 x d)/\(xs.length<=i->J.stop i H')
inductive iM(K:W.Frag)(m:MA)(σ:L2.St)(H:Hp)(R:It->Hp->Prop):Prop
 | mk (μ:Fp) (S:ab) (env:aW) (xs:List D) (S':ab) (hS:SOk K μ S H) (hE:EOk K μ H σ env) (h:m env S=Z (xs,S')) (post:∀ J H' μ',Ext μ H μ' H'->SOk K μ' S' H'->Hb K μ' H' J xs->R J H')
def DI(X:Cx)(tg iter:Expr)(m:MA):Prop:=PI X tg iter (iM X.K m)
def PI.imp{tg iter:Expr}{t t':TI}(h:PI X tg iter t)(i:∀ σ H R,t' σ H R->t σ H R):PI X tg iter t':=λpins s σ H R I q=>h pins s σ H R I (i σ H R q)
def mI{v:V}{a:Addr}{d:D}{xs:List D}(hd:d=.lst xs\/d=.rol xs)(r:Rep K μ H v d)(hv:v=.ref a):Hb K μ H (Itl K a) xs:=λμ' H' S' e s i=>by
 have r':=r.monoP e
 obtain⟨vs,q,rs⟩:∃ vs,mU K H' a vs/\Reps K μ' H' vs xs:=by
  subst hv
  rcases hd with rfl | rfl
  ·obtain⟨a',vs,ea,q,_,rs⟩:=r'.sqL;cases ea;exact⟨vs,.inl (.inl q),rs⟩
  ·obtain⟨a',vs,ea,q,rs⟩:=r'.sqR;cases ea;exact⟨vs,q,rs⟩
 refine⟨λd hd=>?_,λhl=>⟨vs,q,by rw [rs.length];exact hl⟩⟩
 obtain⟨v,hv,rv⟩:=rs.get hd
 refine⟨⟨vs,v,q,hv⟩,λx H2 ⟨e2,hy⟩=>?_⟩
 subst e2
 have:=hy vs q
 rw [hv] at this;cases this
 exact⟨s.ext,s,rv⟩
def As{a:Addr}{xs:List D}(r:Rep K μ H (.ref a) (.tup xs)):Hb K μ H (Itt K a) xs:=λμ' H' S' e s i=>by
 obtain⟨a',vs,ea,q,rs⟩:=(r.monoP e).sqT
 cases ea
 refine⟨λd hd=>?_,λhl=>⟨vs,q,by rw [rs.length];exact hl⟩⟩
 obtain⟨v,hv,rv⟩:=rs.get hd
 refine⟨⟨vs,v,q,hv⟩,λx H2 ⟨e2,hy⟩=>?_⟩
 subst e2
 have:=hy vs q
 rw [hv] at this;cases this
 exact⟨s.ext,s,rv⟩
variable{tg iter:Expr}
noncomputable def cQ(lo:Int)(n:Nat):List D:=(List.range n).map λ(i:Nat)=>D.int (lo+(i:Int))
def rP(lo:Int)(n i:Nat)(d:D)(h:(cQ lo n)[i]?=Z d):i<n/\d=.int (lo+(i:Int)):=by
 unfold cQ at h
 rw [VG] at h
 cases q:(List.range n)[i]? with
 | none=>rw [q] at h;cases h
 | some j=>
  rw [q] at h;cases h
  obtain⟨h1,h2⟩:=Uj.mp q
  simp at h1 h2
  exact⟨h1,by rw [h2]⟩
def nW(lo:Int)(n:Nat):Hb K μ H (Itr lo n) (cQ lo n):=λμ' H' S' e s i=>by
 refine⟨λd hd=>?_,λhl=>?_⟩
 ·obtain⟨h1,rfl⟩:=rP lo n i d hd
  refine⟨h1,λx H2 ⟨e2,hy⟩=>?_⟩
  subst e2 hy
  exact⟨s.ext,s,.int _⟩
 ·have:(cQ lo n).length=n:=by simp [cQ]
  rw [this] at hl;exact hl
noncomputable def bq(ms:MA):MA:=λenv S=>(ms env S).bind λp=>match p.1 with | [.int j]=>if -(2 ^ 62)<=j/\j<2 ^ 62 then Z (cQ 0 j.toNat,p.2) else U | _=>U
noncomputable def cR(ms:MA):MA:=λenv S=>(ms env S).bind λp=>match p.1 with | [.int i,.int j]=>if -(2 ^ 62)<=i/\i<2 ^ 62/\-(2 ^ 62)<=j/\j<2 ^ 62 then Z (cQ i (j - i).toNat,p.2) else U | _=>U
def Gx{a:Expr}{ms:MA}{p:Pos}(hm:X.mg "range" = U)(ha:DA X [a] ms)(hg:Gl X "range":=by rfl)(hs:starEach [a] X.env=[(false,eval a X.env)]:=by rfl):DI X tg (.Call (.Name "range" p) [a] [] pos) (bq ms):=
 PI.imp (vi hg hm ha hs) λσ H R ⟨μ,S,env,xs,S',hS,hE,hm,post⟩=>by
  obtain⟨⟨ds,S1⟩,h1,hm⟩:=Ui.mp hm
  refine⟨μ,S,env,ds,S1,hS,hE,h1,λvs H1 μ1 e1 s1 r1=>?_⟩
  dsimp only at hm
  split at hm
  ·split at hm
   ·rename_i hb
    cases hm
    obtain⟨v,rfl,r⟩:=r1.one
    exact⟨_,by rw [r.int_inv],hb.1,hb.2,post _ H1 μ1 e1 s1 (nW 0 _)⟩
   ·cases hm
  ·cases hm
def Gw{a b:Expr}{ms:MA}{p:Pos}(hm:X.mg "range" = U)(ha:DA X [a,b] ms)(hg:Gl X "range":=by rfl)(hs:starEach [a,b] X.env=[(false,eval a X.env),(false,eval b X.env)]:=by rfl)(hs2:starEach [b] X.env=[(false,eval b X.env)]:=by rfl):DI X tg (.Call (.Name "range" p) [a,b] [] pos) (cR ms):=
 PI.imp (Fl hg hm ha hs hs2) λσ H R ⟨μ,S,env,xs,S',hS,hE,hm,post⟩=>by
  obtain⟨⟨ds,S1⟩,h1,hm⟩:=Ui.mp hm
  refine⟨μ,S,env,ds,S1,hS,hE,h1,λvs H1 μ1 e1 s1 r1=>?_⟩
  dsimp only at hm
  split at hm
  ·split at hm
   ·rename_i hb
    cases hm
    obtain⟨v,w,rfl,r,r'⟩:=r1.two
    exact⟨_,_,by rw [r.int_inv,r'.int_inv],hb,post _ H1 μ1 e1 s1 (nW _ _)⟩
   ·cases hm
  ·cases hm
noncomputable def cz(g:MG)(body:MS):List D->aW->ab->Option oi
 | [],env,S=>Z (.nx env S)
 | d::ds,env,S=>(g d env S).bind λp=>(body p.1 p.2).bind λo=>match o with
  | .nx e s=>cz g body ds e s
  | .ct e s=>cz g body ds e s
  | .bk e s=>Z (.nx e s)
  | .rt d s=>Z (.rt d s)
noncomputable def gt(mi:MA)(g:MG)(body:MS):MS:=λenv S=>(mi env S).bind λp=>cz g body p.1 env p.2
def KE{body:List Stmt}{mi:MA}{g:MG}{mb:MS}(hp:PassesOwn (model X.prog X.w) X.A X.env X.xe)(hc:X.calm=true)(hi:DI X tg iter mi)(hg:DG X tg g)(hb:uR X body mb)
  (hs:∀ x,foldedSetIterable iter X.env x=pure x:=by intro _;rfl):DS X (.For tg iter body [] pos) (gt mi g mb):=PS.imp (Ij hp hc hi hg hb hs) λE σ H ⟨μ,S,env,o,hS,hE,hm,post⟩=>by
 obtain⟨⟨xs,S1⟩,h1,hm⟩:=Ui.mp hm
 refine⟨μ,S,env,xs,S1,hS,hE,h1,λJ H1 μ1 e1 s1 it=>?_⟩
 refine⟨λi n σ H=>n=xs.length - i/\i<=xs.length/\∃ μ' S' env' o',Ext μ1 H1 μ' H/\SOk X.K μ' S' H/\EOk X.K μ' H σ env'/\cz g mb (xs.drop i) env' S'=Z o'/\PostS X.K μ' H o' E,
  ⟨xs.length,by simp,Wt _,μ1,S1,env,o,s1.ext,s1,hE.mono e1,by rw [Ww];exact hm,post.ext e1⟩,?_⟩
 rintro i n σ' H' ⟨rfl,hi,μ',S',env',o',e',s',r',hl,post'⟩
 have iti:=it μ' H' S' e'.toP s' i
 by_cases hlt:i<xs.length
 ·refine .inr ⟨(iti.1 xs[i] (Uq hlt)).1,λσ2 H2=>∃ μ2 S2 env2 o2,Ext μ1 H1 μ2 H2/\SOk X.K μ2 S2 H2/\EOk X.K μ2 H2 σ2 env2/\cz g mb (xs.drop (i+1)) env2 S2=Z o2/\PostS X.K μ2 H2 o2 E,
   λσ2 H2 ⟨μ2,S2,env2,o2,q1,q2,q3,q4,q5⟩=>⟨xs.length - (i+1),by omega,rfl,hlt,μ2,S2,env2,o2,q1,q2,q3,q4,q5⟩,λx H2 y=>?_⟩
  obtain⟨e2,s2,rx⟩:=(iti.1 xs[i] (Uq hlt)).2 x H2 y
  rw [VW hlt] at hl
  obtain⟨⟨env3,S3⟩,h3,hl⟩:=Ui.mp hl
  obtain⟨o4,h4,hl⟩:=Ui.mp hl
  refine⟨μ',S',env',xs[i],env3,S3,s2,r'.mono e2,rx,h3,λσ3 H3 μ3 e3 s3 r3=>⟨μ3,S3,env3,o4,s3,r3,h4,?_⟩⟩
  have eT:Ext μ1 H1 μ3 H3:=(e'.trans e2).trans e3
  have pT:PostS X.K μ3 H3 o' E:=(post'.ext e2).ext e3
  cases o4 with
  | nx e5 s5=>exact λσ6 H6 μ6 e6 s6 r6=>⟨μ6,s5,e5,o',eT.trans e6,s6,r6,hl,pT.ext e6⟩
  | ct e5 s5=>exact λσ6 H6 μ6 e6 s6 r6=>⟨μ6,s5,e5,o',eT.trans e6,s6,r6,hl,pT.ext e6⟩
  | bk e5 s5=>cases hl;exact pT
  | rt d5 s5=>cases hl;exact pT
 ·have e:i=xs.length:=by omega
  subst e
  refine .inl ⟨iti.2 (Uw _),?_⟩
  rw [WI] at hl
  cases hl
  exact post' σ' H' μ' s'.ext s' r'
noncomputable def nu(cap:List (Option Nat))(env:aW):aW:=cap.map λo=>o.bind λi=>(env[i]?).join
def Hh(X:Cx)(ifs:List Expr)(m:MT):Prop:=LD X ifs (yN X.K m)
def NX:Hh X [] (λ_ S=>Z (true,S)):=λpins s σ H Q I ⟨μ,S,env,b,S',hS,hE,hm,post⟩=>by cases hm;exact Mi pins s σ H Q I (post H μ hS.ext hS)
def NW{c:Expr}{t:MT}(h:DT X c t):Hh X [c] t:=Mh h
noncomputable def dN(g:MG)(t:MT)(e:ME):List D->aW->ab->Option (List D×ab)
 | [],_,S=>Z ([],S)
 | d::ds,env,S=>(g d env S).bind λp=>(t p.1 p.2).bind λb=>if b.1=true then (e p.1 b.2).bind λq=>(dN g t e ds p.1 q.2).bind λr=>Z (q.1::r.1,r.2) else dN g t e ds p.1 b.2
noncomputable def bE(mi:MA)(g:MG)(t:MT)(e:ME)(cap:List (Option Nat)):ME:=λenv S=>(mi env S).bind λp=>if p.1.length<=sizeLine then (dN g t e p.1 (nu cap env) p.2).bind λq=>Z (.lst q.1,q.2) else U
def yX{mi:MA}{g:MG}{t:MT}{e:ME}{cap:List (Option Nat)}{σ:L2.St}{Q:VK}(h:tM K (bE mi g t e cap) σ H Q):HF (iM K mi) (HE K g) (yN K t) (tM K e) cap σ H Q:=by
 obtain⟨μ,S,env,d,S',hS,hE,hm,post⟩:=h
 obtain⟨⟨xs,S1⟩,h1,hm⟩:=Ui.mp hm
 dsimp only at hm
 split at hm
 case isFalse=>cases hm
 rename_i hsz
 obtain⟨⟨ys,S2⟩,h2,hm⟩:=Ui.mp hm
 cases hm
 refine⟨μ,S,env,xs,S1,hS,hE,h1,λJ H1 μ1 e1 s1 it p hp=>?_⟩
 have hpn:=s1.notMem hp
 refine⟨λi n σ' H'=>n=xs.length - i/\i<=xs.length/\∃ (cs:List Addr) (S':ab) (env':aW) (vs:List V) (zs rest:List D),ExtP μ1 H1 ⟨cs,p::μ1.fb⟩ H'/\SOk K ⟨cs,p::μ1.fb⟩ S' H'/\EOk K ⟨cs,p::μ1.fb⟩ H' σ' env'/\H' p=Z (.lst vs) /\
   Reps K ⟨cs,p::μ1.fb⟩ H' vs zs/\dN g t e (xs.drop i) env' S'=Z (rest,S2)/\ys=zs++rest/\vs.length<=i,⟨xs.length,by simp,Wt _,μ1.cs,S1,nu cap env,[],[],ys,?_,s1.more hp,?_,bo,.nil,by rw [Ww];exact h2,rfl,Uw _⟩,?_⟩
 ·exact⟨⟨[p],rfl,λa z=>by rw [UN.mp z];exact hp⟩,⟨[],by simp,λ_ z=>by simp at z⟩,λa o' n h=>by rw [bh (bW h hp)];exact h,λa ha=>by
   by_cases z:a=p
   ·subst z;rw [bo];simp
   ·rw [bh z];exact s1.dom a ha⟩
 ·exact((hE.mono e1).block cap).more hp
 rintro i n σ' H' ⟨rfl,hi,cs,S',env',vs,zs,rest,eP,s',r',hpv,rz,hl,rfl,hvl⟩
 have iti:=it _ H' S' eP s' i
 by_cases hlt:i<xs.length
 ·refine .inr ⟨(iti.1 xs[i] (Uq hlt)).1,λx H2 y=>?_⟩
  obtain⟨e2,s2,rx⟩:=(iti.1 xs[i] (Uq hlt)).2 x H2 y
  rw [VW hlt] at hl
  obtain⟨⟨env3,S3⟩,h3,hl⟩:=Ui.mp hl
  obtain⟨⟨b,S4⟩,h4,hl⟩:=Ui.mp hl
  refine⟨_,S',env',xs[i],env3,S3,s2,r'.mono e2,rx,h3,λσ3 H3 μ3 e3 s3 r3=>⟨μ3,S3,env3,b,S4,s3,r3,h4,λH4 μ4 e4 s4=>?_⟩⟩
  have eA:=(e2.trans e3).trans e4
  have pcs:p ∉ cs:=λz=>s'.disj p Ul z
  cases b with
  | false=>
   rw [if_neg Bool.false_ne_true] at hl
   dsimp only
   rw [if_neg Bool.false_ne_true]
   obtain⟨cs4,fb4⟩:=μ4
   have hfb:fb4=p::μ1.fb:=eA.fb
   subst hfb
   exact⟨xs.length - (i+1),by omega,rfl,hlt,cs4,S4,env3,vs,zs,rest,eP.then eA,s4,r3.mono e4,(eA.keeps hpv pcs).1,rz.mono eA,hl,rfl,by omega⟩
  | true=>
   rw [if_pos rfl] at hl
   dsimp only
   rw [if_pos rfl]
   obtain⟨⟨dv,S5⟩,h5,hl⟩:=Ui.mp hl
   obtain⟨⟨rs,S6⟩,h6,hl⟩:=Ui.mp hl
   cases hl
   refine⟨μ4,S4,env3,dv,S5,s4,r3.mono e4,h5,λv H5 μ5 e5 s5 r5=>?_⟩
   have eB:=eA.trans e5
   obtain⟨cs5,fb5⟩:=μ5
   have hfb:fb5=p::μ1.fb:=eB.fb
   subst hfb
   refine⟨vs,(eB.keeps hpv pcs).1,by omega,xs.length - (i+1),by omega,rfl,hlt,cs5,S5,env3,vs++[v],zs++[dv],rs,(eP.then eB).chg hp,s5.chg Ul,((r3.mono e4).mono e5).chg Ul,bo,Reps.chg Ul ((rz.mono eB).append (.cons r5 .nil)),h6,by simp,by rw [UC,Vd];omega⟩
 ·have e:i=xs.length:=by omega
  subst e
  refine .inl ⟨iti.2 (Uw _),?_⟩
  rw [WI] at hl
  cases hl
  have eF:Ext μ1 H1 ⟨cs,μ1.fb⟩ H':=⟨rfl,eP.pre,eP.keep,eP.dom⟩
  dsimp only at post
  rw [UX] at post
  exact post _ H' ⟨cs,μ1.fb⟩ (e1.trans eF) s'.less (.lst hpv ⟨λz=>s'.disj p Ul z,hpn.2⟩ rz.less)
def Ox{elt:Expr}{ifs:List Expr}{scope:Scope}{N':List Str}{cap:List (Option Nat)}{mi:MA}{g:MG}{t:MT}{me:ME}
  (hc:X.calm=true) (B:BlockOk X N' scope cap) (hi:DI X tg iter mi) (hg:∀ C s H fp,DG (kD X N' scope C s H fp) tg g) (ht:∀ C s H fp,Hh (kD X N' scope C s H fp) ifs t) (he:∀ C s H fp,DE (kD X N' scope C s H fp) elt me)
  (hs:∀ x,foldedSetIterable iter X.env x=pure x:=by intro _;rfl):DE X (.ListComp elt [⟨tg,iter,ifs,0⟩] scope pos) (bE mi g t me cap):=
 PE.imp (Mw (g:=HE X.K g) (tt:=yN X.K t) (te:=tM X.K me) hc B hi hg ht he hs) λ_ _ _ h=>yX h
def CU{elt:Expr}{ifs:List Expr}{scope:Scope}{spos py:Pos}{N':List Str}{cap:List (Option Nat)}{mi:MA}{g:MG}{t:MT}{me:ME}{y:Str}{i:Nat}
  (hN:X.N.Nodup) (hy:X.N[i]?=Z y) (hx:Lz X.env.scope y)
  (hc:X.calm=true) (B:BlockOk X N' scope cap) (hi:DI X tg iter mi) (hg:∀ C s H fp,DG (kD X N' scope C s H fp) tg g) (ht:∀ C s H fp,Hh (kD X N' scope C s H fp) ifs t) (he:∀ C s H fp,DE (kD X N' scope C s H fp) elt me)
  (hsw:swapsWith (.ListComp elt [⟨tg,iter,ifs,0⟩] scope pos) (Z (.Name y py)) spos.line X.env=pure true:=by rfl)
  (hs:∀ x,foldedSetIterable iter X.env x=pure x:=by intro _;rfl) (hf:X.fn y=true\/X.env.scope.names.lookup y=Z .local:=by first | exact .inl rfl | exact .inr rfl | assumption) :
  DS X (.Assign [.Name y py] (.ListComp elt [⟨tg,iter,ifs,0⟩] scope pos) spos) (aS (bE mi g t me cap) (ah i)):=
 PS.imp (BO (g:=HE X.K g) (tt:=yN X.K t) (te:=tM X.K me) hN hy hx hc B hi hg ht he hsw hs hf) λE σ H h=>by
  obtain⟨μ,S,env,o,hS,hE,hm,post⟩:=h
  obtain⟨⟨d,S1⟩,h1,hm⟩:=Ui.mp hm
  cases hm
  exact yX ⟨μ,S,env,d,S1,hS,hE,h1,λv H1 μ1 e1 s1 r1=>post _ H1 μ1 e1 s1 ((hE.mono e1).set r1 i)⟩
end
section
variable{X:Cx}{K:W.Frag}{μ μ':Fp}{H H':Hp}{S:ab}{pos p2:Pos}{tg iter:Expr}{m:ME}
noncomputable def uN(N N':List Str)(kX kB:Str->Option NameKind):List (Option Nat)->List Str->Bool
 | [],[]=>true
 | none::r,_::s=>uN N N' kX kB r s
 | some i::r,y::s=>N[i]? == Z y&&(kX y == Z .cell||kX y == Z .free)&&(kB y == Z .cell||kB y == Z .free)&&uN N N' kX kB r s
 | _,_=>false
theorem yE{N N':List Str}{kX kB:Str->Option NameKind}:∀ {cap:List (Option Nat)} {ys:List Str},uN N N' kX kB cap ys=true->cap.length=ys.length/\∀ (j i:Nat),cap[j]?=Z (Z i)->∃ y,ys[j]?=Z y/\N[i]?=Z y/\(kX y=Z .cell\/kX y=Z .free)/\(kB y=Z .cell\/kB y=Z .free)
 | [],[],_=>⟨rfl,λj i e=>by simp at e⟩
 | none::r,y::s,h=>by
  obtain⟨h1,h2⟩:=yE (cap:=r) (ys:=s) h
  refine⟨by simp [h1],λj i e=>?_⟩
  cases j with
  | zero=>simp at e
  | succ j=>simpa using h2 j i (by simpa using e)
 | some k::r,y::s,h=>by
  rw [uN,Uk,Uk,Uk,Vp,Vp] at h
  obtain⟨h1,h2⟩:=yE (cap:=r) (ys:=s) h.2
  refine⟨by simp [h1],λj i e=>?_⟩
  cases j with
  | zero=>
   simp at e;subst e
   refine⟨y,rfl,by simpa using h.1.1.1,?_,?_⟩
   ·exact h.1.1.2.imp (λz=>by simpa using z) λz=>by simpa using z
   ·exact h.1.2.imp (λz=>by simpa using z) λz=>by simpa using z
  | succ j=>simpa using h2 j i (by simpa using e)
 | [],_::_,h=>by simp [uN] at h
 | none::_,[],h=>by simp [uN] at h
 | some _::_,[],h=>by simp [uN] at h
def blk{N':List Str}{scope:Scope}{cap:List (Option Nat)}(nd:N'.Nodup)(k:scope.kind=.function:=by rfl)(nc:(scope.names.all λx=>x.2 != .cell)=true:=by rfl)(nm:(scope.names.all λx=>x.2 != .local||scope.names.lookup x.1 == Z .local)=true:=by rfl)
  (fr:(scope.names.all λx=>x.2 != .free||X.env.kindOf x.1 == Z .cell||X.env.kindOf x.1 == Z .free)=true:=by rfl)
  (cp:uN X.N N' X.env.kindOf (λy=>(relabel scope X.env).names.lookup y) cap N'=true:=by rfl):BlockOk X N' scope cap:=by
 obtain⟨h1,h2⟩:=yE cp
 refine⟨k,λx hx=>?_,λx hx hl=>?_,λx hx hf=>?_,nd,h1,λj i e=>?_⟩
 ·have:=UF.mp nc x hx
  simpa using this
 ·have:=UF.mp nm x hx
  simpa [hl] using this
 ·have:=UF.mp fr x hx
  simpa [hf] using this
 ·obtain⟨y,a,b,c,d⟩:=h2 j i e
  exact⟨y,a,b,.inr c,c,d⟩
def Io{l:Expr}{tl:TE}(hl:PE X l tl):PI X tg l (λσ H R=>tl σ H λx H1=>∃ a,x=.ref a/\(((∃ xs,mU X.K H1 a xs)/\R (Itl X.K a) H1)\/((∃ xs,oo X.K H1 a xs)/\R (Itt X.K a) H1))):=by
 intro pins s σ H R I h
 refine da (hl pins s σ H _ I h) λv s1 ⟨x,H1,I1,r1,q1⟩=>?_
 obtain⟨a,e,⟨⟨xs,hq⟩,q⟩ | ⟨⟨xs,hq⟩,q⟩⟩:=q1
 ·subst e
  cases r1
  obtain⟨its,rv,p,hz⟩:=I1.list hq
  refine We p.isList ?_
  refine⟨s1.heap.objs.size,[s1.heap.objs.size],_,_,H1,rfl,I1.kept (t':=s1.toks) λb o e=>Uv _ e,uU a _,⟨_,UG _ rfl,rfl,rfl⟩,λb hb=>?_,q⟩
  have e:b=s1.heap.objs.size:=by simpa using hb
  subst e
  exact I1.fpOk (Uw _) (I1.hok.fresh (Uw _))
 ·subst e
  cases r1
  obtain⟨its,rv,p,hz⟩:=I1.tuple hq
  refine WV (show s1.heap.IsTuple a its.toArray from p) ?_
  refine⟨s1.heap.objs.size,[s1.heap.objs.size],_,_,H1,rfl,I1.kept (t':=s1.toks) λb o e=>Uv _ e,Bs a _,⟨_,UG _ rfl,rfl,rfl⟩,λb hb=>?_,q⟩
  have e:b=s1.heap.objs.size:=by simpa using hb
  subst e
  exact I1.fpOk (Uw _) (I1.hok.fresh (Uw _))
noncomputable def cC(m:ME):MA:=λenv S=>(m env S).bind λp=>match p.1 with | .lst xs=>Z (xs,p.2) | .rol xs=>Z (xs,p.2) | .tup xs=>Z (xs,p.2) | _=>U
def Da(h:DE X iter m):DI X tg iter (cC m):=PI.imp (Io h) λσ H R ⟨μ,S,env,xs,S',hS,hE,hm,post⟩=>by
 obtain⟨⟨d,S1⟩,h1,hm⟩:=Ui.mp hm
 refine⟨μ,S,env,d,S1,hS,hE,h1,λv H1 μ1 e1 s1 r1=>?_⟩
 cases d with
 | lst ys=>
  cases hm
  have r1':=r1
  obtain⟨a,vs,rfl,q,_,rs⟩:=r1.sqL
  exact⟨a,rfl,.inl ⟨⟨vs,.inl (.inl q)⟩,post _ H1 μ1 e1 s1 (mI (.inl rfl) r1' rfl)⟩⟩
 | rol ys=>
  cases hm
  have r1':=r1
  obtain⟨a,vs,rfl,q,rs⟩:=r1.sqR
  exact⟨a,rfl,.inl ⟨⟨vs,q⟩,post _ H1 μ1 e1 s1 (mI (.inr rfl) r1' rfl)⟩⟩
 | tup ys=>
  cases hm
  have r1':=r1
  obtain⟨a,vs,rfl,q,rs⟩:=r1.sqT
  exact⟨a,rfl,.inr ⟨⟨vs,q⟩,post _ H1 μ1 e1 s1 (As r1')⟩⟩
 | _=>cases hm
end
noncomputable def aO(N:List Str)(m:MS)(n:Nat):List D->ab->Option (D×ab):=λds S=>if ds.length=n then (m (ay N ds) S).bind λo=>match o with | .rt d S'=>Z (d,S') | .nx _ S'=>Z (.non,S') | _=>U else U
def ve{N:List Str}{m:MS}{n:Nat}{ds:List D}{S S':ab}{d:D}(h:aO N m n ds S=Z (d,S')):Runs m (ay N ds) S d S':=by
 unfold aO at h
 split at h
 ·obtain⟨o,h1,h⟩:=Ui.mp h
  cases o with
  | rt d' S2=>cases h;exact .ret h1
  | nx e S2=>cases h;exact⟨_,[],h1,.inl rfl,.inr ⟨rfl,e,by rw [UX]⟩⟩
  | bk _ _=>cases h
  | ct _ _=>cases h
 ·cases h
structure bB(K:W.Frag)(mg:Str->Option Value)(x:Str)(st:Stmt):Prop where
 ex:∃ (a:Addr) (fd:FuncData),L2.Fun K x x st a fd/\mg x=Z (.ref a)
def yM(x:Str)(st:Stmt)(ps:List Str):Prop:=∀ (kV doc pm:Value) (an:Option Addr) (cdv ct:Value) (us:List Value),us.length=ps.length->bindArgs (W.fnOf x x (iI st) (aF st) (ar st) .none kV doc pm an cdv ct) ⟨us,[]⟩=pure (ps.zip us)
def Tq{P:Program}{w:World}{K:W.Frag}{mg:Str->Option Value}{base:Heap}{k:Nat}{x:Str}{st:Stmt}{N ps:List Str}{m:MS}
  (F:bB K mg x st) (Sc:aM N ps (ar st)) (hb:yM x st ps)
  (hbody:∀ (a:Addr) (cdv:Value) (A:Around) (outer:List PySem.Env) (s:Shared) (H:Hp) (E:XK),Room k (A.deeper (envOfC x (ar st) s.heap.objs.size a cdv)) ->
   uR (uL EQ P w K mg base N x (ar st) a cdv A outer s H E).nox (aF st) m) :
  Fn P w K mg base (k+1) x ps.length (aO N m ps.length):=by
 obtain⟨a,fd,F,hmg⟩:=F.ex
 exact Pz F Sc hmg (F.binds hb) λcdv A outer s H E hr=>⟨m,hbody a cdv A outer s H E hr,λds S d S' hn hS hd h=>ve h⟩
def Fn.up{P:Program}{w:World}{K:W.Frag}{mg:Str->Option Value}{base:Heap}{k k':Nat}{x:Str}{n:Nat}{f:List D->ab->Option (D×ab)}(F:Fn P w K mg base k x n f)(h:k<=k'):Fn P w K mg base k' x n f:=by
 obtain⟨a,fd,ps,h1,h2,h3⟩:=F.ex
 exact⟨a,fd,ps,h1,h2.mono h,h3⟩
def RE{K:W.Frag}{f:List D->ab->Option (D×ab)}(h:∀ ns:List Int,ns.length<=63->∃ S',f [.rol (ns.map .int)] []=Z (.bl true,S')){H:Hp}{a:Addr}{ns:List Int}{E:XK}(hl:ns.length<=63)(hS:mU K H a (ns.map V.int)) :
  HR K 1 f [.ref a] H (λv _=>v=.bl true) E:=by
 obtain⟨S',hf⟩:=h ns hl
 have hr:∀ l:List Int,Reps K ⟨[],[]⟩ H (l.map V.int) (l.map D.int):=λl=>by
  induction l with
  | nil=>exact .nil
  | cons x l ih=>exact .cons (.int x) ih
 refine⟨⟨[],[]⟩,[],_,_,S',⟨List.nodup_nil,rfl,λr a c h=>by simp at h,λa h=>by simp at h,λa h=>by simp at h⟩,.cons ?_ .nil,rfl,hf,λv H' μ' e s r=>r.bl_inv⟩
 rcases hS with hS | hS
 ·exact .rol hS ⟨by simp,by simp⟩ (hr ns)
 ·exact .krol hS (hr ns)
noncomputable def SL(_:ab)(x:D):Option D:=match x with | .int i=>Z (.int (-i)) | _=>U
def LK{X:Cx}:UnR X (unaryOp .USub) (rM1 X.K SL):=Qh
noncomputable def bx:MT:=λ_ S=>Z (true,S)
def Ky{X:Cx}:Hh X [] bx:=NX
def RF{P:Program}{w:World}{K:W.Frag}{mg:Str->Option Value}{k:Nat}{st:Stmt}{N:List Str}{m:MS}{fa:Addr}(F:bB K mg "law" st)(hfa:mg "law" = Z (.ref fa))(Sc:aM N ["_law_script"] (ar st))
  (hbt:∀ (kV doc pm:Value) (an:Option Addr) (cdv ct v:Value),bindArgs (W.fnOf "law" "law" (iI st) (aF st) (ar st) .none kV doc pm an cdv ct) ⟨[v],[]⟩=pure [(("_law_script":Str),v)])
  (hbody:∀ (base:Heap) (a:Addr) (cdv:Value) (A:Around) (outer:List PySem.Env) (s:Shared) (H:Hp) (E:XK),Room k (A.deeper (envOfC "law" (ar st) s.heap.objs.size a cdv)) ->
   uR (uL EQ P w K mg base N "law" (ar st) a cdv A outer s H E).nox (aF st) m) :
  ∃ fd:FuncData,(∀ (s:Shared) (v:Value),BindsTo s fd ⟨[v],[]⟩ [("_law_script",v)])/\∀ base:Heap,K.In base->base.Ns mainGlobals mg->FnOk P w K mg base EQ (k+1) fa fd ["_law_script"] (HR K 1 (aO N m 1)):=by
 obtain⟨a,fd,F,hmg⟩:=F.ex
 rw [hfa] at hmg
 have e:fa=a:=by cases hmg;rfl
 subst e
 refine⟨fd,λs v=>?_,λbase _ _=>Py F Sc λcdv A outer s H E hr=>⟨m,hbody base fa cdv A outer s H E hr,λds S d S' hn hS hd h=>ve h⟩⟩
 obtain⟨oc,od,kV,doc,pm,an,cdv,ct,osl,rfl,lk,hcd⟩:=F.ex
 exact .of_eq (hbt kV doc pm an cdv ct v)
end M
namespace HT
open AutoSeq1 (wpAny_loadPart')
def Cf:fillsNumberSlot (.type "tuple") "mul" = pure false:=
 PySem.fillsNumberSlot_seq (id:="tuple.__mul__") (r:=Z (.builtin "tuple.__rmul__"))
  F.slot_tuple_mul.lookup (by decide +kernel) F.slot_tuple_rmul.lookup (by decide +kernel)
def Qz:seqRepeat? (.type "tuple")=pure (Z (.builtin "tuple.__mul__")):=by
 unfold seqRepeat?
 rw [PySem.seqSlot_of (T:="tuple") (name:="__mul__") (id:="tuple.__mul__") F.slot_tuple_mul.lookup (by decide +kernel)]
 rw [PySem.seqSlot_of (T:="tuple") (name:="__rmul__") (id:="tuple.__rmul__") F.slot_tuple_rmul.lookup (by decide +kernel)]
 rfl
def Ia(a:Int)(t:Tok)(l:Addr)(items:Array Value)(n:Nat)(dd:Option Addr)(sl:Array (Option Value)) :
  Meets (Builtin.«int.__rmul__» ⟨[.int a t,.ref l],[]⟩) (λ_ R s=>s.heap.get? l=Z ⟨.type "tuple",dd,.seq items n,sl⟩/\R (.ok (.ret Value.notImplemented)) s):=
 .of_wp λprog w A R s h=>by
  obtain⟨hp,g,d,tk,os⟩:=s
  obtain⟨hl,h⟩:=h
  wp_walk
  exact⟨_,rfl,h⟩
def mulT0(l:Addr)(items:Array Value)(n:Nat)(k:Int)(t:Tok)(dd:Option Addr)(sl:Array (Option Value))(h1:¬ (decide (k < -(2 ^ 63))||decide (k≥2 ^ 63))=true)(hc:(items.isEmpty||k == 1)=true) :
  Meets (Builtin.«tuple.__mul__» ⟨[.ref l,.int k t],[]⟩) (λ_ R s=>s.heap.get? l=Z ⟨.type "tuple",dd,.seq items n,sl⟩/\R (.ok (.ret (.ref l))) s):=
 .of_wp λprog w A R s h=>by
  obtain⟨hp,g,d,tk,os⟩:=s
  obtain⟨hl,h⟩:=h
  have f1:=Xq
  have f2:=Wz
  wp_walk using wpAny_loadPart' hl
  rw [if_neg h1]
  wp_walk using wpAny_loadPart' hl
  exact⟨_,rfl,h⟩
def mulT1(l:Addr)(items:Array Value)(n:Nat)(k:Int)(t:Tok)(dd:Option Addr)(sl:Array (Option Value))(h1:¬ (decide (k < -(2 ^ 63))||decide (k≥2 ^ 63))=true)(hc:¬ (items.isEmpty||k == 1)=true)(hk:(decide (k<=0)||items.isEmpty)=true) :
  Meets (Builtin.«tuple.__mul__» ⟨[.ref l,.int k t],[]⟩) (λ_ R s=>s.heap.get? l=Z ⟨.type "tuple",dd,.seq items n,sl⟩/\R (.ok (.ret (.ref s.heap.objs.size))) { s with heap:=s.heap.push { cls:=.type "tuple",data:=.seq #[] },toks:=s.toks }):=
 .of_wp λprog w A R s h=>by
  obtain⟨hp,g,d,tk,os⟩:=s
  obtain⟨hl,h⟩:=h
  have f1:=Xq
  have f2:=Wz
  wp_walk using wpAny_loadPart' hl
  rw [if_neg h1]
  wp_walk using wpAny_loadPart' hl
  exact⟨_,rfl,h⟩
def mulT2(l:Addr)(items:Array Value)(n:Nat)(k:Int)(t:Tok)(dd:Option Addr)(sl:Array (Option Value))(h1:¬ (decide (k < -(2 ^ 63))||decide (k≥2 ^ 63))=true)(hc:¬ (items.isEmpty||k == 1)=true)(hk:¬ (decide (k<=0)||items.isEmpty)=true)
  (hb:¬ ((items.size:Int) * k>(2 ^ 63 - 1) / 8)) (hm:¬ Builtin.Tuple.tupleTooMany ((items.size:Int) * k)=true) (hz:(List.foldl (λx1 x2=>x1++x2) #[] (List.replicate k.toNat items)).size<=sizeLine) :
  Meets (Builtin.«tuple.__mul__» ⟨[.ref l,.int k t],[]⟩) (λ_ R s=>s.heap.get? l=Z ⟨.type "tuple",dd,.seq items n,sl⟩/\R (.ok (.ret (.ref s.heap.objs.size))) { s with heap:=s.heap.push { cls:=.type "tuple",data:=.seq (List.foldl (λx1 x2=>x1++x2) #[] (List.replicate k.toNat items)) },toks:=s.toks }):=
 .of_wp λprog w A R s h=>by
  obtain⟨hp,g,d,tk,os⟩:=s
  obtain⟨hl,h⟩:=h
  have f1:=Xq
  have f2:=Wz
  wp_walk using wpAny_loadPart' hl
  rw [if_neg h1]
  wp_walk using wpAny_loadPart' hl
  rw [if_neg hb]
  wp_walk using wpAny_loadPart' hl
  exact⟨_,rfl,h⟩
end HT
namespace L2
section
variable{X:Cx}
theorem vrep{xs:List V}{us:List Value}(h:Vals xs us):∀ k:Nat,Vals (List.replicate k xs).flatten (List.replicate k us).flatten
 | 0=>.nil
 | k+1=>by rw [UU,UU,Vj,Vj];exact h.append (vrep h k)
theorem frep(its:List Value):∀ (m:Nat) (acc:List Value),List.foldl (λx1 x2=>x1++x2) acc.toArray (List.replicate m its.toArray)=(acc++(List.replicate m its).flatten).toArray
 | 0,acc=>by simp
 | m+1,acc=>by
  rw [UU,Xy,List.append_toArray,frep its m (acc++its),UU,Vj,Vw]
noncomputable def rRepT(K:W.Frag):R2:=λx y H Q=>∃ a k xs,x=.ref a/\y=.int k/\oo K H a xs/\-(2 ^ 62)<=k/\k<2 ^ 62/\xs.length * k.toNat<=sizeLine /\
 ((xs=[]\/k=1)->Q (.ref a) H)/\((xs≠[]/\k≠1)->∀ p,H p=U->Q (.ref p) (upd H p (.tup (List.replicate k.toNat xs).flatten)))
def MK:OpR X (binaryOp .Mult) (rRepT X.K):=by
 intro pins s σ H x y v u Q I rx ry h
 obtain⟨l,k,xs,rfl,rfl,hq,h1,h2,hz,q1,q2⟩:=h
 cases rx
 obtain⟨t,rfl⟩:=ry
 obtain⟨its,r,hT,hzz⟩:=I.tuple hq
 obtain⟨⟨cls,dd,data,sl⟩,e,hc,n,hd⟩:=id hT
 simp only at hc hd
 subst hc hd
 have hlen:xs.length=its.length:=r.length
 have g1:¬ (decide (k < -(2 ^ 63))||decide (k≥2 ^ 63))=true:=by simp;omega
 have road:∀ {S:PySem.Spec},Meets (Builtin.«tuple.__mul__» ⟨[.ref l,.int k t],[]⟩) S->S X.A (wants (EP X pins σ Q) X.xe) s->wpAny (model X.prog X.w) X.A (binaryOp .Mult (.ref l) (.int k t)) (EP X pins σ Q) X.xe s:=λM hS=>
  XB (T:="tuple") (U:="int") (by decide) ⟨_,e,rfl⟩ (λs'=>Xc s' k t) HT.Cf F.fills_int_mul WQ HT.Qz F.slot_int_index.lookup
   (Wg WQ (Xc s k t) F.entry_int_rmul (F.args_int_rmul_2 _ _) (HT.Ia k t l its.toArray n dd sl)
    ⟨e,rfl,⟨_,e,rfl⟩,Wg F.slot_tuple_mul ⟨_,e,rfl⟩ F.entry_tuple_mul (F.args_tuple_mul_2 _ _) M hS⟩)
 by_cases hs:xs=[]\/k=1
 ·have hcc:(its.toArray.isEmpty||k == 1)=true:=by
   rcases hs with rfl | rfl
   ·cases r;rfl
   ·simp
  exact road (HT.mulT0 l its.toArray n k t dd sl g1 hcc) ⟨e,.ref l,H,I,rfl,q1 hs⟩
 ·have hx:xs≠[]:=λz=>hs (.inl z)
  have hk1:k≠1:=λz=>hs (.inr z)
  have hi:its≠[]:=λz=>by subst z;cases r;exact hx rfl
  have hcc:¬ (its.toArray.isEmpty||k == 1)=true:=by simp [hi,hk1]
  by_cases hk:k<=0
  ·have hk':(decide (k<=0)||its.toArray.isEmpty)=true:=by simp [hk]
   have k0:k.toNat=0:=by omega
   refine road (HT.mulT1 l its.toArray n k t dd sl g1 hcc hk') ⟨e,.ref _,_,I.laid (o:=.tup []) (λ_ _ q=>Uv _ q) (Uw _) ⟨by simp,[],.nil,⟨_,UG _ rfl,rfl,⟨0,rfl⟩,rfl⟩⟩,rfl,?_⟩
   have:=q2 ⟨hx,hk1⟩ s.heap.objs.size I.fresh
   rw [k0] at this
   exact this
  ·have hk':¬ (decide (k<=0)||its.toArray.isEmpty)=true:=by simp [hi];omega
   have km:(k.toNat:Int)=k:=by omega
   have hpr:((its.length:Int) * k)<=sizeLine:=by rw [<- km,<- hlen];exact_mod_cast hz
   have hsl:((sizeLine:Nat):Int)<=(2 ^ 63 - 1) / 8:=by decide
   have hf:=frep its k.toNat []
   rw [Vz] at hf
   have hf':List.foldl (λx1 x2=>x1++x2) #[] (List.replicate k.toNat its.toArray)=(List.replicate k.toNat its).flatten.toArray:=hf
   have hl2:(List.replicate k.toNat its).flatten.length<=sizeLine:=by rw [ye,<- hlen,Xi];exact hz
   refine road (HT.mulT2 l its.toArray n k t dd sl g1 hcc hk' (by rw [Um];omega) (by unfold Builtin.Tuple.tupleTooMany;rw [Um];simp;omega) (by rw [hf',Um];exact hl2)) ⟨e,?_⟩
   rw [hf']
   exact⟨.ref _,_,I.laid (o:=.tup (List.replicate k.toNat xs).flatten) (λ_ _ q=>Uv _ q) (Uw _) ⟨by rw [ye,Xi];exact hz,(List.replicate k.toNat its).flatten,vrep r _,⟨_,UG _ rfl,rfl,⟨0,rfl⟩,rfl⟩⟩,rfl,q2 ⟨hx,hk1⟩ _ I.fresh⟩
end
section
variable{X:Cx}
def insK(n:Nat)(i:Int):Nat:=if i<0 then (i+(n:Int)).toNat else min i.toNat n
noncomputable def insL{α:Type}(xs:List α)(i:Int)(y:α):List α:=xs.take (insK xs.length i)++y::xs.drop (insK xs.length i)
end
end L2
namespace M
open L2
section
variable{X:Cx}{K:W.Frag}{μ μ':Fp}{H H':Hp}{S:ab}
noncomputable def cS(S:ab)(x y:D):Option D:=match x,y with
 | .tup xs,.int k=>if -(2 ^ 62)<=k/\k<2 ^ 62/\xs.length * k.toNat<=sizeLine then Z (.tup (List.replicate k.toNat xs).flatten) else U
 | .lst xs,.int k=>if -(2 ^ 62)<=k/\k<2 ^ 62/\xs.length * k.toNat<=sizeLine then Z (.lst (List.replicate k.toNat xs).flatten) else U
 | x,y=>SN S x y
def flat1{α:Type}(xs:List α):(List.replicate 1 xs).flatten=xs:=by simp
def MQ:OpR X (binaryOp .Mult) (mY X.K cS):=OpR.imp (OpR.or Rh (OpR.or MK Ra)) λx y H Q ⟨μ,S,dx,dy,dz,hS,h1,h2,h3,post⟩=>by
 unfold cS at h3
 split at h3
 ·rename_i xs k
  split at h3
  ·rename_i hk
   cases h3
   obtain⟨a,vs,rfl,q,r⟩:=h1.sqT
   have h1':=h1
   refine .inr (.inl ⟨a,k,vs,rfl,h2.int_inv,q,hk.1,hk.2.1,by rw [r.length];exact hk.2.2,λhs=>?_,λ_ p hp=>post.tup hS hp (Reps.flat _ r)⟩)
   have e:(List.replicate k.toNat xs).flatten=xs:=by
    rcases hs with rfl | rfl
    ·cases r;simp
    ·exact flat1 xs
   rw [e] at post
   exact post.here hS h1'
  ·cases h3
 ·rename_i xs k
  split at h3
  ·rename_i hk
   cases h3
   obtain⟨a,vs,rfl,q,n,r⟩:=h1.sqL
   exact .inr (.inr ⟨a,k,vs,rfl,h2.int_inv,q,by omega,by omega,by rw [r.length];exact hk.2.2,λp hp=>post.lst hS hp (Reps.flat _ r)⟩)
  ·cases h3
 ·exact .inl ⟨μ,S,dx,dy,dz,hS,h1,h2,h3,post⟩
abbrev MF:=D->List D->ab->Option (D×ab)
inductive Pd(K:W.Frag)(f:MF)(x:V)(vs:List V)(H:Hp)(Q:VK):Prop
 | mk (μ:Fp) (S:ab) (dx:D) (ds:List D) (d:D) (S':ab) (hS:SOk K μ S H) (h1:Rep K μ H x dx) (h2:Reps K μ H vs ds) (h3:f dx ds S=Z (d,S')) (post:Post K μ H S' d Q)
def MtR.imp{id:String}{r r':V->List V->Hp->VK->Prop}(h:MtR X id r)(i:∀ x xs H Q,r' x xs H Q->r x xs H Q):MtR X id r':=λpins s σ H x xs v us Q I rx rv q=>h pins s σ H x xs v us Q I rx rv (i x xs H Q q)
noncomputable def jy:MF:=λo ds S=>match o,ds with
 | .ref r,[y]=>match S[r]? with | some (.lst xs)=>if xs.length<sizeLine then Z (.non,S.set r (.lst (xs++[y]))) else U | _=>U
 | _,_=>U
noncomputable def fInsert:MF:=λo ds S=>match o,ds with
 | .ref r,[.int i,y]=>match S[r]? with | some (.lst xs)=>if xs.length<sizeLine/\-(2 ^ 62)<=i/\i<2 ^ 62 then Z (.non,S.set r (.lst (insL xs i y))) else U | _=>U
 | _,_=>U
noncomputable def tP:MF:=λo ds S=>match ds with
 | [x]=>(iD S o).bind λys=>if ci 40 x=true/\ys.all (ci 39)=true then Z (.int (ys.countP λd=>js d x),S) else U
 | _=>U
def Fy:MtR X "list.append" (Pd X.K jy):=MtR.imp vq λx vs H Q ⟨μ,S,dx,ds,d,S',hS,r1,r2,h,post⟩=>by
 unfold jy at h
 split at h
 ·rename_i r y
  obtain⟨v,rfl,rv⟩:=r2.one
  cases q:S[r]? with
  | none=>rw [q] at h;cases h
  | some c=>
   rw [q] at h
   cases c with
   | dct _ _=>cases h
   | lst xs=>
    dsimp only at h
    split at h
    ·rename_i hz
     cases h
     cases r1 with
     | @ref a _ h'=>
      obtain⟨ws,hw,rw'⟩:=hS.cell r a _ h' q
      obtain⟨e,s'⟩:=hS.write h' hw (rw'.append (.cons rv .nil))
      exact⟨a,ws,v,rfl,rfl,hw,by rw [rw'.length];exact hz,post _ _ μ e s' .non⟩
    ·cases h
 ·cases h
theorem lU{pins:List (Addr×Obj)}{σ:L2.St}{s:Shared}(I:Inv X pins σ H s){x:D}:∀ {vs:List V} {us:List Value} {ds:List D},Vals vs us->Reps X.K μ H vs ds->(∀ d∈ds,ci 39 d=true) ->
  us.countP (dX X.K μ H x)=ds.countP λd=>js d x
 | _,_,_,.nil,.nil,_=>rfl
 | _,_,_,.cons rv tv,.cons r t,ok=>by
  rw [Wn,Wn,pj I rv r (ok _ Ul),lU I tv t λd m=>ok d (Ur _ m)]
noncomputable def pJ(S:ab):D->Bool
 | .lst _=>true
 | .rol _=>true
 | .ref r=>match S[r]? with | some (.lst _)=>true | _=>false
 | _=>false
def lG{v:V}{d:D}(hS:SOk K μ S H)(r:Rep K μ H v d)(h:pJ S d=true):∃ a vs ds,v=.ref a/\mU K H a vs/\iD S d=Z ds/\Reps K μ H vs ds:=by
 cases r with
 | lst h' n r=>exact⟨_,_,_,rfl,.inl (.inl h'),rfl,r⟩
 | rol h' n r=>exact⟨_,_,_,rfl,.inl h',rfl,r⟩
 | krol h' r=>exact⟨_,_,_,rfl,.inr h',rfl,r⟩
 | @ref a i h'=>
  simp only [pJ] at h
  cases q:S[i]? with
  | none=>rw [q] at h;cases h
  | some c=>
   rw [q] at h
   cases c with
   | dct _ _=>cases h
   | lst xs=>
    obtain⟨vs,e,r⟩:=hS.cell i a _ h' q
    exact⟨a,vs,xs,rfl,.inl (.inl e),by simp only [iD,q],r⟩
 | _=>cases h
noncomputable def mN:MF:=λo ds S=>if pJ S o=true then tP o ds S else U
def zD(hu:X.A.units+64<cLine):MtR X "list.count" (Pd X.K mN):=by
 intro pins s σ H x vs v us Q I rx rv h
 obtain⟨μ,S,dx,ds,d,S',hS,r1,r2,h,post⟩:=h
 unfold mN at h
 split at h
 ·rename_i hl
  unfold tP at h
  split at h
  ·rename_i y
   obtain⟨a,ws,es,rfl,hq,hse,re⟩:=lG hS r1 hl
   rw [hse] at h
   dsimp only [Option.bind_some] at h
   split at h
   ·rename_i hk
    cases h
    cases rx
    obtain⟨w,rfl,rw0⟩:=r2.one
    obtain⟨u,rfl,ru⟩:=rv.one
    obtain⟨its,rvs,⟨⟨cls,dd,data,sl⟩,n,e,hc,hdd,hd⟩,hz⟩:=I.list hq
    simp only at hc hdd hd
    subst hc hdd hd
    have ok:=UF.mp hk.2
    refine Wg Xe ⟨_,e,rfl⟩ F.entry_list_count (F.args_list_count_2 _ _) (SeqAt.list_countAt a its.toArray n U sl u (dX X.K μ H y)) ⟨e,λw' hw'=>?_,?_⟩
    ·exact fG I (by show X.A.units+1+40<cLine;omega) ru rw0 hk.1 rvs re ok w' (by simpa using hw')
    ·refine⟨.int _,H,I.tok _,⟨_,rfl⟩,?_⟩
     rw [lU I rvs re ok]
     exact post.here hS (.int _)
   ·cases h
  ·cases h
 ·cases h
noncomputable def fH(f:MF)(o:ME)(ms:MA):ME:=λenv S=>(o env S).bind λp=>if pJ p.2 p.1=true then (ms env p.2).bind λq=>f p.1 q.1 q.2 else U
def EH{o e:Expr}{es:List Expr}{mo:ME}{ms:MA}{f:MF}{name:Str}{id:String}{apos cpos:Pos}(slot:Slot "list" name id)(hty:typeOf (.builtin id)=pure (.type "method_descriptor"))(hm:MtR X id (Pd X.K f))(ho:DE X o mo)(ha:DA X (e::es) ms)
  (hbase:attributeBase o name X.env (eval o X.env)=eval o X.env)
  (hfew:((backTo cpos (starEach (e::es) X.env)).all (λx=>!x.1)&&(backToKw cpos (keywordEach [] X.env)).all (λx=>x.1.isSome)&&decide ((e::es).length+([]:List Keyword).length+(if ([]:List Keyword).isEmpty then 0 else 1)<30))=true)
  (hline:(apos.endLine == cpos.line)=true) (hs:starEach (e::es) X.env=(false,eval e X.env)::starEach es X.env) (hpl:(backTo cpos (starEach es X.env)).any (·.1)=false) :
  DE X (.Call (.Attribute o name apos) (e::es) [] cpos) (fH f mo ms):=
 PE.imp (pe_bm F.plainAttrs_list slot hty hm ho ha hbase hfew hline hs hpl) λσ H Q ⟨μ,S,env,d,S',hS,hE,h,post⟩=>by
  obtain⟨⟨x,S1⟩,h1,h⟩:=Ui.mp h
  dsimp only at h
  split at h
  ·rename_i hl
   obtain⟨⟨xs,S2⟩,h2,h⟩:=Ui.mp h
   refine⟨μ,S,env,x,S1,hS,hE,h1,λv H1 μ1 e1 s1 r1=>⟨?_,μ1,S1,env,xs,S2,s1,hE.mono e1,h2,λvs H2 μ2 e2 s2 r2=>⟨μ2,S2,x,xs,d,S',s2,r1.mono e2,r2,h,(post.ext e1).ext e2⟩⟩⟩
   obtain⟨a,ws,es,rfl,hq,_,_⟩:=lG s1 r1 hl
   exact .inl ⟨rfl,ws,hq⟩
  ·cases h
end
end M
namespace HT
open AutoSeq1 (wpAny_loadPart')
section
variable{prog:Program}{w:World}{A:Around}{E:Value->Shared->Prop}{s:Shared}
def CW{it t:Addr}{i:Nat}{items:Array Value}{x:Value}{Q:Value->Shared->Prop}(hit:s.heap.IsTupleIter it t i)(ht:s.heap.IsTuple t items)(hx:items[i]?=Z x)
  (hQ:∀ h',h'.IsTupleIter it t (i+1)->Heap.SameBut it s.heap h'->Q x { s with heap:=h' }):wpAny (model prog w) A (Builtin.SmallTypes.nextOf (.ref it)) Q E s:=by
 obtain⟨o,ho,hc,hd⟩:=id hit;obtain⟨ol,hol,_,nl,hdl⟩:=ht
 unfold Builtin.SmallTypes.nextOf
 refine Up (VZ (name:=Str.ofString "__next__") hit.typeIs VS (WF VS hit.typeIs Xz ?_ (Xr _)))
 show wpAny _ _ (field (.ref it) 0 >>= _) _ _ s;refine Up (Wr ho hd (x:=.ref t) rfl ?_)
 show wpAny _ _ (if (Value.ref t == Value.none)=true then _ else _) _ _ s;rw [if_neg (show ¬ ((Value.ref t == Value.none)=true) from Bool.false_ne_true)]
 show wpAny _ _ (field (.ref it) 1 >>= _) _ _ s;refine Up (Wr ho hd (x:=.int i 0) rfl ?_)
 show wpAny _ _ (seqItems? (.ref t) >>= _) _ _ s;refine Up (wpAny_seqItems hol hdl ?_);simp only [Vx,hx]
 refine Up (wpAny_setField ho hd (by simp) (UD ⟨x,rfl,UD (hQ _ ⟨_,Yd _ ho (Obj.isFreed_of_fields (Yp hd _)),(Obj.cls_mapFields ..).trans hc,?_⟩ (Ym ..))⟩))
 rw [Yp hd];simp [rawInt]
def wv{it t:Addr}{i:Nat}{items:Array Value}{Q:Value->Shared->Prop}(hh:A.handled=U)(hit:s.heap.IsTupleIter it t i)(ht:s.heap.IsTuple t items)(hx:items[i]?=U)
  (hE:∀ h' e,Heap.ExtBut it s.heap h'->(∃ o,h'.get? e=Z o/\o.cls=.type "StopIteration")->E (.ref e) { s with heap:=h' }):wpAny (model prog w) A (Builtin.SmallTypes.nextOf (.ref it)) Q E s:=by
 obtain⟨o,ho,hc,hd⟩:=id hit;obtain⟨ol,hol,_,nl,hdl⟩:=ht
 unfold Builtin.SmallTypes.nextOf
 refine Up (VZ (name:=Str.ofString "__next__") hit.typeIs VS (WF VS hit.typeIs Xz ?_ (Xr _)))
 show wpAny _ _ (field (.ref it) 0 >>= _) _ _ s;refine Up (Wr ho hd (x:=.ref t) rfl ?_)
 show wpAny _ _ (if (Value.ref t == Value.none)=true then _ else _) _ _ s;rw [if_neg (show ¬ ((Value.ref t == Value.none)=true) from Bool.false_ne_true)]
 show wpAny _ _ (field (.ref it) 1 >>= _) _ _ s;refine Up (Wr ho hd (x:=.int i 0) rfl ?_)
 show wpAny _ _ (seqItems? (.ref t) >>= _) _ _ s;refine Up (wpAny_seqItems hol hdl ?_);simp only [Vx,hx]
 refine Up (XD (Up (wpAny_setField ho hd (by simp) ?_)));show wpAny _ _ (newExc (.type "StopIteration") [] >>= _) _ _ _
 refine Up ?_;simp only [newExc,newTuple];refine Up (Vu ?_ (by size_fits))
 refine Up (m:=firstArgMember _ _) (wpAny_of_eq (a:=Value.none) (by first | rfl | (simp only [firstArgMember];rfl)) (Vu ?_ (by size_fits)))
 simp only [raiseNew];refine Up (wpAny_handled ?_);(first | rw [show A.in1.handled=U from hh] | rw [hh])
 refine Up (UD (wpAny_throw (hE _ _ (((Ym ..).extBut.push _).push _) ⟨_,UG _ rfl,rfl⟩)))
end
def KI{prog:Program}{w:World}{A:Around}(hh:A.handled=U)(it t:Addr)(hne:t≠it)(items:Array Value) :
  Draws prog w A it [it,t] items.size (λi v=>items[i]?=Z v) (λi h=>h.IsTupleIter it t i/\h.IsTuple t items) where
 live:=λ_ _ st=>by obtain⟨o,ho,_⟩:=st.1;exact⟨o,ho⟩
 frame:=λ_ _ _ st hk=>by
  obtain⟨⟨o,ho,r⟩,⟨o2,ho2,r2⟩⟩:=st
  exact⟨⟨o,hk it (by simp) o ho,r⟩,⟨o2,hk t (by simp) o2 ho2,r2⟩⟩
 item:=λi s Q E hi st hQ=>CW st.1 st.2 (x:=items[i]) (by simp [hi]) λh' hit' hs'=>hQ _ h' s.toks (by simp [hi]) ⟨hit',st.2.extBut hs'.extBut hne⟩ hs'
 done:=λs Q E st hE=>wv hh st.1 st.2 (by simp) hE
def Gq(l:Addr)(items:Array Value)(n:Nat)(dct:Option Addr)(sl:Array (Option Value)) :
  Meets (Builtin.«enumerate.__new__» ⟨[.type "enumerate",.ref l],[]⟩) (λ_ R s=>s.heap.get? l=Z ⟨.type "tuple",dct,.seq items n,sl⟩ /\
   R (.ok (.ret (.ref (s.heap.push { cls:=.type "tuple_iterator",data:=.fields #[.ref l,.int 0 0] }).objs.size)))
    {s with heap:=(s.heap.push { cls:=.type "tuple_iterator",data:=.fields #[.ref l,.int 0 0] }).push { cls:=.type "enumerate",data:=.fields #[.none,.bool false,.ref s.heap.objs.size,rawInt 0,.none,.none] } }):=
 .of_wp λprog w A R s h=>by
  obtain⟨hp,g,d,tk,os⟩:=s
  obtain⟨hl,h⟩:=h
  have hsub:=sub_enumerate
  have hL:Heap.IsTuple (Shared.heap ⟨hp,g,d,tk,os⟩) l items:=⟨_,hl,rfl,n,rfl⟩
  wp_walk using wpAny_loadPart' hl
  refine wpAny_stack_any λst=>UD ?_
  split
  ·rename_i c _ _ _ _ _
   cases (c == Value.type "enumerate") <;> (wp_walk using wpAny_loadPart' hl,WV hL;exact⟨_,rfl,h⟩)
  ·wp_walk using wpAny_loadPart' hl,WV hL
   exact⟨_,rfl,h⟩
end HT
namespace HT
section
variable{prog:Program}{w:World}{A:Around}{E:Value->Shared->Prop}{s:Shared}
def Dg{l:Addr}{items:Array Value}{Q:Value->Shared->Prop}(hL:s.heap.IsTuple l items)
  (h:∀ h':Heap,IsEnum h' (s.heap.objs.size+1) s.heap.objs.size 0 .none->h'.IsTupleIter s.heap.objs.size l 0->h'.objs.size=s.heap.objs.size+2->(∀ b o,s.heap.get? b=Z o->h'.get? b=Z o)->Q (.ref (s.heap.objs.size+1)) { s with heap:=h' }) :
  wpAny (model prog w) A (call (.type "enumerate") [.ref l]) Q E s:=by
 obtain⟨⟨c,dct,dt,sl⟩,hl,hc,n,hd⟩:=hL
 simp only at hc hd
 subst hc hd
 refine callType_new F.called_enumerate (by decide) (F.typeCall_enumerate_1 _) (F.newCall_enumerate_1 _) (λobj=>F.args_object_init_2 obj _) F.entry_enumerate_new (Gq l items n dct sl) ⟨hl,?_⟩
 have hz:(s.heap.push { cls:=.type "tuple_iterator",data:=.fields #[.ref l,.int 0 0] }).objs.size=s.heap.objs.size+1:=WS ..
 show _/\_
 rw [hz]
 have he:IsEnum ((s.heap.push { cls:=.type "tuple_iterator",data:=.fields #[.ref l,.int 0 0] }).push { cls:=.type "enumerate",data:=.fields #[.none,.bool false,.ref s.heap.objs.size,rawInt 0,.none,.none] }) (s.heap.objs.size+1) s.heap.objs.size 0 .none:=by
  have q:=UG (s.heap.push { cls:=.type "tuple_iterator",data:=.fields #[.ref l,.int 0 0] }) (o:={ cls:=.type "enumerate",data:=.fields #[.none,.bool false,.ref s.heap.objs.size,rawInt 0,.none,.none] }) rfl
  rw [hz] at q
  exact q
 exact⟨⟨_,he,rfl⟩,h _ he ⟨_,Uv _ (UG _ rfl),rfl,rfl⟩ (by rw [WS,hz]) λb o x=>Uv _ (Uv _ x)⟩
end
end HT
namespace L2
section
variable{X:Cx}{pins:List (Addr×Obj)}{σ:St}{H:Hp}{s:Shared}{h':Heap}
def Inv.turnLaid{fp:List Addr}{a:Addr}{o:HO}{t':Nat}(I:Inv X pins σ H s)(k:∀ b o,b ∉ fp->s.heap.get? b=Z o->h'.get? b=Z o)(hf:∀ b∈fp,qb X pins H b)(hp:s.heap.objs.size<=a)
  (new:ObjOk X.prog X.w (upd H a o) h' a o):Inv X pins σ (upd H a o) { s with heap:=h',toks:=t' }:=by
 have hn:H a=U:=I.hok.fresh hp
 have st:∀ b u,H b=Z u->upd H a o b=Z u:=λb u e=>(bh (bW e hn)).trans e
 have nfp:∀ b u,H b=Z u->b ∉ fp:=λb u e z=>by rw [(hf b z).1] at e;cases e
 refine I.step (g':=s.gens) (d':=s.drawn) (ch:=fp) (λb hb=>?_) (λb o _ _ hc e _=>k b o hc e) (λb o _ _ hc e _=>⟨o.slots,k b o hc e⟩) (λb u _ e n=>?_) (λb o hc e=>⟨o,k b o hc e⟩) (λb xs e=>st b _ e) (λb o u e=>st b _ e) (λb ps e=>⟨#[],by rw [st b _ e];simp⟩) (λm hm=>?_) (λb u e=>?_) I.bare
 ·obtain⟨f0,f1,f2,f3,f4,f5⟩:=hf b hb
  exact⟨f3,f1,f4,f5⟩
 ·rw [bh (UR (UI (UA e) hp))];exact n
 ·obtain⟨o',es,ep,ho,r⟩:=hm
  exact⟨o',es,ep,k _ o' (λz=>(hf _ z).2.1 rfl) ho,r⟩
 ·by_cases hb:b=a
  ·subst hb
   rw [bo] at e
   cases e
   exact new
  ·rw [bh hb] at e
   refine(I.hok b u e).stay (λc v hc q=>k c v ?_ q) (λ_ q=>st _ _ q) λ_ _ q=>st _ _ q
   rcases hc with z | z
   ·rw [z];exact nfp b u e
   ·exact nfp c _ z
def Inv.turnedL{fp:List Addr}{t':Nat}(I:Inv X pins σ H s)(k:∀ b o,b ∉ fp->s.heap.get? b=Z o->h'.get? b=Z o)(hf:∀ b∈fp,qb X pins H b):Inv X pins σ H { s with heap:=h',toks:=t' }:=by
 have nfp:∀ b u,H b=Z u->b ∉ fp:=λb u e z=>by rw [(hf b z).1] at e;cases e
 refine I.step (g':=s.gens) (d':=s.drawn) (ch:=fp) (λb hb=>?_) (λb o _ _ hc e _=>k b o hc e) (λb o _ _ hc e _=>⟨o.slots,k b o hc e⟩) (λb u _ e n=>n) (λb o hc e=>⟨o,k b o hc e⟩) (λb xs e=>e) (λb o u e=>e) (λb ps e=>⟨#[],by rw [e];simp⟩) (λm hm=>?_) (λb u e=>?_) I.bare
 ·obtain⟨f0,f1,f2,f3,f4,f5⟩:=hf b hb
  exact⟨f3,f1,f4,f5⟩
 ·obtain⟨o',es,ep,ho,r⟩:=hm
  exact⟨o',es,ep,k _ o' (λz=>(hf _ z).2.1 rfl) ho,r⟩
 ·refine(I.hok b u e).stay (λc v hc q=>k c v ?_ q) (λ_ q=>q) λ_ _ q=>q
  rcases hc with z | z
  ·rw [z];exact nfp b u e
  ·exact nfp c _ z
noncomputable def Ite(K:W.Frag)(a:Addr):It:=
 ⟨λi H=>∃ xs x,oo K H a xs/\xs[i]?=Z x,λi H x H'=>∃ p v,x=.ref p/\H p=U/\H'=upd H p (.tup [.int (i:Nat),v])/\∀ xs,oo K H a xs->xs[i]?=Z v,λi H=>∃ xs,oo K H a xs/\xs.length<=i⟩
def ET{P:Program}{w:World}{K:W.Frag}{es:List Expr}{k:Nat}{pos:Pos}(a e it:Addr)(hei:e≠it):GY P w K (.Tuple es k pos) (Ite K a) [e,it] e (λi h=>(∃ old,IsEnum h e it i old)/\h.IsTupleIter it a i) where
 mem:=by simp
 obj:=λi h st b hb=>by
  obtain⟨⟨old,he⟩,⟨o,ho,hc,hd⟩⟩:=st
  simp only [UO,WG,Yn] at hb
  rcases hb with rfl | rfl
  ·exact⟨_,he,λv z=>by cases z⟩
  ·exact⟨o,ho,λv z=>by rw [hd] at z;cases z⟩
 keep:=λi h h' st kk=>by
  obtain⟨⟨old,he⟩,⟨o,ho,r⟩⟩:=st
  exact⟨⟨old,kk e (by simp) _ he⟩,⟨o,kk it (by simp) _ ho,r⟩⟩
 item:=by
  intro X hP hw hK hc i pins s σ H E I hf st hg
  subst hP hw hK
  obtain⟨xs,x,hq,hx⟩:=hg
  obtain⟨its,rv,p,hz⟩:=I.tuple hq
  have hT:s.heap.IsTuple a its.toArray:=p
  have hh:=I.ok.hd hc
  have ne1:a≠e:=λz=>by
   obtain⟨⟨old,he⟩,_⟩:=st
   obtain⟨o,ho,hcl,_⟩:=hT
   rw [z,he] at ho;cases ho;exact absurd (show Value.type "enumerate" = Value.type "tuple" from hcl) (by decide)
  have ne2:a≠it:=λz=>by
   obtain⟨_,⟨o',ho',hc',_⟩⟩:=st
   obtain⟨o,ho,hcl,_⟩:=hT
   rw [z,ho'] at ho;cases ho;rw [hc'] at hcl;exact absurd hcl (by decide)
  have W:=WalksT.enumerateD (HT.KI (prog:=X.prog) (w:=X.w) (A:=X.A.in1) hh it a ne2 its.toArray) e hei (by simp;exact⟨hei,λz=>ne1 z.symm⟩) (by simp)
  have hi:i<its.toArray.size:=by rw [Um,<- rv.length];exact(Uj.mp hx).1
  obtain⟨⟨old,he⟩,hit⟩:=st
  have Te:s.heap.objs.size≠e:=Xh (UA he)
  have Ti:s.heap.objs.size≠it:=by
   obtain⟨o,ho,_⟩:=hit
   exact Xh (UA ho)
  refine wpAny_pyNext_enum_itemD (HT.KI (prog:=X.prog) (w:=X.w) (A:=X.A.in1) hh it a ne2 its.toArray) he ⟨hit,hT⟩ hi hei (by simp;exact⟨hei,λz=>ne1 z.symm⟩) λy h1 tk hy ho st1 hT1 hsz kk=>⟨_,rfl,?_⟩
  refine W.go es k pos i s.heap.objs.size _ _ _ ⟨⟨y,ho⟩,st1,Te,Ti⟩ λh2 st2 kk2=>?_
  generalize hTT:s.heap.objs.size=T at *
  obtain⟨u,hu,ru⟩:=rv.get hx
  have ey:y=u:=by
   rw [show its.toArray[i]?=its[i]? by simp,hu] at hy
   exact(Uu hy).symm
  subst ey
  have apT:T ∉ [e,it]:=by simp;exact⟨Te,Ti⟩
  have kall:∀ b o,b ∉ [e,it]->s.heap.get? b=Z o->h2.get? b=Z o:=λb o hb q=>kk2 b o hb (kk b o (λz=>hb (by simp [z])) (λz=>hb (by simp [z])) q)
  have hT2:IsTupN h2 T #[.int i tk,y]:=⟨_,kk2 T _ apT hT1,rfl,⟨_,rfl⟩,rfl⟩
  have hTs:s.heap.objs.size<=T:=XX hTT
  refine⟨.ref T,upd H T (.tup [.int (i:Nat),x]),I.turnLaid kall hf hTs ⟨by show 2<=sizeLine;decide,[.int i tk,y],.cons ⟨_,rfl⟩ (.cons ru .nil),hT2⟩,rfl,⟨T,x,rfl,I.hok.fresh hTs,rfl,λys hy=>by rw [I.tuple_inj hy hq];exact hx⟩,⟨st2.1,st2.2.1⟩,λb hb=>?_⟩
  have nb:b≠T:=λz=>apT (by rw [<- z];exact hb)
  rw [bh nb]
  exact(hf b hb).1
 done:=by
  intro X hP hw hK hc i pins s σ H E I hf st hg
  subst hP hw hK
  obtain⟨xs,hq,hx⟩:=hg
  obtain⟨its,rv,p,hz⟩:=I.tuple hq
  have hT:s.heap.IsTuple a its.toArray:=p
  have hh:=I.ok.hd hc
  have ne1:a≠e:=λz=>by
   obtain⟨⟨old,he⟩,_⟩:=st
   obtain⟨o,ho,hcl,_⟩:=hT
   rw [z,he] at ho;cases ho;exact absurd (show Value.type "enumerate" = Value.type "tuple" from hcl) (by decide)
  have D':Draws X.prog X.w X.A.in1 it [it,a] i (λ_ _=>True) (λj h=>j=i/\h.IsTupleIter it a i/\h.IsTuple a its.toArray):=
   {live:=λ_ _ q=>by obtain⟨_,⟨o,ho,_⟩,_⟩:=q;exact⟨o,ho⟩
    frame:=λ_ _ _ q hk=>by
     obtain⟨q0,⟨o,ho,r⟩,⟨o2,ho2,r2⟩⟩:=q
     exact⟨q0,⟨o,hk it (by simp) o ho,r⟩,⟨o2,hk a (by simp) o2 ho2,r2⟩⟩
    item:=λj _ _ _ hj q _=>absurd q.1 (UR hj)
    done:=λs Q E q hE=>HT.wv hh q.2.1 q.2.2 (by simp;have:=rv.length;omega) hE }
  have W:=WalksT.enumerateD D' e hei (by simp;exact⟨hei,λz=>ne1 z.symm⟩) (by simp)
  refine W.done s _ _ ⟨st.1,rfl,st.2,hT⟩ λh2 tk kk=>⟨rfl,I.turnedL kk hf⟩
 self:=λA i s Q E st h=>by
  obtain⟨⟨old,he⟩,_⟩:=st
  exact wpAny_pyIter_enum he h
def iEnum(K:W.Frag)(t:TA):TI:=λσ H R=>t σ H λxs H1=>∃ a,xs=[.ref a]/\(∃ ys,oo K H1 a ys)/\R (Ite K a) H1
end
section
variable{X:Cx}
def Ms{a:Expr}{ta:TA}{es:List Expr}{k:Nat}{tp p pos:Pos}(hg:Gl X "enumerate")(hm:X.mg "enumerate" = U)(ha:PA X [a] ta)(hs:starEach [a] X.env=[(false,eval a X.env)]) :
  PI X (.Tuple es k tp) (.Call (.Name "enumerate" p) [a] [] pos) (iEnum X.K ta):=by
 intro pins s σ H R I h
 refine Call_ (pL I hg hm boot_enumerate (VP (da (ha pos pins s σ H _ I h) λus s1 ⟨vs,H1,I1,r1,q1⟩=>?_) hs rfl))
 obtain⟨t,rfl,⟨ys,hq⟩,q⟩:=q1
 obtain⟨u,rfl,ru⟩:=r1.one
 cases ru
 obtain⟨its,rv,pt,hz⟩:=I1.tuple hq
 refine HT.Dg pt λh' he hi hsz kk=>wpAny_pyIter_enum he ?_
 refine⟨s1.heap.objs.size+1,[s1.heap.objs.size+1,s1.heap.objs.size],_,_,H1,rfl,I1.kept (t':=s1.toks) kk,ET t _ _ (Nat.succ_ne_self _),⟨⟨_,he⟩,hi⟩,λb hb=>?_,q⟩
 simp only [UO,WG,Yn] at hb
 rcases hb with rfl | rfl
 ·exact I1.fpOk (Xw _) (I1.hok.fresh (Xw _))
 ·exact I1.fpOk (Uw _) (I1.hok.fresh (Uw _))
end
end L2
namespace M
open L2
section
variable{X:Cx}{K:W.Frag}{μ μ':Fp}{H H':Hp}{S:ab}
noncomputable def fS:Nat->List D->List D
 | _,[]=>[]
 | i,x::r=>.tup [.int (i:Nat),x]::fS (i+1) r
theorem mQ:∀ (i:Nat) (xs:List D),(fS i xs).length=xs.length
 | _,[]=>rfl
 | i,_::r=>by rw [fS,UE,UE,mQ (i+1) r]
theorem wq:∀ (k:Nat) (xs:List D) (i:Nat) (d:D),(fS k xs)[i]?=Z d->∃ x,xs[i]?=Z x/\d=.tup [.int ((k+i:Nat):Int),x]
 | _,[],i,d,h=>by simp [fS] at h
 | k,x::r,0,d,h=>by simp [fS] at h;exact⟨x,rfl,h.symm⟩
 | k,x::r,i+1,d,h=>by
  rw [fS,WA] at h
  obtain⟨y,h1,h2⟩:=wq (k+1) r i d h
  refine⟨y,by simpa using h1,?_⟩
  rw [h2,show k+1+i=k+(i+1) by omega]
def FT{a:Addr}{xs:List D}(r:Rep K μ H (.ref a) (.tup xs)):Hb K μ H (Ite K a) (fS 0 xs):=λμ' H' S' e s i=>by
 have r':=r.monoP e
 obtain⟨b,vs,hb,hq,rs⟩:=r'.sqT
 cases hb
 refine⟨λd hd=>?_,λhl=>⟨vs,hq,by rw [rs.length];rw [mQ] at hl;exact hl⟩⟩
 obtain⟨x,hx,rfl⟩:=wq 0 xs i d hd
 obtain⟨v,hv,rv⟩:=rs.get hx
 refine⟨⟨vs,v,hq,hv⟩,λy H2 hy=>?_⟩
 obtain⟨p,w,rfl,hp,rfl,hw⟩:=hy
 have ew:w=v:=by have:=hw vs hq;rw [hv] at this;exact(Uu this).symm
 subst ew
 obtain⟨e2,s2⟩:=s.laid (o:=.tup [.int (i:Nat),w]) hp
 refine⟨e2,s2,?_⟩
 rw [WP]
 exact .tup bo (s.notMem hp) (.cons (.int _) (.cons (rv.mono e2) .nil))
noncomputable def fI(ms:MA):MA:=λenv S=>(ms env S).bind λp=>match p.1 with | [.tup xs]=>Z (fS 0 xs,p.2) | _=>U
def Om{a:Expr}{ms:MA}{es:List Expr}{k:Nat}{tp p pos:Pos}(hm:X.mg "enumerate" = U)(ha:DA X [a] ms)(hg:Gl X "enumerate")(hs:starEach [a] X.env=[(false,eval a X.env)]) :
  DI X (.Tuple es k tp) (.Call (.Name "enumerate" p) [a] [] pos) (fI ms):=PI.imp (Ms hg hm ha hs) λσ H R ⟨μ,S,env,xs,S',hS,hE,h,post⟩=>by
 obtain⟨⟨ds,S1⟩,h1,h⟩:=Ui.mp h
 refine⟨μ,S,env,ds,S1,hS,hE,h1,λvs H1 μ1 e1 s1 r1=>?_⟩
 dsimp only at h
 split at h
 ·rename_i ys
  cases h
  obtain⟨v,rfl,rv⟩:=r1.one
  have rv':=rv
  obtain⟨b,ws,rfl,hq,rs⟩:=rv.sqT
  exact⟨b,rfl,⟨ws,hq⟩,post _ H1 μ1 e1 s1 (FT rv')⟩
 ·cases h
end
end M
namespace HT
section
variable{prog:Program}{w:World}{A:Around}{E:Value->Shared->Prop}{s:Shared}
end
end HT
namespace L2
section
variable{X:Cx}{e st:Expr}{te:TE}{ts:TO}{pos p2:Pos}
end
end L2
namespace M
open L2
section
variable{X:Cx}{K:W.Frag}{μ:Fp}{H:Hp}{S:ab}
noncomputable def mRev(a:ME)(st:MO):ME:=λenv S=>(a env S).bind λp=>(st env p.2).bind λk=>match p.1,k.1 with
 | .tup xs,Z j=>if j = -1 then Z (.tup xs.reverse,k.2) else U
 | _,_=>U
end
end M
namespace HT
section
variable{prog:Program}{w:World}{A:Around}{R:Result->Shared->Prop}{it:Addr}{fp wr:List Addr}{G:Array GenState->Array GenState->Prop}{n:Nat}{P:Nat->Value->Prop}{St:Nat->Shared->Prop}
noncomputable def yU(val:Nat->Str):Nat->List Str
 | 0=>[]
 | i+1=>if (yU val i).any (· == val i) then yU val i else yU val i++[val i]
theorem Br(val:Nat->Str):∀ i,(yU val i).length<=i
 | 0=>Uw _
 | i+1=>by
  have:=Br val i
  unfold yU;split
  ·omega
  ·rw [UC,Vd];omega
def LJ(val:Nat->Str)(i:Nat)(x:Str):((yU val i).any (· == x)||decide (x=val i))=(yU val (i+1)).any (· == x):=by
 rw [yU]
 by_cases h:(yU val i).any (· == val i)=true
 ·rw [if_pos h]
  by_cases e:x=val i
  ·subst e;rw [h];rfl
  ·rw [Ut e,XN]
 ·rw [if_neg h,List.any_append,VJ,List.any_nil,XN]
  congr 1
  rw [UK,Wu,beq_iff_eq]
  exact⟨Eq.symm,Eq.symm⟩
def LI(val:Nat->Str)(i:Nat):(if (yU val i).any (· == val i) then (yU val i).length else (yU val i).length+1)=(yU val (i+1)).length:=by
 rw [yU];split <;> simp
abbrev IsSetT(prog:Program)(w:World)(h:Heap)(a:Addr)(val:Nat->Str)(i:Nat):Prop:=h.SetOf (strKind prog w) a (λx=>(yU val i).any (· == x)) (yU val i).length
def IsSetT.stays{h h':Heap}{a:Addr}{val:Nat->Str}{i:Nat}(x:IsSetT prog w h a val i)(k:∀ o,h.get? a=Z o->h'.get? a=Z o):IsSetT prog w h' a val i:=by
 obtain⟨o,es,ep,tb,ho,c⟩:=x
 exact⟨o,es,ep,tb,k o ho,c⟩
def HW(W:WalksS prog w A.in1 it fp wr G n P St)(a:Addr)(ha:a ∉ fp)(val:Nat->Str)(hv:∀ i v,P i v->∃ t,v=.str (val i) t)(hn:n+1<scanBound) :
  ∀ (m i:Nat) (s:Shared),i+m=n->St i s->IsSetT prog w s.heap a val i->(∀ s',Moved (a::wr) G s s'->IsSetT prog w s'.heap a val n->R (.ok (.ret .none)) s')->codeAny (model prog w) A (.builtin "set.update.loop" ⟨[.ref a,.ref it],[]⟩) R s:=by
 have hw:a ∉ wr:=λz=>ha (W.sub a z)
 have up:∀ b∈wr,b∈a::wr:=λb z=>Ur a z
 intro m
 induction m with
 | zero=>
  intro i s e st x fin
  obtain rfl:i=n:=e
  refine Xs XM ?_
  rw [Yg WD _]
  refine Up (m:=pyNext (.ref it)) (W.done s _ _ st λs' mv=>UD (fin s' (mv.mono up) (x.stays λo q=>mv.heap a o hw q)))
 | succ m ih=>
  intro i s e st x fin
  refine Xs XM ?_
  rw [Yg WD _]
  refine Up (m:=pyNext (.ref it)) (W.item i s _ _ (by omega) st λv s1 hp st1 mv=>?_)
  obtain⟨t,rfl⟩:=hv i v hp
  have x1:IsSetT prog w s1.heap a val i:=x.stays λo q=>mv.heap a o hw q
  refine Up (m:=holding [Value.str (val i) t] (setAdd a (.str (val i) t))) (VQ ?_)
  unfold setAdd
  refine VQ (Up ((strKind prog w).pyHash (k:=val i) (strKind_is _ _ _ _) ?_))
  have few:=Br val i
  refine wpAny_setAddHashed_of (knd:=strKind prog w) (s:={ s1 with toks:=s1.toks+1 }) (strKind_is _ _ _ _) rfl x1 (by omega) λh2 sb x2=>?_
  have x3:IsSetT prog w h2 a val (i+1):=SetOf_congr x2 (λk=>LJ val i k) (LI val i)
  refine UD ⟨plainId_quiet WD _,ih (i+1) _ (by omega) (W.frame _ s1 _ _ st1 (Xw _) λb z o q=>by rw [sb.2 b (λy:b=a=>ha (y ▸ z))];exact q) x3 λs3 mv3 x4=>?_⟩
  exact fin s3 (Moved.trans W.gtrans ((mv.mono up).then_heap (Xw _) λb o z q=>by rw [sb.2 b (λy:b=a=>z (y ▸ Ul))];exact q) mv3) x4
end
section
variable{prog:Program}{w:World}{A:Around}{E:Value->Shared->Prop}{s:Shared}
noncomputable abbrev Rr(led:Bool):Obj:={ cls:=.type "set",dict:=U,data:=.set #[] 0 (.fresh 0 0 led) }
set_option maxHeartbeats 3200000 in
def tY{l:Addr}{items:Array Value}{val:Nat->Str}{Q:Value->Shared->Prop}(hh:A.handled=U)(hl:s.heap.IsList l items)(hi:∀ (i:Nat) (v:Value),items[i]?=Z v->∃ t,v=.str (val i) t)(hb:items.size+1<scanBound)
  (h:∀ (h':Heap) (tk:Nat),IsSetT prog w h' s.heap.objs.size val items.size->(∀ b o,b<s.heap.objs.size->s.heap.get? b=Z o->h'.get? b=Z o)->Q (.ref s.heap.objs.size) { s with heap:=h',toks:=tk }) :
  wpAny (model prog w) A (call (.type "set") [.ref l]) Q E s:=by
 obtain⟨c,tl,hmro⟩:=F.called_set.mro
 have hmade:=F.called_set.made
 have hsub:=F.called_set.sub
 refine wpAny_call (codeAny_of_tree ?_)
 show wpAny _ _ (callAny (.type "set") _) _ _ _
 refine UD ⟨Code.quiet_builtin _ (by decide +kernel),Xs F.entry_type_call ?_⟩
 rw [Around.under_plain (weight_type_call_type "set" [.ref l] []) rfl]
 have h1:=F.called_set.notType
 have h2:=F.called_set.canCreate
 have hct:=F.typeCall_set_1 (.ref l)
 repeat (any_goals (first | assumption | wp_step))
 refine VO (code_set_new_1 (.ref l) (E:=E) (Q₁:=λx s1=>∃ led:Bool,x=.ref s.heap.objs.size/\s1 = { s with heap:=s.heap.push { cls:=.type "set",dict:=U,data:=.set #[] 0 (.fresh 0 0 led) } }) λled=>⟨led,rfl,rfl⟩) λres s1 hr=>?_
 cases res with
 | error e=>exact hr
 | ok fl=>
  cases fl with
  | ret x=>
   obtain⟨led,rfl,rfl⟩:=hr
   have g0:(s.heap.push (Rr led)).get? s.heap.objs.size=Z (Rr led):=UG _ rfl
   have hT:Shared.TypeIs { s with heap:=s.heap.push (Rr led) } (.ref s.heap.objs.size) "set":=⟨_,g0,rfl⟩
   have hli:=F.called_set.init.lookup
   have hbi:=F.called_set.init.bind (.ref s.heap.objs.size)
   repeat (any_goals (first | assumption | wp_step))
   refine VO (codeAny_call_builtin (R:=wants (λv s2=>v=.none/\∃ h' tk,s2 = { s with heap:=h',toks:=tk }/\IsSetT prog w h' s.heap.objs.size val items.size/\∀ b o,b<s.heap.objs.size->s.heap.get? b=Z o->h'.get? b=Z o) E) F.called_set.init.plain F.entry_set_init (check_set_init_1 hT ?_)) λres2 s2 hr2=>?_
   ·obtain⟨ol,hol,hcl,nl,hdl⟩:=hl
    obtain⟨ocls,odict,odata,oslots⟩:=ol
    simp only at hcl hdl
    subst hcl hdl
    have hol':(s.heap.push (Rr led)).get? l=Z { cls:=.type "list",dict:=odict,data:=.seq items nl,slots:=oslots }:=Uv _ hol
    have hsls:=F.sub_list_set
    have hslf:=F.sub_list_frozenset
    have hne:(Value.type "list" == Value.type "dict")=false:=by decide
    have hl1:(s.heap.push (Rr led)).IsList l items:=⟨_,hol',rfl,nl,rfl⟩
    unfold Builtin.«set.__init__» noKeywords Builtin.Frozenset.updateFrom
    generalize hPI:pyIter=PI
    wp_walk
    subst hPI
    refine We hl1 ?_
    refine Up (wpAny_runValue ?_)
    have lS:l<s.heap.objs.size:=UA hol
    have zs:(s.heap.push (Rr led)).objs.size=s.heap.objs.size+1:=WS ..
    refine HW ((Walks.list (by simp [hh]) _ l (by rw [zs];exact UR (Xd lS)) items).toS) s.heap.objs.size (by rw [zs];simp only [UO,WG,Yn,not_or];exact⟨UR (Nat.lt_succ_self _),Xh lS⟩) val hi hb items.size 0 _ (by omega) ⟨⟨_,UG _ rfl,rfl,rfl⟩,hl1.push _⟩ ?_ λs' mv x=>?_
    ·have g1:=Uv (h:=s.heap.push (Rr led)) { cls:=.type "list_iterator",data:=.fields #[.ref l,.int 0 0] } g0
     exact SetOf_congr ((setObjOf_fresh (knd:=strKind prog w) led).setOf g1 (by unfold scanBound;omega)) (λ_=>rfl) rfl
    ·obtain⟨h',g',d',tk',os'⟩:=s'
     obtain rfl:g'=s.gens:=mv.gens
     obtain rfl:d'=s.drawn:=mv.drawn
     obtain rfl:os'=s.os:=mv.os
     refine UD (UD ⟨rfl,h',tk',rfl,x,λb o z q=>?_⟩)
     exact mv.heap b o (by rw [zs];simp only [UO,WG,Yn,not_or];exact⟨UR z,UR (Xd z)⟩) (Uv _ (Uv _ q))
   ·cases res2 with
    | error e=>exact hr2
    | ok fl2=>
     cases fl2 with
     | ret v=>
      obtain⟨rfl,h',tk,rfl,x,kk⟩:=hr2
      repeat (any_goals (first | assumption | wp_step))
      exact h _ _ x kk
     | _=>exact hr2.elim
  | _=>exact hr.elim
end
end HT
namespace L2
section
variable{X:Cx}
theorem vS:∀ {ns:List Int} {us:List Value},Vals (ns.map V.int) us->IntsAre us ns
 | [],_,.nil=>.nil
 | n::ns,_,.cons ⟨t,e⟩ r=>by subst e;exact .cons n t (vS r)
def pS(ns:List Int):Nat:=(firstMet (λi=>ns.getD i 0) ns.length).length
def GL:CallR X (.type "set") (λxs H Q=>X.calm=true/\∃ p ns,xs=[.ref p]/\mU X.K H p (ns.map V.int)/\ns.length<64/\∀ S q,H q=U->Q (.ref q) (upd H q (.set S (pS ns)))):=by
 intro pins s σ H xs us Q I r h
 obtain⟨hc,p,ns,rfl,hq,h64,q⟩:=h
 obtain⟨u,rfl,rx⟩:=jL r
 cases rx
 obtain⟨its,rv,pl,hz⟩:=I.list hq
 have hl:=rv.length
 rw [Ux] at hl
 refine call_set_list (I.ok.hd hc) pl.isList (by simpa using vS rv) (Wv (show its.toArray.size+1<=100 by rw [Um];omega) (by decide)) λh' tk hS kk=>?_
 have ek:its.toArray.size=ns.length:=by rw [Um];exact hl.symm
 rw [ek] at hS
 exact⟨.ref _,_,I.laid (t':=tk) (o:=.set _ (pS ns)) (λb o q=>kk b o (UA q) q) (Uw _) hS,rfl,q _ _ I.fresh⟩
theorem uX:∀ {ks:List Str} {us:List Value},Vals (ks.map V.str) us->∀ (i:Nat) (v:Value),us[i]?=Z v->∃ t,v=.str (ks.getD i Str.empty) t
 | [],_,.nil,i,v,h=>by simp at h
 | k::ks,_,.cons ⟨t,e⟩ r,0,v,h=>by subst e;simp at h;exact⟨t,h.symm⟩
 | k::ks,_,.cons _ r,i+1,v,h=>by
  rw [WA] at h
  obtain⟨t,e⟩:=uX r i v h
  exact⟨t,by rw [e];rfl⟩
def Gz(ks:List Str):Nat:=(HT.yU (λi=>ks.getD i Str.empty) ks.length).length
def HU(P:Program)(w:World)(q:Addr)(ks:List Str)(h:Heap):Prop:=HT.IsSetT P w h q (λi=>ks.getD i Str.empty) ks.length
def GJ:CallR X (.type "set") (λxs H Q=>X.calm=true/\∃ p ks,xs=[.ref p]/\mU X.K H p (ks.map V.str)/\ks.length<64/\∀ q,H q=U->Q (.ref q) (upd H q (.ext (HU X.prog X.w q ks)))):=by
 intro pins s σ H xs us Q I r h
 obtain⟨hc,p,ks,rfl,hq,h64,q⟩:=h
 obtain⟨u,rfl,rx⟩:=jL r
 cases rx
 obtain⟨its,rv,pl,hz⟩:=I.list hq
 have hl:=rv.length
 rw [Ux] at hl
 have ek:its.toArray.size=ks.length:=by rw [Um];exact hl.symm
 refine HT.tY (val:=λi=>ks.getD i Str.empty) (I.ok.hd hc) pl.isList (λi v hv=>uX rv i v (by simpa using hv)) (Wv (show its.toArray.size+1<=100 by rw [ek];omega) (by decide)) λh' tk hS kk=>?_
 rw [ek] at hS
 have hS':HU X.prog X.w s.heap.objs.size ks h':=hS
 refine⟨.ref _,_,I.laid (t':=tk) (o:=.ext (HU X.prog X.w s.heap.objs.size ks)) (λb o q=>kk b o (UA q) q) (Uw _) ⟨hS',?_,λh1 h2 y k=>HT.IsSetT.stays y k⟩,rfl,q _ I.fresh⟩
 obtain⟨o,_,_,_,e,_⟩:=hS
 exact⟨o,e⟩
def GP:CallR X (.builtin "len") (λxs H Q=>∃ p ks,xs=[.ref p]/\H p=Z (.ext (HU X.prog X.w p ks))/\Gz ks<1000/\Q (.int (Gz ks:Nat)) H):=by
 intro pins s σ H xs us Q I r h
 obtain⟨p,ks,rfl,hH,hn,q⟩:=h
 obtain⟨u,rfl,rx⟩:=jL r
 cases rx
 obtain⟨⟨o,es,ep,t,e,hx,hd,_,_,_,hf,hsz⟩,_⟩:=I.hok p _ hH
 have hsz':es.size=Gz ks:=hsz
 exact call_len_set e hx hd hf (by omega) ⟨.int (Gz ks:Nat),H,I.tok _,⟨s.toks+1,by rw [hsz']⟩,q⟩
def Op(ks:List Str):Gz ks<=ks.length:=HT.Br _ _
def GQ:CallR X (.builtin "len") (λxs H Q=>∃ p S n,xs=[.ref p]/\H p=Z (.set S n)/\n<1000/\Q (.int (n:Nat)) H):=by
 intro pins s σ H xs us Q I r h
 obtain⟨p,S,n,rfl,hH,hn,q⟩:=h
 obtain⟨u,rfl,rx⟩:=jL r
 cases rx
 obtain⟨o,es,ep,t,e,hx,hd,_,_,_,hf,hsz⟩:=I.hok p _ hH
 exact call_len_set e hx hd hf (by omega) ⟨.int (n:Nat),H,I.tok _,⟨s.toks+1,by rw [hsz]⟩,q⟩
end
end L2
namespace M
open L2
noncomputable def nX:List D->Option (List Int)
 | []=>Z []
 | .int i::r=>(nX r).bind λns=>Z (i::ns)
 | _::_=>U
theorem qo:∀ {ds:List D} {ns:List Int},nX ds=Z ns->ds=ns.map D.int
 | [],ns,h=>by cases h;rfl
 | .int i::r,ns,h=>by
  obtain⟨ms,h1,h2⟩:=Ui.mp h
  cases h2
  rw [Uy,<- qo h1]
 | .non::_,ns,h=>by cases h
 | .bl _::_,ns,h=>by cases h
 | .str _::_,ns,h=>by cases h
 | .tup _::_,ns,h=>by cases h
 | .lst _::_,ns,h=>by cases h
 | .rol _::_,ns,h=>by cases h
 | .dct _ _::_,ns,h=>by cases h
 | .ref _::_,ns,h=>by cases h
theorem tm:∀ ns:List Int,nX (ns.map D.int)=Z ns
 | []=>rfl
 | n::ns=>by rw [Uy,nX,tm ns];rfl
noncomputable def isort(ns:List Int):List Int:=ns.mergeSort λa b=>decide (a<=b)
section
variable{X:Cx}{K:W.Frag}{μ:Fp}{H:Hp}{S:ab}
theorem vg:∀ {vs:List V} {ns:List Int},Reps K μ H vs (ns.map D.int)->vs=ns.map V.int
 | _,[],.nil=>rfl
 | _,n::ns,.cons h t=>by rw [h.int_inv,vg t];rfl
noncomputable def qp(S:ab)(d:D):Option (List Int):=if pJ S d=true then (iD S d).bind λds=>(nX ds).bind λns=>if ns.length<64 then Z ns else U else U
def tq{v:V}{d:D}{ns:List Int}(hS:SOk K μ S H)(r:Rep K μ H v d)(h:qp S d=Z ns):∃ a,v=.ref a/\mU K H a (ns.map V.int)/\ns.length<64:=by
 unfold qp at h
 split at h
 ·rename_i hl
  obtain⟨a,vs,ds,rfl,hq,hs,rs⟩:=lG hS r hl
  rw [hs] at h
  have h:((nX ds).bind λns=>if ns.length<64 then Z ns else U)=Z ns:=h
  obtain⟨ms,h1,h2⟩:=Ui.mp h
  split at h2
  ·rename_i h3
   cases h2
   have:=qo h1
   subst this
   exact⟨a,rfl,by rw [<- vg rs];exact hq,h3⟩
  ·cases h2
 ·cases h
noncomputable def fSorted(S:ab):List D->Option D
 | [d]=>(qp S d).bind λns=>Z (.lst ((isort ns).map D.int))
 | _=>U
noncomputable def wP:List D->Option (List Str)
 | []=>Z []
 | .str x::r=>(wP r).bind λns=>Z (x::ns)
 | _::_=>U
theorem qc:∀ {ds:List D} {ns:List Str},wP ds=Z ns->ds=ns.map D.str
 | [],ns,h=>by cases h;rfl
 | d::r,ns,h=>by
  cases d with
  | str x=>
   obtain⟨ms,h1,h2⟩:=Ui.mp h
   cases h2
   rw [Uy,<- qc h1]
  | _=>cases h
theorem vf:∀ {vs:List V} {ns:List Str},Reps K μ H vs (ns.map D.str)->vs=ns.map V.str
 | _,[],.nil=>rfl
 | _,n::ns,.cons h t=>by cases h;rw [vf t];rfl
noncomputable def HJ(S:ab)(d:D):Option (List Str):=if pJ S d=true then (iD S d).bind λds=>(wP ds).bind λns=>if ns.length<64 then Z ns else U else U
def By{v:V}{d:D}{ns:List Str}(hS:SOk K μ S H)(r:Rep K μ H v d)(h:HJ S d=Z ns):∃ a,v=.ref a/\mU K H a (ns.map V.str)/\ns.length<64:=by
 unfold HJ at h
 split at h
 ·rename_i hl
  obtain⟨a,vs,ds,rfl,hq,hs,rs⟩:=lG hS r hl
  rw [hs] at h
  have h:((wP ds).bind λns=>if ns.length<64 then Z ns else U)=Z ns:=h
  obtain⟨ms,h1,h2⟩:=Ui.mp h
  split at h2
  ·rename_i h3
   cases h2
   have:=qc h1
   subst this
   exact⟨a,rfl,by rw [<- vf rs];exact hq,h3⟩
  ·cases h2
 ·cases h
noncomputable def mM(S:ab):List D->Option D
 | [d]=>match qp S d with | some ns=>Z (.int (pS ns:Nat)) | none=>(HJ S d).bind λks=>Z (.int (Gz ks:Nat))
 | _=>U
noncomputable def cr(ms:MA):ME:=λenv S=>(ms env S).bind λp=>(mM p.2 p.1).bind λd=>Z (d,p.2)
def Oq(ns:List Int):pS ns<=ns.length:=firstMet_length_le _ _
def GA{a:Expr}{ms:MA}{p p2 pos pos2:Pos}(hc:X.calm=true)(hm:X.mg "len" = U)(hm2:X.mg "set" = U)(hg:Gl X "len")(hg2:Gl X "set")(ha:DA X [a] ms)(hs:starEach [a] X.env=[(false,eval a X.env)]) :
  DE X (.Call (.Name "len" p) [.Call (.Name "set" p2) [a] [] pos2] [] pos) (cr ms):=by
 have hset:=vj (X:=X) (pos:=pos2) (p:=p2) (CallR.or GL GJ) hg2 hm2 boot_set ha (by decide) (by decide) hs rfl
 refine PE.imp (rX (CallR.or GQ GP) hg hm boot_len (qV hset BW rfl) (by decide) (by decide) rfl rfl) λσ H Q ⟨μ,S,env,d,S',hS,hE,h,post⟩=>?_
 obtain⟨⟨ds,S1⟩,h1,h⟩:=Ui.mp h
 obtain⟨d',h2,h⟩:=Ui.mp h
 cases h
 dsimp only at h2
 unfold mM at h2
 split at h2
 ·rename_i dd _
  refine⟨μ,S,env,[dd],S1,hS,hE,h1,λvs H1 μ1 e1 s1 r1=>?_⟩
  obtain⟨v,rfl,rv⟩:=r1.one
  split at h2
  ·rename_i ns h3
   cases h2
   obtain⟨b,rfl,hq,h64⟩:=tq s1 rv h3
   refine .inl ⟨hc,b,ns,rfl,hq,h64,λT q hn=>?_⟩
   obtain⟨e2,s2⟩:=s1.laid (o:=.set T (pS ns)) hn
   exact .inl ⟨q,T,pS ns,rfl,bo,by have:=Oq ns;omega,post _ _ μ1 (e1.trans e2) s2 (.int _)⟩
  ·obtain⟨ks,h3,h4⟩:=Ui.mp h2
   cases h4
   obtain⟨b,rfl,hq,h64⟩:=By s1 rv h3
   refine .inr ⟨hc,b,ks,rfl,hq,h64,λq hn=>?_⟩
   obtain⟨e2,s2⟩:=s1.laid (o:=.ext (HU X.prog X.w q ks)) hn
   exact .inr ⟨q,ks,rfl,bo,by have:=Op ks;omega,post _ _ μ1 (e1.trans e2) s2 (.int _)⟩
 ·cases h2
end
section
variable{X:Cx}{K:W.Frag}{μ:Fp}{H:Hp}{S:ab}
noncomputable def jr(i j:Nat)(ms:MA):MS:=λenv S=>(ms env S).bind λp=>match p.1 with | [v,w]=>Z (.nx ((env.set i (Z v)).set j (Z w)) p.2) | _=>U
def Th{i j:Nat}{x y:Str}{a b:Expr}{ms:MA}{px py pt pos:Pos}{kt k2:Nat}{pt2:Pos}(hc:X.calm=true)(hN:X.N.Nodup)(hi:X.N[i]?=Z x)(hj:X.N[j]?=Z y)(hij:i≠j)
  (hx:X.env.scope.names.lookup x=Z .local) (hy:X.env.scope.names.lookup y=Z .local) (ha:DA X [a,b] ms)
  (hw:swappedStores [.Tuple [.Name x px,.Name y py] kt pt] (.Tuple [a,b] k2 pt2) X.env=pure (Z [x,y])) :
  DS X (.Assign [.Tuple [.Name x px,.Name y py] kt pt] (.Tuple [a,b] k2 pt2) pos) (jr i j ms):=
 PS.imp (QG hc hN hi hj hij hx hy ha hw rfl) λE σ H ⟨μ,S,env,o,hS,hE,h,post⟩=>by
  obtain⟨⟨ds,S1⟩,h1,h⟩:=Ui.mp h
  refine⟨μ,S,env,ds,S1,hS,hE,h1,λvs H1 μ1 e1 s1 r1=>?_⟩
  dsimp only at h
  split at h
  ·rename_i v w
   cases h
   obtain⟨v',w',rfl,rv,rw'⟩:=r1.two
   exact⟨v',w',rfl,post _ H1 μ1 e1 s1 (((hE.mono e1).set rv i).set rw' j)⟩
  ·cases h
noncomputable def rV:Expr->Bool
 | .Starred _ _=>false
 | _=>true
def HI{x y:Str}{a b:Expr}{px py pt:Pos}{kt k2:Nat}{pt2:Pos}(hb:X.env.blockKind=.function)(hx:X.env.scope.names.lookup x=Z .local)(hy:X.env.scope.names.lookup y=Z .local)(hne:(x == y)=false)
  (hl:(py.line == px.line)=true) (ha:rV a=true) (hb':rV b=true) (hf:(foldedForSure 8 a&&foldedForSure 8 b)=false) (hcn:(constantsAlone 8 a&&constantsAlone 8 b)=false) :
  swappedStores [.Tuple [.Name x px,.Name y py] kt pt] (.Tuple [a,b] k2 pt2) X.env=pure (Z [x,y]):=by
 have hkx:X.env.kindOf x=Z .local:=hx
 have hky:X.env.kindOf y=Z .local:=hy
 have hs:([a,b].any λe=>match e with | .Starred ..=>true | _=>false)=false:=by
  have q:∀ e:Expr,rV e=true->(match e with | .Starred ..=>true | _=>false:Bool)=false:=λe h=>by cases e <;> first | rfl | cases h
  simp only [VJ,List.any_nil,q a ha,q b hb',Bool.or_self]
 have hxy:(y == x)=false:=by
  rw [Bool.eq_false_iff] at hne ⊢
  intro z;exact hne (by rw [beq_iff_eq] at z ⊢;exact z.symm)
 have hed:([x,y]:List Str).eraseDups=[x,y]:=by simp [List.eraseDups_cons,hxy]
 have hl':py.line=px.line:=by simpa using hl
 unfold swappedStores
 simp only [UE,Wb,hb]
 simp only [Vb,Ya,WE,hf,hcn]
 generalize hg:List.filterMap _ [Expr.Name x px,Expr.Name y py]=L
 have hL:L=[x,y]:=by
  rw [<- hg]
  have e0:(Option.map (λ(x:Expr)=>x.pos.line) [Expr.Name x px,Expr.Name y py].head?).getD 0=px.line:=rfl
  rw [VA,VA]
  have e1:(Expr.Name x px).pos=px:=rfl
  simp [hkx,hky,e0,e1,hl']
 subst hL
 rw [if_neg (by decide)]
 rw [if_neg (by
  intro z
  have:([a,b].any λe=>match e with | .Starred ..=>true | _=>false)=true:=z
  rw [hs] at this;cases this)]
 rw [if_neg (by rw [hed];simp),if_neg Bool.false_ne_true,if_neg Bool.false_ne_true]
end
end M
namespace L2
section
variable{X:Cx}{pins:List (Addr×Obj)}{σ:St}{H:Hp}{s:Shared}{a:Addr}{xs:List V}
def Inv.tupD(I:Inv X pins σ H s)(h:oo X.K H a xs):∃ ob,s.heap.get? a=Z ob/\ob.cls=.type "tuple"/\ob.dict=U:=by
 rcases h with h | ⟨o,its,n,hk,hc,hdn,hs,hz,r⟩
 ·obtain⟨z,its,r,ob,e,c,d,dn⟩:=h.ok I.hok
  exact⟨ob,e,c,dn⟩
 ·exact⟨o,I.kIn a o hk,hc,hdn⟩
variable{o e:Expr}{es:List Expr}{to:TE}{t:TA}{name:Str}{apos cpos:Pos}{id:String}{r:V->List V->Hp->VK->Prop}
def tBT(K:W.Frag)(r:V->List V->Hp->VK->Prop)(to:TE)(t:TA):TE:=λσ H Q=>to σ H λx H1=>(∃ p xs,x=.ref p/\oo K H1 p xs)/\t σ H1 λxs H2=>r x xs H2 Q
def QS(slot:Slot "tuple" name id)(hty:typeOf (.builtin id)=pure (.type "method_descriptor"))(hm:MtR X id r)(ho:PE X o to)(ha:PA X (e::es) t)
  (hbase:attributeBase o name X.env (eval o X.env)=eval o X.env)
  (hfew:((backTo cpos (starEach (e::es) X.env)).all (λx=>!x.1)&&(backToKw cpos (keywordEach [] X.env)).all (λx=>x.1.isSome)&&decide ((e::es).length+([]:List Keyword).length+(if ([]:List Keyword).isEmpty then 0 else 1)<30))=true)
  (hline:(apos.endLine == cpos.line)=true) (hs:starEach (e::es) X.env=(false,eval e X.env)::starEach es X.env) (hplain:(backTo cpos (starEach es X.env)).any (·.1)=false) :
  PE X (.Call (.Attribute o name apos) (e::es) [] cpos) (tBT X.K r to t):=by
 intro pins s σ H Q I h
 refine WJ hbase hfew hline rfl (da (ho pins s σ H _ I h) λv s1 ⟨x,H1,I1,r1,ty,q1⟩=>?_)
 obtain⟨p,ys,rfl,hq⟩:=ty
 cases r1
 obtain⟨ob,e1,e2,e3⟩:=I1.tupD hq
 refine⟨"tuple",id,F.plainAttrs_tuple,slot,hty,⟨ob,e1,e2⟩,λa z=>by cases z;exact⟨ob,e1,e3⟩,?_⟩
 have hA:=ha cpos pins s1 σ H1 _ I1 q1
 rw [hs] at hA ⊢
 refine WM (by show (false||(backTo cpos (starEach es X.env)).any (·.1))=false;rw [hplain] <;> rfl) (WR ?_)
 exact da hA λus s2 ⟨vs,H2,I2,r2,q2⟩=>hm pins s2 σ H2 (V.ref p) vs _ us Q I2 (show RelV (V.ref p) (Value.ref p) from rfl) r2 q2
end
end L2
namespace M
open L2
section
variable{X:Cx}{K:W.Frag}{μ:Fp}{H:Hp}{S:ab}
noncomputable def Hz:D->Bool
 | .tup _=>true
 | _=>false
noncomputable def iH:MF:=λo ds S=>if Hz o=true then tP o ds S else U
def Fx(hu:X.A.units+64<cLine):MtR X "tuple.count" (Pd X.K iH):=by
 intro pins s σ H x vs v us Q I rx rv h
 obtain⟨μ,S,dx,ds,d,S',hS,r1,r2,h,post⟩:=h
 unfold iH at h
 split at h
 ·rename_i hl
  cases dx with
  | tup es=>
   unfold tP at h
   split at h
   ·rename_i y
    have h:(if ci 40 y=true/\es.all (ci 39)=true then Z (D.int (es.countP λd=>js d y),S) else U)=Z (d,S'):=h
    split at h
    ·rename_i hk
     cases h
     obtain⟨a,ws,rfl,hq,re⟩:=r1.sqT
     cases rx
     obtain⟨w,rfl,rw0⟩:=r2.one
     obtain⟨u,rfl,ru⟩:=rv.one
     obtain⟨its,rvs,pt,hz⟩:=I.tuple hq
     obtain⟨⟨cls,dd,data,sl⟩,e,hc,n,hd⟩:=id pt
     simp only at hc hd
     subst hc hd
     have ok:=UF.mp hk.2
     refine Wg Yv ⟨_,e,rfl⟩ F.entry_tuple_count (F.args_tuple_count_2 _ _) (SeqAt.tuple_countAt a its.toArray n dd sl u (dX X.K μ H y)) ⟨e,λw' hw'=>?_,?_⟩
     ·exact fG I (by show X.A.units+1+40<cLine;omega) ru rw0 hk.1 rvs re ok w' (by simpa using hw')
     ·refine⟨.int _,H,I.tok _,⟨_,rfl⟩,?_⟩
      rw [lU I rvs re ok]
      exact post.here hS (.int _)
    ·cases h
   ·cases h
  | _=>cases hl
 ·cases h
noncomputable def jV(o:ME)(ms:MA):ME:=λenv S=>(o env S).bind λp=>if Hz p.1=true then (ms env p.2).bind λq=>iH p.1 q.1 q.2 else if pJ p.2 p.1=true then (ms env p.2).bind λq=>mN p.1 q.1 q.2 else U
def TD{o e:Expr}{es:List Expr}{mo:ME}{ms:MA}{apos cpos:Pos}(hu:X.A.units+64<cLine)(ho:DE X o mo)(ha:DA X (e::es) ms)
  (hbase:attributeBase o "count" X.env (eval o X.env)=eval o X.env)
  (hfew:((backTo cpos (starEach (e::es) X.env)).all (λx=>!x.1)&&(backToKw cpos (keywordEach [] X.env)).all (λx=>x.1.isSome)&&decide ((e::es).length+([]:List Keyword).length+(if ([]:List Keyword).isEmpty then 0 else 1)<30))=true)
  (hline:(apos.endLine == cpos.line)=true) (hs:starEach (e::es) X.env=(false,eval e X.env)::starEach es X.env) (hpl:(backTo cpos (starEach es X.env)).any (·.1)=false) :
  DE X (.Call (.Attribute o "count" apos) (e::es) [] cpos) (jV mo ms):=by
 have hT:=QS (X:=X) Yv F.type_tuple_count (Fx hu) ho ha hbase hfew hline hs hpl
 have hL:=EH (X:=X) Xe F.type_list_count (zD hu) ho ha hbase hfew hline hs hpl
 intro pins s σ H Q I ⟨μ,S,env,d,S',hS,hE,h,post⟩
 obtain⟨⟨x,S1⟩,h1,h⟩:=Ui.mp h
 dsimp only at h
 split at h
 ·rename_i ht
  obtain⟨⟨xs,S2⟩,h2,h⟩:=Ui.mp h
  refine hT pins s σ H Q I ⟨μ,S,env,x,S1,hS,hE,h1,λv H1 μ1 e1 s1 r1=>⟨?_,μ1,S1,env,xs,S2,s1,hE.mono e1,h2,λvs H2 μ2 e2 s2 r2=>⟨μ2,S2,x,xs,d,S',s2,r1.mono e2,r2,h,(post.ext e1).ext e2⟩⟩⟩
  cases x <;> first | cases ht | skip
  obtain⟨a,ws,rfl,hq,_⟩:=r1.sqT
  exact⟨a,ws,rfl,hq⟩
 ·refine hL pins s σ H Q I ⟨μ,S,env,d,S',hS,hE,?_,post⟩
  show (mo env S).bind _=_
  rw [h1];exact h
end
end M
namespace HT
section
variable{prog:Program}{w:World}{A:Around}{E:Value->Shared->Prop}{s:Shared}
end
end HT
namespace HT
section
variable{prog:Program}{w:World}{A:Around}{E:Value->Shared->Prop}{s:Shared}
end
section
variable{prog:Program}{w:World}{A:Around}{E:Value->Shared->Prop}{s:Shared}
end
end HT
namespace L2
section
variable{X:Cx}
end
end L2
namespace M
open L2
section
variable{X:Cx}{K:W.Frag}{μ μ':Fp}{H H':Hp}{S:ab}
noncomputable def zipD:List D->List D->List D
 | x::r,y::q=>.tup [x,y]::zipD r q
 | _,_=>[]
end
section
variable{X:Cx}{K:W.Frag}{μ μ':Fp}{H H':Hp}{S S':ab}
noncomputable def gW:D->Option bC
 | .int i=>Z (.inl i)
 | .str x=>Z (.inr x)
 | _=>U
def mD{v:V}{d:D}{k:bC}(h:gW d=Z k)(r:Rep K μ H v d):v=kV k:=by
 cases d <;> first | cases h | skip
 ·rw [r.int_inv];rfl
 ·rw [r.str_inv];rfl
noncomputable def mX(kvs:List (bC×D))(k:bC):Option D:=match kvs with
 | []=>U
 | p::r=>if p.1=k then Z p.2 else mX r k
def FY(kvs:List (bC×D))(k:bC):Bool:=match kvs with
 | []=>false
 | p::r=>if p.1=k then true else FY r k
noncomputable def Ma(kvs:List (bC×D))(k:bC)(d:D):List (bC×D):=match kvs with
 | []=>[]
 | p::r=>(if p.1=k then (p.1,d) else p)::Ma r k d
noncomputable def Ib(kvs:List (bC×D))(k:bC)(d:D):List (bC×D):=if FY kvs k then Ma kvs k d else kvs++[(k,d)]
noncomputable def eZ(kvs:List (bC×D)):List (bC×D)->List (bC×D)
 | []=>kvs
 | p::r=>eZ (Ib kvs p.1 p.2) r
inductive KR(K:W.Frag)(μ:Fp)(H:Hp):List (bC×V)->List (bC×D)->Prop
 | nil:KR K μ H [] []
 | cons {k:bC} {v:V} {d:D} {vs:List (bC×V)} {ds:List (bC×D)} (h:Rep K μ H v d) (t:KR K μ H vs ds):KR K μ H ((k,v)::vs) ((k,d)::ds)
theorem KR.keys:∀ {vs ds},KR K μ H vs ds->vs.map (·.1)=ds.map (·.1)
 | _,_,.nil=>rfl
 | _,_,.cons _ t=>by rw [Uy,Uy,KR.keys t]
theorem KR.reps:∀ {vs ds},KR K μ H vs ds->Reps K μ H (vs.map (·.2)) (ds.map (·.2))
 | _,_,.nil=>.nil
 | _,_,.cons h t=>.cons h (KR.reps t)
theorem KR.length:∀ {vs ds},KR K μ H vs ds->vs.length=ds.length
 | _,_,.nil=>rfl
 | _,_,.cons _ t=>by rw [UE,UE,KR.length t]
theorem KR.less{p:Addr}{cs fb:List Addr}:∀ {vs ds},KR K ⟨cs,p::fb⟩ H vs ds->KR K ⟨cs,fb⟩ H vs ds
 | _,_,.nil=>.nil
 | _,_,.cons h t=>.cons h.less (KR.less t)
theorem KR.chg{p:Addr}{o:HO}(hp:p ∈ μ.fb):∀ {vs ds},KR K μ H vs ds->KR K μ (upd H p o) vs ds
 | _,_,.nil=>.nil
 | _,_,.cons h t=>.cons (h.chg hp) (KR.chg hp t)
theorem KR.of:∀ {kvs:List (bC×V)} {ks:List bC} {ds:List D},ks=kvs.map (·.1)->Reps K μ H (kvs.map (·.2)) ds->KR K μ H kvs (ks.zip ds)
 | [],_,_,e,r=>by subst e;cases r;exact .nil
 | p::q,_,_,e,r=>by
  subst e
  rw [Uy] at r
  cases r with | cons h t=>exact .cons h (KR.of rfl t)
theorem KR.val{k:bC}:∀ {vs ds},KR K μ H vs ds->∀ {d},mX ds k=Z d->∃ v,rC vs k=Z v/\Rep K μ H v d
 | _,_,.nil,d,h=>by cases h
 | _,_,.cons (k:=k') h t,d,q=>by
  unfold mX at q
  split at q
  ·rename_i e;cases q;exact⟨_,rA e,h⟩
  ·rename_i e
   obtain⟨v,h1,h2⟩:=KR.val t q
   exact⟨v,(rB e).trans h1,h2⟩
theorem KR.has{k:bC}:∀ {vs ds},KR K μ H vs ds->(vs.any λkv=>decide (kv.1=k))=FY ds k
 | _,_,.nil=>rfl
 | _,_,.cons (k:=k') h t=>by
  rw [VJ,KR.has t]
  unfold FY
  by_cases e:k'=k
  ·simp [e]
  ·simp only [Ut e,Bool.false_or,if_neg e];cases t <;> rfl
theorem KR.setv{k:bC}{x:V}{d:D}(r:Rep K μ H x d):∀ {vs ds},KR K μ H vs ds->KR K μ H (vs.map λkv=>if kv.1=k then (kv.1,x) else kv) (Ma ds k d)
 | _,_,.nil=>.nil
 | _,_,.cons (k:=k') h t=>by
  rw [Uy]
  unfold Ma
  by_cases e:k'=k
  ·simp only [if_pos e];exact .cons r (KR.setv r t)
  ·simp only [if_neg e];exact .cons h (KR.setv r t)
theorem KR.snoc{k:bC}{x:V}{d:D}(r:Rep K μ H x d):∀ {vs ds},KR K μ H vs ds->KR K μ H (vs++[(k,x)]) (ds++[(k,d)])
 | _,_,.nil=>.cons r .nil
 | _,_,.cons h t=>.cons h (KR.snoc r t)
def KR.put{k:bC}{x:V}{d:D}{vs ds}(r:Rep K μ H x d)(t:KR K μ H vs ds):KR K μ H (uw vs k x) (Ib ds k d):=by
 unfold uw Ib
 rw [t.has]
 split
 ·exact t.setv r
 ·exact t.snoc r
theorem KR.merge:∀ {ws es vs ds},KR K μ H ws es->KR K μ H vs ds->KR K μ H (lC vs ws) (eZ ds es)
 | _,_,_,_,.nil,t=>t
 | _,_,vs,ds,.cons (k:=k) (v:=v) (d:=d) h q,t=>by
  have:=KR.merge q (t.put (k:=k) h)
  exact this
abbrev MP:=aW->ab->Option (List (bC×D)×ab)
noncomputable def jD:List (ME×ME)->MP
 | []=>λ_ S=>Z ([],S)
 | (a,b)::r=>λenv S=>(a env S).bind λp=>(gW p.1).bind λk=>(b env p.2).bind λq=>(jD r env q.2).bind λz=>Z ((k,q.1)::z.1,z.2)
def DPs(X:Cx)(pos:Pos)(keys:List (Option Expr))(values:List Expr)(ms:List (ME×ME)):Prop:=PPs X pos keys values (ms.map λp=>(tM X.K p.1,tM X.K p.2))
def Og{pos:Pos}:DPs X pos [] [] []:=Mo
def KJ{pos:Pos}{k v:Expr}{ks:List (Option Expr)}{vs:List Expr}{mk mv:ME}{ms:List (ME×ME)}(hk:DE X k mk)(hv:DE X v mv)(hr:DPs X pos ks vs ms):DPs X pos (Z k::ks) (v::vs) ((mk,mv)::ms):=Il hk hv hr
theorem pz{σ:L2.St}{env:aW}:∀ {ms:List (ME×ME)} {μ:Fp} {H:Hp} {S S':ab} {kvs:List (bC×D)} {Q:List (V×V)->Hp->Prop},SOk K μ S H->EOk K μ H σ env->jD ms env S=Z (kvs,S') ->
  (∀ vs H' μ',Ext μ H μ' H'->SOk K μ' S' H'->KR K μ' H' vs kvs->Q (vs.map λkv=>(kV kv.1,kv.2)) H')->wN (ms.map λp=>(tM K p.1,tM K p.2)) σ H Q
 | [],μ,H,S,S',kvs,Q,s,e,h,q=>by cases h;exact q [] H μ s.ext s .nil
 | (a,b)::r,μ,H,S,S',kvs,Q,s,e,h,q=>by
  obtain⟨⟨x,S1⟩,h1,h⟩:=Ui.mp h
  obtain⟨k,h2,h⟩:=Ui.mp h
  obtain⟨⟨y,S2⟩,h3,h⟩:=Ui.mp h
  obtain⟨⟨zs,S3⟩,h4,h⟩:=Ui.mp h
  cases h
  refine⟨μ,S,env,x,S1,s,e,h1,λv H1 μ1 e1 s1 r1=>⟨μ1,S1,env,y,S2,s1,e.mono e1,h3,λw H2 μ2 e2 s2 r2=>pz s2 ((e.mono e1).mono e2) h4 λvs H3 μ3 e3 s3 r3=>?_⟩⟩
  have:=q ((k,w)::vs) H3 μ3 ((e1.trans e2).trans e3) s3 (.cons (r2.mono e3) r3)
  rw [Uy] at this
  rw [mD h2 r1]
  exact this
def Ext.shut{p:Addr}{o o':HO}{cs fb:List Addr}{μ2:Fp}{H2:Hp}{S2:ab}(hp:H p=U)(hn:p ∉ fb)(e:Ext ⟨cs,p::fb⟩ (upd H p o) μ2 H2)(s:SOk K μ2 S2 H2) :
  Ext ⟨cs,fb⟩ H ⟨μ2.cs,fb⟩ (upd H2 p o')/\SOk K ⟨μ2.cs,fb⟩ S2 (upd H2 p o')/\(⟨μ2.cs,fb⟩:Fp).no p/\(∀ vs ds,KR K μ2 H2 vs ds->KR K ⟨μ2.cs,fb⟩ (upd H2 p o') vs ds)/\H2 p=Z o:=by
 have pm:p ∈ μ2.fb:=by rw [e.fb];exact Ul
 have ncs:p ∉ μ2.cs:=s.disj p pm
 have ncs0:p ∉ cs:=λz=>ncs (by obtain⟨l,q,_⟩:=e.pre;rw [q];exact US _ z)
 have ef:μ2=⟨μ2.cs,p::fb⟩:=by have:=e.fb;obtain⟨a,b⟩:=μ2;simp only at this;rw [this]
 refine⟨⟨rfl,?_,λa o2 na ha=>?_,λa ha=>?_⟩,?_,⟨ncs,?_⟩,λvs ds r=>?_,e.keep p o ncs0 bo⟩
 ·obtain⟨l,q,hl⟩:=e.pre
  refine⟨l,q,λa ha=>?_⟩
  have:=hl a ha
  by_cases z:a=p
  ·subst z;exact hp
  ·rwa [bh z] at this
 ·have z:=bW ha hp
  rw [bh z]
  exact e.keep a o2 na ((bh z).trans ha)
 ·have z:a≠p:=λz=>ncs (z ▸ ha)
  rw [bh z];exact e.dom a ha
 ·have:=(s.chg (o:=o') pm)
  rw [ef] at this
  exact this.less
 ·exact hn
 ·have:=r.chg (o:=o') pm
  rw [ef] at this
  exact this.less
noncomputable def gu(ms:List (ME×ME)):ME:=λenv S=>(jD ms env S).bind λz=>if z.1.length<=15 then Z (.dct ((eZ [] z.1).map (·.1)) ((eZ [] z.1).map (·.2)),z.2) else U
def Ow{pos:Pos}{keys:List (Option Expr)}{values:List Expr}{ms:List (ME×ME)}(h:DPs X pos keys values ms)(hall:keys.all (·.isSome)=true)(hl:keys.length=values.length)(h0:keys≠[])(h15:keys.length<=15) :
  DE X (.Dict keys values pos) (gu ms):=PE.imp (DC h hall hl h0 h15) λσ H Q ⟨μ,S,env,d,S',hS,hE,hm,post⟩=>by
 obtain⟨⟨kvs,S1⟩,h1,hm⟩:=Ui.mp hm
 dsimp only at hm
 split at hm
 ·rename_i hl
  cases hm
  intro p hp
  obtain⟨cs,fb⟩:=μ
  refine pz (hS.more hp) (hE.more hp) h1 λvs H2 μ2 e2 s2 r2=>?_
  obtain⟨eF,sF,nF,rF,hF⟩:=Ext.shut (o':=.dK (lC [] vs)) hp (hS.notMem hp).2 e2 s2
  refine⟨hF,vs,rfl,by rw [r2.length];exact hl,post _ _ _ eF sF ?_⟩
  have rr:=(rF _ _ r2).merge KR.nil
  have:=Rep.dct (K:=X.K) (bo (H:=H2) (o:=.dK (lC [] vs))) nF rr.reps
  rw [rr.keys] at this
  exact this
 ·cases hm
noncomputable def EW(S:ab):D->Option (List (bC×D))
 | .dct ks vs=>Z (ks.zip vs)
 | .ref r=>match S[r]? with | some (.dct ks vs)=>Z (ks.zip vs) | _=>U
 | _=>U
def LN{v:V}{d:D}{kvs:List (bC×D)}(s:SOk K μ S H)(r:Rep K μ H v d)(h:EW S d=Z kvs):∃ a vs,v=.ref a/\H a=Z (.dK vs)/\KR K μ H vs kvs:=by
 cases r with
 | dct hd n rr=>cases h;exact⟨_,_,rfl,hd,KR.of rfl rr⟩
 | ref hr=>
  rename_i a i
  unfold EW at h
  dsimp only at h
  cases q:S[i]? with
  | none=>rw [q] at h;cases h
  | some c=>
   rw [q] at h
   have ck:=s.cell _ _ _ hr q
   cases c with
   | lst _=>cases h
   | dct ks xs=>cases h;obtain⟨vs,e,hk,rr⟩:=ck;exact⟨a,vs,rfl,e,KR.of hk rr⟩
 | _=>cases h
noncomputable def aE(S:ab)(x y:D):Option D:=match EW S x with
 | some kvs=>(gW y).bind λk=>mX kvs k
 | none=>fIx S x y
def NC(hu:X.A.units+1<cLine):IxR X (λx y H Q=>∃ a v,x=.ref a/\DGet H a y (Z v)/\Q v H):=by
 intro value slice pins s σ H x y v u Q I rx ry h hs
 obtain⟨a,z,rfl,g,q⟩:=h
 cases rx
 exact tail_any (AY I g) F.slot_dict_getitem.lookup (GD hu I g ry λw' s' I' rw'=>⟨z,H,I',rw',q⟩) hs
def ix_DX(hu:X.A.units+1<cLine):IxR X (mY X.K aE):=IxR.imp ((NC hu).or ix_D) λx y H Q ⟨μ,S,dx,dy,dz,hS,h1,h2,h3,post⟩=>by
 unfold aE at h3
 split at h3
 ·rename_i kvs hk
  obtain⟨k,h4,h5⟩:=Ui.mp h3
  obtain⟨a,vs,rfl,ha,rr⟩:=LN hS h1 hk
  obtain⟨v,h6,h7⟩:=rr.val h5
  refine .inl ⟨a,v,rfl,?_,post.here hS h7⟩
  rw [mD h4 h2,<- h6]
  exact DGet.k ha
 ·exact .inr ⟨μ,S,dx,dy,dz,hS,h1,h2,h3,post⟩
def Tz{a b:Expr}{ma mb:ME}{pos:Pos}(hu:X.A.units+1<cLine)(ha:DE X a ma)(hb:DE X b mb)(hs:mV b:=by intro _ _;rfl):DE X (.Subscript a b pos) (ax aE ma mb):=
 PE.imp (Iv (ix_DX hu) ha hb hs) λ_ _ _ h=>wO h
end
end M
namespace L2
section
variable{X:Cx}{o e:Expr}{es:List Expr}{to:TE}{t:TA}{name:Str}{apos cpos:Pos}{id:String}{r:V->List V->Hp->VK->Prop}
def tBD(r:V->List V->Hp->VK->Prop)(to:TE)(t:TA):TE:=λσ H Q=>to σ H λx H1=>(∃ p,x=.ref p/\IsD H1 p)/\t σ H1 λxs H2=>r x xs H2 Q
def QT(slot:Slot "dict" name id)(hty:typeOf (.builtin id)=pure (.type "method_descriptor"))(hm:MtR X id r)(ho:PE X o to)(ha:PA X (e::es) t)
  (hbase:attributeBase o name X.env (eval o X.env)=eval o X.env)
  (hfew:((backTo cpos (starEach (e::es) X.env)).all (λx=>!x.1)&&(backToKw cpos (keywordEach [] X.env)).all (λx=>x.1.isSome)&&decide ((e::es).length+([]:List Keyword).length+(if ([]:List Keyword).isEmpty then 0 else 1)<30))=true)
  (hline:(apos.endLine == cpos.line)=true) (hs:starEach (e::es) X.env=(false,eval e X.env)::starEach es X.env) (hplain:(backTo cpos (starEach es X.env)).any (·.1)=false) :
  PE X (.Call (.Attribute o name apos) (e::es) [] cpos) (tBD r to t):=by
 intro pins s σ H Q I h
 refine WJ hbase hfew hline rfl (da (ho pins s σ H _ I h) λv s1 ⟨x,H1,I1,r1,ty,q1⟩=>?_)
 obtain⟨p,rfl,hq⟩:=ty
 cases r1
 obtain⟨t1,t2,_⟩:=SC I1 hq
 refine⟨"dict",id,F.plainAttrs_dict,slot,hty,t1,t2,?_⟩
 have hA:=ha cpos pins s1 σ H1 _ I1 q1
 rw [hs] at hA ⊢
 refine WM (by show (false||(backTo cpos (starEach es X.env)).any (·.1))=false;rw [hplain] <;> rfl) (WR ?_)
 exact da hA λus s2 ⟨vs,H2,I2,r2,q2⟩=>hm pins s2 σ H2 (V.ref p) vs _ us Q I2 (show RelV (V.ref p) (Value.ref p) from rfl) r2 q2
end
end L2
namespace M
open L2
section
variable{X:Cx}{K:W.Frag}{μ μ':Fp}{H H':Hp}{S S':ab}
def zB{p a:Addr}{cs fb:List Addr}(n:(⟨cs,p::fb⟩:Fp).no a):(⟨cs++[p],fb⟩:Fp).no a:=
 ⟨λz=>(UJ.mp z).elim n.1 λz=>n.2 (by rw [UN.mp z];exact Ul),λz=>n.2 (Ur _ z)⟩
def Rep.adopt{p:Addr}{cs fb:List Addr}{v:V}{d:D}(r:Rep K ⟨cs,p::fb⟩ H v d):Rep K ⟨cs++[p],fb⟩ H v d:=r.imp (λh n=>⟨h,zB n⟩) λh=>yI rfl h
def Reps.adopt{p:Addr}{cs fb:List Addr}{v:List V}{d:List D}(r:Reps K ⟨cs,p::fb⟩ H v d):Reps K ⟨cs++[p],fb⟩ H v d:=r.imp (λh n=>⟨h,zB n⟩) λh=>yI rfl h
theorem KR.adopt{p:Addr}{cs fb:List Addr}:∀ {vs ds},KR K ⟨cs,p::fb⟩ H vs ds->KR K ⟨cs++[p],fb⟩ H vs ds
 | _,_,.nil=>.nil
 | _,_,.cons h t=>.cons h.adopt (KR.adopt t)
def Ext.shutR{p:Addr}{o:HO}{cs fb:List Addr}{μ2:Fp}{H2:Hp}{S2:ab}{vs:List (bC×V)}{kvs:List (bC×D)}(hp:H p=U)(hn:p ∉ fb)(e:Ext ⟨cs,p::fb⟩ (upd H p o) μ2 H2)(s:SOk K μ2 S2 H2)(r:KR K μ2 H2 vs kvs) :
  Ext ⟨cs,fb⟩ H ⟨μ2.cs++[p],fb⟩ (upd H2 p (.dK vs))/\SOk K ⟨μ2.cs++[p],fb⟩ (S2++[.dct (kvs.map (·.1)) (kvs.map (·.2))]) (upd H2 p (.dK vs))/\H2 p=Z o:=by
 have pm:p ∈ μ2.fb:=by rw [e.fb];exact Ul
 have ncs:p ∉ μ2.cs:=s.disj p pm
 have ncs0:p ∉ cs:=λz=>ncs (by obtain⟨l,q,_⟩:=e.pre;rw [q];exact US _ z)
 have ef:μ2.fb=p::fb:=e.fb
 obtain⟨cs2,fb2⟩:=μ2
 simp only at ef pm ncs
 subst ef
 refine⟨⟨rfl,?_,λa o2 na ha=>?_,λa ha=>?_⟩,⟨?_,by simp [s.len],λi a c h1 h2=>?_,λa ha=>?_,λa ha z=>?_⟩,e.keep p o ncs0 bo⟩
 ·obtain⟨l,q,hl⟩:=e.pre
  simp only at q
  refine⟨l++[p],by rw [q,Vw],λa ha=>?_⟩
  rcases UJ.mp ha with ha | ha
  ·have:=hl a ha
   by_cases z:a=p
   ·subst z;exact hp
   ·rwa [bh z] at this
  ·rw [UN.mp ha];exact hp
 ·have z:=bW ha hp
  rw [bh z]
  exact e.keep a o2 na ((bh z).trans ha)
 ·by_cases z:a=p
  ·subst z;rw [bo];simp
  ·rw [bh z]
   rcases UJ.mp ha with ha | ha
   ·exact e.dom a ha
   ·exact absurd (UN.mp ha) z
 ·exact Vv.mpr ⟨s.nd,by simp,λa ha b hb=>by rw [UN.mp hb];exact λz=>ncs (z ▸ ha)⟩
 ·have sc:=s.chg (o:=.dK vs) pm
  by_cases hi:i<cs2.length
  ·rw [UM hi] at h1
   rw [UM (by rw [<- s.len];exact hi)] at h2
   have ck:=sc.cell i a c h1 h2
   cases c with
   | lst ds=>obtain⟨ws,h,r⟩:=ck;exact⟨ws,h,r.adopt⟩
   | dct ks ds=>obtain⟨ws,h,q,r⟩:=ck;exact⟨ws,h,q,r.adopt⟩
  ·have hi':i=cs2.length:=by
    have:=(Uj.mp h1).1
    simp at this;omega
   subst hi'
   rw [Vm (Uw _)] at h1
   rw [show cs2.length=S2.length from s.len,Vm (Uw _)] at h2
   simp at h1 h2
   subst h1 h2
   have rc:=(r.chg (o:=.dK vs) pm).adopt
   exact⟨vs,bo,rc.keys.symm,rc.reps⟩
 ·by_cases z:a=p
  ·subst z;rw [bo];simp
  ·rw [bh z];exact s.fdom a (Ur _ ha)
 ·rcases UJ.mp z with z | z
  ·exact s.disj a (Ur _ ha) z
  ·exact hn (UN.mp z ▸ ha)
noncomputable def dM(ms:List (ME×ME)):ME:=λenv S=>(jD ms env S).bind λz=>if z.1.length<=15 then Z (.ref z.2.length,z.2++[.dct ((eZ [] z.1).map (·.1)) ((eZ [] z.1).map (·.2))]) else U
def KW{pos:Pos}{keys:List (Option Expr)}{values:List Expr}{ms:List (ME×ME)}(h:DPs X pos keys values ms)(hall:keys.all (·.isSome)=true)(hl:keys.length=values.length)(h0:keys≠[])(h15:keys.length<=15) :
  DE X (.Dict keys values pos) (dM ms):=PE.imp (DC h hall hl h0 h15) λσ H Q ⟨μ,S,env,d,S',hS,hE,hm,post⟩=>by
 obtain⟨⟨kvs,S1⟩,h1,hm⟩:=Ui.mp hm
 dsimp only at hm
 split at hm
 ·rename_i hl
  cases hm
  intro p hp
  obtain⟨cs,fb⟩:=μ
  refine pz (hS.more hp) (hE.more hp) h1 λvs H2 μ2 e2 s2 r2=>?_
  obtain⟨eF,sF,hF⟩:=Ext.shutR hp (hS.notMem hp).2 e2 s2 (r2.merge KR.nil)
  exact⟨hF,vs,rfl,by rw [r2.length];exact hl,post _ _ _ eF sF (.ref (by rw [<- s2.len];simp))⟩
 ·cases hm
noncomputable def Lc(S:ab):D->Bool
 | .dct _ _=>true
 | .ref r=>match S[r]? with | some (.dct _ _)=>true | _=>false
 | _=>false
def OA{v:V}{d:D}(s:SOk K μ S H)(r:Rep K μ H v d)(h:Lc S d=true):∃ a,v=.ref a/\IsD H a:=by
 cases r with
 | dct hd n rr=>exact⟨_,rfl,.inl ⟨_,.inl hd⟩⟩
 | ref hr=>
  rename_i a i
  unfold Lc at h
  dsimp only at h
  cases q:S[i]? with
  | none=>rw [q] at h;cases h
  | some c=>
   rw [q] at h
   have ck:=s.cell _ _ _ hr q
   cases c with
   | lst _=>cases h
   | dct ks xs=>obtain⟨vs,e,hk,rr⟩:=ck;exact⟨a,rfl,.inl ⟨_,.inl e⟩⟩
 | _=>cases h
noncomputable def fGetD:MF:=λo ds S=>(EW S o).bind λkvs=>match ds with
 | [y]=>(gW y).bind λk=>Z ((mX kvs k).getD .non,S)
 | [y,d]=>(gW y).bind λk=>Z ((mX kvs k).getD d,S)
 | _=>U
noncomputable def fUpdD:MF:=λo ds S=>match o,ds with
 | .ref r,[.dct ks2 vs2]=>match S[r]? with
  | some (.dct ks vs)=>if ks.length+ks2.length<=sizeLine then Z (.non,S.set r (.dct ((eZ (ks.zip vs) (ks2.zip vs2)).map (·.1)) ((eZ (ks.zip vs) (ks2.zip vs2)).map (·.2)))) else U
  | _=>U
 | _,_=>U
noncomputable def dJ(f:MF)(o:ME)(ms:MA):ME:=λenv S=>(o env S).bind λp=>if Lc p.2 p.1=true then (ms env p.2).bind λq=>f p.1 q.1 q.2 else U
def KU{o e:Expr}{es:List Expr}{mo:ME}{ms:MA}{f:MF}{name:Str}{id:String}{apos cpos:Pos}(slot:Slot "dict" name id)(hty:typeOf (.builtin id)=pure (.type "method_descriptor"))(hm:MtR X id (Pd X.K f))(ho:DE X o mo)(ha:DA X (e::es) ms)
  (hbase:attributeBase o name X.env (eval o X.env)=eval o X.env)
  (hfew:((backTo cpos (starEach (e::es) X.env)).all (λx=>!x.1)&&(backToKw cpos (keywordEach [] X.env)).all (λx=>x.1.isSome)&&decide ((e::es).length+([]:List Keyword).length+(if ([]:List Keyword).isEmpty then 0 else 1)<30))=true)
  (hline:(apos.endLine == cpos.line)=true) (hs:starEach (e::es) X.env=(false,eval e X.env)::starEach es X.env) (hpl:(backTo cpos (starEach es X.env)).any (·.1)=false) :
  DE X (.Call (.Attribute o name apos) (e::es) [] cpos) (dJ f mo ms):=
 PE.imp (QT slot hty hm ho ha hbase hfew hline hs hpl) λσ H Q ⟨μ,S,env,d,S',hS,hE,h,post⟩=>by
  obtain⟨⟨x,S1⟩,h1,h⟩:=Ui.mp h
  dsimp only at h
  split at h
  ·rename_i hl
   obtain⟨⟨xs,S2⟩,h2,h⟩:=Ui.mp h
   refine⟨μ,S,env,x,S1,hS,hE,h1,λv H1 μ1 e1 s1 r1=>⟨?_,μ1,S1,env,xs,S2,s1,hE.mono e1,h2,λvs H2 μ2 e2 s2 r2=>⟨μ2,S2,x,xs,d,S',s2,r1.mono e2,r2,h,(post.ext e1).ext e2⟩⟩⟩
   exact OA s1 r1 hl
  ·cases h
end
end M
namespace L2
section
variable{X:Cx}{a b:Expr}{rest:List Expr}{ta tb:TE}{pos:Pos}
def tAndX(K:W.Frag)(ta tb:TE):TE:=λσ H Q=>ta σ H λx H1=>∃ c,GZ K x H1 c/\if c=true then tb σ H1 Q else Q x H1
def tOrX(K:W.Frag)(ta tb:TE):TE:=λσ H Q=>ta σ H λx H1=>∃ c,GZ K x H1 c/\if c=true then Q x H1 else tb σ H1 Q
def tNotX(K:W.Frag)(ta:TE):TE:=λσ H Q=>ta σ H λx H1=>∃ c,GZ K x H1 c/\Q (.bl (!c)) H1
def MC(ha:PE X a ta)(hb:PE X (.BoolOp .And (b::rest) pos) tb):PE X (.BoolOp .And (a::b::rest) pos) (tAndX X.K ta tb):=by
 intro pins s σ H Q I h
 refine BoolOp_and (da (ha pins s σ H _ I h) λv s1 ⟨x,H1,I1,r1,q1⟩=>?_)
 obtain⟨c,tv,q1⟩:=q1
 refine da (wL pins s1 σ H1 x v (λk H'=>k=c/\H'=H1) I1 r1 ⟨c,tv,rfl,rfl⟩) λk s2 z=>?_
 obtain⟨H2,I2,rfl,rfl⟩:=z
 cases k with
 | true=>exact hb pins s2 σ H2 Q I2 q1
 | false=>exact⟨x,H2,I2,r1,q1⟩
def QO(ha:PE X a ta)(hb:PE X (.BoolOp .Or (b::rest) pos) tb):PE X (.BoolOp .Or (a::b::rest) pos) (tOrX X.K ta tb):=by
 intro pins s σ H Q I h
 refine BoolOp_or (da (ha pins s σ H _ I h) λv s1 ⟨x,H1,I1,r1,q1⟩=>?_)
 obtain⟨c,tv,q1⟩:=q1
 refine da (wL pins s1 σ H1 x v (λk H'=>k=c/\H'=H1) I1 r1 ⟨c,tv,rfl,rfl⟩) λk s2 z=>?_
 obtain⟨H2,I2,rfl,rfl⟩:=z
 cases k with
 | false=>exact hb pins s2 σ H2 Q I2 q1
 | true=>exact⟨x,H2,I2,r1,q1⟩
def Mv(ha:PE X a ta):PE X (.UnaryOp .Not a pos) (tNotX X.K ta):=by
 intro pins s σ H Q I h
 refine UnaryOp_ (da (ha pins s σ H _ I h) λv s1 ⟨x,H1,I1,r1,q1⟩=>?_)
 obtain⟨c,tv,q1⟩:=q1
 refine not_of (da (wL pins s1 σ H1 x v (λk H'=>k=c/\H'=H1) I1 r1 ⟨c,tv,rfl,rfl⟩) λk s2 z=>?_)
 obtain⟨H2,I2,rfl,rfl⟩:=z
 exact⟨.bl (!k),H2,I2,rfl,q1⟩
end
end L2
namespace M
open L2
section
variable{X:Cx}{K:W.Frag}{μ μ':Fp}{H H':Hp}{S S':ab}{a b:Expr}{ma mb:ME}{rest:List Expr}{pos:Pos}
noncomputable def Jg(a b:ME):ME:=λenv S=>(a env S).bind λp=>(rE p.2 p.1).bind λk=>if k=true then b env p.2 else Z (p.1,p.2)
noncomputable def Rz(a b:ME):ME:=λenv S=>(a env S).bind λp=>(rE p.2 p.1).bind λk=>if k=true then Z (p.1,p.2) else b env p.2
noncomputable def Jd(a:ME):ME:=λenv S=>(a env S).bind λp=>(rE p.2 p.1).bind λk=>Z (.bl (!k),p.2)
def Oz(ha:DE X a ma)(hb:DE X (.BoolOp .And (b::rest) pos) mb):DE X (.BoolOp .And (a::b::rest) pos) (Jg ma mb):=PE.imp (MC ha hb) λσ H Q ⟨μ,S,env,d,S',hS,hE,hm,post⟩=>by
 obtain⟨⟨x,S1⟩,h1,hm⟩:=Ui.mp hm
 obtain⟨k,h2,hm⟩:=Ui.mp hm
 refine⟨μ,S,env,x,S1,hS,hE,h1,λv H1 μ1 e1 s1 r1=>⟨k,qU s1 r1 h2,?_⟩⟩
 cases k with
 | true=>rw [if_pos rfl];exact⟨μ1,S1,env,d,S',s1,hE.mono e1,hm,post.ext e1⟩
 | false=>cases hm;rw [if_neg Bool.false_ne_true];exact post _ H1 μ1 e1 s1 r1
def Tv(ha:DE X a ma)(hb:DE X (.BoolOp .Or (b::rest) pos) mb):DE X (.BoolOp .Or (a::b::rest) pos) (Rz ma mb):=PE.imp (QO ha hb) λσ H Q ⟨μ,S,env,d,S',hS,hE,hm,post⟩=>by
 obtain⟨⟨x,S1⟩,h1,hm⟩:=Ui.mp hm
 obtain⟨k,h2,hm⟩:=Ui.mp hm
 refine⟨μ,S,env,x,S1,hS,hE,h1,λv H1 μ1 e1 s1 r1=>⟨k,qU s1 r1 h2,?_⟩⟩
 cases k with
 | false=>rw [if_neg Bool.false_ne_true];exact⟨μ1,S1,env,d,S',s1,hE.mono e1,hm,post.ext e1⟩
 | true=>cases hm;rw [if_pos rfl];exact post _ H1 μ1 e1 s1 r1
def Os(ha:DE X a ma):DE X (.UnaryOp .Not a pos) (Jd ma):=PE.imp (Mv ha) λσ H Q ⟨μ,S,env,d,S',hS,hE,hm,post⟩=>by
 obtain⟨⟨x,S1⟩,h1,hm⟩:=Ui.mp hm
 obtain⟨k,h2,hm⟩:=Ui.mp hm
 cases hm
 exact⟨μ,S,env,x,_,hS,hE,h1,λv H1 μ1 e1 s1 r1=>⟨k,qU s1 r1 h2,post _ H1 μ1 e1 s1 (.bl _)⟩⟩
end
section
variable{X:Cx}{K:W.Frag}{μ μ':Fp}{H H':Hp}{S S':ab}{tg iter:Expr}{pos:Pos}
noncomputable def eH(g:MG)(body:MS)(r:Nat):Nat->Nat->aW->ab->Option oi
 | 0,_,_,_=>U
 | f+1,i,env,S=>match S[r]? with
  | some (.lst xs)=>match xs[i]? with
   | none=>Z (.nx env S)
   | some d=>(g d env S).bind λp=>(body p.1 p.2).bind λo=>match o with
    | .nx e s=>eH g body r f (i+1) e s
    | .ct e s=>eH g body r f (i+1) e s
    | .bk e s=>Z (.nx e s)
    | .rt d s=>Z (.rt d s)
  | _=>U
noncomputable def eD(m:ME)(g:MG)(body:MS):MS:=λenv S=>(m env S).bind λp=>match p.1 with
 | .ref r=>eH g body r 2000 0 env p.2
 | .lst xs=>cz g body xs env p.2
 | .rol xs=>cz g body xs env p.2
 | .tup xs=>cz g body xs env p.2
 | _=>U
noncomputable def mForX(m:ME)(g:MG)(body:MS):MS:=λenv S=>(m env S).bind λp=>match p.1 with
 | .ref r=>eH g body r 2000 0 env p.2
 | _=>U
def Od{body:List Stmt}{mi:ME}{g:MG}{mb:MS}(hp:PassesOwn (model X.prog X.w) X.A X.env X.xe)(hc:X.calm=true)(hi:DE X iter mi)(hg:DG X tg g)(hb:uR X body mb)
  (hs:∀ x,foldedSetIterable iter X.env x=pure x):DS X (.For tg iter body [] pos) (mForX mi g mb):=PS.imp (Ij hp hc (Mr hi) hg hb hs) λE σ H ⟨μ,S,env,o,hS,hE,hm,post⟩=>by
 obtain⟨⟨d,S1⟩,h1,hm⟩:=Ui.mp hm
 dsimp only at hm
 split at hm
 ·rename_i r
  refine⟨μ,S,env,_,S1,hS,hE,h1,λv H1 μ1 e1 s1 r1=>?_⟩
  cases r1 with
  | @ref a _ ha=>
   have cell:∀ {μ' H' S' xs},Ext μ1 H1 μ' H'->SOk X.K μ' S' H'->S'[r]?=Z (.lst xs)->∃ vs,H' a=Z (.lst vs)/\Reps X.K μ' H' vs xs:=λ{μ' H' S' xs} e s q=>by
    obtain⟨l,ql,_⟩:=e.pre
    have ha':μ'.cs[r]?=Z a:=by rw [ql,UM (Uj.mp ha).1];exact ha
    exact s.cell r a _ ha' q
   have hq0:∃ vs,mU X.K H1 a vs:=by
    unfold eH at hm
    split at hm
    ·rename_i xs q
     obtain⟨vs,hv,_⟩:=cell s1.ext s1 q
     exact⟨vs,.inl (.inl hv)⟩
    ·cases hm
   refine⟨a,rfl,hq0,?_⟩
   refine⟨λi n σ H=>∃ μ' S' env' o',Ext μ1 H1 μ' H/\SOk X.K μ' S' H/\EOk X.K μ' H σ env'/\eH g mb r n i env' S'=Z o'/\PostS X.K μ' H o' E,
    ⟨2000,μ1,S1,env,o,s1.ext,s1,hE.mono e1,hm,post.ext e1⟩,?_⟩
   rintro i n σ' H' ⟨μ',S',env',o',e',s',r',hl,post'⟩
   cases n with
   | zero=>cases hl
   | succ n=>
    unfold eH at hl
    split at hl
    ·rename_i xs q
     obtain⟨vs,hv,rv⟩:=cell e' s' q
     have hsq:mU X.K H' a vs:=.inl (.inl hv)
     split at hl
     ·rename_i hx
      cases hl
      refine .inl ⟨⟨vs,hsq,?_⟩,post' σ' H' μ' s'.ext s' r'⟩
      rw [rv.length];simpa using hx
     ·rename_i d hx
      obtain⟨w,hw,rw0⟩:=rv.get hx
      refine .inr ⟨⟨vs,w,hsq,hw⟩,λσ2 H2=>∃ μ2 S2 env2 o2,Ext μ1 H1 μ2 H2/\SOk X.K μ2 S2 H2/\EOk X.K μ2 H2 σ2 env2/\eH g mb r n (i+1) env2 S2=Z o2/\PostS X.K μ2 H2 o2 E,
       λσ2 H2 ⟨μ2,S2,env2,o2,q1,q2,q3,q4,q5⟩=>⟨n,by omega,μ2,S2,env2,o2,q1,q2,q3,q4,q5⟩,λx H2 y=>?_⟩
      obtain⟨e2,hy⟩:=y
      subst e2
      have ex:x=w:=by have:=hy vs hsq;rw [hw] at this;exact(Uu this).symm
      subst ex
      obtain⟨⟨env3,S3⟩,h3,hl⟩:=Ui.mp hl
      obtain⟨o4,h4,hl⟩:=Ui.mp hl
      refine⟨μ',S',env',d,env3,S3,s',r',rw0,h3,λσ3 H3 μ3 e3 s3 r3=>⟨μ3,S3,env3,o4,s3,r3,h4,?_⟩⟩
      have eT:Ext μ1 H1 μ3 H3:=e'.trans e3
      have pT:PostS X.K μ3 H3 o' E:=post'.ext e3
      cases o4 with
      | nx e5 s5=>exact λσ6 H6 μ6 e6 s6 r6=>⟨μ6,s5,e5,o',eT.trans e6,s6,r6,hl,pT.ext e6⟩
      | ct e5 s5=>exact λσ6 H6 μ6 e6 s6 r6=>⟨μ6,s5,e5,o',eT.trans e6,s6,r6,hl,pT.ext e6⟩
      | bk e5 s5=>cases hl;exact pT
      | rt d5 s5=>cases hl;exact pT
    ·cases hl
 ·cases hm
def Oe{body:List Stmt}{mi:ME}{g:MG}{mb:MS}(hp:PassesOwn (model X.prog X.w) X.A X.env X.xe)(hc:X.calm=true)(hi:DE X iter mi)(hg:DG X tg g)(hb:uR X body mb)
  (hs:∀ x,foldedSetIterable iter X.env x=pure x):DS X (.For tg iter body [] pos) (eD mi g mb):=by
 have hA:=Od (pos:=pos) hp hc hi hg hb hs
 have hB:=KE (pos:=pos) hp hc (Da (tg:=tg) hi) hg hb hs
 intro pins s σ H E I ⟨μ,S,env,o,hS,hE,h,post⟩
 obtain⟨⟨x,S1⟩,h1,h⟩:=Ui.mp h
 cases x with
 | ref r=>exact hA pins s σ H E I ⟨μ,S,env,o,hS,hE,by show (mi env S).bind _=_;rw [h1];exact h,post⟩
 | lst xs=>exact hB pins s σ H E I ⟨μ,S,env,o,hS,hE,by show ((mi env S).bind _).bind _=_;rw [h1];exact h,post⟩
 | rol xs=>exact hB pins s σ H E I ⟨μ,S,env,o,hS,hE,by show ((mi env S).bind _).bind _=_;rw [h1];exact h,post⟩
 | tup xs=>exact hB pins s σ H E I ⟨μ,S,env,o,hS,hE,by show ((mi env S).bind _).bind _=_;rw [h1];exact h,post⟩
 | _=>cases h
end
end M
namespace L2
section
variable{X:Cx}{pos:Pos}
theorem tj:∀ {ns:List Int} {us:List Value},Vals (ns.map V.int) us->∃ xs:List (Int×Tok),us=xs.map (λp=>Value.int p.1 p.2)/\xs.map (·.1)=ns
 | [],_,.nil=>⟨[],rfl,rfl⟩
 | n::ns,_,.cons ⟨t,e⟩ r=>by
  subst e
  obtain⟨xs,e1,e2⟩:=tj r
  exact⟨(n,t)::xs,by rw [e1];rfl,by rw [Uy,e2]⟩
def GN(hc:X.calm=true):CallR X (.builtin "max") (λxs H Q=>∃ p ns,xs=[.ref p]/\mU X.K H p (ns.map V.int)/\ns≠[]/\∀ m,m∈ns->(∀ a∈ns,a<=m)->Q (.int m) H):=by
 intro pins s σ H xs us Q I r h
 obtain⟨p,ns,rfl,hq,h0,q⟩:=h
 obtain⟨u,rfl,rx⟩:=jL r
 cases rx
 obtain⟨its,rv,pl,hz⟩:=I.list hq
 obtain⟨ps,e1,e2⟩:=tj rv
 have hl:s.heap.IsList p (intItems ps.toArray):=by
  have:=pl.isList
  rw [e1] at this
  have e:intItems ps.toArray=(ps.map (λp=>Value.int p.1 p.2)).toArray:=by simp [intItems]
  rw [e];exact this
 have hp:0<ps.toArray.size:=by
  rw [Um]
  cases ps with
  | nil=>exact absurd e2.symm h0
  | cons _ _=>simp
 refine max_intList (I.ok.hd hc) hl hp λv h' tk hv kk=>?_
 obtain⟨g1,g2⟩:=argBest_gt (numAt ps.toArray) (ps.toArray.size - 1)
 generalize argBest (λi j=>decide (numAt ps.toArray i>numAt ps.toArray j)) (ps.toArray.size - 1)=b at hv g1 g2
 have hb:b<ps.length:=by rw [Um] at g1 hp;omega
 have nb:∀ j (hj:j<ps.length),numAt ps.toArray j=ps[j].1:=λj hj=>by
  simp [numAt,hj]
 have ev:v=Value.int ps[b].1 ps[b].2:=by
  simp [intItems,hb] at hv
  exact hv.symm
 subst ev
 refine⟨.int ps[b].1,H,I.kept kk,⟨_,rfl⟩,q _ ?_ λa ha=>?_⟩
 ·rw [<- e2];exact Uz.mpr ⟨_,Xo hb,rfl⟩
 ·rw [<- e2] at ha
  obtain⟨x,hx,rfl⟩:=Uz.mp ha
  obtain⟨j,hj,rfl⟩:=Ye.mp hx
  have:=g2 j (by rw [Um];omega)
  rw [nb j hj,nb b hb] at this
  exact this
end
end L2
namespace M
open L2
section
variable{X:Cx}{K:W.Frag}{μ μ':Fp}{H H':Hp}{S S':ab}{pos:Pos}
noncomputable def Ef(S:ab):D->Option (List D)
 | .lst xs=>Z xs
 | .ref r=>match S[r]? with | some (.lst xs)=>Z xs | _=>U
 | _=>U
def vJ{v:V}{d:D}{ds:List D}(s:SOk K μ S H)(r:Rep K μ H v d)(h:Ef S d=Z ds):∃ a vs,v=.ref a/\H a=Z (.lst vs)/\Reps K μ H vs ds:=by
 cases r with
 | lst hd n rr=>cases h;exact⟨_,_,rfl,hd,rr⟩
 | ref hr=>
  rename_i a i
  unfold Ef at h
  dsimp only at h
  cases q:S[i]? with
  | none=>rw [q] at h;cases h
  | some c=>
   rw [q] at h
   have ck:=s.cell _ _ _ hr q
   cases c with
   | lst xs=>cases h;obtain⟨vs,e,rr⟩:=ck;exact⟨a,vs,rfl,e,rr⟩
   | dct ks xs=>cases h
 | _=>cases h
noncomputable def JC:D->Bool
 | .ref _=>true
 | _=>false
noncomputable def bJ(S:ab)(x y:D):Option D:=if JC x||JC y then (Ef S x).bind λxs=>(Ef S y).bind λys=>if xs.length+ys.length<=sizeLine then Z (.lst (xs++ys)) else U else Kc S x y
def MR:OpR X (binaryOp .Add) (mY X.K bJ):=OpR.imp (OpR.or IC Rn) λx y H Q ⟨μ,S,dx,dy,dz,hS,h1,h2,h3,post⟩=>by
 unfold bJ at h3
 split at h3
 ·obtain⟨xs,e1,h3⟩:=Ui.mp h3
  obtain⟨ys,e2,h3⟩:=Ui.mp h3
  split at h3
  ·rename_i hl
   cases h3
   obtain⟨a,vs,rfl,q1,r1⟩:=vJ hS h1 e1
   obtain⟨b,ws,rfl,q2,r2⟩:=vJ hS h2 e2
   have l1:=r1.length
   have l2:=r2.length
   exact .inl ⟨a,b,vs,ws,rfl,rfl,q1,q2,by omega,λp hp=>post.lst hS hp (r1.append r2)⟩
  ·cases h3
 ·exact .inr ⟨μ,S,dx,dy,dz,hS,h1,h2,h3,post⟩
noncomputable def lj:List Int->Int
 | []=>0
 | [a]=>a
 | a::r=>max a (lj r)
theorem pE:∀ {ns:List Int},ns≠[]->lj ns∈ns/\∀ a∈ns,a<=lj ns
 | [a],_=>⟨by simp [lj],λb hb=>by simp at hb;simp [lj,hb]⟩
 | a::b::r,_=>by
  obtain⟨h1,h2⟩:=pE (ns:=b::r) (by simp)
  show max a (lj (b::r))∈_/\∀ c∈_,c<=max a (lj (b::r))
  generalize lj (b::r)=m at h1 h2
  refine⟨?_,λc hc=>?_⟩
  ·by_cases h:m<=a
   ·rw [Int.max_eq_left h];exact Ul
   ·rw [Int.max_eq_right (by omega)];exact Ur _ h1
  ·rcases UO.mp hc with rfl | hc
   ·exact Int.le_max_left _ _
   ·exact Yc (h2 c hc) (Int.le_max_right _ _)
def zL{ns:List Int}{m:Int}(h0:ns≠[])(h1:m∈ns)(h2:∀ a∈ns,a<=m):m=lj ns:=by
 obtain⟨g1,g2⟩:=pE h0
 have:=h2 _ g1
 have:=g2 _ h1
 omega
noncomputable def ph(S:ab):List D->Option D
 | [d]=>(qp S d).bind λns=>if ns.isEmpty then U else Z (.int (lj ns))
 | ds=>PC S ds
def CallR.or{f:Value}{r r':List V->Hp->VK->Prop}(h:CallR X f r)(h':CallR X f r'):CallR X f (λxs H Q=>r xs H Q\/r' xs H Q):=by
 intro pins s σ H xs us Q I rv q
 rcases q with q | q
 ·exact h pins s σ H xs us Q I rv q
 ·exact h' pins s σ H xs us Q I rv q
def GT(hc:X.calm=true):CallR X (.builtin "max") (Hd X.K (aT ph)):=CallR.imp (CallR.or (GN hc) (GU hc)) λxs H Q ⟨μ,S,ds,d,S',hS,hr,hm,post⟩=>by
 obtain⟨rfl,hm'⟩:=dB hm
 match ds,hr,hm,hm' with
 | [d0],hr,hm,hm'=>
  obtain⟨ns,h1,h2⟩:=Ui.mp hm'
  split at h2
  ·cases h2
  ·rename_i h0
   cases h2
   have h0:ns≠[]:=λz=>h0 (by rw [z];rfl)
   obtain⟨v,rfl,rv⟩:=hr.one
   obtain⟨b,rfl,hq,h64⟩:=tq hS rv h1
   refine .inl ⟨b,ns,rfl,hq,h0,λm m1 m2=>?_⟩
   rw [zL h0 m1 m2]
   exact post.here hS (.int _)
 | [],hr,hm,hm'=>cases hm'
 | _::_::_,hr,hm,hm'=>exact .inr ⟨μ,_,_,d,_,hS,hr,hm,post⟩
noncomputable def fW(t:MT)(body:MS):Nat->aW->ab->Option oi
 | 0,_,_=>U
 | f+1,env,S=>(t env S).bind λp=>if p.1=true then (body env p.2).bind λo=>match o with
   | .nx e s=>fW t body f e s
   | .ct e s=>fW t body f e s
   | .bk e s=>Z (.nx e s)
   | .rt d s=>Z (.rt d s)
  else Z (.nx env p.2)
noncomputable def dA(t:MT)(body:MS):MS:=fW t body 5000
def KD{c:Expr}{body:List Stmt}{t:MT}{mb:MS}(hp:PassesOwn (model X.prog X.w) X.A X.env X.xe)(hc:DT X c t)(hb:uR X body mb):DS X (.While c body [] pos) (dA t mb):=PS.imp (Ig hp hc hb) λE σ H ⟨μ,S,env,o,hS,hE,hm,post⟩=>by
 refine⟨λn σ' H'=>∃ μ' S' env' o',Ext μ H μ' H'/\SOk X.K μ' S' H'/\EOk X.K μ' H' σ' env'/\fW t mb n env' S'=Z o'/\PostS X.K μ' H' o' E,⟨5000,μ,S,env,o,hS.ext,hS,hE,hm,post⟩,?_⟩
 rintro n σ' H' ⟨μ',S',env',o',e',s',r',hl,post'⟩
 cases n with
 | zero=>cases hl
 | succ n=>
  obtain⟨⟨b,S1⟩,h1,hl⟩:=Ui.mp hl
  refine⟨μ',S',env',b,S1,s',r',h1,λH2 μ2 e2 s2=>?_⟩
  have eT:Ext μ H μ2 H2:=e'.trans e2
  have pT:PostS X.K μ2 H2 o' E:=post'.ext e2
  cases b with
  | false=>cases hl;dsimp only;rw [if_neg Bool.false_ne_true];exact pT σ' H2 μ2 s2.ext s2 (r'.mono e2)
  | true=>
   dsimp only
   rw [if_pos rfl]
   obtain⟨o4,h4,hl⟩:=Ui.mp hl
   refine⟨λσ2 H2=>∃ μ2 S2 env2 o2,Ext μ H μ2 H2/\SOk X.K μ2 S2 H2/\EOk X.K μ2 H2 σ2 env2/\fW t mb n env2 S2=Z o2/\PostS X.K μ2 H2 o2 E,λσ2 H2 ⟨μ2,S2,env2,o2,q1,q2,q3,q4,q5⟩=>⟨n,by omega,μ2,S2,env2,o2,q1,q2,q3,q4,q5⟩,?_⟩
   refine⟨μ2,S1,env',o4,s2,r'.mono e2,h4,?_⟩
   cases o4 with
   | nx e5 s5=>exact λσ6 H6 μ6 e6 s6 r6=>⟨μ6,s5,e5,o',eT.trans e6,s6,r6,hl,pT.ext e6⟩
   | ct e5 s5=>exact λσ6 H6 μ6 e6 s6 r6=>⟨μ6,s5,e5,o',eT.trans e6,s6,r6,hl,pT.ext e6⟩
   | bk e5 s5=>cases hl;exact pT
   | rt d5 s5=>cases hl;exact pT
end
inductive TabRel:List (bC×Value)->List (bC×D)->Prop
 | nil:TabRel [] []
 | cons {k:bC} {v:Value} {d:D} {vs:List (bC×Value)} {ds:List (bC×D)} (x:V) (h:RelV x v) (r:∀ K μ H,Rep K μ H x d) (t:TabRel vs ds):TabRel ((k,v)::vs) ((k,d)::ds)
theorem TabRel.val{k:bC}:∀ {vs ds},TabRel vs ds->∀ {d},mX ds k=Z d->∃ v x,valueAt vs k=Z v/\RelV x v/\∀ K μ H,Rep K μ H x d
 | _,_,.nil,d,h=>by cases h
 | _,_,.cons (k:=k') (v:=v) x h r t,d,q=>by
  unfold mX at q
  split at q
  ·rename_i e;cases q;refine⟨v,x,?_,h,r⟩;simp only at e;simp [valueAt,e]
  ·rename_i e
   obtain⟨v',x',h1,h2,h3⟩:=TabRel.val t q
   refine⟨v',x',?_,h2,h3⟩
   simp only at e
   rw [<- h1]
   simp [valueAt,e]
structure ue(w:World)(K:W.Frag)(mg:Str->Option Value)(x:Str)(l:List (bC×D)):Prop where
 ex:∃ (a:Addr) (vs:List (bC×Value)),mg x=Z (.ref a)/\(∀ (P:Program) (h:Heap),K.In h->h.DictOf (bU P w) a vs)/\TabRel vs l
section
variable{X:Cx}
def Jy{a:Addr}{vs:List (bC×Value)}(hd:∀ (P:Program) (h:Heap),X.K.In h->h.DictOf (bU P X.w) a vs):IxR X (λx y H Q=>∃ k v z,x=.ref a/\y=kV k/\valueAt vs k=Z v/\RelV z v/\Q z H):=by
 intro value slice pins s σ H x y v u Q I rx ry h hs
 obtain⟨k,v',z,rfl,rfl,hv,rz,q⟩:=h
 cases rx
 have dd:=hd X.prog s.heap I.kIn
 exact tail_any dd.typeIs F.slot_dict_getitem.lookup (wpAny_getItem_of (vL ry) dd.mapOf hv ⟨z,H,I.tok _,rz,q⟩) hs
noncomputable def cT(l:List (bC×D))(mi:ME):ME:=λenv S=>(mi env S).bind λp=>(gW p.1).bind λk=>(mX l k).bind λd=>Z (d,p.2)
def KP{x:Str}{l:List (bC×D)}{i:Expr}{mi:ME}{p pos:Pos}(g:ue X.w X.K X.mg x l)(hg:Gl X x)(hx:(x == ("__debug__":Str))=false)(hi:DE X i mi)(hs:mV i:=by intro _ _;rfl):DE X (.Subscript (.Name x p) i pos) (cT l mi):=by
 obtain⟨a,vs,h1,h2,h3⟩:=g.ex
 refine PE.imp (Iv (Jy h2) (xr (v:=.ref a) hg h1 rfl hx) hi hs) λσ H Q ⟨μ,S,env,d,S',hS,hE,hm,post⟩=>?_
 obtain⟨⟨y,S1⟩,e1,hm⟩:=Ui.mp hm
 obtain⟨k,e2,hm⟩:=Ui.mp hm
 obtain⟨d',e3,hm⟩:=Ui.mp hm
 cases hm
 obtain⟨v,z,v1,v2,v3⟩:=h3.val e3
 exact⟨μ,S,env,y,_,hS,hE,e1,λu H1 μ1 ex s1 r1=>⟨k,v,z,rfl,mD e2 r1,v1,v2,post _ H1 μ1 ex s1 (v3 _ _ _)⟩⟩
end
def yV{w:World}{K:W.Frag}{a:Addr}{es:Array DictEntry}{n:Nat}(hl:K.lookup a=Z ⟨.type "dict",U,.dict es n,#[]⟩){vs:List (bC×Value)}(hp:∀ P,Pairs (bU P w) es.toList vs)(hk:∀ P,KeysOf (bU P w) es)(hn:(vs.map (·.1)).Nodup) :
  ∀ (P:Program) (h:Heap),K.In h->h.DictOf (bU P w) a vs:=λP h KX=>⟨_,es,n,KX a _ hl,⟨rfl,rfl,rfl⟩,rfl,hk P,hp P,hn⟩
inductive TabLit(w:World):List DictEntry->List (bC×Value)->Prop
 | nil:TabLit w [] []
 | cons {x:Str} {t:Tok} {v:Value} {es:List DictEntry} {vs:List (bC×Value)} (h:TabLit w es vs):TabLit w (⟨PyData.keyHash w.params x,.str x t,v⟩::es) ((.inr x,v)::vs)
theorem TabLit.pairs{w:World}{P:Program}:∀ {es vs},TabLit w es vs->Pairs (bU P w) es vs
 | _,_,.nil=>.nil
 | _,_,.cons (x:=x) (t:=t) h=>.cons (vL (k:=.inr x) (show RelV (V.str x) (Value.str x t) from ⟨t,rfl⟩)) rfl h.pairs
theorem TabLit.keys{w:World}{P:Program}:∀ {es vs},TabLit w es vs->∀ e∈es,∃ k,(bU P w).is k e.key=true/\e.hash=(bU P w).hash k
 | _,_,.nil,e,h=>by simp at h
 | _,_,.cons (x:=x) (t:=t) h,e,he=>by
  rcases UO.mp he with rfl | he
  ·exact⟨.inr x,vL (k:=.inr x) (show RelV (V.str x) (Value.str x t) from ⟨t,rfl⟩),rfl⟩
  ·exact h.keys e he
def HC{w:World}{K:W.Frag}{mg:Str->Option Value}{x:Str}{a:Addr}{es:List DictEntry}{n:Nat}{vs:List (bC×Value)}{l:List (bC×D)}(hg:mg x=Z (.ref a))(hl:K.lookup a=Z ⟨.type "dict",U,.dict es.toArray n,#[]⟩)(t:TabLit w es vs)(hn:(vs.map (·.1)).Nodup)(r:TabRel vs l):ue w K mg x l:=
 ⟨a,vs,hg,yV hl (λP=>by simpa using t.pairs) (λP e he=>t.keys e (by simpa using he)) hn,r⟩
section
variable{X:Cx}{K:W.Frag}{μ:Fp}{H:Hp}{S:ab}
noncomputable def lN:MF:=λo ds S=>match ds with
 | [x]=>if pJ S o=true then (iD S o).bind λys=>if ci 40 x=true/\ys.all (ci 39)=true/\ys.length<=sizeLine then (ys.findIdx? λd=>js d x).bind λj=>Z (.int (j:Nat),S) else U else U
 | _=>U
theorem tT{pins:List (Addr×Obj)}{σ:L2.St}{s:Shared}(I:Inv X pins σ H s){x:D}:∀ {vs:List V} {us:List Value} {ds:List D},Vals vs us->Reps X.K μ H vs ds->(∀ d∈ds,ci 39 d=true) ->
  us.map (dX X.K μ H x)=ds.map λd=>js d x
 | _,_,_,.nil,.nil,_=>rfl
 | _,_,_,.cons rv tv,.cons r t,ok=>by
  rw [Uy,Uy,pj I rv r (ok _ Ul),tT I tv t λd m=>ok d (Ur _ m)]
def IL(hu:X.A.units+64<cLine):MtR X "list.index" (Pd X.K lN):=by
 intro pins s σ H x vs v us Q I rx rv h
 obtain⟨μ,S,dx,ds,d,S',hS,r1,r2,h,post⟩:=h
 unfold lN at h
 split at h
 ·rename_i y
  split at h
  ·rename_i hl
   obtain⟨a,ws,es,rfl,hq,hse,re⟩:=lG hS r1 hl
   rw [hse] at h
   dsimp only [Option.bind_some] at h
   split at h
   ·rename_i hk
    obtain⟨j,hj,h⟩:=Ui.mp h
    cases h
    cases rx
    obtain⟨w,rfl,rw0⟩:=r2.one
    obtain⟨u,rfl,ru⟩:=rv.one
    obtain⟨its,rvs,⟨⟨cls,dd,data,sl⟩,n,e,hc,hdd,hd⟩,hz⟩:=I.list hq
    simp only at hc hdd hd
    subst hc hdd hd
    have ok:=UF.mp hk.2.1
    have em:=tT (x:=y) I rvs re ok
    have ln:its.length=es.length:=by rw [<- re.length,rvs.length]
    obtain⟨hj1,hj2,hj3⟩:=WY.mp hj
    have at_:∀ (m:Nat) (h1:m<its.length) (h2:m<es.length),dX X.K μ H y its[m]=js es[m] y:=λm h1 h2=>by
     have:(its.map (dX X.K μ H y))[m]?=(es.map λd=>js d y)[m]?:=by rw [em]
     rw [VG,VG,Uq h1,Uq h2] at this
     simpa using this
    have sz:sizeLine<2 ^ 63 - 1:=by decide
    refine Wg F.slot_list_index ⟨_,e,rfl⟩ F.entry_list_index (F.args_list_index_2 _ _) (SeqAt.list_indexAt a its.toArray n U sl u (dX X.K μ H y) j (by simpa [ln] using hj1) (by have:=hk.2.2;omega) ?_ ?_) ⟨e,λw' hw'=>?_,?_⟩
    ·rw [Yf,at_ j (by omega) hj1];exact hj2
    ·intro m hm hmj
     rw [Yf,at_ m (by simpa using hm) (by omega)]
     have:=hj3 m hmj
     simpa using this
    ·exact fG I (by show X.A.units+1+40<cLine;omega) ru rw0 hk.1 rvs re ok w' (by simpa using hw')
    ·exact⟨.int _,H,I.tok _,⟨_,rfl⟩,post.here hS (.int _)⟩
   ·cases h
  ·cases h
 ·cases h
def ub{o:Expr}{name:Str}{env:Env}{w:Sem Value}(h:(match o with | .Call _ _ _ _=>false | _=>true)=true):attributeBase o name env w=w:=by
 cases o <;> first | rfl | cases h
end
section
variable{X:Cx}{K:W.Frag}{μ μ':Fp}{H H':Hp}{S S':ab}{tg iter:Expr}{pos:Pos}
noncomputable def Ec(g:MG)(t:MT)(e:ME)(r:Nat):Nat->Nat->aW->ab->Option (List D×ab)
 | 0,_,_,_=>U
 | f+1,i,env,S=>match S[r]? with
  | some (.lst xs)=>match xs[i]? with
   | none=>Z ([],S)
   | some d=>(g d env S).bind λp=>(t p.1 p.2).bind λb=>if b.1=true then (e p.1 b.2).bind λy=>(Ec g t e r f (i+1) p.1 y.2).bind λz=>Z (y.1::z.1,z.2) else Ec g t e r f (i+1) p.1 b.2
  | _=>U
end
end M
namespace L2
section
variable{X:Cx}
end
end L2
namespace M
open L2
section
variable{X:Cx}{K:W.Frag}{μ μ':Fp}{H H':Hp}{S:ab}
noncomputable def fAddS(S:ab)(x y:D):Option D:=match x,y with
 | .str a,.str b=>if a.length+b.length<=sizeLine then Z (.str (a++b)) else U
 | _,_=>U
noncomputable def fStr1(S:ab)(ds:List D):Option D:=match ds with
 | [.int i]=>if i.natAbs.log2<1920 then Z (.str (toString i)) else U
 | [.non]=>Z (.str "None")
 | _=>U
noncomputable def fmtD:D->Option Str
 | .str y=>if y.length<=sizeLine then Z y else U
 | .int i=>if i.natAbs.log2<1920 then Z (toString i) else U
 | _=>U
noncomputable def RA:List ME->Str->ME
 | [],out=>λ_ S=>Z (.str out,S)
 | m::r,out=>λenv S=>(m env S).bind λp=>match p.1 with
  | .str y=>if (out++y).length<=sizeLine then RA r (out++y) env p.2 else U
  | _=>U
inductive DEs(X:Cx):List Expr->List ME->Prop
 | nil:DEs X [] []
 | cons {e:Expr} {m:ME} {es:List Expr} {ms:List ME} (h:DE X e m) (t:DEs X es ms):DEs X (e::es) (m::ms)
noncomputable def Dv:List D->Option (List Str)
 | []=>Z []
 | .str x::r=>(Dv r).bind λxs=>Z (x::xs)
 | _::_=>U
noncomputable def fJoin:MF:=λo ds S=>match o,ds with
 | .str sep,[y]=>(iD S y).bind λxs=>(Dv xs).bind λys=>if (ys.map (·.length)).sum+ys.length * sep.length<=16777216 then Z (.str (Str.join sep ys),S) else U
 | _,_=>U
noncomputable def isStrB:D->Bool
 | .str _=>true
 | _=>false
end
end M
namespace HT
section
variable{prog:Program}{w:World}{A:Around}{E:Value->Shared->Prop}{s:Shared}
end
end HT
namespace L2
section
variable{X:Cx}
end
end L2
namespace M
open L2
section
variable{X:Cx}{K:W.Frag}{μ μ':Fp}{H H':Hp}{S:ab}
end
end M
namespace HT
section
variable{prog:Program}{w:World}{A:Around}{E:Value->Shared->Prop}{s:Shared}
end
end HT
namespace L2
section
variable{X:Cx}
end
end L2
namespace M
open L2
section
variable{X:Cx}{K:W.Frag}{μ:Fp}{H:Hp}{S:ab}
end
end M
namespace HT
open SeqAt
end HT
namespace M
open L2
section
variable{X:Cx}{K:W.Frag}{μ:Fp}{H:Hp}{S:ab}
end
end M
namespace L2
noncomputable def SD(e iter:Expr)(acc:Value)(env:Env):Sem Unit:=do
 let x <- eval iter env
 standAt iter.pos
 let x <- foldedSetIterable iter env x
 let it <- holding [x] (pyIter x)
 let _ <- runOwn (.compStart e 1 it acc env) env
 pure ()
def nD(elt tg iter tg2 iter2:Expr)(ifs ifs2:List Expr)(scope:Scope)(pos:Pos)(it acc:Value)(env:Env) :
  compTurn (.ListComp elt [⟨tg,iter,ifs,0⟩,⟨tg2,iter2,ifs2,0⟩] scope pos) 0 it acc env=lq (.ListComp elt [⟨tg,iter,ifs,0⟩,⟨tg2,iter2,ifs2,0⟩] scope pos) tg iter.pos ifs 0 it acc env (SD (.ListComp elt [⟨tg,iter,ifs,0⟩,⟨tg2,iter2,ifs2,0⟩] scope pos) iter2 acc env):=by
 unfold lq SD
 simp only [bind_assoc,pure_bind]
 rfl
def uM(elt tg iter tg2 iter2:Expr)(ifs ifs2:List Expr)(scope:Scope)(pos:Pos)(it acc:Value)(env:Env) :
  compTurn (.ListComp elt [⟨tg,iter,ifs,0⟩,⟨tg2,iter2,ifs2,0⟩] scope pos) 1 it acc env=lq (.ListComp elt [⟨tg,iter,ifs,0⟩,⟨tg2,iter2,ifs2,0⟩] scope pos) tg2 iter2.pos ifs2 1 it acc env (Kv elt acc env):=rfl
def ll{prog:Program}{w:World}{A:Around}{R:Result->Shared->Prop}{s:Shared}{elt:Expr}{g1:Comprehension}{tg2 iter2:Expr}{ifs2:List Expr}{scope:Scope}{pos:Pos}{it acc:Value}{env:Env}
  (h0:codeAny (model prog w) A (.compLoop (.ListComp elt [g1,⟨tg2,iter2,ifs2,0⟩] scope pos) 1 it acc env) R s)
  (h:wpAny (model prog w) A (pyIter it) (λit' s'=>codeAny (model prog w) A (.compLoop (.ListComp elt [g1,⟨tg2,iter2,ifs2,0⟩] scope pos) 1 it' acc env) R s') (notedBy (model prog w) A env λx s'=>R (.error x) s') s) :
  codeAny (model prog w) A (.compStart (.ListComp elt [g1,⟨tg2,iter2,ifs2,0⟩] scope pos) 1 it acc env) R s:=by
 refine codeAny_of_tree ?_
 refine wpAny_notedAt ?_
 show wpAny _ _ (compStart _ 1 _ _ _) _ _ _
 refine Up (wpAny_askSetting (wpAny_ite ?_))
 by_cases hq:({ program:=(model prog w).prog,params:=(model prog w).w.params:Setting }.params.followText "comprehension-iter-twice")=true
 ·rw [if_pos hq];exact Up (UD (UD ⟨rfl,h0⟩))
 ·rw [if_neg hq];exact Up (XD (Up (Wp (Up (Va h (λit' s' h'=>UD ⟨rfl,h'⟩) λ_ _ z=>z)))))
def tIn(wi:TI)(g:TG)(tt:TT)(te:TE)(p:Addr):TB:=λσ H Q=>wi σ H λJ H1=>Bv J g tt (tEm te p) σ H1 Q
def Pe{X:Cx}{elt tg iter tg2 iter2:Expr}{ifs ifs2:List Expr}{scope:Scope}{pos:Pos}{wi:TI}{g:TG}{tt:TT}{te:TE}{p:Addr}(hc:X.calm=true)(hx:∀ e s,X.xe e s->False)
  (hi:PI X tg2 iter2 wi) (hg:PG X tg2 g) (ht:LD X ifs2 tt) (he:PE X elt te) (hs:∀ x,foldedSetIterable iter2 X.env x=pure x) :
  PB X (SD (.ListComp elt [⟨tg,iter,ifs,0⟩,⟨tg2,iter2,ifs2,0⟩] scope pos) iter2 (.ref p) X.env) (tIn wi g tt te p):=λpins s σ H Q I h=>by
 refine Up (da (hi pins s σ H _ I h) λx s1 h1=>Up (Wp ?_))
 rw [hs]
 refine Up (UD (Up (VQ (da h1 λitv s2 h2=>?_))))
 obtain⟨it,fp,tn,J,H1,e,I2,T,st2,f2,hL⟩:=h2
 subst e
 have loop:=wB (d:=1) hc hx rfl (uM elt tg iter tg2 iter2 ifs ifs2 scope pos _ _ _) hg ht (xu (p:=p) he) T I2 st2 f2 hL
 refine Up (wpAny_runOwn ?_)
 rw [Around.mark_none]
 refine VO (ll loop (T.self _ 0 _ _ _ st2 loop)) λr s' ⟨σ',H',hr,J',q'⟩=>?_
 subst hr
 exact UD ⟨σ',H',J',q'⟩
end L2
namespace M
open L2
section
variable{X:Cx}{K:W.Frag}{H:Hp}{pos:Pos}
inductive iMs(K:W.Frag)(m:MA)(σ:L2.St)(H:Hp)(R:It->Hp->Prop):Prop
 | mk (μ:Fp) (S:ab) (env:aW) (xs:List D) (S':ab) (hS:SOk K μ S H) (hE:EOk K μ H σ env) (h:m env S=Z (xs,S')) (post:∀ J H' μ',Ext μ H μ' H'->SOk K μ' S' H'->(∀ μ2 H2,(∀ v d,Rep K μ' H' v d->Rep K μ2 H2 v d)->Hb K μ2 H2 J xs)->R J H')
def PV(X:Cx)(tg iter:Expr)(m:MA):Prop:=PI X tg iter (iMs X.K m)
def CZ{tg a:Expr}{ms:MA}{p:Pos}(hm:X.mg "range" = U)(ha:DA X [a] ms)(hg:Gl X "range":=by rfl)(hs:starEach [a] X.env=[(false,eval a X.env)]:=by rfl):PV X tg (.Call (.Name "range" p) [a] [] pos) (bq ms):=
 PI.imp (vi hg hm ha hs) λσ H R ⟨μ,S,env,xs,S',hS,hE,hm,post⟩=>by
  obtain⟨⟨ds,S1⟩,h1,hm⟩:=Ui.mp hm
  refine⟨μ,S,env,ds,S1,hS,hE,h1,λvs H1 μ1 e1 s1 r1=>?_⟩
  dsimp only at hm
  split at hm
  ·split at hm
   ·rename_i hb
    cases hm
    obtain⟨v,rfl,r⟩:=r1.one
    exact⟨_,by rw [r.int_inv],hb.1,hb.2,post _ H1 μ1 e1 s1 λ_ _ _=>nW 0 _⟩
   ·cases hm
  ·cases hm
def Ol{tg iter:Expr}{m:ME}(h:DE X iter m):PV X tg iter (cC m):=PI.imp (Io h) λσ H R ⟨μ,S,env,xs,S',hS,hE,hm,post⟩=>by
 obtain⟨⟨d,S1⟩,h1,hm⟩:=Ui.mp hm
 refine⟨μ,S,env,d,S1,hS,hE,h1,λv H1 μ1 e1 s1 r1=>?_⟩
 cases d with
 | lst ys=>
  cases hm
  have r1':=r1
  obtain⟨a,vs,rfl,q,_,rs⟩:=r1.sqL
  exact⟨a,rfl,.inl ⟨⟨vs,.inl (.inl q)⟩,post _ H1 μ1 e1 s1 λ_ _ f=>mI (.inl rfl) (f _ _ r1') rfl⟩⟩
 | tup ys=>
  cases hm
  have r1':=r1
  obtain⟨a,vs,rfl,q,rs⟩:=r1.sqT
  exact⟨a,rfl,.inr ⟨⟨vs,q⟩,post _ H1 μ1 e1 s1 λ_ _ f=>As (f _ _ r1')⟩⟩
 | rol ys=>
  cases hm
  have r1':=r1
  obtain⟨a,vs,rfl,q,rs⟩:=r1.sqR
  exact⟨a,rfl,.inl ⟨⟨vs,q⟩,post _ H1 μ1 e1 s1 λ_ _ f=>mI (.inr rfl) (f _ _ r1') rfl⟩⟩
 | _=>cases hm
noncomputable def iw(g:MG)(t:MT)(e:ME):List D->aW->ab->Option (List D×aW×ab)
 | [],env,S=>Z ([],env,S)
 | d::ds,env,S=>(g d env S).bind λp=>(t p.1 p.2).bind λb=>if b.1=true then (e p.1 b.2).bind λq=>(iw g t e ds p.1 q.2).bind λr=>Z (q.1::r.1,r.2) else iw g t e ds p.1 b.2
noncomputable def iu(g:MG)(t:MT)(mi2:MA)(g2:MG)(t2:MT)(e:ME):List D->aW->ab->Option (List D×ab)
 | [],_,S=>Z ([],S)
 | d::ds,env,S=>(g d env S).bind λp=>(t p.1 p.2).bind λb=>if b.1=true then (mi2 p.1 b.2).bind λq=>(iw g2 t2 e q.1 p.1 q.2).bind λr=>(iu g t mi2 g2 t2 e ds r.2.1 r.2.2).bind λz=>Z (r.1++z.1,z.2) else iu g t mi2 g2 t2 e ds p.1 b.2
noncomputable def cA(mi:MA)(g:MG)(t:MT)(mi2:MA)(g2:MG)(t2:MT)(e:ME)(cap:List (Option Nat)):ME:=λenv S=>(mi env S).bind λp=>(iu g t mi2 g2 t2 e p.1 (nu cap env) p.2).bind λq=>if q.1.length<=sizeLine then Z (.lst q.1,q.2) else U
structure CpI(K:W.Frag)(μ1:Fp)(H1:Hp)(p:Addr)(σ:L2.St)(H:Hp)(cs:List Addr)(S:ab)(env:aW)(vs:List V)(zs:List D):Prop where
 ext:ExtP μ1 H1 ⟨cs,p::μ1.fb⟩ H
 sok:SOk K ⟨cs,p::μ1.fb⟩ S H
 eok:EOk K ⟨cs,p::μ1.fb⟩ H σ env
 lst:H p=Z (.lst vs)
 rep:Reps K ⟨cs,p::μ1.fb⟩ H vs zs
def CpI.go{μ1:Fp}{H1 H H':Hp}{p:Addr}{σ σ':L2.St}{cs cs':List Addr}{S S':ab}{env env':aW}{vs:List V}{zs:List D}(c:CpI K μ1 H1 p σ H cs S env vs zs)(e:Ext ⟨cs,p::μ1.fb⟩ H ⟨cs',p::μ1.fb⟩ H')(s:SOk K ⟨cs',p::μ1.fb⟩ S' H')(r:EOk K ⟨cs',p::μ1.fb⟩ H' σ' env'):CpI K μ1 H1 p σ' H' cs' S' env' vs zs:=
 ⟨c.ext.then e,s,r,(e.keeps c.lst λz=>c.sok.disj p Ul z).1,c.rep.mono e⟩
def CpI.app{μ1:Fp}{H1 H:Hp}{p:Addr}{σ:L2.St}{cs:List Addr}{S:ab}{env:aW}{vs:List V}{zs:List D}{v:V}{d:D}(c:CpI K μ1 H1 p σ H cs S env vs zs)(hp:H1 p=U)(r:Rep K ⟨cs,p::μ1.fb⟩ H v d):CpI K μ1 H1 p σ (upd H p (.lst (vs++[v]))) cs S env (vs++[v]) (zs++[d]):=
 ⟨c.ext.chg hp,c.sok.chg Ul,c.eok.chg Ul,bo,Reps.chg Ul (c.rep.append (.cons r .nil))⟩
def uV{mi mi2:MA}{g g2:MG}{t t2:MT}{e:ME}{cap:List (Option Nat)}{σ:L2.St}{Q:VK}(h:tM K (cA mi g t mi2 g2 t2 e cap) σ H Q):rJ (iM K mi) (HE K g) (yN K t) (tIn (iMs K mi2) (HE K g2) (yN K t2) (tM K e)) cap σ H Q:=by
 obtain⟨μ,S,env,d,S9,hS,hE,hm,post⟩:=h
 obtain⟨⟨xs,S1⟩,h1,hm⟩:=Ui.mp hm
 obtain⟨⟨ys,S2⟩,h2,hm⟩:=Ui.mp hm
 dsimp only at hm
 split at hm
 case isFalse=>cases hm
 rename_i hsz
 cases hm
 refine⟨μ,S,env,xs,S1,hS,hE,h1,λJ H1 μ1 e1 s1 it p hp=>?_⟩
 have hpn:=s1.notMem hp
 refine⟨λi n σ' H'=>n=xs.length - i/\i<=xs.length/\∃ (cs:List Addr) (S':ab) (env':aW) (vs:List V) (zs rest:List D),CpI K μ1 H1 p σ' H' cs S' env' vs zs/\iu g t mi2 g2 t2 e (xs.drop i) env' S'=Z (rest,S9)/\ys=zs++rest,
  ⟨xs.length,by simp,Wt _,μ1.cs,S1,nu cap env,[],[],ys,⟨?_,s1.more hp,((hE.mono e1).block cap).more hp,bo,.nil⟩,by rw [Ww];exact h2,rfl⟩,?_⟩
 ·exact⟨⟨[p],rfl,λa z=>by rw [UN.mp z];exact hp⟩,⟨[],by simp,λ_ z=>by simp at z⟩,λa o' n h=>by rw [bh (bW h hp)];exact h,λa ha=>by
   by_cases z:a=p
   ·subst z;rw [bo];simp
   ·rw [bh z];exact s1.dom a ha⟩
 rintro i n σ' H' ⟨rfl,hi,cs,S',env',vs,zs,rest,c,hl,rfl⟩
 have iti:=it _ H' S' c.ext c.sok i
 by_cases hlt:i<xs.length
 ·refine .inr ⟨(iti.1 xs[i] (Uq hlt)).1,λx H2 y=>?_⟩
  obtain⟨e2,s2,rx⟩:=(iti.1 xs[i] (Uq hlt)).2 x H2 y
  rw [VW hlt] at hl
  obtain⟨⟨env3,S3⟩,h3,hl⟩:=Ui.mp hl
  obtain⟨⟨b,S4⟩,h4,hl⟩:=Ui.mp hl
  refine⟨_,S',env',xs[i],env3,S3,s2,c.eok.mono e2,rx,h3,λσ3 H3 μ3 e3 s3 r3=>⟨μ3,S3,env3,b,S4,s3,r3,h4,λH4 μ4 e4 s4=>?_⟩⟩
  have eA:=(e2.trans e3).trans e4
  obtain⟨cs4,fb4⟩:=μ4
  have hfb:fb4=p::μ1.fb:=eA.fb
  subst hfb
  have c4:=c.go eA s4 (r3.mono e4)
  cases b with
  | false=>
   rw [if_neg Bool.false_ne_true] at hl
   dsimp only
   rw [if_neg Bool.false_ne_true]
   exact⟨xs.length - (i+1),by omega,rfl,hlt,cs4,S4,env3,vs,zs,rest,c4,hl,rfl⟩
  | true=>
   rw [if_pos rfl] at hl
   dsimp only
   rw [if_pos rfl]
   obtain⟨⟨us,S5⟩,h5,hl⟩:=Ui.mp hl
   obtain⟨⟨ws,env6,S6⟩,h6,hl⟩:=Ui.mp hl
   obtain⟨⟨rs,S7⟩,h7,hl⟩:=Ui.mp hl
   cases hl
   refine⟨_,S4,env3,us,S5,s4,r3.mono e4,h5,λJ2 H5 μ5 e5 s5 it2=>?_⟩
   obtain⟨cs5,fb5⟩:=μ5
   have hfb:fb5=p::μ1.fb:=e5.fb
   subst hfb
   refine⟨λj n σ' H'=>n=us.length - j/\j<=us.length/\∃ (cs:List Addr) (S':ab) (env':aW) (vs:List V) (zs' rest:List D),CpI K μ1 H1 p σ' H' cs S' env' vs zs'/\(∀ v d,Rep K ⟨cs5,p::μ1.fb⟩ H5 v d->Rep K ⟨cs,p::μ1.fb⟩ H' v d)/\iw g2 t2 e (us.drop j) env' S'=Z (rest,env6,S6)/\zs++ws=zs'++rest,
    ⟨us.length,by simp,Wt _,cs5,S5,env3,vs,zs,ws,c4.go e5 s5 (c4.eok.mono e5),λ_ _ z=>z,by rw [Ww];exact h6,rfl⟩,?_⟩
   rintro j n σ' H' ⟨rfl,hj,cs,S',env',vs',zs',rest',c',rk,hl',hz⟩
   have itj:=it2 _ _ rk _ H' S' c'.sok.ext.toP c'.sok j
   by_cases hlj:j<us.length
   ·refine .inr ⟨(itj.1 us[j] (Uq hlj)).1,λx2 H2 y2=>?_⟩
    obtain⟨f2,q2,rx2⟩:=(itj.1 us[j] (Uq hlj)).2 x2 H2 y2
    rw [VW hlj] at hl'
    obtain⟨⟨env3',S3'⟩,k3,hl'⟩:=Ui.mp hl'
    obtain⟨⟨b',S4'⟩,k4,hl'⟩:=Ui.mp hl'
    refine⟨_,S',env',us[j],env3',S3',q2,c'.eok.mono f2,rx2,k3,λσ3 H3 μ3 e3 s3 r3=>⟨μ3,S3',env3',b',S4',s3,r3,k4,λH4 μ4 e4 s4=>?_⟩⟩
    have eA:=(f2.trans e3).trans e4
    obtain⟨cs4,fb4⟩:=μ4
    have hfb:fb4=p::μ1.fb:=eA.fb
    subst hfb
    have c4:=c'.go eA s4 (r3.mono e4)
    cases b' with
    | false=>
     rw [if_neg Bool.false_ne_true] at hl'
     dsimp only
     rw [if_neg Bool.false_ne_true]
     exact⟨us.length - (j+1),by omega,rfl,hlj,cs4,S4',env3',vs',zs',rest',c4,λv d z=>(rk v d z).mono eA,hl',hz⟩
    | true=>
     rw [if_pos rfl] at hl'
     dsimp only
     rw [if_pos rfl]
     obtain⟨⟨dv,S8⟩,k5,hl'⟩:=Ui.mp hl'
     obtain⟨⟨rs',q8⟩,k6,hl'⟩:=Ui.mp hl'
     cases hl'
     refine⟨_,S4',env3',dv,S8,s4,c4.eok,k5,λv H5 μ5 e5 s5 r5=>?_⟩
     obtain⟨cs5,fb5⟩:=μ5
     have hfb:fb5=p::μ1.fb:=e5.fb
     subst hfb
     have c5:=c4.go e5 s5 (c4.eok.mono e5)
     have hv:=c5.rep.length
     have hlen:=congrArg List.length hz
     simp only [UC,UE] at hlen hsz
     exact⟨vs',c5.lst,by omega,us.length - (j+1),by omega,rfl,hlj,cs5,S8,env3',vs'++[v],zs'++[dv],rs',c5.app hp r5,λv d z=>Rep.chg Ul ((((rk v d z).mono eA)).mono e5),k6,by rw [hz];simp⟩
   ·have e:j=us.length:=by omega
    subst e
    rw [WI] at hl'
    cases hl'
    rw [UX] at hz
    subst hz
    exact .inl ⟨itj.2 (Uw _),xs.length - (i+1),by omega,rfl,hlt,cs,S6,env6,vs',zs++ws,rs,c',h7,by simp⟩
 ·have e:i=xs.length:=by omega
  subst e
  refine .inl ⟨iti.2 (Uw _),?_⟩
  rw [WI] at hl
  cases hl
  have eF:Ext μ1 H1 ⟨cs,μ1.fb⟩ H':=⟨rfl,c.ext.pre,c.ext.keep,c.ext.dom⟩
  rw [UX] at post
  exact post _ H' ⟨cs,μ1.fb⟩ (e1.trans eF) c.sok.less (.lst c.lst ⟨λz=>c.sok.disj p Ul z,hpn.2⟩ c.rep.less)
variable{elt tg iter tg2 iter2:Expr}{ifs ifs2:List Expr}{scope:Scope}{spos py:Pos}{N':List Str}{cap:List (Option Nat)}{mi mi2:MA}{g g2:MG}{t t2:MT}{me:ME}{y:Str}{i:Nat}
def KY(hc:X.calm=true)(B:BlockOk X N' scope cap)(hi:DI X tg iter mi)(hg:∀ C s H fp,DG (kD X N' scope C s H fp) tg g)(ht:∀ C s H fp,Hh (kD X N' scope C s H fp) ifs t)
  (hi2:∀ C s H fp,PV (kD X N' scope C s H fp) tg2 iter2 mi2) (hg2:∀ C s H fp,DG (kD X N' scope C s H fp) tg2 g2) (ht2:∀ C s H fp,Hh (kD X N' scope C s H fp) ifs2 t2) (he:∀ C s H fp,DE (kD X N' scope C s H fp) elt me)
  (hs:∀ x,foldedSetIterable iter X.env x=pure x) (hs2:∀ env x,foldedSetIterable iter2 env x=pure x):DE X (.ListComp elt [⟨tg,iter,ifs,0⟩,⟨tg2,iter2,ifs2,0⟩] scope pos) (cA mi g t mi2 g2 t2 me cap):=
 PE.imp (zn (g:=HE X.K g) (tt:=yN X.K t) (tb:=tIn (iMs X.K mi2) (HE X.K g2) (yN X.K t2) (tM X.K me)) hc B hi hg ht (λ_ _ _=>nD ..) (λC s H fp p=>Pe hc (λ_ _ z=>z) (hi2 C s H fp) (hg2 C s H fp) (ht2 C s H fp) (he C s H fp) (hs2 _)) hs) λ_ _ _ h=>uV h
def AU(hN:X.N.Nodup)(hy:X.N[i]?=Z y)(hx:Lz X.env.scope y)
  (hc:X.calm=true) (B:BlockOk X N' scope cap) (hi:DI X tg iter mi) (hg:∀ C s H fp,DG (kD X N' scope C s H fp) tg g) (ht:∀ C s H fp,Hh (kD X N' scope C s H fp) ifs t)
  (hi2:∀ C s H fp,PV (kD X N' scope C s H fp) tg2 iter2 mi2) (hg2:∀ C s H fp,DG (kD X N' scope C s H fp) tg2 g2) (ht2:∀ C s H fp,Hh (kD X N' scope C s H fp) ifs2 t2) (he:∀ C s H fp,DE (kD X N' scope C s H fp) elt me)
  (hsw:swapsWith (.ListComp elt [⟨tg,iter,ifs,0⟩,⟨tg2,iter2,ifs2,0⟩] scope pos) (Z (.Name y py)) spos.line X.env=pure true)
  (hs:∀ x,foldedSetIterable iter X.env x=pure x) (hs2:∀ env x,foldedSetIterable iter2 env x=pure x) (hf:X.fn y=true\/X.env.scope.names.lookup y=Z .local) :
  DS X (.Assign [.Name y py] (.ListComp elt [⟨tg,iter,ifs,0⟩,⟨tg2,iter2,ifs2,0⟩] scope pos) spos) (aS (cA mi g t mi2 g2 t2 me cap) (ah i)):=
 PS.imp (qe (g:=HE X.K g) (tt:=yN X.K t) (tb:=tIn (iMs X.K mi2) (HE X.K g2) (yN X.K t2) (tM X.K me)) hN hy hx hc B hi hg ht (λ_ _ _=>nD ..) (λC s H fp p=>Pe hc (λ_ _ z=>z) (hi2 C s H fp) (hg2 C s H fp) (ht2 C s H fp) (he C s H fp) (hs2 _)) hsw hs hf) λE σ H h=>by
  obtain⟨μ,S,env,o,hS,hE,hm,post⟩:=h
  obtain⟨⟨d,S1⟩,h1,hm⟩:=Ui.mp hm
  cases hm
  exact uV ⟨μ,S,env,d,S1,hS,hE,h1,λv H1 μ1 e1 s1 r1=>post _ H1 μ1 e1 s1 ((hE.mono e1).set r1 i)⟩
end
structure OS(P:Program)(w:World)(K:W.Frag)(mg:Str->Option Value)(base:Heap)(k:Nat)(a:Addr)(n:Nat)(f:List D->ab->Option (D×ab)):Prop where
 ex:∃ (fd:FuncData) (ps:List Str),ps.length=n/\FnOk P w K mg base EQ k a fd ps (HR K n f)/\W.keepIn K (.ref a)=true/\Binds K fd ps []
theorem Fn.at{P:Program}{w:World}{K:W.Frag}{mg:Str->Option Value}{base:Heap}{k n:Nat}{x:Str}{a:Addr}{f:List D->ab->Option (D×ab)}(F:Fn P w K mg base k x n f)(h:mg x=Z (.ref a)):OS P w K mg base k a n f:=by
 obtain⟨b,fd,ps,h1,h2,h3,h4,h5⟩:=F.ex
 rw [h] at h3;cases h3
 exact⟨fd,ps,h1,h2,h4,h5⟩
inductive FRel(P:Program)(w:World)(K:W.Frag)(mg:Str->Option Value)(base:Heap)(k:Nat):List (bC×Value)->List (bC×Nat×(List D->ab->Option (D×ab)))->Prop
 | nil:FRel P w K mg base k [] []
 | cons {y:bC} {a:Addr} {n:Nat} {f:List D->ab->Option (D×ab)} {vs:List (bC×Value)} {l:List (bC×Nat×(List D->ab->Option (D×ab)))} (h:OS P w K mg base k a n f) (t:FRel P w K mg base k vs l):FRel P w K mg base k ((y,.ref a)::vs) ((y,n,f)::l)
noncomputable def yT:List (bC×Nat×(List D->ab->Option (D×ab)))->bC->Option (Nat×(List D->ab->Option (D×ab)))
 | [],_=>U
 | (y,p)::l,k=>if y=k then Z p else yT l k
section
variable{P:Program}{w:World}{K:W.Frag}{mg:Str->Option Value}{base:Heap}{k:Nat}
theorem FRel.val{y:bC}{p:Nat×(List D->ab->Option (D×ab))}:∀ {vs l},FRel P w K mg base k vs l->yT l y=Z p->∃ a,valueAt vs y=Z (.ref a)/\OS P w K mg base k a p.1 p.2
 | _,_,.nil,q=>by cases q
 | _,_,.cons (y:=y') (a:=a) h t,q=>by
  unfold yT at q
  split at q
  ·rename_i e;cases q;exact⟨a,by simp [valueAt,e],h⟩
  ·rename_i e
   obtain⟨b,h1,h2⟩:=FRel.val t q
   refine⟨b,?_,h2⟩
   rw [<- h1]
   simp [valueAt,e]
structure FTab(P:Program)(w:World)(K:W.Frag)(mg:Str->Option Value)(base:Heap)(k:Nat)(x:Str)(l:List (bC×Nat×(List D->ab->Option (D×ab)))):Prop where
 ex:∃ (a:Addr) (vs:List (bC×Value)),mg x=Z (.ref a)/\(∀ (P:Program) (h:Heap),K.In h->h.DictOf (bU P w) a vs)/\FRel P w K mg base k vs l
end
theorem EOk.setN{K:W.Frag}{μ:Fp}{H:Hp}{x:Option V}:∀ {σ:L2.St} {env:aW} (i:Nat),EOk K μ H σ env->EOk K μ H (σ.set i x) (env.set i U)
 | _,_,_,.nil=>.nil
 | _,_,0,.no t=>.no t
 | _,_,0,.yes _ t=>.no t
 | _,_,i+1,.no t=>.no (EOk.setN i t)
 | _,_,i+1,.yes h t=>.yes h (EOk.setN i t)
section
variable{X:Cx}{k i:Nat}{x b:Str}{e ix:Expr}{es:List Expr}{mi:ME}{ms:MA}{p pb pt ps pa pc pr:Pos}{l:List (bC×Nat×(List D->ab->Option (D×ab)))}
def Iz{t:TA}(hN:X.N[i]?=Z b)(hv:Ua X.env.scope b)(hr:Room k X.A)(ha:PA X (e::es) t)(hd:(b == ("__debug__":Str))=false)(hc:(b == ("__classdict__":Str))=false)
  (he:starEach (e::es) X.env=(false,eval e X.env)::starEach es X.env) (hpl:(backTo pc (starEach es X.env)).any (·.1)=false) :
  PE X (.Call (.Name b p) (e::es) [] pc) (λσ H Q=>∃ a n f,σ[i]?=Z (Z (.ref a))/\OS X.prog X.w X.K X.mg X.base k a n f/\Du (HR X.K n f) [] E0 t σ H Q):=by
 intro pins s σ H Q I ⟨a,n,f,hσ,F,h⟩
 obtain⟨fd,qs,hn,F,hk,hb⟩:=F.ex
 refine Wa (da (Iq hN hv hd hc pins s σ H (λv H'=>v=.ref a/\H'=H) I ⟨_,hσ,rfl,rfl⟩) λu s1 ⟨v,H1,I1,r,e1,e2⟩=>?_)
 subst e1 e2
 cases r
 refine W.callWith_K (h₀:=X.base) I1.ok.mod.kin hk (da (ha pc pins s1 σ H1 _ I1 h) λus s2 ⟨vs,H2,I2,r2,q⟩=>⟨I2.kIn,?_⟩) he hpl
 exact BM F hr hb .nil IB I2 r2 q
noncomputable def fY(l:List (bC×Nat×(List D->ab->Option (D×ab))))(i:Nat)(mi:ME)(ms:MA):MS:=λenv S=>(mi env S).bind λp=>(gW p.1).bind λk=>(yT l k).bind λq=>(ms (env.set i U) p.2).bind λr=>if r.1.length=q.1 then (q.2 r.1 r.2).bind λz=>Z (.rt z.1 z.2) else U
def KB(g:FTab X.prog X.w X.K X.mg X.base k x l)(hg:Gl X x)(hx:(x == ("__debug__":Str))=false)(hi:DE X ix mi)(hs:mV ix)(hr:Room k X.A)(ha:DA X (e::es) ms)(nd:X.N.Nodup)(hN:X.N[i]?=Z b)(hl:Lz X.env.scope b)(hv:Ua X.env.scope b)
  (hf:X.fn b=true\/X.env.scope.names.lookup b=Z .local) (hd:(b == ("__debug__":Str))=false) (hc:(b == ("__classdict__":Str))=false) (hlen:i<X.N.length)
  (he:starEach (e::es) X.env=(false,eval e X.env)::starEach es X.env) (hpl:(backTo pc (starEach es X.env)).any (·.1)=false) :
  uR X [.Assign [.Name b pb] (.Subscript (.Name x pt) ix ps) pa,.Return (Z (.Call (.Name b p) (e::es) [] pc)) pr] (fY l i mi ms):=by
 obtain⟨a,vs,h1,h2,h3⟩:=g.ex
 intro pins s σ H E I h
 have hlσ:i < σ.length:=by
  have:σ.length=X.N.length:=I.len
  omega
 refine zk (Ih (i:=i) nd hN hl (Iv (Jy h2) (xr (v:=.ref a) hg h1 rfl hx) hi hs) rfl hf) (DB (Ii (Iz hN hv hr ha hd hc he hpl))) pins s σ H E I ?_
 obtain⟨μ,S,env,o,hS,hE,hm,post⟩:=h
 obtain⟨⟨y,S1⟩,e1,hm⟩:=Ui.mp hm
 obtain⟨z,e2,hm⟩:=Ui.mp hm
 obtain⟨q,e3,hm⟩:=Ui.mp hm
 obtain⟨fa,v1,F⟩:=h3.val e3
 refine⟨μ,S,env,y,S1,hS,hE,e1,λu H1 μ1 ex s1 r1=>⟨z,.ref fa,.ref fa,rfl,mD e2 r1,v1,rfl,?_⟩⟩
 obtain⟨⟨ws,S2⟩,e4,hm⟩:=Ui.mp hm
 dsimp only at hm
 split at hm
 ·rename_i hn
  obtain⟨⟨d,S3⟩,e5,hm⟩:=Ui.mp hm
  cases hm
  refine⟨fa,q.1,q.2,by rw [UP hlσ],F,yY ⟨μ1,S1,env.set i U,d,S3,s1,(hE.mono ex).setN i,?_,Post.ext ex post⟩⟩
  show (ms (env.set i U) S1).bind _=_
  rw [e4]
  exact(if_pos hn).trans e5
 ·cases hm
end
inductive FNs(mg:Str->Option Value):List (bC×Value)->List (Str×Str)->Prop
 | nil:FNs mg [] []
 | cons {x y:Str} {a:Addr} {vs:List (bC×Value)} {l:List (Str×Str)} (h:mg y=Z (.ref a)) (t:FNs mg vs l):FNs mg ((.inr x,.ref a)::vs) ((x,y)::l)
structure FNm(w:World)(K:W.Frag)(mg:Str->Option Value)(x:Str)(l:List (Str×Str)):Prop where
 ex:∃ (a:Addr) (vs:List (bC×Value)),mg x=Z (.ref a)/\(∀ (P:Program) (h:Heap),K.In h->h.DictOf (bU P w) a vs)/\FNs mg vs l
def SH{w:World}{K:W.Frag}{mg:Str->Option Value}{x:Str}{a:Addr}{es:List DictEntry}{n:Nat}{vs:List (bC×Value)}{l:List (Str×Str)}(hg:mg x=Z (.ref a))(hl:K.lookup a=Z ⟨.type "dict",U,.dict es.toArray n,#[]⟩)(t:TabLit w es vs)(hn:(vs.map (·.1)).Nodup)(r:FNs mg vs l):FNm w K mg x l:=
 ⟨a,vs,hg,yV hl (λP=>by simpa using t.pairs) (λP e he=>t.keys e (by simpa using he)) hn,r⟩
section
variable{P:Program}{w:World}{K:W.Frag}{mg:Str->Option Value}{base:Heap}{k:Nat}
def FFs(P:Program)(w:World)(K:W.Frag)(mg:Str->Option Value)(base:Heap)(k:Nat):List (Str×Str)->List (bC×Nat×(List D->ab->Option (D×ab)))->Prop
 | [],[]=>True
 | (x,y)::l,(z,n,f)::r=>z=.inr x/\Fn P w K mg base k y n f/\FFs P w K mg base k l r
 | _,_=>False
theorem FNs.rel:∀ {vs l r},FNs mg vs l->FFs P w K mg base k l r->FRel P w K mg base k vs r
 | _,_,[],.nil,_=>.nil
 | _,_,(z,n,f)::r,.cons h t,q=>by
  obtain⟨q1,q2,q3⟩:=q
  subst q1
  exact .cons (q2.at h) (t.rel q3)
def NE{x:Str}{l:List (Str×Str)}{r:List (bC×Nat×(List D->ab->Option (D×ab)))}(T:FNm w K mg x l)(h:FFs P w K mg base k l r):FTab P w K mg base k x r:=by
 obtain⟨a,vs,h1,h2,h3⟩:=T.ex
 exact⟨a,vs,h1,h2,h3.rel h⟩
theorem FRel.up{k':Nat}(h:k<=k'):∀ {vs l},FRel P w K mg base k vs l->FRel P w K mg base k' vs l
 | _,_,.nil=>.nil
 | _,_,.cons q t=>.cons (by obtain⟨fd,ps,a,b,c⟩:=q.ex;exact⟨fd,ps,a,b.mono h,c⟩) (t.up h)
theorem FTab.up{k':Nat}{x:Str}{l:List (bC×Nat×(List D->ab->Option (D×ab)))}(T:FTab P w K mg base k x l)(h:k<=k'):FTab P w K mg base k' x l:=by
 obtain⟨a,vs,h1,h2,h3⟩:=T.ex
 exact⟨a,vs,h1,h2,h3.up h⟩
end
section
variable{X:Cx}{e:Expr}{m:ME}{pos:Pos}
def Fi(bs:List Bool):((List.range bs.length).any λi=>(bs[i]?).getD true)=bs.any id:=by
 rw [UK,UB,UB]
 constructor
 ·rintro⟨i,hi,h⟩
  have hi':=Vr.mp hi
  rw [Uq hi'] at h
  exact⟨bs[i],Xo hi',h⟩
 ·rintro⟨b,hb,h⟩
  obtain⟨i,hi,e⟩:=Ye.mp hb
  exact⟨i,Vr.mpr hi,by rw [Uq hi,e];exact h⟩
def Ka{S:ab}{ds:List D}{d:D}(h:AR S ds=Z d):∃ zs bs,ds=[.lst zs]/\gO zs=Z bs/\d=.bl (bs.any id):=by
 unfold AR at h
 split at h
 ·obtain⟨bs,h1,h2⟩:=Ui.mp h
  cases h2;exact⟨_,_,rfl,h1,rfl⟩
 ·cases h
def Lp(hc:X.calm=true):CallR X (.builtin "any") (Hd X.K (aT AR)):=by
 intro pins s σ H xs us Q I rv ⟨μ,S,ds,d,S',hS,hr,hm,post⟩
 obtain⟨rfl,hm⟩:=dB hm
 obtain⟨zs,bs,rfl,h1,rfl⟩:=Ka hm
 obtain⟨v,rfl,r⟩:=hr.one
 obtain⟨u,rfl,ru⟩:=jL rv
 obtain⟨a,vs,rfl,q,n,r⟩:=r.sqL
 cases ru
 obtain⟨its,rv',pl,hz⟩:=I.list (.inl (.inl q))
 have hl:=pl.isList
 have hb:=lZ r rv' h1
 have hlt:a<s.heap.objs.size:=by obtain⟨_,e,_⟩:=hl;exact UA e
 refine call_any_walk (We hl ⟨s.heap.objs.size,[s.heap.objs.size,a],[s.heap.objs.size],its.toArray.size,_,_,λi=>(bs[i]?).getD true,rfl,Walks.list (A:=X.A.in1) (I.ok.hd hc) _ a (UR hlt) its.toArray,
  ⟨⟨_,UG _ rfl,rfl,rfl⟩,hl.push _⟩,λi v s' Q' E' hP hQ=>?_,λh' tk hk=>?_⟩)
 ·obtain⟨b,e,rfl⟩:=hb.get i v (by simpa using hP)
  simp only [e,Xm] at hQ
  exact VD hQ
 ·rw [Um,hb.length,Fi]
  exact⟨.bl _,H,I.kept (LSm.kept_iter hk),rfl,post.here hS (.bl _)⟩
end
section
variable{X:Cx}{K:W.Frag}{μ μ':Fp}{H H':Hp}{S S':ab}{pos:Pos}
noncomputable def Jf(g:MG)(body:MS)(xs:List D)(r:Nat):Nat->Nat->aW->ab->Option oi
 | 0,_,_,_=>U
 | f+1,i,env,S=>match S[r]? with
  | some (.lst ys)=>match xs[i]?,ys[i]? with
   | some x,Z y=>(g (.tup [x,y]) env S).bind λp=>(body p.1 p.2).bind λo=>match o with
    | .nx e s=>Jf g body xs r f (i+1) e s
    | .ct e s=>Jf g body xs r f (i+1) e s
    | .bk e s=>Z (.nx e s)
    | .rt d s=>Z (.rt d s)
   | _,_=>Z (.nx env S)
  | _=>U
end
end M
namespace MI
open L2 M
@[irreducible] noncomputable def mC(d:D):ME:=M.mC d
def sJ{d:D}:mC d=M.mC d:=by unfold mC;rfl
@[irreducible] noncomputable def ac(i:Nat):ME:=M.ac i
def DN{i:Nat}:ac i=M.ac i:=by unfold ac;rfl
@[irreducible] noncomputable def ax(f:ab->D->D->Option D)(a b:ME):ME:=M.ax f a b
def jE{f:ab->D->D->Option D}{a b:ME}:ax f a b=M.ax f a b:=by unfold ax;rfl
@[irreducible] noncomputable def au(m:ME):MT:=M.au m
def sC{m:ME}:au m=M.au m:=by unfold au;rfl
@[irreducible] noncomputable def cH(f g:ab->D->D->Option D)(a b c:ME):ME:=M.cH f g a b c
def pH{f g:ab->D->D->Option D}{a b c:ME}:cH f g a b c=M.cH f g a b c:=by unfold cH;rfl
@[irreducible] noncomputable def cG(m:ME):MT:=M.cG m
def xY{m:ME}:cG m=M.cG m:=by unfold cG;rfl
@[irreducible] noncomputable def cM(a b:MT):MT:=M.cM a b
def sK{a b:MT}:cM a b=M.cM a b:=by unfold cM;rfl
@[irreducible] noncomputable def cX(a b:MT):MT:=M.cX a b
def xZ{a b:MT}:cX a b=M.cX a b:=by unfold cX;rfl
@[irreducible] noncomputable def cy(a:MT):MT:=M.cy a
def zX{a:MT}:cy a=M.cy a:=by unfold cy;rfl
@[irreducible] noncomputable def df(a b:ME):ME:=M.Jg a b
def Ee{a b:ME}:df a b=M.Jg a b:=by unfold df;rfl
@[irreducible] noncomputable def uj(a b:ME):ME:=M.Rz a b
def Jb{a b:ME}:uj a b=M.Rz a b:=by unfold uj;rfl
@[irreducible] noncomputable def fX(a:ME):ME:=M.Jd a
def zW{a:ME}:fX a=M.Jd a:=by unfold fX;rfl
@[irreducible] noncomputable def on(t:MT)(a b:ME):ME:=M.on t a b
def Je{t:MT}{a b:ME}:on t a b=M.on t a b:=by unfold on;rfl
@[irreducible] noncomputable def ag:MA:=M.ag 
def yb  : ag  = M.ag  := by unfold ag;rfl
@[irreducible] noncomputable def aa(a:ME)(r:MA):MA:=M.aa a r
def Af{a:ME}{r:MA}:aa a r=M.aa a r:=by unfold aa;rfl
@[irreducible] noncomputable def aX(ms:MA):ME:=M.aX ms
def DP{ms:MA}:aX ms=M.aX ms:=by unfold aX;rfl
@[irreducible] noncomputable def iq(ms:MA):ME:=M.iq ms
def DX{ms:MA}:iq ms=M.iq ms:=by unfold iq;rfl
@[irreducible] noncomputable def eM(ms:MA):ME:=M.eM ms
def zZ{ms:MA}:eM ms=M.eM ms:=by unfold eM;rfl
@[irreducible] noncomputable def yP(f:ab->D->Option D)(a:ME):ME:=M.yP f a
def IY{f:ab->D->Option D}{a:ME}:yP f a=M.yP f a:=by unfold yP;rfl
@[irreducible] noncomputable def cb:MO:=M.cb 
def vE  : cb  = M.cb  := by unfold cb;rfl
@[irreducible] noncomputable def cW(m:ME):MO:=M.cW m
def zV{m:ME}:cW m=M.cW m:=by unfold cW;rfl
@[irreducible] noncomputable def ca(a:ME)(lo hi:MO):ME:=M.ca a lo hi
def vD{a:ME}{lo hi:MO}:ca a lo hi=M.ca a lo hi:=by unfold ca;rfl
@[irreducible] noncomputable def bn(f:List D->ab->Option (D×ab))(ms:MA):ME:=M.bn f ms
def fZ{f:List D->ab->Option (D×ab)}{ms:MA}:bn f ms=M.bn f ms:=by unfold bn;rfl
@[irreducible] noncomputable def ir(T:String)(m:ME):ME:=M.ir T m
def DY{T:String}{m:ME}:ir T m=M.ir T m:=by unfold ir;rfl
@[irreducible] noncomputable def ai(n:Nat)(f:List D->ab->Option (D×ab))(ms:MA):ME:=M.ai n f ms
def pI{n:Nat}{f:List D->ab->Option (D×ab)}{ms:MA}:ai n f ms=M.ai n f ms:=by unfold ai;rfl
@[irreducible] noncomputable def aR:MS:=M.aR 
def oM  : aR  = M.aR  := by unfold aR;rfl
@[irreducible] noncomputable def aA(a b:MS):MS:=M.aA a b
def DQ{a b:MS}:aA a b=M.aA a b:=by unfold aA;rfl
@[irreducible] noncomputable def aJ(m:ME):MS:=M.aJ m
def DR{m:ME}:aJ m=M.aJ m:=by unfold aJ;rfl
@[irreducible] noncomputable def fJ(m:ME):MS:=M.fJ m
def Ac{m:ME}:fJ m=M.fJ m:=by unfold fJ;rfl
@[irreducible] noncomputable def bu(t:MT)(a b:MS):MS:=M.bu t a b
def DZ{t:MT}{a b:MS}:bu t a b=M.bu t a b:=by unfold bu;rfl
@[irreducible] noncomputable def ah(i:Nat):MG:=M.ah i
def mK{i:Nat}:ah i=M.ah i:=by unfold ah;rfl
@[irreducible] noncomputable def aQ:ug:=M.aQ 
def AE  : aQ  = M.aQ  := by unfold aQ;rfl
@[irreducible] noncomputable def af(g:MG)(gs:ug):ug:=M.af g gs
def wf{g:MG}{gs:ug}:af g gs=M.af g gs:=by unfold af;rfl
@[irreducible] noncomputable def aY(n:Nat)(gs:ug):MG:=M.aY n gs
def lL{n:Nat}{gs:ug}:aY n gs=M.aY n gs:=by unfold aY;rfl
@[irreducible] noncomputable def dS(o i:ME):MG:=M.dS o i
def AD{o i:ME}:dS o i=M.dS o i:=by unfold dS;rfl
@[irreducible] noncomputable def aS(m:ME)(g:MG):MS:=M.aS m g
def ga{m:ME}{g:MG}:aS m g=M.aS m g:=by unfold aS;rfl
@[irreducible] noncomputable def bq(ms:MA):MA:=M.bq ms
def nO{ms:MA}:bq ms=M.bq ms:=by unfold bq;rfl
@[irreducible] noncomputable def cR(ms:MA):MA:=M.cR ms
def sE{ms:MA}:cR ms=M.cR ms:=by unfold cR;rfl
@[irreducible] noncomputable def gt(mi:MA)(g:MG)(body:MS):MS:=M.gt mi g body
def Ea{mi:MA}{g:MG}{body:MS}:gt mi g body=M.gt mi g body:=by unfold gt;rfl
@[irreducible] noncomputable def bE(mi:MA)(g:MG)(t:MT)(e:ME)(cap:List (Option Nat)):ME:=M.bE mi g t e cap
def sI{mi:MA}{g:MG}{t:MT}{e:ME}{cap:List (Option Nat)}:bE mi g t e cap=M.bE mi g t e cap:=by unfold bE;rfl
@[irreducible] noncomputable def cC(m:ME):MA:=M.cC m
def qY{m:ME}:cC m=M.cC m:=by unfold cC;rfl
@[irreducible] noncomputable def bx:MT:=M.bx 
def zU  : bx  = M.bx  := by unfold bx;rfl
@[irreducible] noncomputable def fH(f:MF)(o:ME)(ms:MA):ME:=M.fH f o ms
def zY{f:MF}{o:ME}{ms:MA}:fH f o ms=M.fH f o ms:=by unfold fH;rfl
@[irreducible] noncomputable def fI(ms:MA):MA:=M.fI ms
def Ab{ms:MA}:fI ms=M.fI ms:=by unfold fI;rfl
@[irreducible] noncomputable def cr(ms:MA):ME:=M.cr ms
def sG{ms:MA}:cr ms=M.cr ms:=by unfold cr;rfl
@[irreducible] noncomputable def jr(i j:Nat)(ms:MA):MS:=M.jr i j ms
def DU{i j:Nat}{ms:MA}:jr i j ms=M.jr i j ms:=by unfold jr;rfl
@[irreducible] noncomputable def jV(o:ME)(ms:MA):ME:=M.jV o ms
def Ed{o:ME}{ms:MA}:jV o ms=M.jV o ms:=by unfold jV;rfl
@[irreducible] noncomputable def gu(ms:List (ME×ME)):ME:=M.gu ms
def Ae{ms:List (ME×ME)}:gu ms=M.gu ms:=by unfold gu;rfl
@[irreducible] noncomputable def dM(ms:List (ME×ME)):ME:=M.dM ms
def vI{ms:List (ME×ME)}:dM ms=M.dM ms:=by unfold dM;rfl
@[irreducible] noncomputable def dJ(f:MF)(o:ME)(ms:MA):ME:=M.dJ f o ms
def vF{f:MF}{o:ME}{ms:MA}:dJ f o ms=M.dJ f o ms:=by unfold dJ;rfl
@[irreducible] noncomputable def eD(m:ME)(g:MG)(body:MS):MS:=M.eD m g body
def Aa{m:ME}{g:MG}{body:MS}:eD m g body=M.eD m g body:=by unfold eD;rfl
@[irreducible] noncomputable def dA(t:MT)(body:MS):MS:=M.dA t body
def vB{t:MT}{body:MS}:dA t body=M.dA t body:=by unfold dA;rfl
@[irreducible] noncomputable def cT(l:List (bC×D))(a:ME):ME:=M.cT l a
def vC{l:List (bC×D)}{a:ME}:cT l a=M.cT l a:=by unfold cT;rfl
@[irreducible] noncomputable def cA(mi:MA)(g:MG)(t:MT)(mi2:MA)(g2:MG)(t2:MT)(e:ME)(cap:List (Option Nat)):ME:=M.cA mi g t mi2 g2 t2 e cap
def pG{mi:MA}{g:MG}{t:MT}{mi2:MA}{g2:MG}{t2:MT}{e:ME}{cap:List (Option Nat)}:cA mi g t mi2 g2 t2 e cap=M.cA mi g t mi2 g2 t2 e cap:=by unfold cA;rfl
@[irreducible] noncomputable def fY(l:List (bC×Nat×(List D->ab->Option (D×ab))))(i:Nat)(mi:ME)(ms:MA):MS:=M.fY l i mi ms
def Ad{i:Nat}{mi:ME}{ms:MA}:fY l i mi ms=M.fY l i mi ms:=by unfold fY;rfl
def CB{f:List D->ab->Option (D×ab)}:ai 0 f ag=M.ai 0 f M.ag:=by rw [pI,yb]
def Cv{f:ab->D->D->Option D}{a b:ME}:au (ax f a b)=M.au (M.ax f a b):=by rw [sC,jE]
def Cw{f g:ab->D->D->Option D}{a b c:ME}:au (cH f g a b c)=M.au (M.cH f g a b c):=by rw [sC,pH]
def nQ{m:ME}{i:Nat}:aS m (ah i)=M.aS m (M.ah i):=by rw [ga,mK]
def Aj{mi:MA}{g:MG}{t:MT}{e:ME}{cap:List (Option Nat)}{i:Nat}:aS (bE mi g t e cap) (ah i)=M.aS (M.bE mi g t e cap) (M.ah i):=by rw [ga,mK,sI]
def yc{mi mi2:MA}{g g2:MG}{t t2:MT}{e:ME}{cap:List (Option Nat)}{i:Nat}:aS (cA mi g t mi2 g2 t2 e cap) (ah i)=M.aS (M.cA mi g t mi2 g2 t2 e cap) (M.ah i):=by rw [ga,mK,pG]
section
variable{X:Cx}{e:Expr}{es:List Expr}{s:Stmt}{ss:List Stmt}
def bR{m m':ME}(h:m=m')(d:DE X e m'):DE X e m:=by rw [h];exact d
def Be{m m':MT}(h:m=m')(d:DT X e m'):DT X e m:=by rw [h];exact d
def EK{m m':MT}(h:m=m')(d:DW X e m'):DW X e m:=by rw [h];exact d
def PQ{m m':MA}(h:m=m')(d:DA X es m'):DA X es m:=by rw [h];exact d
def PP{o:Option Expr}{m m':MO}(h:m=m')(d:DO X o m'):DO X o m:=by rw [h];exact d
def EL{m m':MG}(h:m=m')(d:DG X e m'):DG X e m:=by rw [h];exact d
def Lm{m m':ug}(h:m=m')(d:Ug X es m'):Ug X es m:=by rw [h];exact d
def Bf{tg:Expr}{m m':MA}(h:m=m')(d:DI X tg e m'):DI X tg e m:=by rw [h];exact d
def Ll{tg:Expr}{m m':MA}(h:m=m')(d:PV X tg e m'):PV X tg e m:=by rw [h];exact d
def TM{m m':MT}(h:m=m')(d:Hh X es m'):Hh X es m:=by rw [h];exact d
def iC{m m':MS}(h:m=m')(d:DS X s m'):DS X s m:=by rw [h];exact d
def De{m m':MS}(h:m=m')(d:uR X ss m'):uR X ss m:=by rw [h];exact d
end
inductive GI where
 | fn (n:Nat) (f:List D->ab->Option (D×ab))
 | con (d:D)
 | blt
 | tab (l:List (bC×D))
 | ftab (l:List (bC×Nat×(List D->ab->Option (D×ab))))
structure CI where
 N:List Str
 sc:Scope
 all:Bool
 gs:List (Str×GI)
 mt:List Nat
def GOk(X:Cx)(k:Nat)(x:Str):GI->Prop
 | .fn n f=>Fn X.prog X.w X.K X.mg X.base k x n f
 | .con d=>GC X.K X.mg x d
 | .blt=>X.mg x=U
 | .tab l=>ue X.w X.K X.mg x l
 | .ftab l=>FTab X.prog X.w X.K X.mg X.base k x l
structure iY(k:Nat)(c:CI)(X:Cx):Prop where
 N:X.N=c.N
 nd:c.N.Nodup
 sc:X.env.scope=c.sc
 fk:c.sc.kind=.function
 fn:c.all=true->∀ x,X.fn x=true
 calm:X.calm=true
 room:Room k X.A
 xe:X.xe=λ_ _=>False
 gs:∀ p∈c.gs,GOk X k p.1 p.2
def ip:ME:=λ_ _=>U
def uI:MT:=λ_ _=>U
def iG:MS:=λ_ _=>U
def nP:MA:=λ_ _=>U
def JH:MG:=λ_ _ _=>U
section
variable{X:Cx}{k:Nat}{c:CI}{e:Expr}{pos:Pos}
def bT:DE X e ip:=λ_ _ _ _ _ _ ⟨_,_,_,_,_,_,_,h,_⟩=>by cases h
def pk:DT X e uI:=λ_ _ _ _ _ _ ⟨_,_,_,_,_,_,_,h,_⟩=>by cases h
def jj{s:Stmt}:DS X s iG:=λ_ _ _ _ _ _ ⟨_,_,_,_,_,_,h,_⟩=>by cases h
def KG{s:Stmt}{g:MG}:DS X s (aS ip g):=by
 rw [show aS ip g=iG from by rw [ga];rfl]
 exact jj
def Tf{s:List Stmt}:uR X s iG:=λ_ _ _ _ _ _ ⟨_,_,_,_,_,_,h,_⟩=>by cases h
def da_no{es:List Expr}:DA X es nP:=λ_ _ _ _ _ _ _ ⟨_,_,_,_,_,_,_,h,_⟩=>by cases h
def qH{tg:Expr}:DI X tg e nP:=λ_ _ _ _ _ _ ⟨_,_,_,_,_,_,_,h,_⟩=>by cases h
def AZ:DG X e JH:=λ_ _ _ _ _ _ _ _ _ ⟨_,_,_,_,_,_,_,_,_,h,_⟩=>by cases h
def ng(x:Str):List Str->Option Nat
 | []=>U
 | y::r=>if x == y then Z 0 else (ng x r).map (· + 1)
theorem cO{x:Str}:∀ {l:List Str} {i:Nat},ng x l=Z i->l[i]?=Z x
 | y::r,i,h=>by
  unfold ng at h
  split at h
  ·rename_i e;cases h;simp at e;simp [e]
  ·cases q:ng x r with
   | none=>rw [q] at h;cases h
   | some j=>rw [q] at h;cases h;simpa using cO q
def eG(x:Str):Bool:=!(x == ("__debug__":Str)) && !(x == ("__classdict__":Str)) && !(x == ("__name__":Str))
def cJ{x:Str}(h:eG x=true):(x == ("__debug__":Str))=false:=by
 unfold eG at h;rw [Uk,Uk] at h;simpa only [Bool.not_eq_true'] using h.1.1
def zw{x:Str}(h:eG x=true):(x == ("__classdict__":Str))=false:=by
 unfold eG at h;rw [Uk,Uk] at h;simpa only [Bool.not_eq_true'] using h.1.2
def fV{x:Str}(h:eG x=true):x ≠ "__name__":=by
 unfold eG at h;rw [Uk,Uk] at h
 have:=h.2
 rw [Bool.not_eq_true'] at this
 intro z;rw [z] at this;simp at this
def Px(c:CI)(x:Str):Option GI:=match c.sc.names.lookup x with | some .globalImplicit=>if eG x then c.gs.lookup x else U | _=>U
def je{g:GI}{x:Str}(C:iY k c X)(h:Px c x=Z g):Gl X x/\eG x=true/\GOk X k x g:=by
 unfold Px at h
 split at h
 ·rename_i e
  split at h
  ·rename_i o
   refine⟨?_,o,C.gs _ (VH h)⟩
   show X.env.scope.names.lookup x=_
   rw [C.sc,e]
  ·cases h
 ·cases h
def CP(c:CI)(x:Str):ME:=match c.sc.names.lookup x with
 | some .globalImplicit=>match Px c x with | some (.con d)=>mC d | _=>ip
 | some .local=>match ng x c.N with | some i=>if eG x then ac i else ip | none=>ip
 | some .cell=>match ng x c.N with | some i=>if eG x then ac i else ip | none=>ip
 | some .free=>match ng x c.N with | some i=>if eG x then ac i else ip | none=>ip
 | _=>ip
def nY(C:iY k c X){x:Str}(hv:Ua c.sc x):DE X (.Name x pos) (match ng x c.N with | some i=>if eG x then ac i else ip | none=>ip):=by
 split
 ·rename_i i e
  split
  ·rename_i o
   exact bR DN <| M.Ts (by rw [C.N];exact cO e) (by rw [C.sc];exact hv) (cJ o) (zw o)
  ·exact bT
 ·exact bT
def Gh(C:iY k c X)(x:Str):DE X (.Name x pos) (CP c x):=by
 unfold CP
 split
 ·split
  ·rename_i d e
   obtain⟨g,o,G⟩:=je C e
   exact bR sJ <| M.Ou G g (cJ o)
  ·exact bT
 ·rename_i e;exact nY C (.inl e)
 ·rename_i e;exact nY C (.inr (.inl e))
 ·rename_i e;exact nY C (.inr (.inr e))
 ·exact bT
def EB:Const->ME
 | .int i=>mC (.int i)
 | .bool b=>mC (.bl b)
 | .none=>mC .non
 | .str x=>mC (.str x)
 | _=>ip
def CS(v:Const){j:Nat}:DE X (.Constant v j pos) (EB v):=by
 cases v <;> first | exact bR sJ <| M.TC | exact bR sJ <| M.de_bl | exact bR sJ <| M.Tw | exact bR sJ <| M.Tu | exact bT
def Kn(z:Bool)(op:Operator)(a b:ME):ME:=match op with
 | .Add=>ax bJ a b
 | .Sub=>ax qP a b
 | .Mult=>ax cS a b
 | .Mod=>ax la a b
 | .FloorDiv=>ax Gd a b
 | .Pow=>ax uJ a b
 | _=>ip
def Km{z:Bool}{op:Operator}{a b:Expr}{ma mb:ME}(ha:DE X a ma)(hb:DE X b mb):DE X (.BinOp a op b pos) (Kn z op ma mb):=by
 cases op <;> first | exact bT | skip
 ·exact bR jE <| M.wz MR ha hb
 ·exact bR jE <| M.wz Rf ha hb
 ·exact bR jE <| M.wz MQ ha hb
 ·exact bR jE <| M.wz Ri ha hb
 ·exact bR jE <| M.wz Rg ha hb
 ·exact bR jE <| M.wz Rj ha hb
def evUn(op:UnaryOp)(a:ME):ME:=match op with
 | .Not=>fX a
 | .USub=>yP SL a
 | _=>ip
def NQ{op:UnaryOp}{a:Expr}{ma:ME}(ha:DE X a ma):DE X (.UnaryOp op a pos) (evUn op ma):=by
 cases op <;> first | exact bT | skip
 ·exact bR zW <| M.Os ha
 ·exact bR IY <| M.de_un LK ha
def Dc:CmpOp->Option (ab->D->D->Option D)
 | .Eq=>Z cI
 | .NotEq=>Z eV
 | .Lt=>Z SO
 | .LtE=>Z SR
 | .Gt=>Z yR
 | .GtE=>Z fGe
 | .In=>Z nk
 | .NotIn=>Z JT
 | .Is=>Z AO
 | .IsNot=>Z dm
def mS{op:CmpOp}{f:ab->D->D->Option D}(r:Room k X.A)(h:Dc op=Z f):OpR X (compareOp op) (mY X.K f):=by
 cases op <;> cases h
 ·exact op_Eq r.units
 ·exact op_Ne r.units
 ·exact op_Lt
 ·exact op_Le
 ·exact op_Gt
 ·exact op_Ge
 ·exact op_Is
 ·exact IE
 ·exact op_In r.units
 ·exact ID r.units
def im:Expr->Bool
 | .Set _ _ _=>false
 | _=>true
def iE{op:CmpOp}(h:im e=true):behindInMarks op e=false:=by cases e <;> first | rfl | cases h
def fF(h:im e=true)(x:Value):foldedSetIterable e X.env x=pure x:=by cases e <;> first | rfl | cases h
def Kl(c:CI)(E:CI->Expr->ME)(a:Expr)(ops:List CmpOp)(bs:List Expr):ME:=match ops,bs with
 | [op],[b]=>if im b then (match Dc op with | some f=>ax f (E c a) (E c b) | none=>ip) else ip
 | [op,op'],[b,d]=>if im d then (match Dc op,Dc op' with | some f,Z g=>cH f g (E c a) (E c b) (E c d) | _,_=>ip) else ip
 | _,_=>ip
def CT(c:CI)(E:CI->Expr->ME)(a:Expr)(ops:List CmpOp)(bs:List Expr):MT:=match ops,bs with
 | [op],[b]=>if im b then (match Dc op with | some f=>au (ax f (E c a) (E c b)) | none=>uI) else uI
 | [op,op'],[b,d]=>if im d then (match Dc op,Dc op' with | some f,Z g=>au (cH f g (E c a) (E c b) (E c d)) | _,_=>uI) else uI
 | _,_=>uI
section
variable{E:CI->Expr->ME}{T:CI->Expr->MT}
def Kk(C:iY k c X)(hE:∀ e,DE X e (E c e)){a:Expr}{ops:List CmpOp}{bs:List Expr}:DE X (.Compare a ops bs pos) (Kl c E a ops bs):=by
 unfold Kl
 split
 ·split
  ·rename_i hm
   split
   ·rename_i f h;exact bR jE <| M.TF (mS C.room h) (hE _) (hE _) (iE hm)
   ·exact bT
  ·exact bT
 ·split
  ·rename_i hm
   split
   ·rename_i f g h1 h2;exact bR pH <| M.KZ (mS C.room h1) (mS C.room h2) (hE _) (hE _) (hE _) (iE hm)
   ·exact bT
  ·exact bT
 ·exact bT
def Gn(C:iY k c X)(hE:∀ e,DE X e (E c e)){a:Expr}{ops:List CmpOp}{bs:List Expr}:DT X (.Compare a ops bs pos) (CT c E a ops bs):=by
 unfold CT
 split
 ·split
  ·rename_i hm
   split
   ·rename_i f h;exact Be Cv <| M.Td (mS C.room h) (hE _) (hE _) (iE hm)
   ·exact pk
  ·exact pk
 ·split
  ·rename_i hm
   split
   ·rename_i f g h1 h2;exact Be Cw <| M.KA (mS C.room h1) (mS C.room h2) (hE _) (hE _) (hE _) (iE hm)
   ·exact pk
  ·exact pk
 ·exact pk
def AG(f:ME->ME->ME):List ME->ME
 | []=>ip
 | [m]=>m
 | m::r=>f m (AG f r)
def tH(f:MT->MT->MT):List MT->MT
 | []=>uI
 | [m]=>m
 | m::r=>f m (tH f r)
theorem wj{E:Expr->ME}(hE:∀ e,DE X e (E e)):∀ vs:List Expr,DE X (.BoolOp .And vs pos) (AG df (vs.map E))
 | []=>bT
 | [e]=>KS (hE e)
 | e::e'::r=>bR Ee <| M.Oz (hE e) (wj hE (e'::r))
theorem AF{E:Expr->ME}(hE:∀ e,DE X e (E e)):∀ vs:List Expr,DE X (.BoolOp .Or vs pos) (AG uj (vs.map E))
 | []=>bT
 | [e]=>KS (hE e)
 | e::e'::r=>bR Jb <| M.Tv (hE e) (AF hE (e'::r))
def Ga{E:Expr->MT}(hE:∀ e,DT X e (E e)):∀ vs:List Expr,DT X (.BoolOp .And vs pos) (tH cM (vs.map E))
 | []=>pk
 | [e]=>NY (ED (hE e))
 | e::e'::r=>NY (EK sK <| M.Kx (hE e) (foldT_andW hE (e'::r) (by simp)))
where foldT_andW {E:Expr->MT} (hE:∀ e,DT X e (E e)):∀ vs:List Expr,vs≠[]->DW X (.BoolOp .And vs pos) (tH cM (vs.map E))
 | [],h=>absurd rfl h
 | [e],_=>ED (hE e)
 | e::e'::r,_=>EK sK <| M.Kx (hE e) (foldT_andW hE (e'::r) (by simp))
def JK{E:Expr->MT}(hE:∀ e,DT X e (E e)):∀ vs:List Expr,DT X (.BoolOp .Or vs pos) (tH cX (vs.map E))
 | []=>pk
 | [e]=>NY (Kw (hE e))
 | e::e'::r=>NY (EK xZ <| M.PK (hE e) (foldT_orW hE (e'::r) (by simp)))
where foldT_orW {E:Expr->MT} (hE:∀ e,DT X e (E e)):∀ vs:List Expr,vs≠[]->DW X (.BoolOp .Or vs pos) (tH cX (vs.map E))
 | [],h=>absurd rfl h
 | [e],_=>Kw (hE e)
 | e::e'::r,_=>EK xZ <| M.PK (hE e) (foldT_orW hE (e'::r) (by simp))
def bZ:Expr->Bool
 | .Starred _ _=>false
 | _=>true
def bK{es:List Expr}(h:bZ e=true):starEach (e::es) X.env=(false,eval e X.env)::starEach es X.env:=by cases e <;> first | rfl | cases h
theorem gx:∀ {es:List Expr},es.all bZ=true->(backTo pos (starEach es X.env)).any (·.1)=false
 | [],_=>rfl
 | e::es,h=>by
  rw [Vb,Uk] at h
  rw [bK h.1]
  show (false||(backTo pos (starEach es X.env)).any (·.1))=false
  rw [gx h.2];rfl
def wp(E:Expr->ME):List Expr->MA
 | []=>ag
 | e::r=>if bZ e then aa (E e) (wp E r) else nP
theorem eJ{E:Expr->ME}(hE:∀ e,DE X e (E e)):∀ es:List Expr,DA X es (wp E es)
 | []=>PQ yb <| M.TH
 | e::r=>by
  unfold wp
  split
  ·rename_i h;exact PQ Af <| M.OB (hE e) (eJ hE r) (bK h)
  ·exact da_no
def evO(E:Expr->ME):Option Expr->MO
 | none=>cb
 | some e=>cW (E e)
def Kg{E:Expr->ME}(hE:∀ e,DE X e (E e)):∀ o:Option Expr,DO X o (evO E o)
 | none=>PP vE <| M.Oj
 | some e=>PP zV <| M.Oi (hE e)
def yW(c:CI):Expr->Option (List (bC×D))
 | .Name x _=>match Px c x with | some (.tab l)=>Z l | _=>U
 | _=>U
def Bu{a:Expr}{l:List (bC×D)}(C:iY k c X)(h:yW c a=Z l):∃ x p,a=.Name x p/\Gl X x/\eG x=true/\ue X.w X.K X.mg x l:=by
 unfold yW at h
 split at h
 ·split at h
  ·rename_i e
   cases h
   obtain⟨g,o,G⟩:=je C e
   exact⟨_,_,rfl,g,o,G⟩
  ·cases h
 ·cases h
def PD(c:CI)(E:Expr->ME)(a i:Expr):ME:=match i with
 | .Slice lo hi st _=>match st with | none=>ca (E a) (evO E lo) (evO E hi) | some st=>(match lo,hi with | none,U=>ip | _,_=>ip)
 | i=>match yW c a with | some l=>cT l (E i) | none=>ax aE (E a) (E i)
def Gg(C:iY k c X){E:Expr->ME}(hE:∀ e,DE X e (E e))(a i:Expr)(hs:mV i:=by intro _ _;rfl):DE X (.Subscript a i pos) (match yW c a with | some l=>cT l (E i) | none=>ax aE (E a) (E i)):=by
 cases ht:yW c a with
 | none=>exact bR jE <| M.Tz (by have:=C.room.units;omega) (hE a) (hE _) hs
 | some l=>
  obtain⟨x,p,rfl,g,o,G⟩:=Bu C ht
  exact bR vC (M.KP G g (cJ o) (hE _) hs)
def Kd(C:iY k c X){E:Expr->ME}(hE:∀ e,DE X e (E e))(a i:Expr):DE X (.Subscript a i pos) (PD c E a i):=by
 cases i with
 | Slice lo hi st p=>
  cases st with
  | none=>exact bR vD <| M.KQ (hE a) (Kg hE lo) (Kg hE hi)
  | some st=>
   cases lo with
   | none=>
    cases hi with
    | none=>exact bT
    | some _=>exact bT
   | some _=>exact bT
 | _=>exact Gg C hE a _
def sg:Expr->Option Str
 | .Name x _=>Z x
 | _=>U
def lB{x:Str}(h:sg e=Z x):∃ p,e=.Name x p:=by cases e <;> cases h;exact⟨_,rfl⟩
def pX:Expr->Option (Str×List Expr)
 | .Call f es [] _=>(sg f).map λx=>(x,es)
 | _=>U
def jz{x:Str}{es:List Expr}(h:pX e=Z (x,es)):∃ p p2,e=.Call (.Name x p) es [] p2:=by
 cases e with
 | Call f es' ks p2=>
  cases ks with
  | nil=>
   obtain⟨y,h1,h2⟩:=WK.mp h
   cases h2
   obtain⟨p,rfl⟩:=lB h1
   exact⟨p,p2,rfl⟩
  | cons _ _=>cases h
 | _=>cases h
def lI(c:CI)(x:Str):Bool:=match Px c x with | some .blt=>true | _=>false
def jY{x:Str}(C:iY k c X)(h:lI c x=true):X.mg x=U/\Gl X x/\eG x=true:=by
 unfold lI at h
 split at h
 ·rename_i e;obtain⟨a,b,d⟩:=je C e;exact⟨d,a,b⟩
 ·cases h
def BC(c:CI)(es:List Expr):Option Expr:=match es with
 | [e1]=>match pX e1 with
  | some (y,[a])=>if y == "set" && lI c y&&bZ a then Z a else U
  | _=>U
 | _=>U
def zc{es:List Expr}{a:Expr}(h:BC c es=Z a):∃ p p2,es=[.Call (.Name "set" p) [a] [] p2]/\lI c "set" = true/\bZ a=true:=by
 unfold BC at h
 split at h
 ·split at h
  ·rename_i hc
   split at h
   ·rename_i hb
    cases h
    rw [Uk,Uk] at hb
    obtain⟨p,p2,rfl⟩:=jz hc
    have z:=hb.1.1
    rw [beq_iff_eq] at z;subst z
    exact⟨p,p2,rfl,hb.1.2,hb.2⟩
   ·cases h
  ·cases h
 ·cases h
def rQ(c:CI)(es:List Expr):Option Expr:=match es with
 | [e1]=>match pX e1 with
  | some (y,[a])=>if y == "range" && lI c y&&bZ a then Z a else U
  | _=>U
 | _=>U
def uv{es:List Expr}{a:Expr}(h:rQ c es=Z a):∃ p p2,es=[.Call (.Name "range" p) [a] [] p2]/\lI c "range" = true/\bZ a=true:=by
 unfold rQ at h
 split at h
 ·split at h
  ·rename_i hc
   split at h
   ·rename_i hb
    cases h
    rw [Uk,Uk] at hb
    obtain⟨p,p2,rfl⟩:=jz hc
    have z:=hb.1.1
    rw [beq_iff_eq] at z;subst z
    exact⟨p,p2,rfl,hb.1.2,hb.2⟩
   ·cases h
  ·cases h
 ·cases h
def TN(z:Bool)(x:Str):Option (List D->ab->Option (D×ab)):=
 if x == "len" then Z (aT eI) else if x == "int" then Z (aT wm) else if x == "max" then Z (aT ph) else if x == "min" then Z (aT AM)
 else if x == "list" then Z (aT (dc .lst)) else if x == "tuple" then Z (aT (dc .tup)) else if x == "all" then Z (aT uK) else if x == "any" then Z (aT AR) else U
set_option maxHeartbeats 800000 in
def OG{zz:Bool}{x:Str}{f:List D->ab->Option (D×ab)}{es:List Expr}{ms:MA}{p:Pos}(C:iY k c X)(h:TN zz x=Z f)(hm:X.mg x=U)(hg:Gl X x)(o:eG x=true)(hs:(e::es).all bZ=true)(ha:DA X (e::es) ms) :
  DE X (.Call (.Name x p) (e::es) [] pos) (bn f ms):=by
 rw [Vb,Uk] at hs
 have q1:=bK (X:=X) (es:=es) hs.1
 have q2:=gx (X:=X) (pos:=pos) hs.2
 unfold TN at h
 split at h
 ·rename_i z;cases h;rw [beq_iff_eq] at z;subst z;exact bR fZ <| M.lT Ln hm boot_len ha hg (fV o) (cJ o) q1 q2
 split at h
 ·rename_i z;cases h;rw [beq_iff_eq] at z;subst z;exact bR fZ <| M.pU Lo hm boot_int ha hg (fV o) (cJ o) q1 q2
 split at h
 ·rename_i z;cases h;rw [beq_iff_eq] at z;subst z;exact bR fZ <| M.lT (GT C.calm) hm boot_max ha hg (fV o) (cJ o) q1 q2
 split at h
 ·rename_i z;cases h;rw [beq_iff_eq] at z;subst z;exact bR fZ <| M.lT (GS C.calm) hm boot_min ha hg (fV o) (cJ o) q1 q2
 split at h
 ·rename_i z;cases h;rw [beq_iff_eq] at z;subst z;exact bR fZ <| M.pU GV hm boot_list ha hg (fV o) (cJ o) q1 q2
 split at h
 ·rename_i z;cases h;rw [beq_iff_eq] at z;subst z;exact bR fZ <| M.pU Dh hm boot_tuple ha hg (fV o) (cJ o) q1 q2
 split at h
 ·rename_i z;cases h;rw [beq_iff_eq] at z;subst z;exact bR fZ <| M.lT (Lq C.calm) hm boot_all ha hg (fV o) (cJ o) q1 q2
 split at h
 ·rename_i z;cases h;rw [beq_iff_eq] at z;subst z;exact bR fZ <| M.lT (Lp C.calm) hm boot_any ha hg (fV o) (cJ o) q1 q2
 cases h
def Qj(x:Str):Option String:=if x == "int" then Z "int" else if x == "bool" then Z "bool" else if x == "str" then Z "str" else if x == "tuple" then Z "tuple" else if x == "list" then Z "list" else if x == "dict" then Z "dict" else U
def Ds{x:Str}{T:String}(h:Qj x=Z T):bootBuiltins x=Z (.type T)/\(T = "int"\/T = "bool"\/T = "str"\/T = "tuple"\/T = "list"\/T = "dict"):=by
 unfold Qj at h
 split at h
 ·rename_i z;cases h;rw [beq_iff_eq] at z;subst z;exact⟨boot_int,by simp⟩
 split at h
 ·rename_i z;cases h;rw [beq_iff_eq] at z;subst z;exact⟨boot_bool,by simp⟩
 split at h
 ·rename_i z;cases h;rw [beq_iff_eq] at z;subst z;exact⟨boot_str,by simp⟩
 split at h
 ·rename_i z;cases h;rw [beq_iff_eq] at z;subst z;exact⟨boot_tuple,by simp⟩
 split at h
 ·rename_i z;cases h;rw [beq_iff_eq] at z;subst z;exact⟨boot_list,by simp⟩
 split at h
 ·rename_i z;cases h;rw [beq_iff_eq] at z;subst z;exact⟨boot_dict,by simp⟩
 cases h
def PH(c:CI)(E:Expr->ME):List Expr->ME
 | [a,t]=>match sg t with
  | some y=>match Px c y,Qj y with | some .blt,Z T=>if bZ a then ir T (E a) else ip | _,_=>ip
  | none=>ip
 | _=>ip
def yA(c:CI)(E:Expr->ME)(x:Str)(es:List Expr):ME:=match Px c x with
 | some (.fn n f)=>match es with
  | []=>if n == 0 then ai 0 f ag else ip
  | e::r=>if (e::r).all bZ then ai n f (wp E (e::r)) else ip
 | some .blt=>if x == "isinstance" then PH c E es else match (if x == "len" then BC c es else U) with
  | some a=>cr (wp E [a])
  | none=>match (if x == "list" then rQ c es else U) with
  | some a=>ip
  | none=>match TN (c.mt.contains 400000) x,es with
   | some f,e::r=>if (e::r).all bZ then bn f (wp E (e::r)) else ip
   | _,_=>ip
 | _=>ip
def Go(C:iY k c X){E:Expr->ME}(hE:∀ e,DE X e (E e)){x:Str}{es:List Expr}{p:Pos}:DE X (.Call (.Name x p) es [] pos) (yA c E x es):=by
 unfold yA
 split
 ·rename_i n f hg
  obtain⟨g,o,G⟩:=je C hg
  split
  ·split
   ·rename_i hn
    have:n=0:=by simpa using hn
    subst this
    exact bR CB <| M.La G C.room g (cJ o)
   ·exact bT
  ·split
   ·rename_i hs
    have hs':=hs
    rw [Vb,Uk] at hs
    exact bR pI <| M.Oy G C.room (eJ hE _) g (cJ o) (bK hs.1) (gx hs.2)
   ·exact bT
 ·rename_i hg
  obtain⟨g,o,G⟩:=je C hg
  split
  ·rename_i z
   rw [beq_iff_eq] at z;subst z
   unfold PH
   split
   ·split
    ·rename_i y hy
     obtain⟨p2,rfl⟩:=lB hy
     split
     ·rename_i T h1 h2
      obtain⟨g',o',G'⟩:=je C h1
      split
      ·rename_i hs
       exact bR DY <| M.GB G G' (Ds h2).1 (hE _) (Ds h2).2 g g' (fV o') (cJ o') (bK hs) rfl rfl
      ·exact bT
     ·exact bT
    ·exact bT
   ·exact bT
  ·split
   ·rename_i a ha
    split at ha
    ·rename_i z
     rw [beq_iff_eq] at z;subst z
     obtain⟨p3,p4,rfl,hb,hs⟩:=zc ha
     obtain⟨m2,g2,o2⟩:=jY C hb
     exact bR sG (M.GA C.calm G m2 g g2 (eJ hE _) (bK hs))
    ·cases ha
   ·split
    ·rename_i a ha
     split at ha
     ·rename_i z
      rw [beq_iff_eq] at z;subst z
      obtain⟨p3,p4,rfl,hb,hs⟩:=uv ha
      obtain⟨m2,g2,o2⟩:=jY C hb
      exact bT
     ·cases ha
    ·split
     ·rename_i _ f e r hf
      split
      ·rename_i hs
       exact OG C (by assumption) G g o hs (eJ hE _)
      ·exact bT
     ·exact bT
 ·exact bT
def Dj:Expr->Option (Expr×Str×Pos)
 | .Attribute o nm ap=>Z (o,nm,ap)
 | _=>U
def Bk{o:Expr}{nm:Str}{ap:Pos}(h:Dj e=Z (o,nm,ap)):e=.Attribute o nm ap:=by cases e <;> cases h;rfl
def IP(x:Str):Option MF:=if x == "append" then Z jy else if x == "count" then Z mN else if x == "index" then Z lN else U
def IN{x:Str}{f:MF}(C:iY k c X)(h:IP x=Z f):∃ id,Slot "list" x id/\typeOf (.builtin id)=pure (.type "method_descriptor")/\MtR X id (Pd X.K f):=by
 unfold IP at h
 split at h
 ·rename_i z;cases h;rw [beq_iff_eq] at z;subst z;exact⟨_,Yw,F.type_list_append,Fy⟩
 split at h
 ·rename_i z;cases h;rw [beq_iff_eq] at z;subst z;exact⟨_,Xe,F.type_list_count,zD C.room.units⟩
 split at h
 ·rename_i z;cases h;rw [beq_iff_eq] at z;subst z;exact⟨_,F.slot_list_index,F.type_list_index,IL C.room.units⟩
 cases h
def IQ(x:Str):Option MF:=U
def Fz{x:Str}{f:MF}(C:iY k c X)(h:IQ x=Z f):∃ id,Slot "dict" x id/\typeOf (.builtin id)=pure (.type "method_descriptor")/\MtR X id (Pd X.K f):=by cases h
theorem zb:∀ {es:List Expr},es.all bZ=true->(backTo pos (starEach es X.env)).all (λx=>!x.1)=true
 | [],_=>rfl
 | e::es,h=>by
  rw [Vb,Uk] at h
  rw [bK h.1]
  show (true&&(backTo pos (starEach es X.env)).all (λx=>!x.1))=true
  rw [zb h.2];rfl
def QJ(o:Expr):Bool:=match o with | .Call _ _ _ _=>false | _=>true
def yz(z:Bool)(E:Expr->ME)(o:Expr)(nm:Str)(ap cp:Pos)(es:List Expr):ME:=match QJ o,es with
 | true,e::r=>if (e::r).all bZ&&(decide ((e::r).length<30)&&ap.endLine == cp.line) then
   (if nm == "count" then jV (E o) (wp E (e::r)) else match IQ nm with | some f=>dJ f (E o) (wp E (e::r)) | none=>match IP nm with | some f=>fH f (E o) (wp E (e::r)) | none=>ip) else ip
 | _,_=>ip
def Gi{z:Bool}(C:iY k c X){E:Expr->ME}(hE:∀ e,DE X e (E e)){o:Expr}{nm:Str}{ap:Pos}{es:List Expr}:DE X (.Call (.Attribute o nm ap) es [] pos) (yz z E o nm ap pos es):=by
 unfold yz
 split
 ·rename_i e r hx
  split
  ·rename_i h
   rw [Uk,Uk] at h
   have hs:=h.1
   rw [Vb,Uk] at hs
   have few:((backTo pos (starEach (e::r) X.env)).all (λx=>!x.1)&&(backToKw pos (keywordEach [] X.env)).all (λx=>x.1.isSome)&&decide ((e::r).length+([]:List Keyword).length+(if ([]:List Keyword).isEmpty then 0 else 1)<30))=true:=by
    rw [zb h.1]
    show (true&&decide ((e::r).length+0+0<30))=true
    exact h.2.1
   split
   ·rename_i hc
    rw [beq_iff_eq] at hc;subst hc
    exact bR Ed (M.TD C.room.units (hE _) (eJ hE _) (ub hx) few h.2.2 (bK hs.1) (gx hs.2))
   ·split
    ·rename_i f hf
     obtain⟨id,h1,h2,h3⟩:=Fz C hf
     exact bR vF (M.KU h1 h2 h3 (hE _) (eJ hE _) (ub hx) few h.2.2 (bK hs.1) (gx hs.2))
    ·split
     ·rename_i f hf
      obtain⟨id,h1,h2,h3⟩:=IN C hf
      exact bR zY (M.EH h1 h2 h3 (hE _) (eJ hE _) (ub hx) few h.2.2 (bK hs.1) (gx hs.2))
     ·exact bT
  ·exact bT
 ·exact bT
def zx:Expr->Bool
 | .Slice _ _ _ _=>false
 | _=>true
def Gk(G:Expr->MG):List Expr->ug
 | []=>aQ
 | e::r=>af (if bZ e then G e else JH) (Gk G r)
def qR(c:CI)(x:Str):MG:=match c.sc.names.lookup x,ng x c.N with
 | some .local,Z i=>ah i
 | some .cell,Z i=>if c.all then ah i else JH
 | _,_=>JH
def NU(c:CI)(E:Expr->ME):Expr->MG
 | .Name x _=>qR c x
 | .Subscript o i _=>if zx i then dS (E o) (E i) else JH
 | _=>JH
def Ki(c:CI)(E:Expr->ME):Expr->MG
 | .Tuple es _ _=>if es.all bZ then aY es.length (Gk (λe=>match e with | .Tuple es _ _=>if es.all bZ then aY es.length (Gk (NU c E) es) else JH | e=>NU c E e) es) else JH
 | e=>NU c E e
def NS(C:iY k c X)(x:Str):DG X (.Name x pos) (qR c x):=by
 unfold qR
 split
 ·rename_i h1 h2
  exact EL mK <| M.EF (by rw [C.N];exact C.nd) (by rw [C.N];exact cO h2) (by rw [C.sc];exact .inl h1) (.inr (by rw [C.sc];exact h1))
 ·rename_i h1 h2
  split
  ·rename_i ha
   exact EL mK <| M.EF (by rw [C.N];exact C.nd) (by rw [C.N];exact cO h2) (by rw [C.sc];exact .inr h1) (.inl (C.fn ha x))
  ·exact AZ
 ·exact AZ
def NT(C:iY k c X){E:Expr->ME}(hE:∀ e,DE X e (E e))(e:Expr):DG X e (NU c E e):=by
 cases e with
 | Name x p=>exact NS C x
 | Subscript o i p=>
  show DG X _ (if zx i then dS (E o) (E i) else JH)
  split
  ·rename_i h
   refine EL AD (M.Tp (hE o) (hE i) ?_)
   cases i <;> first | (intro _;rfl) | cases h
  ·exact AZ
 | _=>exact AZ
def pY{es:List Expr}(h:bZ e=true):assignEach (e::es) X.env=(false,assign e X.env)::assignEach es X.env:=by cases e <;> first | rfl | cases h
theorem yH:∀ {es:List Expr},es.all bZ=true->(assignEach es X.env).length=es.length/\(assignEach es X.env).findIdx? (·.1)=U
 | [],_=>⟨rfl,rfl⟩
 | e::es,h=>by
  rw [Vb,Uk] at h
  rw [pY h.1]
  obtain⟨a,b⟩:=yH h.2
  exact⟨by simp [a],by simp [VL,b]⟩
theorem EA{G:Expr->MG}(hG:∀ e,DG X e (G e)):∀ es:List Expr,es.all bZ=true->Ug X es (Gk G es)
 | [],_=>Lm AE <| M.On
 | e::r,h=>by
  rw [Vb,Uk] at h
  unfold Gk
  rw [if_pos h.1]
  exact Lm wf <| M.KN (hG e) (EA hG r h.2) (by rw [pY h.1];rfl)
def Ez(C:iY k c X){G:Expr->MG}(hG:∀ e,DG X e (G e))(es:List Expr)(j:Nat):DG X (.Tuple es j pos) (if es.all bZ then aY es.length (Gk G es) else JH):=by
 split
 ·rename_i h
  exact EL lL <| M.To C.calm (EA hG es h) (yH h).1 (yH h).2
 ·exact AZ
def jJ(C:iY k c X){E:Expr->ME}(hE:∀ e,DE X e (E e))(e:Expr):DG X e (Ki c E e):=by
 have h1:=NT C hE
 cases e with
 | Tuple es j p=>
  refine Ez C (λe=>?_) es j
  cases e with
  | Tuple es j p=>exact Ez C h1 es j
  | _=>exact h1 _
 | _=>exact h1 _
def evI(c:CI)(E:Expr->ME)(tg it:Expr):MA:=match pX it with
 | some (x,es)=>if x == "enumerate" && lI c x then (match tg,es with
   | .Tuple _ _ _,[a]=>if bZ a then fI (wp E [a]) else nP
   | _,_=>nP) else if x == "zip" && lI c x then (match tg,es with
   | .Tuple _ _ tp,[a,b]=>if bZ a&&bZ b then (nP) else nP
   | _,_=>nP) else if x == "range" && lI c x then (match es with
   | [a]=>if bZ a then bq (wp E [a]) else nP
   | [a,b]=>if bZ a&&bZ b then cR (wp E [a,b]) else nP
   | _=>nP) else cC (E it)
 | none=>cC (E it)
def tS(C:iY k c X){E:Expr->ME}(hE:∀ e,DE X e (E e)){tg it:Expr}:DI X tg it (evI c E tg it):=by
 unfold evI
 split
 ·rename_i x es he
  obtain⟨p,p2,rfl⟩:=jz he
  split
  ·rename_i hx
   rw [Uk] at hx
   obtain⟨m,g,o⟩:=jY C hx.2
   have z:=hx.1
   rw [beq_iff_eq] at z;subst z
   split
   ·split
    ·rename_i h
     exact Bf Ab (M.Om m (eJ hE _) g (bK h))
    ·exact qH
   ·exact qH
  split
  ·rename_i hx
   rw [Uk] at hx
   obtain⟨m,g,o⟩:=jY C hx.2
   have z:=hx.1
   rw [beq_iff_eq] at z;subst z
   split
   ·split
    ·rename_i h
     rw [Uk] at h
     exact qH
    ·exact qH
   ·exact qH
  split
  ·rename_i hx
   rw [Uk] at hx
   obtain⟨m,g,o⟩:=jY C hx.2
   have z:=hx.1
   rw [beq_iff_eq] at z;subst z
   split
   ·split
    ·rename_i h
     exact Bf nO <| M.Gx m (eJ hE _) g (bK h)
    ·exact qH
   ·split
    ·rename_i h
     rw [Uk] at h
     exact Bf sE <| M.Gw m (eJ hE _) g (by rw [bK h.1,bK h.2];rfl) (bK h.2)
    ·exact qH
   ·exact qH
  ·exact Bf qY <| M.Da (hE _)
 ·exact Bf qY <| M.Da (hE _)
def Pu(c:CI)(it:Expr):Bool:=match pX it with | some (x,_)=>(x == "enumerate" || x == "zip" || x == "range")&&lI c x | none=>false
def lv(scope sc:Scope):Scope:={ scope with names:=scope.names.map λx=>match x with | (n,k)=>if (k == NameKind.free&&sc.kind == .function&&sc.names.lookup n == Z .cell)=true then (n,.cell) else (n,k) }
def Pb(scope:Scope)(env:Env):relabel scope env=lv scope env.scope:=rfl
def Bj(scope:Scope):List Str:=(scope.names.filter λx=>x.2 == .local && !(x.1 == (".0":Str))).map (·.1)++(scope.names.filter λx=>x.2 == .free).map (·.1)
def ua(c:CI)(scope:Scope):List (Option Nat):=(scope.names.filter λx=>x.2 == .local && !(x.1 == (".0":Str))).map (λ_=>U)++(scope.names.filter λx=>x.2 == .free).map (λx=>ng x.1 c.N)
def OH(c:CI)(scope:Scope):Bool:=
 scope.kind == .function&&(scope.names.all λx=>x.2 != .cell)&&(scope.names.all λx=>x.2 != .local||scope.names.lookup x.1 == Z .local)
 && (scope.names.all λx=>x.2 != .free||c.sc.names.lookup x.1 == Z .cell||c.sc.names.lookup x.1 == Z .free)
 && uN c.N (Bj scope) (λy=>c.sc.names.lookup y) (λy=>(lv scope c.sc).names.lookup y) (ua c scope) (Bj scope)&&decide (Bj scope).Nodup
def pp(c:CI)(scope:Scope):CI:=⟨Bj scope,lv scope c.sc,false,c.gs,c.mt⟩
def rp{scope:Scope}(C:iY k c X)(h:OH c scope=true):BlockOk X (Bj scope) scope (ua c scope)/\∀ A s H fp,iY k (pp c scope) (kD X (Bj scope) scope A s H fp):=by
 unfold OH at h
 simp only [Uk,Vi,beq_iff_eq] at h
 obtain⟨⟨⟨⟨⟨h1,h2⟩,h3⟩,h4⟩,h5⟩,h6⟩:=h
 refine⟨blk h6 h1 h2 h3 ?_ ?_,λA s H fp=>⟨rfl,h6,?_,h1,(λz=>nomatch z),C.calm,C.room,rfl,C.gs⟩⟩
 ·show (scope.names.all λx=>x.2 != .free||X.env.scope.names.lookup x.1 == Z .cell||X.env.scope.names.lookup x.1 == Z .free)=true
  rw [C.sc];exact h4
 ·show uN X.N (Bj scope) (λy=>X.env.scope.names.lookup y) (λy=>(lv scope X.env.scope).names.lookup y) (ua c scope) (Bj scope)=true
  rw [C.sc,C.N];exact h5
 ·show lv scope X.env.scope=_
  rw [C.sc];rfl
def NR(T:Expr->MT):List Expr->MT
 | []=>bx
 | [e]=>T e
 | _=>uI
def mP{T:Expr->MT}(hT:∀ e,DT X e (T e)):∀ es:List Expr,Hh X es (NR T es)
 | []=>TM zU <| M.Ky
 | [e]=>NW (hT e)
 | _::_::_=>λ_ _ _ _ _ _ ⟨_,_,_,_,_,_,_,h,_⟩=>by cases h
def Ta(c:CI)(E:Expr->ME)(it:Expr):MA:=match pX it with
 | some (x,es)=>if x == "range" && lI c x then (match es with
   | [a]=>if bZ a then bq (wp E [a]) else nP
   | _=>nP) else nP
 | none=>cC (E it)
def Ey(C:iY k c X){E:Expr->ME}(hE:∀ e,DE X e (E e)){tg it:Expr}:PV X tg it (Ta c E it):=by
 have no:PV X tg it nP:=λ_ _ _ _ _ _ h=>by obtain⟨_,_,_,_,_,_,_,h,_⟩:=h;cases h
 unfold Ta
 split
 ·rename_i x es he
  obtain⟨p,p2,rfl⟩:=jz he
  split
  ·rename_i hx
   rw [Uk] at hx
   obtain⟨m,g,o⟩:=jY C hx.2
   have z:=hx.1
   rw [beq_iff_eq] at z;subst z
   split
   ·split
    ·rename_i h
     exact Ll nO (M.CZ m (eJ hE _) g (bK h))
    ·exact no
   ·exact no
  ·exact no
 ·exact Ll qY (M.Ol (hE _))
def oE{e:Expr}(h:im e=true)(env:Env)(x:Value):foldedSetIterable e env x=pure x:=by cases e <;> first | rfl | cases h
def lP(c:CI)(E:CI->Expr->ME)(T:CI->Expr->MT)(elt:Expr)(gens:List Comprehension)(scope:Scope)(line:Nat):ME:=match gens with
 | [⟨tg,it,ifs,a⟩]=>if a == 0&&im it&&OH c scope then if c.mt.contains (line+100000) then ip else bE (evI c (E c) tg it) (Ki (pp c scope) (E (pp c scope)) tg) (NR (T (pp c scope)) ifs) (E (pp c scope) elt) (ua c scope) else ip
 | [⟨tg,it,ifs,a⟩,⟨tg2,it2,ifs2,a2⟩]=>if a == 0&&a2 == 0&&im it&&im it2&&OH c scope then cA (evI c (E c) tg it) (Ki (pp c scope) (E (pp c scope)) tg) (NR (T (pp c scope)) ifs) (Ta (pp c scope) (E (pp c scope)) it2) (Ki (pp c scope) (E (pp c scope)) tg2) (NR (T (pp c scope)) ifs2) (E (pp c scope) elt) (ua c scope) else ip
 | _=>ip
def wn(C:iY k c X)(hE:∀ c X,iY k c X->∀ e,DE X e (E c e))(hT:∀ c X,iY k c X->∀ e,DT X e (T c e)){elt:Expr}{gens:List Comprehension}{scope:Scope}{line:Nat}:DE X (.ListComp elt gens scope pos) (lP c E T elt gens scope line):=by
 unfold lP
 split
 ·rename_i tg it ifs a
  split
  ·rename_i h
   simp only [Uk,beq_iff_eq] at h
   obtain⟨⟨h0,h1⟩,h2⟩:=h
   subst h0
   obtain⟨B,C'⟩:=rp C h2
   split
   ·exact bT
   ·exact bR sI <| M.Ox C.calm B (tS C (hE _ _ C)) (λA s H fp=>jJ (C' A s H fp) (hE _ _ (C' A s H fp)) tg) (λA s H fp=>mP (hT _ _ (C' A s H fp)) ifs) (λA s H fp=>hE _ _ (C' A s H fp) elt) (fF h1)
  ·exact bT
 ·rename_i tg it ifs a tg2 it2 ifs2 a2
  split
  ·rename_i h
   simp only [Uk,beq_iff_eq] at h
   obtain⟨⟨⟨⟨h0,h0'⟩,h1⟩,h1'⟩,h2⟩:=h
   subst h0 h0'
   obtain⟨B,C'⟩:=rp C h2
   exact bR pG <| M.KY C.calm B (tS C (hE _ _ C)) (λA s H fp=>jJ (C' A s H fp) (hE _ _ (C' A s H fp)) tg) (λA s H fp=>mP (hT _ _ (C' A s H fp)) ifs) (λA s H fp=>Ey (C' A s H fp) (hE _ _ (C' A s H fp))) (λA s H fp=>jJ (C' A s H fp) (hE _ _ (C' A s H fp)) tg2) (λA s H fp=>mP (hT _ _ (C' A s H fp)) ifs2) (λA s H fp=>hE _ _ (C' A s H fp) elt) (fF h1) (oE h1')
  ·exact bT
 ·exact bT
def SZ(E:Expr->ME):List (Option Expr)->List Expr->Option (List (ME×ME))
 | [],[]=>Z []
 | some k::ks,v::vs=>(SZ E ks vs).bind λr=>Z ((E k,E v)::r)
 | _,_=>U
theorem Ew{E:Expr->ME}(hE:∀ e,DE X e (E e)):∀ {ks:List (Option Expr)} {vs:List Expr} {ms:List (ME×ME)},SZ E ks vs=Z ms->DPs X pos ks vs ms/\ks.all (·.isSome)=true/\ks.length=vs.length
 | [],[],ms,h=>by cases h;exact⟨Og,rfl,rfl⟩
 | some k::ks,v::vs,ms,h=>by
  obtain⟨r,h1,h2⟩:=Ui.mp h
  cases h2
  obtain⟨a,b,d⟩:=Ew hE h1
  exact⟨KJ (hE k) (hE v) a,by rw [Vb,b];rfl,by rw [UE,UE,d]⟩
 | [],_::_,_,h=>by cases h
 | none::_,_,_,h=>by cases h
 | some _::_,[],_,h=>by cases h
def CQ(c:CI)(E:Expr->ME)(ks:List (Option Expr))(vs:List Expr)(line:Nat):ME:=match ks with
 | []=>if vs.isEmpty && !c.mt.contains line then mC (.dct [] []) else ip
 | k::r=>if (k::r).length<=15 then (match SZ E (k::r) vs with | some ms=>if c.mt.contains line then dM ms else gu ms | none=>ip) else ip
def Gm{E:Expr->ME}(hE:∀ e,DE X e (E e))(ks:List (Option Expr))(vs:List Expr)(line:Nat):DE X (.Dict ks vs pos) (CQ c E ks vs line):=by
 unfold CQ
 split
 ·split
  ·rename_i h
   rw [Uk] at h
   have:vs=[]:=by simpa using h.1
   subst this
   exact bR sJ <| M.Ov
  ·exact bT
 ·rename_i k r
  split
  ·rename_i hl
   split
   ·rename_i ms h
    obtain⟨a,b,d⟩:=Ew (pos:=pos) hE h
    split
    ·exact bR vI (M.KW a b d (by simp) hl)
    ·exact bR Ae (M.Ow a b d (by simp) hl)
   ·exact bT
  ·exact bT
def Kh(E:Expr->ME):List Expr->ME
 | []=>ip
 | _=>ip
def Gj{E:Expr->ME}(hE:∀ e,DE X e (E e)):∀ es:List Expr,DE X (.JoinedStr es pos) (Kh E es)
 | []=>bT
 | _::_=>bT
def PJ(E:Expr->ME)(v:Expr)(cv:Int)(f:Option Expr):ME:=match cv,f with
 | _,_=>ip
def Kj{E:Expr->ME}(hE:∀ e,DE X e (E e)){v:Expr}{cv:Int}{f:Option Expr}:DE X (.FormattedValue v cv f pos) (PJ E v cv f):=by
 exact bT
def OY(E:CI->Expr->ME)(T:CI->Expr->MT)(c:CI):Expr->ME
 | .Constant v _ _=>EB v
 | .Name x _=>CP c x
 | .BinOp a op b p=>Kn (c.mt.contains (p.line+200000)) op (E c a) (E c b)
 | .UnaryOp op a _=>evUn op (E c a)
 | .Compare a ops bs _=>Kl c E a ops bs
 | .BoolOp op vs _=>match op with | .And=>AG df (vs.map (E c)) | .Or=>AG uj (vs.map (E c))
 | .IfExp t a b _=>on (T c t) (E c a) (E c b)
 | .Tuple es _ _=>aX (wp (E c) es)
 | .List es pos=>if c.mt.contains pos.line then eM (wp (E c) es) else iq (wp (E c) es)
 | .Dict ks vs pos=>CQ c (E c) ks vs pos.line
 | .Subscript a i _=>PD c (E c) a i
 | .Call f es ks p=>match sg f,Dj f,ks with | some x,_,[]=>yA c (E c) x es | none,Z (o,nm,ap),[]=>yz (c.mt.contains 500000) (E c) o nm ap p es | _,_,_=>ip
 | .ListComp elt gens scope p=>lP c E T elt gens scope p.line
 | .JoinedStr es _=>Kh (E c) es
 | .FormattedValue v cv f _=>PJ (E c) v cv f
 | _=>ip
def OW(E:CI->Expr->ME)(T:CI->Expr->MT)(c:CI):Expr->MT
 | .UnaryOp op a p=>match op with | .Not=>cy (T c a) | op=>cG (E c (.UnaryOp op a p))
 | .BoolOp op vs _=>match op with | .And=>tH cM (vs.map (T c)) | .Or=>tH cX (vs.map (T c))
 | .Compare a ops bs _=>CT c E a ops bs
 | .IfExp _ _ _ _=>uI
 | e=>cG (E c e)
def HQ(hE:∀ c X,iY k c X->∀ e,DE X e (E c e))(hT:∀ c X,iY k c X->∀ e,DT X e (T c e))(C:iY k c X)(e:Expr):DE X e (OY E T c e):=by
 have h1:=hE c X C
 have h2:=hT c X C
 cases e with
 | Constant v j p=>exact CS v
 | Name x p=>exact Gh C x
 | BinOp a op b p=>
  show DE X _ (Kn (c.mt.contains (p.line+200000)) op (E c a) (E c b))
  exact Km (z:=c.mt.contains (p.line+200000)) (h1 a) (h1 b)
 | UnaryOp op a p=>exact NQ (h1 a)
 | Compare a ops bs p=>exact Kk C h1
 | BoolOp op vs p=>cases op with | And=>exact wj h1 vs | Or=>exact AF h1 vs
 | IfExp t a b p=>exact bR Je <| M.de_if (h2 t) (h1 a) (h1 b)
 | Tuple es j p=>exact bR DP <| M.Tt (eJ h1 es)
 | List es p=>
  show DE X _ (if c.mt.contains p.line then eM (wp (E c) es) else iq (wp (E c) es))
  split
  ·exact bR zZ <| M.Ot (eJ h1 es)
  ·exact bR DX <| M.Tx (eJ h1 es)
 | Dict ks vs p=>exact Gm h1 ks vs p.line
 | Subscript a i p=>exact Kd C h1 a i
 | Call f es ks p=>
  show DE X _ (match sg f,Dj f,ks with | some x,_,[]=>yA c (E c) x es | none,Z (o,nm,ap),[]=>yz (c.mt.contains 500000) (E c) o nm ap p es | _,_,_=>ip)
  split
  ·rename_i x h
   obtain⟨p2,rfl⟩:=lB h
   exact Go C h1
  ·rename_i o nm ap _ ha
   have:=Bk ha
   subst this
   exact Gi C h1
  ·exact bT
 | ListComp elt gens scope p=>exact wn C hE hT
 | JoinedStr es p=>exact Gj h1 es
 | FormattedValue v cv f p=>exact Kj h1
 | _=>exact bT
def HM(hE:∀ c X,iY k c X->∀ e,DE X e (E c e))(hT:∀ c X,iY k c X->∀ e,DT X e (T c e))(C:iY k c X)(e:Expr):DT X e (OW E T c e):=by
 have h1:=hE c X C
 have h2:=hT c X C
 cases e with
 | UnaryOp op a p=>cases op <;> first | exact Be zX <| M.Tc (h2 a) | exact Be xY <| M.AT (h1 _)
 | BoolOp op vs p=>cases op with | And=>exact Ga h2 vs | Or=>exact JK h2 vs
 | Compare a ops bs p=>exact Gn C h1
 | IfExp t a b p=>exact pk
 | _=>exact Be xY <| M.AT (h1 _)
def ev:Nat->(CI->Expr->ME)×(CI->Expr->MT)
 | 0=>(λ_ _=>ip,λ_ _=>uI)
 | n+1=>(OY (ev n).1 (ev n).2,OW (ev n).1 (ev n).2)
theorem qG:∀ n:Nat,(∀ c X,iY k c X->∀ e,DE X e ((ev n).1 c e))/\(∀ c X,iY k c X->∀ e,DT X e ((ev n).2 c e))
 | 0=>⟨λ_ _ _ _=>bT,λ_ _ _ _=>pk⟩
 | n+1=>⟨λ_ _ C e=>HQ (qG n).1 (qG n).2 C e,λ_ _ C e=>HM (qG n).1 (qG n).2 C e⟩
def kQ:Expr->Bool
 | .ListComp _ _ _ _=>false
 | .SetComp _ _ _ _=>false
 | .DictComp _ _ _ _ _=>false
 | _=>true
def gQ{t:Option Expr}{l:Nat}(h:kQ e=true):swapsWith e t l X.env=pure false:=by cases e <;> first | rfl | cases h
def vR:Expr->Bool
 | .Tuple _ _ _=>true
 | .List _ _=>true
 | _=>false
def Cd{t:Expr}(h:vR t=false\/vR e=false):swappedStores [t] e X.env=pure U:=by
 rcases h with h | h
 ·cases t <;> first | rfl | cases h
 ·cases t <;> first | rfl | (cases e <;> first | rfl | cases h)
def Kt(c:CI)(E:CI->Expr->ME)(T:CI->Expr->MT)(x:Str)(px:Pos)(e:Expr):MS:=match e with
 | .ListComp elt gens scope p=>if c.all&&(c.sc.names.lookup x == Z .local&&px.line == p.line && !(scope.names.any λy=>y.1 == x&&(y.2 == .local||y.2 == .cell))) then aS (lP c E T elt gens scope p.line) (qR c x) else if c.all&&c.sc.names.lookup x == Z .cell then aS (lP c E T elt gens scope p.line) (qR c x) else iG
 | e=>if kQ e then aS (E c e) (qR c x) else iG
def QU:Expr->Option (Str×Pos×Str×Pos)
 | .Tuple [.Name x px,.Name y py] _ _=>Z (x,px,y,py)
 | _=>U
def Fq{t:Expr}{x y:Str}{px py:Pos}(h:QU t=Z (x,px,y,py)):∃ k p,t=.Tuple [.Name x px,.Name y py] k p:=by
 unfold QU at h
 split at h
 ·cases h;exact⟨_,_,rfl⟩
 ·cases h
def Qk:Expr->Option (Expr×Expr)
 | .Tuple [a,b] _ _=>Z (a,b)
 | _=>U
def EU{t a b:Expr}(h:Qk t=Z (a,b)):∃ k p,t=.Tuple [a,b] k p:=by
 unfold Qk at h
 split at h
 ·cases h;exact⟨_,_,rfl⟩
 ·cases h
def Bx{x y:Str}{px py p p2:Pos}{k k2:Nat}{a b:Expr}(h:(X.env.kindOf x == Z NameKind.local&&X.env.kindOf y == Z NameKind.local)=false):swappedStores [.Tuple [.Name x px,.Name y py] k p] (.Tuple [a,b] k2 p2) X.env=pure U:=by
 unfold swappedStores
 simp only
 split
 ·rfl
 split
 ·rfl
 rw [if_pos]
 generalize hg:List.filterMap _ [Expr.Name x px,Expr.Name y py]=L
 have hL:L.length<=1:=by
  rw [<- hg,VA,VA]
  cases hx:(X.env.kindOf x == Z NameKind.local) with
  | false=>simp only [hx,Vt,Vc,Vq];split <;> simp
  | true=>
   have hy:(X.env.kindOf y == Z NameKind.local)=false:=by rw [hx,VR] at h;exact h
   simp only [hy,Vt,Vc,Vq];split <;> simp
 have h2:(L.length != [Expr.Name x px,Expr.Name y py].length)=true:=by
  rw [bne_iff_ne];show L.length≠2;omega
 rw [h2];rfl
def DJ(c:CI)(x y:Str):Bool:=!(c.sc.names.lookup x == Z .local&&c.sc.names.lookup y == Z .local)
def Ex(c:CI)(E:CI->Expr->ME)(t e:Expr):Option MS:=match QU t,Qk e with
 | some (x,px,y,py),Z (a,b)=>if DJ c x y then Z (aS (E c e) (Ki c (E c) t)) else match ng x c.N,ng y c.N with
  | some i,Z j=>if (c.all&&c.sc.names.lookup x == Z .local&&c.sc.names.lookup y == Z .local && !(x == y)&&py.line == px.line&&rV a&&rV b && !(foldedForSure 8 a&&foldedForSure 8 b) && !(constantsAlone 8 a&&constantsAlone 8 b) && !(i == j))=true then Z (jr i j (wp (E c) [a,b])) else U
  | _,_=>U
 | _,_=>U
def Kf(C:iY k c X){E:CI->Expr->ME}(hE:∀ e,DE X e (E c e)){t:Expr}{m:MS}(h:Ex c E t e=Z m):DS X (.Assign [t] e pos) m:=by
 unfold Ex at h
 split at h
 ·rename_i x px y py a b h1 h2
  obtain⟨k1,p1,rfl⟩:=Fq h1
  obtain⟨k2,p2,rfl⟩:=EU h2
  split at h
  ·rename_i hn
   cases h
   refine iC ga <| M.KH (hE _) (jJ C hE _) rfl (Bx ?_) rfl
   unfold DJ at hn
   rw [Bool.not_eq_true'] at hn
   show (X.env.scope.names.lookup x == Z NameKind.local&&X.env.scope.names.lookup y == Z NameKind.local)=false
   rw [C.sc];exact hn
  split at h
  ·rename_i i j hi hj
   split at h
   ·rename_i hc
    cases h
    simp only [Uk,beq_iff_eq,Bool.not_eq_true'] at hc
    obtain⟨⟨⟨⟨⟨⟨⟨⟨⟨_,hx⟩,hy⟩,hne⟩,hl⟩,ha⟩,hb⟩,hf⟩,hcn⟩,hij⟩:=hc
    have hx':X.env.scope.names.lookup x=Z .local:=by rw [C.sc];exact hx
    have hy':X.env.scope.names.lookup y=Z .local:=by rw [C.sc];exact hy
    have hbk:X.env.blockKind=.function:=by unfold Env.blockKind;rw [C.sc,C.fk];rfl
    exact iC DU (M.Th C.calm (by rw [C.N];exact C.nd) (by rw [C.N];exact cO hi) (by rw [C.N];exact cO hj) (by simpa using hij) hx' hy' (eJ hE _) (HI hbk hx' hy' hne (by simpa using hl) ha hb hf hcn))
   ·cases h
  ·cases h
 ·cases h
def Ku(c:CI)(E:CI->Expr->ME)(T:CI->Expr->MT)(t e:Expr):MS:=match t with
 | .Name x px=>Kt c E T x px e
 | t=>match Ex c E t e with
 | some m=>m
 | none=>if kQ e&&bZ t&&(!vR t || !vR e) then aS (E c e) (Ki c (E c) t) else iG
def oO{m:ME}{s:Stmt}:DS X s (aS m JH):=λ_ _ _ _ _ _ ⟨_,_,_,_,_,_,h,_⟩=>by
 rw [ga] at h
 obtain⟨_,_,h⟩:=Ui.mp h
 cases h
def Gp(C:iY k c X)(hE:∀ c X,iY k c X->∀ e,DE X e (E c e))(hT:∀ c X,iY k c X->∀ e,DT X e (T c e)){x:Str}{px:Pos}:DS X (.Assign [.Name x px] e pos) (Kt c E T x px e):=by
 have h1:=hE c X C
 have gen:∀ e,kQ e=true->DS X (.Assign [.Name x px] e pos) (aS (E c e) (qR c x)):=λe hn=>by
  unfold qR
  split
  ·rename_i h1' h2
   exact iC nQ <| M.CV (by rw [C.N];exact C.nd) (by rw [C.N];exact cO h2) (by rw [C.sc];exact .inl h1') (h1 e) (gQ hn) (.inr (by rw [C.sc];exact h1'))
  ·rename_i h1' h2
   split
   ·rename_i ha
    exact iC nQ <| M.CV (by rw [C.N];exact C.nd) (by rw [C.N];exact cO h2) (by rw [C.sc];exact .inr h1') (h1 e) (gQ hn) (.inl (C.fn ha x))
   ·exact oO
  ·exact oO
 cases e with
 | ListComp elt gens scope p=>
  show DS X _ (if c.all&&(c.sc.names.lookup x == Z .local&&px.line == p.line && !(scope.names.any λy=>y.1 == x&&(y.2 == .local||y.2 == .cell))) then aS (lP c E T elt gens scope p.line) (qR c x) else if c.all&&c.sc.names.lookup x == Z .cell then aS (lP c E T elt gens scope p.line) (qR c x) else iG)
  split
  ·rename_i hw
   rw [Uk] at hw
   have hw1:=hw.2
   simp only [Uk,beq_iff_eq] at hw1
   have hl:=hw1.1.1
   unfold qR
   rw [hl]
   cases hi:ng x c.N with
   | none=>exact oO
   | some i=>
    have sw:(pure (X.env.blockKind == .function&&X.env.scope.names.lookup x == Z .local&&px.line == p.line && !(scope.names.any λy=>y.1 == x&&(y.2 == .local||y.2 == .cell))):Sem Bool)=pure true:=by
     have hb:X.env.blockKind=.function:=by unfold Env.blockKind;rw [C.sc,C.fk];rfl
     rw [hb,C.sc]
     have:=hw.2
     simp only [Bool.and_assoc] at this ⊢
     rw [this];rfl
    unfold lP
    split
    ·rename_i tg it ifs a
     split
     ·rename_i h
      simp only [Uk,beq_iff_eq] at h
      obtain⟨⟨h0,h1'⟩,h2⟩:=h
      subst h0
      obtain⟨B,C'⟩:=rp C h2
      split
      ·exact KG
      ·exact iC Aj <| M.CU (by rw [C.N];exact C.nd) (by rw [C.N];exact cO hi) (by rw [C.sc];exact .inl hl) C.calm B (tS C (hE _ _ C)) (λA s H fp=>jJ (C' A s H fp) (hE _ _ (C' A s H fp)) tg) (λA s H fp=>mP (hT _ _ (C' A s H fp)) ifs) (λA s H fp=>hE _ _ (C' A s H fp) elt) sw (fF h1') (.inr (by rw [C.sc];exact hl))
     ·intro _ _ _ _ _ _ ⟨_,_,_,_,_,_,h,_⟩
      rw [ga] at h
      obtain⟨_,z,h⟩:=Ui.mp h
      cases z
    ·rename_i tg it ifs a tg2 it2 ifs2 a2
     split
     ·rename_i h
      simp only [Uk,beq_iff_eq] at h
      obtain⟨⟨⟨⟨h0,h0'⟩,h1'⟩,h1''⟩,h2⟩:=h
      subst h0 h0'
      obtain⟨B,C'⟩:=rp C h2
      exact iC yc <| M.AU (by rw [C.N];exact C.nd) (by rw [C.N];exact cO hi) (by rw [C.sc];exact .inl hl) C.calm B (tS C (hE _ _ C)) (λA s H fp=>jJ (C' A s H fp) (hE _ _ (C' A s H fp)) tg) (λA s H fp=>mP (hT _ _ (C' A s H fp)) ifs) (λA s H fp=>Ey (C' A s H fp) (hE _ _ (C' A s H fp))) (λA s H fp=>jJ (C' A s H fp) (hE _ _ (C' A s H fp)) tg2) (λA s H fp=>mP (hT _ _ (C' A s H fp)) ifs2) (λA s H fp=>hE _ _ (C' A s H fp) elt) sw (fF h1') (oE h1'') (.inr (by rw [C.sc];exact hl))
     ·intro _ _ _ _ _ _ ⟨_,_,_,_,_,_,h,_⟩
      rw [ga] at h
      obtain⟨_,z,h⟩:=Ui.mp h
      cases z
    ·intro _ _ _ _ _ _ ⟨_,_,_,_,_,_,h,_⟩
     rw [ga] at h
     obtain⟨_,z,h⟩:=Ui.mp h
     cases z
  ·split
   ·rename_i hw
    rw [Uk,beq_iff_eq] at hw
    unfold qR
    rw [hw.2]
    cases hi:ng x c.N with
    | none=>exact oO
    | some i=>
     dsimp only
     rw [if_pos hw.1]
     refine iC nQ <| M.CV (by rw [C.N];exact C.nd) (by rw [C.N];exact cO hi) (by rw [C.sc];exact .inr hw.2) (wn C hE hT) ?_ (.inl (C.fn hw.1 x))
     show (pure (X.env.blockKind == .function&&X.env.scope.names.lookup x == Z .local&&px.line == p.line && !(scope.names.any λy=>y.1 == x&&(y.2 == .local||y.2 == .cell))):Sem Bool)=pure false
     rw [C.sc,hw.2]
     have:((Z NameKind.cell:Option NameKind) == Z .local)=false:=by decide
     rw [this,Wx];rfl
   ·exact jj
 | SetComp _ _ _ _=>exact jj
 | DictComp _ _ _ _ _=>exact jj
 | _=>exact gen _ rfl
def Ks(C:iY k c X)(hE:∀ c X,iY k c X->∀ e,DE X e (E c e))(hT:∀ c X,iY k c X->∀ e,DT X e (T c e)){t:Expr}:DS X (.Assign [t] e pos) (Ku c E T t e):=by
 have gen:∀ t,DS X (.Assign [t] e pos) (match Ex c E t e with | some m=>m | none=>if kQ e&&bZ t&&(!vR t || !vR e) then aS (E c e) (Ki c (E c) t) else iG):=λt=>by
  split
  ·rename_i h
   exact Kf C (hE _ _ C) h
  split
  ·rename_i h
   simp only [Uk,Vp,Bool.not_eq_true'] at h
   refine iC ga <| M.KH (hE _ _ C e) (jJ C (hE _ _ C) t) (gQ h.1.1) (Cd h.2) ?_
   rw [pY h.1.2];rfl
  ·exact jj
 cases t with
 | Name x px=>exact Gp C hE hT
 | _=>exact gen _
def ul:List MS->MS
 | []=>aR
 | [m]=>m
 | m::r=>aA m (ul r)
theorem kJ{F:Stmt->MS}(h:∀ s,DS X s (F s)):∀ ss:List Stmt,uR X ss (ul (ss.map F))
 | []=>De oM <| M.Oa
 | [s]=>NZ (h s)
 | s::s'::r=>De DQ <| M.KC (h s) (kJ h (s'::r))
def CK:Expr->Bool
 | .Constant (.str _) _ _=>true
 | _=>false
def Kr(c:CI)(E:Expr->ME)(op:Operator)(e:Expr):Expr->MS
 | .Name x _=>match op,c.sc.names.lookup x,ng x c.N with
  | .Add,Z .local,Z i=>iG
  | _,_,_=>iG
 | _=>iG
def Kq{E:Expr->ME}(C:iY k c X)(hE:∀ e,DE X e (E e)){op:Operator}(e:Expr)(t:Expr):DS X (.AugAssign t op e pos) (Kr c E op e t):=by
 unfold Kr
 split
 ·split
  ·rename_i h1 h2
   exact jj
  ·exact jj
 ·exact jj
def OX(E:CI->Expr->ME)(T:CI->Expr->MT)(F:CI->Stmt->MS)(c:CI):Stmt->MS
 | .Return o _=>match o with | some e=>aJ (E c e) | none=>λ_ S=>Z (.rt .non S)
 | .Pass _=>aR
 | .Break _=>λenv S=>Z (.bk env S)
 | .Continue _=>λenv S=>Z (.ct env S)
 | .Expr e _=>if CK e then aR else if kQ e then fJ (E c e) else iG
 | .If t a b _=>bu (T c t) (ul (a.map (F c))) (ul (b.map (F c)))
 | .Assign ts e _=>match ts with | [t]=>Ku c E T t e | _=>iG
 | .AugAssign t op e _=>Kr c (E c) op e t
 | .While tst body els _=>match els with | []=>dA (T c tst) (ul (body.map (F c))) | _=>iG
 | .For tg it body els _=>match els with | []=>if im it then (if Pu c it then gt (evI c (E c) tg it) (Ki c (E c) tg) (ul (body.map (F c))) else eD (E c it) (Ki c (E c) tg) (ul (body.map (F c)))) else iG | _=>iG
 | _=>iG
def HN{F:CI->Stmt->MS}(hE:∀ c X,iY k c X->∀ e,DE X e (E c e))(hT:∀ c X,iY k c X->∀ e,DT X e (T c e))(hF:∀ c X,iY k c X->∀ e,DS X e (F c e))(C:iY k c X)(s:Stmt):DS X s (OX E T F c s):=by
 have h1:=hE c X C
 have h2:=hT c X C
 have h3:=hF c X C
 cases s with
 | Return o p=>cases o with | none=>exact Ob | some e=>exact iC DR <| M.Tg (h1 e)
 | Pass p=>exact iC oM <| M.Oc
 | Break p=>exact KF
 | Continue p=>exact AV
 | Expr e p=>
  show DS X _ (if CK e then aR else if kQ e then fJ (E c e) else iG)
  split
  ·rename_i h
   unfold CK at h
   split at h
   ·exact iC oM <| M.Tj
   ·cases h
  ·split
   ·rename_i h;exact iC Ac <| M.Of (h1 e) (gQ h)
   ·exact jj
 | If t a b p=>exact iC DZ <| M.ds_if (h2 t) (kJ h3 a) (kJ h3 b)
 | Assign ts e p=>
  show DS X _ (match ts with | [t]=>Ku c E T t e | _=>iG)
  split
  ·exact Ks C hE hT
  ·exact jj
 | AugAssign t op e p=>exact Kq C h1 e t
 | While tst body els p=>
  cases els with
  | nil=>exact iC vB <| M.KD (by rw [C.xe];exact Xu) (h2 tst) (kJ h3 body)
  | cons _ _=>exact jj
 | For tg it body els p=>
  cases els with
  | nil=>
   show DS X _ (if im it then (if Pu c it then gt (evI c (E c) tg it) (Ki c (E c) tg) (ul (body.map (F c))) else eD (E c it) (Ki c (E c) tg) (ul (body.map (F c)))) else iG)
   split
   ·rename_i h
    split
    ·exact iC Ea <| M.KE (by rw [C.xe];exact Xu) C.calm (tS C h1) (jJ C h1 tg) (kJ h3 body) (fF h)
    ·exact iC Aa <| M.Oe (by rw [C.xe];exact Xu) C.calm (h1 it) (jJ C h1 tg) (kJ h3 body) (fF h)
   ·exact jj
  | cons _ _=>exact jj
 | _=>exact jj
def evS(n:Nat):Nat->CI->Stmt->MS
 | 0=>λ_ _=>iG
 | m+1=>OX (ev n).1 (ev n).2 (evS n m)
theorem Ke(n:Nat):∀ m:Nat,∀ c X,iY k c X->∀ s,DS X s (evS n m c s)
 | 0=>λ_ _ _ _=>jj
 | m+1=>λ_ _ C s=>HN (qG n).1 (qG n).2 (Ke n m) C s
def TK:Stmt->Option (Str×Str×Expr)
 | .Assign [.Name b _] (.Subscript (.Name x _) (.Subscript o q p) _) _=>Z (b,x,.Subscript o q p)
 | _=>U
def GF{s:Stmt}{b x:Str}{ix:Expr}(h:TK s=Z (b,x,ix)):mV ix/\∃ pb pt ps pa,s=.Assign [.Name b pb] (.Subscript (.Name x pt) ix ps) pa:=by
 unfold TK at h
 split at h
 ·cases h;exact⟨by intro _ _;rfl,_,_,_,_,rfl⟩
 ·cases h
def TJ:Stmt->Option (Str×Expr×List Expr)
 | .Return (Z (.Call (.Name b _) (e::es) [] _)) _=>Z (b,e,es)
 | _=>U
def GE{s:Stmt}{b:Str}{e:Expr}{es:List Expr}(h:TJ s=Z (b,e,es)):∃ p pc pr,s=.Return (Z (.Call (.Name b p) (e::es) [] pc)) pr:=by
 unfold TJ at h
 split at h
 ·cases h;exact⟨_,_,_,rfl⟩
 ·cases h
def PL(c:CI)(b x:Str)(ix:Expr)(e:Expr)(es:List Expr):Option MS:=match ng b c.N,Px c x with
 | some i,Z (.ftab l)=>if eG b&&c.sc.names.lookup b == Z .local&&(e::es).all bZ then Z (fY l i ((ev 40).1 c ix) (wp ((ev 40).1 c) (e::es))) else U
 | _,_=>U
def yC(c:CI):List Stmt->Option MS
 | [s,t]=>match TK s,TJ t with
  | some (b,x,ix),Z (b',e,es)=>if b' == b then PL c b x ix e es else U
  | _,_=>U
 | _=>U
def Gv(C:iY k c X){body:List Stmt}{m:MS}(h:yC c body=Z m):uR X body m:=by
 unfold yC at h
 split at h
 ·rename_i s t
  split at h
  ·rename_i b x ix b' e es h1 h2
   obtain⟨hs,pb,pt,ps,pa,rfl⟩:=GF h1
   obtain⟨p,pc,pr,rfl⟩:=GE h2
   split at h
   ·rename_i hb
    rw [beq_iff_eq] at hb;subst hb
    unfold PL at h
    split at h
    ·rename_i i l hi hg
     obtain⟨g,o,G⟩:=je C hg
     split at h
     ·rename_i hc
      simp only [Uk,beq_iff_eq] at hc
      obtain⟨⟨o1,h3⟩,h4⟩:=hc
      cases h
      rw [Vb,Uk] at h4
      exact De Ad <| M.KB G g (cJ o) ((qG 40).1 _ _ C ix) hs C.room (eJ ((qG 40).1 _ _ C) _) (by rw [C.N];exact C.nd) (by rw [C.N];exact cO hi) (by rw [C.sc];exact .inl h3) (by rw [C.sc];exact .inl h3) (.inr (by rw [C.sc];exact h3)) (cJ o1) (zw o1)
       (by rw [C.N];exact(Uj.mp (cO hi)).1) (bK h4.1) (gx h4.2)
     ·cases h
    ·cases h
   ·cases h
  ·cases h
 ·cases h
def gN(c:CI)(body:List Stmt):MS:=match yC c body with
 | some m=>m
 | none=>ul (body.map (evS 40 20 c))
def Ko(C:iY k c X)(body:List Stmt):uR X body (gN c body):=by
 unfold gN
 cases h:yC c body with
 | some m=>exact Gv C h
 | none=>exact kJ (Ke 40 20 c X C) body
end
end
def iA(N:List Str)(st:Stmt)(gs:List (Str×GI))(mt:List Nat):CI:=⟨N,ar st,true,gs,mt⟩
def GK(P:Program)(w:World)(K:W.Frag)(mg:Str->Option Value)(base:Heap)(k:Nat)(p:Str×GI):Prop:=match p.2 with
 | .fn n f=>Fn P w K mg base k p.1 n f
 | .con d=>GC K mg p.1 d
 | .blt=>mg p.1=U
 | .tab l=>ue w K mg p.1 l
 | .ftab l=>FTab P w K mg base k p.1 l
def bp{P:Program}{w:World}{K:W.Frag}{mg:Str->Option Value}{base:Heap}{k:Nat}{x:Str}{st:Stmt}{N ps:List Str}{gs:List (Str×GI)}{mt:List Nat}
  (F:bB K mg x st) (Sc:aM N ps (ar st)) (hb:yM x st ps) (hg:∀ p∈gs,GK P w K mg base k p) :
  Fn P w K mg base (k+1) x ps.length (aO N (gN (iA N st gs mt) (aF st)) ps.length):=
 Tq F Sc hb λa cdv A outer s H E hr=>Ko (k:=k) ⟨rfl,Sc.nd,rfl,Sc.kind,λ_ _=>rfl,rfl,hr,rfl,λp hp=>by
  have:=hg p hp
  obtain⟨x,g⟩:=p
  cases g <;> exact this⟩ _
def GKs(P:Program)(w:World)(K:W.Frag)(mg:Str->Option Value)(base:Heap)(k:Nat):List (Str×GI)->Prop
 | []=>True
 | p::r=>GK P w K mg base k p/\GKs P w K mg base k r
theorem GKs.mem{P:Program}{w:World}{K:W.Frag}{mg:Str->Option Value}{base:Heap}{k:Nat}:∀ {gs:List (Str×GI)},GKs P w K mg base k gs->∀ p∈gs,GK P w K mg base k p
 | q::r,h,p,hp=>by
  rcases UO.mp hp with rfl | hp
  ·exact h.1
  ·exact GKs.mem h.2 p hp
def RG{P:Program}{w:World}{K:W.Frag}{mg:Str->Option Value}{k:Nat}{st:Stmt}{N:List Str}{gs:List (Str×GI)}{mt:List Nat}{fa:Addr}(F:bB K mg "law" st)(hfa:mg "law" = Z (.ref fa))(Sc:aM N ["_law_script"] (ar st))
  (hbt:∀ (kV doc pm:Value) (an:Option Addr) (cdv ct v:Value),bindArgs (W.fnOf "law" "law" (iI st) (aF st) (ar st) .none kV doc pm an cdv ct) ⟨[v],[]⟩=pure [(("_law_script":Str),v)])
  (hg:∀ base,GKs P w K mg base k gs) :
  ∃ fd:FuncData,(∀ (s:Shared) (v:Value),BindsTo s fd ⟨[v],[]⟩ [("_law_script",v)])/\∀ base:Heap,K.In base->base.Ns mainGlobals mg->FnOk P w K mg base EQ (k+1) fa fd ["_law_script"] (HR K 1 (aO N (gN (iA N st gs mt) (aF st)) 1)):=
 RF F hfa Sc hbt λbase a cdv A outer s H E hr=>Ko (k:=k) ⟨rfl,Sc.nd,rfl,Sc.kind,λ_ _=>rfl,rfl,hr,rfl,λp hp=>by
  have:=GKs.mem (hg base) p hp
  obtain⟨x,g⟩:=p
  cases g <;> exact this⟩ _
section
variable{P:List Value->Prop}
def iZ(h:P []):∀ us:List Value,us.length=0->P us:=λus e=>by rw [Vg e];exact h
def cD{n:Nat}(h:∀ a,∀ us:List Value,us.length=n->P (a::us)):∀ us:List Value,us.length=n+1->P us:=λus e=>by
 cases us with
 | nil=>cases e
 | cons a us=>exact h a us (Nat.succ.inj e)
end
def recF(N:List Str)(st:Stmt)(gs:List (Str×GI))(mt:List Nat)(x:Str)(a:Nat):Nat->List D->ab->Option (D×ab)
 | 0=>λ_ _=>U
 | n+1=>aO N (gN (iA N st ((x,.fn a (recF N st gs mt x a n))::gs) mt) (aF st)) a
section
variable{P:Program}{w:World}{K:W.Frag}{mg:Str->Option Value}{base:Heap}{k:Nat}{x:Str}{st:Stmt}{N ps:List Str}{gs:List (Str×GI)}{mt:List Nat}
theorem GK.up{k':Nat}(h:k<=k'):∀ {p:Str×GI},GK P w K mg base k p->GK P w K mg base k' p
 | (_,.fn _ _),g=>Fn.up g h
 | (_,.con _),g=>g
 | (_,.blt),g=>g
 | (_,.tab _),g=>g
 | (_,.ftab _),g=>FTab.up g h
def NH(F:bB K mg x st)(Sc:aM N ps (ar st))(hb:yM x st ps):Fn P w K mg base (k+1) x ps.length (λ_ _=>U):=by
 obtain⟨a,fd,F,hmg⟩:=F.ex
 exact Pz F Sc hmg (F.binds hb) λcdv A outer s H E hr=>⟨iG,Tf,λds S d S' _ _ _ h=>by cases h⟩
theorem QB(F:bB K mg x st)(Sc:aM N ps (ar st))(hb:yM x st ps)(hg:GKs P w K mg base k gs):∀ n,Fn P w K mg base (k+1+n) x ps.length (recF N st gs mt x ps.length n)
 | 0=>NH F Sc hb
 | n+1=>bp (k:=k+1+n) F Sc hb λp hp=>by
  rcases UO.mp hp with rfl | hp
  ·exact QB F Sc hb hg n
  ·exact GK.up (by omega) (GKs.mem hg p hp)
end
def kE(P:Params)(x:Str)(t:Nat)(v:Value):DictEntry:=⟨PyData.keyHash P x,.str x t,v⟩
def kC(x:Str)(t l n a b:Nat)(u v:Value)(c d:Nat):Obj:=⟨.type "code",U,.fields #[.str x t,.str x (t+1),.str "/claim/cut.py" (t+2),.int l 0,.int n 0,.int 0 0,.int 0 0,.int 3 0,.ref a,.bool true,.int 181 0,.ref b,.none,u,v,.ref c,.int d 0,.int l 0,.str "/claim/cut.py" (d+1)],#[]⟩
def kF(x:Str)(st:Stmt)(m:Str)(t c:Nat):Obj:=⟨.type "function",U,.func (W.fnOf x x (iI st) (aF st) (ar st) .none .none .none (.str m t) U (.ref c) .none),#[]⟩
def cP{K:W.Frag}{h:Heap}{mg:Str->Option Value}(X:K.In h)(G:h.Ns mainGlobals mg){x:Str}{st:Stmt}(m:Str)(f t c:Nat)(e:(W.nsIn K mainGlobals x,K.lookup f,W.codeIn K (.ref c) x,W.keepIn K (.ref f))=(Z (Z (.ref f)),Z (kF x st m t c),true,true)):bB K mg x st:=by
 have e1:=congrArg (·.1) e
 have e2:=congrArg (·.2.1) e
 have e3:=congrArg (·.2.2.1) e
 have e4:=congrArg (·.2.2.2) e
 exact⟨_,_,SG (st:=st) (show K.lookup f=Z ⟨.type "function",U,.func (W.fnOf x x (iI st) (aF st) (ar st) .none .none .none (.str m t) U (.ref c) .none),#[]⟩ from e2) e3 e4,VT X G e1⟩
def iU{N:List Str}{c:CI}{b:List Stmt}{m:MS}{n:Nat}(h:gN c b=m):aO N (gN c b) n=aO N m n:=by rw [h]
section
variable{env e:aW}{S S':ab}{x y d:D}{f g:ab->D->D->Option D}{a b c:ME}{ms:MA}{t u:MT}{k l:Bool}{p q:MS}{tg:MG}
@[simp high] theorem ob{α β:Type}{a:α}{f:α->Option β}:(Z a).bind f=f a:=id rfl
@[simp high] theorem obn{α β:Type}{f:α->Option β}:(U:Option α).bind f=U:=id rfl
@[simp high] theorem oj{α:Type}{a:Option α}:(Z a).join=a:=rfl
@[simp high] theorem bG{α:Type}{a:α}{l:List α}:(a::l)[0]?=Z a:=rfl
@[simp high] theorem bM{α:Type}{a b:α}{l:List α}:(a::b::l)[1]?=Z b:=rfl
@[simp high] theorem bL{α:Type}{a:α}{l:List α}{i:Nat}:(a::l)[i+1]?=l[i]?:=rfl
@[simp high] theorem gH{α:Type}{a b:α}{l:List α}:(a::l).set 0 b=b::l:=rfl
@[simp high] theorem ik{α:Type}{a b:α}{l:List α}{i:Nat}:(a::l).set (i+1) b=a::l.set i b:=rfl
def sQ(S:ab)(z:D):Option (D×ab):=Z (z,S)
@[simp] theorem aj:sQ S d=Z (d,S):=rfl
@[simp] theorem be:mC d env S=Z (d,S):=by rw [sJ];rfl
@[simp] theorem ak{i:Nat}:ac i env S=(env[i]?).join.bind (sQ S):=by rw [DN];rfl
def RV(f:ab->D->D->Option D)(x:D)(q:D×ab):Option (D×ab):=(f q.2 x q.1).bind (sQ q.2)
def kOp1(f:ab->D->D->Option D)(b:ME)(env:aW)(q:D×ab):Option (D×ab):=(b env q.2).bind (RV f q.1)
@[simp] theorem av:kOp1 f b env (x,S)=(b env S).bind (RV f x):=id rfl
@[simp] theorem aw:RV f x (y,S)=(f S x y).bind (sQ S):=id rfl
@[simp] theorem aH:ax f a b env S=(a env S).bind (kOp1 f b env):=by rw [jE];rfl
def Pl(q:D×ab):Option (Bool×ab):=match q.1 with | .bl k=>Z (k,q.2) | _=>U
@[simp] theorem aK:Pl (.bl k,S)=Z (k,S):=id rfl
@[simp] theorem aN:au a env S=(a env S).bind Pl:=by rw [sC];rfl
def Sn(g:ab->D->D->Option D)(y:D)(q:D×ab):Option (D×ab):=(g q.2 y q.1).bind (sQ q.2)
def Jw(g:ab->D->D->Option D)(c:ME)(env:aW)(y:D)(S:ab)(z:D):Option (D×ab):=match z with
 | .bl true=>(c env S).bind (Sn g y)
 | .bl false=>Z (.bl false,S)
 | _=>U
def NB(f g:ab->D->D->Option D)(c:ME)(env:aW)(x:D)(q:D×ab):Option (D×ab):=(f q.2 x q.1).bind (Jw g c env q.1 q.2)
def So(f g:ab->D->D->Option D)(b c:ME)(env:aW)(q:D×ab):Option (D×ab):=(b env q.2).bind (NB f g c env q.1)
@[simp] theorem kCh1_s:So f g b c env (x,S)=(b env S).bind (NB f g c env x):=id rfl
@[simp] theorem kCh2_s:NB f g c env x (y,S)=(f S x y).bind (Jw g c env y S):=id rfl
@[simp] theorem kChz_t:Jw g c env y S (.bl true)=(c env S).bind (Sn g y):=id rfl
@[simp] theorem kChz_f:Jw g c env y S (.bl false)=Z (.bl false,S):=id rfl
@[simp] theorem kCh3_s:Sn g y (x,S)=(g S y x).bind (sQ S):=id rfl
@[simp] theorem mChain_s:cH f g a b c env S=(a env S).bind (So f g b c env):=by
 rw [pH];unfold M.cH So NB Jw
 congr 1
def yh(q:D×ab):Option (Bool×ab):=(rE q.2 q.1).bind λk=>Z (k,q.2)
@[simp] theorem gb:yh (.bl k,S)=Z (k,S):=id rfl
@[simp] theorem kTru_n:yh (.non,S)=Z (false,S):=id rfl
@[simp] theorem kTru_i{i:Int}:yh (.int i,S)=Z (i != 0,S):=id rfl
@[simp] theorem kTru_t{xs:List D}:yh (.tup xs,S)=Z (!xs.isEmpty,S):=id rfl
@[simp] theorem kTru_l{xs:List D}:yh (.lst xs,S)=Z (!xs.isEmpty,S):=id rfl
@[simp] theorem dR:cG a env S=(a env S).bind yh:=by rw [xY];rfl
def El(u:MT)(env:aW)(q:Bool×ab):Option (Bool×ab):=if q.1=true then u env q.2 else Z (false,q.2)
def RU(u:MT)(env:aW)(q:Bool×ab):Option (Bool×ab):=if q.1=true then Z (true,q.2) else u env q.2
def Pp(q:Bool×ab):Option (Bool×ab):=Z (!q.1,q.2)
@[simp] theorem oT:El u env (true,S)=u env S:=id rfl
@[simp] theorem ym:El u env (false,S)=Z (false,S):=id rfl
@[simp] theorem sR:RU u env (true,S)=Z (true,S):=id rfl
@[simp] theorem gc:RU u env (false,S)=u env S:=id rfl
@[simp] theorem kY:Pp (k,S)=Z (!k,S):=id rfl
@[simp] theorem oP:cM t u env S=(t env S).bind (El u env):=by rw [sK];rfl
@[simp] theorem fc:cX t u env S=(t env S).bind (RU u env):=by rw [xZ];rfl
@[simp] theorem kU:cy t env S=(t env S).bind Pp:=by rw [zX];rfl
@[simp] theorem iF:bx env S=Z (true,S):=by rw [zU];rfl
def Sy(b:ME)(env:aW)(q:D×ab):Option (D×ab):=(rE q.2 q.1).bind λk=>if k=true then b env q.2 else Z (q.1,q.2)
def kOr(b:ME)(env:aW)(q:D×ab):Option (D×ab):=(rE q.2 q.1).bind λk=>if k=true then Z (q.1,q.2) else b env q.2
@[simp] theorem iy:Sy b env (.bl true,S)=b env S:=id rfl
@[simp] theorem sZ:Sy b env (.bl false,S)=Z (.bl false,S):=id rfl
@[simp] theorem Pn:kOr b env (.bl true,S)=Z (.bl true,S):=id rfl
@[simp] theorem Po:kOr b env (.bl false,S)=b env S:=id rfl
@[simp] theorem gG:df a b env S=(a env S).bind (Sy b env):=by rw [Ee];rfl
@[simp] theorem Ja:uj a b env S=(a env S).bind (kOr b env):=by rw [Jb];rfl
def An(q:D×ab):Option (D×ab):=(rE q.2 q.1).bind λk=>Z (.bl (!k),q.2)
@[simp] theorem Nu{xs:List D}:An (.lst xs,S)=Z (.bl (!!xs.isEmpty),S):=id rfl
@[simp] theorem kNotV_t{xs:List D}:An (.tup xs,S)=Z (.bl (!!xs.isEmpty),S):=id rfl
@[simp] theorem kOr_c{d:D}{ds:List D}:kOr b env (.lst (d::ds),S)=Z (.lst (d::ds),S):=id rfl
@[simp] theorem kOr_e:kOr b env (.lst [],S)=b env S:=id rfl
@[simp] theorem Nt:An (.bl k,S)=Z (.bl (!k),S):=id rfl
@[simp] theorem ya:fX a env S=(a env S).bind An:=by rw [zW];rfl
def kIf(a b:ME)(env:aW)(q:Bool×ab):Option (D×ab):=if q.1=true then a env q.2 else b env q.2
@[simp] theorem Ek:kIf a b env (true,S)=a env S:=id rfl
@[simp] theorem Jr:kIf a b env (false,S)=b env S:=id rfl
@[simp] theorem oN:on t a b env S=(t env S).bind (kIf a b env):=by rw [Je];rfl
@[simp] theorem az:ag env S=Z ([],S):=by rw [yb];rfl
def CF(x:D)(q:List D×ab):Option (List D×ab):=Z (x::q.1,q.2)
def Jv(ms:MA)(env:aW)(q:D×ab):Option (List D×ab):=(ms env q.2).bind (CF q.1)
@[simp] theorem am{xs:List D}:CF x (xs,S)=Z (x::xs,S):=id rfl
@[simp] theorem ao:Jv ms env (x,S)=(ms env S).bind (CF x):=id rfl
@[simp] theorem aq:aa a ms env S=(a env S).bind (Jv ms env):=by rw [Af];rfl
def cZ(q:List D×ab):Option (D×ab):=if q.1.length<=sizeLine then Z (.tup q.1,q.2) else U
def Ap(q:List D×ab):Option (D×ab):=if q.1.length<=sizeLine then Z (.lst q.1,q.2) else U
def Ei(q:List D×ab):Option (D×ab):=if q.1.length<=sizeLine then Z (.ref q.2.length,q.2++[.lst q.1]) else U
def sz{n:Nat}(h:n<=1000):n<=sizeLine:=UV h (by decide)
def bi{xs:List D}(h:xs.length<=1000):cZ (xs,S)=Z (.tup xs,S):=if_pos (sz h)
def mE{xs:List D}(h:xs.length<=1000):Ap (xs,S)=Z (.lst xs,S):=if_pos (sz h)
def Ao{xs:List D}(h:xs.length<=1000):Ei (xs,S)=Z (.ref S.length,S++[.lst xs]):=if_pos (sz h)
@[simp] theorem bD:aX ms env S=(ms env S).bind cZ:=by rw [DP];rfl
@[simp] theorem mLst_s:iq ms env S=(ms env S).bind Ap:=by rw [DX];rfl
@[simp] theorem Nj:eM ms env S=(ms env S).bind Ei:=by rw [zZ];rfl
def Ps(f:List D->ab->Option (D×ab))(q:List D×ab):Option (D×ab):=f q.1 q.2
@[simp] theorem cw{f:List D->ab->Option (D×ab)}{xs:List D}:Ps f (xs,S)=f xs S:=id rfl
@[simp] theorem cu{f:List D->ab->Option (D×ab)}:bn f ms env S=(ms env S).bind (Ps f):=by rw [fZ];rfl
def pN(n:Nat)(f:List D->ab->Option (D×ab))(q:List D×ab):Option (D×ab):=if q.1.length=n then f q.1 q.2 else U
@[simp] theorem kCallN_0{f:List D->ab->Option (D×ab)}:pN 0 f ([],S)=f [] S:=id rfl
@[simp] theorem lH{f:List D->ab->Option (D×ab)}:pN 1 f ([x],S)=f [x] S:=id rfl
@[simp] theorem aV{f:List D->ab->Option (D×ab)}:pN 2 f ([x,y],S)=f [x,y] S:=id rfl
@[simp] theorem bP{f:List D->ab->Option (D×ab)}{z:D}:pN 3 f ([x,y,z],S)=f [x,y,z] S:=id rfl
@[simp] theorem Jx{f:List D->ab->Option (D×ab)}{z w:D}:pN 4 f ([x,y,z,w],S)=f [x,y,z,w] S:=id rfl
@[simp] theorem aD{n:Nat}{f:List D->ab->Option (D×ab)}:ai n f ms env S=(ms env S).bind (pN n f):=by rw [pI];rfl
def kIsI(T:String)(q:D×ab):Option (D×ab):=(tL T q.2 q.1).bind (sQ q.2)
@[simp] theorem pM{T:String}:kIsI T (x,S)=(tL T S x).bind (sQ S):=id rfl
@[simp] theorem pF{T:String}:ir T a env S=(a env S).bind (kIsI T):=by rw [DY];rfl
def kUn(f:ab->D->Option D)(q:D×ab):Option (D×ab):=(f q.2 q.1).bind (sQ q.2)
@[simp] theorem kUn_s{f:ab->D->Option D}:kUn f (x,S)=(f S x).bind (sQ S):=id rfl
@[simp] theorem mUn_s{f:ab->D->Option D}:yP f a env S=(a env S).bind (kUn f):=by rw [IY];rfl
@[simp] theorem jc:cb env S=Z (U,S):=by rw [vE];rfl
def Pm(q:D×ab):Option (Option Int×ab):=match q.1 with | .int i=>Z (Z i,q.2) | _=>U
@[simp] theorem kW{i:Int}:Pm (.int i,S)=Z (Z i,S):=id rfl
@[simp] theorem kT:cW a env S=(a env S).bind Pm:=by rw [zV];rfl
def sP(x:D)(l:Option Int)(q:Option Int×ab):Option (D×ab):=match x with
 | .tup xs=>Z (.tup (lb xs l q.1),q.2)
 | .lst xs=>Z (.lst (lb xs l q.1),q.2)
 | .rol xs=>Z (.lst (lb xs l q.1),q.2)
 | .ref r=>match q.2[r]? with | some (.lst xs)=>Z (.lst (lb xs l q.1),q.2) | _=>U
 | _=>U
def RR(hi:MO)(env:aW)(x:D)(q:Option Int×ab):Option (D×ab):=(hi env q.2).bind (sP x q.1)
def kSl1(lo hi:MO)(env:aW)(q:D×ab):Option (D×ab):=(lo env q.2).bind (RR hi env q.1)
@[simp] theorem nS{lo hi:MO}:kSl1 lo hi env (x,S)=(lo env S).bind (RR hi env x):=id rfl
@[simp] theorem nR{hi:MO}{l:Option Int}:RR hi env x (l,S)=(hi env S).bind (sP x l):=id rfl
@[simp] theorem yi{xs:List D}{l h:Option Int}:sP (.tup xs) l (h,S)=Z (.tup (lb xs l h),S):=id rfl
@[simp] theorem kSl3_l{xs:List D}{l h:Option Int}:sP (.lst xs) l (h,S)=Z (.lst (lb xs l h),S):=id rfl
@[simp] theorem kSl3_r{xs:List D}{l h:Option Int}:sP (.rol xs) l (h,S)=Z (.lst (lb xs l h),S):=id rfl
@[simp] theorem jb{lo hi:MO}:ca a lo hi env S=(a env S).bind (kSl1 lo hi env):=by rw [vD];rfl
@[simp] theorem bm:aR env S=Z (.nx env S):=by rw [oM];rfl
def Jo(q:MS):oi->Option oi
 | .nx e S=>q e S
 | .rt d S=>Z (.rt d S)
 | .bk e S=>Z (.bk e S)
 | .ct e S=>Z (.ct e S)
@[simp] theorem aI:Jo q (.nx e S)=q e S:=id rfl
@[simp] theorem bN:Jo q (.rt d S)=Z (.rt d S):=id rfl
@[simp] theorem kSeq_bk:Jo q (.bk e S)=Z (.bk e S):=id rfl
@[simp] theorem kSeq_ct:Jo q (.ct e S)=Z (.ct e S):=id rfl
@[simp] theorem ba:aA p q env S=(p env S).bind (Jo q):=by rw [DQ];unfold M.aA;congr 1;funext o;cases o <;> rfl
def kRt(q:D×ab):Option oi:=Z (.rt q.1 q.2)
@[simp] theorem bg:kRt (d,S)=Z (.rt d S):=id rfl
@[simp] theorem aP:aJ a env S=(a env S).bind kRt:=by rw [DR];rfl
def Pq(env:aW)(q:D×ab):Option oi:=Z (.nx env q.2)
@[simp] theorem Nx:Pq env (d,S)=Z (.nx env S):=id rfl
@[simp] theorem Nk:fJ a env S=(a env S).bind (Pq env):=by rw [Ac];rfl
def Nw(p q:MS)(env:aW)(r:Bool×ab):Option oi:=if r.1=true then p env r.2 else q env r.2
@[simp] theorem bX:Nw p q env (true,S)=p env S:=id rfl
@[simp] theorem bA:Nw p q env (false,S)=q env S:=id rfl
@[simp] theorem bv:bu t p q env S=(t env S).bind (Nw p q env):=by rw [DZ];rfl
def kNx(q:aW×ab):Option oi:=Z (.nx q.1 q.2)
@[simp] theorem cj:kNx (e,S)=Z (.nx e S):=id rfl
def kAsg(tg:MG)(env:aW)(q:D×ab):Option oi:=(tg q.1 env q.2).bind kNx
@[simp] theorem bI:kAsg tg env (d,S)=(tg d env S).bind kNx:=id rfl
@[simp] theorem bH:aS a tg env S=(a env S).bind (kAsg tg env):=by rw [ga];rfl
@[simp] theorem bd{i:Nat}:ah i d env S=Z (env.set i (Z d),S):=by rw [mK];rfl
@[simp] theorem cE:aQ [] env S=Z (env,S):=by rw [AE];rfl
def kGs(gs:ug)(r:List D)(q:aW×ab):Option (aW×ab):=gs r q.1 q.2
@[simp] theorem eE{gs:ug}{r:List D}:kGs gs r (e,S)=gs r e S:=id rfl
@[simp] theorem bQ{gs:ug}{r:List D}:af tg gs (d::r) env S=(tg d env S).bind (kGs gs r):=by rw [wf];rfl
def gTupD_of{n:Nat}{gs:ug}{xs:List D}(h:xs.length=n):aY n gs (.tup xs) env S=gs xs env S:=by rw [lL];exact if_pos h
@[simp] theorem dg{gs:ug}:aY 2 gs (.tup [x,y]) env S=gs [x,y] env S:=by rw [lL];rfl
@[simp] theorem Es{gs:ug}{z:D}:aY 3 gs (.tup [x,y,z]) env S=gs [x,y,z] env S:=by rw [lL];rfl
@[simp] theorem rj{gs:ug}{z w:D}:aY 4 gs (.tup [x,y,z,w]) env S=gs [x,y,z,w] env S:=by rw [lL];rfl
def Am(env:aW)(d:D)(r:Nat)(k:Int)(S:ab):Option (aW×ab):=match S[r]? with
 | some (.lst xs)=>(CH xs.length k).bind λj=>Z (env,S.set r (.lst (xs.set j d)))
 | _=>U
def Eh(env:aW)(d o:D)(q:D×ab):Option (aW×ab):=match o,q.1 with
 | .ref r,.int k=>Am env d r k q.2
 | _,_=>U
def Jn(i:ME)(env:aW)(d:D)(q:D×ab):Option (aW×ab):=(i env q.2).bind (Eh env d q.1)
@[simp] theorem kSub1_s:Jn a env d (x,S)=(a env S).bind (Eh env d x):=id rfl
@[simp] theorem kSub2_s{r:Nat}{i:Int}:Eh env d (.ref r) (.int i,S)=Am env d r i S:=id rfl
def sO{r:Nat}{i:Int}{xs:List D}{j:Nat}(h:S[r]?=Z (.lst xs))(hj:CH xs.length i=Z j):Am env d r i S=Z (env,S.set r (.lst (xs.set j d))):=by
 unfold Am;rw [h];show (CH xs.length i).bind _=_;rw [hj];rfl
@[simp] theorem gSubD_s:dS a b d env S=(a env S).bind (Jn b env d):=by
 rw [AD];unfold M.dS Jn Eh Am;congr 1
def kFor(tg:MG)(p:MS)(env:aW)(q:List D×ab):Option oi:=cz tg p q.1 env q.2
@[simp] theorem sU{xs:List D}:kFor tg p env (xs,S)=cz tg p xs env S:=id rfl
@[simp] theorem sH:gt ms tg p env S=(ms env S).bind (kFor tg p env):=by rw [Ea];rfl
def FO(tg:MG)(p:MS)(xs:List D):oi->Option oi
 | .nx e s=>cz tg p xs e s
 | .ct e s=>cz tg p xs e s
 | .bk e s=>Z (.nx e s)
 | .rt d s=>Z (.rt d s)
def kLp1(tg:MG)(p:MS)(xs:List D)(q:aW×ab):Option oi:=(p q.1 q.2).bind (FO tg p xs)
@[simp] theorem nU{xs:List D}:kLp1 tg p xs (e,S)=(p e S).bind (FO tg p xs):=id rfl
@[simp] theorem mF{xs:List D}:FO tg p xs (.nx e S)=cz tg p xs e S:=id rfl
@[simp] theorem kLp2_ct{xs:List D}:FO tg p xs (.ct e S)=cz tg p xs e S:=id rfl
@[simp] theorem kLp2_bk{xs:List D}:FO tg p xs (.bk e S)=Z (.nx e S):=id rfl
@[simp] theorem Ej{xs:List D}:FO tg p xs (.rt d S)=Z (.rt d S):=id rfl
@[simp] theorem vH:cz tg p [] env S=Z (.nx env S):=id rfl
def fe{xs:List D}:cz tg p (d::xs) env S=(tg d env S).bind (kLp1 tg p xs):=by
 show (tg d env S).bind _=_
 first | rfl | (congr 1;funext q;show (p q.1 q.2).bind _=(p q.1 q.2).bind _;congr 1;funext o;cases o <;> rfl)
def Aq(q:D×ab):Option (List D×ab):=match q.1 with | .lst xs=>Z (xs,q.2) | .rol xs=>Z (xs,q.2) | .tup xs=>Z (xs,q.2) | _=>U
@[simp] theorem Jq{xs:List D}:Aq (.lst xs,S)=Z (xs,S):=id rfl
@[simp] theorem kItS_r{xs:List D}:Aq (.rol xs,S)=Z (xs,S):=id rfl
@[simp] theorem sT{xs:List D}:Aq (.tup xs,S)=Z (xs,S):=id rfl
@[simp] theorem dL:cC a env S=(a env S).bind Aq:=by rw [qY];rfl
def Nq(q:List D×ab):Option (List D×ab):=match q.1 with | [.int j]=>if -(2 ^ 62)<=j/\j<2 ^ 62 then Z (cQ 0 j.toNat,q.2) else U | _=>U
def nT{j:Int}(h:-1000000<=j)(h':j<=1000000):Nq ([.int j],S)=Z (cQ 0 j.toNat,S):=if_pos ⟨by omega,by omega⟩
@[simp] theorem gF:bq ms env S=(ms env S).bind Nq:=by rw [nO];rfl
def kR2(q:List D×ab):Option (List D×ab):=match q.1 with | [.int i,.int j]=>if -(2 ^ 62)<=i/\i<2 ^ 62/\-(2 ^ 62)<=j/\j<2 ^ 62 then Z (cQ i (j - i).toNat,q.2) else U | _=>U
@[simp] theorem mRange2_s:cR ms env S=(ms env S).bind kR2:=by rw [sE];rfl
def CG(q:List D×ab):Option (D×ab):=Z (.lst q.1,q.2)
def oS(g:MG)(t:MT)(e:ME)(cap:List (Option Nat))(env:aW)(q:List D×ab):Option (D×ab):=if q.1.length<=sizeLine then (dN g t e q.1 (nu cap env) q.2).bind CG else U
def jW{cap:List (Option Nat)}{xs:List D}(h:xs.length<=1000):oS tg t a cap env (xs,S)=(dN tg t a xs (nu cap env) S).bind CG:=if_pos (sz h)
@[simp] theorem jX{xs:List D}:CG (xs,S)=Z (.lst xs,S):=id rfl
@[simp] theorem cK{cap:List (Option Nat)}:bE ms tg t a cap env S=(ms env S).bind (oS tg t a cap env):=by rw [sI];rfl
def Sl(x:D)(q:List D×ab):Option (List D×ab):=Z (x::q.1,q.2)
def Sm(g:MG)(t:MT)(e:ME)(xs:List D)(env:aW)(q:D×ab):Option (List D×ab):=(dN g t e xs env q.2).bind (Sl q.1)
def NA(g:MG)(t:MT)(e:ME)(xs:List D)(env:aW)(q:Bool×ab):Option (List D×ab):=if q.1=true then (e env q.2).bind (Sm g t e xs env) else dN g t e xs env q.2
def kCl1(g:MG)(t:MT)(e:ME)(xs:List D)(q:aW×ab):Option (List D×ab):=(t q.1 q.2).bind (NA g t e xs q.1)
@[simp] theorem sY{xs:List D}:kCl1 tg t a xs (e,S)=(t e S).bind (NA tg t a xs e):=id rfl
@[simp] theorem sX{xs:List D}:NA tg t a xs e (true,S)=(a e S).bind (Sm tg t a xs e):=id rfl
@[simp] theorem yl{xs:List D}:NA tg t a xs e (false,S)=dN tg t a xs e S:=id rfl
@[simp] theorem sW{xs:List D}:Sm tg t a xs e (d,S)=(dN tg t a xs e S).bind (Sl d):=id rfl
@[simp] theorem sV{xs:List D}:Sl d (xs,S)=Z (d::xs,S):=id rfl
@[simp] theorem Cz:dN tg t a [] env S=Z ([],S):=id rfl
def gU{xs:List D}:dN tg t a (d::xs) env S=(tg d env S).bind (kCl1 tg t a xs):=id rfl
def Sr(x:D)(q:List D×aW×ab):Option (List D×aW×ab):=Z (x::q.1,q.2)
def Su(g:MG)(t:MT)(e:ME)(xs:List D)(env:aW)(q:D×ab):Option (List D×aW×ab):=(iw g t e xs env q.2).bind (Sr q.1)
def Sw(g:MG)(t:MT)(e:ME)(xs:List D)(env:aW)(q:Bool×ab):Option (List D×aW×ab):=if q.1=true then (e env q.2).bind (Su g t e xs env) else iw g t e xs env q.2
def kCe1(g:MG)(t:MT)(e:ME)(xs:List D)(q:aW×ab):Option (List D×aW×ab):=(t q.1 q.2).bind (Sw g t e xs q.1)
def Sx{xs:List D}:kCe1 tg t a xs (e,S)=(t e S).bind (Sw tg t a xs e):=id rfl
def Sv{xs:List D}:Sw tg t a xs e (true,S)=(a e S).bind (Su tg t a xs e):=id rfl
def Ss{xs:List D}:Su tg t a xs e (d,S)=(iw tg t a xs e S).bind (Sr d):=id rfl
def Sq{xs:List D}:Sr d (xs,e,S)=Z (d::xs,e,S):=id rfl
def CA:iw tg t a [] env S=Z ([],env,S):=id rfl
def Ah{xs:List D}:iw tg t a (d::xs) env S=(tg d env S).bind (kCe1 tg t a xs):=id rfl
def Sa(r:List D)(z:List D×ab):Option (List D×ab):=Z (r++z.1,z.2)
def Sd(g:MG)(t:MT)(mi:MA)(g2:MG)(t2:MT)(e:ME)(xs:List D)(r:List D×aW×ab):Option (List D×ab):=(iu g t mi g2 t2 e xs r.2.1 r.2.2).bind (Sa r.1)
def Sf(g:MG)(t:MT)(mi:MA)(g2:MG)(t2:MT)(e:ME)(xs:List D)(env:aW)(q:List D×ab):Option (List D×ab):=(iw g2 t2 e q.1 env q.2).bind (Sd g t mi g2 t2 e xs)
def Sh(g:MG)(t:MT)(mi:MA)(g2:MG)(t2:MT)(e:ME)(xs:List D)(env:aW)(q:Bool×ab):Option (List D×ab):=if q.1=true then (mi env q.2).bind (Sf g t mi g2 t2 e xs env) else iu g t mi g2 t2 e xs env q.2
def kCo1(g:MG)(t:MT)(mi:MA)(g2:MG)(t2:MT)(e:ME)(xs:List D)(q:aW×ab):Option (List D×ab):=(t q.1 q.2).bind (Sh g t mi g2 t2 e xs q.1)
section
variable{g2:MG}{t2:MT}{xs:List D}{mi2:MA}
def Si:kCo1 tg t mi2 g2 t2 a xs (e,S)=(t e S).bind (Sh tg t mi2 g2 t2 a xs e):=id rfl
def Sg:Sh tg t mi2 g2 t2 a xs e (true,S)=(mi2 e S).bind (Sf tg t mi2 g2 t2 a xs e):=id rfl
def Se{us:List D}:Sf tg t mi2 g2 t2 a xs e (us,S)=(iw g2 t2 a us e S).bind (Sd tg t mi2 g2 t2 a xs):=id rfl
def Sb{us:List D}:Sd tg t mi2 g2 t2 a xs (us,e,S)=(iu tg t mi2 g2 t2 a xs e S).bind (Sa us):=id rfl
def RZ{us:List D}:Sa us (xs,S)=Z (us++xs,S):=id rfl
def Cy:iu tg t mi2 g2 t2 a [] env S=Z ([],S):=id rfl
def Ag:iu tg t mi2 g2 t2 a (d::xs) env S=(tg d env S).bind (kCo1 tg t mi2 g2 t2 a xs):=id rfl
def RY(q:List D×ab):Option (D×ab):=if q.1.length<=sizeLine then Z (.lst q.1,q.2) else U
def Ny(h:xs.length<=1000):RY (xs,S)=Z (.lst xs,S):=if_pos (sz h)
def Sk(g:MG)(t:MT)(mi:MA)(g2:MG)(t2:MT)(e:ME)(cap:List (Option Nat))(env:aW)(q:List D×ab):Option (D×ab):=(iu g t mi g2 t2 e q.1 (nu cap env) q.2).bind RY
def Sj{cap:List (Option Nat)}:Sk tg t mi2 g2 t2 a cap env (xs,S)=(iu tg t mi2 g2 t2 a xs (nu cap env) S).bind RY:=id rfl
def Ai{cap:List (Option Nat)}:cA ms tg t mi2 g2 t2 a cap env S=(ms env S).bind (Sk tg t mi2 g2 t2 a cap env):=by rw [pG];rfl
end
def yk(n:Nat)(f:List D->ab->Option (D×ab))(q:List D×ab):Option oi:=if q.1.length=n then (f q.1 q.2).bind kRt else U
def Pr(l:List (bC×Nat×(List D->ab->Option (D×ab))))(i:Nat)(ms:MA)(env:aW)(q:D×ab):Option oi:=(gW q.1).bind λk=>(yT l k).bind λp=>(ms (env.set i U) q.2).bind (yk p.1 p.2)
def Jt{l:List (bC×Nat×(List D->ab->Option (D×ab)))}{i n:Nat}{f:List D->ab->Option (D×ab)}{k:bC}(h:gW d=Z k)(h':yT l k=Z (n,f)):Pr l i ms env (d,S)=(ms (env.set i U) S).bind (yk n f):=by
 show (gW d).bind _=_
 rw [h];show (yT l k).bind _=_;rw [h'];rfl
def FR{n:Nat}{f:List D->ab->Option (D×ab)}{xs:List D}(h:xs.length=n):yk n f (xs,S)=(f xs S).bind kRt:=if_pos h
def Nl{l:List (bC×Nat×(List D->ab->Option (D×ab)))}{i:Nat}:fY l i a ms env S=(a env S).bind (Pr l i ms env):=by rw [Ad];rfl
@[simp] theorem tR{i j:Int}:bJ S (.int i) (.int j)=Z (.int (i+j)):=id rfl
def tQ{xs ys:List D}(h:xs.length+ys.length<=1000):bJ S (.tup xs) (.tup ys)=Z (.tup (xs++ys)):=if_pos (sz h)
def Kb{xs ys:List D}(h:xs.length+ys.length<=1000):bJ S (.lst xs) (.lst ys)=Z (.lst (xs++ys)):=if_pos (sz h)
@[simp] theorem yv{i j:Int}:qP S (.int i) (.int j)=Z (.int (i - j)):=id rfl
@[simp] theorem fLt_i{i j:Int}:SO S (.int i) (.int j)=Z (.bl (decide (i<j))):=id rfl
@[simp] theorem fLe_i{i j:Int}:SR S (.int i) (.int j)=Z (.bl (decide (i<=j))):=id rfl
@[simp] theorem qF{i j:Int}:yR S (.int i) (.int j)=Z (.bl (decide (j<i))):=id rfl
@[simp] theorem fGe_i{i j:Int}:fGe S (.int i) (.int j)=Z (.bl (decide (j<=i))):=id rfl
@[simp] theorem fNeg_i{i:Int}:SL S (.int i)=Z (.int (-i)):=id rfl
def ji{i j:Int}(h:0<j):la S (.int i) (.int j)=Z (.int (i % j)):=if_pos (Uo h)
def JZ{i j:Int}(h:0<j)(h':j<1073741824):Gd S (.int i) (.int j)=Z (.int (i / j)):=if_pos (by show (decide (0<j)&&decide (j<1073741824))=true;rw [Uo h,Uo h'];rfl)
def JS{i j:Int}(h:(decide (0<=j)&&decide (j<=1000000)&&decide (i.natAbs<2 ^ 64))=true):uJ S (.int i) (.int j)=Z (.int (i ^ j.toNat)):=if_pos h
def jG{i j:Int}(h:oF i j=true):cS S (.int i) (.int j)=Z (.int (i * j)):=if_pos h
def sh{i j:Int}(h:-18446744073709551616<i)(h':i<18446744073709551616):oF i j=true:=by
 unfold oF;rw [Uo (p:=i.natAbs<18446744073709551616) (by omega)];rfl
def xJ{i j:Int}(h:-18446744073709551616<j)(h':j<18446744073709551616):oF i j=true:=by
 unfold oF;rw [Uo (p:=j.natAbs<18446744073709551616) (by omega)];simp
@[simp] theorem fIx_t{xs:List D}{i:Int}:aE S (.tup xs) (.int i)=oa xs i:=id rfl
@[simp] theorem fIx_l{xs:List D}{i:Int}:aE S (.lst xs) (.int i)=oa xs i:=id rfl
@[simp] theorem fIx_r{xs:List D}{i:Int}:aE S (.rol xs) (.int i)=oa xs i:=id rfl
def pi{r:Nat}{xs:List D}{i:Int}(h:S[r]?=Z (.lst xs)):aE S (.ref r) (.int i)=oa xs i:=by
 have:iD S (.ref r)=Z xs:=by simp only [iD,h]
 have t:EW S (.ref r)=U:=by simp only [EW,h]
 unfold aE;rw [t]
 show (iD S (.ref r)).bind _=_;rw [this];rfl
def Lu{α:Type}{xs:List α}{i:Int}(h0:0<=i)(h:i<xs.length):oa xs i=Z (xs[i.toNat]'(by omega)):=by
 unfold oa CH;rw [if_pos h0,if_pos h];show xs[i.toNat]?=_;rw [Uq]
@[simp] theorem yx{xs:List D}:aT eI [.tup xs] S=Z (.int xs.length,S):=id rfl
@[simp] theorem yy{xs:List D}:aT eI [.lst xs] S=Z (.int xs.length,S):=id rfl
@[simp] theorem SQ{xs:List D}:aT eI [.rol xs] S=Z (.int xs.length,S):=id rfl
@[simp] theorem fInt1_i{i:Int}:aT wm [.int i] S=Z (.int i,S):=id rfl
@[simp] theorem fInt1_b:aT wm [.bl k] S=Z (.int (if k then 1 else 0),S):=id rfl
@[simp] theorem NM{i j:Int}:aT ph [.int i,.int j] S=Z (.int (if j>i then j else i),S):=id rfl
@[simp] theorem NL{i j:Int}:aT AM [.int i,.int j] S=Z (.int (if j<i then j else i),S):=id rfl
@[simp] theorem fSeq1_t{g:List D->D}{xs:List D}:aT (dc g) [.tup xs] S=Z (g xs,S):=id rfl
@[simp] theorem jw{g:List D->D}{xs:List D}:aT (dc g) [.lst xs] S=Z (g xs,S):=id rfl
def CN{xs:List D}{bs:List Bool}(h:gO xs=Z bs):aT uK [.lst xs] S=Z (.bl (bs.all id),S):=by
 show ((gO xs).bind _).bind _=_;rw [h];rfl
@[simp] theorem jx:AO S x .non=Z (.bl (oU x .non)):=id rfl
@[simp] theorem fIs_b:AO S x (.bl k)=Z (.bl (oU x (.bl k))):=id rfl
@[simp] theorem AN:dm S x .non=Z (.bl (!oU x .non)):=id rfl
@[simp] theorem fIsNot_b:dm S x (.bl k)=Z (.bl (!oU x (.bl k))):=id rfl
def jH(h:ci 40 x=true)(h':ci 40 y=true):cI S x y=Z (.bl (js x y)):=by
 unfold cI;rw [EG h,EG h'];exact if_pos ⟨h,h'⟩
def pR(h:ci 40 x=true)(h':ci 40 y=true):eV S x y=Z (.bl (!js x y)):=if_pos ⟨h,h'⟩
@[simp] theorem jI{i j:Int}:cI S (.int i) (.int j)=Z (.bl (i == j)):=jH (by simp [ci]) (by simp [ci])
@[simp] theorem JV{i j:Int}:eV S (.int i) (.int j)=Z (.bl (!(i == j))):=pR (by simp [ci]) (by simp [ci])
@[simp] theorem fEq_bb:cI S (.bl k) (.bl l)=Z (.bl (k == l)):=jH (by simp [ci]) (by simp [ci])
@[simp] theorem dC{i j:Str}:cI S (.str i) (.str j)=Z (.bl (i == j)):=jH (by simp [ci]) (by simp [ci])
@[simp] theorem yw{i j:Str}:eV S (.str i) (.str j)=Z (.bl (!(i == j))):=pR (by simp [ci]) (by simp [ci])
def lO{ys:List D}(hs:iD S y=Z ys)(h:ci 40 x=true)(h':ys.all (ci 39)=true):nk S x y=Z (.bl (ys.any λd=>js d x)):=by
 unfold nk;rw [hs];exact if_pos ⟨h,h'⟩
def NK{xs:List D}{k:Int}(h0:0<=k)(h1:k<=100000)(h:xs.length * k.toNat<=1000):cS S (.tup xs) (.int k)=Z (.tup (List.replicate k.toNat xs).flatten):=if_pos ⟨by omega,by omega,sz h⟩
def gd(f:MF)(x:D)(q:List D×ab):Option (D×ab):=f x q.1 q.2
def vM(f:MF)(ms:MA)(env:aW)(q:D×ab):Option (D×ab):=if pJ q.2 q.1=true then (ms env q.2).bind (gd f q.1) else U
@[simp] theorem DV{f:MF}:fH f a ms env S=(a env S).bind (vM f ms env):=by rw [zY];rfl
@[simp] theorem kMeth_l{f:MF}{xs:List D}:vM f ms env (.lst xs,S)=(ms env S).bind (gd f (.lst xs)):=id rfl
def Nv{f:MF}{r:Nat}{xs:List D}(h:S[r]?=Z (.lst xs)):vM f ms env (.ref r,S)=(ms env S).bind (gd f (.ref r)):=by
 unfold vM;exact if_pos (by simp only [pJ,h])
@[simp] theorem sS{f:MF}{xs:List D}:gd f x (xs,S)=f x xs S:=id rfl
def Gf{r:Nat}{xs:List D}(h:S[r]?=Z (.lst xs))(hz:xs.length<1000):jy (.ref r) [y] S=Z (.non,S.set r (.lst (xs++[y]))):=by
 simp only [jy,h];exact if_pos (UI hz (by decide))
def Js(q:List D×ab):Option (List D×ab):=match q.1 with | [.tup xs]=>Z (fS 0 xs,q.2) | _=>U
@[simp] theorem kEnum_s{xs:List D}:Js ([.tup xs],S)=Z (fS 0 xs,S):=id rfl
@[simp] theorem Eb:fI ms env S=(ms env S).bind Js:=by rw [Ab];rfl
def Eo{ns:List Int}(h:ns.length<64):qp S (.lst (ns.map .int))=Z ns:=by
 unfold qp
 rw [if_pos (show pJ S (.lst (ns.map D.int))=true from rfl)]
 show (nX (ns.map D.int)).bind _=_
 rw [tm];exact if_pos h
def mG(q:List D×ab):Option (D×ab):=(mM q.2 q.1).bind (sQ q.2)
@[simp] theorem vG:cr ms env S=(ms env S).bind mG:=by rw [sG];rfl
def vN{ns:List Int}(h:ns.length<64):mG ([.lst (ns.map .int)],S)=Z (.int (pS ns:Nat),S):=by
 show (mM S [.lst (ns.map D.int)]).bind _=_
 have e:mM S [.lst (ns.map D.int)]=Z (.int (pS ns:Nat)):=by simp only [mM,Eo h]
 rw [e];rfl
def FQ:mG ([.lst []],S)=Z (.int 0,S):=by
 have h:=vN (S:=S) (ns:=[]) (by decide)
 rw [show pS []=0 from rfl] at h
 exact h
def FP{x:Str}:mG ([.lst [.str x]],S)=Z (.int 1,S):=id rfl
def kPar(i j:Nat)(env:aW)(q:List D×ab):Option oi:=match q.1 with | [v,w]=>Z (.nx ((env.set i (Z v)).set j (Z w)) q.2) | _=>U
@[simp] theorem IZ{i j:Nat}:jr i j ms env S=(ms env S).bind (kPar i j env):=by rw [DU];rfl
@[simp] theorem Jp{i j:Nat}:kPar i j env ([x,y],S)=Z (.nx ((env.set i (Z x)).set j (Z y)) S):=id rfl
def Nz(ms:MA)(env:aW)(q:D×ab):Option (D×ab):=if Hz q.1=true then (ms env q.2).bind (gd iH q.1) else if pJ q.2 q.1=true then (ms env q.2).bind (gd mN q.1) else U
@[simp] theorem RC:jV a ms env S=(a env S).bind (Nz ms env):=by rw [Ed];rfl
@[simp] theorem kCnt_t{xs:List D}:Nz ms env (.tup xs,S)=(ms env S).bind (gd iH (.tup xs)):=id rfl
@[simp] theorem kCnt_l{xs:List D}:Nz ms env (.lst xs,S)=(ms env S).bind (gd mN (.lst xs)):=id rfl
def Ge{xs:List D}(h:ci 40 x=true)(h':xs.all (ci 39)=true):iH (.tup xs) [x] S=Z (.int (xs.countP λd=>js d x),S):=by
 show (if Hz (.tup xs)=true then tP (.tup xs) [x] S else U)=_
 rw [if_pos (show Hz (.tup xs)=true from rfl)]
 exact if_pos ⟨h,h'⟩
def RS(k:bC)(d:D)(z:List (bC×D)×ab):Option (List (bC×D)×ab):=Z ((k,d)::z.1,z.2)
def Nr(r:List (ME×ME))(env:aW)(k:bC)(q:D×ab):Option (List (bC×D)×ab):=(jD r env q.2).bind (RS k q.1)
def kPr2(b:ME)(r:List (ME×ME))(env:aW)(S:ab)(k:bC):Option (List (bC×D)×ab):=(b env S).bind (Nr r env k)
def RT(b:ME)(r:List (ME×ME))(env:aW)(q:D×ab):Option (List (bC×D)×ab):=(gW q.1).bind (kPr2 b r env q.2)
@[simp] theorem Ry:jD [] env S=Z ([],S):=id rfl
@[simp] theorem Pi{r:List (ME×ME)}:jD ((a,b)::r) env S=(a env S).bind (RT b r env):=id rfl
@[simp] theorem kPr1_i{i:Int}{r:List (ME×ME)}:RT b r env (.int i,S)=(b env S).bind (Nr r env (.inl i)):=id rfl
@[simp] theorem kPr1_s{i:Str}{r:List (ME×ME)}:RT b r env (.str i,S)=(b env S).bind (Nr r env (.inr i)):=id rfl
@[simp] theorem kPr3_s{k:bC}{r:List (ME×ME)}:Nr r env k (d,S)=(jD r env S).bind (RS k d):=id rfl
@[simp] theorem kPr4_s{k:bC}{z:List (bC×D)}:RS k d (z,S)=Z ((k,d)::z,S):=id rfl
def Ju(z:List (bC×D)×ab):Option (D×ab):=if z.1.length<=15 then Z (.dct ((eZ [] z.1).map (·.1)) ((eZ [] z.1).map (·.2)),z.2) else U
def RX(z:List (bC×D)×ab):Option (D×ab):=if z.1.length<=15 then Z (.ref z.2.length,z.2++[.dct ((eZ [] z.1).map (·.1)) ((eZ [] z.1).map (·.2))]) else U
@[simp] theorem mDict_s{ps:List (ME×ME)}:gu ps env S=(jD ps env S).bind Ju:=by rw [Ae];rfl
@[simp] theorem mDictR_s{ps:List (ME×ME)}:dM ps env S=(jD ps env S).bind RX:=by rw [vI];rfl
theorem Av{k:bC}:∀ {l:List (bC×D)},k ∉ l.map (·.1)->FY l k=false
 | [],_=>rfl
 | p::r,h=>by
  rw [Uy,UO,not_or] at h
  unfold FY;rw [if_neg (λz=>h.1 z.symm)];exact Av h.2
theorem si:∀ {l m:List (bC×D)},((m++l).map (·.1)).Nodup->eZ m l=m++l
 | [],m,_=>by rw [UX];rfl
 | p::r,m,h=>by
  show eZ (Ib m p.1 p.2) r=_
  have hn:p.1 ∉ m.map (·.1):=by
   rw [Vl,Uy,Vv] at h
   intro z;exact h.2.2 _ z _ Ul rfl
  unfold Ib;rw [Av hn,if_neg Bool.false_ne_true]
  rw [si (by rw [Vw];exact h),Vw];rfl
def FA{l:List (bC×D)}(h:(l.map (·.1)).Nodup):eZ [] l=l:=si (m:=[]) h
@[simp] theorem fIx_dct{ks:List bC}{vs:List D}:aE S (.dct ks vs) y=(gW y).bind (mX (ks.zip vs)):=id rfl
def kDict_nd{l:List (bC×D)}(h:(l.map (·.1)).Nodup)(hl:l.length<=15):Ju (l,S)=Z (.dct (l.map (·.1)) (l.map (·.2)),S):=by
 unfold Ju;rw [if_pos hl];simp only [FA h]
def yj(f:MF)(ms:MA)(env:aW)(q:D×ab):Option (D×ab):=if Lc q.2 q.1=true then (ms env q.2).bind (gd f q.1) else U
def sN(l:List (bC×D))(q:D×ab):Option (D×ab):=(gW q.1).bind λk=>(mX l k).bind λd=>Z (d,q.2)
@[simp] theorem sD{l:List (bC×D)}:cT l a env S=(a env S).bind (sN l):=by rw [vC];rfl
@[simp] theorem mMethD_s{f:MF}:dJ f a ms env S=(a env S).bind (yj f ms env):=by rw [vF];rfl
@[simp] theorem kMethD_d{f:MF}{ks:List bC}{vs:List D}:yj f ms env (.dct ks vs,S)=(ms env S).bind (gd f (.dct ks vs)):=id rfl
def kMethD_r{f:MF}{r:Nat}{ks:List bC}{vs:List D}(h:S[r]?=Z (.dct ks vs)):yj f ms env (.ref r,S)=(ms env S).bind (gd f (.ref r)):=by
 unfold yj;exact if_pos (by simp only [Lc,h])
@[simp] theorem valD_nil{k:bC}:mX [] k=U:=id rfl
@[simp] theorem valD_cons{k k':bC}{l:List (bC×D)}:mX ((k',d)::l) k=if k'=k then Z d else mX l k:=id rfl
@[simp] theorem keyOf_i{i:Int}:gW (.int i)=Z (.inl i):=id rfl
@[simp] theorem Nn{i:Str}:gW (.str i)=Z (.inr i):=id rfl
def oR(tg:MG)(p:MS)(env:aW)(q:D×ab):Option oi:=match q.1 with
 | .ref r=>eH tg p r 2000 0 env q.2
 | .lst xs=>cz tg p xs env q.2
 | .rol xs=>cz tg p xs env q.2
 | .tup xs=>cz tg p xs env q.2
 | _=>U
@[simp] theorem qZ:eD a tg p env S=(a env S).bind (oR tg p env):=by rw [Aa];rfl
@[simp] theorem kForD_l{xs:List D}:oR tg p env (.lst xs,S)=cz tg p xs env S:=id rfl
@[simp] theorem kForD_o{xs:List D}:oR tg p env (.rol xs,S)=cz tg p xs env S:=id rfl
@[simp] theorem kForD_t{xs:List D}:oR tg p env (.tup xs,S)=cz tg p xs env S:=id rfl
@[simp] theorem kForD_r{r:Nat}:oR tg p env (.ref r,S)=eH tg p r 2000 0 env S:=id rfl
def FN(tg:MG)(p:MS)(r f i:Nat):oi->Option oi
 | .nx e s=>eH tg p r f i e s
 | .ct e s=>eH tg p r f i e s
 | .bk e s=>Z (.nx e s)
 | .rt d s=>Z (.rt d s)
def kRl1(tg:MG)(p:MS)(r f i:Nat)(q:aW×ab):Option oi:=(p q.1 q.2).bind (FN tg p r f i)
@[simp] theorem kRl1_s{r f i:Nat}:kRl1 tg p r f i (e,S)=(p e S).bind (FN tg p r f i):=id rfl
@[simp] theorem kRl2_nx{r f i:Nat}:FN tg p r f i (.nx e S)=eH tg p r f i e S:=id rfl
@[simp] theorem kRl2_ct{r f i:Nat}:FN tg p r f i (.ct e S)=eH tg p r f i e S:=id rfl
@[simp] theorem kRl2_bk{r f i:Nat}:FN tg p r f i (.bk e S)=Z (.nx e S):=id rfl
@[simp] theorem kRl2_rt{r f i:Nat}:FN tg p r f i (.rt d S)=Z (.rt d S):=id rfl
def RB{r f i:Nat}{xs:List D}(h:S[r]?=Z (.lst xs))(hx:xs.length<=i):eH tg p r (f+1) i env S=Z (.nx env S):=by
 have hx':xs[i]?=U:=by simpa using hx
 unfold eH;rw [h];simp only [hx']
def RQ(t:MT)(p:MS)(f:Nat):oi->Option oi
 | .nx e s=>fW t p f e s
 | .ct e s=>fW t p f e s
 | .bk e s=>Z (.nx e s)
 | .rt d s=>Z (.rt d s)
def kWh(t:MT)(p:MS)(f:Nat)(env:aW)(q:Bool×ab):Option oi:=if q.1=true then (p env q.2).bind (RQ t p f) else Z (.nx env q.2)
@[simp] theorem IW:dA t p env S=fW t p 5000 env S:=by rw [vB];rfl
def FI{f:Nat}:fW t p (f+1) env S=(t env S).bind (kWh t p f env):=by
 show (t env S).bind _=_
 first | rfl | (congr 1;done)
@[simp] theorem kWh_t{f:Nat}:kWh t p f env (true,S)=(p env S).bind (RQ t p f):=id rfl
@[simp] theorem kWh_f{f:Nat}:kWh t p f env (false,S)=Z (.nx env S):=id rfl
@[simp] theorem Np{f:Nat}:RQ t p f (.nx e S)=fW t p f e S:=id rfl
def fMaxX_l{ns:List Int}(h:ns.length<64)(h0:ns≠[]):aT ph [.lst (ns.map .int)] S=Z (.int (lj ns),S):=by
 show ((ph S [.lst (ns.map D.int)]).bind _)=_
 have:ph S [.lst (ns.map D.int)]=Z (.int (lj ns)):=by
  show ((qp S (.lst (ns.map D.int))).bind _)=_
  rw [Eo h]
  show (if ns.isEmpty=true then U else Z (D.int (lj ns)))=_
  rw [if_neg (by cases ns with | nil=>exact absurd rfl h0 | cons _ _=>simp)]
 rw [this];rfl
def szM{n:Nat}(h:n<=1000000):n<=sizeLine:=UV h (by decide)
theorem EX:∀ ys:List Str,Dv (ys.map .str)=Z ys
 | []=>rfl
 | y::r=>by
  have:=EX r
  show (Dv (r.map .str)).bind _=_
  rw [this];rfl
def MJ:oi->Option (D×ab)
 | .rt d S'=>Z (d,S')
 | .nx _ S'=>Z (.non,S')
 | .bk _ _=>U
 | .ct _ _=>U
@[simp] theorem aC:MJ (.rt d S)=Z (d,S):=id rfl
@[simp] theorem outM_nx:MJ (.nx e S)=Z (.non,S):=id rfl
def aU{N:List Str}{m:MS}{n:Nat}{ds:List D}{S:ab}(h:ds.length=n):aO N m n ds S=(m (ay N ds) S).bind MJ:=by
 unfold aO;rw [if_pos h];first | rfl | (congr 1;funext o;cases o <;> rfl)
@[simp] theorem rep0:List.replicate 0 (U:Option D)=[]:=id rfl
end
def rf:MS:=
 aA (bu (au (ax yR (ax aE (ac 0) (mC (.int 0))) (mC (.int 0)))) (aA (aS (ax la (ax aE (ac 0) (mC (.int 0))) (ac 1)) (ah 2)) (aA (aS (ax Gd (ax aE (ac 0) (mC (.int 0))) (ac 1)) (dS (ac 0) (mC (.int 0)))) (aJ (ac 2)))) (aR)) (aA (aS (ax bJ (ax aE (ac 0) (mC (.int 2))) (mC (.int 1))) (dS (ac 0) (mC (.int 2)))) (aA (aS (ax la (ax bJ (ax bJ (ax cS (ax aE (ac 0) (mC (.int 1))) (mC (.int 48271))) (mC (.int 12345))) (ax cS (mC (.int 7)) (ax aE (ac 0) (mC (.int 2))))) (mC (.int 2147483647))) (dS (ac 0) (mC (.int 1)))) (aJ (ax la (ax Gd (ax la (ax cS (ax aE (ac 0) (mC (.int 1))) (ax aE (ac 0) (mC (.int 1)))) (mC (.int 1999999973))) (mC (.int 64))) (ac 1)))))
def CD:MS:=
 aA (aS (mC (.int 1)) (ah 0)) (aA (gt (bq (aa (mC (.int 10)) (ag))) (ah 1) (aS (ax cS (ac 0) (ax uJ (mC (.int 10)) (mC (.int 60)))) (ah 0))) (aJ (ac 0)))
def mB:MS:=
 aA (bu (au (ax SO (ac 1) (bn (aT eI) (aa (ac 0) (ag))))) (aJ (ax aE (ac 0) (ac 1))) (aR)) (aJ (mC (.int 0)))
def rg(cellAt far:List D->ab->Option (D×ab)):MS:=
 aA (aS (ai 2 cellAt (aa (ac 0) (aa (ax la (ac 1) (bn (aT ph) (aa (mC (.int 1)) (aa (bn (aT eI) (aa (ac 0) (ag))) (ag))))) (ag)))) (ah 2)) (aA (aS (ax la (ax cS (ax bJ (ax bJ (ax la (ac 2) (mC (.int 2147483629))) (ax cS (ax cS (mC (.int 7919)) (ac 1)) (ac 1))) (mC (.int 11))) (mC (.int 48271))) (mC (.int 2147483647))) (ah 3)) (aA (aS (ax la (ax bJ (ax bJ (ax cS (ac 3) (mC (.int 39373))) (ax cS (mC (.int 7)) (ac 1))) (mC (.int 1))) (mC (.int 2147483629))) (ah 3)) (aA (bu (au (ax SO (ac 2) (ax uJ (mC (.int 10)) (mC (.int 18))))) (aS (mC (.int 0)) (ah 2)) (aR)) (aJ (eM (aa (ax la (ac 2) (ai 0 far ag)) (aa (ac 3) (aa (mC (.int 0)) (ag)))))))))
def TW{a b c:D}:oa [a,b,c] 0=Z a/\oa [a,b,c] 1=Z b/\oa [a,b,c] 2=Z c:=⟨rfl,rfl,rfl⟩
def Pk(S:ab)(r:Nat):Prop:=∃ a b c:Int,S[r]?=Z (.lst [.int a,.int b,.int c])/\0<=a/\0<=b/\b<2147483647
def p60:Int:=1000000000000000000000000000000000000000000000000000000000000
def QY:(10:Int) ^ (60:Int).toNat=p60:=by decide +kernel
def QX:p60.natAbs<=2 ^ (200 * 1):=by decide +kernel
def MD:0<p60:=by decide +kernel
def MH{i:Int}(h:i.natAbs<2 ^ 4000):oF i p60=true:=by
 unfold oF
 rw [Uo h,Uo (p:=p60.natAbs<2 ^ 4000) (by decide +kernel)]
 simp
def JR:MS:=aS (ax cS (ac 0) (ax uJ (mC (.int 10)) (mC (.int 60)))) (ah 0)
def SK{S:ab}:uJ S (.int 10) (.int 60)=Z (.int p60):=by
 have h:=JS (S:=S) (i:=10) (j:=60) (by decide +kernel)
 rw [QY] at h
 exact h
def JQ{S:ab}{a p:Int}{o:Option D}(h1:uJ S (.int 10) (.int 60)=Z (.int p))(h2:cS S (.int a) (.int p)=Z (.int (a * p))):JR [Z (.int a),o] S=Z (.nx [Z (.int (a * p)),o] S):=by
 simp [JR,h1,h2]
def NJ{S:ab}{a:Int}{o:Option D}(h:oF a p60=true):JR [Z (.int a),o] S=Z (.nx [Z (.int (a * p60)),o] S):=JQ SK (jG h)
def farL{S:ab}{B:Nat}(hB:∀ i:Int,i.natAbs<B->oF i p60=true)(l:List D):∀ (a:Int) (o:Option D),0<a->a.natAbs * 2 ^ (200 * l.length)<B->∃ q o',cz (ah 1) JR l [Z (.int a),o] S=Z (.nx [Z (.int q),o'] S)/\0<q:=by
 induction l with
 | nil=>exact λa o h _=>⟨a,o,rfl,h⟩
 | cons d l ih=>
  intro a o h hb
  have h1:a.natAbs<B:=Wv (Nat.le_mul_of_pos_right _ (Nat.pow_pos (by decide))) hb
  obtain⟨q,o',e,hq⟩:=ih (a * p60) (Z d) (Int.mul_pos h MD) (by
   rw [Int.natAbs_mul]
   refine Wv ?_ hb
   rw [UE,Nat.mul_add,Nat.pow_add,Nat.mul_assoc]
   refine Yk _ ?_
   rw [Xi]
   exact Yk _ QX)
  refine⟨q,o',?_,hq⟩
  rw [fe,bd,ob,nU]
  show (JR [Z (.int a),Z d] S).bind _=_
  rw [NJ (hB a h1),ob,mF]
  exact e
def JP{S:ab}{N:List Str}(hN:N.length=2):∃ q:Int,aO N CD 0 [] S=Z (.int q,S)/\0<q:=by
 obtain⟨q,o',e,hq⟩:=farL (S:=S) (λi h=>MH h) (cQ 0 10) 1 U (by decide) (by decide +kernel)
 refine⟨q,?_,hq⟩
 rw [aU (show ([]:List D).length=0 from rfl)]
 have:ay N []=[U,U]:=by simp [ay,hN,List.replicate]
 rw [this]
 have k1:Nq ([.int 10],S)=Z (cQ 0 10,S):=nT (by decide) (by decide)
 have e':cz (ah 1) (aS (ax cS (ac 0) (ax uJ (mC (.int 10)) (mC (.int 60)))) (ah 0)) (cQ 0 10) [Z (.int 1),U] S=Z (.nx [Z (.int q),o'] S):=e
 simp only [CD,ba,bH,be,ob,bI,bd,gH,cj,aI,sH,gF,aq,ao,az,am,k1,sU,e',aP,ak,bG,oj,aj,bg,aC]
def Fk{S:ab}{r:Nat}{m:Int}{N:List Str}(hN:N.length=3)(h:Pk S r)(h0:0<m)(h1:m<1073741824) :
  ∃ q S',aO N rf 2 [.ref r,.int m] S=Z (.int q,S')/\0<=q/\q<m/\Pk S' r/\(∀ j,j≠r->S'[j]?=S[j]?)/\S'.length=S.length:=by
 obtain⟨a,b,c,h,ha,hb,hb'⟩:=h
 have hr:r<S.length:=(Uj.mp h).1
 have hm:∀ x:Int,0<=x % m/\x % m<m:=λx=>⟨Wc _ (by omega),Xa _ h0⟩
 have hst:ay N [.ref r,.int m]=[Z (.ref r),Z (.int m),U]:=by simp [ay,hN]
 rw [aU (show [D.ref r,D.int m].length=2 from rfl),hst]
 have hs:∀ c:ui,(S.set r c)[r]?=Z c:=λc=>UP hr
 by_cases hp:0<a
 ·refine⟨a % m,S.set r (.lst [.int (a / m),.int b,.int c]),?_,(hm a).1,(hm a).2,⟨a / m,b,c,hs _,Int.ediv_nonneg ha (by omega),hb,hb'⟩,λj hj=>by rw [UT (Ne.symm hj)],by simp⟩
  have w:=sO (env:=[Z (.ref r),Z (.int m),Z (.int (a % m))]) (d:=.int (a / m)) h (show CH _ 0=Z 0 from rfl)
  simp [rf,pi h,hp,ji h0,JZ h0 h1,TW,w]
 ·have hB:∀ x:Int,0<=x % 2147483647/\x % 2147483647<2147483647:=λx=>⟨Wc _ (by decide),Xa _ (by decide)⟩
  let b':=(b * 48271+12345+7 * (c+1)) % 2147483647
  have hb2:=hB (b * 48271+12345+7 * (c+1))
  have m3:oF b' b'=true:=sh (by omega) (by omega)
  have s1:(S.set r (.lst [.int a,.int b,.int (c+1)]))[r]?=Z (.lst [.int a,.int b,.int (c+1)]):=hs _
  have s2:((S.set r (.lst [.int a,.int b,.int (c+1)])).set r (.lst [.int a,.int b',.int (c+1)]))[r]?=Z (.lst [.int a,.int b',.int (c+1)]):=UP (by simpa using hr)
  refine⟨b' * b' % 1999999973 / 64 % m,(S.set r (.lst [.int a,.int b,.int (c+1)])).set r (.lst [.int a,.int b',.int (c+1)]),?_,(hm _).1,(hm _).2,⟨a,b',c+1,s2,ha,(hB _).1,(hB _).2⟩,λj hj=>by rw [UT (Ne.symm hj),UT (Ne.symm hj)],by simp⟩
  have e1:cS (S.set r (.lst [.int a,.int b,.int (c+1)])) (.int b) (.int 48271)=Z (.int (b * 48271)):=jG (xJ (by decide) (by decide))
  have e2:cS (S.set r (.lst [.int a,.int b,.int (c+1)])) (.int 7) (.int (c+1))=Z (.int (7 * (c+1))):=jG (sh (by decide) (by decide))
  have e3:∀ S x,la S (.int x) (.int 2147483647)=Z (.int (x % 2147483647)):=λ_ _=>ji (by decide)
  have e4:∀ S x,la S (.int x) (.int 1999999973)=Z (.int (x % 1999999973)):=λ_ _=>ji (by decide)
  have e5:∀ S x,Gd S (.int x) (.int 64)=Z (.int (x / 64)):=λ_ _=>JZ (by decide) (by decide)
  have w1:=sO (env:=[Z (.ref r),Z (.int m),U]) (d:=.int (c+1)) h (show CH _ 2=Z 2 from rfl)
  have w2:=sO (env:=[Z (.ref r),Z (.int m),U]) (d:=.int b') s1 (show CH _ 1=Z 1 from rfl)
  simp [rf,pi h,pi s1,pi s2,hp,ji h0,TW,e1,e2,e3,e4,e5,w1]
  rw [show (b * 48271+12345+7 * (c+1)) % 2147483647=b' from rfl,w2]
  simp [pi (hs _),TW,jG m3,e4,e5,ji h0]
def Bd{S:ab}{ns:List Int}{k:Int}{N:List Str}(hN:N.length=2)(h0:0<=k):∃ v,aO N mB 2 [.rol (ns.map .int),.int k] S=Z (.int v,S):=by
 rw [aU (show [D.rol (ns.map .int),D.int k].length=2 from rfl)]
 have hst:ay N [D.rol (ns.map .int),D.int k]=[Z (D.rol (ns.map .int)),Z (.int k)]:=by simp [ay,hN]
 rw [hst]
 by_cases h:k<ns.length
 ·have e:oa (ns.map D.int) k=Z (.int (ns[k.toNat]'(by omega))):=by
   rw [Lu h0 (by simpa using h)];simp
  exact⟨ns[k.toNat]'(by omega),by simp [mB,h,e]⟩
 ·exact⟨0,by simp [mB,h]⟩
def Ue{S:ab}{a b c:Int}(ha:0<=a)(hb:0<=b)(hb':b<2147483647):Pk (S++[.lst [.int a,.int b,.int c]]) S.length:=⟨a,b,c,by simp,ha,hb,hb'⟩
def FK{S:ab}{ns:List Int}{k:Int}{N:List Str}{cellAt far:List D->ab->Option (D×ab)}(hN:N.length=4)(h0:0<=k)(h1:k<=100000)
  (hc:∀ S k,0<=k->∃ v,cellAt [.rol (ns.map .int),.int k] S=Z (.int v,S)) (hf:∀ S,∃ q,far [] S=Z (.int q,S)/\0<q) :
  ∃ a b,aO N (rg cellAt far) 2 [.rol (ns.map .int),.int k] S=Z (.ref S.length,S++[.lst [.int a,.int b,.int 0]])/\0<=a/\0<=b/\b<2147483647:=by
 rw [aU (show [D.rol (ns.map .int),D.int k].length=2 from rfl)]
 have hst:ay N [D.rol (ns.map .int),D.int k]=[Z (D.rol (ns.map .int)),Z (.int k),U,U]:=by simp [ay,hN,List.replicate]
 rw [hst]
 have hmx:0<(if (ns.length:Int)>1 then (ns.length:Int) else 1):=by split <;> omega
 obtain⟨v,hv⟩:=hc S (k % (if (ns.length:Int)>1 then (ns.length:Int) else 1)) (Wc _ (by omega))
 obtain⟨q,hq,q0⟩:=hf S
 have e1:∀ S x,la S (.int x) (.int 2147483629)=Z (.int (x % 2147483629)):=λ_ _=>ji (by decide)
 have e2:∀ S x,la S (.int x) (.int 2147483647)=Z (.int (x % 2147483647)):=λ_ _=>ji (by decide)
 have e3:∀ S x,la S (.int x) (.int q)=Z (.int (x % q)):=λ_ _=>ji q0
 have p1:∀ S,cS S (.int 7919) (.int k)=Z (.int (7919 * k)):=λ_=>jG (sh (by decide) (by decide))
 have p2:∀ S,cS S (.int (7919 * k)) (.int k)=Z (.int (7919 * k * k)):=λ_=>jG (xJ (by omega) (by omega))
 have p3:∀ S x,cS S (.int x) (.int 48271)=Z (.int (x * 48271)):=λ_ _=>jG (xJ (by decide) (by decide))
 have p4:∀ S x,cS S (.int x) (.int 39373)=Z (.int (x * 39373)):=λ_ _=>jG (xJ (by decide) (by decide))
 have p5:∀ S,cS S (.int 7) (.int k)=Z (.int (7 * k)):=λ_=>jG (sh (by decide) (by decide))
 have pw:∀ S,uJ S (.int 10) (.int 18)=Z (.int 1000000000000000000):=λS=>by
  have h:=JS (S:=S) (i:=10) (j:=18) (by decide +kernel)
  rwa [show (10:Int) ^ (18:Int).toNat=1000000000000000000 by decide +kernel] at h
 have hb:∀ x:Int,0<=x % 2147483629/\x % 2147483629<2147483647:=λx=>⟨Wc _ (by decide),by have:=Xa x (show (0:Int)<2147483629 by decide);omega⟩
 have kl:∀ S x y,Ei ([.int x,.int y,.int 0],S)=Z (.ref S.length,S++[.lst [.int x,.int y,.int 0]]):=λ_ _ _=>Ao (by simp)
 by_cases h:v<1000000000000000000
 ·refine⟨0 % q,(((v % 2147483629+7919 * k * k+11) * 48271 % 2147483647) * 39373+7 * k+1) % 2147483629,?_,Wc _ (by omega),(hb _).1,(hb _).2⟩
  simp [-Int.zero_emod,rg,ji hmx,hv,e1,e2,e3,p1,p2,p3,p4,p5,pw,h,hq,kl]
 ·refine⟨v % q,(((v % 2147483629+7919 * k * k+11) * 48271 % 2147483647) * 39373+7 * k+1) % 2147483629,?_,Wc _ (by omega),(hb _).1,(hb _).2⟩
  simp [rg,ji hmx,hv,e1,e2,e3,p1,p2,p3,p4,p5,pw,h,hq,kl]
theorem tF{tg:MG}{p:MS}(I:aW->ab->Prop):∀ (xs:List D),(∀ d∈xs,∀ env S,I env S->∃ env1 S1 env2 S2,tg d env S=Z (env1,S1)/\p env1 S1=Z (.nx env2 S2)/\I env2 S2) ->
  ∀ env S,I env S->∃ env' S',cz tg p xs env S=Z (.nx env' S')/\I env' S'
 | [],_,env,S,h=>⟨env,S,rfl,h⟩
 | d::xs,hs,env,S,h=>by
  obtain⟨env1,S1,env2,S2,e1,e2,h2⟩:=hs d Ul env S h
  obtain⟨env',S',e3,h3⟩:=tF I xs (λd hd=>hs d (Ur _ hd)) env2 S2 h2
  exact⟨env',S',by rw [fe,e1,ob,nU,e2,ob,mF,e3],h3⟩
def Ci{lo:Int}{n:Nat}{d:D}(h:d∈cQ lo n):∃ i:Nat,i<n/\d=.int (lo+(i:Int)):=by
 obtain⟨i,hi⟩:=Wk.mp h
 exact⟨i,rP lo n i d hi⟩
def nr:D->Bool
 | .ref _=>false
 | _=>true
abbrev PF:=List D->ab->Option (D×ab)
def Do(pick:PF):Prop:=∀ (S:ab) (r:Nat) (m:Int),Pk S r->0<m->m<1073741824->∃ q S',pick [.ref r,.int m] S=Z (.int q,S')/\0<=q/\q<m/\Pk S' r/\(∀ j,j≠r->S'[j]?=S[j]?)/\S'.length=S.length
def yg(pick:PF):MS:=
 aA (aS (ax aE (iq (aa (mC (.str "rows")) (aa (mC (.str "readers")) (aa (mC (.str "writers")) (aa (mC (.str "turns")) (aa (mC (.str "passes")) (ag))))))) (ai 2 pick (aa (ac 0) (aa (mC (.int 5)) (ag))))) (ah 1)) (aA (aS (ax aE (iq (aa (mC (.int 0)) (aa (mC (.int 0)) (aa (mC (.int 1)) (aa (mC (.int 2)) (aa (mC (.int 3)) (aa (mC (.int 5)) (ag)))))))) (ai 2 pick (aa (ac 0) (aa (mC (.int 6)) (ag))))) (ah 2)) (aA (aS (ax cS (ax aE (iq (aa (mC (.int 0)) (aa (mC (.int 1)) (aa (mC (.int 2)) (aa (mC (.int 9)) (ag)))))) (ai 2 pick (aa (ac 0) (aa (mC (.int 4)) (ag))))) (bn (aT wm) (aa (ax cI (ac 1) (mC (.str "passes"))) (ag)))) (ah 3)) (aJ (aX (aa (ac 1) (aa (ac 2) (aa (ac 3) (aa (ai 2 pick (aa (ac 0) (aa (mC (.int 2)) (ag)))) (ag)))))))))
def OK{q:Int}(h0:0<=q)(h1:q<6):∃ i:Int,oa [D.int 0,D.int 0,D.int 1,D.int 2,D.int 3,D.int 5] q=Z (.int i)/\0<=i/\i<=5:=by
 obtain rfl | rfl | rfl | rfl | rfl | rfl:q=0\/q=1\/q=2\/q=3\/q=4\/q=5:=by omega
 all_goals exact⟨_,rfl,by decide,by decide⟩
def Lr{q:Int}(h0:0<=q)(h1:q<4):∃ i:Int,oa [D.int 0,D.int 1,D.int 2,D.int 9] q=Z (.int i)/\0<=i/\i<=9:=by
 obtain rfl | rfl | rfl | rfl:q=0\/q=1\/q=2\/q=3:=by omega
 all_goals exact⟨_,rfl,by decide,by decide⟩
def EntOk(n:Int)(xs:List D)(d:D):Prop:=∃ (g:Int) (w:Str) (m:Int) (t:D),d=.tup [.int g,.str w,.int m,t]/\0<=g/\g<n/\(w = "read"\/w = "write")/\0<=m/\m<=999/\(t=.non\/∃ k,t=.int k/\1<=k/\k<=9)/\oa xs g=Z (.str "out")
def EntOk.up{n n':Int}{xs:List D}{d:D}(h:EntOk n xs d)(hn:n<=n'):EntOk n' xs d:=by
 obtain⟨g,w,m,t,e,h0,h1,r⟩:=h
 exact⟨g,w,m,t,e,h0,by omega,r⟩
def Gb{S:ab}{g:List D->D}{q:Nat}{xs:List D}(h:S[q]?=Z (.lst xs)):aT (dc g) [.ref q] S=Z (g xs,S):=by
 have e:iD S (.ref q)=Z xs:=by simp only [iD,h]
 show ((iD S (.ref q)).bind _).bind _=_
 rw [e];rfl
def Pk.app{S:ab}{r:Nat}{c:ui}(h:Pk S r):Pk (S++[c]) r/\S.length≠r:=by
 obtain⟨a,b,d,h,z⟩:=h
 have hr:=(Uj.mp h).1
 exact⟨⟨a,b,d,by rw [UM hr];exact h,z⟩,by omega⟩
def CJ(x:Str):Prop:=x = "rows"\/x = "readers"\/x = "writers"\/x = "turns"\/x = "passes"
def OJ{q:Int}(h0:0<=q)(h1:q<5):∃ x:Str,oa [D.str "rows",D.str "readers",D.str "writers",D.str "turns",D.str "passes"] q=Z (.str x)/\CJ x:=by
 obtain rfl | rfl | rfl | rfl | rfl:q=0\/q=1\/q=2\/q=3\/q=4:=by omega
 ·exact⟨_,rfl,.inl rfl⟩
 ·exact⟨_,rfl,.inr (.inl rfl)⟩
 ·exact⟨_,rfl,.inr (.inr (.inl rfl))⟩
 ·exact⟨_,rfl,.inr (.inr (.inr (.inl rfl)))⟩
 ·exact⟨_,rfl,.inr (.inr (.inr (.inr rfl)))⟩
def Keep(r:Nat)(S S':ab):Prop:=(∀ j,j≠r->S'[j]?=S[j]?)/\S'.length=S.length
theorem Keep.trans{r:Nat}{S S' S'':ab}(h:Keep r S S')(h':Keep r S' S''):Keep r S S'':=⟨λj z=>(h'.1 j z).trans (h.1 j z),h'.2.trans h.2⟩
structure Ud(x:Str)(a b c:Int):Prop where
 w:CJ x
 a0:0<=a
 a5:a<=5
 b0:0<=b
 b9:b<=9
 c0:0<=c
 c1:c<=1
def Fg{pick:PF}(hp:Do pick){S:ab}{r:Nat}{N:List Str}(hN:N.length=4)(h:Pk S r):∃ x a b c S',aO N (yg pick) 1 [.ref r] S=Z (.tup [.str x,.int a,.int b,.int c],S')/\Ud x a b c/\Pk S' r/\Keep r S S':=by
 have hst:ay N [D.ref r]=[Z (.ref r),U,U,U]:=by simp [ay,hN,List.replicate]
 rw [aU (show [D.ref r].length=1 from rfl),hst]
 obtain⟨q1,S1,e1,l1,g1,P1,K1⟩:=hp _ _ 5 h (by decide) (by decide)
 obtain⟨q2,S2,e2,l2,g2,P2,K2⟩:=hp _ _ 6 P1 (by decide) (by decide)
 obtain⟨q3,S3,e3,l3,g3,P3,K3⟩:=hp _ _ 4 P2 (by decide) (by decide)
 obtain⟨q4,S4,e4,l4,g4,P4,K4⟩:=hp _ _ 2 P3 (by decide) (by decide)
 obtain⟨x,i1,wx⟩:=OJ l1 g1
 obtain⟨a,i2,a0,a5⟩:=OK l2 g2
 obtain⟨b,i3,b0,b9⟩:=Lr l3 g3
 have k1:∀ S,Ap ([D.str "rows",D.str "readers",D.str "writers",D.str "turns",D.str "passes"],S)=Z (.lst [D.str "rows",D.str "readers",D.str "writers",D.str "turns",D.str "passes"],S):=λS=>mE (by simp)
 have k2:∀ S,Ap ([D.int 0,D.int 0,D.int 1,D.int 2,D.int 3,D.int 5],S)=Z (.lst [D.int 0,D.int 0,D.int 1,D.int 2,D.int 3,D.int 5],S):=λS=>mE (by simp)
 have k3:∀ S,Ap ([D.int 0,D.int 1,D.int 2,D.int 9],S)=Z (.lst [D.int 0,D.int 1,D.int 2,D.int 9],S):=λS=>mE (by simp)
 have k4:∀ S (a b c d:D),cZ ([a,b,c,d],S)=Z (.tup [a,b,c,d],S):=λS a b c d=>bi (by simp)
 have m1:∀ S (z:Bool),cS S (.int b) (.int (if z=true then 1 else 0))=Z (.int (b * (if z=true then 1 else 0))):=λS z=>jG (sh (by omega) (by omega))
 refine⟨x,a,b * (if (x == ("passes":Str))=true then 1 else 0),q4,S4,?_,⟨wx,a0,a5,by split <;> omega,by split <;> omega,l4,by omega⟩,P4,Keep.trans K1 (Keep.trans K2 (Keep.trans K3 K4))⟩
 simp [-beq_iff_eq,yg,k1,k2,k3,k4,e1,e2,e3,e4,i1,i2,i3,m1]
def SM{S:ab}{k l:Bool}:eV S (.bl k) (.bl l)=Z (.bl (!(k == l))):=pR (by simp [ci]) (by simp [ci])
def yJ{S:ab}{c:ui}:(S++[c])[S.length]?=Z c:=by simp
def OP{S:ab}{c d:ui}:(S++[c]).set S.length d=S++[d]:=by
 rw [List.set_append,if_neg (VI _)];simp
inductive Wd where | out | reads | rising | writes | raised
deriving DecidableEq
def Wd.s:Wd->Str
 | .out=>"out"
 | .reads=>"reads"
 | .rising=>"rising"
 | .writes=>"writes"
 | .raised=>"raised"
def Wd.eq(a b:Wd):(a.s == b.s)=decide (a=b):=by cases a <;> cases b <;> decide +kernel
structure En where
 g:Nat
 wr:Bool
 m:Int
 t:Option Int
def bF(b:Bool):Str:=if b then "write" else "read"
def LG(b:Bool):(bF b == ("write":Str))=b:=by cases b <;> decide +kernel
def Dq(b:Bool):(bF b == ("read":Str)) = !b:=by cases b <;> decide +kernel
def bO:Option Int->D
 | none=>.non
 | some k=>.int k
def En.d(e:En):D:=.tup [.int (e.g:Nat),.str (bF e.wr),.int e.m,bO e.t]
abbrev Rm:=List Wd×List En
def Wd.d(w:Wd):D:=.str w.s
def dE(ws:List Wd):D:=.tup (ws.map Wd.d)
def eQ(es:List En):D:=.tup (es.map En.d)
def aG(R:Rm):D:=.tup [dE R.1,eQ R.2]
inductive Rw where | rows | readers | writers | turns | passes
deriving DecidableEq
def Rw.s:Rw->Str
 | .rows=>"rows"
 | .readers=>"readers"
 | .writers=>"writers"
 | .turns=>"turns"
 | .passes=>"passes"
def Rw.eq(a b:Rw):(a.s == b.s)=decide (a=b):=by cases a <;> cases b <;> decide +kernel
structure Rl where
 w:Rw
 a:Int
 b:Int
 c:Int
def Rl.d(r:Rl):D:=.tup [.str r.w.s,.int r.a,.int r.b,.int r.c]
structure Rl.Ok(r:Rl):Prop where
 a0:0<=r.a
 a5:r.a<=5
 b0:0<=r.b
 b9:r.b<=9
 c0:0<=r.c
 c1:r.c<=1
def FU{x:Str}(h:CJ x):∃ w:Rw,x=w.s:=by
 rcases h with rfl | rfl | rfl | rfl | rfl
 ·exact⟨.rows,rfl⟩
 ·exact⟨.readers,rfl⟩
 ·exact⟨.writers,rfl⟩
 ·exact⟨.turns,rfl⟩
 ·exact⟨.passes,rfl⟩
section
variable{α:Type}{enc:α->D}{p:α->Bool}{f:α->D}{t:MT}{e:ME}{rest:aW}{S:ab}
theorem PN:∀ (xs:List α) (a:Option D),(∀ x∈xs,t (Z (enc x)::rest) S=Z (p x,S))->(∀ x∈xs,p x=true->e (Z (enc x)::rest) S=Z (f x,S))->dN (ah 0) t e (xs.map enc) (a::rest) S=Z ((xs.filter p).map f,S)
 | [],a,_,_=>by simp
 | x::r,a,h,h2=>by
  have ih:=PN r (Z (enc x)) (λy hy=>h y (Ur _ hy)) λy hy=>h2 y (Ur _ hy)
  rw [Uy,gU,bd,ob,gH,sY,h x (by simp),ob]
  cases hp:p x with
  | true=>rw [sX,h2 x (by simp) hp,ob,sW,ih,ob,sV,WB hp,Uy]
  | false=>rw [yl,ih,WC (by simp [hp])]
def gI{cap:List (Option Nat)}{env:aW}{a:Option D}{xs:List α}(hc:nu cap env=a::rest)(hl:xs.length<=1000)(h:∀ x∈xs,t (Z (enc x)::rest) S=Z (p x,S))(h2:∀ x∈xs,p x=true->e (Z (enc x)::rest) S=Z (f x,S)) :
  oS (ah 0) t e cap env (xs.map enc,S)=Z (.lst ((xs.filter p).map f),S):=by
 rw [jW (by rw [Ux];exact hl),hc,PN xs a h h2,ob,jX]
theorem PM:∀ (xs:List α) (k:Nat) (a b:Option D),(∀ i x,xs[i]?=Z x->t (Z (.int ((k+i:Nat):Int))::Z (enc x)::rest) S=Z (p x,S))->dN (aY 2 (af (ah 0) (af (ah 1) (aQ)))) t (ac 0) (fS k (xs.map enc)) (a::b::rest) S=Z (((xs.zipIdx k).filter λq=>p q.1).map λq=>.int (q.2:Int),S)
 | [],k,a,b,_=>by simp [fS]
 | x::r,k,a,b,h=>by
  have ih:=PM r (k+1) (Z (.int (k:Int))) (Z (enc x)) (λi y hy=>by
   have:=h (i+1) y (by simpa using hy)
   rw [show k+(i+1)=k+1+i by omega] at this
   exact this)
  have h0:=h 0 x rfl
  rw [XY] at h0
  rw [Uy,fS,gU,dg,bQ,bd,ob,gH,eE,bQ,bd,ob,ik,gH,eE,cE,ob,sY,h0,ob,VB]
  cases hp:p x with
  | true=>
   rw [sX,ak,bG,oj,ob,aj,ob,sW,ih,ob,sV,WB (p:=λq:α×Nat=>p q.1) (a:=(x,k)) hp,Uy]
  | false=>rw [yl,ih,WC (p:=λq:α×Nat=>p q.1) (a:=(x,k)) (by simp [hp])]
def RP{cap:List (Option Nat)}{env:aW}{a b:Option D}{xs:List α}(hc:nu cap env=a::b::rest)(hl:xs.length<=1000)(h:∀ (i:Nat) x,xs[i]?=Z x->t (Z (.int (i:Int))::Z (enc x)::rest) S=Z (p x,S)) :
  oS (aY 2 (af (ah 0) (af (ah 1) (aQ)))) t (ac 0) cap env (fS 0 (xs.map enc),S)=Z (.lst ((xs.zipIdx.filter λq=>p q.1).map λq=>.int (q.2:Int)),S):=by
 rw [jW (by rw [mQ,Ux];exact hl),hc,PM xs 0 a b (λi x hx=>by rw [WP];exact h i x hx),ob,jX]
end
def Ls{α:Type}{xs:List α}{i:Nat}{x:α}(h:xs[i]?=Z x):oa xs (i:Int)=Z x:=by
 have hl:=(Uj.mp h).1
 rw [Lu (by omega) (by omega)]
 rw [Uj] at h
 obtain⟨_,h⟩:=h
 simpa using h
section
variable{S:ab}{e:En}{r:Rl}{R:Rm}
def En.ix0:aE S e.d (.int 0)=Z (.int (e.g:Nat)):=rfl
def En.ix1:aE S e.d (.int 1)=Z (.str (bF e.wr)):=rfl
def En.ix2:aE S e.d (.int 2)=Z (.int e.m):=rfl
def Rl.ix0:aE S r.d (.int 0)=Z (.str r.w.s):=rfl
def Rl.ix1:aE S r.d (.int 1)=Z (.int r.a):=rfl
def Rl.ix2:aE S r.d (.int 2)=Z (.int r.b):=rfl
def Rm.ix0:aE S (aG R) (.int 0)=Z (dE R.1):=rfl
def Rm.ix1:aE S (aG R) (.int 1)=Z (eQ R.2):=rfl
def yS{ws:List Wd}{i:Nat}{w:Wd}(h:ws[i]?=Z w):aE S (dE ws) (.int (i:Int))=Z w.d:=by
 show oa (ws.map Wd.d) (i:Int)=_
 exact Ls (by rw [VG,h];rfl)
def es_ix{es:List En}{i:Nat}{e:En}(h:es[i]?=Z e):aE S (eQ es) (.int (i:Int))=Z e.d:=by
 show oa (es.map En.d) (i:Int)=_
 exact Ls (by rw [VG,h];rfl)
end
def OZ{n d i:Nat}:HT.eu n d (Z (i:Int))=min i n:=by
 show (if (i:Int)<0 then ((i:Int)+(n:Int)).toNat else min (i:Int).toNat n)=_
 rw [if_neg (by omega),Vx]
def Pa{n d:Nat}:HT.eu n d U=d:=rfl
def wA{α:Type}(xs:List α)(i:Nat)(h:i<=xs.length):lb xs (Z (i:Int)) U=xs.drop i:=by
 unfold lb
 rw [OZ,Pa,Nat.min_eq_left h,WL (by simp)]
def Qu{α:Type}(xs:List α)(i:Nat)(h:i<xs.length)(x:α):xs.take i++[x]++xs.drop (i+1)=xs.set i x:=by
 rw [List.set_eq_take_append_cons_drop,if_pos h];simp
section
variable{S:ab}{ws:List Wd}{es:List En}{ms:MA}{env:aW}
def eqWd(a b:Wd):js a.d b.d=decide (a=b):=Wd.eq a b
def Ro{n:Nat}:((ws.map Wd.d).all (ci n))=true:=by
 rw [UF];intro d hd;obtain⟨w,_,rfl⟩:=Uz.mp hd;cases n <;> rfl
def PZ(w:Wd):iH (dE ws) [w.d] S=Z (.int (ws.count w:Nat),S):=by
 have h:=Ge (S:=S) (x:=w.d) (xs:=ws.map Wd.d) rfl Ro
 rw [show dE ws=.tup (ws.map Wd.d) from rfl,h]
 congr 4
 rw [List.countP_map]
 apply List.countP_congr
 intro a _
 simp [eqWd]
def LF:Nz ms env (dE ws,S)=(ms env S).bind (gd iH (dE ws)):=rfl
def PY:aT eI [dE ws] S=Z (.int (ws.length:Nat),S):=by
 rw [show dE ws=.tup (ws.map Wd.d) from rfl,yx,Ux]
end
def sL(r:Rl)(ws:List Wd)(wr:Bool):Bool:=
 if ws.count .reads+ws.count .rising+ws.count .out<ws.length then false
 else if wr then decide (ws.count .reads+ws.count .rising=0)
 else decide (ws.count .rising=0)&&(decide (r.a=0)||decide (((ws.count .reads+ws.count .rising:Nat):Int)<r.a))
def zC{α:Type}(xs:List α)(i:Nat):lb xs U (Z (i:Int))=xs.take i:=by
 unfold lb
 rw [OZ,Pa];simp only [Ww,Nat.sub_zero]
 rcases Nat.le_total i xs.length with h | h
 ·rw [Nat.min_eq_left h]
 ·rw [Nat.min_eq_right h,WL (Uw _),WL h]
def ni(i:Nat):D:=.int (i:Int)
def nl(l:List Nat):D:=.lst (l.map ni)
def Pf(a b:List Nat):List Nat:=if a=[] then b else a
def Jz(p:En->Bool)(es:List En):List Nat:=(es.zipIdx.filter λq=>p q.1).map (·.2)
def nV{p:En->Bool}{es:List En}{i:Nat}(h:i∈Jz p es):i<es.length:=by
 unfold Jz at h
 obtain⟨q,hq,rfl⟩:=Uz.mp h
 have:=(UL.mp hq).1
 have:=List.snd_lt_of_mem_zipIdx this
 omega
def LC(r:Rl)(es:List En):List Nat:=match r.w with
 | .rows=>(List.range es.length).take 1
 | .readers=>(Pf (Jz (λe=>!e.wr) es) (Jz (λe=>e.wr) es)).take 1
 | .passes=>(List.range es.length).filter λi=>decide (lj (0::(es.take i).map λe=>e.m+1)<=r.b)
 | .turns=>(Pf (Jz (λe=>decide (e.m=1)) es) (Pf (Jz (λe=>e.wr) es) (Jz (λe=>!e.wr) es))).take 1
 | .writers=>(Pf (Jz (λe=>e.wr) es) (Jz (λe=>!e.wr) es)).take 1
def JI{r:Rl}{es:List En}{i:Nat}(h:i∈LC r es):i<es.length:=by
 have ho:∀ {a b:List Nat},i∈Pf a b->i∈a\/i∈b:=λ{a b} h=>by unfold Pf at h;split at h <;> simp [h]
 unfold LC at h
 split at h
 ·exact Vr.mp (Ve h)
 ·exact(ho (Ve h)).elim nV nV
 ·exact Vr.mp (UL.mp h).1
 ·exact(ho (Ve h)).elim nV λh=>(ho h).elim nV nV
 ·exact(ho (Ve h)).elim nV nV
section
variable{S:ab}{r:Rl}{es:List En}
end
structure ROk(R:Rm):Prop where
 out:∀ e∈R.2,R.1[e.g]?=Z .out
 nd:(R.2.map (·.g)).Nodup
theorem Ch:∀ (n:Nat) (l:List Nat),l.Nodup->(∀ x∈l,x<n)->l.length<=n
 | 0,l,_,h=>by cases l with | nil=>exact Uw _ | cons x _=>exact absurd (h x (by simp)) (by omega)
 | n+1,l,hn,h=>by
  by_cases hm:n∈l
  ·have:=Ch n (l.erase n) (hn.erase n) λx hx=>by
    have h1:=h x (List.mem_of_mem_erase hx)
    have h2:x≠n:=λz=>by rw [z] at hx;exact(List.Nodup.not_mem_erase hn) hx
    omega
   rw [List.length_erase_of_mem hm] at this
   omega
  ·have:=Ch n l hn λx hx=>by
    have h1:=h x hx
    have h2:x≠n:=λz=>hm (z ▸ hx)
    omega
   omega
def ROk.lt{R:Rm}(h:ROk R){e:En}(he:e∈R.2):e.g<R.1.length:=(Uj.mp (h.out e he)).1
def ROk.len{R:Rm}(h:ROk R):R.2.length<=R.1.length:=by
 have:=Ch R.1.length (R.2.map (·.g)) h.nd λx hx=>by obtain⟨e,he,rfl⟩:=Uz.mp hx;exact h.lt he
 rwa [Ux] at this
structure Ev where
 w:Str
 g:Nat
def Ev.d(e:Ev):D:=.tup [.str e.w,.int (e.g:Nat)]
def og(ws:List Wd):List Nat:=(List.range ws.length).filter λg=>decide (ws[g]?=Z .rising)&&decide (ws.count .out+1=ws.length)
def qd(r:Rl)(ws:List Wd)(es:List En):List Nat:=(LC r es).filter λi=>match es[i]? with | some e=>sL r ws e.wr | none=>false
def uP(r:Rl)(e:En):En:={ e with m:=e.m+(if r.w=.passes then 1 else 0) }
def pO(r:Rl)(R:Rm)(i:Nat)(e:En):Rm:=(R.1.set e.g (if e.wr then .writes else .reads),(R.2.take i).map (uP r)++R.2.drop (i+1))
def iJ(r:Rl)(R:Rm):Rm×List Ev:=match og R.1 with
 | g::_=>((R.1.set g .raised,R.2),[⟨"steps",g⟩])
 | []=>match qd r R.1 R.2 with
  | i::_=>match R.2[i]? with
   | some e=>(pO r R i e,[⟨"in",e.g⟩])
   | none=>(R,[])
  | []=>(R,[])
def om(r:Rl):Nat->Rm->Rm×List Ev
 | 0,R=>(R,[])
 | n+1,R=>let a:=iJ r R;let b:=om r n a.1;(b.1,a.2++b.2)
def Cr(r:Rl)(es:List En):(es.map (uP r)).map (·.g)=es.map (·.g):=by rw [Vs];rfl
def Ep{r:Rl}{R:Rm}{i:Nat}{e:En}(h:ROk R)(hi:R.2[i]?=Z e):ROk (pO r R i e):=by
 obtain⟨ws,es⟩:=R
 have hs:es=es.take i++e::es.drop (i+1):=by
  obtain⟨hl,he⟩:=Uj.mp hi
  rw [<- he,List.getElem_cons_drop,Wj]
 have hnd:((es.take i).map (·.g)++e.g::(es.drop (i+1)).map (·.g)).Nodup:=by
  have:=h.nd
  dsimp only at this
  rw [hs] at this
  simpa using this
 rw [Vv,Vy] at hnd
 obtain⟨n1,⟨n2,n3⟩,n4⟩:=hnd
 refine⟨λx hx=>?_,?_⟩
 ·show (ws.set e.g _)[x.g]?=_
  have key:∃ y∈es,y.g=x.g/\x.g≠e.g:=by
   rcases UJ.mp hx with hx | hx
   ·obtain⟨y,hy,rfl⟩:=Uz.mp hx
    refine⟨y,Ve hy,rfl,λz=>?_⟩
    exact n4 _ (Uz.mpr ⟨y,hy,rfl⟩) _ Ul z
   ·refine⟨x,Wo hx,rfl,λz=>n2 ?_⟩
    rw [<- z];exact Uz.mpr ⟨x,hx,rfl⟩
  obtain⟨y,hy,e1,ne⟩:=key
  rw [UT (Ne.symm ne),<- e1]
  exact h.out y hy
 ·show (((es.take i).map (uP r)++es.drop (i+1)).map (·.g)).Nodup
  rw [Vl,Cr,Vv]
  exact⟨n1,n3,λa ha b hb=>n4 a ha b (Ur _ hb)⟩
def oe{ws:List Wd}{g:Nat}(h:g∈og ws):ws[g]?=Z .rising:=by
 have:=(UL.mp h).2
 rw [Uk] at this
 exact Us this.1
def rK{r:Rl}{R:Rm}(h:ROk R):ROk (iJ r R).1/\(iJ r R).1.1.length=R.1.length:=by
 unfold iJ
 split
 ·rename_i g l hg
  have hr:R.1[g]?=Z .rising:=oe (by rw [hg];exact Ul)
  refine⟨⟨λe he=>?_,h.nd⟩,by simp⟩
  show (R.1.set g .raised)[e.g]?=_
  have h1:=h.out e he
  rw [UT (λz=>by rw [z,h1] at hr;cases hr)]
  exact h1
 ·split
  ·split
   ·rename_i e he
    exact⟨Ep h he,by simp [pO]⟩
   ·exact⟨h,rfl⟩
  ·exact⟨h,rfl⟩
theorem HX{r:Rl}:∀ (n:Nat) {R:Rm},ROk R->ROk (om r n R).1/\(om r n R).1.1.length=R.1.length
 | 0,R,h=>⟨h,rfl⟩
 | n+1,R,h=>by
  obtain⟨h1,h2⟩:=rK (r:=r) h
  obtain⟨h3,h4⟩:=HX n h1
  exact⟨h3,h4.trans h2⟩
structure SeOk(fronts lets put:PF):Prop where
 f:∀ (S:ab) (r:Rl) (es:List En),es.length<=60->fronts [r.d,eQ es] S=Z (nl (LC r es),S)
 l:∀ (S:ab) (r:Rl) (ws:List Wd) (wr:Bool),lets [r.d,dE ws,.str (bF wr)] S=Z (.bl (sL r ws wr),S)
 p:∀ (S:ab) (ws:List Wd) (i:Nat) (w:Wd),i<ws.length->ws.length<=100->put [dE ws,.int (i:Int),w.d] S=Z (dE (ws.set i w),S)
section
variable{S:ab}{ws:List Wd}{es:List En}{r:Rl}
def Nb{S:ab}{i:Nat}{l:List Nat}:aE S (nl (i::l)) (.int 0)=Z (.int (i:Int)):=by
 show oa ((i::l).map ni) ((0:Nat):Int)=_
 exact Ls rfl
def SY{evs:List Ev}{v:Ev}(h:evs.length<500):jy (.ref S.length) [v.d] (S++[.lst (evs.map Ev.d)])=Z (.non,S++[.lst ((evs++[v]).map Ev.d)]):=by
 rw [Gf yJ (by rw [Ux];omega),OP];simp
def NP{evs:List Ev}{f:MF}{ms:MA}{env:aW}:vM f ms env (.ref S.length,S++[.lst (evs.map Ev.d)])=(ms env (S++[.lst (evs.map Ev.d)])).bind (gd f (.ref S.length)):=Nv yJ
def LX{R:Rm}:(iJ r R).2.length<=1:=by
 unfold iJ
 split
 ·simp
 ·split
  ·split <;> simp
  ·simp
end
inductive Ak where | up | down | leave | stop
deriving DecidableEq
def Ak.s:Ak->Str
 | .up=>"up"
 | .down=>"down"
 | .leave=>"leave"
 | .stop=>"stop"
inductive Dd where
 | ask (wr:Bool) (g:Nat) (t:Option Int)
 | act (k:Ak) (g:Nat)
 | tick
def Dd.d:Dd->D
 | .ask wr g t=>.tup [.str (bF wr),.int (g:Int),bO t]
 | .act k g=>.tup [.str k.s,.int (g:Int)]
 | .tick=>.tup [.str "tick"]
def uh(t:Option Int):Prop:=∀ k,t=Z k->0<=k/\k<=9
def Dd.Ok(n:Nat):Dd->Prop
 | .ask _ g t=>g<n/\uh t
 | .act _ g=>g<n
 | .tick=>True
def oQ(pick:PF):MS:=
 aA (aS (ai 2 pick (aa (ac 0) (aa (ac 1) (ag)))) (ah 2)) (aA (aS (ai 2 pick (aa (ac 0) (aa (mC (.int 12)) (ag)))) (ah 3)) (aA (bu (au (ax SO (ac 3) (mC (.int 6)))) (aJ (aX (aa (ax aE (iq (aa (mC (.str "read")) (aa (mC (.str "write")) (ag)))) (ax la (ac 3) (mC (.int 2)))) (aa (ac 2) (aa (ax aE (iq (aa (mC .non) (aa (mC .non) (aa (mC .non) (aa (mC (.int 0)) (aa (mC (.int 1)) (aa (mC (.int 9)) (ag)))))))) (ai 2 pick (aa (ac 0) (aa (mC (.int 6)) (ag))))) (ag)))))) (aR)) (aA (bu (au (ax cI (ac 3) (mC (.int 11)))) (aJ (aX (aa (mC (.str "tick")) (ag)))) (aR)) (aJ (aX (aa (ax aE (iq (aa (mC (.str "up")) (aa (mC (.str "down")) (aa (mC (.str "leave")) (aa (mC (.str "leave")) (aa (mC (.str "stop")) (ag))))))) (ax qP (ac 3) (mC (.int 6)))) (aa (ac 2) (ag))))))))
def OL{q:Int}(h0:0<=q)(h1:q<6):∃ t:Option Int,oa [D.non,D.non,D.non,D.int 0,D.int 1,D.int 9] q=Z (bO t)/\uh t:=by
 have n:uh U:=λk h=>by cases h
 have s:∀ j:Int,0<=j->j<=9->uh (Z j):=λj a b k h=>by cases h;exact⟨a,b⟩
 obtain rfl | rfl | rfl | rfl | rfl | rfl:q=0\/q=1\/q=2\/q=3\/q=4\/q=5:=by omega
 ·exact⟨U,rfl,n⟩
 ·exact⟨U,rfl,n⟩
 ·exact⟨U,rfl,n⟩
 ·exact⟨Z 0,rfl,s 0 (by decide) (by decide)⟩
 ·exact⟨Z 1,rfl,s 1 (by decide) (by decide)⟩
 ·exact⟨Z 9,rfl,s 9 (by decide) (by decide)⟩
def TV{q:Int}(h0:6<=q)(h1:q<11):∃ k:Ak,oa [D.str "up",D.str "down",D.str "leave",D.str "leave",D.str "stop"] (q - 6)=Z (.str k.s):=by
 obtain rfl | rfl | rfl | rfl | rfl:q=6\/q=7\/q=8\/q=9\/q=10:=by omega
 ·exact⟨.up,rfl⟩
 ·exact⟨.down,rfl⟩
 ·exact⟨.leave,rfl⟩
 ·exact⟨.leave,rfl⟩
 ·exact⟨.stop,rfl⟩
def at_wr{q:Int}:∃ wr:Bool,oa [D.str "read",D.str "write"] (q % 2)=Z (.str (bF wr)):=by
 obtain h | h:q % 2=0\/q % 2=1:=by omega
 ·exact⟨false,by rw [h];rfl⟩
 ·exact⟨true,by rw [h];rfl⟩
def KO{pick:PF}(hp:Do pick){S:ab}{r n:Nat}{N:List Str}(hN:N.length=4)(P:Pk S r)(h1:1<=n)(h9:n<=9):∃ (dd:Dd) (S':ab),aO N (oQ pick) 2 [.ref r,.int (n:Int)] S=Z (dd.d,S')/\dd.Ok n/\Pk S' r/\Keep r S S':=by
 have hst:ay N [D.ref r,.int (n:Int)]=[Z (.ref r),Z (.int (n:Int)),U,U]:=by simp [ay,hN,List.replicate]
 rw [aU (show [D.ref r,D.int (n:Int)].length=2 from rfl),hst]
 obtain⟨g,S1,e1,g0,g1,P1,K1⟩:=hp _ _ (n:Int) P (by omega) (by omega)
 obtain⟨q,S2,e2,q0,q1,P2,K2⟩:=hp _ _ 12 P1 (by decide) (by decide)
 obtain⟨g',rfl⟩:∃ g':Nat,g=(g':Int):=⟨g.toNat,by omega⟩
 have md:∀ S,la S (.int q) (.int 2)=Z (.int (q % 2)):=λS=>ji (by decide)
 by_cases h6:q<6
 ·obtain⟨l,S3,e3,l0,l1,P3,K3⟩:=hp _ _ 6 P2 (by decide) (by decide)
  obtain⟨t,et,ot⟩:=OL l0 l1
  obtain⟨wr,ew⟩:=at_wr (q:=q)
  have k1:∀ S,Ap ([D.str "read",D.str "write"],S)=Z (.lst [D.str "read",D.str "write"],S):=λS=>mE (by simp)
  have k2:∀ S,Ap ([D.non,D.non,D.non,D.int 0,D.int 1,D.int 9],S)=Z (.lst [D.non,D.non,D.non,D.int 0,D.int 1,D.int 9],S):=λS=>mE (by simp)
  have k3:∀ S (a b c:D),cZ ([a,b,c],S)=Z (.tup [a,b,c],S):=λS a b c=>bi (by simp)
  refine⟨.ask wr g' t,S3,?_,⟨by omega,ot⟩,P3,Keep.trans K1 (Keep.trans K2 K3)⟩
  simp [oQ,e1,e2,h6,k1,md,ew,e3,k2,et,k3,Dd.d]
 ·by_cases h11:q=11
  ·subst h11
   have k1:∀ S (a:D),cZ ([a],S)=Z (.tup [a],S):=λS a=>bi (by simp)
   refine⟨.tick,S2,?_,trivial,P2,Keep.trans K1 K2⟩
   simp [oQ,e1,e2,k1,Dd.d]
  ·obtain⟨k,ek⟩:=TV (q:=q) (by omega) (by omega)
   have k1:∀ S,Ap ([D.str "up",D.str "down",D.str "leave",D.str "leave",D.str "stop"],S)=Z (.lst [D.str "up",D.str "down",D.str "leave",D.str "leave",D.str "stop"],S):=λS=>mE (by simp)
   have k2:∀ S (a b:D),cZ ([a,b],S)=Z (.tup [a,b],S):=λS a b=>bi (by simp)
   refine⟨.act k g',S2,?_,(by show g'<n;omega),P2,Keep.trans K1 K2⟩
   simp [oQ,e1,e2,h6,Vh.mpr h11,k1,ek,k2,Dd.d]
def bb(es:List En)(g:Nat):Bool:=es.any λe=>decide (e.g=g)
def dP(R:Rm):Dd->Bool
 | .tick=>true
 | .ask _ g _=>decide (R.1[g]?=Z .out) && !bb R.2 g
 | .act .up g=>decide (R.1[g]?=Z .reads)
 | .act .down g=>decide (R.1[g]?=Z .writes)||decide (R.1[g]?=Z .raised)
 | .act .leave g=>decide (R.1[g]?≠Z .out)
 | .act .stop g=>bb R.2 g||decide (R.1[g]?=Z .rising)
def yO(r:Rl)(w:Wd)(es:List En):List En:=if r.w=.turns/\w=.writes then es.map (λe=>if e.wr then e else { e with m:=1 }) else es
section
variable{S:ab}{ws:List Wd}{es:List En}{r:Rl}
def gsC{b:Option D}{cap:List (Option Nat)}{env:aW}(hc:nu cap env=[b])(hl:es.length<=100):oS (ah 0) bx (ax aE (ac 0) (mC (.int 0))) cap env (es.map En.d,S)=Z (.lst (es.map λe=>.int (e.g:Int)),S):=by
 have k:=gI (S:=S) (t:=bx) (e:=ax aE (ac 0) (mC (.int 0))) (cap:=cap) (env:=env) (rest:=[]) (a:=b) (enc:=En.d) (p:=λ_=>true) (f:=λe=>.int (e.g:Int)) (xs:=es) hc (by omega) (λx _=>iF) (λx _ _=>by simp [En.ix0])
 rw [Vn.mpr (λ_ _=>rfl)] at k
 exact k
def gR:Aq (eQ es,S)=Z (es.map En.d,S):=rfl
def tN{a b:Wd}:cI S a.d (.str b.s)=Z (.bl (decide (a=b))):=by
 show cI S (.str a.s) (.str b.s)=_
 rw [dC,Wd.eq]
def pQ{a b:Wd}:eV S a.d (.str b.s)=Z (.bl (!decide (a=b))):=by
 show eV S (.str a.s) (.str b.s)=_
 rw [yw,Wd.eq]
def JX{a:Wd}:nk S a.d (.tup [.str "writes",.str "raised"])=Z (.bl (decide (a=.writes)||decide (a=.raised))):=by
 have h:([D.str "writes",D.str "raised"].any λd=>js d a.d)=(decide (a=.writes)||decide (a=.raised)):=by cases a <;> decide +kernel
 rw [lO (ys:=[.str "writes",.str "raised"]) rfl rfl rfl,h]
def dO:Dd->Str
 | .ask wr _ _=>bF wr
 | .act k _=>k.s
 | .tick=>"tick"
def cF:Dd->Nat
 | .ask _ g _=>g
 | .act _ g=>g
 | .tick=>0
end
def cU(l:List Ev):D:=.tup (l.map Ev.d)
def aB(r:Rl)(R:Rm):Rm×List Ev:=om r (2 * R.1.length) R
def eK(wr:Bool)(g:Nat)(t:Option Int):En:=⟨g,wr,0,if t=Z 0 then Z 1 else t⟩
def qT(r:Rl)(R:Rm)(wr:Bool)(g:Nat)(t:Option Int):Rm×List Ev:=
 let a:=aB r (R.1,R.2++[eK wr g t])
 if bb a.1.2 g=false then a
 else if t=Z 0 then ((a.1.1,a.1.2.filter λe=>decide (e.g≠g)),a.2++[⟨"no",g⟩])
 else (a.1,a.2++[⟨"waits",g⟩])
def fT(e:En):En:={ e with t:=e.t.map (· - 1) }
def rG(r:Rl)(R:Rm):Rm×List Ev:=
 let a:=aB r (R.1,(R.2.map fT).filter λe=>decide (e.t≠Z 0))
 (a.1,(((R.2.map fT).filter λe=>decide (e.t=Z 0)).map λe=>⟨"ends",e.g⟩)++a.2)
def lM(k:Ak)(g:Nat):List Ev:=match k with
 | .up=>[]
 | .stop=>[⟨"ends",g⟩]
 | .down=>[⟨"down",g⟩]
 | .leave=>[⟨"out",g⟩]
def bY(k:Ak)(w:Wd):Wd:=match k with
 | .up=>.rising
 | .down=>.reads
 | .leave=>.out
 | .stop=>if w=.rising then .reads else .out
def gj(r:Rl)(k:Ak)(w:Wd)(g:Nat)(es:List En):List En:=(if k=.down\/k=.leave then yO r w es else es).filter λe=>decide (e.g≠g)
def oh(r:Rl)(R:Rm)(k:Ak)(g:Nat)(w:Wd):Rm×List Ev:=
 let a:=aB r (R.1.set g (bY k w),gj r k w g R.2)
 (a.1,lM k g++a.2++(if a.1.1[g]?=Z .rising then [⟨"waits",g⟩] else []))
def du(r:Rl)(R:Rm)(dd:Dd):Option (Rm×List Ev):=
 if dP R dd=false then U else match dd with
 | .tick=>Z (rG r R)
 | .ask wr g t=>Z (qT r R wr g t)
 | .act k g=>if k=.up/\(r.c=0\/Wd.rising∈R.1) then Z (R,[⟨"no",g⟩]) else match R.1[g]? with
  | some w=>Z (oh r R k g w)
  | none=>U
def dw{es:List En}{g:Nat}(h:bb es g=false){e:En}(he:e∈es):e.g≠g:=λz=>by
 have:bb es g=true:=UB.mpr ⟨e,he,by simp [z]⟩
 rw [h] at this;cases this
theorem ROk.filter{ws:List Wd}{es:List En}(h:ROk (ws,es))(p:En->Bool):ROk (ws,es.filter p):=
 ⟨λe he=>h.out e (UL.mp he).1,Yu (List.Sublist.map _ (Yl)) h.nd⟩
def ROk.mapE{ws:List Wd}{es:List En}(h:ROk (ws,es))(f:En->En)(hf:∀ e,(f e).g=e.g):ROk (ws,es.map f):=
 ⟨λe he=>by obtain⟨x,hx,rfl⟩:=Uz.mp he;rw [hf];exact h.out x hx,by
  show ((es.map f).map (·.g)).Nodup
  rw [Vs,show ((·.g) ∘ f)=(λe:En=>e.g) from funext hf];exact h.nd⟩
def ROk.setW{ws:List Wd}{es:List En}(h:ROk (ws,es))(g:Nat)(w:Wd)(hg:∀ e∈es,e.g≠g):ROk (ws.set g w,es):=
 ⟨λe he=>by show (ws.set g w)[e.g]?=_;rw [UT (Ne.symm (hg e he))];exact h.out e he,h.nd⟩
def fg{r:Rl}{R:Rm}(h:ROk R):ROk (aB r R).1/\(aB r R).1.1.length=R.1.length:=HX _ h
def mT{R:Rm}{wr:Bool}{g:Nat}{t:Option Int}(h:ROk R)(hw:R.1[g]?=Z .out)(hs:bb R.2 g=false):ROk (R.1,R.2++[eK wr g t]):=
 ⟨λe he=>by
  rcases UJ.mp he with he | he
  ·exact h.out e he
  ·rw [UN.mp he];exact hw,by
  show ((R.2++[eK wr g t]).map (·.g)).Nodup
  rw [Vl,Vv]
  refine⟨h.nd,by simp,λa ha b hb=>?_⟩
  obtain⟨e,he,rfl⟩:=Uz.mp ha
  simp [eK] at hb
  rw [hb];exact dw hs he⟩
def Ru{r:Rl}{w:Wd}{ws:List Wd}{es:List En}(h:ROk (ws,es)):ROk (ws,yO r w es):=by
 unfold yO;split
 ·exact h.mapE _ λe=>by split <;> rfl
 ·exact h
def pq{r:Rl}{k:Ak}{w:Wd}{g:Nat}{ws:List Wd}{es:List En}(h:ROk (ws,es))(w':Wd):ROk (ws.set g w',gj r k w g es):=by
 unfold gj
 refine ROk.setW (ROk.filter ?_ _) g w' λe he=>Us (UL.mp he).2
 split
 ·exact Ru h
 ·exact h
def kg{r:Rl}{R:Rm}{dd:Dd}{x:Rm×List Ev}(h:ROk R)(hx:du r R dd=Z x):ROk x.1/\x.1.1.length=R.1.length:=by
 unfold du at hx
 split at hx
 ·cases hx
 ·rename_i hc
  have hc:dP R dd=true:=by simpa using hc
  cases dd with
  | tick=>
   cases hx
   obtain⟨a,b⟩:=fg (r:=r) (R:=(R.1,(R.2.map fT).filter λe=>decide (e.t≠Z 0))) (ROk.filter (ROk.mapE h fT λe=>rfl) _)
   exact⟨a,b⟩
  | ask wr g t=>
   cases hx
   simp only [dP,Uk,Vi,Bool.not_eq_true'] at hc
   obtain⟨a,b⟩:=fg (r:=r) (mT (wr:=wr) (t:=t) h hc.1 hc.2)
   unfold qT
   dsimp only
   split
   ·exact⟨a,b⟩
   ·split
    ·exact⟨ROk.filter a _,b⟩
    ·exact⟨a,b⟩
  | act k g=>
   dsimp only at hx
   split at hx
   ·cases hx;exact⟨h,rfl⟩
   ·split at hx
    ·rename_i w hw
     cases hx
     obtain⟨a,b⟩:=fg (r:=r) (pq (r:=r) (k:=k) (w:=w) (g:=g) h (bY k w))
     exact⟨a,b.trans (by simp)⟩
    ·cases hx
def Ha(settled:PF):Prop:=∀ (S:ab) (r:Rl) (R:Rm),ROk R->R.1.length<=50->settled [r.d,aG R] S=Z (.tup [aG (aB r R).1,.ref S.length],S++[.lst ((aB r R).2.map Ev.d)])
theorem wT{r:Rl}:∀ (n:Nat) {R:Rm},(om r n R).2.length<=n
 | 0,R=>Uw _
 | n+1,R=>by
  have h1:=LX (r:=r) (R:=R)
  have h2:=wT (r:=r) n (R:=(iJ r R).1)
  show ((iJ r R).2++(om r n (iJ r R).1).2).length<=_
  rw [UC];omega
section
variable{S:ab}{ws:List Wd}{es:List En}{r:Rl}{R:Rm}
def tO{t:Option Int}:cI S (bO t) (.int 0)=Z (.bl (decide (t=Z 0))):=by
 cases t with
 | none=>exact jH rfl rfl
 | some k=>
  show cI S (.int k) (.int 0)=_
  rw [jI];congr 2;rw [UK];simp
def JU{t:Option Int}:eV S (bO t) (.int 0)=Z (.bl (!decide (t=Z 0))):=by
 cases t with
 | none=>exact pR rfl rfl
 | some k=>
  show eV S (.int k) (.int 0)=_
  rw [JV];congr 3;rw [UK];simp
def restC{g:Nat}{b:Option D}{cap:List (Option Nat)}{env:aW}(hc:nu cap env=[b,Z (.int (g:Int))])(hl:es.length<=100):oS (ah 0) (au (ax eV (ax aE (ac 0) (mC (.int 0))) (ac 1))) (ac 0) cap env (es.map En.d,S)=Z (.lst ((es.filter λe=>decide (e.g≠g)).map En.d),S):=by
 exact gI (S:=S) (t:=au (ax eV (ax aE (ac 0) (mC (.int 0))) (ac 1))) (e:=ac 0) (cap:=cap) (env:=env) (rest:=[Z (.int (g:Int))]) (a:=b) (enc:=En.d) (p:=λe=>decide (e.g≠g)) (f:=En.d) (xs:=es) hc (by omega) (λx _=>by
  have:(!((x.g:Int) == (g:Int)))=decide (x.g≠g):=by rw [UK];simp;omega
  simp [En.ix0,-beq_iff_eq,this]) (λx _ _=>by simp)
def SX{S:ab}{l:List Ev}:aT (dc .tup) [.ref S.length] (S++[.lst (l.map Ev.d)])=Z (cU l,S++[.lst (l.map Ev.d)]):=Gb yJ
end
structure DoOk(can asked settled marked put:PF):Prop where
 c:∀ (S:ab) (R:Rm) (dd:Dd),R.2.length<=60->dd.Ok R.1.length->∃ T,can [aG R,dd.d] S=Z (.bl (dP R dd),S++T)
 a:∀ (S:ab) (r:Rl) (R:Rm) (wr:Bool) (g:Nat) (t:Option Int),ROk R->R.1.length<=50->R.1[g]?=Z .out->bb R.2 g=false->∃ T,asked [r.d,aG R,(Dd.ask wr g t).d] S=Z (.tup [aG (qT r R wr g t).1,cU (qT r R wr g t).2],S++T)
 s:Ha settled
 m:∀ (S:ab) (r:Rl) (w:Wd) (es:List En),es.length<=60->marked [r.d,w.d,eQ es] S=Z (eQ (yO r w es),S)
 p:∀ (S:ab) (ws:List Wd) (i:Nat) (w:Wd),i<ws.length->ws.length<=100->put [dE ws,.int (i:Int),w.d] S=Z (dE (ws.set i w),S)
section
variable{S:ab}{ws:List Wd}{es:List En}{r:Rl}{R:Rm}
def akS(k j:Ak):(k.s == j.s)=decide (k=j):=by cases k <;> cases j <;> decide +kernel
def SV{k j:Ak}:cI S (.str k.s) (.str j.s)=Z (.bl (decide (k=j))):=by rw [dC,akS]
def Lb{dd:Dd}(h:dd≠.tick):(dO dd == ("tick":Str))=false:=by
 cases dd with
 | tick=>exact absurd rfl h
 | ask wr g t=>show (bF wr == ("tick":Str))=false;cases wr <;> decide +kernel
 | act k g=>show (k.s == ("tick":Str))=false;cases k <;> decide +kernel
def SS{x:Str}{b:Bool}(hb:([D.str "read",D.str "write"].any λd=>js d (.str x))=b):nk S (.str x) (.tup [.str "read",.str "write"])=Z (.bl b):=by
 rw [lO (ys:=[.str "read",.str "write"]) rfl rfl rfl,hb]
def doneD:Option (Rm×List Ev)->D
 | none=>.non
 | some x=>.tup [aG x.1,cU x.2]
end
def Grow(r:Nat)(S S':ab):Prop:=S.length<=S'.length/\∀ j,j<S.length->j≠r->S'[j]?=S[j]?
def Grow.of{r:Nat}{S S':ab}(h:Keep r S S'):Grow r S S':=⟨XX h.2.symm,λj _ hj=>h.1 j hj⟩
def Grow.app{r:Nat}{S T:ab}:Grow r S (S++T):=⟨by simp,λj h _=>UM h⟩
theorem Grow.trans{r:Nat}{S S' S'':ab}(h:Grow r S S')(h':Grow r S' S''):Grow r S S'':=⟨UV h.1 h'.1,λj hj hr=>(h'.2 j (UI hj h.1) hr).trans (h.2 j hj hr)⟩
def Pk.appT{S T:ab}{r:Nat}(h:Pk S r):Pk (S++T) r:=by
 obtain⟨a,b,d,h,z⟩:=h
 exact⟨a,b,d,by rw [UM (Uj.mp h).1];exact h,z⟩
def Pk.lt{S:ab}{r:Nat}(h:Pk S r):r<S.length:=by
 obtain⟨a,b,d,h,z⟩:=h
 exact(Uj.mp h).1
structure Formed(R:Rm):Prop where
 ok:ROk R
 m0:∀ e∈R.2,0<=e.m/\e.m<=999
 t1:∀ e∈R.2,∀ k,e.t=Z k->1<=k/\k<=9
theorem AI{α:Type}{x:α}:∀ n:Nat,(List.replicate n [x]).flatten=List.replicate n x
 | 0=>rfl
 | n+1=>by rw [UU,Vj,AI n,UU];rfl
structure RowOk(deed done:PF):Prop where
 de:∀ (S:ab) (r n:Nat),Pk S r->1<=n->n<=5->∃ (dd:Dd) (S':ab),deed [.ref r,.int (n:Int)] S=Z (dd.d,S')/\dd.Ok n/\Pk S' r/\Keep r S S'
 dn:∀ (S:ab) (rl:Rl) (R:Rm) (dd:Dd),ROk R->R.1.length<=50->dd.Ok R.1.length->∃ T,done [rl.d,aG R,dd.d] S=Z (doneD (du rl R dd),S++T)
def dq(n:Nat):Rm:=(List.replicate n .out,[])
def wu{n:Nat}:ROk (dq n):=⟨λe h=>by simp [dq] at h,by simp [dq]⟩
inductive Behind(r:Rl)(n:Nat):List Dd->Rm->Prop
 | nil:Behind r n [] (dq n)
 | snoc {l:List Dd} {R:Rm} {d:Dd} {x:Rm×List Ev} (h:Behind r n l R) (hd:d.Ok n) (e:du r R d=Z x):Behind r n (l++[d]) x.1
def Behind.ok{r:Rl}{n:Nat}{l:List Dd}{R:Rm}(h:Behind r n l R):ROk R/\R.1.length=n:=by
 induction h with
 | nil=>exact⟨wu,by simp [dq]⟩
 | snoc h hd e ih=>obtain⟨a,b⟩:=kg ih.1 e;exact⟨a,b.trans ih.2⟩
section
variable{α:Type}{enc:α->D}{p:Nat->α->Bool}{f:Nat->α->D}{t:MT}{e:ME}{rest:aW}{S:ab}
theorem Lg:∀ (xs:List α) (k:Nat) (a b:Option D),(∀ i x,xs[i]?=Z x->t (Z (.int ((k+i:Nat):Int))::Z (enc x)::rest) S=Z (p (k+i) x,S))->(∀ i x,xs[i]?=Z x->e (Z (.int ((k+i:Nat):Int))::Z (enc x)::rest) S=Z (f (k+i) x,S))->dN (aY 2 (af (ah 0) (af (ah 1) (aQ)))) t e (fS k (xs.map enc)) (a::b::rest) S=Z (((xs.zipIdx k).filter λq=>p q.2 q.1).map λq=>f q.2 q.1,S)
 | [],k,a,b,_,_=>by simp [fS]
 | x::r,k,a,b,h,h2=>by
  have ih:=Lg r (k+1) (Z (.int (k:Int))) (Z (enc x)) (λi y hy=>by
   have:=h (i+1) y (by simpa using hy)
   rw [show k+(i+1)=k+1+i by omega] at this
   exact this) (λi y hy=>by
   have:=h2 (i+1) y (by simpa using hy)
   rw [show k+(i+1)=k+1+i by omega] at this
   exact this)
  have h0:=h 0 x rfl
  have h20:=h2 0 x rfl
  rw [XY] at h0 h20
  rw [Uy,fS,gU,dg,bQ,bd,ob,gH,eE,bQ,bd,ob,ik,gH,eE,cE,ob,sY,h0,ob,VB]
  cases hp:p k x with
  | true=>
   rw [sX,h20,ob,sW,ih,ob,sV,WB (p:=λq:α×Nat=>p q.2 q.1) (a:=(x,k)) hp,Uy]
  | false=>rw [yl,ih,WC (p:=λq:α×Nat=>p q.2 q.1) (a:=(x,k)) (by simp [hp])]
def No{cap:List (Option Nat)}{env:aW}{a b:Option D}{xs:List α}(hc:nu cap env=a::b::rest)(hl:xs.length<=1000)(h:∀ (i:Nat) x,xs[i]?=Z x->t (Z (.int (i:Int))::Z (enc x)::rest) S=Z (p i x,S))(h2:∀ (i:Nat) x,xs[i]?=Z x->e (Z (.int (i:Int))::Z (enc x)::rest) S=Z (f i x,S)) :
  oS (aY 2 (af (ah 0) (af (ah 1) (aQ)))) t e cap env (fS 0 (xs.map enc),S)=Z (.lst ((xs.zipIdx.filter λq=>p q.2 q.1).map λq=>f q.2 q.1),S):=by
 rw [jW (by rw [mQ,Ux];exact hl),hc,Lg xs 0 a b (λi x hx=>by rw [WP];exact h i x hx) (λi x hx=>by rw [WP];exact h2 i x hx),ob,jX]
end
def mH(p:Wd->Bool)(ws:List Wd):List Nat:=(ws.zipIdx.filter λq=>p q.1).map (·.2)
def mem_zi{α:Type}{xs:List α}{x:α}{i:Nat}:(x,i)∈xs.zipIdx↔xs[i]?=Z x:=by
 rw [Wq]
def mem_ixW{p:Wd->Bool}{ws:List Wd}{i:Nat}:i∈mH p ws↔∃ w,ws[i]?=Z w/\p w=true:=by
 unfold mH
 rw [Uz]
 constructor
 ·rintro⟨⟨w,j⟩,h,rfl⟩
  obtain⟨h1,h2⟩:=UL.mp h
  exact⟨w,mem_zi.mp h1,h2⟩
 ·rintro⟨w,h1,h2⟩
  exact⟨(w,i),UL.mpr ⟨mem_zi.mpr h1,h2⟩,rfl⟩
def nt(l:List Nat):D:=.tup (l.map ni)
def ND{p:Wd->Bool}{ws:List Wd}:D.lst ((ws.zipIdx.filter λq=>p q.1).map λq=>.int (q.2:Int))=nl (mH p ws):=by
 unfold nl mH ni;rw [Vs];rfl
def BS:MS:=aJ (bn (aT (dc .tup)) (aa (bE (fI (aa (ax aE (ac 0) (mC (.int 0))) (ag))) (aY 2 (af (ah 0) (af (ah 1) (aQ)))) (au (ax nk (ac 1) (ac 2))) (ac 0) [U,U,Z 1]) (ag)))
def Dp{ws:List Wd}{S:ab}:Js ([dE ws],S)=Z (fS 0 (ws.map Wd.d),S):=rfl
def JW{S:ab}{w:Wd}{l:List Wd}:nk S w.d (dE l)=Z (.bl (decide (w∈l))):=by
 rw [lO (ys:=l.map Wd.d) rfl rfl Ro]
 congr 2
 rw [Xk]
 induction l with
 | nil=>rfl
 | cons a l ih=>
  rw [VJ,ih]
  show (js a.d w.d||_)=_
  rw [eqWd,UK]
  simp
  constructor
  ·rintro(h | h)
   ·exact .inl h.symm
   ·exact .inr h
  ·rintro(h | h)
   ·exact .inl h.symm
   ·exact .inr h
def SE{N:List Str}(hN:N.length=2){S:ab}{R:Rm}{l:List Wd}(hl:R.1.length<=100):aO N BS 2 [aG R,dE l] S=Z (nt (mH (λw=>decide (w∈l)) R.1),S):=by
 have hst:ay N [aG R,dE l]=[Z (aG R),Z (dE l)]:=by simp [ay,hN]
 rw [aU (show [aG R,dE l].length=2 from rfl),hst]
 have k:=RP (S:=S) (t:=au (ax nk (ac 1) (ac 2))) (cap:=[U,U,Z 1]) (env:=[Z (aG R),Z (dE l)]) (rest:=[Z (dE l)]) (a:=U) (b:=U) (enc:=Wd.d) (p:=λw=>decide (w∈l)) (xs:=R.1) rfl (by omega) (λi x _=>by simp only [aN,aH,ak,bG,bM,bL,oj,ob,aj,av,aw,JW,aK])
 rw [ND (p:=λw=>decide (w∈l))] at k
 have fs:aT (dc .tup) [nl (mH (λw=>decide (w∈l)) R.1)] S=Z (nt (mH (λw=>decide (w∈l)) R.1),S):=jw
 simp only [BS,aP,cu,aq,cK,Eb,aH,ak,bG,bM,bL,oj,ob,aj,av,be,aw,Rm.ix0,ao,az,am,Dp,k,cw,fs,bg,aC]
def gS(R:Rm)(g:Nat):D:=if R.1[g]?=Z .rising then .str "up" else match R.2.find? λe=>decide (e.g=g) with
 | some e=>.str (bF e.wr)
 | none=>.non
def lm:MS:=bu (au (ax cI (ax aE (ac 2) (mC (.int 0))) (ac 1))) (aJ (ax aE (ac 2) (mC (.int 1)))) (aR)
def lx(gw:PF):MS:=aA (bu (au (ax nk (ac 1) (ai 2 gw (aa (ac 0) (aa (aX (aa (mC (.str "rising")) (ag))) (ag)))))) (aJ (mC (.str "up"))) (aR)) (aA (eD (ax aE (ac 0) (mC (.int 1))) (ah 2) lm) (aJ (mC .non)))
def LA(gw:PF):Prop:=∀ (S:ab) (R:Rm) (l:List Wd),R.1.length<=100->gw [aG R,dE l] S=Z (nt (mH (λw=>decide (w∈l)) R.1),S)
def SU{S:ab}{g:Nat}{l:List Nat}:nk S (.int (g:Int)) (nt l)=Z (.bl (decide (g∈l))):=by
 rw [lO (ys:=l.map ni) rfl rfl (by rw [UF];intro d hd;obtain⟨i,_,rfl⟩:=Uz.mp hd;rfl)]
 congr 2
 rw [Xk]
 induction l with
 | nil=>rfl
 | cons a l ih=>
  rw [VJ,ih]
  show (((a:Int) == (g:Int))||_)=_
  rw [UK]
  simp
  constructor
  ·rintro(h | h)
   ·exact .inl (by omega)
   ·exact .inr h
  ·rintro(h | h)
   ·exact .inl (by omega)
   ·exact .inr h
theorem uS{S:ab}{R:Rm}{g:Nat}:∀ (es:List En) (a:Option D),cz (ah 2) lm (es.map En.d) [Z (aG R),Z (.int (g:Int)),a] S=(match es.find? λe=>decide (e.g=g) with | some e=>Z (.rt (.str (bF e.wr)) S) | none=>Z (.nx [Z (aG R),Z (.int (g:Int)),match es.getLast? with | some e=>Z e.d | none=>a] S))
 | [],a=>by simp
 | e::l,a=>by
  have ih:=uS (S:=S) (R:=R) (g:=g) l (Z e.d)
  have c:((e.g:Int) == (g:Int))=decide (e.g=g):=by rw [UK];simp;omega
  rw [Uy,fe,bd,ob,ik,ik,gH,nU]
  simp only [lm,bv,aN,aH,ak,bG,bM,bL,oj,ob,aj,av,be,aw,En.ix0,jI,c,aK,UZ]
  cases hd:decide (e.g=g) with
  | true=>simp only [bX,aP,aH,ak,bG,bM,bL,oj,ob,aj,av,be,aw,En.ix1,bg,Ej]
  | false=>
   rw [bA,bm,ob,mF]
   show cz (ah 2) lm _ _ _=_
   rw [ih]
   cases hf:l.find? λe=>decide (e.g=g) with
   | some x=>rfl
   | none=>
    dsimp only
    congr 4
    cases l with
    | nil=>rfl
    | cons y l=>rw [List.getLast?_cons_cons];cases hh:(y::l).getLast? with
     | none=>simp at hh
     | some z=>rfl
def Hu{gw:PF}(O:LA gw){N:List Str}(hN:N.length=3){S:ab}{R:Rm}{g:Nat}(hl:R.1.length<=100):aO N (lx gw) 2 [aG R,.int (g:Int)] S=Z (gS R g,S):=by
 have hst:ay N [aG R,.int (g:Int)]=[Z (aG R),Z (.int (g:Int)),U]:=by simp [ay,hN,List.replicate]
 rw [aU (show [aG R,D.int (g:Int)].length=2 from rfl),hst]
 have o1:gw [aG R,.tup [.str "rising"]] S=Z (nt (mH (λw=>decide (w∈[Wd.rising])) R.1),S):=O S R [.rising] hl
 have k1:cZ ([.str "rising"],S)=Z (.tup [.str "rising"],S):=bi (by simp)
 have mm:decide (g∈mH (λw=>decide (w∈[Wd.rising])) R.1)=decide (R.1[g]?=Z .rising):=by
  rw [decide_eq_decide,mem_ixW]
  constructor
  ·rintro⟨w,h1,h2⟩;rw [h1];simpa using h2
  ·intro h;exact⟨.rising,h,by simp⟩
 have ek:oR (ah 2) lm [Z (aG R),Z (.int (g:Int)),U] (eQ R.2,S)=cz (ah 2) lm (R.2.map En.d) [Z (aG R),Z (.int (g:Int)),U] S:=rfl
 simp only [lx,ba,bv,aN,aH,ak,bG,bM,bL,oj,ob,aj,av,aD,aq,ao,bD,be,az,am,k1,aV,o1,aw,SU,mm,aK]
 unfold gS
 by_cases h:R.1[g]?=Z .rising
 ·rw [Uo h,if_pos h];simp
 ·rw [Ut h,if_neg h]
  simp only [bA,bm,ob,aI,ba,qZ,aH,ak,bG,bM,bL,oj,aj,av,be,aw,Rm.ix1,ek,uS]
  cases R.2.find? λe=>decide (e.g=g) with
  | some e=>simp
  | none=>simp
def cm(ws:List Wd)(g:Nat):List Wd:=(ws.zipIdx.filter λq=>!decide (q.1=.out) && !decide (q.2=g)).map (·.1)
def cL(r:Rl)(R:Rm)(g:Nat):Bool:=
 if R.1[g]?=Z .rising then (cm R.1 g).isEmpty else match R.2.find? λe=>decide (e.g=g) with
 | none=>false
 | some e=>if e.wr then (cm R.1 g).isEmpty else (cm R.1 g).all (λw=>decide (w=.reads))&&(decide (r.a=0)||decide (((cm R.1 g).length:Int)<r.a))
def tW:ME:=bE (fI (aa (ax aE (ac 1) (mC (.int 0))) (ag))) (aY 2 (af (ah 0) (af (ah 1) (aQ)))) (cM (au (ax eV (ac 1) (mC (.str "out")))) (au (ax eV (ac 0) (ac 2)))) (ac 1) [U,U,Z 2]
def Lk:ME:=bE (cC (ac 4)) (ah 0) (bx) (ax cI (ac 0) (mC (.str "reads"))) [U]
def fE(wait:PF):MS:=
 aA (aS (ai 2 wait (aa (ac 1) (aa (ac 2) (ag)))) (ah 3)) (aA (bu (au (ax AO (ac 3) (mC .non))) (aJ (mC (.bl false))) (aR)) (aA (aS tW (ah 4)) (aA (bu (au (ax eV (ac 3) (mC (.str "read")))) (aJ (fX (ac 4))) (aR)) (aA (aS (ax aE (ac 0) (mC (.int 1))) (ah 5)) (aJ (df (bn (aT uK) (aa Lk (ag))) (uj (ax cI (ac 5) (mC (.int 0))) (ax SO (bn (aT eI) (aa (ac 4) (ag))) (ac 5)))))))))
def qa(wait:PF):Prop:=∀ (S:ab) (R:Rm) (g:Nat),R.1.length<=100->wait [aG R,.int (g:Int)] S=Z (gS R g,S)
section
variable{S:ab}{R:Rm}{r:Rl}{g:Nat}
def lY{a0 a3 a4 a5:Option D}(hl:R.1.length<=100):tW [a0,Z (aG R),Z (.int (g:Int)),a3,a4,a5] S=Z (.lst ((cm R.1 g).map Wd.d),S):=by
 have k:=No (S:=S) (t:=cM (au (ax eV (ac 1) (mC (.str "out")))) (au (ax eV (ac 0) (ac 2)))) (e:=ac 1) (cap:=[U,U,Z 2]) (env:=[a0,Z (aG R),Z (.int (g:Int)),a3,a4,a5]) (rest:=[Z (.int (g:Int))]) (a:=U) (b:=U) (enc:=Wd.d) (p:=λi w=>!decide (w=.out) && !decide (i=g)) (f:=λ_ w=>w.d) (xs:=R.1) rfl (by omega) (λi w _=>by
  have e1:eV S w.d (.str "out")=Z (.bl (!decide (w=.out))):=pQ (b:=.out)
  have c:((i:Int) == (g:Int))=decide (i=g):=by rw [UK];simp;omega
  simp only [oP,aN,aH,ak,bG,bM,bL,oj,ob,aj,av,be,aw,e1,aK]
  cases hd:decide (w=.out) with
  | true=>simp
  | false=>simp only [Vk,oT,aN,aH,ak,bG,bM,bL,oj,ob,aj,av,aw,JV,c,aK,VR]) (λi w _=>by simp)
 simp only [tW,cK,Eb,aq,aH,ak,bG,bM,bL,oj,ob,aj,av,be,aw,Rm.ix0,ao,az,am,Dp,k]
 unfold cm
 rw [Vs];rfl
theorem lf{α:Type}{p:α->Bool}:∀ l:List α,gO (l.map λx=>D.bl (p x))=Z (l.map p)
 | []=>rfl
 | x::l=>by
  have:=lf (p:=p) l
  rw [Uy,Uy]
  simp only [gO,this];rfl
def Lj{l:List Wd}{a0 a1 a2 a3 a5:Option D}(hl:l.length<=100):Lk [a0,a1,a2,a3,Z (.lst (l.map Wd.d)),a5] S=Z (.lst (l.map λw=>.bl (decide (w=.reads))),S):=by
 have k:=gI (S:=S) (t:=bx) (e:=ax cI (ac 0) (mC (.str "reads"))) (cap:=[U]) (env:=[a0,a1,a2,a3,Z (.lst (l.map Wd.d)),a5]) (rest:=[]) (a:=U) (enc:=Wd.d) (p:=λ_=>true) (f:=λw=>.bl (decide (w=.reads))) (xs:=l) rfl (by omega) (λx _=>iF) (λx _ _=>by
  have e1:cI S x.d (.str "reads")=Z (.bl (decide (x=.reads))):=tN (b:=.reads)
  simp only [aH,ak,bG,oj,ob,aj,av,be,aw,e1])
 rw [Vn.mpr (λ_ _=>rfl)] at k
 simp only [Lk,cK,dL,ak,bG,bM,bL,oj,ob,aj,Jq,k]
def OI:(cm R.1 g).length<=R.1.length:=by
 unfold cm;rw [Ux];exact UV (VC _ _) (by simp)
def GH{wait:PF}(O:qa wait){N:List Str}(hN:N.length=6)(hl:R.1.length<=100):aO N (fE wait) 3 [r.d,aG R,.int (g:Int)] S=Z (.bl (cL r R g),S):=by
 have hst:ay N [r.d,aG R,.int (g:Int)]=[Z r.d,Z (aG R),Z (.int (g:Int)),U,U,U]:=by simp [ay,hN,List.replicate]
 rw [aU (show [r.d,aG R,D.int (g:Int)].length=3 from rfl),hst]
 have bl:=OI (R:=R) (g:=g)
 unfold cL
 have e1:=O S R g hl
 have fa:aT uK [.lst ((cm R.1 g).map λw=>.bl (decide (w=.reads)))] S=Z (.bl ((cm R.1 g).all λw=>decide (w=.reads)),S):=by
  rw [CN (lf _)];congr 3;rw [Yb];rfl
 have fl:aT eI [.lst ((cm R.1 g).map Wd.d)] S=Z (.int ((cm R.1 g).length:Nat),S):=by rw [yy,Ux]
 have nb:An (.lst ((cm R.1 g).map Wd.d),S)=Z (.bl (cm R.1 g).isEmpty,S):=by
  rw [Nu];cases cm R.1 g <;> rfl
 unfold gS at e1
 by_cases h:R.1[g]?=Z .rising
 ·rw [if_pos h] at e1 ⊢
  have ne:eV S (.str "up") (.str "read")=Z (.bl true):=by rw [yw];rfl
  simp only [fE,ba,bH,aD,aq,ak,bG,bM,bL,oj,ob,aj,ao,az,am,aV,e1,bI,bd,gH,ik,cj,aI,bv,aN,aH,av,be,aw,jx,oU,aK,bA,bm,lY hl,ne,bX,aP,ya,nb,bg,bN,aC]
 ·rw [if_neg h] at e1 ⊢
  cases hf:R.2.find? λe=>decide (e.g=g) with
  | none=>
   rw [hf] at e1
   simp only [fE,ba,bH,aD,aq,ak,bG,bM,bL,oj,ob,aj,ao,az,am,aV,e1,bI,bd,gH,ik,cj,aI,bv,aN,aH,av,be,aw,jx,oU,aK,bX,aP,bg,bN,aC]
  | some e=>
   rw [hf] at e1
   dsimp only at e1 ⊢
   have ne:eV S (.str (bF e.wr)) (.str "read")=Z (.bl e.wr):=by rw [yw,Dq,Bool.not_not]
   cases hw:e.wr with
   | true=>
    rw [hw] at e1 ne
    simp only [fE,ba,bH,aD,aq,ak,bG,bM,bL,oj,ob,aj,ao,az,am,aV,e1,bI,bd,gH,ik,cj,aI,bv,aN,aH,av,be,aw,jx,oU,aK,bA,bm,lY hl,ne,bX,aP,ya,nb,bg,bN,aC,if_pos]
   | false=>
    rw [hw] at e1 ne
    have e3:(r.a == 0)=decide (r.a=0):=rfl
    simp only [fE,ba,bH,aD,aq,ak,bG,bM,bL,oj,ob,aj,ao,az,am,aV,e1,bI,bd,gH,ik,cj,aI,bv,aN,aH,av,be,aw,jx,oU,aK,bA,bm,lY hl,ne,aP,gG,cu,Lj (show (cm R.1 g).length<=100 by omega),cw,fa,Rl.ix1,Vc,Vq]
    cases hA:(cm R.1 g).all λw=>decide (w=.reads) with
    | false=>simp
    | true=>
     cases hz:decide (r.a=0) with
     | true=>simp [e3,hz]
     | false=>simp [e3,hz,fl,-beq_iff_eq]
end
def yu:List (bC×D):=[(.inr "rows",.non),(.inr "readers",.str "read"),(.inr "writers",.str "write"),(.inr "turns",.str "write")]
def Bq:List (bC×D):=[(.inr "read",.str "reads"),(.inr "write",.str "writes")]
def SJ:Rw->D
 | .rows=>.non
 | .readers=>.str "read"
 | _=>.str "write"
def nj(w:Rw)(e:En):Bool:=match w with
 | .rows=>false
 | .readers=>!e.wr
 | _=>e.wr
def SI{S:ab}{w:Rw}(h:w≠.passes):sN yu (.str w.s,S)=Z (SJ w,S):=by
 cases w <;> first | exact absurd rfl h | simp (decide:=true) [sN,gW,mX,yu,SJ,Rw.s]
def Ho{S:ab}{b:Bool}:sN Bq (.str (bF b),S)=Z ((if b then Wd.writes else Wd.reads).d,S):=by
 cases b <;> simp (decide:=true) [sN,gW,mX,Bq,bF,Wd.d,Wd.s]
def NO{S:ab}{w:Rw}{e:En}:cI S (.str (bF e.wr)) (SJ w)=Z (.bl (nj w e)):=by
 have h1:cI S (.str (bF e.wr)) (.str "read")=Z (.bl (!e.wr)):=by rw [dC,Dq]
 have h2:cI S (.str (bF e.wr)) (.str "write")=Z (.bl e.wr):=by rw [dC,LG]
 cases w with
 | rows=>exact jH rfl rfl
 | readers=>exact h1
 | _=>exact h2
def gT(w:Rw)(e:En):Bool:=decide (w=.turns)&&decide (e.m=1)
def gX(w:Rw)(es:List En):List Nat:=(es.filter (gT w)).map (·.g)++(es.filter (nj w)).map (·.g)++es.map (·.g)
def mZ:Option Nat->D
 | none=>.non
 | some g=>.int (g:Int)
def tI:ME:=bE (cC (ac 1)) (ah 0) (cM (au (ax cI (ac 1) (mC (.str "turns")))) (au (ax cI (ax aE (ac 0) (mC (.int 2))) (mC (.int 1))))) (ax aE (ac 0) (mC (.int 0))) [U,Z 0]
def JM:ME:=bE (cC (ac 1)) (ah 0) (au (ax cI (ax aE (ac 0) (mC (.int 1))) (cT yu (ac 1)))) (ax aE (ac 0) (mC (.int 0))) [U,Z 0]
def JO:ME:=bE (cC (ac 1)) (ah 0) (bx) (ax aE (ac 0) (mC (.int 0))) [U]
def kN:MS:=aA (aS tI (ah 2)) (aA (aS JM (ah 3)) (aA (aS (ax bJ (ax bJ (ac 2) (ac 3)) JO) (ah 4)) (aJ (on (cG (ac 4)) (ax aE (ac 4) (mC (.int 0))) (mC .non)))))
section
variable{S:ab}{es:List En}{w:Rw}{r:Rl}{R:Rm}
def Ce{l:List En}:D.lst (l.map λe=>.int (e.g:Int))=nl (l.map (·.g)):=by unfold nl;rw [Vs];rfl
def AH{a2 a3 a4:Option D}(hl:es.length<=100):tI [Z (.str w.s),Z (eQ es),a2,a3,a4] S=Z (nl ((es.filter (gT w)).map (·.g)),S):=by
 have hw:(w.s == ("turns":Str))=decide (w=.turns):=Rw.eq w .turns
 have k:=gI (S:=S) (t:=cM (au (ax cI (ac 1) (mC (.str "turns")))) (au (ax cI (ax aE (ac 0) (mC (.int 2))) (mC (.int 1))))) (e:=ax aE (ac 0) (mC (.int 0))) (cap:=[U,Z 0]) (env:=[Z (.str w.s),Z (eQ es),a2,a3,a4]) (rest:=[Z (.str w.s)]) (a:=U) (enc:=En.d) (p:=gT w) (f:=λe=>.int (e.g:Int)) (xs:=es) rfl (by omega) (λx _=>by
  unfold gT
  cases h:decide (w=.turns) with
  | true=>simp [En.ix2,-beq_iff_eq,hw,h];rfl
  | false=>simp [-beq_iff_eq,hw,h]) (λx _ _=>by simp [En.ix0])
 simp only [tI,cK,dL,ak,bG,bM,bL,oj,ob,aj,gR,k,Ce]
def JL{a2 a3 a4:Option D}(hw:w≠.passes)(hl:es.length<=100):JM [Z (.str w.s),Z (eQ es),a2,a3,a4] S=Z (nl ((es.filter (nj w)).map (·.g)),S):=by
 have k:=gI (S:=S) (t:=au (ax cI (ax aE (ac 0) (mC (.int 1))) (cT yu (ac 1)))) (e:=ax aE (ac 0) (mC (.int 0))) (cap:=[U,Z 0]) (env:=[Z (.str w.s),Z (eQ es),a2,a3,a4]) (rest:=[Z (.str w.s)]) (a:=U) (enc:=En.d) (p:=nj w) (f:=λe=>.int (e.g:Int)) (xs:=es) rfl (by omega) (λx _=>by
  simp only [aN,aH,ak,bG,bM,bL,oj,ob,aj,av,be,aw,En.ix1,sD,SI hw,NO,aK]) (λx _ _=>by simp [En.ix0])
 simp only [JM,cK,dL,ak,bG,bM,bL,oj,ob,aj,gR,k,Ce]
def JN{a0 a2 a3 a4:Option D}(hl:es.length<=100):JO [a0,Z (eQ es),a2,a3,a4] S=Z (nl (es.map (·.g)),S):=by
 have k:=gsC (S:=S) (es:=es) (b:=U) (cap:=[U]) (env:=[a0,Z (eQ es),a2,a3,a4]) rfl hl
 simp only [JO,cK,dL,ak,bG,bM,bL,oj,ob,aj,gR,k,Ce]
def II{a b:List Nat}(h:a.length+b.length<=1000):bJ S (nl a) (nl b)=Z (nl (a++b)):=by
 unfold nl;rw [Kb (by simp;omega),<- Vl]
def yq{N:List Str}(hN:N.length=5)(hw:w≠.passes)(hl:es.length<=100):aO N kN 2 [.str w.s,eQ es] S=Z (mZ (gX w es).head?,S):=by
 have hst:ay N [.str w.s,eQ es]=[Z (.str w.s),Z (eQ es),U,U,U]:=by simp [ay,hN,List.replicate]
 rw [aU (show [D.str w.s,eQ es].length=2 from rfl),hst]
 have l1:=VC (gT w) es
 have l2:=VC (nj w) es
 have a1:bJ S (nl ((es.filter (gT w)).map (·.g))) (nl ((es.filter (nj w)).map (·.g)))=Z (nl ((es.filter (gT w)).map (·.g)++(es.filter (nj w)).map (·.g))):=II (by simp;omega)
 have a2:bJ S (nl ((es.filter (gT w)).map (·.g)++(es.filter (nj w)).map (·.g))) (nl (es.map (·.g)))=Z (nl (gX w es)):=II (by simp;omega)
 have tr:yh (nl (gX w es),S)=Z (!decide (gX w es=[]),S):=by
  cases gX w es <;> rfl
 simp only [kN,ba,bH,AH hl,JL hw hl,ob,bI,bd,gH,ik,cj,aI,aH,ak,bG,bM,bL,oj,aj,av,aw,a1,JN hl,a2,aP,oN,dR,tr]
 cases hf:gX w es with
 | nil=>simp [mZ]
 | cons g l=>simp [mZ,Nb]
def ja(r:Rl)(R:Rm):List En->Option Nat
 | []=>U
 | e::l=>if cL r R e.g then Z e.g else if r.b<=e.m then U else ja r R l
def lh(r:Rl)(R:Rm):Option Nat:=if r.w=.passes then ja r R R.2 else match (gX r.w R.2).head? with
 | none=>U
 | some g=>if cL r R g then Z g else U
def mW(cg:PF):Prop:=(∀ (S:ab) (r:Rl) (R:Rm) (g:Nat),R.1.length<=100->cg [r.d,aG R,.int (g:Int)] S=Z (.bl (cL r R g),S))/\(∀ (S:ab) (r:Rl) (ws:List Wd),ws.length<=100->cg [r.d,aG (ws,[]),.non] S=Z (.bl false,S))
def sd(cg:PF):MS:=aA (bu (cG (ai 3 cg (aa (ac 0) (aa (ac 1) (aa (ac 2) (ag)))))) (aJ (ac 2)) (aR)) (bu (au (ax fGe (ac 4) (ax aE (ac 0) (mC (.int 2))))) (aJ (mC .non)) (aR))
def Fw:MG:=aY 4 (af (ah 2) (af (ah 3) (af (ah 4) (af (ah 5) (aQ)))))
def kM(cg:PF):MS:=aA (eD (ax aE (ac 1) (mC (.int 1))) Fw (sd cg)) (aJ (mC .non))
def MZ{e:En}{a0 a1 a2 a3 a4 a5:Option D}:Fw e.d [a0,a1,a2,a3,a4,a5] S=Z ([a0,a1,Z (.int (e.g:Int)),Z (.str (bF e.wr)),Z (.int e.m),Z (bO e.t)],S):=by
 have g4:Fw e.d [a0,a1,a2,a3,a4,a5] S=(af (ah 2) (af (ah 3) (af (ah 4) (af (ah 5) (aQ))))) [.int (e.g:Nat),.str (bF e.wr),.int e.m,bO e.t] [a0,a1,a2,a3,a4,a5] S:=rj
 rw [g4]
 simp only [bQ,bd,ob,eE,cE,gH,ik]
def npEnd:Option Nat->Option D->Option D->Option D->Option D->Option D->Option D->ab->oi->Prop
 | some g,_,_,_,_,_,_,S,o=>o=.rt (.int (g:Int)) S
 | none,a0,a1,_,_,_,_,S,o=>o=.rt .non S\/∃ b2 b3 b4 b5,o=.nx [a0,a1,b2,b3,b4,b5] S
theorem vp{cg:PF}(O:mW cg)(hl:R.1.length<=100):∀ (es:List En) (a2 a3 a4 a5:Option D),∃ o,cz Fw (sd cg) (es.map En.d) [Z r.d,Z (aG R),a2,a3,a4,a5] S=Z o/\npEnd (ja r R es) (Z r.d) (Z (aG R)) a2 a3 a4 a5 S o
 | [],a2,a3,a4,a5=>⟨.nx [Z r.d,Z (aG R),a2,a3,a4,a5] S,by simp,.inr ⟨_,_,_,_,rfl⟩⟩
 | e::l,a2,a3,a4,a5=>by
  obtain⟨o,ih,q⟩:=vp O hl l (Z (.int (e.g:Int))) (Z (.str (bF e.wr))) (Z (.int e.m)) (Z (bO e.t))
  have c1:=O.1 S r R e.g hl
  rw [Uy,fe,MZ,ob,nU]
  simp only [sd,ba,bv,dR,aD,aq,ak,bG,bM,bL,oj,ob,aj,ao,az,am,bP,c1,gb]
  unfold ja
  cases hc:cL r R e.g with
  | true=>exact⟨.rt (.int (e.g:Int)) S,by simp,rfl⟩
  | false=>
   rw [if_neg (by decide)]
   by_cases hb:r.b<=e.m
   ·rw [if_pos hb]
    refine⟨.rt .non S,?_,.inl rfl⟩
    simp [Rl.ix2,hb]
   ·rw [if_neg hb]
    refine⟨o,?_,?_⟩
    ·have:¬ (e.m≥r.b):=hb
     simp [Rl.ix2,this,-ge_iff_le]
     exact ih
    ·cases hp:ja r R l with
     | none=>rw [hp] at q;exact q
     | some g=>rw [hp] at q;exact q
def xI{cg:PF}(O:mW cg){N:List Str}(hN:N.length=6)(hl:R.1.length<=100):aO N (kM cg) 2 [r.d,aG R] S=Z (mZ (ja r R R.2),S):=by
 have hst:ay N [r.d,aG R]=[Z r.d,Z (aG R),U,U,U,U]:=by simp [ay,hN,List.replicate]
 rw [aU (show [r.d,aG R].length=2 from rfl),hst]
 obtain⟨o,e,q⟩:=vp (S:=S) (r:=r) O hl R.2 U U U U
 have ek:oR Fw (sd cg) [Z r.d,Z (aG R),U,U,U,U] (eQ R.2,S)=cz Fw (sd cg) (R.2.map En.d) [Z r.d,Z (aG R),U,U,U,U] S:=rfl
 simp only [kM,ba,qZ,aH,ak,bG,bM,bL,oj,ob,aj,av,be,aw,Rm.ix1,ek,e]
 cases hp:ja r R R.2 with
 | none=>
  rw [hp] at q
  rcases q with rfl | ⟨b2,b3,b4,b5,rfl⟩ <;> simp [mZ]
 | some g=>
  rw [hp] at q
  have q:o=.rt (.int (g:Int)) S:=q
  subst q;simp [mZ]
def nJ(np fm cg:PF):MS:=aA (bu (au (ax cI (ax aE (ac 0) (mC (.int 0))) (mC (.str "passes")))) (aJ (ai 2 np (aa (ac 0) (aa (ac 1) (ag))))) (aR)) (aA (aS (ai 2 fm (aa (ax aE (ac 0) (mC (.int 0))) (aa (ax aE (ac 1) (mC (.int 1))) (ag)))) (ah 2)) (aJ (on (cG (ai 3 cg (aa (ac 0) (aa (ac 1) (aa (ac 2) (ag)))))) (ac 2) (mC .non))))
def FZ(h:(gX w es).head?=U):es=[]:=by
 have:gX w es=[]:=by simpa using h
 unfold gX at this
 rw [List.append_eq_nil_iff] at this
 simpa using this.2
def Cg{np fm cg:PF}(hp:∀ (S:ab) (r:Rl) (R:Rm),R.1.length<=100->np [r.d,aG R] S=Z (mZ (ja r R R.2),S))(hf:∀ (S:ab) (w:Rw) (es:List En),w≠.passes->es.length<=100->fm [.str w.s,eQ es] S=Z (mZ (gX w es).head?,S))(hc:mW cg)
  {N:List Str} (hN:N.length=3) (hl:R.1.length<=100) (hl2:R.2.length<=100):aO N (nJ np fm cg) 2 [r.d,aG R] S=Z (mZ (lh r R),S):=by
 have hst:ay N [r.d,aG R]=[Z r.d,Z (aG R),U]:=by simp [ay,hN,List.replicate]
 rw [aU (show [r.d,aG R].length=2 from rfl),hst]
 have w3:(r.w.s == ("passes":Str))=decide (r.w=.passes):=Rw.eq r.w .passes
 unfold lh
 simp only [nJ,ba,bv,aN,aH,ak,bG,bM,bL,oj,ob,aj,av,be,aw,Rl.ix0,dC,w3,aK]
 by_cases hw:r.w=.passes
 ·rw [Uo hw,if_pos hw]
  simp only [bX,aP,aD,aq,ak,bG,bM,bL,oj,ob,aj,ao,az,am,aV,hp S r R hl,bg,bN,aC]
 ·rw [Ut hw,if_neg hw]
  have f1:=hf S r.w R.2 hw hl2
  simp only [bA,bm,ob,aI,ba,bH,aD,aq,aH,ak,bG,bM,bL,oj,aj,av,be,aw,Rl.ix0,Rm.ix1,ao,az,am,aV,f1,bI,bd,gH,ik,cj,aP,oN,dR,bP]
  cases hh:(gX r.w R.2).head? with
  | none=>
   obtain⟨ws,es⟩:=R
   have:es=[]:=FZ hh
   subst this
   have c2:=hc.2 S r ws hl
   simp only [mZ,c2,ob,gb]
   simp
  | some g=>
   have c1:=hc.1 S r R g hl
   simp only [mZ,c1,ob,gb]
   cases cL r R g <;> simp [mZ]
end
section
variable{ws:List Wd}{es:List En}{r:Rl}{R:Rm}{g:Nat}
def He(ws:List Wd):List Wd:=ws.filter λw=>!decide (w=.out)
theorem Bp{α:Type}{p:α->Bool}:∀ (xs:List α) (k:Nat),((xs.zipIdx k).filter λq=>p q.1).map (·.1)=xs.filter p
 | [],_=>rfl
 | x::l,k=>by
  rw [VB,UQ,UQ]
  have ih:=Bp (p:=p) l (k+1)
  split
  ·rw [Uy,ih]
  ·exact ih
def Di(h:ws[g]?=Z .out):cm ws g=He ws:=by
 unfold cm He
 rw [<- Bp ws 0]
 congr 1
 apply Wi
 intro q hq
 have hq':ws[q.2]?=Z q.1:=mem_zi.mp (show (q.1,q.2)∈ws.zipIdx from hq)
 by_cases hg:q.2=g
 ·rw [hg,h] at hq'
  have:=Uu hq'
  simp [<- this]
 ·simp [hg]
theorem besK{p:Wd->Bool}:∀ (ws:List Wd) (k g:Nat) (w:Wd),ws[g]?=Z w->p w=true->((ws.zipIdx k).filter λq=>p q.1 && !decide (q.2=k+g)).length+1=(ws.filter p).length
 | [],k,g,w,h,_=>by simp at h
 | x::l,k,0,w,h,hp=>by
  simp at h;subst h
  rw [VB,UQ,UQ,if_pos hp,UE,<- Bp l (k+1),Ux]
  simp only [hp,XY,Wf,UY,Wx,Vc,Vq]
  congr 2
  apply Wi
  intro q hq
  have:k+1<=q.2:=(List.mem_zipIdx hq).1
  have hne:q.2≠k:=by omega
  simp [hne]
 | x::l,k,g+1,w,h,hp=>by
  have ih:=besK (p:=p) l (k+1) g w (by simpa using h) hp
  have e:k+(g+1)=(k+1)+g:=by omega
  rw [e,VB,UQ,UQ]
  have hne:¬ (k=k+1+g):=by omega
  cases hx:p x with
  | false=>simp only [hx,Vt,Vc,Vq];exact ih
  | true=>simp only [hx,hne,WO,Vk,Bool.and_self,VY,UE];omega
def yo:(He ws).length+ws.count .out=ws.length:=by
 unfold He
 have:=List.length_eq_countP_add_countP (λw:Wd=>w == .out) (l:=ws)
 rw [List.count,this,VM,Nat.add_comm]
 congr 1
 rw [VM]
 congr 1
 apply Wi
 intro w _
 cases w <;> rfl
def Lv(h:ws[g]?=Z .rising):(cm ws g).isEmpty=decide (ws.count .out+1=ws.length):=by
 have k:=besK (p:=λw=>!decide (w=.out)) ws 0 g .rising h rfl
 have l:=yo (ws:=ws)
 unfold He at l
 unfold cm
 simp only [WP] at k
 rw [UK,Vi,List.isEmpty_iff,List.map_eq_nil_iff]
 constructor
 ·intro e;rw [e] at k;simp only [Wb] at k;omega
 ·intro e;apply Vg;omega
theorem cnt5:∀ ws:List Wd,ws.count .out+ws.count .reads+ws.count .rising+ws.count .writes+ws.count .raised=ws.length
 | []=>rfl
 | w::l=>by
  have:=cnt5 l
  cases w <;> simp [Vf] <;> omega
def FW:(He ws).all (λw=>decide (w=.reads))=decide (ws.count .out+ws.count .reads=ws.length):=by
 have l:=yo (ws:=ws)
 have c:(He ws).countP (λw=>decide (w=.reads))=ws.count .reads:=by
  unfold He
  rw [List.countP_filter,List.count]
  congr 1
  funext w;cases w <;> rfl
 have d:=List.countP_le_length (p:=λw:Wd=>decide (w=.reads)) (l:=He ws)
 rw [UK,Vi,UF]
 have e:=List.countP_eq_length (p:=λw:Wd=>decide (w=.reads)) (l:=He ws)
 constructor
 ·intro h;have:=e.mpr h;omega
 ·intro h;exact e.mp (by omega)
def NI(h:ROk R){e:En}(he:e∈R.2):(R.2.find? λx=>decide (x.g=e.g))=Z e:=by
 have hn:=h.nd
 generalize R.2=es at hn he
 induction es with
 | nil=>cases he
 | cons x l ih=>
  rw [Uy,Vy] at hn
  rw [UZ]
  rcases UO.mp he with rfl | he
  ·simp
  ·have:x.g≠e.g:=λz=>hn.1 (by rw [z];exact Uz.mpr ⟨e,he,rfl⟩)
   simp only [this,WO]
   exact ih hn.2 he
def RD(h:ROk R){e:En}(he:e∈R.2):cL r R e.g=sL r R.1 e.wr:=by
 have ho:=h.out e he
 unfold cL sL
 rw [ho,if_neg (by simp),NI h he,Di ho]
 have c:=cnt5 R.1
 have l:=yo (ws:=R.1)
 dsimp only
 cases hw:e.wr with
 | true=>
  simp only [VY]
  by_cases h1:R.1.count .reads+R.1.count .rising+R.1.count .out<R.1.length
  ·rw [if_pos h1]
   cases hi:He R.1 with
   | nil=>rw [hi] at l;simp at l;omega
   | cons _ _=>rfl
  ·rw [if_neg h1]
   rw [UK,List.isEmpty_iff,Vi]
   constructor
   ·intro hi;rw [hi] at l;simp at l;omega
   ·intro hi;apply Vg;omega
 | false=>
  simp only [Vc,Vq,FW]
  by_cases h1:R.1.count .reads+R.1.count .rising+R.1.count .out<R.1.length
  ·rw [if_pos h1,Ut (by omega)];rfl
  ·rw [if_neg h1]
   by_cases h2:R.1.count .rising=0
   ·have:(He R.1).length=R.1.count .reads+R.1.count .rising:=by omega
    rw [this,Uo (by omega),Uo h2]
   ·rw [Ut (by omega),Ut h2];rfl
theorem vO{p:Wd->Bool}:∀ (ws:List Wd) (k:Nat),((ws.zipIdx k).filter λq=>p q.1).map (·.2)=(List.range' k ws.length).filter λi=>match ws[i - k]? with | some w=>p w | none=>false
 | [],k=>rfl
 | w::l,k=>by
  have ih:=vO (p:=p) l (k+1)
  rw [VB,UE,List.range'_succ,UQ,UQ]
  have e:(List.range' (k+1) l.length).filter (λi=>match (w::l)[i - k]? with | some w=>p w | none=>false)=(List.range' (k+1) l.length).filter λi=>match l[i - (k+1)]? with | some w=>p w | none=>false:=by
   apply Wi
   intro i hi
   have:k+1<=i:=(List.mem_range'_1.mp hi).1
   rw [show i - k=(i - (k+1))+1 by omega,WA]
  simp only [Nat.sub_self,XJ]
  cases hp:p w with
  | true=>rw [if_pos rfl,if_pos rfl,Uy,ih,e]
  | false=>rw [if_neg (by decide),if_neg (by decide),ih,e]
theorem tJ{α:Type}{p q:α->Bool}:∀ {l:List α},(∀ x∈l,p x=q x)->l.find? p=l.find? q
 | [],_=>rfl
 | x::l,h=>by rw [UZ,UZ,h x Ul,tJ λy hy=>h y (Ur _ hy)]
def Fh:(mH (λw=>decide (w=.rising)) R.1).find? (cL r R)=(og R.1).head?:=by
 have e:mH (λw=>decide (w=.rising)) R.1=(List.range R.1.length).filter λi=>match R.1[i]? with | some w=>decide (w=.rising) | none=>false:=by
  have k:=vO (p:=λw=>decide (w=.rising)) R.1 0
  rw [List.range_eq_range']
  exact k
 rw [e,List.find?_filter]
 unfold og
 rw [List.head?_filter]
 apply tJ
 intro i hi
 by_cases h:R.1[i]?=Z .rising
 ·rw [h]
  have:cL r R i=(cm R.1 i).isEmpty:=by unfold cL;rw [if_pos h]
  simp only [Wf,VR]
  rw [this,Lv h]
  simp
 ·rw [Ut h,Vt]
  cases hw:R.1[i]? with
  | none=>rfl
  | some w=>
   have:¬ (w=.rising):=λz=>h (by rw [hw,z])
   simp [this]
theorem Ar{p:En->Bool}:∀ (es:List En) (k:Nat),(((es.zipIdx k).filter λq=>p q.1).map (·.2)).head?=(es.findIdx? p).map (· + k)
 | [],_=>rfl
 | e::l,k=>by
  have ih:=Ar (p:=p) l (k+1)
  rw [VB,UQ,VL]
  cases hp:p e with
  | true=>simp
  | false=>
   simp only [Vc,Vq]
   rw [ih]
   cases l.findIdx? p with
   | none=>rfl
   | some i=>simp;omega
def jd{p:En->Bool}{es:List En}:(Jz p es).head?=es.findIdx? p:=by
 unfold Jz;rw [Ar];simp
theorem wl{p:En->Bool}:∀ es:List En,((es.filter p).map (·.g)).head?=(es.findIdx? p).bind λi=>es[i]?.map (·.g)
 | []=>rfl
 | e::l=>by
  have ih:=wl (p:=p) l
  rw [UQ,VL]
  cases hp:p e with
  | true=>simp
  | false=>
   simp only [Vc,Vq]
   rw [ih]
   cases l.findIdx? p with
   | none=>rfl
   | some i=>simp
def rh{a b:List Nat}:(Pf a b).head?=a.head?.or b.head?:=by
 unfold Pf;cases a <;> simp
def Au{a b:List Nat}:(a++b).head?=a.head?.or b.head?:=by cases a <;> simp
def mJ{l:List Nat}:(l.take 1).head?=l.head?:=by cases l <;> simp
def jF{p q:En->Bool}(hpq:∀ e,p e = !q e){es:List En}(h:es.findIdx? p=U):es.findIdx? q=(if es=[] then U else Z 0):=by
 cases es with
 | nil=>rfl
 | cons e l=>
  rw [XC] at h
  have:=h e Ul
  rw [hpq] at this
  have hq:q e=true:=by simpa using this
  rw [VL,hq];simp
def yQ(es:List En)(o:Option Nat):Option Nat:=o.bind λi=>es[i]?.map (·.g)
def Lw:(es.map (·.g)).head?=yQ es (if es=[] then U else Z 0):=by cases es <;> simp [yQ]
def Eu{p:En->Bool}{i:Nat}(h:es.findIdx? p=Z i):i<es.length:=(WY.mp h).1
def NG(hw:r.w≠.passes):(gX r.w es).head?=yQ es (LC r es).head?:=by
 have f0:∀ p,((es.filter p).map (·.g)).head?=yQ es (es.findIdx? p):=λp=>wl es
 have ff:es.findIdx? (λ_=>false)=U:=by rw [XC];intros;rfl
 unfold gX LC
 rw [Au,Au,f0,f0,Lw]
 cases hr:r.w with
 | passes=>exact absurd hr hw
 | rows=>
  have e1:gT .rows=λ_=>false:=rfl
  have e2:nj .rows=λ_=>false:=rfl
  rw [e1,e2,ff,mJ]
  cases es <;> simp [yQ,XR]
 | readers=>
  have e1:gT .readers=λ_=>false:=rfl
  have e2:nj .readers=λe=>!e.wr:=rfl
  dsimp only
  rw [e1,e2,ff,mJ,rh,jd,jd]
  show (yQ es _).or _=_
  cases hf:es.findIdx? λe=>!e.wr with
  | none=>rw [jF (q:=λe=>e.wr) (λ_=>rfl) hf];rfl
  | some i=>have:=Eu hf;simp [yQ,Uq this]
 | writers=>
  have e1:gT .writers=λ_=>false:=rfl
  have e2:nj .writers=λe=>e.wr:=rfl
  dsimp only
  rw [e1,e2,ff,mJ,rh,jd,jd]
  show (yQ es _).or _=_
  cases hf:es.findIdx? λe=>e.wr with
  | none=>rw [jF (q:=λe=>!e.wr) (λe=>by simp) hf];rfl
  | some i=>have:=Eu hf;simp [yQ,Uq this]
 | turns=>
  have e1:gT .turns=λe=>decide (e.m=1):=by funext e;simp [gT]
  have e2:nj .turns=λe=>e.wr:=rfl
  dsimp only
  rw [e1,e2,mJ,rh,rh,jd,jd,jd]
  cases hm:es.findIdx? λe=>decide (e.m=1) with
  | some i=>have:=Eu hm;simp [yQ,Uq this]
  | none=>
   show (yQ es _).or _=_
   cases hf:es.findIdx? λe=>e.wr with
   | none=>rw [jF (q:=λe=>!e.wr) (λe=>by simp) hf];rfl
   | some i=>have:=Eu hf;simp [yQ,Uq this]
def maxL_le{b:Int}{l:List Int}:lj (0::l)<=b↔0<=b/\∀ x∈l,x<=b:=by
 obtain⟨h1,h2⟩:=pE (ns:=0::l) (by simp)
 constructor
 ·intro h
  exact⟨Yc (h2 0 Ul) h,λx hx=>Yc (h2 x (Ur _ hx)) h⟩
 ·intro⟨h0,h⟩
  rcases UO.mp h1 with e | e
  ·rw [e];exact h0
  ·exact h _ e
def zp(r:Rl)(ws:List Wd)(es:List En)(i:Nat):Bool:=(match es[i]? with | some e=>sL r ws e.wr | none=>false)&&decide (lj (0::(es.take i).map λe=>e.m+1)<=r.b)
theorem vk(hb:0<=r.b)(hc:∀ e∈es,cL r R e.g=sL r R.1 e.wr):∀ (l p:List En),es=p++l->(∀ e∈p,e.m+1<=r.b)->ja r R l=yQ es ((List.range' p.length l.length).find? (zp r R.1 es))
 | [],p,_,_=>by simp [ja,yQ]
 | e::l,p,he,hp=>by
  have ei:es[p.length]?=Z e:=by rw [he];simp
  have et:es.take p.length=p:=by rw [he];simp
  have hm:e∈es:=by rw [he];simp
  have q0:zp r R.1 es p.length=sL r R.1 e.wr:=by
   unfold zp
   rw [ei,et]
   have:lj (0::p.map λe=>e.m+1)<=r.b:=maxL_le.mpr ⟨hb,λx hx=>by obtain⟨y,hy,rfl⟩:=Uz.mp hx;exact hp y hy⟩
   simp [this]
  rw [UE,List.range'_succ,UZ,q0]
  unfold ja
  rw [hc e hm]
  cases hl:sL r R.1 e.wr with
  | true=>simp [yQ,ei]
  | false=>
   rw [if_neg (by decide)]
   by_cases hbm:r.b<=e.m
   ·rw [if_pos hbm]
    have:(List.range' (p.length+1) l.length).find? (zp r R.1 es)=U:=by
     rw [Yt]
     intro i hi
     have h1:=(List.mem_range'_1.mp hi).1
     have:¬ (lj (0::(es.take i).map λe=>e.m+1)<=r.b):=λz=>by
      have:=(maxL_le.mp z).2 (e.m+1) (Uz.mpr ⟨e,?_,rfl⟩)
      ·omega
      ·rw [List.mem_take_iff_getElem]
       refine⟨p.length,?_,?_⟩
       ·have:=(Uj.mp ei).1;omega
       ·exact(Uj.mp ei).2
     unfold zp;rw [Ut this,Wx];decide
    rw [this];rfl
   ·rw [if_neg hbm]
    have ih:=vk hb hc l (p++[e]) (by rw [he];simp) (λx hx=>by
     rcases UJ.mp hx with hx | hx
     ·exact hp x hx
     ·have:x=e:=by simpa using hx
      rw [this];omega)
    rw [ih];simp
def NF(hw:r.w≠.passes):(LC r es).length<=1:=by
 unfold LC
 cases hr:r.w <;> first | exact absurd hr hw | (simp only [VX];omega)
def Nc(h:ROk R)(hb:0<=r.b):lh r R=yQ R.2 (qd r R.1 R.2).head?:=by
 have hc:∀ e∈R.2,cL r R e.g=sL r R.1 e.wr:=λe he=>RD h he
 unfold lh
 by_cases hw:r.w=.passes
 ·rw [if_pos hw,vk hb hc R.2 [] rfl (λ_ z=>by cases z)]
  congr 1
  unfold qd LC
  rw [hw]
  dsimp only
  rw [List.filter_filter,List.head?_filter,Wb,<- List.range_eq_range']
  rfl
 ·rw [if_neg hw,NG hw]
  have h1:=NF (es:=R.2) hw
  unfold qd
  cases hf:LC r R.2 with
  | nil=>rfl
  | cons i l=>
   rw [hf] at h1
   have:l=[]:=by cases l with | nil=>rfl | cons _ _=>simp at h1
   subst this
   have hi:i<R.2.length:=JI (r:=r) (by rw [hf];exact Ul)
   have ei:R.2[i]?=Z R.2[i]:=Uq hi
   have:=hc R.2[i] (Xo hi)
   simp only [List.head?_cons,yQ,Option.bind_some,ei,Xv,UQ,this]
   cases sL r R.1 (R.2[i]).wr <;> simp [ei]
def gv(r:Rl)(R:Rm):Option Ev:=match (mH (λw=>decide (w=.rising)) R.1).find? (cL r R) with
 | some g=>Z ⟨"steps",g⟩
 | none=>(lh r R).map λg=>⟨"in",g⟩
inductive Bn(r:Rl)(R:Rm):Option Ev->Rm->List Ev->Prop
 | up (g:Nat) (h:R.1[g]?=Z .rising):Bn r R (Z ⟨"steps",g⟩) (R.1.set g .raised,R.2) [⟨"steps",g⟩]
 | go (i:Nat) (e:En) (h:R.2[i]?=Z e):Bn r R (Z ⟨"in",e.g⟩) (pO r R i e) [⟨"in",e.g⟩]
 | no:Bn r R U R []
def kj(h:ROk R)(hb:0<=r.b):Bn r R (gv r R) (iJ r R).1 (iJ r R).2:=by
 unfold gv iJ
 rw [Fh,Nc h hb]
 cases ha:og R.1 with
 | cons g l=>exact .up g (oe (by rw [ha];exact Ul))
 | nil=>
  dsimp only [List.head?_nil]
  cases hs:qd r R.1 R.2 with
  | nil=>exact .no
  | cons i l=>
   have hi:i<R.2.length:=JI (r:=r) (UL.mp (show i∈qd r R.1 R.2 by rw [hs];exact Ul)).1
   have ei:R.2[i]?=Z R.2[i]:=Uq hi
   simp only [List.head?_cons,yQ,Option.bind_some,ei,Xv]
   exact .go i _ ei
def Pg(R:Rm):Nat:=R.2.length+R.1.count .rising
theorem kh{a b:Wd}:∀ {ws:List Wd} {i:Nat},ws[i]?=Z a->a≠b->∀ c,(ws.set i b).count c+(if a=c then 1 else 0)=ws.count c+(if b=c then 1 else 0)
 | [],i,h,_,c=>by simp at h
 | w::l,0,h,hn,c=>by
  simp at h;subst h
  rw [Yq,Vf,Vf]
  by_cases h1:w=c <;> by_cases h2:b=c <;> simp [h1,h2] <;> omega
 | w::l,i+1,h,hn,c=>by
  have:=kh (i:=i) (ws:=l) (by simpa using h) hn c
  rw [Yr,Vf,Vf]
  omega
def uZ{o:Option Ev}{R':Rm}{l:List Ev}(h:ROk R)(s:Bn r R o R' l):(o=U/\R'=R/\l=[])\/(∃ v,o=Z v/\l=[v]/\Pg R'+1=Pg R):=by
 cases s with
 | no=>exact .inl ⟨rfl,rfl,rfl⟩
 | up g hg=>
  refine .inr ⟨_,rfl,rfl,?_⟩
  have:=kh (b:=.raised) hg (by decide) .rising
  simp only [Pg]
  simp at this
  omega
 | go i e hi=>
  refine .inr ⟨_,rfl,rfl,?_⟩
  have ho:=h.out e (UH hi)
  have hl:=(Uj.mp hi).1
  have hc:(R.1.set e.g (if e.wr then .writes else .reads)).count .rising=R.1.count .rising:=by
   cases e.wr with
   | true=>have:=kh (b:=.writes) ho (by decide) .rising;simpa using this
   | false=>have:=kh (b:=.reads) ho (by decide) .rising;simpa using this
  simp only [Pg,pO,hc,UC,Ux,VX,Xn]
  omega
def IM(h:ROk R):Pg R<=2 * R.1.length:=by
 have:=h.len
 have:=List.count_le_length (a:=Wd.rising) (l:=R.1)
 unfold Pg;omega
theorem jN(h:gv r R=U)(hk:ROk R)(hb:0<=r.b):∀ n,om r n R=(R,[])
 | 0=>rfl
 | n+1=>by
  have s:=kj hk hb
  rw [h] at s
  have e:iJ r R=(R,[]):=by
   generalize hq:iJ r R=q at s
   obtain⟨a,b⟩:=q
   dsimp only at s
   cases s;rfl
  show ((om r n (iJ r R).1).1,(iJ r R).2++(om r n (iJ r R).1).2)=_
  rw [e,jN h hk hb n];rfl
theorem Dy:∀ (n:Nat) {R:Rm},ROk R->0<=r.b->Pg R<=n->gv r (om r n R).1=U/\∀ m,n<=m->om r m R=om r n R
 | n,R,hk,hb,hm=>by
  have s:=kj hk hb
  rcases uZ hk s with ⟨h1,h2,h3⟩ | ⟨v,h1,h2,h3⟩
  ·rw [jN h1 hk hb n]
   exact⟨h1,λm _=>jN h1 hk hb m⟩
  ·cases n with
   | zero=>omega
   | succ n=>
    obtain⟨k1,k2⟩:=Dy n (rK (r:=r) hk).1 hb (by omega)
    refine⟨k1,λm hm=>?_⟩
    cases m with
    | zero=>omega
    | succ m=>simp only [om];rw [k2 m (by omega)]
end
section
variable{S:ab}{ws:List Wd}{es:List En}{r:Rl}{R:Rm}{g:Nat}
def NN{l:List Nat}:nk S .non (nt l)=Z (.bl false):=by
 rw [lO (ys:=l.map ni) rfl rfl (by rw [UF];intro d hd;obtain⟨i,_,rfl⟩:=Uz.mp hd;rfl)]
 congr 2
 rw [List.any_eq_false]
 intro d hd;obtain⟨i,_,rfl⟩:=Uz.mp hd
 show ¬ (false=true);decide
def Ht{gw:PF}(O:LA gw){N:List Str}(hN:N.length=3)(hl:ws.length<=100):aO N (lx gw) 2 [aG (ws,[]),.non] S=Z (.non,S):=by
 have hst:ay N [aG (ws,[]),.non]=[Z (aG (ws,[])),Z .non,U]:=by simp [ay,hN,List.replicate]
 rw [aU (show [aG (ws,[]),D.non].length=2 from rfl),hst]
 have o1:gw [aG (ws,[]),.tup [.str "rising"]] S=Z (nt (mH (λw=>decide (w∈[Wd.rising])) ws),S):=O S (ws,[]) [.rising] hl
 have k1:cZ ([.str "rising"],S)=Z (.tup [.str "rising"],S):=bi (by simp)
 have ek:∀ env,oR (ah 2) lm env (eQ [],S)=Z (.nx env S):=λenv=>by show cz (ah 2) lm [] env S=_;simp
 simp only [lx,ba,bv,aN,aH,ak,bG,bM,bL,oj,ob,aj,av,aD,aq,ao,bD,be,az,am,k1,aV,o1,aw,NN,aK,bA,bm,aI,qZ,Rm.ix1,ek,aP,bg,aC]
def GG{wait:PF}(O:∀ S:ab,wait [aG (ws,[]),.non] S=Z (.non,S)){N:List Str}(hN:N.length=6):aO N (fE wait) 3 [r.d,aG (ws,[]),.non] S=Z (.bl false,S):=by
 have hst:ay N [r.d,aG (ws,[]),.non]=[Z r.d,Z (aG (ws,[])),Z .non,U,U,U]:=by simp [ay,hN,List.replicate]
 rw [aU (show [r.d,aG (ws,[]),D.non].length=3 from rfl),hst]
 simp only [fE,ba,bH,aD,aq,ak,bG,bM,bL,oj,ob,aj,ao,az,am,aV,O,bI,bd,gH,ik,cj,aI,bv,aN,aH,av,be,aw,jx,oU,aK,bX,aP,bg,bN,aC]
def kL:MS:=aA (aS (ac 0) (aY 2 (af (ah 3) (af (ah 4) (aQ))))) (aJ (aX (aa (ax bJ (ax bJ (ca (ac 3) (cb) (cW (ac 1))) (aX (aa (ac 2) (ag)))) (ca (ac 3) (cW (ax bJ (ac 1) (mC (.int 1)))) (cb))) (aa (ac 4) (ag)))))
def wK{N:List Str}(hN:N.length=5){w:Wd}(h:g<R.1.length)(hl:R.1.length<=100):aO N kL 3 [aG R,.int (g:Int),w.d] S=Z (aG (R.1.set g w,R.2),S):=by
 have hst:ay N [aG R,.int (g:Int),w.d]=[Z (aG R),Z (.int (g:Int)),Z w.d,U,U]:=by simp [ay,hN,List.replicate]
 rw [aU (show [aG R,D.int (g:Int),w.d].length=3 from rfl),hst]
 have g2:∀ env S,aY 2 (af (ah 3) (af (ah 4) (aQ))) (aG R) env S=(af (ah 3) (af (ah 4) (aQ))) [dE R.1,eQ R.2] env S:=λenv S=>dg
 have c1:sP (dE R.1) U (Z (g:Int),S)=Z (.tup ((R.1.take g).map Wd.d),S):=by
  rw [show dE R.1=.tup (R.1.map Wd.d) from rfl,yi,zC,List.map_take]
 have c2:sP (dE R.1) (Z ((g:Int)+1)) (U,S)=Z (.tup ((R.1.drop (g+1)).map Wd.d),S):=by
  rw [show dE R.1=.tup (R.1.map Wd.d) from rfl,yi,show ((g:Int)+1)=((g+1:Nat):Int) by omega,wA _ _ (by rw [Ux];omega),List.map_drop]
 have k1:∀ x,cZ ([x],S)=Z (.tup [x],S):=λx=>bi (by simp)
 have k2:∀ x y,cZ ([x,y],S)=Z (.tup [x,y],S):=λx y=>bi (by simp)
 have a1:bJ S (.tup ((R.1.take g).map Wd.d)) (.tup [w.d])=Z (.tup ((R.1.take g++[w]).map Wd.d)):=by rw [tQ (by simp;omega)];simp
 have a2:bJ S (.tup ((R.1.take g++[w]).map Wd.d)) (.tup ((R.1.drop (g+1)).map Wd.d))=Z (dE (R.1.set g w)):=by
  rw [tQ (by simp;omega),<- Vl,Qu _ _ h];rfl
 simp only [kL,ba,bH,ak,bG,bM,bL,oj,ob,aj,bI,g2,bQ,bd,eE,cE,gH,ik,cj,aI,aP,bD,aq,aH,jb,nS,jc,nR,kT,kW,c1,av,ao,az,am,k1,aw,a1,be,tR,c2,a2,k2,bg,aC]
 rfl
theorem Pt:∀ {es:List En} {i:Nat} {e:En},(es.map (·.g)).Nodup->es[i]?=Z e->(es.map λx=>D.int (x.g:Int)).findIdx? (λd=>js d (.int (e.g:Int)))=Z i
 | [],i,e,_,h=>by simp at h
 | x::l,0,e,_,h=>by
  simp at h;subst h
  rw [Uy,VL]
  have:js (.int (x.g:Int)) (.int (x.g:Int))=true:=by show ((x.g:Int) == (x.g:Int))=true;simp
  rw [this];rfl
 | x::l,i+1,e,hn,h=>by
  rw [Uy,Vy] at hn
  have h':l[i]?=Z e:=by simpa using h
  have ih:=Pt hn.2 h'
  rw [Uy,VL]
  have:js (.int (x.g:Int)) (.int (e.g:Int))=false:=by
   show ((x.g:Int) == (e.g:Int))=false
   rw [Vh]
   intro z
   have:x.g=e.g:=by omega
   exact hn.1 (by rw [this];exact Uz.mpr ⟨e,UH h',rfl⟩)
  rw [this,ih];rfl
def RW(hn:(es.map (·.g)).Nodup){i:Nat}{e:En}(h:es[i]?=Z e)(hl:es.length<=100):lN (.lst (es.map λx=>D.int (x.g:Int))) [.int (e.g:Int)] S=Z (.int (i:Int),S):=by
 unfold lN
 have h1:pJ S (.lst (es.map λx=>D.int (x.g:Int)))=true:=rfl
 have h2:iD S (.lst (es.map λx=>D.int (x.g:Int)))=Z (es.map λx=>D.int (x.g:Int)):=rfl
 have h3:ci 40 (.int (e.g:Int))=true/\(es.map λx=>D.int (x.g:Int)).all (ci 39)=true/\(es.map λx=>D.int (x.g:Int)).length<=sizeLine:=by
  refine⟨rfl,?_,sz (by rw [Ux];omega)⟩
  rw [UF];intro d hd;obtain⟨x,_,rfl⟩:=Uz.mp hd;rfl
 dsimp only
 rw [if_pos h1,h2]
 show (if _ then _ else U)=_
 rw [if_pos h3,Pt hn h];rfl
def yd:ME:=bE (cC (ac 6)) (aY 4 (af (ah 0) (af (ah 1) (af (ah 2) (af (ah 3) (aQ)))))) (bx) (aX (aa (ac 0) (aa (ac 1) (aa (ax bJ (ac 2) (mC (.int 1))) (aa (ac 3) (ag)))))) [U,U,U,U]
def liGs:ME:=bE (cC (ac 4)) (ah 0) (bx) (ax aE (ac 0) (mC (.int 0))) [U]
def pC(ww:PF):MS:=aA (aS (ac 1) (aY 2 (af (ah 3) (af (ah 4) (aQ))))) (aA (aS (fH lN liGs (aa (ac 2) (ag))) (ah 5)) (aA (aS (ca (ac 4) (cb) (cW (ac 5))) (ah 6)) (aA (bu (au (ax cI (ax aE (ac 0) (mC (.int 0))) (mC (.str "passes")))) (aS (bn (aT (dc .tup)) (aa yd (ag))) (ah 6)) (aR)) (aJ (ai 3 ww (aa (aX (aa (ac 3) (aa (ax bJ (ac 6) (ca (ac 4) (cW (ax bJ (ac 5) (mC (.int 1)))) (cb))) (ag)))) (aa (ac 2) (aa (cT Bq (ax aE (ax aE (ac 4) (ac 5)) (mC (.int 1)))) (ag)))))))))
theorem Lf{en:MG}{t:ME}{f:En->D}(he:∀ (e:En) (a b c d:Option D),en e.d [a,b,c,d] S=Z ([Z (.int (e.g:Int)),Z (.str (bF e.wr)),Z (.int e.m),Z (bO e.t)],S))(ht:∀ e:En,t [Z (.int (e.g:Int)),Z (.str (bF e.wr)),Z (.int e.m),Z (bO e.t)] S=Z (f e,S)) :
  ∀ (es:List En) (a b c d:Option D),dN en bx t (es.map En.d) [a,b,c,d] S=Z (es.map f,S)
 | [],a,b,c,d=>by simp
 | e::l,a,b,c,d=>by
  have ih:=Lf he ht l (Z (.int (e.g:Int))) (Z (.str (bF e.wr))) (Z (.int e.m)) (Z (bO e.t))
  rw [Uy,gU,he,ob,sY,iF,ob,sX,ht,ob,sW,ih,ob,sV,Uy]
def Qf(e:En):En:={ e with m:=e.m+1 }
def CC{a0 a1 a2 a3 a4 a5:Option D}(hl:es.length<=100):yd [a0,a1,a2,a3,a4,a5,Z (eQ es)] S=Z (.lst ((es.map Qf).map En.d),S):=by
 have k:=Lf (S:=S) (en:=aY 4 (af (ah 0) (af (ah 1) (af (ah 2) (af (ah 3) (aQ)))))) (t:=aX (aa (ac 0) (aa (ac 1) (aa (ax bJ (ac 2) (mC (.int 1))) (aa (ac 3) (ag)))))) (f:=λe=>(Qf e).d) (λe a b c d=>by
  have g4:aY 4 (af (ah 0) (af (ah 1) (af (ah 2) (af (ah 3) (aQ))))) e.d [a,b,c,d] S=(af (ah 0) (af (ah 1) (af (ah 2) (af (ah 3) (aQ))))) [.int (e.g:Nat),.str (bF e.wr),.int e.m,bO e.t] [a,b,c,d] S:=rj
  rw [g4];simp only [bQ,bd,ob,eE,cE,gH,ik]) (λe=>by
  have k4:∀ x y z w,cZ ([x,y,z,w],S)=Z (.tup [x,y,z,w],S):=λx y z w=>bi (by simp)
  simp only [bD,aq,ak,bG,bM,bL,oj,ob,aj,ao,aH,av,be,aw,tR,az,am,k4]
  rfl) es U U U U
 simp only [yd,cK,dL,ak,bG,bM,bL,oj,ob,aj,gR]
 rw [jW (by rw [Ux];omega)]
 show (dN _ bx _ (es.map En.d) [U,U,U,U] S).bind _=_
 rw [k,ob,jX,Vs];rfl
def FJ{ww:PF}(hw:∀ (S:ab) (R:Rm) (g:Nat) (w:Wd),g<R.1.length->R.1.length<=100->ww [aG R,.int (g:Int),w.d] S=Z (aG (R.1.set g w,R.2),S)){N:List Str}(hN:N.length=7)(h:ROk R){i:Nat}{e:En}(hi:R.2[i]?=Z e)(hl:R.1.length<=50) :
  aO N (pC ww) 3 [r.d,aG R,.int (e.g:Int)] S=Z (aG (pO r R i e),S):=by
 have hst:ay N [r.d,aG R,.int (e.g:Int)]=[Z r.d,Z (aG R),Z (.int (e.g:Int)),U,U,U,U]:=by simp [ay,hN,List.replicate]
 rw [aU (show [r.d,aG R,D.int (e.g:Int)].length=3 from rfl),hst]
 have hle:=h.len
 have hil:=(Uj.mp hi).1
 have g2:∀ env S,aY 2 (af (ah 3) (af (ah 4) (aQ))) (aG R) env S=(af (ah 3) (af (ah 4) (aQ))) [dE R.1,eQ R.2] env S:=λenv S=>dg
 have gs:∀ env:aW,oS (ah 0) bx (ax aE (ac 0) (mC (.int 0))) [U] env (R.2.map En.d,S)=Z (.lst (R.2.map λe=>.int (e.g:Int)),S):=λenv=>gsC (b:=U) rfl (by omega)
 have km:∀ (ms:MA) env,vM lN ms env (.lst (R.2.map λe=>.int (e.g:Int)),S)=(ms env S).bind (gd lN (.lst (R.2.map λe=>.int (e.g:Int)))):=λms env=>rfl
 have ki:=RW (S:=S) h.nd hi (by omega)
 have c1:sP (eQ R.2) U (Z (i:Int),S)=Z (eQ (R.2.take i),S):=by
  rw [show eQ R.2=.tup (R.2.map En.d) from rfl,yi,zC];unfold eQ;rw [List.map_take]
 have c2:sP (eQ R.2) (Z ((i:Int)+1)) (U,S)=Z (eQ (R.2.drop (i+1)),S):=by
  rw [show eQ R.2=.tup (R.2.map En.d) from rfl,yi,show ((i:Int)+1)=((i+1:Nat):Int) by omega,wA _ _ (by rw [Ux];omega)];unfold eQ;rw [List.map_drop]
 have w3:(r.w.s == ("passes":Str))=decide (r.w=.passes):=Rw.eq r.w .passes
 have x1:aE S (eQ R.2) (.int (i:Int))=Z e.d:=es_ix hi
 have k2:∀ x y,cZ ([x,y],S)=Z (.tup [x,y],S):=λx y=>bi (by simp)
 have ad:∀ l:List En,l.length<=60->bJ S (eQ l) (eQ (R.2.drop (i+1)))=Z (eQ (l++R.2.drop (i+1))):=λl hl'=>by
  unfold eQ;rw [tQ (by simp;omega),<- Vl]
 have wi:=λl=>hw S (R.1,l) e.g (if e.wr then .writes else .reads) (h.lt (UH hi)) (show R.1.length<=100 by omega)
 have wi':∀ l,ww [.tup [dE R.1,eQ l],.int (e.g:Int),(if e.wr then Wd.writes else Wd.reads).d] S=Z (aG (R.1.set e.g (if e.wr then .writes else .reads),l),S):=wi
 have sq:aT (dc .tup) [.lst (((R.2.take i).map Qf).map En.d)] S=Z (eQ ((R.2.take i).map Qf),S):=by rw [jw];rfl
 simp only [pC,liGs,ba,bH,ak,bG,bM,bL,oj,ob,aj,bI,g2,bQ,bd,eE,cE,gH,ik,cj,aI,DV,cK,dL,gR,gs,km,aq,ao,az,am,sS,ki,jb,nS,jc,nR,kT,kW,c1,bv,aN,aH,av,be,aw,Rl.ix0,dC,w3,aK]
 by_cases hp:r.w=.passes
 ·rw [Uo hp]
  have e1:(R.2.take i).map (uP r)=(R.2.take i).map Qf:=by
   apply WT;intro x _;simp [uP,Qf,hp]
  simp only [bX,bH,cu,aq,CC (es:=R.2.take i) (by simp;omega),ob,ao,az,am,cw,sq,bI,bd,gH,ik,cj,aI,aP,aD,bD,ak,bG,bM,bL,oj,aj,aH,av,jb,nS,kT,be,aw,tR,kW,nR,jc,c2,ad _ (show ((R.2.take i).map Qf).length<=60 by simp;omega),k2,sD,x1,En.ix1,Ho,bP,wi',bg,aC]
  unfold pO;rw [e1]
 ·rw [Ut hp]
  have e1:(R.2.take i).map (uP r)=R.2.take i:=by
   have:∀ x:En,uP r x=x:=λx=>by simp [uP,hp]
   rw [WT (λx _=>this x),List.map_id']
  simp only [bA,bm,ob,aI,aP,aD,aq,bD,ak,bG,bM,bL,oj,aj,ao,aH,av,jb,nS,kT,be,aw,tR,kW,nR,jc,c2,ad _ (show (R.2.take i).length<=60 by simp;omega),az,am,k2,sD,x1,En.ix1,Ho,bP,wi',bg,aC]
  unfold pO;rw [e1]
def qQ:Option Ev->D
 | none=>.non
 | some v=>v.d
def tV(cg:PF):MS:=bu (cG (ai 3 cg (aa (ac 0) (aa (ac 1) (aa (ac 2) (ag)))))) (aJ (aX (aa (mC (.str "steps")) (aa (ac 2) (ag))))) (aR)
def nK(gw cg nx:PF):MS:=aA (eD (ai 2 gw (aa (ac 1) (aa (aX (aa (mC (.str "rising")) (ag))) (ag)))) (ah 2) (tV cg)) (aA (aS (ai 2 nx (aa (ac 0) (aa (ac 1) (ag)))) (ah 2)) (aJ (on (au (ax AO (ac 2) (mC .non))) (mC .non) (aX (aa (mC (.str "in")) (aa (ac 2) (ag)))))))
theorem wC{cg:PF}(O:mW cg)(hl:R.1.length<=100):∀ (l:List Nat) (a:Option D),∃ b,cz (ah 2) (tV cg) (l.map ni) [Z r.d,Z (aG R),a] S=Z (match l.find? (cL r R) with | some g=>.rt (Ev.mk "steps" g).d S | none=>.nx [Z r.d,Z (aG R),b] S)
 | [],a=>⟨a,by simp⟩
 | g::l,a=>by
  obtain⟨b,ih⟩:=wC O hl l (Z (ni g))
  refine⟨b,?_⟩
  have c1:cg [r.d,aG R,ni g] S=Z (.bl (cL r R g),S):=O.1 S r R g hl
  have k2:∀ x y,cZ ([x,y],S)=Z (.tup [x,y],S):=λx y=>bi (by simp)
  rw [Uy,fe,bd,ob,ik,ik,gH,nU]
  simp only [tV,bv,dR,aD,aq,ak,bG,bM,bL,oj,ob,aj,ao,az,am,bP,c1,gb,UZ]
  cases hc:cL r R g with
  | true=>simp only [bX,aP,bD,aq,be,ob,ao,ak,bG,bM,bL,oj,aj,az,am,k2,bg,Ej];rfl
  | false=>
   rw [bA,bm,ob,mF]
   exact ih
def Db{gw cg nx:PF}(hg:LA gw)(O:mW cg)(hn:∀ (S:ab) (r:Rl) (R:Rm),R.1.length<=100->R.2.length<=100->nx [r.d,aG R] S=Z (mZ (lh r R),S)){N:List Str}(hN:N.length=3)(hl:R.1.length<=100)(hl2:R.2.length<=100) :
  aO N (nK gw cg nx) 2 [r.d,aG R] S=Z (qQ (gv r R),S):=by
 have hst:ay N [r.d,aG R]=[Z r.d,Z (aG R),U]:=by simp [ay,hN,List.replicate]
 rw [aU (show [r.d,aG R].length=2 from rfl),hst]
 have o1:gw [aG R,.tup [.str "rising"]] S=Z (nt (mH (λw=>decide (w∈[Wd.rising])) R.1),S):=hg S R [.rising] hl
 have k1:cZ ([.str "rising"],S)=Z (.tup [.str "rising"],S):=bi (by simp)
 have k2:∀ x y,cZ ([x,y],S)=Z (.tup [x,y],S):=λx y=>bi (by simp)
 obtain⟨b,e⟩:=wC (S:=S) (r:=r) O hl (mH (λw=>decide (w∈[Wd.rising])) R.1) U
 have ek:oR (ah 2) (tV cg) [Z r.d,Z (aG R),U] (nt (mH (λw=>decide (w∈[Wd.rising])) R.1),S)=cz (ah 2) (tV cg) ((mH (λw=>decide (w∈[Wd.rising])) R.1).map ni) [Z r.d,Z (aG R),U] S:=rfl
 have ew:(λw=>decide (w∈[Wd.rising]))=λw=>decide (w=Wd.rising):=by funext w;simp
 unfold gv
 simp only [nK,ba,qZ,aD,aq,ak,bG,bM,bL,oj,ob,aj,ao,bD,be,az,am,k1,aV,o1,ek,e]
 rw [ew]
 cases hf:(mH (λw=>decide (w=Wd.rising)) R.1).find? (cL r R) with
 | some g=>simp only [bN,ob,aC,qQ]
 | none=>
  have n1:=hn S r R hl hl2
  simp only [aI,ba,bH,aD,aq,ak,bG,bM,bL,oj,ob,aj,ao,az,am,aV,n1,bI,bd,gH,ik,cj,aP,oN,aN,aH,av,be,aw,jx]
  cases lh r R with
  | none=>simp [mZ,oU,qQ]
  | some g=>simp [mZ,oU,qQ,k2,Ev.d]
def lA(ww li:PF):MS:=aA (aS (ac 2) (aY 2 (af (ah 3) (af (ah 4) (aQ))))) (aA (bu (au (ax cI (ac 3) (mC (.str "steps")))) (aJ (ai 3 ww (aa (ac 1) (aa (ac 4) (aa (mC (.str "raised")) (ag)))))) (aR)) (aJ (ai 3 li (aa (ac 0) (aa (ac 1) (aa (ac 4) (ag)))))))
def Bi{ww li:PF}(hw:∀ (S:ab) (R:Rm) (g:Nat) (w:Wd),g<R.1.length->R.1.length<=100->ww [aG R,.int (g:Int),w.d] S=Z (aG (R.1.set g w,R.2),S))
  (hi:∀ (S:ab) (r:Rl) (R:Rm) (i:Nat) (e:En),ROk R->R.2[i]?=Z e->R.1.length<=50->li [r.d,aG R,.int (e.g:Int)] S=Z (aG (pO r R i e),S)) {N:List Str} (hN:N.length=5) (h:ROk R) (hl:R.1.length<=50) {v:Ev} {R':Rm} {l:List Ev} (s:Bn r R (Z v) R' l) :
  aO N (lA ww li) 3 [r.d,aG R,v.d] S=Z (aG R',S):=by
 have hst:ay N [r.d,aG R,v.d]=[Z r.d,Z (aG R),Z v.d,U,U]:=by simp [ay,hN,List.replicate]
 rw [aU (show [r.d,aG R,v.d].length=3 from rfl),hst]
 have g2:∀ env S,aY 2 (af (ah 3) (af (ah 4) (aQ))) v.d env S=(af (ah 3) (af (ah 4) (aQ))) [.str v.w,.int (v.g:Nat)] env S:=λenv S=>dg
 simp only [lA,ba,bH,ak,bG,bM,bL,oj,ob,aj,bI,g2,bQ,bd,eE,cE,gH,ik,cj,aI,bv,aN,aH,av,be,aw,dC]
 cases s with
 | up g hg=>
  have e1:(("steps":Str) == ("steps":Str))=true:=by decide
  have w1:ww [aG R,.int (g:Int),.str "raised"] S=Z (aG (R.1.set g .raised,R.2),S):=hw S R g .raised (Uj.mp hg).1 (by omega)
  simp only [e1,aK,bX,aP,aD,aq,ak,bG,bM,bL,oj,ob,aj,ao,be,az,am,bP,w1,bg,bN,aC]
 | go i e he=>
  have e1:(("in":Str) == ("steps":Str))=false:=by decide
  have w1:=hi S r R i e h he hl
  simp only [e1,aK,bA,bm,aI,aP,aD,aq,ak,bG,bM,bL,oj,ob,aj,ao,az,am,bP,w1,bg,aC]
def BB(br co:PF):MS:=aA (aS (ai 3 br (aa (ac 0) (aa (ac 1) (aa (ac 3) (ag))))) (ah 1)) (aA (fJ (fH jy (ac 2) (aa (ac 3) (ag)))) (aS (ai 2 co (aa (ac 0) (aa (ac 1) (ag)))) (ah 3)))
def Bz:MT:=au (ax dm (ac 3) (mC .non))
def ly(br co:PF):MS:=aA (aS (eM (ag)) (ah 2)) (aA (aS (ai 2 co (aa (ac 0) (aa (ac 1) (ag)))) (ah 3)) (aA (dA Bz (BB br co)) (aJ (aX (aa (ac 1) (aa (bn (aT (dc .tup)) (aa (ac 2) (ag))) (ag)))))))
structure Uc(br co:PF):Prop where
 c:∀ (S:ab) (r:Rl) (R:Rm),R.1.length<=100->R.2.length<=100->co [r.d,aG R] S=Z (qQ (gv r R),S)
 b:∀ (S:ab) (r:Rl) (R:Rm) (v:Ev) (R':Rm) (l:List Ev),ROk R->R.1.length<=50->Bn r R (Z v) R' l->br [r.d,aG R,v.d] S=Z (aG R',S)
theorem vb{br co:PF}(O:Uc br co)(hb:0<=r.b):∀ (n f:Nat) (R:Rm) (evs:List Ev),ROk R->R.1.length<=50->Pg R<=n->n<f->evs.length+n<=400 ->
  fW Bz (BB br co) f [Z r.d,Z (aG R),Z (.ref S.length),Z (qQ (gv r R))] (S++[.lst (evs.map Ev.d)])=Z (.nx [Z r.d,Z (aG (om r n R).1),Z (.ref S.length),Z .non] (S++[.lst ((evs++(om r n R).2).map Ev.d)]))
 | n,0,R,evs,_,_,_,hf,_=>by omega
 | n,f+1,R,evs,h,hl,hm,hf,he=>by
  have s:=kj (r:=r) h hb
  rw [FI]
  simp only [Bz,aN,aH,ak,bG,bM,bL,oj,ob,aj,av,be,aw,AN]
  rcases uZ h s with ⟨h1,h2,h3⟩ | ⟨v,h1,h2,h3⟩
  ·rw [h1,jN h1 h hb n]
   simp only [qQ,oU,UY,aK,ob,kWh_f,UX]
  ·cases n with
   | zero=>omega
   | succ n=>
    obtain⟨q1,q2⟩:=rK (r:=r) h
    have ih:=vb O hb n f (iJ r R).1 (evs++[v]) q1 (by omega) (by omega) (by omega) (by simp;omega)
    rw [h1] at s ⊢
    have b1:∀ S,br [r.d,aG R,v.d] S=Z (aG (iJ r R).1,S):=λS=>O.b S r R v _ _ h hl s
    have c1:∀ S,co [r.d,aG (iJ r R).1] S=Z (qQ (gv r (iJ r R).1),S):=λS=>O.c S r _ (by omega) (by have:=q1.len;omega)
    have ap:jy (.ref S.length) [v.d] (S++[.lst (evs.map Ev.d)])=Z (.non,S++[.lst ((evs++[v]).map Ev.d)]):=SY (by omega)
    have nn:oU (qQ (Z v)) .non=false:=rfl
    have ev:qQ (Z v)=v.d:=rfl
    rw [nn]
    simp only [Vk,aK,ob,kWh_t,BB,ba,bH,aD,aq,ak,bG,bM,bL,oj,aj,ao,az,am,bP,ev,b1,bI,bd,gH,ik,cj,aI,Nk,DV,NP,sS,ap,Nx,aV,c1,Np]
    have e2:om r (n+1) R=((om r n (iJ r R).1).1,(iJ r R).2++(om r n (iJ r R).1).2):=rfl
    rw [e2,h2,<- Vw]
    exact ih
def xk{br co:PF}(O:Uc br co)(hb:0<=r.b){N:List Str}(hN:N.length=4)(h:ROk R)(hl:R.1.length<=50) :
  aO N (ly br co) 2 [r.d,aG R] S=Z (.tup [aG (aB r R).1,cU (aB r R).2],S++[.lst ((aB r R).2.map Ev.d)]):=by
 have hst:ay N [r.d,aG R]=[Z r.d,Z (aG R),U,U]:=by simp [ay,hN,List.replicate]
 rw [aU (show [r.d,aG R].length=2 from rfl),hst]
 have k0:Ei ([],S)=Z (.ref S.length,S++[.lst []]):=Ao (by simp)
 have c1:∀ S,co [r.d,aG R] S=Z (qQ (gv r R),S):=λS=>O.c S r _ (by omega) (by have:=h.len;omega)
 have lp:=vb (S:=S) O hb (2 * R.1.length) 5000 R [] h hl (IM h) (by omega) (by simp;omega)
 simp only [Xj,Vz] at lp
 have k2:∀ S x y,cZ ([x,y],S)=Z (.tup [x,y],S):=λS x y=>bi (by simp)
 unfold aB
 simp only [ly,ba,bH,Nj,az,ob,k0,bI,bd,gH,ik,cj,aI,aD,aq,ak,bG,bM,bL,oj,aj,ao,am,aV,c1,IW,lp,aP,bD,cu,cw,SX,k2,bg,aC]
end
section
variable{S:ab}{r:Rl}{R:Rm}
def Rq{n:Nat}(e:En):ci (n+2) e.d=true:=by
 obtain⟨g,wr,m,t⟩:=e
 cases t <;> rfl
def Rp{n:Nat}:ci (n+4) (aG R)=true:=by
 show ((dE R.1::eQ R.2::[]).all (ci (n+3)))=true
 rw [Vb,Vb,Ya,WE,Uk]
 refine⟨Ro (n:=n+2),?_⟩
 show ((R.2.map En.d).all (ci (n+2)))=true
 rw [UF];intro d hd;obtain⟨e,_,rfl⟩:=Uz.mp hd;exact Rq e
def MW{n:Nat}{l:List Ev}:ci (n+3) (cU l)=true:=by
 show ((l.map Ev.d).all (ci (n+2)))=true
 rw [UF];intro d hd;obtain⟨e,_,rfl⟩:=Uz.mp hd;rfl
def MX{n:Nat}{l:List Ev}:ci (n+5) (.tup [aG R,cU l])=true:=by
 show ((aG R::cU l::[]).all (ci (n+4)))=true
 rw [Vb,Vb,Ya,WE,Uk]
 exact⟨Rp,MW (n:=n+1)⟩
def pg{x:D}(h:ci 40 x=true):eV S x x=Z (.bl false):=by
 rw [pR h h,lQ 40 x h];rfl
def LV{g:Nat}{R':Rm}{o:Option Ev}{l:List Ev}(s:Bn r R o R' l)(ho:o=Z ⟨"in",g⟩):∃ i e,e.g=g/\R.2[i]?=Z e/\R'=pO r R i e:=by
 cases s with
 | up g' h=>exact absurd (congrArg Ev.w (Uu ho)) (show ¬ (("steps":Str) = "in") by decide)
 | go i e h=>exact⟨i,e,congrArg Ev.g (Uu ho),h,rfl⟩
 | no=>cases ho
end
section
variable{r:Rl}
structure Calm(ws:List Wd):Prop where
 only:∀ w∈ws,w=.out\/w=.reads
 one:1<=ws.count .reads
theorem Calm.set{ws:List Wd}(c:Calm ws){g:Nat}(hg:ws[g]?=Z .out):Calm (ws.set g .reads)/\(ws.set g .reads).count .reads=ws.count .reads+1:=by
 have h:=kh (b:=.reads) hg (by decide) .reads
 simp at h
 have:=c.one
 refine⟨⟨λw hw=>?_,by omega⟩,h⟩
 rcases List.mem_or_eq_of_mem_set hw with z | z
 ·exact c.only w z
 ·exact .inr z
end
section
variable{α:Type}{enc:α->D}{p:α->Bool}{f:α->D}{t:MT}{e:ME}{rest:aW}{S:ab}{r:Nat}{xs:List α}
end
section
variable{r:Rl}{es:List En}
end
def MB(k:Nat)(es:List En):Prop:=∀ e∈es,0<=e.m/\e.m<=k/\∀ t,e.t=Z t->1<=t/\t<=9
section
variable{r:Rl}{R:Rm}{k j:Nat}{es:List En}
def MB.mono(h:MB k es)(hk:k<=j):MB j es:=λe he=>⟨(h e he).1,by have:=(h e he).2.1;omega,(h e he).2.2⟩
def MB.sub{l:List En}(h:MB k es)(hs:∀ e∈l,e∈es):MB k l:=λe he=>h e (hs e he)
theorem MB.filter(h:MB k es)(p:En->Bool):MB k (es.filter p):=h.sub λe he=>(UL.mp he).1
def MB.app{l:List En}(h:MB k es)(h':MB k l):MB k (es++l):=λe he=>(UJ.mp he).elim (h e) (h' e)
def MB.up(h:MB k es):MB (k+1) (es.map (uP r)):=λe he=>by
 obtain⟨x,hx,rfl⟩:=Uz.mp he
 obtain⟨h1,h2,h3⟩:=h x hx
 refine⟨?_,?_,h3⟩ <;> (show _<=_;unfold uP;dsimp only;split <;> omega)
def Qs(h:MB k R.2):MB (k+1) (iJ r R).1.2:=by
 unfold iJ
 split
 ·exact h.mono (by omega)
 ·split
  ·split
   ·exact MB.app (MB.up (h.sub λe he=>Ve he)) ((h.sub λe he=>Wo he).mono (by omega))
   ·exact h.mono (by omega)
  ·exact h.mono (by omega)
theorem HY:∀ (n:Nat) {R:Rm} {k:Nat},MB k R.2->MB (k+n) (om r n R).1.2
 | 0,R,k,h=>h
 | n+1,R,k,h=>by
  have:=HY n (Qs (r:=r) h)
  rw [show k+1+n=k+(n+1) by omega] at this
  exact this
def lu(h:MB k R.2):MB (k+2 * R.1.length) (aB r R).1.2:=HY _ h
def Rv{w:Wd}(h:MB k es)(hk:1<=k):MB k (yO r w es):=by
 unfold yO
 split
 ·intro e he
  obtain⟨x,hx,rfl⟩:=Uz.mp he
  obtain⟨h1,h2,h3⟩:=h x hx
  split
  ·exact⟨h1,h2,h3⟩
  ·exact⟨by show (0:Int)<=1;decide,by show (1:Int)<=k;omega,h3⟩
 ·exact h
def KM{dd:Dd}{x:Rm×List Ev}{n:Nat}(hd:dd.Ok n)(h:MB k R.2)(hx:du r R dd=Z x):MB (k+1+2 * R.1.length) x.1.2:=by
 have h1:MB (k+1) R.2:=h.mono (by omega)
 unfold du at hx
 split at hx
 ·cases hx
 ·split at hx
  ·cases hx
   refine lu (R:=(R.1,_)) ?_
   intro e he
   obtain⟨he,ht⟩:=UL.mp he
   obtain⟨y,hy,rfl⟩:=Uz.mp he
   obtain⟨a1,a2,a3⟩:=h1 y hy
   refine⟨a1,a2,λt z=>?_⟩
   have ht':=Us ht
   unfold fT at z ht'
   dsimp only at z ht'
   cases hy2:y.t with
   | none=>rw [hy2] at z;cases z
   | some u=>
    rw [hy2] at z ht'
    have:=a3 u hy2
    rw [Xv] at z ht'
    cases z
    have:u - 1≠0:=λq=>ht' (by rw [q])
    omega
  ·rename_i wr g t hcan
   cases hx
   have hs:MB (k+1+2 * R.1.length) (aB r (R.1,R.2++[eK wr g t])).1.2:=by
    refine lu (R:=(R.1,_)) (MB.app h1 ?_)
    intro e he
    rw [UN.mp he]
    refine⟨Int.le_refl _,by show (0:Int)<=_;omega,λu z=>?_⟩
    have hl:uh t:=hd.2
    unfold eK at z
    dsimp only at z
    split at z
    ·cases z;decide
    ·rename_i hne
     have:=hl u z
     have:u≠0:=λq=>hne (by rw [z,q])
     omega
   unfold qT
   dsimp only
   split
   ·exact hs
   ·split
    ·exact hs.filter _
    ·exact hs
  ·rename_i kk g hcan
   split at hx
   ·cases hx;exact h.mono (by omega)
   ·split at hx
    ·rename_i w hw
     cases hx
     have:=lu (r:=r) (R:=(R.1.set g (bY kk w),gj r kk w g R.2)) (k:=k+1) (by
      show MB (k+1) (gj r kk w g R.2)
      unfold gj
      refine MB.filter ?_ _
      split
      ·exact Rv h1 (by omega)
      ·exact h1)
     rw [show (R.1.set g (bY kk w),gj r kk w g R.2).1.length=R.1.length by simp] at this
     exact this
    ·cases hx
def Behind.mb{n:Nat}{l:List Dd}(h:Behind r n l R):MB (l.length * (2 * n+1)) R.2:=by
 induction h with
 | nil=>intro e he;cases he
 | snoc h hd e ih=>
  have:=KM hd ih e
  rw [h.ok.2] at this
  rw [UC,Vd]
  refine this.mono ?_
  rw [Nat.add_mul]
  omega
end
def pB{n:Nat}:cQ 0 n=(List.range n).map ni:=by
 unfold cQ ni
 refine WT λi _=>?_
 rw [Int.zero_add]
section
variable{α:Type}{enc:α->D}{f:α->Nat->D}{e:ME}{mi:MA}{S:ab}{n:Nat}{c:Option D}
theorem Le{w:Option D}{f:Nat->D}(h:∀ g,e [w,Z (ni g),c] S=Z (f g,S)):∀ (us:List Nat) (b:Option D),∃ b',iw (ah 1) bx e (us.map ni) [w,b,c] S=Z (us.map f,[w,b',c],S)
 | [],b=>⟨b,CA⟩
 | g::us,b=>by
  obtain⟨b',ih⟩:=Le h us (Z (ni g))
  refine⟨b',?_⟩
  rw [Uy,Ah,bd,ob,ik,gH,Sx,iF,ob,Sv,h,ob,Ss,ih,ob,Sq,Uy]
theorem Ld(hi:∀ a b,mi [a,b,c] S=Z ((List.range n).map ni,S))(he:∀ x g,e [Z (enc x),Z (ni g),c] S=Z (f x g,S)) :
  ∀ (xs:List α) (a b:Option D),iu (ah 0) bx mi (ah 1) bx e (xs.map enc) [a,b,c] S=Z (xs.flatMap λx=>(List.range n).map (f x),S)
 | [],a,b=>Cy
 | x::xs,a,b=>by
  obtain⟨b',h⟩:=Le (c:=c) (S:=S) (w:=Z (enc x)) (e:=e) (f:=f x) (he x) (List.range n) b
  rw [Uy,Ag,bd,ob,gH,Si,iF,ob,Sg,hi,ob,Se,h,ob,Sb,Ld hi he xs,ob,RZ,Wy]
def Eg{cap:List (Option Nat)}{env:aW}{a b:Option D}{xs:List α}{ys:List D}(hy:ys=xs.map enc)(hc:nu cap env=[a,b,c])(hl:xs.length * n<=1000)(hi:∀ a b,mi [a,b,c] S=Z ((List.range n).map ni,S))(he:∀ x g,e [Z (enc x),Z (ni g),c] S=Z (f x g,S)) :
  Sk (ah 0) bx mi (ah 1) bx e cap env (ys,S)=Z (.lst (xs.flatMap λx=>(List.range n).map (f x)),S):=by
 subst hy
 rw [Sj,hc,Ld hi he,ob,Ny]
 have:∀ l:List α,(l.flatMap λx=>(List.range n).map (f x)).length=l.length * n:=λl=>by
  induction l with
  | nil=>simp
  | cons x l ih=>rw [Wy,UC,ih,Ux,List.length_range,UE,Nat.succ_mul];omega
 rw [this];exact hl
end
def GW(n:Nat):List Dd:=[false,true].flatMap λwr=>(List.range n).map λg=>Dd.ask wr g U
def GX(n:Nat):List Dd:=[Ak.up,.down,.leave,.stop].flatMap λk=>(List.range n).map λg=>Dd.act k g
def pZ(n:Nat):List Dd:=GW n++GX n
def uc{n:Nat}:(GW n).length=n+n:=by simp [GW]
def ud{n:Nat}:(GX n).length=n+(n+(n+n)):=by simp [GX]
def rq{n:Nat}{dd:Dd}(h:dd∈pZ n):dd.Ok n/\dd≠.tick:=by
 rcases UJ.mp h with h | h
 ·obtain⟨wr,_,h⟩:=WH.mp h
  obtain⟨g,hg,rfl⟩:=Uz.mp h
  exact⟨⟨Vr.mp hg,λk hk=>by cases hk⟩,by intro z;cases z⟩
 ·obtain⟨k,_,h⟩:=WH.mp h
  obtain⟨g,hg,rfl⟩:=Uz.mp h
  exact⟨Vr.mp hg,by intro z;cases z⟩
def paA:ME:=cA (cC (mC (.tup [.str "read",.str "write"]))) (ah 0) (bx) (bq (aa (ac 2) (ag))) (ah 1) (bx) (aX (aa (ac 0) (aa (ac 1) (aa (mC .non) (ag))))) [U,U,Z 0]
def paB:ME:=cA (cC (mC (.tup [.str "up",.str "down",.str "leave",.str "stop"]))) (ah 0) (bx) (bq (aa (ac 2) (ag))) (ah 1) (bx) (aX (aa (ac 0) (aa (ac 1) (ag)))) [U,U,Z 0]
def xq:MS:=aA (aS paA (ah 1)) (aJ (bn (aT (dc .tup)) (aa (ax bJ (ac 1) paB) (ag))))
section
variable{S:ab}{n:Nat}{a:Option D}
def rgI(h5:n<=5)(a b:Option D):bq (aa (ac 2) (ag)) [a,b,Z (.int (n:Int))] S=Z ((List.range n).map ni,S):=by
 have:Nq ([.int (n:Int)],S)=Z (cQ 0 n,S):=by rw [nT (by omega) (by omega)];rfl
 simp only [gF,aq,ak,bG,bM,bL,oj,ob,aj,ao,az,am,this,pB]
def AJ{α:Type}(f:α->Nat->Dd)(xs:List α):(xs.flatMap λx=>(List.range n).map λg=>(f x g).d)=(xs.flatMap λx=>(List.range n).map (f x)).map Dd.d:=by
 induction xs with
 | nil=>rfl
 | cons x l ih=>rw [Wy,Wy,Vl,ih,Vs];rfl
def QW(h5:n<=5):paA [Z (.int (n:Int)),a] S=Z (.lst ((GW n).map Dd.d),S):=by
 have k3:∀ x y z:D,cZ ([x,y,z],S)=Z (.tup [x,y,z],S):=λx y z=>bi (by simp)
 have k:=Eg (S:=S) (n:=n) (c:=Z (.int (n:Int))) (mi:=bq (aa (ac 2) (ag))) (e:=aX (aa (ac 0) (aa (ac 1) (aa (mC .non) (ag))))) (cap:=[U,U,Z 0]) (env:=[Z (.int (n:Int)),a]) (xs:=[false,true]) (ys:=[.str "read",.str "write"]) (enc:=λwr=>D.str (bF wr)) (f:=λwr g=>(Dd.ask wr g U).d) rfl rfl (by show 2 * n<=1000;omega) (rgI h5) λwr g=>by
  simp only [bD,aq,ak,bG,bM,bL,oj,ob,aj,ao,be,az,am,k3];rfl
 rw [AJ] at k
 simp only [paA,Ai,dL,be,ob,sT,k];rfl
def QV(h5:n<=5):paB [Z (.int (n:Int)),a] S=Z (.lst ((GX n).map Dd.d),S):=by
 have k2:∀ x y:D,cZ ([x,y],S)=Z (.tup [x,y],S):=λx y=>bi (by simp)
 have k:=Eg (S:=S) (n:=n) (c:=Z (.int (n:Int))) (mi:=bq (aa (ac 2) (ag))) (e:=aX (aa (ac 0) (aa (ac 1) (ag)))) (cap:=[U,U,Z 0]) (env:=[Z (.int (n:Int)),a]) (xs:=[Ak.up,.down,.leave,.stop]) (ys:=[.str "up",.str "down",.str "leave",.str "stop"]) (enc:=λk=>D.str (Ak.s k)) (f:=λk g=>(Dd.act k g).d) rfl rfl (by show 4 * n<=1000;omega) (rgI h5) λwr g=>by
  simp only [bD,aq,ak,bG,bM,bL,oj,ob,aj,ao,be,az,am,k2];rfl
 rw [AJ] at k
 simp only [paB,Ai,dL,be,ob,sT,k];rfl
def OQ{N:List Str}(hN:N.length=2)(h5:n<=5):aO N xq 1 [.int (n:Int)] S=Z (.tup ((pZ n).map Dd.d),S):=by
 have hst:ay N [.int (n:Int)]=[Z (.int (n:Int)),U]:=by simp [ay,hN,List.replicate]
 rw [aU (show [D.int (n:Int)].length=1 from rfl),hst]
 have ad:bJ S (.lst ((GW n).map Dd.d)) (.lst ((GX n).map Dd.d))=Z (.lst ((pZ n).map Dd.d)):=by
  rw [Kb (by rw [Ux,Ux,uc,ud];omega),<- Vl];rfl
 simp only [xq,ba,bH,QW h5,ob,bI,bd,gH,ik,cj,aI,aP,cu,aq,aH,ak,bG,bM,bL,oj,aj,av,QV h5,aw,ad,ao,az,am,cw,jw,bg,aC]
end
def mw(wait:PF):MS:=
 aA (bu (au (ax cI (ax aE (ac 1) (mC (.int 0))) (mC (.str "tick")))) (aJ (mC (.bl true))) (aR)) (aA (aS (ca (ac 1) (cb) (cW (mC (.int 2)))) (aY 2 (af (ah 2) (af (ah 3) (aQ))))) (aA (aS (ax aE (ax aE (ac 0) (mC (.int 0))) (ac 3)) (ah 4)) (aA (bu (au (ax cI (ac 2) (mC (.str "up")))) (aJ (ax cI (ac 4) (mC (.str "reads")))) (aR)) (aA (bu (au (ax cI (ac 2) (mC (.str "down")))) (aJ (ax nk (ac 4) (mC (.tup [.str "writes",.str "raised"])))) (aR)) (aA (bu (au (ax cI (ac 2) (mC (.str "leave")))) (aJ (ax eV (ac 4) (mC (.str "out")))) (aR)) (aA (bu (au (ax cI (ac 2) (mC (.str "stop")))) (aJ (ax dm (ai 2 wait (aa (ac 0) (aa (ac 3) (ag)))) (mC .non))) (aR)) (aJ (df (ax cI (ac 4) (mC (.str "out"))) (ax AO (ai 2 wait (aa (ac 0) (aa (ac 3) (ag)))) (mC .non))))))))))
def CM{es:List En}{g:Nat}:(es.find? λe=>decide (e.g=g)).isSome=bb es g:=by
 unfold bb;rw [List.isSome_find?]
def kG{R:Rm}{g:Nat}:oU (gS R g) .non = !(decide (R.1[g]?=Z .rising)||bb R.2 g):=by
 unfold gS
 rw [<- CM]
 by_cases h:R.1[g]?=Z .rising
 ·rw [if_pos h,Uo h];rfl
 ·rw [if_neg h,Ut h]
  cases R.2.find? λe=>decide (e.g=g) with
  | none=>rfl
  | some e=>cases e.wr <;> rfl
def wE{wait:PF}(O:qa wait){N:List Str}(hN:N.length=5){S:ab}{R:Rm}{dd:Dd}(hl:R.1.length<=100)(hd:dd.Ok R.1.length)(ht:dd≠.tick):aO N (mw wait) 2 [aG R,dd.d] S=Z (.bl (dP R dd),S):=by
 have hst:ay N [aG R,dd.d]=[Z (aG R),Z dd.d,U,U,U]:=by simp [ay,hN,List.replicate]
 rw [aU (show [aG R,dd.d].length=2 from rfl),hst]
 have x0:∀ S,aE S dd.d (.int 0)=Z (.str (dO dd)):=λS=>by cases dd <;> first | rfl | exact absurd rfl ht
 have tk:cI S (.str (dO dd)) (.str "tick")=Z (.bl false):=by rw [dC,Lb ht]
 have hg:cF dd<R.1.length:=by cases dd with
  | ask _ _ _=>exact hd.1
  | act _ _=>exact hd
  | tick=>exact absurd rfl ht
 have hw:R.1[cF dd]?=Z R.1[cF dd]:=Uq hg
 have xw:∀ S,aE S (dE R.1) (.int (cF dd:Int))=Z (R.1[cF dd]).d:=λS=>yS hw
 have sl:∀ S,sP dd.d U (Z 2,S)=Z (.tup [.str (dO dd),.int (cF dd:Int)],S):=λS=>by cases dd <;> first | rfl | exact absurd rfl ht
 have g2:∀ x y env S,aY 2 (af (ah 2) (af (ah 3) (aQ))) (.tup [x,y]) env S=(af (ah 2) (af (ah 3) (aQ))) [x,y] env S:=λx y env S=>dg
 have rx:∀ S,aE S (aG R) (.int 0)=Z (dE R.1):=λS=>rfl
 have wt:∀ S,wait [aG R,.int (cF dd:Int)] S=Z (gS R (cF dd),S):=λS=>O S R _ hl
 simp only [mw,ba,bv,aN,aH,ak,bG,bM,bL,oj,ob,aj,av,be,aw,x0,tk,aK,bA,bm,aI,bH,jb,nS,jc,nR,kT,kW,sl,bI,g2,bQ,bd,eE,cE,gH,ik,cj,rx,xw]
 generalize hv:R.1[cF dd]=w at hw
 have e1:cI S w.d (.str "reads")=Z (.bl (decide (w=.reads))):=tN (b:=.reads)
 have e2:eV S w.d (.str "out")=Z (.bl (!decide (w=.out))):=pQ (b:=.out)
 have e3:cI S w.d (.str "out")=Z (.bl (decide (w=.out))):=tN (b:=.out)
 cases dd with
 | tick=>exact absurd rfl ht
 | act k g=>
  simp only [cF] at hw wt ⊢
  have wk:∀ j:Ak,cI S (.str (dO (.act k g))) (.str j.s)=Z (.bl (decide (k=j))):=λj=>SV
  have w1:=wk .up
  have w2:=wk .down
  have w3:=wk .leave
  have w4:=wk .stop
  simp only [Ak.s] at w1 w2 w3 w4
  cases k with
  | up=>simp only [w1,aK,ob,Wf,bX,aP,aH,ak,bG,bM,bL,oj,aj,av,be,aw,e1,bg,bN,aC,dP,hw,Wh]
  | down=>simp (decide:=true) only [w1,w2,aK,ob,Wf,WO,bA,bm,aI,bX,ba,bv,aN,aP,aH,ak,bG,bM,bL,oj,aj,av,be,aw,JX,bg,bN,aC,dP,hw,Wh]
  | leave=>simp (decide:=true) only [w1,w2,w3,aK,ob,Wf,WO,bA,bm,aI,bX,ba,bv,aN,aP,aH,ak,bG,bM,bL,oj,aj,av,be,aw,e2,bg,bN,aC,dP,hw,Wh,ne_eq,decide_not]
  | stop=>
   simp (decide:=true) only [w1,w2,w3,w4,aK,ob,Wf,WO,bA,bm,aI,bX,ba,bv,aN,aP,aH,ak,bG,bM,bL,oj,aj,av,be,aw,aD,aq,ao,az,am,aV,wt,AN,kG,bg,bN,aC,dP,Bool.not_not,Bool.or_comm]
 | ask wr g t=>
  simp only [cF] at hw wt ⊢
  have w1:cI S (.str (dO (.ask wr g t))) (.str "up")=Z (.bl false):=by rw [dC];cases wr <;> rfl
  have w2:cI S (.str (dO (.ask wr g t))) (.str "down")=Z (.bl false):=by rw [dC];cases wr <;> rfl
  have w3:cI S (.str (dO (.ask wr g t))) (.str "leave")=Z (.bl false):=by rw [dC];cases wr <;> rfl
  have w4:cI S (.str (dO (.ask wr g t))) (.str "stop")=Z (.bl false):=by rw [dC];cases wr <;> rfl
  simp only [w1,w2,w3,w4,aK,ob,bA,bm,aI,ba,bv,aN,aP,aH,ak,bG,bM,bL,oj,aj,av,be,aw,gG,e3]
  by_cases hw':w=.out
  ·subst hw'
   simp only [Wf,iy,aH,aD,aq,ak,bG,bM,bL,oj,ob,aj,ao,az,am,aV,wt,av,be,aw,jx,kG,bg,aC,dP,hw,Wh]
   simp
  ·simp only [Ut hw',sZ,ob,bg,aC,dP,hw,Wh,Vt]
def xo(all can:PF):MS:=aJ (bn (aT (dc .tup)) (aa (bE (cC (ai 1 all (aa (ac 0) (ag)))) (ah 0) (cG (ai 2 can (aa (ac 1) (aa (ac 0) (ag))))) (ac 0) [U,Z 1]) (ag)))
def sr(R:Rm)(n:Nat):List Dd:=(pZ n).filter (dP R)
def Ng{all can:PF}{S:ab}{R:Rm}{n:Nat}(ha:all [.int (n:Int)] S=Z (.tup ((pZ n).map Dd.d),S))(hc:∀ dd∈pZ n,can [aG R,dd.d] S=Z (.bl (dP R dd),S))(h5:n<=5){N:List Str}(hN:N.length=2):aO N (xo all can) 2 [.int (n:Int),aG R] S=Z (.tup ((sr R n).map Dd.d),S):=by
 have hst:ay N [.int (n:Int),aG R]=[Z (.int (n:Int)),Z (aG R)]:=by simp [ay,hN,List.replicate]
 rw [aU (show [D.int (n:Int),aG R].length=2 from rfl),hst]
 have k:=gI (S:=S) (t:=cG (ai 2 can (aa (ac 1) (aa (ac 0) (ag))))) (e:=ac 0) (cap:=[U,Z 1]) (env:=[Z (.int (n:Int)),Z (aG R)]) (rest:=[Z (aG R)]) (a:=U) (enc:=Dd.d) (p:=dP R) (f:=Dd.d) (xs:=pZ n) rfl (by unfold pZ;rw [UC,uc,ud];omega) (λdd h=>by
  simp only [dR,aD,aq,ak,bG,bM,bL,oj,ob,aj,ao,az,am,aV,hc dd h,gb]) (λdd _ _=>by simp only [ak,bG,oj,ob,aj])
 simp only [xo,aP,cu,aq,cK,dL,aD,ak,bG,bM,bL,oj,ob,aj,ao,az,am,lH,ha,sT,k,cw,jw,bg,aC];rfl
theorem yD:∀ ws:List Wd,ws.count .out+ws.count .reads+ws.count .rising+ws.count .writes+ws.count .raised=ws.length
 | []=>rfl
 | w::ws=>by
  have ih:=yD ws
  rw [UE]
  cases w <;> simp only [Vf,beq_self_eq_true,VY,show (Wd.out == Wd.reads)=false from rfl,show (Wd.out == Wd.rising)=false from rfl,show (Wd.out == Wd.writes)=false from rfl,show (Wd.out == Wd.raised)=false from rfl,show (Wd.reads == Wd.out)=false from rfl,show (Wd.reads == Wd.rising)=false from rfl,show (Wd.reads == Wd.writes)=false from rfl,show (Wd.reads == Wd.raised)=false from rfl,show (Wd.rising == Wd.out)=false from rfl,show (Wd.rising == Wd.reads)=false from rfl,show (Wd.rising == Wd.writes)=false from rfl,show (Wd.rising == Wd.raised)=false from rfl,show (Wd.writes == Wd.out)=false from rfl,show (Wd.writes == Wd.reads)=false from rfl,show (Wd.writes == Wd.rising)=false from rfl,show (Wd.writes == Wd.raised)=false from rfl,show (Wd.raised == Wd.out)=false from rfl,show (Wd.raised == Wd.reads)=false from rfl,show (Wd.raised == Wd.rising)=false from rfl,show (Wd.raised == Wd.writes)=false from rfl,Vc,Vq] <;> omega
theorem mR:∀ {ws:List Wd} {g:Nat} {w:Wd} (w' b:Wd),ws[g]?=Z w->(ws.set g w').count b+(if w=b then 1 else 0)=ws.count b+(if w'=b then 1 else 0)
 | [],g,w,w',b,h=>by cases h
 | x::ws,0,w,w',b,h=>by
  cases h
  rw [Yq,Vf,Vf]
  simp only [beq_iff_eq]
  omega
 | x::ws,g+1,w,w',b,h=>by
  have ih:=mR (ws:=ws) (g:=g) w' b h
  rw [Yr,Vf,Vf]
  omega
structure Dn(r:Rl)(ws:List Wd):Prop where
 w1:ws.count .writes+ws.count .raised<=1
 g1:ws.count .rising<=1
 al:ws.count .writes+ws.count .raised=1->ws.count .reads+ws.count .rising=0
 mo:r.a=0\/((ws.count .reads+ws.count .rising:Nat):Int)<=r.a
def EI{ws:List Wd}{g:Nat}{w:Wd}(h:ws[g]?=Z w):1<=ws.count w:=List.count_pos_iff.mpr (UH h)
section
variable{r:Rl}{R:Rm}
def lc{ws:List Wd}{g:Nat}{w:Wd}(w':Wd)(h:ws[g]?=Z w) :
  ((ws.set g w').count .out+(if w=.out then 1 else 0)=ws.count .out+(if w'=.out then 1 else 0))/\((ws.set g w').count .reads+(if w=.reads then 1 else 0)=ws.count .reads+(if w'=.reads then 1 else 0))/\((ws.set g w').count .rising+(if w=.rising then 1 else 0)=ws.count .rising+(if w'=.rising then 1 else 0))/\((ws.set g w').count .writes+(if w=.writes then 1 else 0)=ws.count .writes+(if w'=.writes then 1 else 0))/\((ws.set g w').count .raised+(if w=.raised then 1 else 0)=ws.count .raised+(if w'=.raised then 1 else 0)):=
 ⟨mR _ _ h,mR _ _ h,mR _ _ h,mR _ _ h,mR _ _ h⟩
def LW(h:ROk R)(s:Dn r R.1):Dn r (iJ r R).1.1:=by
 obtain⟨s1,s2,s3,s4⟩:=s
 have sm:=yD R.1
 unfold iJ
 split
 ·rename_i g l hg
  have hm:g∈og R.1:=by rw [hg];exact Ul
  unfold og at hm
  obtain⟨_,hm⟩:=UL.mp hm
  rw [Uk] at hm
  have h1:=Us hm.1
  have h2:=Us hm.2
  have c0:=EI h1
  obtain⟨c1,c2,c3,c4,c5⟩:=lc .raised h1
  simp (decide:=true) only [VY,Vq] at c1 c2 c3 c4 c5
  refine⟨?_,?_,?_,?_⟩ <;> (show _;dsimp only)
  ·omega
  ·omega
  ·intro _;omega
  ·rcases s4 with s4 | s4
   ·exact .inl s4
   ·right;omega
 ·split
  ·rename_i i l hi
   split
   ·rename_i e he
    have hm:i∈qd r R.1 R.2:=by rw [hi];exact Ul
    unfold qd at hm
    obtain⟨_,hm⟩:=UL.mp hm
    rw [he] at hm
    dsimp only at hm
    have ho:=h.out e (UH he)
    unfold sL at hm
    split at hm
    ·cases hm
    rename_i hlt
    unfold pO
    dsimp only
    cases hw:e.wr with
    | true=>
     rw [hw,if_pos rfl] at hm
     have hz:=Us hm
     obtain⟨c1,c2,c3,c4,c5⟩:=lc .writes ho
     simp (decide:=true) only [VY,Vq] at c1 c2 c3 c4 c5 ⊢
     refine⟨by omega,by omega,λ_=>by omega,?_⟩
     rcases s4 with s4 | s4
     ·exact .inl s4
     ·right;omega
    | false=>
     rw [hw,if_neg (by decide),Uk,Vp] at hm
     have hz:=Us hm.1
     obtain⟨c1,c2,c3,c4,c5⟩:=lc .reads ho
     simp (decide:=true) only [VY,Vq] at c1 c2 c3 c4 c5 ⊢
     refine⟨by omega,by omega,λ_=>by omega,?_⟩
     rcases hm.2 with s5 | s5
     ·exact .inl (Us s5)
     ·right;have:=Us s5;omega
   ·exact⟨s1,s2,s3,s4⟩
  ·exact⟨s1,s2,s3,s4⟩
theorem Dx:∀ (n:Nat) {R:Rm},ROk R->Dn r R.1->Dn r (om r n R).1.1
 | 0,R,_,s=>s
 | n+1,R,h,s=>Dx n (R:=(iJ r R).1) (rK h).1 (LW h s)
def kI(h:ROk R)(s:Dn r R.1):Dn r (aB r R).1.1:=Dx _ h s
def Gs{dd:Dd}{x:Rm×List Ev}(h:ROk R)(ha:0<=r.a)(s:Dn r R.1)(hx:du r R dd=Z x):Dn r x.1.1:=by
 unfold du at hx
 split at hx
 ·cases hx
 rename_i hcan
 rw [Xg] at hcan
 split at hx
 ·cases hx
  exact kI (R:=(R.1,_)) ((h.mapE fT λ_=>rfl).filter _) s
 ·rename_i wr g t
  cases hx
  unfold dP at hcan
  rw [Uk] at hcan
  have hs:=kI (r:=r) (R:=(R.1,R.2++[eK wr g t])) (mT h (Us hcan.1) (by simpa using hcan.2)) s
  unfold qT
  dsimp only
  split
  ·exact hs
  ·split
   ·exact hs
   ·exact hs
 ·rename_i k g
  split at hx
  ·cases hx;exact s
  rename_i hup
  split at hx
  ·rename_i w hw
   cases hx
   refine kI (R:=(R.1.set g (bY k w),gj r k w g R.2)) (pq h _) ?_
   show Dn r (R.1.set g (bY k w))
   obtain⟨s1,s2,s3,s4⟩:=s
   have sm:=yD R.1
   have c0:=EI hw
   cases k with
   | up=>
    have hr:w=.reads:=by
     have:R.1[g]?=Z .reads:=Us hcan
     rw [hw] at this;exact Uu this
    subst hr
    have hz:R.1.count .rising=0:=by
     rw [List.count_eq_zero]
     intro z
     exact hup ⟨rfl,.inr z⟩
    obtain⟨c1,c2,c3,c4,c5⟩:=lc .rising hw
    simp (decide:=true) only [VY,Vq] at c1 c2 c3 c4 c5
    refine⟨?_,?_,?_,?_⟩ <;> (show _;unfold bY;dsimp only)
    ·omega
    ·omega
    ·intro _;omega
    ·rcases s4 with s4 | s4
     ·exact .inl s4
     ·right;omega
   | down=>
    have hr:w=.writes\/w=.raised:=by
     unfold dP at hcan
     rw [Vp] at hcan
     rcases hcan with z | z
     ·have:=Us z;rw [hw] at this;exact .inl (Uu this)
     ·have:=Us z;rw [hw] at this;exact .inr (Uu this)
    obtain⟨c1,c2,c3,c4,c5⟩:=lc .reads hw
    have hp:1<=R.1.count .writes+R.1.count .raised:=by rcases hr with rfl | rfl <;> omega
    have q:∀ P:Prop,(w=.writes->P)->(w=.raised->P)->P:=λP a b=>hr.elim a b
    refine q _ (λz=>?_) (λz=>?_) <;>
    ·subst z
     simp (decide:=true) only [VY,Vq] at c1 c2 c3 c4 c5
     refine⟨?_,?_,?_,?_⟩ <;> (show _;unfold bY;dsimp only)
     ·omega
     ·omega
     ·intro _;omega
     ·by_cases z:r.a=0
      ·exact .inl z
      ·right;omega
   | leave=>
    obtain⟨c1,c2,c3,c4,c5⟩:=lc .out hw
    cases w <;>
    ·simp (decide:=true) only [VY,Vq] at c1 c2 c3 c4 c5
     refine⟨?_,?_,?_,?_⟩ <;> (show _;unfold bY;dsimp only)
     ·omega
     ·omega
     ·intro _;omega
     ·rcases s4 with s4 | s4
      ·exact .inl s4
      ·right;omega
   | stop=>
    by_cases hr:w=.rising
    ·subst hr
     obtain⟨c1,c2,c3,c4,c5⟩:=lc .reads hw
     simp (decide:=true) only [VY,Vq] at c1 c2 c3 c4 c5
     refine⟨?_,?_,?_,?_⟩ <;> (show _;unfold bY;dsimp only;rw [if_pos rfl])
     ·omega
     ·omega
     ·intro _;omega
     ·rcases s4 with s4 | s4
      ·exact .inl s4
      ·right;omega
    ·have ho:w=.out:=by
      unfold dP at hcan
      rw [Vp] at hcan
      rcases hcan with z | z
      ·obtain⟨e,he,hg⟩:=UB.mp z
       have:=h.out e he
       rw [Us hg,hw] at this
       exact Uu this
      ·have:=Us z;rw [hw] at this;exact absurd (Uu this) hr
     subst ho
     have:R.1.set g .out=R.1:=by
      obtain⟨hl,e⟩:=Uj.mp hw
      rw [<- e];exact XZ hl
     show Dn r (R.1.set g .out)
     rw [this]
     exact⟨s1,s2,s3,s4⟩
  ·cases hx
def Behind.saf{n:Nat}{l:List Dd}(ha:0<=r.a)(h:Behind r n l R):Dn r R.1:=by
 induction h with
 | nil=>
  have:∀ w,w≠Wd.out->(List.replicate n Wd.out).count w=0:=λw hw=>by rw [List.count_replicate];rw [if_neg (by simpa using λz=>hw z.symm)]
  have a1:=this .reads (by decide)
  have a2:=this .rising (by decide)
  have a3:=this .writes (by decide)
  have a4:=this .raised (by decide)
  refine⟨?_,?_,?_,?_⟩ <;> (show _;unfold dq;dsimp only)
  ·omega
  ·omega
  ·intro _;omega
  ·right;omega
 | snoc h hd e ih=>exact Gs h.ok.1 ha ih e
end
section
variable{r:Rl}{R:Rm}{g:Nat}
def BA(h:(iJ r R).1.1[g]?=Z .rising):R.1[g]?=Z .rising:=by
 have key:∀ (i:Nat) (w:Wd),w≠.rising->(R.1.set i w)[g]?=Z .rising->R.1[g]?=Z .rising:=λi w hw q=>by
  by_cases e:i=g
  ·subst e
   by_cases hl:i<R.1.length
   ·rw [UP hl] at q;exact absurd (Uu q) hw
   ·rw [Wl (by simp;omega)] at q;cases q
  ·rwa [UT e] at q
 unfold iJ at h
 split at h
 ·exact key _ _ (by decide) h
 ·split at h
  ·split at h
   ·rename_i e _
    refine key _ _ ?_ h
    cases e.wr <;> decide
   ·exact h
  ·exact h
theorem nI:∀ (n:Nat) {R:Rm},(om r n R).1.1[g]?=Z .rising->R.1[g]?=Z .rising
 | 0,_,h=>h
 | n+1,R,h=>BA (nI n (R:=(iJ r R).1) h)
def EY(h:bb (iJ r R).1.2 g=true):bb R.2 g=true:=by
 obtain⟨e,he,hg⟩:=UB.mp h
 unfold iJ at he
 split at he
 ·exact UB.mpr ⟨e,he,hg⟩
 ·split at he
  ·split at he
   ·rcases UJ.mp he with he | he
    ·obtain⟨y,hy,rfl⟩:=Uz.mp he
     exact UB.mpr ⟨y,Ve hy,hg⟩
    ·exact UB.mpr ⟨e,Wo he,hg⟩
   ·exact UB.mpr ⟨e,he,hg⟩
  ·exact UB.mpr ⟨e,he,hg⟩
theorem vc:∀ (n:Nat) {R:Rm},bb (om r n R).1.2 g=true->bb R.2 g=true
 | 0,_,h=>h
 | n+1,R,h=>EY (vc n (R:=(iJ r R).1) h)
def se(h:ROk R){w:Wd}(hw:R.1[g]?=Z w)(ho:w≠.out):bb R.2 g=false:=by
 cases z:bb R.2 g with
 | false=>rfl
 | true=>
  obtain⟨e,he,hg⟩:=UB.mp z
  have:=h.out e he
  rw [Us hg,hw] at this
  exact absurd (Uu this) ho
def AK{es:List En}(h:bb es g=false):(es.filter λe=>decide (e.g≠g))=es:=by
 rw [Vn]
 intro e he
 exact Uo (dw h he)
end
def EO(settled:PF):Prop:=∀ (S:ab) (r:Rl) (R:Rm),0<=r.b->ROk R->R.1.length<=50->settled [r.d,aG R] S=Z (.tup [aG (aB r R).1,cU (aB r R).2],S++[.lst ((aB r R).2.map Ev.d)])
structure DeOk(settled wait gw ww:PF):Prop where
 s:EO settled
 w:qa wait
 g:LA gw
 ww:∀ (S:ab) (R:Rm) (g:Nat) (w:Wd),g<R.1.length->R.1.length<=100->ww [aG R,.int (g:Int),w.d] S=Z (aG (R.1.set g w,R.2),S)
def CO{S:ab}{k l:List Ev}(h:k.length<=400)(h':l.length<=400):bJ S (cU k) (cU l)=Z (cU (k++l)):=by
 show bJ S (.tup (k.map Ev.d)) (.tup (l.map Ev.d))=_
 rw [tQ (by simp;omega),<- Vl];rfl
def wR{r:Rl}{R:Rm}(hl:R.1.length<=50):(aB r R).2.length<=100:=UV (wT _) (by omega)
def gD(x:Rm×List Ev):D:=.tup [aG x.1,cU x.2]
def BP:MS:=aA (aS (ac 0) (aY 2 (af (ah 2) (af (ah 3) (aQ))))) (aJ (aX (aa (ac 2) (aa (bn (aT (dc .tup)) (aa (bE (cC (ac 3)) (ah 0) (au (ax eV (ax aE (ac 0) (mC (.int 0))) (ac 1))) (ac 0) [U,Z 1]) (ag))) (ag)))))
section
variable{S:ab}{r:Rl}{R:Rm}{g:Nat}{N:List Str}{settled wait gw ww wo sb tu ol:PF}
def Qd(hN:N.length=4)(hl:R.2.length<=100):aO N BP 2 [aG R,.int (g:Int)] S=Z (aG (R.1,R.2.filter λe=>decide (e.g≠g)),S):=by
 have hst:ay N [aG R,.int (g:Int)]=[Z (aG R),Z (.int (g:Int)),U,U]:=by simp [ay,hN,List.replicate]
 rw [aU (show [aG R,D.int (g:Int)].length=2 from rfl),hst]
 have g2:∀ env S,aY 2 (af (ah 2) (af (ah 3) (aQ))) (aG R) env S=(af (ah 2) (af (ah 3) (aQ))) [dE R.1,eQ R.2] env S:=λenv S=>dg
 have k2:∀ x y:D,cZ ([x,y],S)=Z (.tup [x,y],S):=λx y=>bi (by simp)
 have k:=restC (S:=S) (es:=R.2) (g:=g) (b:=U) (cap:=[U,Z 1]) (env:=[Z (aG R),Z (.int (g:Int)),Z (dE R.1),Z (eQ R.2)]) rfl hl
 simp only [BP,ba,bH,ak,bG,bM,bL,oj,ob,aj,bI,g2,bQ,bd,eE,cE,gH,ik,cj,aI,aP,bD,aq,cu,cK,dL,gR,k,ao,az,am,cw,jw,k2,bg,aC]
 rfl
def BR(settled:PF):MS:=aA (aS (ai 2 settled (aa (ac 0) (aa (ac 1) (ag)))) (aY 2 (af (ah 1) (af (ah 3) (aQ))))) (aJ (aX (aa (ac 1) (aa (ax bJ (ac 2) (ac 3)) (ag)))))
def OR(sb:PF):Prop:=∀ (S:ab) (r:Rl) (R:Rm) (l:List Ev),0<=r.b->ROk R->R.1.length<=50->l.length<=400->∃ T,sb [r.d,aG R,cU l] S=Z (gD ((aB r R).1,l++(aB r R).2),S++T)
def Qw(O:EO settled)(hN:N.length=4){l:List Ev}(hb:0<=r.b)(h:ROk R)(hl:R.1.length<=50)(h4:l.length<=400):∃ T,aO N (BR settled) 3 [r.d,aG R,cU l] S=Z (gD ((aB r R).1,l++(aB r R).2),S++T):=by
 have hst:ay N [r.d,aG R,cU l]=[Z r.d,Z (aG R),Z (cU l),U]:=by simp [ay,hN,List.replicate]
 rw [aU (show [r.d,aG R,cU l].length=3 from rfl),hst]
 have o:=O S r R hb h hl
 have fw:=wR (r:=r) hl
 have g2:∀ (x y:D) env S,aY 2 (af (ah 1) (af (ah 3) (aQ))) (.tup [x,y]) env S=(af (ah 1) (af (ah 3) (aQ))) [x,y] env S:=λx y env S=>dg
 have k2:∀ S (x y:D),cZ ([x,y],S)=Z (.tup [x,y],S):=λS x y=>bi (by simp)
 have ec:∀ S,bJ S (cU l) (cU (aB r R).2)=Z (cU (l++(aB r R).2)):=λS=>CO h4 (by omega)
 refine⟨[.lst ((aB r R).2.map Ev.d)],?_⟩
 simp only [BR,ba,bH,aD,aq,ak,bG,bM,bL,oj,ob,aj,ao,az,am,aV,o,bI,g2,bQ,bd,eE,cE,gH,ik,cj,aI,aP,bD,aH,av,aw,ec,k2,bg,aC,gD]
def tuC:ME:=bE (cC (ac 4)) (aY 4 (af (ah 0) (af (ah 1) (af (ah 2) (af (ah 3) (aQ)))))) (bx) (aX (aa (ac 0) (aa (ac 1) (aa (on (au (ax cI (ac 1) (mC (.str "read")))) (mC (.int 1)) (ac 2)) (aa (ac 3) (ag)))))) [U,U,U,U]
def BQ:MS:=aA (aS (ac 1) (aY 2 (af (ah 3) (af (ah 4) (aQ))))) (aA (bu (cX (au (ax eV (ax aE (ac 0) (mC (.int 0))) (mC (.str "turns")))) (au (ax eV (ax aE (ac 3) (ac 2)) (mC (.str "writes"))))) (aJ (ac 1)) (aR)) (aJ (aX (aa (ac 3) (aa (bn (aT (dc .tup)) (aa tuC (ag))) (ag))))))
def Jm{e:ME}{f:En->D}{cap:List (Option Nat)}{env:aW}{a b c d:Option D}{es:List En}(hc:nu cap env=[a,b,c,d])(hl:es.length<=1000)(he:∀ x:En,e [Z (.int (x.g:Nat)),Z (.str (bF x.wr)),Z (.int x.m),Z (bO x.t)] S=Z (f x,S)) :
  oS (aY 4 (af (ah 0) (af (ah 1) (af (ah 2) (af (ah 3) (aQ)))))) bx e cap env (es.map En.d,S)=Z (.lst (es.map f),S):=by
 rw [jW (by rw [Ux];exact hl),hc,Lf (t:=e) (f:=f) (λx a b c d=>?_) he,ob,jX]
 rw [show x.d=.tup [.int (x.g:Nat),.str (bF x.wr),.int x.m,bO x.t] from rfl,rj]
 simp only [bQ,bd,ob,gH,ik,eE,cE]
def Hq{b:Bool}:(bF b == ("read":Str)) = !b:=by cases b <;> decide +kernel
def TuOk(tu:PF):Prop:=∀ (S:ab) (r:Rl) (R:Rm) (g:Nat) (w:Wd),R.1[g]?=Z w->R.2.length<=100->tu [r.d,aG R,.int (g:Int)] S=Z (aG (R.1,yO r w R.2),S)
def Ql(hN:N.length=5){w:Wd}(hw:R.1[g]?=Z w)(hl:R.2.length<=100):aO N BQ 3 [r.d,aG R,.int (g:Int)] S=Z (aG (R.1,yO r w R.2),S):=by
 have hst:ay N [r.d,aG R,.int (g:Int)]=[Z r.d,Z (aG R),Z (.int (g:Int)),U,U]:=by simp [ay,hN,List.replicate]
 rw [aU (show [r.d,aG R,D.int (g:Int)].length=3 from rfl),hst]
 have g2:∀ env S,aY 2 (af (ah 3) (af (ah 4) (aQ))) (aG R) env S=(af (ah 3) (af (ah 4) (aQ))) [dE R.1,eQ R.2] env S:=λenv S=>dg
 have k2:∀ x y:D,cZ ([x,y],S)=Z (.tup [x,y],S):=λx y=>bi (by simp)
 have k4:∀ x y z u:D,cZ ([x,y,z,u],S)=Z (.tup [x,y,z,u],S):=λx y z u=>bi (by simp)
 have xw:aE S (dE R.1) (.int (g:Int))=Z w.d:=yS hw
 have x0:aE S r.d (.int 0)=Z (.str r.w.s):=rfl
 have e1:eV S (.str r.w.s) (.str "turns")=Z (.bl (!decide (r.w=.turns))):=by
  rw [yw];congr 2;cases r.w <;> decide +kernel
 have e2:eV S w.d (.str "writes")=Z (.bl (!decide (w=.writes))):=pQ (b:=.writes)
 have k:=Jm (S:=S) (es:=R.2) (cap:=[U,U,U,U]) (env:=[Z r.d,Z (aG R),Z (.int (g:Int)),Z (dE R.1),Z (eQ R.2)]) (a:=U) (b:=U) (c:=U) (d:=U) (e:=aX (aa (ac 0) (aa (ac 1) (aa (on (au (ax cI (ac 1) (mC (.str "read")))) (mC (.int 1)) (ac 2)) (aa (ac 3) (ag)))))) (f:=λx=>(if x.wr then x else { x with m:=1 }).d) rfl (by omega) λx=>by
  obtain⟨xg,xwr,xm,xt⟩:=x
  cases xwr with
  | true=>
   have:cI S (.str (bF true)) (.str "read")=Z (.bl false):=by rw [dC,Hq];rfl
   simp only [bD,aq,ak,bG,bM,bL,oj,ob,aj,ao,oN,aN,aH,av,be,aw,this,aK,Jr,az,am,k4]
   rfl
  | false=>
   have:cI S (.str (bF false)) (.str "read")=Z (.bl true):=by rw [dC,Hq];rfl
   simp only [bD,aq,ak,bG,bM,bL,oj,ob,aj,ao,oN,aN,aH,av,be,aw,this,aK,Ek,az,am,k4]
   rfl
 simp only [BQ,ba,bH,ak,bG,bM,bL,oj,ob,aj,bI,g2,bQ,bd,eE,cE,gH,ik,cj,aI,bv,fc,aN,aH,av,be,aw,x0,e1,aK]
 unfold yO
 by_cases h1:r.w=.turns
 ·simp only [Uo h1,UY,gc,aN,aH,ak,bG,bM,bL,oj,ob,aj,av,be,aw,xw,e2,aK]
  by_cases h2:w=.writes
  ·simp only [Uo h2,UY,bA,bm,ob,aI,aP,bD,aq,ak,bG,bM,bL,oj,aj,ao,cu,tuC,cK,dL,gR,k,az,am,cw,jw,k2,bg,aC]
   rw [if_pos ⟨h1,h2⟩]
   simp only [aG,eQ,Vs]
   rfl
  ·simp only [Ut h2,Vk,bX,aP,ak,bG,bM,bL,oj,ob,aj,bg,bN,aC]
   rw [if_neg (λz=>h2 z.2)]
 ·simp only [Ut h1,Vk,sR,ob,bX,aP,ak,bG,bM,bL,oj,aj,bg,bN,aC]
  rw [if_neg (λz=>h1 z.1)]
def xp(settled wait wo:PF):MS:=aA (aS (ac 2) (aY 3 (af (ah 3) (af (ah 4) (af (ah 5) (aQ)))))) (aA (aS (ac 1) (aY 2 (af (ah 6) (af (ah 7) (aQ))))) (aA (aS (aX (aa (ac 4) (aa (ac 3) (aa (mC (.int 0)) (aa (on (au (ax cI (ac 5) (mC (.int 0)))) (mC (.int 1)) (ac 5)) (ag)))))) (ah 8)) (aA (aS (ai 2 settled (aa (ac 0) (aa (aX (aa (ac 6) (aa (ax bJ (ac 7) (aX (aa (ac 8) (ag)))) (ag)))) (ag)))) (aY 2 (af (ah 1) (af (ah 9) (aQ))))) (aA (bu (au (ax AO (ai 2 wait (aa (ac 1) (aa (ac 4) (ag)))) (mC .non))) (aJ (aX (aa (ac 1) (aa (ac 9) (ag))))) (aR)) (aA (bu (au (ax cI (ac 5) (mC (.int 0)))) (aJ (aX (aa (ai 2 wo (aa (ac 1) (aa (ac 4) (ag)))) (aa (ax bJ (ac 9) (aX (aa (aX (aa (mC (.str "no")) (aa (ac 4) (ag)))) (ag)))) (ag))))) (aR)) (aJ (aX (aa (ac 1) (aa (ax bJ (ac 9) (aX (aa (aX (aa (mC (.str "waits")) (aa (ac 4) (ag)))) (ag)))) (ag))))))))))
def TZ(wo:PF):Prop:=∀ (S:ab) (R:Rm) (g:Nat),R.2.length<=100->wo [aG R,.int (g:Int)] S=Z (aG (R.1,R.2.filter λe=>decide (e.g≠g)),S)
def OO(O:EO settled)(W:qa wait)(V:TZ wo)(hN:N.length=10){wr:Bool}{t:Option Int}(hb:0<=r.b)(h:ROk R)(hl:R.1.length<=50)(hw:R.1[g]?=Z .out)(hs:bb R.2 g=false):∃ T,aO N (xp settled wait wo) 3 [r.d,aG R,(Dd.ask wr g t).d] S=Z (gD (qT r R wr g t),S++T):=by
 have hst:ay N [r.d,aG R,(Dd.ask wr g t).d]=[Z r.d,Z (aG R),Z (Dd.ask wr g t).d,U,U,U,U,U,U,U]:=by simp [ay,hN,List.replicate]
 rw [aU (show [r.d,aG R,(Dd.ask wr g t).d].length=3 from rfl),hst]
 have hle:=h.len
 have ok:=mT (wr:=wr) (t:=t) h hw hs
 have g3:∀ env S,aY 3 (af (ah 3) (af (ah 4) (af (ah 5) (aQ)))) (Dd.ask wr g t).d env S=(af (ah 3) (af (ah 4) (af (ah 5) (aQ)))) [.str (bF wr),.int (g:Int),bO t] env S:=λenv S=>Es
 have g2:∀ env S,aY 2 (af (ah 6) (af (ah 7) (aQ))) (aG R) env S=(af (ah 6) (af (ah 7) (aQ))) [dE R.1,eQ R.2] env S:=λenv S=>dg
 have g2':∀ (x y:D) env S,aY 2 (af (ah 1) (af (ah 9) (aQ))) (.tup [x,y]) env S=(af (ah 1) (af (ah 9) (aQ))) [x,y] env S:=λx y env S=>dg
 have k1:∀ S (x:D),cZ ([x],S)=Z (.tup [x],S):=λS x=>bi (by simp)
 have k2:∀ S (x y:D),cZ ([x,y],S)=Z (.tup [x,y],S):=λS x y=>bi (by simp)
 have k4:∀ S (x y z u:D),cZ ([x,y,z,u],S)=Z (.tup [x,y,z,u],S):=λS x y z u=>bi (by simp)
 have hi:on (au (ax cI (ac 5) (mC (.int 0)))) (mC (.int 1)) (ac 5) [Z r.d,Z (aG R),Z (Dd.ask wr g t).d,Z (.str (bF wr)),Z (.int (g:Int)),Z (bO t),Z (dE R.1),Z (eQ R.2),U,U] S=Z (bO (if t=Z 0 then Z 1 else t),S):=by
  simp only [oN,aN,aH,ak,bG,bM,bL,oj,ob,aj,av,be,aw,tO,aK]
  by_cases z:t=Z 0
  ·rw [Uo z,if_pos z];simp only [Ek,be];rfl
  ·rw [Ut z,if_neg z];simp only [Jr,ak,bG,bM,bL,oj,ob,aj]
 have ed:D.tup [.int (g:Int),.str (bF wr),.int 0,bO (if t=Z 0 then Z 1 else t)]=(eK wr g t).d:=rfl
 have ae:bJ S (eQ R.2) (.tup [(eK wr g t).d])=Z (eQ (R.2++[eK wr g t])):=by
  show bJ S (.tup (R.2.map En.d)) _=_
  rw [tQ (by simp;omega)];simp [eQ]
 have so:=O S r (R.1,R.2++[eK wr g t]) hb ok hl
 have so':settled [r.d,.tup [dE R.1,eQ (R.2++[eK wr g t])]] S=_:=so
 have fw:=wR (r:=r) (R:=(R.1,R.2++[eK wr g t])) hl
 have lnS:(aB r (R.1,R.2++[eK wr g t])).1.1.length=R.1.length:=(fg (r:=r) ok).2
 have okS:=(fg (r:=r) ok).1
 have ln2:=okS.len
 generalize hA:aB r (R.1,R.2++[eK wr g t])=A at so' fw lnS okS ln2
 have nr:¬ A.1.1[g]?=Z .rising:=λz=>by
  rw [<- hA] at z
  have:=nI _ z
  rw [hw] at this;cases this
 have wt:∀ S,wait [aG A.1,.int (g:Int)] S=Z (gS A.1 g,S):=λS=>W S A.1 g (by omega)
 have vo:∀ S,wo [aG A.1,.int (g:Int)] S=Z (aG (A.1.1,A.1.2.filter λe=>decide (e.g≠g)),S):=λS=>V S A.1 g (by omega)
 have e1:∀ S (w:Str),bJ S (cU A.2) (.tup [.tup [.str w,.int (g:Int)]])=Z (cU (A.2++[⟨w,g⟩])):=λS w=>CO (l:=[⟨w,g⟩]) (by omega) (by simp)
 have wb:oU (gS A.1 g) .non = !bb A.1.2 g:=by rw [kG,Ut nr,Bool.false_or]
 refine⟨[.lst (A.2.map Ev.d)],?_⟩
 simp only [xp,ba,bH,ak,bG,bM,bL,oj,ob,aj,bI,g3,bQ,bd,eE,cE,gH,ik,cj,aI,g2,bD,aq,be,hi,ao,az,am,k4,ed,aD,aH,av,k1,aw,ae,k2,aV,so',g2',bv,aN,wt,jx,wb,aK]
 unfold qT
 rw [hA]
 dsimp only
 cases hst:bb A.1.2 g with
 | false=>
  rw [if_pos rfl]
  simp only [Vk,bX,aP,bD,aq,ak,bG,bM,bL,oj,ob,aj,ao,az,am,k2,bg,bN,aC,gD]
 | true=>
  rw [if_neg (by decide)]
  simp only [UY,bA,bm,ob,aI,ba,bv,aN,aH,ak,bG,bM,bL,oj,aj,av,be,aw,tO,aK]
  by_cases z:t=Z 0
  ·rw [Uo z,if_pos z]
   simp only [bX,aP,bD,aq,aD,ak,bG,bM,bL,oj,ob,aj,ao,az,am,aV,vo,aH,av,be,k2,k1,aw,e1,bg,bN,aC,gD]
  ·rw [Ut z,if_neg z]
   simp only [bA,bm,ob,aI,aP,bD,aq,ak,bG,bM,bL,oj,aj,ao,az,am,aH,av,be,k2,k1,aw,e1,bg,aC,gD]
def Dm(h:ROk R){k:Ak}{w:Wd}(hs:bb R.2 g=false):gj r k w g R.2=if k=.down\/k=.leave then yO r w R.2 else R.2:=by
 unfold gj
 refine AK ?_
 split
 ·unfold yO
  split
  ·unfold bb
   rw [Xk]
   refine Eq.trans ?_ hs
   unfold bb
   congr 1
   funext e
   show decide ((if e.wr=true then e else { e with m:=1 }).g=g)=_
   cases e.wr <;> rfl
  ·exact hs
 ·exact hs
def xl(settled wait gw ww:PF):MS:=aA (aS (ax aE (ac 2) (mC (.int 1))) (ah 3)) (aA (bu (cX (au (ax cI (ax aE (ac 0) (mC (.int 3))) (mC (.int 0)))) (cG (ai 2 gw (aa (ac 1) (aa (aX (aa (mC (.str "rising")) (ag))) (ag)))))) (aJ (aX (aa (ac 1) (aa (aX (aa (aX (aa (mC (.str "no")) (aa (ac 3) (ag)))) (ag))) (ag))))) (aR)) (aA (aS (ai 2 settled (aa (ac 0) (aa (ai 3 ww (aa (ac 1) (aa (ac 3) (aa (mC (.str "rising")) (ag))))) (ag)))) (aY 2 (af (ah 1) (af (ah 4) (aQ))))) (aA (bu (au (ax AO (ai 2 wait (aa (ac 1) (aa (ac 3) (ag)))) (mC .non))) (aJ (aX (aa (ac 1) (aa (ac 4) (ag))))) (aR)) (aJ (aX (aa (ac 1) (aa (ax bJ (ac 4) (aX (aa (aX (aa (mC (.str "waits")) (aa (ac 3) (ag)))) (ag)))) (ag))))))))
def Qe(O:DeOk settled wait gw ww)(hN:N.length=5)(hb:0<=r.b)(h:ROk R)(hl:R.1.length<=50)(hw:R.1[g]?=Z .reads):∃ T,aO N (xl settled wait gw ww) 3 [r.d,aG R,(Dd.act .up g).d] S=Z (gD (if r.c=0\/Wd.rising∈R.1 then (R,[⟨"no",g⟩]) else oh r R .up g .reads),S++T):=by
 have hst:ay N [r.d,aG R,(Dd.act .up g).d]=[Z r.d,Z (aG R),Z (Dd.act .up g).d,U,U]:=by simp [ay,hN,List.replicate]
 rw [aU (show [r.d,aG R,(Dd.act .up g).d].length=3 from rfl),hst]
 have hg:g<R.1.length:=(Uj.mp hw).1
 have x1:aE S (Dd.act .up g).d (.int 1)=Z (.int (g:Int)):=rfl
 have x3:aE S r.d (.int 3)=Z (.int r.c):=rfl
 have k1:∀ S (x:D),cZ ([x],S)=Z (.tup [x],S):=λS x=>bi (by simp)
 have k2:∀ S (x y:D),cZ ([x,y],S)=Z (.tup [x,y],S):=λS x y=>bi (by simp)
 have gr:gw [aG R,.tup [.str "rising"]] S=Z (nt (mH (λw=>decide (w∈[Wd.rising])) R.1),S):=O.g S R [.rising] (by omega)
 have tr:yh (nt (mH (λw=>decide (w∈[Wd.rising])) R.1),S)=Z (decide (Wd.rising∈R.1),S):=by
  cases hx:mH (λw=>decide (w∈[Wd.rising])) R.1 with
  | nil=>
   have:¬ Wd.rising∈R.1:=λz=>by
    obtain⟨i,hi⟩:=Wk.mp z
    have:i∈mH (λw=>decide (w∈[Wd.rising])) R.1:=mem_ixW.mpr ⟨_,hi,by simp⟩
    rw [hx] at this;cases this
   rw [Ut this];rfl
  | cons i l=>
   have:i∈mH (λw=>decide (w∈[Wd.rising])) R.1:=by rw [hx];exact Ul
   obtain⟨w,h1,h2⟩:=mem_ixW.mp this
   have e:w=.rising:=by simpa using h2
   subst e
   rw [Uo (UH h1)];rfl
 have ref:(r.c=0\/Wd.rising∈R.1)->∀ env,env=[Z r.d,Z (aG R),Z (Dd.act .up g).d,Z (.int (g:Int)),U]->cX (au (ax cI (ax aE (ac 0) (mC (.int 3))) (mC (.int 0)))) (cG (ai 2 gw (aa (ac 1) (aa (aX (aa (mC (.str "rising")) (ag))) (ag))))) env S=Z (true,S):=λz env he=>by
  subst he
  by_cases hc:r.c=0
  ·have:(r.c == 0)=true:=by rw [hc];rfl
   simp only [fc,aN,aH,ak,bG,bM,bL,oj,ob,aj,av,be,aw,x3,jI,this,aK,sR]
  ·have q:(r.c == 0)=false:=Vh.mpr hc
   simp only [fc,aN,aH,ak,bG,bM,bL,oj,ob,aj,av,be,aw,x3,jI,q,aK,gc,dR,aD,aq,ao,bD,az,am,k1,aV,gr,tr,Uo (z.resolve_left hc)]
 by_cases z:r.c=0\/Wd.rising∈R.1
 ·rw [if_pos z]
  refine⟨[],?_⟩
  simp only [xl,ba,bH,aH,ak,bG,bM,bL,oj,ob,aj,av,be,aw,x1,bI,bd,gH,ik,cj,aI,bv,ref z _ rfl,bX,aP,bD,aq,ao,az,am,k2,k1,bg,bN,aC,UX]
  rfl
 ·rw [if_neg z]
  have hc:(r.c == 0)=false:=Vh.mpr λq=>z (.inl q)
  have hr:¬ Wd.rising∈R.1:=λq=>z (.inr q)
  have hs:=se h hw (by decide)
  have wwo:ww [aG R,.int (g:Int),.str "rising"] S=Z (aG (R.1.set g .rising,R.2),S):=O.ww S R g .rising hg (by omega)
  have ok:ROk (R.1.set g .rising,R.2):=h.setW g .rising λe he=>dw hs he
  have so:=O.s S r (R.1.set g .rising,R.2) hb ok (by simp;omega)
  have fw:=wR (r:=r) (R:=(R.1.set g .rising,R.2)) (by simp;omega)
  have lnS:(aB r (R.1.set g .rising,R.2)).1.1.length=R.1.length:=(fg (r:=r) ok).2.trans (by simp)
  have ns:bb (aB r (R.1.set g .rising,R.2)).1.2 g=false:=by
   cases q:bb (aB r (R.1.set g .rising,R.2)).1.2 g with
   | false=>rfl
   | true=>have:=vc _ q;rw [hs] at this;cases this
  have aL:oh r R .up g .reads=((aB r (R.1.set g .rising,R.2)).1,(aB r (R.1.set g .rising,R.2)).2++(if (aB r (R.1.set g .rising,R.2)).1.1[g]?=Z .rising then [⟨"waits",g⟩] else [])):=by
   unfold oh
   rw [Dm h hs,if_neg (by decide)]
   rfl
  rw [aL]
  generalize aB r (R.1.set g .rising,R.2)=A at so fw lnS ns
  have wt:∀ S,wait [aG A.1,.int (g:Int)] S=Z (gS A.1 g,S):=λS=>O.w S A.1 g (by omega)
  have g2:∀ (x y:D) env S,aY 2 (af (ah 1) (af (ah 4) (aQ))) (.tup [x,y]) env S=(af (ah 1) (af (ah 4) (aQ))) [x,y] env S:=λx y env S=>dg
  have e1:∀ S (w:Str),bJ S (cU A.2) (.tup [.tup [.str w,.int (g:Int)]])=Z (cU (A.2++[⟨w,g⟩])):=λS w=>CO (l:=[⟨w,g⟩]) (by omega) (by simp)
  have wb:oU (gS A.1 g) .non = !decide (A.1.1[g]?=Z .rising):=by rw [kG,ns,XN]
  refine⟨[.lst (A.2.map Ev.d)],?_⟩
  simp only [xl,ba,bH,aH,ak,bG,bM,bL,oj,ob,aj,av,be,aw,x1,bI,bd,gH,ik,cj,aI,bv,fc,aN,x3,jI,hc,aK,gc,dR,aD,aq,ao,bD,az,am,k1,aV,gr,tr,Ut hr,bA,bm,bP,wwo,so,g2,bQ,eE,cE,wt,jx,wb]
  by_cases q:A.1.1[g]?=Z .rising
  ·rw [Uo q,if_pos q]
   simp only [UY,bA,bm,ob,aI,aP,bD,aq,ak,bG,bM,bL,oj,aj,ao,az,am,aH,av,be,k2,k1,aw,e1,bg,aC,gD]
  ·rw [Ut q,if_neg q,UX]
   simp only [Vk,bX,aP,bD,aq,ak,bG,bM,bL,oj,ob,aj,ao,az,am,k2,bg,bN,aC,gD]
def oA(sb ww tu:PF)(x y:Str):MS:=aA (aS (ax aE (ac 2) (mC (.int 1))) (ah 3)) (aJ (ai 3 sb (aa (ac 0) (aa (ai 3 ww (aa (ai 3 tu (aa (ac 0) (aa (ac 1) (aa (ac 3) (ag))))) (aa (ac 3) (aa (mC (.str x)) (ag))))) (aa (aX (aa (aX (aa (mC (.str y)) (aa (ac 3) (ag)))) (ag))) (ag))))))
def yK{k:Ak}{w w':Wd}{es:List En}(hg:g<R.1.length)(hk:bY k w=w')(hr:w'≠.rising)(he:gj r k w g R.2=es):oh r R k g w=((aB r (R.1.set g w',es)).1,lM k g++(aB r (R.1.set g w',es)).2):=by
 unfold oh
 rw [hk,he]
 dsimp only
 rw [if_neg,UX]
 intro z
 have:=nI _ z
 rw [UP hg] at this
 exact hr (Uu this)
def AW(SB:OR sb)(WW:∀ (S:ab) (R:Rm) (g:Nat) (w:Wd),g<R.1.length->R.1.length<=100->ww [aG R,.int (g:Int),w.d] S=Z (aG (R.1.set g w,R.2),S))(TU:TuOk tu)(hN:N.length=4)(hb:0<=r.b)(h:ROk R)(hl:R.1.length<=50){w w':Wd}{k:Ak}{y:Str}(hw:R.1[g]?=Z w)(ho:w≠.out)(hk:k=.down\/k=.leave)(ht:bY k w=w')(hr:w'≠.rising)(hf:lM k g=[⟨y,g⟩]) :
  ∃ T,aO N (oA sb ww tu w'.s y) 3 [r.d,aG R,(Dd.act k g).d] S=Z (gD (oh r R k g w),S++T):=by
 have hst:ay N [r.d,aG R,(Dd.act k g).d]=[Z r.d,Z (aG R),Z (Dd.act k g).d,U]:=by simp [ay,hN,List.replicate]
 rw [aU (show [r.d,aG R,(Dd.act k g).d].length=3 from rfl),hst]
 have hg:g<R.1.length:=(Uj.mp hw).1
 have hle:=h.len
 have hs:=se h hw ho
 have he:gj r k w g R.2=yO r w R.2:=by rw [Dm h hs,if_pos hk]
 rw [yK hg ht hr he,hf]
 have x1:aE S (Dd.act k g).d (.int 1)=Z (.int (g:Int)):=rfl
 have k1:∀ S (x:D),cZ ([x],S)=Z (.tup [x],S):=λS x=>bi (by simp)
 have k2:∀ S (x y:D),cZ ([x,y],S)=Z (.tup [x,y],S):=λS x y=>bi (by simp)
 have t1:=TU S r R g w hw (by omega)
 have w1:ww [aG (R.1,yO r w R.2),.int (g:Int),.str w'.s] S=Z (aG (R.1.set g w',yO r w R.2),S):=WW S (R.1,yO r w R.2) g w' hg (by show R.1.length<=100;omega)
 have ok:ROk (R.1.set g w',yO r w R.2):=by rw [<- he];exact pq h _
 obtain⟨T,s1⟩:=SB S r (R.1.set g w',yO r w R.2) [⟨y,g⟩] hb ok (by simp;omega) (by simp)
 refine⟨T,?_⟩
 have s1':sb [r.d,aG (R.1.set g w',yO r w R.2),.tup [.tup [.str y,.int (g:Int)]]] S=_:=s1
 simp only [oA,ba,bH,aH,ak,bG,bM,bL,oj,ob,aj,av,be,aw,x1,bI,bd,gH,ik,cj,aI,aP,aD,aq,ao,az,am,bP,t1,w1,bD,k2,k1,s1',bg,aC]
def ow(sb ww wo wait:PF):MS:=aA (aS (ax aE (ac 2) (mC (.int 1))) (ah 3)) (aA (bu (au (ax cI (ai 2 wait (aa (ac 1) (aa (ac 3) (ag)))) (mC (.str "up")))) (aS (ai 3 ww (aa (ac 1) (aa (ac 3) (aa (mC (.str "reads")) (ag))))) (ah 4)) (aS (ai 2 wo (aa (ac 1) (aa (ac 3) (ag)))) (ah 4))) (aJ (ai 3 sb (aa (ac 0) (aa (ac 4) (aa (aX (aa (aX (aa (mC (.str "ends")) (aa (ac 3) (ag)))) (ag))) (ag)))))))
def Dr:cI S (gS R g) (.str "up")=Z (.bl (decide (R.1[g]?=Z .rising))):=by
 unfold gS
 by_cases h:R.1[g]?=Z .rising
 ·rw [if_pos h,Uo h,dC];rfl
 ·rw [if_neg h,Ut h]
  cases R.2.find? λe=>decide (e.g=g) with
  | none=>rw [jH rfl rfl];rfl
  | some e=>
   show cI S (.str (bF e.wr)) (.str "up")=_
   rw [dC];cases e.wr <;> rfl
def HK(SB:OR sb)(WW:∀ (S:ab) (R:Rm) (g:Nat) (w:Wd),g<R.1.length->R.1.length<=100->ww [aG R,.int (g:Int),w.d] S=Z (aG (R.1.set g w,R.2),S))(V:TZ wo)(W:qa wait)(hN:N.length=5)(hb:0<=r.b)(h:ROk R)(hl:R.1.length<=50){w:Wd}(hw:R.1[g]?=Z w)(hc:dP R (.act .stop g)=true) :
  ∃ T,aO N (ow sb ww wo wait) 3 [r.d,aG R,(Dd.act .stop g).d] S=Z (gD (oh r R .stop g w),S++T):=by
 have hst:ay N [r.d,aG R,(Dd.act .stop g).d]=[Z r.d,Z (aG R),Z (Dd.act .stop g).d,U,U]:=by simp [ay,hN,List.replicate]
 rw [aU (show [r.d,aG R,(Dd.act .stop g).d].length=3 from rfl),hst]
 have hg:g<R.1.length:=(Uj.mp hw).1
 have hle:=h.len
 have x1:aE S (Dd.act .stop g).d (.int 1)=Z (.int (g:Int)):=rfl
 have k1:∀ S (x:D),cZ ([x],S)=Z (.tup [x],S):=λS x=>bi (by simp)
 have k2:∀ S (x y:D),cZ ([x,y],S)=Z (.tup [x,y],S):=λS x y=>bi (by simp)
 have wt:wait [aG R,.int (g:Int)] S=Z (gS R g,S):=W S R g (by omega)
 have fin:∀ R':Rm,ROk R'->R'.1.length=R.1.length->oh r R .stop g w=((aB r R').1,lM .stop g++(aB r R').2)->∃ T,sb [r.d,aG R',.tup [.tup [.str "ends",.int (g:Int)]]] S=Z (gD (oh r R .stop g w),S++T):=λR' ok hl' ha=>by
  obtain⟨T,s1⟩:=SB S r R' [⟨"ends",g⟩] hb ok (by omega) (by simp)
  refine⟨T,?_⟩
  rw [ha];exact s1
 by_cases hr:w=.rising
 ·subst hr
  have hs:=se h hw (by decide)
  have he:gj r .stop .rising g R.2=R.2:=by rw [Dm h hs,if_neg (by decide)]
  have w1:ww [aG R,.int (g:Int),.str "reads"] S=Z (aG (R.1.set g .reads,R.2),S):=WW S R g .reads hg (by omega)
  obtain⟨T,s1⟩:=fin (R.1.set g .reads,R.2) (h.setW g .reads λe q=>dw hs q) (by simp) (yK hg rfl (by decide) he)
  refine⟨T,?_⟩
  simp only [ow,ba,bH,aH,ak,bG,bM,bL,oj,ob,aj,av,be,aw,x1,bI,bd,gH,ik,cj,aI,bv,aN,aD,aq,ao,az,am,aV,wt,Dr,Uo hw,aK,bX,bP,w1,aP,bD,k2,k1,s1,bg,aC]
 ·have ho:w=.out:=by
   unfold dP at hc
   rw [Vp] at hc
   rcases hc with q | q
   ·obtain⟨e,he,hge⟩:=UB.mp q
    have:=h.out e he
    rw [Us hge,hw] at this
    exact Uu this
   ·have:=Us q;rw [hw] at this;exact absurd (Uu this) hr
  subst ho
  have hn:¬ R.1[g]?=Z .rising:=by rw [hw];intro z;cases z
  have v1:wo [aG R,.int (g:Int)] S=Z (aG (R.1,R.2.filter λe=>decide (e.g≠g)),S):=V S R g (by omega)
  have hset:R.1.set g .out=R.1:=by
   obtain⟨q,e⟩:=Uj.mp hw
   rw [<- e];exact XZ q
  have ha:=yK (r:=r) (R:=R) (g:=g) (k:=.stop) (w:=.out) (w':=.out) (es:=R.2.filter λe=>decide (e.g≠g)) hg rfl (by decide) (by unfold gj;rw [if_neg (by decide)])
  rw [hset] at ha
  obtain⟨T,s1⟩:=fin (R.1,R.2.filter λe=>decide (e.g≠g)) (ROk.filter h _) rfl ha
  refine⟨T,?_⟩
  simp only [ow,ba,bH,aH,ak,bG,bM,bL,oj,ob,aj,av,be,aw,x1,bI,bd,gH,ik,cj,aI,bv,aN,aD,aq,ao,az,am,aV,wt,Dr,Ut hn,aK,bA,v1,aP,bD,k2,k1,bP,s1,bg,aC]
def oz:MS:=aJ (on (au (ax AO (ac 0) (mC .non))) (mC .non) (ax qP (ac 0) (mC (.int 1))))
def Jh(hN:N.length=1){t:Option Int}:aO N oz 1 [bO t] S=Z (bO (t.map (· - 1)),S):=by
 have hst:ay N [bO t]=[Z (bO t)]:=by simp [ay,hN]
 rw [aU (show [bO t].length=1 from rfl),hst]
 cases t with
 | none=>
  have i1:oU (bO U) .non=true:=rfl
  simp only [oz,aP,oN,aN,aH,ak,bG,oj,ob,aj,av,be,aw,jx,i1,aK,Ek,bg,aC];rfl
 | some t=>
  have i1:oU (bO (Z t)) .non=false:=rfl
  have s1:qP S (bO (Z t)) (.int 1)=Z (bO (Z (t - 1))):=yv
  simp only [oz,aP,oN,aN,aH,ak,bG,oj,ob,aj,av,be,aw,jx,i1,aK,Jr,s1,bg,aC];rfl
def tkA(ol:PF):ME:=bE (cC (ac 4)) (aY 4 (af (ah 0) (af (ah 1) (af (ah 2) (af (ah 3) (aQ)))))) (bx) (aX (aa (ac 0) (aa (ac 1) (aa (ac 2) (aa (ai 1 ol (aa (ac 3) (ag))) (ag)))))) [U,U,U,U]
def tkB:ME:=bE (cC (ac 5)) (ah 0) (au (ax cI (ax aE (ac 0) (mC (.int 3))) (mC (.int 0)))) (aX (aa (mC (.str "ends")) (aa (ax aE (ac 0) (mC (.int 0))) (ag)))) [U]
def tkC:ME:=bE (cC (ac 5)) (ah 0) (au (ax eV (ax aE (ac 0) (mC (.int 3))) (mC (.int 0)))) (ac 0) [U]
def rS(sb ol:PF):MS:=aA (aS (ac 1) (aY 2 (af (ah 3) (af (ah 4) (aQ))))) (aA (aS (tkA ol) (ah 5)) (aA (aS (bn (aT (dc .tup)) (aa tkB (ag))) (ah 6)) (aA (aS (bn (aT (dc .tup)) (aa tkC (ag))) (ah 7)) (aJ (ai 3 sb (aa (ac 0) (aa (aX (aa (ac 3) (aa (ac 7) (ag)))) (aa (ac 6) (ag)))))))))
def HA(SB:OR sb)(L:∀ (S:ab) (t:Option Int),ol [bO t] S=Z (bO (t.map (· - 1)),S))(hN:N.length=8)(hb:0<=r.b)(h:ROk R)(hl:R.1.length<=50):∃ T,aO N (rS sb ol) 3 [r.d,aG R,Dd.tick.d] S=Z (gD (rG r R),S++T):=by
 have hst:ay N [r.d,aG R,Dd.tick.d]=[Z r.d,Z (aG R),Z Dd.tick.d,U,U,U,U,U]:=by simp [ay,hN,List.replicate]
 rw [aU (show [r.d,aG R,Dd.tick.d].length=3 from rfl),hst]
 have hle:=h.len
 have g2:∀ env S,aY 2 (af (ah 3) (af (ah 4) (aQ))) (aG R) env S=(af (ah 3) (af (ah 4) (aQ))) [dE R.1,eQ R.2] env S:=λenv S=>dg
 have k2:∀ x y:D,cZ ([x,y],S)=Z (.tup [x,y],S):=λx y=>bi (by simp)
 have k4:∀ x y z u:D,cZ ([x,y,z,u],S)=Z (.tup [x,y,z,u],S):=λx y z u=>bi (by simp)
 have a:=Jm (S:=S) (es:=R.2) (cap:=[U,U,U,U]) (env:=[Z r.d,Z (aG R),Z Dd.tick.d,Z (dE R.1),Z (eQ R.2),U,U,U]) (a:=U) (b:=U) (c:=U) (d:=U) (e:=aX (aa (ac 0) (aa (ac 1) (aa (ac 2) (aa (ai 1 ol (aa (ac 3) (ag))) (ag)))))) (f:=λx=>(fT x).d) rfl (by omega) λx=>by
  simp only [bD,aq,ak,bG,bM,bL,oj,ob,aj,ao,aD,az,am,lH,L,k4];rfl
 have b:=gI (S:=S) (t:=au (ax cI (ax aE (ac 0) (mC (.int 3))) (mC (.int 0)))) (e:=aX (aa (mC (.str "ends")) (aa (ax aE (ac 0) (mC (.int 0))) (ag)))) (cap:=[U]) (env:=[Z r.d,Z (aG R),Z Dd.tick.d,Z (dE R.1),Z (eQ R.2),Z (.lst ((R.2.map fT).map En.d)),U,U]) (rest:=[]) (a:=U) (enc:=En.d) (p:=λe=>decide (e.t=Z 0)) (f:=λe=>Ev.d ⟨"ends",e.g⟩) (xs:=R.2.map fT) rfl (by rw [Ux];omega) (λe _=>by
  have x3:aE S e.d (.int 3)=Z (bO e.t):=rfl
  simp only [aN,aH,ak,bG,bM,bL,oj,ob,aj,av,be,aw,x3,tO,aK]) (λe _ _=>by
  simp only [bD,aq,be,ob,ao,aH,ak,bG,oj,aj,av,aw,En.ix0,az,am,k2];rfl)
 have c:=gI (S:=S) (t:=au (ax eV (ax aE (ac 0) (mC (.int 3))) (mC (.int 0)))) (e:=ac 0) (cap:=[U]) (env:=[Z r.d,Z (aG R),Z Dd.tick.d,Z (dE R.1),Z (eQ R.2),Z (.lst ((R.2.map fT).map En.d)),Z (cU (((R.2.map fT).filter λe=>decide (e.t=Z 0)).map λe=>⟨"ends",e.g⟩)),U]) (rest:=[]) (a:=U) (enc:=En.d) (p:=λe=>decide (e.t≠Z 0)) (f:=En.d) (xs:=R.2.map fT) rfl (by rw [Ux];omega) (λe _=>by
  have x3:aE S e.d (.int 3)=Z (bO e.t):=rfl
  simp only [aN,aH,ak,bG,bM,bL,oj,ob,aj,av,be,aw,x3,JU,aK,ne_eq,decide_not]) (λe _ _=>by simp only [ak,bG,oj,ob,aj])
 have ma:(R.2.map λx=>(fT x).d)=(R.2.map fT).map En.d:=by rw [Vs];rfl
 rw [ma] at a
 have it:∀ l:List D,Aq (.lst l,S)=Z (l,S):=λl=>Jq
 have sb1:aT (dc .tup) [.lst (((R.2.map fT).filter λe=>decide (e.t=Z 0)).map λe=>Ev.d ⟨"ends",e.g⟩)] S=Z (cU (((R.2.map fT).filter λe=>decide (e.t=Z 0)).map λe=>⟨"ends",e.g⟩),S):=by
  rw [jw];unfold cU;rw [Vs];rfl
 have sc1:aT (dc .tup) [.lst (((R.2.map fT).filter λe=>decide (e.t≠Z 0)).map En.d)] S=Z (eQ ((R.2.map fT).filter λe=>decide (e.t≠Z 0)),S):=jw
 obtain⟨T,s1⟩:=SB S r (R.1,(R.2.map fT).filter λe=>decide (e.t≠Z 0)) (((R.2.map fT).filter λ(e:En)=>decide (e.t=Z 0)).map λ(e:En)=>Ev.mk "ends" e.g) hb (ROk.filter (ROk.mapE h fT λe=>rfl) _) hl (by
  rw [Ux];exact UV (VC _ _) (by rw [Ux];omega))
 refine⟨T,?_⟩
 have s1':sb [r.d,.tup [dE R.1,eQ ((R.2.map fT).filter λe=>decide (e.t≠Z 0))],cU (((R.2.map fT).filter λe=>decide (e.t=Z 0)).map λe=>⟨"ends",e.g⟩)] S=Z (gD (rG r R),S++T):=s1
 simp only [rS,ba,bH,ak,bG,bM,bL,oj,ob,aj,bI,g2,bQ,bd,eE,cE,gH,ik,cj,aI,tkA,cK,dL,gR,a,cu,aq,tkB,it,b,ao,az,am,cw,sb1,tkC,c,sc1,aP,aD,bD,k2,bP,s1',bg,aC]
structure BrOk(ask up down leave stop tick:PF):Prop where
 a:∀ (S:ab) (r:Rl) (R:Rm) (wr:Bool) (g:Nat) (t:Option Int),0<=r.b->ROk R->R.1.length<=50->R.1[g]?=Z .out->bb R.2 g=false->∃ T,ask [r.d,aG R,(Dd.ask wr g t).d] S=Z (gD (qT r R wr g t),S++T)
 u:∀ (S:ab) (r:Rl) (R:Rm) (g:Nat),0<=r.b->ROk R->R.1.length<=50->R.1[g]?=Z .reads->∃ T,up [r.d,aG R,(Dd.act .up g).d] S=Z (gD (if r.c=0\/Wd.rising∈R.1 then (R,[⟨"no",g⟩]) else oh r R .up g .reads),S++T)
 d:∀ (S:ab) (r:Rl) (R:Rm) (g:Nat) (w:Wd),0<=r.b->ROk R->R.1.length<=50->R.1[g]?=Z w->w≠.out->∃ T,down [r.d,aG R,(Dd.act .down g).d] S=Z (gD (oh r R .down g w),S++T)
 l:∀ (S:ab) (r:Rl) (R:Rm) (g:Nat) (w:Wd),0<=r.b->ROk R->R.1.length<=50->R.1[g]?=Z w->w≠.out->∃ T,leave [r.d,aG R,(Dd.act .leave g).d] S=Z (gD (oh r R .leave g w),S++T)
 s:∀ (S:ab) (r:Rl) (R:Rm) (g:Nat) (w:Wd),0<=r.b->ROk R->R.1.length<=50->R.1[g]?=Z w->dP R (.act .stop g)=true->∃ T,stop [r.d,aG R,(Dd.act .stop g).d] S=Z (gD (oh r R .stop g w),S++T)
 t:∀ (S:ab) (r:Rl) (R:Rm),0<=r.b->ROk R->R.1.length<=50->∃ T,tick [r.d,aG R,Dd.tick.d] S=Z (gD (rG r R),S++T)
def brL(ask up down leave stop tick:PF):List (bC×Nat×PF):=[(.inr "read",3,ask),(.inr "write",3,ask),(.inr "up",3,up),(.inr "down",3,down),(.inr "leave",3,leave),(.inr "stop",3,stop),(.inr "tick",3,tick)]
def oB(l:List (bC×Nat×PF)):MS:=fY l 3 (ax aE (ac 2) (mC (.int 0))) (aa (ac 0) (aa (ac 1) (aa (ac 2) (ag))))
def jk{l:List (bC×Nat×PF)}{f:PF}{x y z d:D}{w:Str}(hN:N.length=4)(hx:aE S z (.int 0)=Z (.str w))(hv:yT l (.inr w)=Z (3,f)){S':ab}(hf:f [x,y,z] S=Z (d,S')):aO N (oB l) 3 [x,y,z] S=Z (d,S'):=by
 have hst:ay N [x,y,z]=[Z x,Z y,Z z,U]:=by simp [ay,hN,List.replicate]
 rw [aU (show [x,y,z].length=3 from rfl),hst]
 have kd:=λms env=>Jt (S:=S) (d:=.str w) (ms:=ms) (env:=env) (i:=3) (l:=l) Nn hv
 have k3:yk 3 f ([x,y,z],S)=(f [x,y,z] S).bind kRt:=FR rfl
 simp only [oB,Nl,aH,ak,bG,bM,bL,oj,ob,aj,av,be,aw,hx,kd,gH,ik,aq,ao,az,am,k3,hf,bg,aC]
def Fo{ask up down leave stop tick:PF}(B:BrOk ask up down leave stop tick)(hN:N.length=4){dd:Dd}{x:Rm×List Ev}(hb:0<=r.b)(h:ROk R)(hl:R.1.length<=50)(hd:dd.Ok R.1.length)(hx:du r R dd=Z x):∃ T,aO N (oB (brL ask up down leave stop tick)) 3 [r.d,aG R,dd.d] S=Z (gD x,S++T):=by
 unfold du at hx
 split at hx
 ·cases hx
 rename_i hcan
 rw [Xg] at hcan
 split at hx
 ·cases hx
  obtain⟨T,e⟩:=B.t S r R hb h hl
  exact⟨T,jk (w:="tick") hN rfl (by rfl) e⟩
 ·rename_i wr g t
  cases hx
  unfold dP at hcan
  rw [Uk] at hcan
  obtain⟨T,e⟩:=B.a S r R wr g t hb h hl (Us hcan.1) (by simpa using hcan.2)
  refine⟨T,?_⟩
  cases wr
  ·exact jk (w:="read") hN rfl (by rfl) e
  ·exact jk (w:="write") hN rfl (by rfl) e
 ·rename_i k g
  have hg:g<R.1.length:=hd
  obtain⟨w,hw⟩:∃ w,R.1[g]?=Z w:=⟨_,Uq hg⟩
  rw [hw] at hx
  dsimp only at hx
  cases k with
  | up=>
   have hr:R.1[g]?=Z .reads:=Us hcan
   rw [hw] at hr;cases hr
   obtain⟨T,e⟩:=B.u S r R g hb h hl hw
   refine⟨T,jk (w:="up") hN rfl (by rfl) ?_⟩
   rw [e]
   by_cases z:r.c=0\/Wd.rising∈R.1
   ·rw [if_pos ⟨rfl,z⟩] at hx;cases hx;rw [if_pos z]
   ·rw [if_neg (λq=>z q.2)] at hx;cases hx;rw [if_neg z]
  | down=>
   rw [if_neg (λq=>by cases q.1)] at hx;cases hx
   have ho:w≠.out:=λz=>by
    subst z
    have hc2:(decide (R.1[g]?=Z Wd.writes)||decide (R.1[g]?=Z Wd.raised))=true:=hcan
    rw [hw] at hc2;revert hc2;decide
   obtain⟨T,e⟩:=B.d S r R g w hb h hl hw ho
   exact⟨T,jk (w:="down") hN rfl (by rfl) e⟩
  | leave=>
   rw [if_neg (λq=>by cases q.1)] at hx;cases hx
   have ho:w≠.out:=λz=>by
    subst z
    exact(Us hcan) hw
   obtain⟨T,e⟩:=B.l S r R g w hb h hl hw ho
   exact⟨T,jk (w:="leave") hN rfl (by rfl) e⟩
  | stop=>
   rw [if_neg (λq=>by cases q.1)] at hx;cases hx
   obtain⟨T,e⟩:=B.s S r R g w hb h hl hw hcan
   exact⟨T,jk (w:="stop") hN rfl (by rfl) e⟩
end
section
variable{S:ab}{N:List Str}{r:Rl}{R:Rm}{n:Nat}{dd:Dd}
def xn:MS:=aJ (df (ir "tuple" (ac 0)) (ax cI (bn (aT eI) (aa (ac 0) (ag))) (ac 1)))
def PR(f:PF):Prop:=∀ (S:ab) (xs:List D) (k:Int),f [.tup xs,.int k] S=Z (.bl (decide ((xs.length:Int)=k)),S)
def LM(hN:N.length=2){xs:List D}{k:Int}:aO N xn 2 [.tup xs,.int k] S=Z (.bl (decide ((xs.length:Int)=k)),S):=by
 have hst:ay N [D.tup xs,D.int k]=[Z (.tup xs),Z (.int k)]:=by simp [ay,hN]
 rw [aU (show [D.tup xs,D.int k].length=2 from rfl),hst]
 have it:tL "tuple" S (.tup xs)=Z (.bl true):=rfl
 simp only [xn,aP,gG,pF,ak,bG,bM,bL,oj,ob,aj,pM,it,iy,aH,cu,aq,ao,az,am,cw,yx,av,aw,jI,bg,aC]
 rfl
def rR:MS:=aJ (df (ir "str" (ac 0)) (ax nk (ac 0) (ac 1)))
def Ly(f:PF):Prop:=∀ (S:ab) (x:Str) (ys:List Str),x∈ys->f [.str x,.tup (ys.map .str)] S=Z (.bl true,S)
def Hl(hN:N.length=2){x:Str}{ys:List Str}(h:x∈ys):aO N rR 2 [.str x,.tup (ys.map .str)] S=Z (.bl true,S):=by
 have hst:ay N [D.str x,D.tup (ys.map .str)]=[Z (.str x),Z (.tup (ys.map .str))]:=by simp [ay,hN]
 rw [aU (show [D.str x,D.tup (ys.map .str)].length=2 from rfl),hst]
 have it:tL "str" S (.str x)=Z (.bl true):=rfl
 have fi:nk S (.str x) (.tup (ys.map .str))=Z (.bl true):=by
  rw [lO (ys:=ys.map .str) rfl rfl (by rw [UF];intro d hd;obtain⟨y,_,rfl⟩:=Uz.mp hd;rfl)]
  have:((ys.map D.str).any λd=>js d (.str x))=true:=UB.mpr ⟨.str x,Uz.mpr ⟨x,h,rfl⟩,by show (x == x)=true;simp⟩
  rw [this]
 simp only [rR,aP,gG,pF,ak,bG,bM,bL,oj,ob,aj,pM,it,iy,aH,av,aw,fi,bg,aC]
def PX(f:PF):Prop:=∀ (S:ab) (i lo hi:Int),f [.int i,.int lo,.int hi] S=Z (.bl (decide (lo<=i)&&decide (i<=hi)),S)
def lz(tof word bet:PF):MS:=aA (bu (cG (ai 2 tof (aa (ac 1) (aa (mC (.int 1)) (ag))))) (aJ (ai 2 word (aa (ax aE (ac 1) (mC (.int 0))) (aa (aX (aa (mC (.str "tick")) (ag))) (ag))))) (aR)) (aA (bu (cG (ai 2 tof (aa (ac 1) (aa (mC (.int 2)) (ag))))) (aJ (df (ai 2 word (aa (ax aE (ac 1) (mC (.int 0))) (aa (mC (.tup [.str "up",.str "down",.str "leave",.str "stop"])) (ag)))) (ai 3 bet (aa (ax aE (ac 1) (mC (.int 1))) (aa (mC (.int 0)) (aa (ax qP (ac 0) (mC (.int 1))) (ag))))))) (aR)) (aA (bu (cy (cG (ai 2 tof (aa (ac 1) (aa (mC (.int 3)) (ag)))))) (aJ (mC (.bl false))) (aR)) (aA (aS (ac 1) (aY 3 (af (ah 2) (af (ah 3) (af (ah 4) (aQ)))))) (aJ (df (ai 2 word (aa (ac 2) (aa (mC (.tup [.str "read",.str "write"])) (ag)))) (df (ai 3 bet (aa (ac 3) (aa (mC (.int 0)) (aa (ax qP (ac 0) (mC (.int 1))) (ag))))) (uj (ax AO (ac 4) (mC .non)) (ai 3 bet (aa (ac 4) (aa (mC (.int 0)) (aa (mC (.int 9)) (ag))))))))))))
def Gy{tof word bet:PF}(T:PR tof)(W:Ly word)(B:PX bet)(hN:N.length=5)(hd:dd.Ok n):aO N (lz tof word bet) 2 [.int (n:Int),dd.d] S=Z (.bl true,S):=by
 have hst:ay N [D.int (n:Int),dd.d]=[Z (.int (n:Int)),Z dd.d,U,U,U]:=by simp [ay,hN,List.replicate]
 rw [aU (show [D.int (n:Int),dd.d].length=2 from rfl),hst]
 cases dd with
 | tick=>
  have t1:tof [Dd.tick.d,.int 1] S=Z (.bl true,S):=T S [.str "tick"] 1
  have x0:aE S Dd.tick.d (.int 0)=Z (.str "tick"):=rfl
  have k1:cZ ([.str "tick"],S)=Z (.tup [.str "tick"],S):=bi (by simp)
  have w1:word [.str "tick",.tup [.str "tick"]] S=Z (.bl true,S):=W S "tick" ["tick"] (by simp)
  simp only [lz,ba,bv,dR,aD,aq,ak,bG,bM,bL,oj,ob,aj,ao,be,az,am,aV,t1,gb,bX,aP,aH,av,aw,x0,bD,k1,w1,bg,bN,aC]
 | act k g=>
  have hg:g<n:=hd
  have t1:tof [(Dd.act k g).d,.int 1] S=Z (.bl false,S):=T S [.str k.s,.int (g:Int)] 1
  have t2:tof [(Dd.act k g).d,.int 2] S=Z (.bl true,S):=T S [.str k.s,.int (g:Int)] 2
  have x0:aE S (Dd.act k g).d (.int 0)=Z (.str k.s):=rfl
  have x1:aE S (Dd.act k g).d (.int 1)=Z (.int (g:Int)):=rfl
  have w1:word [.str k.s,.tup [.str "up",.str "down",.str "leave",.str "stop"]] S=Z (.bl true,S):=W S k.s ["up","down","leave","stop"] (by cases k <;> simp [Ak.s])
  have b1:bet [.int (g:Int),.int 0,.int ((n:Int) - 1)] S=Z (.bl true,S):=by
   rw [B];congr 3;rw [Uo (by omega),Uo (by omega)];rfl
  simp only [lz,ba,bv,dR,aD,aq,ak,bG,bM,bL,oj,ob,aj,ao,be,az,am,aV,t1,gb,bA,bm,aI,t2,bX,aP,gG,aH,av,aw,x0,w1,iy,x1,yv,bP,b1,bg,bN,aC]
 | ask wr g t=>
  have hg:g<n:=hd.1
  have t1:tof [(Dd.ask wr g t).d,.int 1] S=Z (.bl false,S):=T S [.str (bF wr),.int (g:Int),bO t] 1
  have t2:tof [(Dd.ask wr g t).d,.int 2] S=Z (.bl false,S):=T S [.str (bF wr),.int (g:Int),bO t] 2
  have t3:tof [(Dd.ask wr g t).d,.int 3] S=Z (.bl true,S):=T S [.str (bF wr),.int (g:Int),bO t] 3
  have g3:∀ env S,aY 3 (af (ah 2) (af (ah 3) (af (ah 4) (aQ)))) (Dd.ask wr g t).d env S=(af (ah 2) (af (ah 3) (af (ah 4) (aQ)))) [.str (bF wr),.int (g:Int),bO t] env S:=λenv S=>Es
  have w1:word [.str (bF wr),.tup [.str "read",.str "write"]] S=Z (.bl true,S):=W S (bF wr) ["read","write"] (by cases wr <;> simp [bF])
  have b1:bet [.int (g:Int),.int 0,.int ((n:Int) - 1)] S=Z (.bl true,S):=by
   rw [B];congr 3;rw [Uo (by omega),Uo (by omega)];rfl
  simp only [lz,ba,bv,dR,aD,aq,ak,bG,bM,bL,oj,ob,aj,ao,be,az,am,aV,t1,gb,bA,bm,aI,t2,kU,t3,kY,UY,bH,bI,g3,bQ,bd,eE,cE,gH,ik,cj,aP,gG,w1,iy,aH,av,aw,yv,bP,b1,Ja,jx]
  cases t with
  | none=>
   have i1:oU (bO U) .non=true:=rfl
   simp only [i1,Pn,ob,bg,aC]
  | some t=>
   have i1:oU (bO (Z t)) .non=false:=rfl
   obtain⟨l0,l9⟩:=hd.2 t rfl
   have b2:bet [bO (Z t),.int 0,.int 9] S=Z (.bl true,S):=by
    rw [show bO (Z t)=.int t from rfl,B];congr 3;rw [Uo l0,Uo l9];rfl
   simp only [i1,Po,aD,aq,ak,bG,bM,bL,oj,ob,aj,ao,be,az,am,bP,b2,bg,aC]
def rT(deed can done:PF):MS:=aA (bu (cX (cy (cG (ai 2 deed (aa (ac 1) (aa (ac 3) (ag)))))) (cy (cG (ai 2 can (aa (ac 2) (aa (ac 3) (ag))))))) (iG) (aR)) (aJ (ai 3 done (aa (ac 0) (aa (ac 2) (aa (ac 3) (ag))))))
def Gu{x:Rm×List Ev}(h:du r R dd=Z x):dP R dd=true:=by
 unfold du at h
 split at h
 ·cases h
 ·rename_i q;rw [Xg] at q;exact q
def HL{deed can done:PF}{x:Rm×List Ev}{T:ab}(hN:N.length=4)(h1:deed [.int (n:Int),dd.d] S=Z (.bl true,S))(h2:can [aG R,dd.d] S=Z (.bl true,S))(h3:done [r.d,aG R,dd.d] S=Z (gD x,S++T)):aO N (rT deed can done) 4 [r.d,.int (n:Int),aG R,dd.d] S=Z (gD x,S++T):=by
 have hst:ay N [r.d,.int (n:Int),aG R,dd.d]=[Z r.d,Z (.int (n:Int)),Z (aG R),Z dd.d]:=by simp [ay,hN]
 rw [aU (show [r.d,D.int (n:Int),aG R,dd.d].length=4 from rfl),hst]
 simp only [rT,ba,bv,fc,kU,dR,aD,aq,ak,bG,bM,bL,oj,ob,aj,ao,az,am,aV,h1,gb,kY,UY,gc,h2,bA,bm,aI,aP,bP,h3,bg,aC]
def Df{wait:PF}(hN:N.length=5):aO N (mw wait) 2 [aG R,Dd.tick.d] S=Z (.bl true,S):=by
 have hst:ay N [aG R,Dd.tick.d]=[Z (aG R),Z Dd.tick.d,U,U,U]:=by simp [ay,hN,List.replicate]
 rw [aU (show [aG R,Dd.tick.d].length=2 from rfl),hst]
 have x0:aE S Dd.tick.d (.int 0)=Z (.str "tick"):=rfl
 have tk:cI S (.str "tick") (.str "tick")=Z (.bl true):=by rw [dC];rfl
 simp only [mw,ba,bv,aN,aH,ak,bG,bM,bL,oj,ob,aj,av,be,aw,x0,tk,aK,bX,aP,bg,bN,aC]
def wy{x:Rm×List Ev}(h:ROk R)(hl:R.1.length<=5)(hx:du r R dd=Z x):x.2.length<=15:=by
 have hle:=h.len
 have sf:∀ R':Rm,R'.1.length=R.1.length->(aB r R').2.length<=10:=λR' q=>UV (wT _) (by omega)
 unfold du at hx
 split at hx
 ·cases hx
 rename_i hcan
 split at hx
 ·cases hx
  have:=sf (R.1,(R.2.map fT).filter λe=>decide (e.t≠Z 0)) rfl
  have q:((R.2.map fT).filter λe=>decide (e.t=Z 0)).length<=R.2.length:=UV (VC _ _) (by simp)
  unfold rG
  dsimp only
  rw [UC,Ux]
  omega
 ·rename_i wr g t
  cases hx
  have:=sf (R.1,R.2++[eK wr g t]) rfl
  unfold qT
  dsimp only
  split
  ·omega
  ·split
   ·rw [UC,Vd];omega
   ·rw [UC,Vd];omega
 ·rename_i k g
  split at hx
  ·cases hx;simp
  ·split at hx
   ·rename_i w hw
    cases hx
    have:=sf (R.1.set g (bY k w),gj r k w g R.2) (by simp)
    have f1:(lM k g).length<=1:=by cases k <;> simp [lM]
    unfold oh
    dsimp only
    rw [UC,UC]
    split
    ·rw [Vd];omega
    ·rw [Wb];omega
   ·cases hx
end
abbrev Rs:=List (Rm×List Ev)
inductive Ws(r:Rl):Rm->List Dd->Rs->Prop
 | nil {R:Rm}:Ws r R [] []
 | cons {R:Rm} {d:Dd} {x:Rm×List Ev} {l:List Dd} {xs:Rs} (h:du r R d=Z x) (t:Ws r x.1 l xs):Ws r R (d::l) (x::xs)
def sM:Rm->Rs->Rm
 | R,[]=>R
 | _,x::xs=>sM x.1 xs
section
variable{r:Rl}{R:Rm}{l:List Dd}{xs:Rs}{n:Nat}
def Ws.len(h:Ws r R l xs):xs.length=l.length:=by
 induction h with
 | nil=>rfl
 | cons _ _ ih=>rw [UE,UE,ih]
def Ws.snoc(h:Ws r R l xs){d:Dd}{x:Rm×List Ev}(hx:du r (sM R xs) d=Z x):Ws r R (l++[d]) (xs++[x])/\sM R (xs++[x])=x.1:=by
 induction h with
 | nil=>exact⟨.cons hx .nil,rfl⟩
 | cons q t ih=>exact⟨.cons q (ih hx).1,(ih hx).2⟩
theorem Ws.take(h:Ws r R l xs):∀ c:Nat,Ws r R (l.take c) (xs.take c):=by
 induction h with
 | nil=>intro c;rw [List.take_nil,List.take_nil];exact .nil
 | cons q t ih=>
  intro c
  cases c with
  | zero=>exact .nil
  | succ c=>exact .cons q (ih c)
def Behind.ws(h:Behind r n l R):(∃ xs,Ws r (dq n) l xs/\sM (dq n) xs=R)/\∀ d∈l,d.Ok n:=by
 induction h with
 | nil=>exact⟨⟨[],.nil,rfl⟩,λd z=>by cases z⟩
 | snoc h hd e ih=>
  obtain⟨⟨xs,w,q⟩,o⟩:=ih
  rw [<- q] at e
  obtain⟨w',q'⟩:=w.snoc e
  refine⟨⟨_,w',q'⟩,λd hd'=>?_⟩
  rcases UJ.mp hd' with z | z
  ·exact o d z
  ·rw [UN.mp z];exact hd
def Ws.ok(h:Ws r R l xs):ROk R->ROk (sM R xs)/\(sM R xs).1.length=R.1.length:=by
 induction h with
 | nil=>exact λh=>⟨h,rfl⟩
 | cons q t ih=>exact λh=>⟨(ih (kg h q).1).1,(ih (kg h q).1).2.trans (kg h q).2⟩
def Ws.few(h:Ws r R l xs):ROk R->R.1.length<=5->∀ x∈xs,x.2.length<=100:=by
 induction h with
 | nil=>exact λ_ _ x z=>by cases z
 | cons q t ih=>
  intro h h5 x hx
  rcases UO.mp hx with rfl | hx
  ·exact UV (wy h h5 q) (by decide)
  ·exact ih (kg h q).1 (by rw [(kg h q).2];exact h5) x hx
end
def pD:MS:=aJ (aX (aa (ax cS (aX (aa (mC (.str "out")) (ag))) (ac 0)) (aa (aX (ag)) (ag))))
def Tb{S:ab}{n i:Nat}{env:aW}(h5:n<=5)(hv:ac i env S=Z (.int (n:Int),S)):aX (aa (ax cS (aX (aa (mC (.str "out")) (ag))) (ac i)) (aa (aX (ag)) (ag))) env S=Z (aG (dq n),S):=by
 have k1:∀ x:D,cZ ([x],S)=Z (.tup [x],S):=λx=>bi (by simp)
 have k0:cZ ([],S)=Z (.tup [],S):=bi (by simp)
 have k2:∀ x y:D,cZ ([x,y],S)=Z (.tup [x,y],S):=λx y=>bi (by simp)
 have m:cS S (.tup [.str "out"]) (.int (n:Int))=Z (dE (List.replicate n .out)):=by
  rw [NK (by omega) (by omega) (by rw [Vx,Vd];omega),Vx,AI]
  simp [dE,Wd.d,Wd.s]
 simp only [bD,aq,aH,be,ob,ao,az,am,k1,av,hv,aw,m,aj,k0,k2]
 rfl
def Gr{N:List Str}(hN:N.length=1){S:ab}{n:Nat}(h5:n<=5):aO N pD 1 [.int (n:Int)] S=Z (aG (dq n),S):=by
 have hst:ay N [D.int (n:Int)]=[Z (.int (n:Int))]:=by simp [ay,hN]
 rw [aU (show [D.int (n:Int)].length=1 from rfl),hst]
 have e:=Tb (S:=S) (n:=n) (i:=0) (env:=[Z (.int (n:Int))]) h5 (by simp only [ak,bG,oj,ob,aj])
 rw [pD,aP,e]
 simp only [ob,bg,aC]
def Kp(q:Nat)(S S':ab):Prop:=∀ i,i≠q->i<S.length->S'[i]?=S[i]?/\i<S'.length
theorem Kp.trans{q:Nat}{S S1 S2:ab}(a:Kp q S S1)(b:Kp q S1 S2):Kp q S S2:=λi h h'=>⟨(b i h (a i h h').2).1.trans (a i h h').1,(b i h (a i h h').2).2⟩
structure RnOk(deed can done emp:PF):Prop where
 d:∀ (S:ab) (n:Nat) (dd:Dd),dd.Ok n->deed [.int (n:Int),dd.d] S=Z (.bl true,S)
 c:∀ (S:ab) (R:Rm) (dd:Dd),R.1.length<=100->dd.Ok R.1.length->dP R dd=true->can [aG R,dd.d] S=Z (.bl true,S)
 o:∀ (S:ab) (r:Rl) (R:Rm) (dd:Dd) (x:Rm×List Ev),0<=r.b->ROk R->R.1.length<=50->dd.Ok R.1.length->du r R dd=Z x->∃ T,done [r.d,aG R,dd.d] S=Z (gD x,S++T)
 e:∀ (S:ab) (n:Nat),n<=5->emp [.int (n:Int)] S=Z (aG (dq n),S)
section
variable{r:Rl}{n q:Nat}{deed can done emp:PF}
end
def LB:Str:="in"
def il:Str:="steps"
def goW(wr:Bool):Wd:=if wr then .writes else .reads
section
variable{r:Rl}{R:Rm}
def Dw{y:En}(hy:y∈(iJ r R).1.2):∃ x∈R.2,x.g=y.g/\x.wr=y.wr:=by
 unfold iJ at hy
 split at hy
 ·exact⟨y,hy,rfl,rfl⟩
 ·split at hy
  ·split at hy
   ·rcases UJ.mp hy with z | z
    ·obtain⟨x,hx,rfl⟩:=Uz.mp z
     exact⟨x,Ve hx,rfl,rfl⟩
    ·exact⟨y,Wo z,rfl,rfl⟩
   ·exact⟨y,hy,rfl,rfl⟩
  ·exact⟨y,hy,rfl,rfl⟩
theorem yr:∀ {es:List En},(es.map (·.g)).Nodup->∀ {x:En},x∈es->es.find? (λe=>decide (e.g=x.g))=Z x
 | y::es,hn,x,hx=>by
  rw [Uy,Vy] at hn
  rw [UZ]
  rcases UO.mp hx with rfl | hx
  ·rw [Uo rfl]
  ·rw [Ut (λz=>hn.1 (Uz.mpr ⟨x,hx,z.symm⟩))]
   exact yr hn.2 hx
end
section
variable{S:ab}{r:Rl}{R:Rm}{n q c:Nat}
end
def ahL(f:Bool):List Dd:=[.ask f 1 U,.ask (!f) 0 U]
def agL(f:Bool):List Dd:=[.ask f 2 U,.act .leave 1,.ask f 1 U,.act .leave 2]
def Hs(r:Rl):List Dd->Rm->Option Rs
 | [],_=>Z []
 | d::l,R=>(du r R d).bind λx=>(Hs r l x.1).bind λxs=>Z (x::xs)
def Ws.app{r:Rl}{R:Rm}{l m:List Dd}{xs ys:Rs}(h:Ws r R l xs)(h':Ws r (sM R xs) m ys):Ws r R (l++m) (xs++ys):=by
 induction h with
 | nil=>exact h'
 | cons q t ih=>exact .cons q (ih h')
def eqEs:List En->List En->Bool
 | [],[]=>true
 | a::l,b::m=>decide (a.g=b.g)&&decide (a.wr=b.wr)&&decide (a.m=b.m)&&decide (a.t=b.t)&&eqEs l m
 | _,_=>false
def stB(z:Rm×List Ev):Bool:=bb z.1.2 0 && !decide (z.1.1[0]?=Z .rising)
def ioB(es:List Ev):Bool:=es.any λe=>(e.w == LB) && !decide (e.g=0)
def okS(r:Rl)(n:Nat)(f:Bool):Bool:=match Hs r (ahL f) (dq n) with
 | some [x1,x2]=>match Hs r (agL f) x2.1 with
  | some [y1,y2,y3,y4]=>decide (y4.1.1=x2.1.1)&&eqEs y4.1.2 x2.1.2&&[x2,y1,y2,y3,y4].all stB&&ioB (y1.2++(y2.2++(y3.2++y4.2)))
  | _=>false
 | _=>false
structure Stv(r:Rl)(n:Nat)(f:Bool)(x1 x2 y1 y2 y3 y4:Rm×List Ev):Prop where
 a:Ws r (dq n) (ahL f) [x1,x2]
 b:Ws r x2.1 (agL f) [y1,y2,y3,y4]
 back:y4.1=x2.1
 st:∀ z∈[x2,y1,y2,y3,y4],bb z.1.2 0=true/\z.1.1[0]?≠Z .rising
 io:ioB (y1.2++(y2.2++(y3.2++y4.2)))=true
section
variable{S:ab}
def SW{xs:List D}{bs:List Bool}(h:gO xs=Z bs):aT AR [.lst xs] S=Z (.bl (bs.any id),S):=by
 show ((gO xs).bind _).bind _=_
 rw [h];rfl
theorem wF{α:Type}(f:α->Bool):∀ xs:List α,gO (xs.map λx=>D.bl (f x))=Z (xs.map f)
 | []=>rfl
 | x::xs=>by rw [Uy,gO,wF f xs];rfl
def JY{x:D}(h:ci 40 x=true):cI S x x=Z (.bl true):=by
 have:=pg (S:=S) h
 rw [pR h h] at this
 rw [jH h h]
 have e:js x x=true:=by
  have:=Uu this
  injection this with this
  simpa using this
 rw [e]
end
section
variable{r:Rl}{R:Rm}
def Still(r:Rl)(R:Rm):Prop:=gv r R=U
def Still.next(h:Still r R):lh r R=U/\∀ g,R.1[g]?=Z .rising->cL r R g=false:=by
 unfold Still gv at h
 split at h
 ·cases h
 ·rename_i hf
  refine⟨by simpa using h,λg hg=>?_⟩
  have hm:g∈mH (λw=>decide (w=.rising)) R.1:=by
   unfold mH
   rw [Uz]
   refine⟨(.rising,g),UL.mpr ⟨?_,by simp⟩,rfl⟩
   rw [Wq]
   exact hg
  simpa using Yt.mp hf g hm
def Still.settled(h:Still r R)(hk:ROk R)(hb:0<=r.b):aB r R=(R,[]):=jN h hk hb _
def jB(hk:ROk R)(hb:0<=r.b):Still r (aB r R).1:=(Dy _ hk hb (IM hk)).1
def pW{e:En}{g:Nat}(hg:g≠e.g):cL r (R.1,R.2++[e]) g=cL r R g:=by
 unfold cL
 dsimp only
 rw [List.find?_append,show List.find? (λx:En=>decide (x.g=g)) [e]=U by rw [UZ,Ut (Ne.symm hg)];rfl,Option.or_none]
theorem zo{e:En}(hs:bb R.2 e.g=false):∀ l:List En,(∀ x∈l,x.g≠e.g)->ja r R l=U->∀ g,ja r (R.1,R.2++[e]) (l++[e])=Z g->g=e.g
 | [],_,_,g,h=>by
  rw [Vz] at h
  unfold ja at h
  split at h
  ·exact(Uu h).symm
  ·split at h
   ·cases h
   ·cases h
 | x::l,hn,h0,g,h=>by
  have hx:=hn x Ul
  rw [List.cons_append] at h
  unfold ja at h h0
  rw [pW hx] at h
  split at h0
  ·cases h0
  ·rename_i hc
   rw [if_neg hc] at h
   split at h0
   ·rename_i hb
    rw [if_pos hb] at h;cases h
   ·rename_i hb
    rw [if_neg hb] at h
    exact zo hs l (λy hy=>hn y (Ur _ hy)) h0 g h
def JJ{w:Rw}{es:List En}{e:En}{g:Nat}(h:(gX w (es++[e])).head?=Z g):(gX w es).head?=Z g\/g=e.g:=by
 unfold gX at h ⊢
 simp only [WZ,Vl] at h
 cases ht:(es.filter (gT w)).map (·.g) with
 | cons a l=>rw [ht] at h;exact .inl h
 | nil=>
  rw [ht] at h
  rw [Vz]
  by_cases h1:gT w e=true
  ·rw [show [e].filter (gT w)=[e] by rw [UQ,if_pos h1];rfl] at h
   exact .inr (Uu h).symm
  ·rw [show [e].filter (gT w)=[] by rw [UQ,if_neg h1];rfl] at h
   cases hv:(es.filter (nj w)).map (·.g) with
   | cons a l=>rw [hv] at h;exact .inl h
   | nil=>
    rw [hv] at h
    by_cases h2:nj w e=true
    ·rw [show [e].filter (nj w)=[e] by rw [UQ,if_pos h2];rfl] at h
     exact .inr (Uu h).symm
    ·rw [show [e].filter (nj w)=[] by rw [UQ,if_neg h2];rfl] at h
     cases es with
     | nil=>exact .inr (Uu h).symm
     | cons a l=>exact .inl h
def IJ{e:En}{g:Nat}(hs:bb R.2 e.g=false)(h0:lh r R=U)(h:lh r (R.1,R.2++[e])=Z g):g=e.g:=by
 unfold lh at h h0
 split at h
 ·rename_i hw
  rw [if_pos hw] at h0
  exact zo hs R.2 (λx hx=>dw hs hx) h0 g h
 ·rename_i hw
  rw [if_neg hw] at h0
  dsimp only at h
  split at h
  ·cases h
  ·rename_i g' hf
   split at h
   ·rename_i hc
    cases h
    rcases JJ hf with z | z
    ·by_cases he:g=e.g
     ·exact he
     ·rw [z] at h0
      dsimp only at h0
      rw [<- pW (R:=R) he,hc,if_pos rfl] at h0
      cases h0
    ·exact z
   ·cases h
theorem zd{g:Nat}:∀ (n:Nat) {R:Rm},bb R.2 g=false->bb (om r n R).1.2 g=false
 | 0,R,h=>h
 | n+1,R,h=>by
  refine zd n (R:=(iJ r R).1) ?_
  cases hq:bb (iJ r R).1.2 g with
  | false=>rfl
  | true=>
   obtain⟨y,hy,hg⟩:=UB.mp hq
   obtain⟨x,hx,e1,_⟩:=Dw hy
   have:=dw h hx
   exact absurd (e1.trans (Us hg)) this
def Bm{wr:Bool}{g:Nat}{t:Option Int}(h:ROk R)(hb:0<=r.b)(hst:Still r R)(hw:R.1[g]?=Z .out)(hs:bb R.2 g=false)(hy:bb (aB r (R.1,R.2++[eK wr g t])).1.2 g=true) :
  aB r (R.1,R.2++[eK wr g t])=((R.1,R.2++[eK wr g t]),[]):=by
 have ok:=mT (wr:=wr) (t:=t) h hw hs
 cases hc:gv r (R.1,R.2++[eK wr g t]) with
 | none=>exact jN hc ok hb _
 | some v=>
  exfalso
  obtain⟨n0,r0⟩:=hst.next
  unfold gv at hc
  split at hc
  ·rename_i g' hf
   have hm:=List.mem_of_find?_eq_some hf
   have hr:R.1[g']?=Z .rising:=by
    unfold mH at hm
    obtain⟨q,hq,rfl⟩:=Uz.mp hm
    obtain⟨q1,q2⟩:=UL.mp hq
    have:=Wq.mp q1
    dsimp only at this
    rw [this,Us q2]
   have hg:g'≠g:=λz=>by rw [z,hw] at hr;cases hr
   have h1:=List.find?_some hf
   rw [pW (R:=R) (e:=eK wr g t) hg,r0 g' hr] at h1
   cases h1
  ·obtain⟨g',hn,hv⟩:=WK.mp hc
   have hg:g'=g:=IJ (e:=eK wr g t) hs n0 hn
   subst hg
   have hc':gv r (R.1,R.2++[eK wr g' t])=Z ⟨"in",g'⟩:=by
    unfold gv
    rename_i hf
    rw [hf,hn];rfl
   have s:=kj ok hb
   rw [hc'] at s
   obtain⟨i,e,e1,e2,e3⟩:=LV s rfl
   have gone:bb (iJ r (R.1,R.2++[eK wr g' t])).1.2 g'=false:=by
    rw [e3]
    cases hq:bb (pO r (R.1,R.2++[eK wr g' t]) i e).2 g' with
    | false=>rfl
    | true=>
     obtain⟨y,hy,hg⟩:=UB.mp hq
     have:=(Ep (r:=r) ok e2).out y hy
     rw [Us hg] at this
     have h2:(pO r (R.1,R.2++[eK wr g' t]) i e).1[g']?=Z (if e.wr then .writes else .reads):=by
      show (R.1.set e.g _)[g']?=_
      rw [e1,UP (Uj.mp hw).1]
     rw [h2] at this
     split at this <;> cases this
   have n1:1<=2 * R.1.length:=by have:=(Uj.mp hw).1;omega
   obtain⟨m,hm⟩:∃ m,2 * R.1.length=m+1:=⟨2 * R.1.length - 1,by omega⟩
   have:bb (aB r (R.1,R.2++[eK wr g' t])).1.2 g'=false:=by
    unfold aB
    show bb (om r (2 * R.1.length) _).1.2 g'=false
    rw [hm]
    exact zd m gone
   rw [this] at hy
   cases hy
def CY{d:Dd}{x:Rm×List Ev}(h:ROk R)(hb:0<=r.b)(hst:Still r R)(hx:du r R d=Z x):Still r x.1:=by
 unfold du at hx
 split at hx
 ·cases hx
 rename_i hc
 have hc:dP R d=true:=by simpa using hc
 cases d with
 | tick=>
  cases hx
  exact jB (R:=(R.1,_)) (ROk.filter (ROk.mapE h fT λe=>rfl) _) hb
 | ask wr g t=>
  cases hx
  simp only [dP,Uk,Vi,Bool.not_eq_true'] at hc
  have ok:=mT (wr:=wr) (t:=t) h hc.1 hc.2
  have st:=jB ok hb
  unfold qT
  dsimp only
  split
  ·exact st
  ·rename_i hy
   split
   ·have e:=Bm (t:=t) h hb hst hc.1 hc.2 (by simpa using hy)
    rw [e]
    have:(R.2++[eK wr g t]).filter (λe=>decide (e.g≠g))=R.2:=by
     rw [WZ,Vn.mpr (λe he=>Uo (dw hc.2 he))]
     rw [UQ,if_neg (by simp [eK])]
     simp
    show Still r (R.1,(R.2++[eK wr g t]).filter λe=>decide (e.g≠g))
    rw [this];exact hst
   ·exact st
 | act k g=>
  dsimp only at hx
  split at hx
  ·cases hx;exact hst
  ·split at hx
   ·cases hx
    exact jB (pq h _) hb
   ·cases hx
end
def nq(g:Nat)(l:List Ev):List Str:=(l.filter λe=>decide (e.g=g)).map (·.w)
def mO{g:Nat}{a b:List Ev}:nq g (a++b)=nq g a++nq g b:=by unfold nq;rw [WZ,Vl]
def dD{g h:Nat}{w:Str}:nq g [⟨w,h⟩]=if h=g then [w] else []:=by
 unfold nq
 rw [UQ]
 split
 ·rename_i z;rw [if_pos (Us z)];rfl
 ·rename_i z;rw [if_neg (λq=>z (Uo q))];rfl
section
variable{r:Rl}{R:Rm}
inductive Tl(R R':Rm)(l:List Ev)(g:Nat):Prop
 | no (h:nq g l=[]) (e:R'.1[g]?=R.1[g]?):Tl R R' l g
 | go (h:nq g l=[LB]) (e:R.1[g]?=Z .out) (s:bb R.2 g=true) (wr:Bool) (e':R'.1[g]?=Z (goW wr)):Tl R R' l g
 | up (h:nq g l=[il]) (e:R.1[g]?=Z .rising) (e':R'.1[g]?=Z .raised):Tl R R' l g
def Qr(h:ROk R)(g:Nat):Tl R (iJ r R).1 (iJ r R).2 g:=by
 unfold iJ
 split
 ·rename_i g' l hg
  have hr:R.1[g']?=Z .rising:=oe (by rw [hg];exact Ul)
  by_cases z:g'=g
  ·subst z
   exact .up (by rw [dD,if_pos rfl];rfl) hr (by show (R.1.set g' .raised)[g']?=_;rw [UP (Uj.mp hr).1])
  ·exact .no (by rw [dD,if_neg z]) (UT z)
 ·split
  ·split
   ·rename_i e he
    have hm:=UH he
    by_cases z:e.g=g
    ·subst z
     exact .go (by rw [dD,if_pos rfl];rfl) (h.out e hm) (UB.mpr ⟨e,hm,by simp⟩) e.wr (by show (R.1.set e.g _)[e.g]?=_;rw [UP (h.lt hm)];rfl)
    ·exact .no (by rw [dD,if_neg z]) (UT z)
   ·exact .no rfl rfl
  ·exact .no rfl rfl
theorem wS:∀ (n:Nat) {R:Rm},ROk R->∀ g,Tl R (om r n R).1 (om r n R).2 g
 | 0,R,_,g=>.no rfl rfl
 | n+1,R,h,g=>by
  have a:=Qr (r:=r) h g
  have b:=wS n (rK (r:=r) h).1 g
  have ev:nq g (om r (n+1) R).2=nq g (iJ r R).2++nq g (om r n (iJ r R).1).2:=mO
  have wd:(om r (n+1) R).1=(om r n (iJ r R).1).1:=rfl
  cases a with
  | no a1 a2=>
   cases b with
   | no b1 b2=>exact .no (by rw [ev,a1,b1];rfl) (by rw [wd,b2,a2])
   | go b1 b2 b3 wr b4=>
    refine .go (by rw [ev,a1,b1];rfl) (by rw [<- a2];exact b2) ?_ wr (by rw [wd];exact b4)
    obtain⟨y,hy,hg⟩:=UB.mp b3
    obtain⟨x,hx,e1,_⟩:=Dw hy
    exact UB.mpr ⟨x,hx,Uo (e1.trans (Us hg))⟩
   | up b1 b2 b3=>exact .up (by rw [ev,a1,b1];rfl) (by rw [<- a2];exact b2) (by rw [wd];exact b3)
  | go a1 a2 a3 wr a4=>
   cases b with
   | no b1 b2=>exact .go (by rw [ev,a1,b1];rfl) a2 a3 wr (by rw [wd,b2];exact a4)
   | go b1 b2 b3 wr' b4=>rw [a4] at b2;cases wr <;> cases b2
   | up b1 b2 b3=>rw [a4] at b2;cases wr <;> cases b2
  | up a1 a2 a3=>
   cases b with
   | no b1 b2=>exact .up (by rw [ev,a1,b1];rfl) a2 (by rw [wd,b2];exact a3)
   | go b1 b2 b3 wr' b4=>rw [a3] at b2;cases b2
   | up b1 b2 b3=>rw [a3] at b2;cases b2
structure Tk(w w':Wd)(ws:List Str):Prop where
 one:ws.length<=1
 i:decide (LB∈ws)=(decide (w=.out) && !decide (w'=.out))
 o:decide ((("out":Str))∈ws)=(!decide (w=.out)&&decide (w'=.out))
 s:decide (il∈ws)=(!decide (w=.raised)&&decide (w'=.raised))
def nM{a b:Str}:decide (a∈[b])=(a == b):=by
 rw [UK,Wu,beq_iff_eq,UN]
def wM{w w':Wd}(h1:(decide (w=.out) && !decide (w'=.out))=false)(h2:(!decide (w=.out)&&decide (w'=.out))=false)(h3:(!decide (w=.raised)&&decide (w'=.raised))=false):Tk w w' []:=
 ⟨Wt _,by rw [h1];simp,by rw [h2];simp,by rw [h3];simp⟩
def jt(w:Wd):Tk w w []:=wM (by cases w <;> rfl) (by cases w <;> rfl) (by cases w <;> rfl)
def kH{w w':Wd}{a:Str}(ha:(LB == a)=false)(hb:(("out":Str) == a)=false)(hc:(il == a)=false)(k:Tk w w' []):Tk w w' [a]:=
 ⟨Uw _,by rw [nM,ha,<- k.i];simp,by rw [nM,hb,<- k.o];simp,by rw [nM,hc,<- k.s];simp⟩
def Tl.tk{R':Rm}{l:List Ev}{g:Nat}{w:Wd}(t:Tl R R' l g)(hw:R.1[g]?=Z w):∃ w',R'.1[g]?=Z w'/\Tk w w' (nq g l):=by
 cases t with
 | no a b=>exact⟨w,by rw [b];exact hw,by rw [a];exact jt w⟩
 | go a b s wr c=>
  refine⟨_,c,?_⟩
  have:w=.out:=by rw [hw] at b;exact Uu b
  subst this
  rw [a]
  exact⟨Uw _,by rw [nM];cases wr <;> decide +kernel,by rw [nM];cases wr <;> decide +kernel,by rw [nM];cases wr <;> decide +kernel⟩
 | up a b c=>
  refine⟨_,c,?_⟩
  have:w=.rising:=by rw [hw] at b;exact Uu b
  subst this
  rw [a]
  exact⟨Uw _,by rw [nM];decide +kernel,by rw [nM];decide +kernel,by rw [nM];decide +kernel⟩
theorem AS{g:Nat}:∀ es:List En,(es.map (·.g)).Nodup->nq g (es.map λe=>⟨"ends",e.g⟩)=if bb es g=true then [("ends":Str)] else []
 | [],_=>rfl
 | e::es,hn=>by
  rw [Uy,Vy] at hn
  have ih:=AS (g:=g) es hn.2
  rw [Uy,show (⟨"ends",e.g⟩:Ev)::es.map (λe=>(⟨"ends",e.g⟩:Ev))=[⟨"ends",e.g⟩]++es.map (λe=>⟨"ends",e.g⟩) from rfl,mO,dD,ih]
  by_cases z:e.g=g
  ·have hs:bb es g=false:=by
    cases q:bb es g with
    | false=>rfl
    | true=>
     obtain⟨y,hy,hg⟩:=UB.mp q
     exact absurd (Uz.mpr ⟨y,hy,(Us hg).trans z.symm⟩) hn.1
   rw [if_pos z,hs,if_neg Bool.false_ne_true,if_pos (by show (decide (e.g=g)||bb es g)=true;rw [Uo z];rfl)];rfl
  ·rw [if_neg z]
   have:bb (e::es) g=bb es g:=by show (decide (e.g=g)||bb es g)=_;rw [Ut z];rfl
   rw [this];rfl
def Oh{d:Dd}{x:Rm×List Ev}{g:Nat}{w:Wd}(h:ROk R)(hb:0<=r.b)(hst:Still r R)(hw:R.1[g]?=Z w)(hx:du r R d=Z x):∃ w',x.1.1[g]?=Z w'/\Tk w w' (nq g x.2):=by
 have ne1:(LB == ("ends":Str))=false/\(("out":Str) == ("ends":Str))=false/\(il == ("ends":Str))=false:=by decide +kernel
 have ne2:(LB == ("no":Str))=false/\(("out":Str) == ("no":Str))=false/\(il == ("no":Str))=false:=by decide +kernel
 have ne3:(LB == ("waits":Str))=false/\(("out":Str) == ("waits":Str))=false/\(il == ("waits":Str))=false:=by decide +kernel
 have ne4:(LB == ("down":Str))=false/\(("out":Str) == ("down":Str))=false/\(il == ("down":Str))=false:=by decide +kernel
 unfold du at hx
 split at hx
 ·cases hx
 rename_i hc
 have hc:dP R d=true:=by simpa using hc
 cases d with
 | tick=>
  cases hx
  let es:=(R.2.map fT).filter λe=>decide (e.t=Z 0)
  let fs:=(R.2.map fT).filter λe=>decide (e.t≠Z 0)
  have okd:ROk (R.1,R.2.map fT):=ROk.mapE h fT λe=>rfl
  have okf:ROk (R.1,fs):=ROk.filter okd _
  have t:=wS (r:=r) (2 * R.1.length) okf g
  have ee:=AS (g:=g) es (Yu (List.Sublist.map _ Yl) okd.nd)
  have ev:nq g (rG r R).2=nq g (es.map λe=>⟨"ends",e.g⟩)++nq g (aB r (R.1,fs)).2:=mO
  show ∃ w',(aB r (R.1,fs)).1.1[g]?=Z w'/\Tk w w' (nq g (rG r R).2)
  rw [ev,ee]
  by_cases hs:bb es g=true
  ·rw [if_pos hs]
   obtain⟨y,hy,hg⟩:=UB.mp hs
   have hg:=Us hg
   obtain⟨y1,y2⟩:=UL.mp hy
   have hout:R.1[g]?=Z .out:=by have:=okd.out y y1;rw [hg] at this;exact this
   have:w=.out:=by rw [hw] at hout;exact Uu hout
   subst this
   have hno:bb fs g=false:=by
    cases q:bb fs g with
    | false=>rfl
    | true=>
     obtain⟨z,hz,hg'⟩:=UB.mp q
     obtain⟨z1,z2⟩:=UL.mp hz
     have f1:=yr okd.nd y1
     have f2:=yr okd.nd z1
     rw [hg] at f1
     rw [Us hg'] at f2
     rw [f1] at f2
     have:=Uu f2
     subst this
     exact absurd (Us y2) (Us z2)
   have t':Tl (R.1,fs) (aB r (R.1,fs)).1 (aB r (R.1,fs)).2 g:=t
   cases t' with
   | no a b=>exact⟨.out,by rw [b];exact hw,by rw [a];exact kH ne1.1 ne1.2.1 ne1.2.2 (jt _)⟩
   | go a b s wr c=>rw [show bb (R.1,fs).2 g=false from hno] at s;cases s
   | up a b c=>rw [show (R.1,fs).1[g]?=Z .out from hw] at b;cases b
  ·rw [if_neg hs,Vz]
   exact Tl.tk (R:=(R.1,fs)) t hw
 | ask wr g' t=>
  cases hx
  simp only [dP,Uk,Vi,Bool.not_eq_true'] at hc
  have ok:=mT (wr:=wr) (t:=t) h hc.1 hc.2
  have tl:Tl (R.1,R.2++[eK wr g' t]) (aB r (R.1,R.2++[eK wr g' t])).1 (aB r (R.1,R.2++[eK wr g' t])).2 g:=wS (r:=r) (2 * R.1.length) ok g
  unfold qT
  dsimp only
  split
  ·exact tl.tk hw
  ·rename_i hy
   have e:=Bm (t:=t) h hb hst hc.1 hc.2 (by simpa using hy)
   split
   ·rw [e]
    refine⟨w,hw,?_⟩
    show Tk w w (nq g ([]++[⟨"no",g'⟩]))
    rw [Vz,dD]
    split
    ·exact kH ne2.1 ne2.2.1 ne2.2.2 (jt _)
    ·exact jt _
   ·rw [e]
    refine⟨w,hw,?_⟩
    show Tk w w (nq g ([]++[⟨"waits",g'⟩]))
    rw [Vz,dD]
    split
    ·exact kH ne3.1 ne3.2.1 ne3.2.2 (jt _)
    ·exact jt _
 | act k g'=>
  dsimp only at hx
  split at hx
  ·cases hx
   refine⟨w,hw,?_⟩
   rw [dD]
   split
   ·exact kH ne2.1 ne2.2.1 ne2.2.2 (jt _)
   ·exact jt _
  rename_i hup
  split at hx
  ·rename_i v hv
   cases hx
   have ok:=pq (r:=r) (k:=k) (w:=v) (g:=g') h (bY k v)
   have hlt:=(Uj.mp hv).1
   have tl:Tl (R.1.set g' (bY k v),gj r k v g' R.2) (aB r (R.1.set g' (bY k v),gj r k v g' R.2)).1 (aB r (R.1.set g' (bY k v),gj r k v g' R.2)).2 g:=wS (r:=r) _ ok g
   show ∃ w',(aB r (R.1.set g' (bY k v),gj r k v g' R.2)).1.1[g]?=Z w'/\Tk w w' (nq g (lM k g'++(aB r (R.1.set g' (bY k v),gj r k v g' R.2)).2++(if (aB r (R.1.set g' (bY k v),gj r k v g' R.2)).1.1[g']?=Z .rising then [⟨"waits",g'⟩] else [])))
   generalize aB r (R.1.set g' (bY k v),gj r k v g' R.2)=X at tl ⊢
   rw [mO,mO]
   by_cases z:g'=g
   ·subst z
    have hwv:v=w:=by rw [hw] at hv;exact(Uu hv).symm
    subst hwv
    have h0:(R.1.set g' (bY k v),gj r k v g' R.2).1[g']?=Z (bY k v):=UP hlt
    have hno:bb (gj r k v g' R.2) g'=false:=by
     cases q:bb (gj r k v g' R.2) g' with
     | false=>rfl
     | true=>
      obtain⟨y,hy,hg⟩:=UB.mp q
      exact absurd (Us hg) (Us (UL.mp hy).2)
    cases k with
    | up=>
     have hr:v=.reads:=by
      have:R.1[g']?=Z .reads:=Us hc
      rw [hv] at this;exact Uu this
     subst hr
     cases tl with
     | no a b=>
      have hX:X.1.1[g']?=Z .rising:=by rw [b];exact h0
      refine⟨.rising,hX,?_⟩
      rw [if_pos hX,a,dD,if_pos rfl]
      exact kH ne3.1 ne3.2.1 ne3.2.2 (wM rfl rfl rfl)
     | go a b s wr c=>rw [show bb (R.1.set g' (bY .up .reads),gj r .up .reads g' R.2).2 g'=false from hno] at s;cases s
     | up a b c=>
      refine⟨.raised,c,?_⟩
      rw [if_neg (by rw [c];exact λz=>by cases z),a]
      exact⟨Uw _,by show decide (LB∈[il])=_;rw [nM];decide +kernel,by show decide (("out":Str)∈[il])=_;rw [nM];decide +kernel,by show decide (il∈[il])=_;rw [nM];decide +kernel⟩
    | down=>
     have hr:v=.writes\/v=.raised:=by
      unfold dP at hc
      rw [Vp] at hc
      rcases hc with z | z
      ·have:=Us z;rw [hv] at this;exact .inl (Uu this)
      ·have:=Us z;rw [hv] at this;exact .inr (Uu this)
     cases tl with
     | no a b=>
      have hX:X.1.1[g']?=Z .reads:=by rw [b];exact h0
      refine⟨.reads,hX,?_⟩
      rw [if_neg (by rw [hX];exact λz=>by cases z),a]
      show Tk v .reads (nq g' [⟨"down",g'⟩]++[]++[])
      rw [dD,if_pos rfl]
      exact kH ne4.1 ne4.2.1 ne4.2.2 (by rcases hr with rfl | rfl <;> exact wM rfl rfl rfl)
     | go a b s wr c=>rw [show bb (R.1.set g' (bY .down v),gj r .down v g' R.2).2 g'=false from hno] at s;cases s
     | up a b c=>rw [h0] at b;cases b
    | leave=>
     have hr:v≠.out:=by
      have:R.1[g']?≠Z .out:=Us hc
      rw [hv] at this;exact λz=>this (by rw [z])
     cases tl with
     | no a b=>
      have hX:X.1.1[g']?=Z .out:=by rw [b];exact h0
      refine⟨.out,hX,?_⟩
      rw [if_neg (by rw [hX];exact λz=>by cases z),a]
      show Tk v .out (nq g' [⟨"out",g'⟩]++[]++[])
      rw [dD,if_pos rfl]
      exact⟨Uw _,by show decide (LB∈[("out":Str)])=_;rw [nM];revert hr;cases v <;> decide +kernel,by show decide (("out":Str)∈[("out":Str)])=_;rw [nM];revert hr;cases v <;> decide +kernel,by show decide (il∈[("out":Str)])=_;rw [nM];revert hr;cases v <;> decide +kernel⟩
     | go a b s wr c=>rw [show bb (R.1.set g' (bY .leave v),gj r .leave v g' R.2).2 g'=false from hno] at s;cases s
     | up a b c=>rw [h0] at b;cases b
    | stop=>
     have hv':v=.rising\/v=.out:=by
      unfold dP at hc
      rw [Vp] at hc
      rcases hc with z | z
      ·obtain⟨e,he,hg⟩:=UB.mp z
       have:=h.out e he
       rw [Us hg,hv] at this
       exact .inr (Uu this)
      ·have:=Us z;rw [hv] at this;exact .inl (Uu this)
     have ht:bY .stop v≠.rising/\Tk v (bY .stop v) []:=by rcases hv' with rfl | rfl <;> exact⟨by decide,wM rfl rfl rfl⟩
     cases tl with
     | no a b=>
      have hX:X.1.1[g']?=Z (bY .stop v):=by rw [b];exact h0
      refine⟨_,hX,?_⟩
      rw [if_neg (by rw [hX];exact λz=>ht.1 (Uu z)),a]
      show Tk v _ (nq g' [⟨"ends",g'⟩]++[]++[])
      rw [dD,if_pos rfl]
      exact kH ne1.1 ne1.2.1 ne1.2.2 ht.2
     | go a b s wr c=>rw [show bb (R.1.set g' (bY .stop v),gj r .stop v g' R.2).2 g'=false from hno] at s;cases s
     | up a b c=>rw [h0] at b;exact absurd (Uu b) ht.1
   ·have f0:nq g (lM k g')=[]:=by cases k <;> first | rfl | (show nq g [_]=_;rw [dD,if_neg z])
    have f1:nq g (if X.1.1[g']?=Z .rising then [⟨"waits",g'⟩] else [])=[]:=by
     split
     ·rw [dD,if_neg z]
     ·rfl
    rw [f0,f1,Vz,UX]
    exact tl.tk (by show (R.1.set g' _)[g]?=_;rw [UT z];exact hw)
  ·cases hx
end
end MI
section
set_option maxHeartbeats 4000000
namespace K55
open L2 MI
open M hiding mC ac ax au cH cG cM cX cy df uj fX on ag aa aX iq eM yP cb cW ca bn ir ai aR aA aJ fJ bu ah aQ af aY dS aS bq cR gt bE cC bx fH fI cr jr jV gu dM dJ eD dA cT cA fY
def eL(i:Nat):Stmt:=PySem.Challenge.pw_manyreaders_k55_whole_safe_and_full.main.body.getD i (.Pass ⟨0,0,0,0⟩)
abbrev di:Stmt:=eL 57
abbrev gC:Stmt:=eL 59
abbrev fB:Stmt:=eL 58
abbrev mr:Stmt:=eL 16
abbrev fA:Stmt:=eL 60
abbrev fz:Stmt:=eL 61
abbrev fD:Stmt:=eL 62
abbrev fv:Stmt:=eL 41
abbrev dG:Stmt:=eL 19
abbrev iK:Stmt:=eL 22
abbrev jT:Stmt:=eL 43
abbrev jP:Stmt:=eL 42
abbrev gA:Stmt:=eL 29
abbrev jS:Stmt:=eL 27
abbrev fo:Stmt:=eL 30
abbrev iO:Stmt:=eL 28
abbrev jR:Stmt:=eL 32
abbrev fj:Stmt:=eL 20
abbrev jQ:Stmt:=eL 34
abbrev ej:Stmt:=eL 33
abbrev iN:Stmt:=eL 31
abbrev dh:Stmt:=eL 21
abbrev ft:Stmt:=eL 46
abbrev gB:Stmt:=eL 47
abbrev cN:Stmt:=eL 54
abbrev jO:Stmt:=eL 53
abbrev er:Stmt:=eL 48
abbrev dH:Stmt:=eL 49
abbrev eo:Stmt:=eL 50
abbrev gy:Stmt:=eL 52
abbrev el:Stmt:=eL 51
abbrev pA:Stmt:=eL 45
abbrev dF:Stmt:=eL 4
abbrev iP:Stmt:=eL 3
abbrev gz:Stmt:=eL 1
abbrev eh:Stmt:=eL 2
abbrev iT:Stmt:=eL 40
abbrev iL:Stmt:=eL 44
abbrev eg:Stmt:=eL 17
abbrev fh:Stmt:=eL 18
abbrev fq:Stmt:=eL 13
abbrev iQ:Stmt:=eL 15
abbrev fu:Stmt:=eL 14
abbrev iS:Stmt:=eL 12
abbrev iR:Stmt:=eL 23
abbrev fC:Stmt:=eL 63
abbrev fx:Stmt:=eL 64
abbrev vd:Stmt:=eL 65
def tZ:List (bC×D):=[(.inr "rows",.non),(.inr "readers",(.str "read")),(.inr "writers",(.str "write")),(.inr "turns",(.str "write"))]
def cV:D:=(.int 9)
def eY:D:=(.int 999)
def eR:D:=(.tup [(.str "up"),(.str "down"),(.str "leave"),(.str "stop")])
def eX:D:=(.tup [(.str "reads"),(.str "rising")])
def eW:D:=(.tup [(.str "read"),(.str "write")])
def cf:D:=(.tup [(.str "out"),(.str "reads"),(.str "rising"),(.str "writes"),(.str "raised")])
def nG:List (bC×D):=[(.inr "read",(.str "reads")),(.inr "write",(.str "writes"))]
def bV:D:=(.tup [(.str "writes"),(.str "raised")])
structure iB(w:World)(K:W.Frag)(mg:Str->Option Value):Prop where
 d__law_cell_at:bB K mg "_law_cell_at" di
 d__law_far:bB K mg "_law_far" gC
 d__law_left:bB K mg "_law_left" fB
 d_empty:bB K mg "empty" mr
 d__law_pick:bB K mg "_law_pick" fA
 d__law_rule:bB K mg "_law_rule" fz
 d__law_deed:bB K mg "_law_deed" fD
 d_all_deeds:bB K mg "all_deeds" fv
 d_guests_with:bB K mg "guests_with" dG
 d_waiting:bB K mg "waiting" iK
 d_can_do:bB K mg "can_do" jT
 d_may_do:bB K mg "may_do" jP
 d_foremost:bB K mg "foremost" gA
 d_can_go:bB K mg "can_go" jS
 d_next_past:bB K mg "next_past" fo
 d_next_in:bB K mg "next_in" iO
 d_coming:bB K mg "coming" jR
 d_with_word:bB K mg "with_word" fj
 d_let_in:bB K mg "let_in" jQ
 d_brought_by:bB K mg "brought_by" ej
 d_settled:bB K mg "settled" iN
 d_without_wait:bB K mg "without_wait" dh
 d_bring_ask:bB K mg "bring_ask" ft
 d_bring_up:bB K mg "bring_up" gB
 d_settled_behind:bB K mg "settled_behind" cN
 d_turned:bB K mg "turned" jO
 d_bring_down:bB K mg "bring_down" er
 d_bring_leave:bB K mg "bring_leave" dH
 d_bring_stop:bB K mg "bring_stop" eo
 d_one_less:bB K mg "one_less" gy
 d_bring_tick:bB K mg "bring_tick" el
 d_done:bB K mg "done" pA
 d_is_tuple_of:bB K mg "is_tuple_of" dF
 d_is_word:bB K mg "is_word" iP
 d_is_whole:bB K mg "is_whole" gz
 d_is_between:bB K mg "is_between" eh
 d_is_deed:bB K mg "is_deed" iT
 d_stepped:bB K mg "stepped" iL
 d_readers_in:bB K mg "readers_in" eg
 d_writer_in:bB K mg "writer_in" fh
 d_is_within:bB K mg "is_within" fq
 d_is_wait:bB K mg "is_wait" iQ
 d_are_waits:bB K mg "are_waits" fu
 d_is_room:bB K mg "is_room" iS
 d_is_safe:bB K mg "is_safe" iR
 d__law_kept:bB K mg "_law_kept" fC
 d__law_told:bB K mg "_law_told" fx
 d_law:bB K mg "law" vd
 z_all:mg "all" = U
 z_any:mg "any" = U
 z_bool:mg "bool" = U
 z_enumerate:mg "enumerate" = U
 z_int:mg "int" = U
 z_isinstance:mg "isinstance" = U
 z_len:mg "len" = U
 z_max:mg "max" = U
 z_min:mg "min" = U
 z_range:mg "range" = U
 z_set:mg "set" = U
 z_str:mg "str" = U
 z_tuple:mg "tuple" = U
 g_BRINGS:FNm w K mg "BRINGS" [("read","bring_ask"),("write","bring_ask"),("up","bring_up"),("down","bring_down"),("leave","bring_leave"),("stop","bring_stop"),("tick","bring_tick")]
 g_FAVOURED:ue w K mg "FAVOURED" tZ
 g_GREATEST_LEFT:GC K mg "GREATEST_LEFT" cV
 g_GREATEST_MARK:GC K mg "GREATEST_MARK" eY
 g_GUEST_WORDS:GC K mg "GUEST_WORDS" eR
 g_READING_WORDS:GC K mg "READING_WORDS" eX
 g_WANTS:GC K mg "WANTS" eW
 g_WITHIN_WORDS:GC K mg "WITHIN_WORDS" cf
 g_WORD_WITHIN:ue w K mg "WORD_WITHIN" nG
 g_WRITING_WORDS:GC K mg "WRITING_WORDS" bV
section
variable{P:Program}{w:World}{K:W.Frag}{mg:Str->Option Value}{base:Heap}
def dZ:List Str:=["_law_script","_law_k"]
def lK:List (Str×GI):=[("len",.blt)]
def dW:=aO dZ (gN (iA dZ di lK []) (aF di)) 2
def qK:aM dZ ["_law_script","_law_k"] (ar di):=by ac_rfl
def qL(T:iB w K mg):Fn P w K mg base 1 "_law_cell_at" 2 dW:=
 bp T.d__law_cell_at qK (λ_ _ _ _ _ _=>cD λ_=>cD λ_=>iZ rfl) (GKs.mem (gs:=lK) ⟨T.z_len,trivial⟩)
def jq:List Str:=["_law_far_here","_law_k"]
def tE:List (Str×GI):=[("range",.blt)]
def jh:=aO jq (gN (iA jq gC tE []) (aF gC)) 0
def zi:aM jq [] (ar gC):=by ac_rfl
def zv(T:iB w K mg):Fn P w K mg base 1 "_law_far" 0 jh:=
 bp T.d__law_far zi (λ_ _ _ _ _ _=>iZ rfl) (GKs.mem (gs:=tE) ⟨T.z_range,trivial⟩)
def ig:List Str:=["_law_script","_law_k","_law_cell","_law_seed"]
def qB:List (Str×GI):=[("_law_cell_at",.fn 2 dW),("max",.blt),("_law_far",.fn 0 jh),("len",.blt)]
def fP:=aO ig (gN (iA ig fB qB [228]) (aF fB)) 2
def xh:aM ig ["_law_script","_law_k"] (ar fB):=by ac_rfl
def xF(T:iB w K mg):Fn P w K mg base 2 "_law_left" 2 fP:=
 bp T.d__law_left xh (λ_ _ _ _ _ _=>cD λ_=>cD λ_=>iZ rfl) (GKs.mem (gs:=qB) ⟨(qL T).up (by decide),T.z_max,(zv T).up (by decide),T.z_len,trivial⟩)
def pv:List Str:=["n"]
def Er:List (Str×GI):=[]
def mL:=aO pv (gN (iA pv mr Er []) (aF mr)) 1
def HZ:aM pv ["n"] (ar mr):=by ac_rfl
def IF(T:iB w K mg):Fn P w K mg base 1 "empty" 1 mL:=
 bp T.d_empty HZ (λ_ _ _ _ _ _=>cD λ_=>iZ rfl) (GKs.mem (gs:=Er) trivial)
def jA:List Str:=["_law_left_here","_law_many","_law_digit"]
def qA:List (Str×GI):=[]
def cB:=aO jA (gN (iA jA fA qA []) (aF fA)) 2
def xf:aM jA ["_law_left_here","_law_many"] (ar fA):=by ac_rfl
def kP(T:iB w K mg):Fn P w K mg base 1 "_law_pick" 2 cB:=
 bp T.d__law_pick xf (λ_ _ _ _ _ _=>cD λ_=>cD λ_=>iZ rfl) (GKs.mem (gs:=qA) trivial)
def ie:List Str:=["_law_left_here","_law_word","_law_most","_law_times"]
def qz:List (Str×GI):=[("_law_pick",.fn 2 cB),("int",.blt)]
def fO:=aO ie (gN (iA ie fz qz []) (aF fz)) 1
def xc:aM ie ["_law_left_here"] (ar fz):=by ac_rfl
def xE(T:iB w K mg):Fn P w K mg base 2 "_law_rule" 1 fO:=
 bp T.d__law_rule xc (λ_ _ _ _ _ _=>cD λ_=>iZ rfl) (GKs.mem (gs:=qz) ⟨(kP T).up (by decide),T.z_int,trivial⟩)
def ij:List Str:=["_law_left_here","_law_n","_law_guest","_law_way"]
def qD:List (Str×GI):=[("_law_pick",.fn 2 cB)]
def fR:=aO ij (gN (iA ij fD qD []) (aF fD)) 2
def xj:aM ij ["_law_left_here","_law_n"] (ar fD):=by ac_rfl
def xH(T:iB w K mg):Fn P w K mg base 2 "_law_deed" 2 fR:=
 bp T.d__law_deed xj (λ_ _ _ _ _ _=>cD λ_=>cD λ_=>iZ rfl) (GKs.mem (gs:=qD) ⟨(kP T).up (by decide),trivial⟩)
def ib:List Str:=["n","asks"]
def qx:List (Str×GI):=[("tuple",.blt),("WANTS",.con eW),("range",.blt),("GUEST_WORDS",.con eR)]
def fM:=aO ib (gN (iA ib fv qx []) (aF fv)) 1
def xa:aM ib ["n"] (ar fv):=by ac_rfl
def xC(T:iB w K mg):Fn P w K mg base 1 "all_deeds" 1 fM:=
 bp T.d_all_deeds xa (λ_ _ _ _ _ _=>cD λ_=>iZ rfl) (GKs.mem (gs:=qx) ⟨T.z_tuple,T.g_WANTS,T.z_range,T.g_GUEST_WORDS,trivial⟩)
def eS:List Str:=["room","words"]
def nB:List (Str×GI):=[("tuple",.blt),("enumerate",.blt)]
def aZ:=aO eS (gN (iA eS dG nB []) (aF dG)) 2
def rN:aM eS ["room","words"] (ar dG):=by ac_rfl
def dj(T:iB w K mg):Fn P w K mg base 1 "guests_with" 2 aZ:=
 bp T.d_guests_with rN (λ_ _ _ _ _ _=>cD λ_=>cD λ_=>iZ rfl) (GKs.mem (gs:=nB) ⟨T.z_tuple,T.z_enumerate,trivial⟩)
def iX:List Str:=["room","guest","entry"]
def vU:List (Str×GI):=[("guests_with",.fn 2 aZ)]
def bw:=aO iX (gN (iA iX iK vU []) (aF iK)) 2
def BD:aM iX ["room","guest"] (ar iK):=by ac_rfl
def gE(T:iB w K mg):Fn P w K mg base 2 "waiting" 2 bw:=
 bp T.d_waiting BD (λ_ _ _ _ _ _=>cD λ_=>cD λ_=>iZ rfl) (GKs.mem (gs:=vU) ⟨(dj T).up (by decide),trivial⟩)
def jo:List Str:=["room","deed","word","guest","within"]
def AC:List (Str×GI):=[("WRITING_WORDS",.con bV),("waiting",.fn 2 bw)]
def eN:=aO jo (gN (iA jo jT AC []) (aF jT)) 2
def Ff:aM jo ["room","deed"] (ar jT):=by ac_rfl
def vn(T:iB w K mg):Fn P w K mg base 3 "can_do" 2 eN:=
 bp T.d_can_do Ff (λ_ _ _ _ _ _=>cD λ_=>cD λ_=>iZ rfl) (GKs.mem (gs:=AC) ⟨T.g_WRITING_WORDS,(gE T).up (by decide),trivial⟩)
def mj:List Str:=["n","room"]
def Ay:List (Str×GI):=[("tuple",.blt),("all_deeds",.fn 1 fM),("can_do",.fn 2 eN)]
def ke:=aO mj (gN (iA mj jP Ay []) (aF jP)) 2
def Fb:aM mj ["n","room"] (ar jP):=by ac_rfl
def Fs(T:iB w K mg):Fn P w K mg base 4 "may_do" 2 ke:=
 bp T.d_may_do Fb (λ_ _ _ _ _ _=>cD λ_=>cD λ_=>iZ rfl) (GKs.mem (gs:=Ay) ⟨T.z_tuple,(xC T).up (by decide),(vn T).up (by decide),trivial⟩)
def jn:List Str:=["word","waits","turned","favoured","ranked"]
def tB:List (Str×GI):=[("FAVOURED",.tab tZ)]
def kZ:=aO jn (gN (iA jn gA tB []) (aF gA)) 2
def zg:aM jn ["word","waits"] (ar gA):=by ac_rfl
def zt(T:iB w K mg):Fn P w K mg base 1 "foremost" 2 kZ:=
 bp T.d_foremost zg (λ_ _ _ _ _ _=>cD λ_=>cD λ_=>iZ rfl) (GKs.mem (gs:=tB) ⟨T.g_FAVOURED,trivial⟩)
def kA:List Str:=["rule","room","guest","want","beside","most"]
def AB:List (Str×GI):=[("waiting",.fn 2 bw),("all",.blt),("enumerate",.blt),("len",.blt)]
def dk:=aO kA (gN (iA kA jS AB []) (aF jS)) 3
def Fe:aM kA ["rule","room","guest"] (ar jS):=by ac_rfl
def mx(T:iB w K mg):Fn P w K mg base 3 "can_go" 3 dk:=
 bp T.d_can_go Fe (λ_ _ _ _ _ _=>cD λ_=>cD λ_=>cD λ_=>iZ rfl) (GKs.mem (gs:=AB) ⟨(gE T).up (by decide),T.z_all,T.z_enumerate,T.z_len,trivial⟩)
def hU:List Str:=["rule","room","guest","want","mark","left"]
def qt:List (Str×GI):=[("can_go",.fn 3 dk)]
def jv:=aO hU (gN (iA hU fo qt []) (aF fo)) 2
def wW:aM hU ["rule","room"] (ar fo):=by ac_rfl
def xz(T:iB w K mg):Fn P w K mg base 4 "next_past" 2 jv:=
 bp T.d_next_past wW (λ_ _ _ _ _ _=>cD λ_=>cD λ_=>iZ rfl) (GKs.mem (gs:=qt) ⟨(mx T).up (by decide),trivial⟩)
def kr:List Str:=["rule","room","guest"]
def vX:List (Str×GI):=[("foremost",.fn 2 kZ),("next_past",.fn 2 jv),("can_go",.fn 3 dk)]
def eC:=aO kr (gN (iA kr iO vX []) (aF iO)) 2
def BG:aM kr ["rule","room"] (ar iO):=by ac_rfl
def rY(T:iB w K mg):Fn P w K mg base 5 "next_in" 2 eC:=
 bp T.d_next_in BG (λ_ _ _ _ _ _=>cD λ_=>cD λ_=>iZ rfl) (GKs.mem (gs:=vX) ⟨(zt T).up (by decide),(xz T).up (by decide),(mx T).up (by decide),trivial⟩)
def mq:List Str:=["rule","room","guest"]
def AA:List (Str×GI):=[("guests_with",.fn 2 aZ),("next_in",.fn 2 eC),("can_go",.fn 3 dk)]
def kf:=aO mq (gN (iA mq jR AA []) (aF jR)) 2
def Fd:aM mq ["rule","room"] (ar jR):=by ac_rfl
def Fu(T:iB w K mg):Fn P w K mg base 6 "coming" 2 kf:=
 bp T.d_coming Fd (λ_ _ _ _ _ _=>cD λ_=>cD λ_=>iZ rfl) (GKs.mem (gs:=AA) ⟨(dj T).up (by decide),(rY T).up (by decide),(mx T).up (by decide),trivial⟩)
def hJ:List Str:=["room","guest","word","within","waits"]
def qr:List (Str×GI):=[]
def bt:=aO hJ (gN (iA hJ fj qr []) (aF fj)) 3
def wV:aM hJ ["room","guest","word"] (ar fj):=by ac_rfl
def ez(T:iB w K mg):Fn P w K mg base 1 "with_word" 3 bt:=
 bp T.d_with_word wV (λ_ _ _ _ _ _=>cD λ_=>cD λ_=>cD λ_=>iZ rfl) (GKs.mem (gs:=qr) trivial)
def mn:List Str:=["rule","room","guest","within","waits","place","ahead"]
def Az:List (Str×GI):=[("with_word",.fn 3 bt),("tuple",.blt),("WORD_WITHIN",.tab nG)]
def pf:=aO mn (gN (iA mn jQ Az []) (aF jQ)) 3
def Fc:aM mn ["rule","room","guest"] (ar jQ):=by ac_rfl
def Ft(T:iB w K mg):Fn P w K mg base 2 "let_in" 3 pf:=
 bp T.d_let_in Fc (λ_ _ _ _ _ _=>cD λ_=>cD λ_=>cD λ_=>iZ rfl) (GKs.mem (gs:=Az) ⟨(ez T).up (by decide),T.z_tuple,T.g_WORD_WITHIN,trivial⟩)
def gm:List Str:=["rule","room","event","word","guest"]
def oY:List (Str×GI):=[("let_in",.fn 3 pf),("with_word",.fn 3 bt)]
def gf:=aO gm (gN (iA gm ej oY []) (aF ej)) 3
def uq:aM gm ["rule","room","event"] (ar ej):=by ac_rfl
def ux(T:iB w K mg):Fn P w K mg base 3 "brought_by" 3 gf:=
 bp T.d_brought_by uq (λ_ _ _ _ _ _=>cD λ_=>cD λ_=>cD λ_=>iZ rfl) (GKs.mem (gs:=oY) ⟨(Ft T).up (by decide),(ez T).up (by decide),trivial⟩)
def kq:List Str:=["rule","room","events","event"]
def vW:List (Str×GI):=[("coming",.fn 2 kf),("brought_by",.fn 3 gf),("tuple",.blt)]
def bS:=aO kq (gN (iA kq iN vW [100]) (aF iN)) 2
def BF:aM kq ["rule","room"] (ar iN):=by ac_rfl
def kO(T:iB w K mg):Fn P w K mg base 7 "settled" 2 bS:=
 bp T.d_settled BF (λ_ _ _ _ _ _=>cD λ_=>cD λ_=>iZ rfl) (GKs.mem (gs:=vW) ⟨(Fu T).up (by decide),(ux T).up (by decide),T.z_tuple,trivial⟩)
def dY:List Str:=["room","guest","within","waits"]
def lJ:List (Str×GI):=[("tuple",.blt)]
def ce:=aO dY (gN (iA dY dh lJ []) (aF dh)) 2
def qJ:aM dY ["room","guest"] (ar dh):=by ac_rfl
def lg(T:iB w K mg):Fn P w K mg base 1 "without_wait" 2 ce:=
 bp T.d_without_wait qJ (λ_ _ _ _ _ _=>cD λ_=>cD λ_=>iZ rfl) (GKs.mem (gs:=lJ) ⟨T.z_tuple,trivial⟩)
def hZ:List Str:=["rule","room","deed","want","guest","left","within","waits","entry","events"]
def qv:List (Str×GI):=[("settled",.fn 2 bS),("waiting",.fn 2 bw),("without_wait",.fn 2 ce)]
def fL:=aO hZ (gN (iA hZ ft qv []) (aF ft)) 3
def wY:aM hZ ["rule","room","deed"] (ar ft):=by ac_rfl
def oD(T:iB w K mg):Fn P w K mg base 8 "bring_ask" 3 fL:=
 bp T.d_bring_ask wY (λ_ _ _ _ _ _=>cD λ_=>cD λ_=>cD λ_=>iZ rfl) (GKs.mem (gs:=qv) ⟨(kO T).up (by decide),(gE T).up (by decide),(lg T).up (by decide),trivial⟩)
def jp:List Str:=["rule","room","deed","guest","events"]
def tD:List (Str×GI):=[("settled",.fn 2 bS),("guests_with",.fn 2 aZ),("with_word",.fn 3 bt),("waiting",.fn 2 bw)]
def jg:=aO jp (gN (iA jp gB tD []) (aF gB)) 3
def zh:aM jp ["rule","room","deed"] (ar gB):=by ac_rfl
def zu(T:iB w K mg):Fn P w K mg base 8 "bring_up" 3 jg:=
 bp T.d_bring_up zh (λ_ _ _ _ _ _=>cD λ_=>cD λ_=>cD λ_=>iZ rfl) (GKs.mem (gs:=tD) ⟨(kO T).up (by decide),(dj T).up (by decide),(ez T).up (by decide),(gE T).up (by decide),trivial⟩)
def dr:List Str:=["rule","room","first","events"]
def ka:List (Str×GI):=[("settled",.fn 2 bS)]
def bf:=aO dr (gN (iA dr cN ka []) (aF cN)) 3
def ou:aM dr ["rule","room","first"] (ar cN):=by ac_rfl
def dQ(T:iB w K mg):Fn P w K mg base 8 "settled_behind" 3 bf:=
 bp T.d_settled_behind ou (λ_ _ _ _ _ _=>cD λ_=>cD λ_=>cD λ_=>iZ rfl) (GKs.mem (gs:=ka) ⟨(kO T).up (by decide),trivial⟩)
def mf:List Str:=["rule","room","guest","within","waits"]
def Ax:List (Str×GI):=[("tuple",.blt)]
def ge:=aO mf (gN (iA mf jO Ax []) (aF jO)) 3
def Fa:aM mf ["rule","room","guest"] (ar jO):=by ac_rfl
def vm(T:iB w K mg):Fn P w K mg base 1 "turned" 3 ge:=
 bp T.d_turned Fa (λ_ _ _ _ _ _=>cD λ_=>cD λ_=>cD λ_=>iZ rfl) (GKs.mem (gs:=Ax) ⟨T.z_tuple,trivial⟩)
def gq:List Str:=["rule","room","deed","guest"]
def pe:List (Str×GI):=[("settled_behind",.fn 3 bf),("with_word",.fn 3 bt),("turned",.fn 3 ge)]
def gi:=aO gq (gN (iA gq er pe []) (aF er)) 3
def uu:aM gq ["rule","room","deed"] (ar er):=by ac_rfl
def uA(T:iB w K mg):Fn P w K mg base 9 "bring_down" 3 gi:=
 bp T.d_bring_down uu (λ_ _ _ _ _ _=>cD λ_=>cD λ_=>cD λ_=>iZ rfl) (GKs.mem (gs:=pe) ⟨(dQ T).up (by decide),(ez T).up (by decide),(vm T).up (by decide),trivial⟩)
def eU:List Str:=["rule","room","deed","guest"]
def nC:List (Str×GI):=[("settled_behind",.fn 3 bf),("with_word",.fn 3 bt),("turned",.fn 3 ge)]
def eO:=aO eU (gN (iA eU dH nC []) (aF dH)) 3
def rO:aM eU ["rule","room","deed"] (ar dH):=by ac_rfl
def rZ(T:iB w K mg):Fn P w K mg base 9 "bring_leave" 3 eO:=
 bp T.d_bring_leave rO (λ_ _ _ _ _ _=>cD λ_=>cD λ_=>cD λ_=>iZ rfl) (GKs.mem (gs:=nC) ⟨(dQ T).up (by decide),(ez T).up (by decide),(vm T).up (by decide),trivial⟩)
def gp:List Str:=["rule","room","deed","guest","calmer"]
def pd:List (Str×GI):=[("settled_behind",.fn 3 bf),("waiting",.fn 2 bw),("with_word",.fn 3 bt),("without_wait",.fn 2 ce)]
def gh:=aO gp (gN (iA gp eo pd []) (aF eo)) 3
def ut:aM gp ["rule","room","deed"] (ar eo):=by ac_rfl
def uz(T:iB w K mg):Fn P w K mg base 9 "bring_stop" 3 gh:=
 bp T.d_bring_stop ut (λ_ _ _ _ _ _=>cD λ_=>cD λ_=>cD λ_=>iZ rfl) (GKs.mem (gs:=pd) ⟨(dQ T).up (by decide),(gE T).up (by decide),(ez T).up (by decide),(lg T).up (by decide),trivial⟩)
def jl:List Str:=["left"]
def tw:List (Str×GI):=[]
def gK:=aO jl (gN (iA jl gy tw []) (aF gy)) 1
def ze:aM jl ["left"] (ar gy):=by ac_rfl
def zq(T:iB w K mg):Fn P w K mg base 1 "one_less" 1 gK:=
 bp T.d_one_less ze (λ_ _ _ _ _ _=>cD λ_=>iZ rfl) (GKs.mem (gs:=tw) trivial)
def gn:List Str:=["rule","room","deed","within","waits","shorter","ended","kept"]
def oZ:List (Str×GI):=[("tuple",.blt),("settled_behind",.fn 3 bf),("one_less",.fn 1 gK)]
def gg:=aO gn (gN (iA gn el oZ []) (aF el)) 3
def ur:aM gn ["rule","room","deed"] (ar el):=by ac_rfl
def uy(T:iB w K mg):Fn P w K mg base 9 "bring_tick" 3 gg:=
 bp T.d_bring_tick ur (λ_ _ _ _ _ _=>cD λ_=>cD λ_=>cD λ_=>iZ rfl) (GKs.mem (gs:=oZ) ⟨T.z_tuple,(dQ T).up (by decide),(zq T).up (by decide),trivial⟩)
def Bh:List (bC×Nat×(List D->ab->Option (D×ab))):=[(.inr "read",3,fL),(.inr "write",3,fL),(.inr "up",3,jg),(.inr "down",3,gi),(.inr "leave",3,eO),(.inr "stop",3,gh),(.inr "tick",3,gg)]
def uf:List Str:=["rule","room","deed","bring"]
def JG:List (Str×GI):=[("BRINGS",.ftab Bh)]
def pP:=aO uf (gN (iA uf pA JG []) (aF pA)) 3
def Mb:aM uf ["rule","room","deed"] (ar pA):=by ac_rfl
def MV(T:iB w K mg):Fn P w K mg base 10 "done" 3 pP:=
 bp T.d_done Mb (λ_ _ _ _ _ _=>cD λ_=>cD λ_=>cD λ_=>iZ rfl) (GKs.mem (gs:=JG) ⟨NE T.g_BRINGS ⟨rfl,(oD T).up (by decide),rfl,(oD T).up (by decide),rfl,(zu T).up (by decide),rfl,(uA T).up (by decide),rfl,(rZ T).up (by decide),rfl,(uz T).up (by decide),rfl,(uy T).up (by decide),trivial⟩,trivial⟩)
def dI:List Str:=["thing","many"]
def nA:List (Str×GI):=[("isinstance",.blt),("tuple",.blt),("len",.blt)]
def bj:=aO dI (gN (iA dI dF nA []) (aF dF)) 2
def rM:aM dI ["thing","many"] (ar dF):=by ac_rfl
def fU(T:iB w K mg):Fn P w K mg base 1 "is_tuple_of" 2 bj:=
 bp T.d_is_tuple_of rM (λ_ _ _ _ _ _=>cD λ_=>cD λ_=>iZ rfl) (GKs.mem (gs:=nA) ⟨T.z_isinstance,T.z_tuple,T.z_len,trivial⟩)
def gP:List Str:=["thing","words"]
def vY:List (Str×GI):=[("isinstance",.blt),("str",.blt)]
def cq:=aO gP (gN (iA gP iP vY []) (aF iP)) 2
def BH:aM gP ["thing","words"] (ar iP):=by ac_rfl
def nL(T:iB w K mg):Fn P w K mg base 1 "is_word" 2 cq:=
 bp T.d_is_word BH (λ_ _ _ _ _ _=>cD λ_=>cD λ_=>iZ rfl) (GKs.mem (gs:=vY) ⟨T.z_isinstance,T.z_str,trivial⟩)
def jm:List Str:=["thing"]
def tz:List (Str×GI):=[("isinstance",.blt),("int",.blt),("bool",.blt)]
def jf:=aO jm (gN (iA jm gz tz []) (aF gz)) 1
def zf:aM jm ["thing"] (ar gz):=by ac_rfl
def zr(T:iB w K mg):Fn P w K mg base 1 "is_whole" 1 jf:=
 bp T.d_is_whole zf (λ_ _ _ _ _ _=>cD λ_=>iZ rfl) (GKs.mem (gs:=tz) ⟨T.z_isinstance,T.z_int,T.z_bool,trivial⟩)
def gl:List Str:=["thing","low","high"]
def oX:List (Str×GI):=[("is_whole",.fn 1 jf)]
def bz:=aO gl (gN (iA gl eh oX []) (aF eh)) 3
def uo:aM gl ["thing","low","high"] (ar eh):=by ac_rfl
def nw(T:iB w K mg):Fn P w K mg base 2 "is_between" 3 bz:=
 bp T.d_is_between uo (λ_ _ _ _ _ _=>cD λ_=>cD λ_=>cD λ_=>iZ rfl) (GKs.mem (gs:=oX) ⟨(zr T).up (by decide),trivial⟩)
def kz:List Str:=["n","thing","want","guest","left"]
def we:List (Str×GI):=[("is_tuple_of",.fn 2 bj),("is_word",.fn 2 cq),("WANTS",.con eW),("is_between",.fn 3 bz),("GUEST_WORDS",.con eR),("GREATEST_LEFT",.con cV)]
def iW:=aO kz (gN (iA kz iT we []) (aF iT)) 2
def BL:aM kz ["n","thing"] (ar iT):=by ac_rfl
def Cc(T:iB w K mg):Fn P w K mg base 3 "is_deed" 2 iW:=
 bp T.d_is_deed BL (λ_ _ _ _ _ _=>cD λ_=>cD λ_=>iZ rfl) (GKs.mem (gs:=we) ⟨(fU T).up (by decide),(nL T).up (by decide),T.g_WANTS,(nw T).up (by decide),T.g_GUEST_WORDS,T.g_GREATEST_LEFT,trivial⟩)
def ko:List Str:=["rule","n","room","deed"]
def vV:List (Str×GI):=[("done",.fn 3 pP),("is_deed",.fn 2 iW),("can_do",.fn 2 eN)]
def gJ:=aO ko (gN (iA ko iL vV []) (aF iL)) 4
def BE:aM ko ["rule","n","room","deed"] (ar iL):=by ac_rfl
def BY(T:iB w K mg):Fn P w K mg base 11 "stepped" 4 gJ:=
 bp T.d_stepped BE (λ_ _ _ _ _ _=>cD λ_=>cD λ_=>cD λ_=>cD λ_=>iZ rfl) (GKs.mem (gs:=vV) ⟨(MV T).up (by decide),(Cc T).up (by decide),(vn T).up (by decide),trivial⟩)
def gk:List Str:=["room"]
def oW:List (Str×GI):=[("guests_with",.fn 2 aZ),("READING_WORDS",.con eX)]
def cx:=aO gk (gN (iA gk eg oW []) (aF eg)) 1
def um:aM gk ["room"] (ar eg):=by ac_rfl
def nv(T:iB w K mg):Fn P w K mg base 2 "readers_in" 1 cx:=
 bp T.d_readers_in um (λ_ _ _ _ _ _=>cD λ_=>iZ rfl) (GKs.mem (gs:=oW) ⟨(dj T).up (by decide),T.g_READING_WORDS,trivial⟩)
def gZ:List Str:=["room","writers"]
def qq:List (Str×GI):=[("guests_with",.fn 2 aZ),("WRITING_WORDS",.con bV)]
def dU:=aO gZ (gN (iA gZ fh qq []) (aF fh)) 1
def wU:aM gZ ["room"] (ar fh):=by ac_rfl
def xy(T:iB w K mg):Fn P w K mg base 2 "writer_in" 1 dU:=
 bp T.d_writer_in wU (λ_ _ _ _ _ _=>cD λ_=>iZ rfl) (GKs.mem (gs:=qq) ⟨(dj T).up (by decide),T.g_WRITING_WORDS,trivial⟩)
def hV:List Str:=["n","thing"]
def qu:List (Str×GI):=[("is_tuple_of",.fn 2 bj),("all",.blt),("is_word",.fn 2 cq),("WITHIN_WORDS",.con cf)]
def fK:=aO hV (gN (iA hV fq qu []) (aF fq)) 2
def wX:aM hV ["n","thing"] (ar fq):=by ac_rfl
def xA(T:iB w K mg):Fn P w K mg base 2 "is_within" 2 fK:=
 bp T.d_is_within wX (λ_ _ _ _ _ _=>cD λ_=>cD λ_=>iZ rfl) (GKs.mem (gs:=qu) ⟨(fU T).up (by decide),T.z_all,(nL T).up (by decide),T.g_WITHIN_WORDS,trivial⟩)
def ku:List Str:=["within","thing","guest","want","mark","left"]
def vZ:List (Str×GI):=[("is_tuple_of",.fn 2 bj),("is_between",.fn 3 bz),("GREATEST_LEFT",.con cV),("is_word",.fn 2 cq),("WANTS",.con eW),("GREATEST_MARK",.con eY),("len",.blt)]
def iV:=aO ku (gN (iA ku iQ vZ []) (aF iQ)) 2
def BI:aM ku ["within","thing"] (ar iQ):=by ac_rfl
def BZ(T:iB w K mg):Fn P w K mg base 3 "is_wait" 2 iV:=
 bp T.d_is_wait BI (λ_ _ _ _ _ _=>cD λ_=>cD λ_=>iZ rfl) (GKs.mem (gs:=vZ) ⟨(fU T).up (by decide),(nw T).up (by decide),T.g_GREATEST_LEFT,(nL T).up (by decide),T.g_WANTS,T.g_GREATEST_MARK,T.z_len,trivial⟩)
def ia:List Str:=["within","thing","guests"]
def qw:List (Str×GI):=[("len",.blt),("isinstance",.blt),("tuple",.blt),("all",.blt),("set",.blt),("is_wait",.fn 2 iV)]
def gY:=aO ia (gN (iA ia fu qw []) (aF fu)) 2
def wZ:aM ia ["within","thing"] (ar fu):=by ac_rfl
def xB(T:iB w K mg):Fn P w K mg base 4 "are_waits" 2 gY:=
 bp T.d_are_waits wZ (λ_ _ _ _ _ _=>cD λ_=>cD λ_=>iZ rfl) (GKs.mem (gs:=qw) ⟨T.z_len,T.z_isinstance,T.z_tuple,T.z_all,T.z_set,(BZ T).up (by decide),trivial⟩)
def ky:List Str:=["n","thing","within","waits"]
def wc:List (Str×GI):=[("is_tuple_of",.fn 2 bj),("is_within",.fn 2 fK),("are_waits",.fn 2 gY)]
def gM:=aO ky (gN (iA ky iS wc []) (aF iS)) 2
def BK:aM ky ["n","thing"] (ar iS):=by ac_rfl
def Cb(T:iB w K mg):Fn P w K mg base 5 "is_room" 2 gM:=
 bp T.d_is_room BK (λ_ _ _ _ _ _=>cD λ_=>cD λ_=>iZ rfl) (GKs.mem (gs:=wc) ⟨(fU T).up (by decide),(xA T).up (by decide),(xB T).up (by decide),trivial⟩)
def kw:List Str:=["rule","room","most","readers","writers","rising"]
def wa:List (Str×GI):=[("len",.blt),("readers_in",.fn 1 cx),("guests_with",.fn 2 aZ),("WRITING_WORDS",.con bV)]
def gL:=aO kw (gN (iA kw iR wa []) (aF iR)) 2
def BJ:aM kw ["rule","room"] (ar iR):=by ac_rfl
def Ca(T:iB w K mg):Fn P w K mg base 3 "is_safe" 2 gL:=
 bp T.d_is_safe BJ (λ_ _ _ _ _ _=>cD λ_=>cD λ_=>iZ rfl) (GKs.mem (gs:=wa) ⟨T.z_len,(nv T).up (by decide),(dj T).up (by decide),T.g_WRITING_WORDS,trivial⟩)
def ii:List Str:=["_law_rule_here","_law_n","_law_room","_law_reading","_law_writing"]
def qC:List (Str×GI):=[("readers_in",.fn 1 cx),("writer_in",.fn 1 dU),("next_in",.fn 2 eC),("any",.blt),("is_room",.fn 2 gM),("is_safe",.fn 2 gL),("settled",.fn 2 bS),("len",.blt),("can_go",.fn 3 dk),("range",.blt),("waiting",.fn 2 bw)]
def fQ:=aO ii (gN (iA ii fC qC []) (aF fC)) 3
def xi:aM ii ["_law_rule_here","_law_n","_law_room"] (ar fC):=by ac_rfl
def xG(T:iB w K mg):Fn P w K mg base 8 "_law_kept" 3 fQ:=
 bp T.d__law_kept xi (λ_ _ _ _ _ _=>cD λ_=>cD λ_=>cD λ_=>iZ rfl) (GKs.mem (gs:=qC) ⟨(nv T).up (by decide),(xy T).up (by decide),(rY T).up (by decide),T.z_any,(Cb T).up (by decide),(Ca T).up (by decide),(kO T).up (by decide),T.z_len,(mx T).up (by decide),T.z_range,(gE T).up (by decide),trivial⟩)
def ic:List Str:=["_law_n","_law_room","_law_behind","_law_events","_law_g","_law_words","_law_within"]
def qy:List (Str×GI):=[("range",.blt),("len",.blt),("set",.blt)]
def fN:=aO ic (gN (iA ic fx qy []) (aF fx)) 4
def xb:aM ic ["_law_n","_law_room","_law_behind","_law_events"] (ar fx):=by ac_rfl
def xD(T:iB w K mg):Fn P w K mg base 1 "_law_told" 4 fN:=
 bp T.d__law_told xb (λ_ _ _ _ _ _=>cD λ_=>cD λ_=>cD λ_=>cD λ_=>iZ rfl) (GKs.mem (gs:=qy) ⟨T.z_range,T.z_len,T.z_set,trivial⟩)
def Bo:List Str:=["_law_script","_law_k","_law_left_here","_law_turn","_law_rule_here","_law_n","_law_room","_law_step","_law_deed_here","_law_some","_law_behind","_law_events"]
def Pw:List (Str×GI):=[("range",.blt),("max",.blt),("_law_left",.fn 2 fP),("min",.blt),("empty",.fn 1 mL),("len",.blt),("_law_rule",.fn 1 fO),("_law_deed",.fn 2 fR),("may_do",.fn 2 ke),("_law_pick",.fn 2 cB),("stepped",.fn 4 gJ),("_law_kept",.fn 3 fQ),("_law_told",.fn 4 fN)]
def AL:=aO Bo (gN (iA Bo vd Pw []) (aF vd)) 1
def Qv:aM Bo ["_law_script"] (ar vd):=by ac_rfl
def SF(T:iB w K mg):GKs P w K mg base 11 Pw:=⟨T.z_range,T.z_max,(xF T).up (by decide),T.z_min,(IF T).up (by decide),T.z_len,(xE T).up (by decide),(xH T).up (by decide),(Fs T).up (by decide),(kP T).up (by decide),(BY T).up (by decide),(xG T).up (by decide),(xD T).up (by decide),trivial⟩
end
def TY{l:W.OpenLaw}{w:World}{K:W.Frag}{h:Heap}{mg:Str->Option Value}{fa:Addr}(X:K.In h)(G:h.Ns mainGlobals mg)(hfa:mg "law" = Z (.ref fa))(T:iB w K mg) :
  ∃ fd:FuncData,(∀ (s:Shared) (v:Value),BindsTo s fd ⟨[v],[]⟩ [("_law_script",v)])/\∀ base:Heap,K.In base->base.Ns mainGlobals mg->FnOk l.prog w K mg base EQ 12 fa fd ["_law_script"] (HR K 1 AL):=
 RG T.d_law hfa Qv (λ_ _ _ _ _ _ _=>rfl) λbase=>SF T
def walk{l:W.OpenLaw}{q:Program}{loose:List Str}{XP:(Str->Option Value)->Heap->Prop}{YP:World->Heap->Prop}{d:DefRec}{K:Params->W.Frag}(hn:l.most=Z 63)(hdf:d.params.defaults=[])(hnm:d.name = "law")
  (hY:∀ (w:World) (h:Heap),YP w h->(K w.params).In h) (hlaw:∀ ns:List Int,ns.length<=63->∃ S',AL [.rol (ns.map .int)] []=Z (.bl true,S'))
  (F:∀ (w:World) (mg:Str->Option Value) (h:Heap),(K w.params).In h->h.Ns mainGlobals mg->iB w (K w.params) mg) :
  W.WalkO q loose XP YP l.row.toRowW d [] (λf vs=>PySem.call f vs):=
 L2.LH (n:=63) (k:=12) (x:="_law_script") (CX:=λ_=>EQ) (sp:=λw=>HR (K w.params) 1 AL) hn (by decide) hdf ⟨rfl,by decide,by decide⟩ hY
  (λw mg fa h KX G hmg=>TY KX G (hnm ▸ hmg) (F w mg h KX G)) (λ_ _ a ns hl _ hS=>RE hlaw hl hS) λ_ _ _ _ _ z=>z
end K55
end
section
set_option maxHeartbeats 4000000
namespace K55
open L2 MI
open M hiding mC ac ax au cH cG cM cX cy df uj fX on ag aa aX iq eM yP cb cW ca bn ir ai aR aA aJ fJ bu ah aQ af aY dS aS bq cR gt bE cC bx fH fI cr jr jV gu dM dJ eD dA cT cA fY
def sA:MS:=
 mB
def qN:dW=aO dZ sA 2:=iU rfl
def Cu:MS:=
 CD
def zK:jh=aO jq Cu 0:=iU rfl
def zS:MS:=
 rg dW jh
def xU:fP=aO ig zS 2:=iU rfl
def DM:MS:=
 aJ (aX (aa (ax cS (aX (aa (mC (.str "out")) (ag))) (ac 0)) (aa (aX (ag)) (ag))))
def IR:mL=aO pv DM 1:=iU rfl
def zR:MS:=
 rf
def xT:cB=aO jA zR 2:=iU rfl
def zQ:MS:=
 yg cB
def xS:fO=aO ie zQ 1:=iU rfl
def zT:MS:=
 oQ cB
def xW:fR=aO ij zT 2:=iU rfl
def qi:MS:=
 aA (aS (cA (cC (mC eW)) (ah 0) (bx) (bq (aa (ac 2) (ag))) (ah 1) (bx) (aX (aa (ac 0) (aa (ac 1) (aa (mC .non) (ag))))) [U,U,Z 0]) (ah 1)) (aJ (bn (aT (dc .tup)) (aa (ax bJ (ac 1) (cA (cC (mC eR)) (ah 0) (bx) (bq (aa (ac 2) (ag))) (ah 1) (bx) (aX (aa (ac 0) (aa (ac 1) (ag)))) [U,U,Z 0])) (ag))))
def xQ:fM=aO ib qi 1:=iU rfl
def uH:MS:=
 BS
def sk:aZ=aO eS uH 2:=iU rfl
def FF:MS:=
 lx aZ
def sj:bw=aO iX FF 2:=iU rfl
def sx:MS:=
 aA (bu (au (ax cI (ax aE (ac 1) (mC (.int 0))) (mC (.str "tick")))) (aJ (mC (.bl true))) (aR)) (aA (aS (ca (ac 1) (cb) (cW (mC (.int 2)))) (aY 2 (af (ah 2) (af (ah 3) (aQ))))) (aA (aS (ax aE (ax aE (ac 0) (mC (.int 0))) (ac 3)) (ah 4)) (aA (bu (au (ax cI (ac 2) (mC (.str "up")))) (aJ (ax cI (ac 4) (mC (.str "reads")))) (aR)) (aA (bu (au (ax cI (ac 2) (mC (.str "down")))) (aJ (ax nk (ac 4) (mC bV))) (aR)) (aA (bu (au (ax cI (ac 2) (mC (.str "leave")))) (aJ (ax eV (ac 4) (mC (.str "out")))) (aR)) (aA (bu (au (ax cI (ac 2) (mC (.str "stop")))) (aJ (ax dm (ai 2 bw (aa (ac 0) (aa (ac 3) (ag)))) (mC .non))) (aR)) (aJ (df (ax cI (ac 4) (mC (.str "out"))) (ax AO (ai 2 bw (aa (ac 0) (aa (ac 3) (ag)))) (mC .non))))))))))
def vv:eN=aO jo sx 2:=iU rfl
def zP:MS:=
 aJ (bn (aT (dc .tup)) (aa (bE (cC (ai 1 fM (aa (ac 0) (ag)))) (ah 0) (cG (ai 2 eN (aa (ac 1) (aa (ac 0) (ag))))) (ac 0) [U,Z 1]) (ag)))
def FC:ke=aO mj zP 2:=iU rfl
def Ct:MS:=
 kN
def zI:kZ=aO jn Ct 2:=iU rfl
def IV:MS:=
 fE bw
def vt:dk=aO kA IV 3:=iU rfl
def zO:MS:=
 kM dk
def xM:jv=aO hU zO 2:=iU rfl
def FH:MS:=
 nJ jv kZ dk
def Cm:eC=aO kr FH 2:=iU rfl
def IU:MS:=
 nK aZ dk eC
def FE:kf=aO mq IU 2:=iU rfl
def zM:MS:=
 kL
def xL:bt=aO hJ zM 3:=iU rfl
def IS:MS:=
 pC bt
def FD:pf=aO mn IS 3:=iU rfl
def xX:MS:=
 lA bt pf
def uD:gf=aO gm xX 3:=iU rfl
def FG:MS:=
 ly gf kf
def Ck:bS=aO kq FG 2:=iU rfl
def lF:MS:=
 aA (aS (ac 0) (aY 2 (af (ah 2) (af (ah 3) (aQ))))) (aJ (aX (aa (ac 2) (aa (bn (aT (dc .tup)) (aa (bE (cC (ac 3)) (ah 0) (au (ax eV (ax aE (ac 0) (mC (.int 0))) (ac 1))) (ac 0) [U,Z 1]) (ag))) (ag)))))
def qM:ce=aO dY lF 2:=iU rfl
def qg:MS:=
 aA (aS (ac 2) (aY 3 (af (ah 3) (af (ah 4) (af (ah 5) (aQ)))))) (aA (aS (ac 1) (aY 2 (af (ah 6) (af (ah 7) (aQ))))) (aA (aS (aX (aa (ac 4) (aa (ac 3) (aa (mC (.int 0)) (aa (on (au (ax cI (ac 5) (mC (.int 0)))) (mC (.int 1)) (ac 5)) (ag)))))) (ah 8)) (aA (aS (ai 2 bS (aa (ac 0) (aa (aX (aa (ac 6) (aa (ax bJ (ac 7) (aX (aa (ac 8) (ag)))) (ag)))) (ag)))) (aY 2 (af (ah 1) (af (ah 9) (aQ))))) (aA (bu (au (ax AO (ai 2 bw (aa (ac 1) (aa (ac 4) (ag)))) (mC .non))) (aJ (aX (aa (ac 1) (aa (ac 9) (ag))))) (aR)) (aA (bu (au (ax cI (ac 5) (mC (.int 0)))) (aJ (aX (aa (ai 2 ce (aa (ac 1) (aa (ac 4) (ag)))) (aa (ax bJ (ac 9) (aX (aa (aX (aa (mC (.str "no")) (aa (ac 4) (ag)))) (ag)))) (ag))))) (aR)) (aJ (aX (aa (ac 1) (aa (ax bJ (ac 9) (aX (aa (aX (aa (mC (.str "waits")) (aa (ac 4) (ag)))) (ag)))) (ag))))))))))
def xO:fL=aO hZ qg 3:=iU rfl
def sy:MS:=
 aA (aS (ax aE (ac 2) (mC (.int 1))) (ah 3)) (aA (bu (cX (au (ax cI (ax aE (ac 0) (mC (.int 3))) (mC (.int 0)))) (cG (ai 2 aZ (aa (ac 1) (aa (aX (aa (mC (.str "rising")) (ag))) (ag)))))) (aJ (aX (aa (ac 1) (aa (aX (aa (aX (aa (mC (.str "no")) (aa (ac 3) (ag)))) (ag))) (ag))))) (aR)) (aA (aS (ai 2 bS (aa (ac 0) (aa (ai 3 bt (aa (ac 1) (aa (ac 3) (aa (mC (.str "rising")) (ag))))) (ag)))) (aY 2 (af (ah 1) (af (ah 4) (aQ))))) (aA (bu (au (ax AO (ai 2 bw (aa (ac 1) (aa (ac 3) (ag)))) (mC .non))) (aJ (aX (aa (ac 1) (aa (ac 4) (ag))))) (aR)) (aJ (aX (aa (ac 1) (aa (ax bJ (ac 4) (aX (aa (aX (aa (mC (.str "waits")) (aa (ac 3) (ag)))) (ag)))) (ag))))))))
def zJ:jg=aO jp sy 3:=iU rfl
def jU:MS:=
 aA (aS (ai 2 bS (aa (ac 0) (aa (ac 1) (ag)))) (aY 2 (af (ah 1) (af (ah 3) (aQ))))) (aJ (aX (aa (ac 1) (aa (ax bJ (ac 2) (ac 3)) (ag)))))
def oG:bf=aO dr jU 3:=iU rfl
def zN:MS:=
 aA (aS (ac 1) (aY 2 (af (ah 3) (af (ah 4) (aQ))))) (aA (bu (cX (au (ax eV (ax aE (ac 0) (mC (.int 0))) (mC (.str "turns")))) (au (ax eV (ax aE (ac 3) (ac 2)) (mC (.str "writes"))))) (aJ (ac 1)) (aR)) (aJ (aX (aa (ac 3) (aa (bn (aT (dc .tup)) (aa (bE (cC (ac 4)) (aY 4 (af (ah 0) (af (ah 1) (af (ah 2) (af (ah 3) (aQ)))))) (bx) (aX (aa (ac 0) (aa (ac 1) (aa (on (au (ax cI (ac 1) (mC (.str "read")))) (mC (.int 1)) (ac 2)) (aa (ac 3) (ag)))))) [U,U,U,U]) (ag))) (ag))))))
def FB:ge=aO mf zN 3:=iU rfl
def oK:MS:=
 aA (aS (ax aE (ac 2) (mC (.int 1))) (ah 3)) (aJ (ai 3 bf (aa (ac 0) (aa (ai 3 bt (aa (ai 3 ge (aa (ac 0) (aa (ac 1) (aa (ac 3) (ag))))) (aa (ac 3) (aa (mC (.str "reads")) (ag))))) (aa (aX (aa (aX (aa (mC (.str "down")) (aa (ac 3) (ag)))) (ag))) (ag))))))
def uG:gi=aO gq oK 3:=iU rfl
def ny:MS:=
 aA (aS (ax aE (ac 2) (mC (.int 1))) (ah 3)) (aJ (ai 3 bf (aa (ac 0) (aa (ai 3 bt (aa (ai 3 ge (aa (ac 0) (aa (ac 1) (aa (ac 3) (ag))))) (aa (ac 3) (aa (mC (.str "out")) (ag))))) (aa (aX (aa (aX (aa (mC (.str "out")) (aa (ac 3) (ag)))) (ag))) (ag))))))
def sn:eO=aO eU ny 3:=iU rfl
def oJ:MS:=
 aA (aS (ax aE (ac 2) (mC (.int 1))) (ah 3)) (aA (bu (au (ax cI (ai 2 bw (aa (ac 1) (aa (ac 3) (ag)))) (mC (.str "up")))) (aS (ai 3 bt (aa (ac 1) (aa (ac 3) (aa (mC (.str "reads")) (ag))))) (ah 4)) (aS (ai 2 ce (aa (ac 1) (aa (ac 3) (ag)))) (ah 4))) (aJ (ai 3 bf (aa (ac 0) (aa (ac 4) (aa (aX (aa (aX (aa (mC (.str "ends")) (aa (ac 3) (ag)))) (ag))) (ag)))))))
def uF:gh=aO gp oJ 3:=iU rfl
def su:MS:=
 aJ (on (au (ax AO (ac 0) (mC .non))) (mC .non) (ax qP (ac 0) (mC (.int 1))))
def zG:gK=aO jl su 1:=iU rfl
def oI:MS:=
 aA (aS (ac 1) (aY 2 (af (ah 3) (af (ah 4) (aQ))))) (aA (aS (bE (cC (ac 4)) (aY 4 (af (ah 0) (af (ah 1) (af (ah 2) (af (ah 3) (aQ)))))) (bx) (aX (aa (ac 0) (aa (ac 1) (aa (ac 2) (aa (ai 1 gK (aa (ac 3) (ag))) (ag)))))) [U,U,U,U]) (ah 5)) (aA (aS (bn (aT (dc .tup)) (aa (bE (cC (ac 5)) (ah 0) (au (ax cI (ax aE (ac 0) (mC (.int 3))) (mC (.int 0)))) (aX (aa (mC (.str "ends")) (aa (ax aE (ac 0) (mC (.int 0))) (ag)))) [U]) (ag))) (ah 6)) (aA (aS (bn (aT (dc .tup)) (aa (bE (cC (ac 5)) (ah 0) (au (ax eV (ax aE (ac 0) (mC (.int 3))) (mC (.int 0)))) (ac 0) [U]) (ag))) (ah 7)) (aJ (ai 3 bf (aa (ac 0) (aa (aX (aa (ac 3) (aa (ac 7) (ag)))) (aa (ac 6) (ag)))))))))
def uE:gg=aO gn oI 3:=iU rfl
def IT:MS:=
 fY Bh 3 (ax aE (ac 2) (mC (.int 0))) (aa (ac 0) (aa (ac 1) (aa (ac 2) (ag))))
def Nf:pP=aO uf IT 3:=iU rfl
def jC:MS:=
 aJ (df (ir "tuple" (ac 0)) (ax cI (bn (aT eI) (aa (ac 0) (ag))) (ac 1)))
def lD:bj=aO dI jC 2:=iU rfl
def mz:MS:=
 aJ (df (ir "str" (ac 0)) (ax nk (ac 0) (ac 1)))
def nN:cq=aO gP mz 2:=iU rfl
def sv:MS:=
 aJ (df (ir "int" (ac 0)) (fX (ir "bool" (ac 0))))
def zH:jf=aO jm sv 1:=iU rfl
def kS:MS:=
 aJ (df (ai 1 jf (aa (ac 0) (ag))) (cH SR SR (ac 1) (ac 0) (ac 2)))
def uC:bz=aO gl kS 3:=iU rfl
def vA:MS:=
 aA (bu (cG (ai 2 bj (aa (ac 1) (aa (mC (.int 1)) (ag))))) (aJ (ai 2 cq (aa (ax aE (ac 1) (mC (.int 0))) (aa (aX (aa (mC (.str "tick")) (ag))) (ag))))) (aR)) (aA (bu (cG (ai 2 bj (aa (ac 1) (aa (mC (.int 2)) (ag))))) (aJ (df (ai 2 cq (aa (ax aE (ac 1) (mC (.int 0))) (aa (mC eR) (ag)))) (ai 3 bz (aa (ax aE (ac 1) (mC (.int 1))) (aa (mC (.int 0)) (aa (ax qP (ac 0) (mC (.int 1))) (ag))))))) (aR)) (aA (bu (cy (cG (ai 2 bj (aa (ac 1) (aa (mC (.int 3)) (ag)))))) (aJ (mC (.bl false))) (aR)) (aA (aS (ac 1) (aY 3 (af (ah 2) (af (ah 3) (af (ah 4) (aQ)))))) (aJ (df (ai 2 cq (aa (ac 2) (aa (mC eW) (ag)))) (df (ai 3 bz (aa (ac 3) (aa (mC (.int 0)) (aa (ax qP (ac 0) (mC (.int 1))) (ag))))) (uj (ax AO (ac 4) (mC .non)) (ai 3 bz (aa (ac 4) (aa (mC (.int 0)) (aa (mC cV) (ag))))))))))))
def Cq:iW=aO kz vA 2:=iU rfl
def vw:MS:=
 aA (bu (cX (cy (cG (ai 2 iW (aa (ac 1) (aa (ac 3) (ag)))))) (cy (cG (ai 2 eN (aa (ac 2) (aa (ac 3) (ag))))))) (iG) (aR)) (aJ (ai 3 pP (aa (ac 0) (aa (ac 2) (aa (ac 3) (ag))))))
def Cj:gJ=aO ko vw 4:=iU rfl
def oH:MS:=
 aJ (ai 2 aZ (aa (ac 0) (aa (mC eX) (ag))))
def uB:cx=aO gk oH 1:=iU rfl
def lE:MS:=
 aA (aS (ai 2 aZ (aa (ac 0) (aa (mC bV) (ag)))) (ah 1)) (aJ (on (cG (ac 1)) (ax aE (ac 1) (mC (.int 0))) (mC .non)))
def xK:dU=aO gZ lE 1:=iU rfl
def qf:MS:=
 aJ (df (ai 2 bj (aa (ac 1) (aa (ac 0) (ag)))) (bn (aT uK) (aa (bE (cC (ac 1)) (ah 0) (bx) (ai 2 cq (aa (ac 0) (aa (mC cf) (ag)))) [U]) (ag))))
def xN:fK=aO hV qf 2:=iU rfl
def vx:MS:=
 aA (bu (cy (cG (ai 2 bj (aa (ac 1) (aa (mC (.int 4)) (ag)))))) (aJ (mC (.bl false))) (aR)) (aA (aS (ac 1) (aY 4 (af (ah 2) (af (ah 3) (af (ah 4) (af (ah 5) (aQ))))))) (aA (bu (cX (cy (cG (ai 3 bz (aa (ac 2) (aa (mC (.int 0)) (aa (ax qP (bn (aT eI) (aa (ac 0) (ag))) (mC (.int 1))) (ag))))))) (au (ax eV (ax aE (ac 0) (ac 2)) (mC (.str "out"))))) (aJ (mC (.bl false))) (aR)) (aA (bu (cX (cy (cG (ai 2 cq (aa (ac 3) (aa (mC eW) (ag)))))) (cy (cG (ai 3 bz (aa (ac 4) (aa (mC (.int 0)) (aa (mC eY) (ag)))))))) (aJ (mC (.bl false))) (aR)) (aJ (uj (ax AO (ac 5) (mC .non)) (ai 3 bz (aa (ac 5) (aa (mC (.int 1)) (aa (mC cV) (ag))))))))))
def Cn:iV=aO ku vx 2:=iU rfl
def qh:MS:=
 aA (bu (cX (cy (cG (ir "tuple" (ac 1)))) (cy (cG (bn (aT uK) (aa (bE (cC (ac 1)) (ah 0) (bx) (ai 2 iV (aa (ac 1) (aa (ac 0) (ag)))) [U,Z 0]) (ag)))))) (aJ (mC (.bl false))) (aR)) (aA (aS (bE (cC (ac 1)) (ah 0) (bx) (ax aE (ac 0) (mC (.int 0))) [U]) (ah 2)) (aJ (ax cI (cr (aa (ac 2) (ag))) (bn (aT eI) (aa (ac 2) (ag))))))
def xP:gY=aO ia qh 2:=iU rfl
def vz:MS:=
 aA (bu (cy (cG (ai 2 bj (aa (ac 1) (aa (mC (.int 2)) (ag)))))) (aJ (mC (.bl false))) (aR)) (aA (aS (ac 1) (aY 2 (af (ah 2) (af (ah 3) (aQ))))) (aJ (df (ai 2 fK (aa (ac 0) (aa (ac 2) (ag)))) (ai 2 gY (aa (ac 2) (aa (ac 3) (ag)))))))
def Cp:gM=aO ky vz 2:=iU rfl
def vy:MS:=
 aA (aS (ax aE (ac 0) (mC (.int 1))) (ah 2)) (aA (aS (bn (aT eI) (aa (ai 1 cx (aa (ac 1) (ag))) (ag))) (ah 3)) (aA (aS (bn (aT eI) (aa (ai 2 aZ (aa (ac 1) (aa (mC bV) (ag)))) (ag))) (ah 4)) (aA (aS (bn (aT eI) (aa (ai 2 aZ (aa (ac 1) (aa (aX (aa (mC (.str "rising")) (ag))) (ag)))) (ag))) (ah 5)) (aA (bu (cX (au (ax yR (ac 4) (mC (.int 1)))) (au (ax yR (ac 5) (mC (.int 1))))) (aJ (mC (.bl false))) (aR)) (aA (bu (cM (au (ax cI (ac 4) (mC (.int 1)))) (au (ax yR (ac 3) (mC (.int 0))))) (aJ (mC (.bl false))) (aR)) (aJ (uj (ax cI (ac 2) (mC (.int 0))) (ax SR (ac 3) (ac 2)))))))))
def Co:gL=aO kw vy 2:=iU rfl
def qk:MS:=
 aA (bu (cX (au (ax dm (ai 2 gM (aa (ac 1) (aa (ac 2) (ag)))) (mC (.bl true)))) (cX (au (ax dm (ai 2 gL (aa (ac 0) (aa (ac 2) (ag)))) (mC (.bl true)))) (au (ax eV (ai 2 bS (aa (ac 0) (aa (ac 2) (ag)))) (aX (aa (ac 2) (aa (aX (ag)) (ag)))))))) (aJ (mC (.bl false))) (aR)) (aA (jr 3 4 (aa (ai 1 cx (aa (ac 2) (ag))) (aa (ai 1 dU (aa (ac 2) (ag))) (ag)))) (aA (bu (cX (cM (au (ax dm (ac 4) (mC .non))) (au (ax eV (ac 3) (aX (ag))))) (cM (au (ax yR (ax aE (ac 0) (mC (.int 1))) (mC (.int 0)))) (au (ax yR (bn (aT eI) (aa (ac 3) (ag))) (ax aE (ac 0) (mC (.int 1))))))) (aJ (mC (.bl false))) (aR)) (aA (bu (cX (au (ax yR (bn (aT eI) (aa (bE (cC (ax aE (ac 2) (mC (.int 0)))) (ah 0) (au (ax nk (ac 0) (aX (aa (mC (.str "writes")) (aa (mC (.str "raised")) (ag)))))) (ac 0) [U]) (ag))) (mC (.int 1)))) (au (ax yR (jV (ax aE (ac 2) (mC (.int 0))) (aa (mC (.str "rising")) (ag))) (mC (.int 1))))) (aJ (mC (.bl false))) (aR)) (aA (bu (au (ax dm (ai 2 eC (aa (ac 0) (aa (ac 2) (ag)))) (mC .non))) (aJ (mC (.bl false))) (aR)) (aJ (fX (bn (aT AR) (aa (bE (bq (aa (ac 1) (ag))) (ah 0) (bx) (df (ax cI (ai 2 bw (aa (ac 1) (aa (ac 0) (ag)))) (mC (.str "up"))) (ai 3 dk (aa (ac 2) (aa (ac 1) (aa (ac 0) (ag)))))) [U,Z 2,Z 0]) (ag)))))))))
def xV:fQ=aO ii qk 3:=iU rfl
def qj:MS:=
 aA (gt (bq (aa (ac 0) (ag))) (ah 4) (aA (aS (bE (cC (ac 3)) (aY 2 (af (ah 0) (af (ah 1) (aQ)))) (au (ax cI (ac 1) (ac 2))) (ac 0) [U,U,Z 4]) (ah 5)) (aA (aS (aX (aa (ax aE (ax aE (ac 1) (mC (.int 0))) (ac 4)) (aa (ax aE (ax aE (ac 2) (mC (.int 0))) (ac 4)) (ag)))) (ah 6)) (aA (bu (au (ax eV (df (ax cI (ax aE (ac 6) (mC (.int 0))) (mC (.str "out"))) (ax eV (ax aE (ac 6) (mC (.int 1))) (mC (.str "out")))) (ax nk (mC (.str "in")) (ac 5)))) (aJ (mC (.bl false))) (aR)) (aA (bu (au (ax eV (df (ax eV (ax aE (ac 6) (mC (.int 0))) (mC (.str "out"))) (ax cI (ax aE (ac 6) (mC (.int 1))) (mC (.str "out")))) (ax nk (mC (.str "out")) (ac 5)))) (aJ (mC (.bl false))) (aR)) (aA (bu (au (ax eV (ax nk (mC (.str "steps")) (ac 5)) (df (ax eV (ax aE (ac 6) (mC (.int 0))) (mC (.str "raised"))) (ax cI (ax aE (ac 6) (mC (.int 1))) (mC (.str "raised")))))) (aJ (mC (.bl false))) (aR)) (bu (au (ax eV (bn (aT eI) (aa (ac 5) (ag))) (cr (aa (ac 5) (ag))))) (aJ (mC (.bl false))) (aR)))))))) (aJ (mC (.bl true)))
def xR:fN=aO ic qj 4:=iU rfl
def Ph:MS:=
 aA (gt (bq (aa (bn (aT ph) (aa (mC (.int 3)) (aa (bn (aT AM) (aa (bn (aT eI) (aa (ac 0) (ag))) (aa (mC (.int 8)) (ag)))) (ag)))) (ag))) (ah 1) (aA (aS (ai 2 fP (aa (ac 0) (aa (ac 1) (ag)))) (ah 2)) (gt (bq (aa (mC (.int 3)) (ag))) (ah 3) (aA (jr 4 5 (aa (ai 1 fO (aa (ac 2) (ag))) (aa (ax bJ (mC (.int 1)) (ai 2 cB (aa (ac 2) (aa (mC (.int 5)) (ag))))) (ag)))) (aA (aS (ai 1 mL (aa (ac 5) (ag))) (ah 6)) (gt (bq (aa (mC (.int 40)) (ag))) (ah 7) (aA (aS (ai 2 fR (aa (ac 2) (aa (ac 5) (ag)))) (ah 8)) (aA (aS (ai 2 ke (aa (ac 5) (aa (ac 6) (ag)))) (ah 9)) (bu (cX (au (ax cI (ac 8) (aX (aa (mC (.str "tick")) (ag))))) (au (ax nk (ca (ac 8) (cb) (cW (mC (.int 2)))) (bE (cC (ac 9)) (ah 0) (bx) (ca (ac 0) (cb) (cW (mC (.int 2)))) [U])))) (aA (aS (ai 4 gJ (aa (ac 4) (aa (ac 5) (aa (ac 6) (aa (ac 8) (ag)))))) (aY 2 (af (ah 10) (af (ah 11) (aQ))))) (aA (bu (cX (cy (cG (ai 3 fQ (aa (ac 4) (aa (ac 5) (aa (ac 10) (ag))))))) (cy (cG (ai 4 fN (aa (ac 5) (aa (ac 6) (aa (ac 10) (aa (ac 11) (ag))))))))) (aJ (mC (.bl false))) (aR)) (aS (ac 10) (ah 6)))) (aR)))))))))) (aJ (mC (.bl true)))
def Rx:AL=aO Bo Ph 1:=iU rfl
end K55
end
section
namespace K55
open MI L2
open M hiding mC ac ax au cH cG cM cX cy df uj fX on ag aa aX iq eM yP cb cW ca bn ir ai aR aA aJ fJ bu ah aQ af aY dS aS bq cR gt bE cC bx fH fI cr jr jV gu dM dJ eD dA cT cA fY
def BV:Do cB:=λS r m h h0 h1=>by rw [xT];exact Fk rfl h h0 h1
def left{S:ab}{ns:List Int}{k:Int}(h0:0<=k)(h1:k<=100000):∃ a b,fP [.rol (ns.map .int),.int k] S=Z (.ref S.length,S++[.lst [.int a,.int b,.int 0]])/\0<=a/\0<=b/\b<2147483647:=by
 rw [xU]
 exact FK (N:=ig) (cellAt:=dW) (far:=jh) rfl h0 h1 (λS k h=>by rw [qN];exact Bd (N:=dZ) rfl h) (λS=>by rw [zK];exact JP (N:=jq) rfl)
def rule{S:ab}{r:Nat}(P:Pk S r):∃ (rl:Rl) (S':ab),fO [.ref r] S=Z (rl.d,S')/\rl.Ok/\Pk S' r/\Keep r S S':=by
 rw [xS]
 obtain⟨x,a,b,c,S',e,R,P',K⟩:=Fg (pick:=cB) BV (N:=ie) rfl P
 obtain⟨w,rfl⟩:=FU R.w
 exact⟨⟨w,a,b,c⟩,S',e,⟨R.a0,R.a5,R.b0,R.b9,R.c0,R.c1⟩,P',K⟩
def Aw:LA aZ:=λS R l hl=>by rw [sk];exact SE (N:=eS) rfl hl
def nH:qa bw:=λS R g hl=>by rw [sj];exact Hu Aw (N:=iX) rfl hl
def rn:mW dk:=⟨λS r R g hl=>by rw [vt];exact GH nH (N:=kA) rfl hl,λS r ws hl=>by rw [vt];exact GG (λS=>by rw [sj];exact Ht Aw (N:=iX) rfl hl) (N:=kA) rfl⟩
def IK(S:ab)(r:Rl)(R:Rm)(hl:R.1.length<=100)(hl2:R.2.length<=100):eC [r.d,aG R] S=Z (mZ (lh r R),S):=by
 rw [Cm]
 exact Cg (λS r R hl=>by rw [xM];exact xI rn (N:=hU) rfl hl) (λS w es hw hl=>by rw [zI];exact yq (N:=jn) rfl hw hl) rn (N:=kr) rfl hl hl2
def Lh(S:ab)(r:Rl)(R:Rm)(hl:R.1.length<=100)(hl2:R.2.length<=100):kf [r.d,aG R] S=Z (qQ (gv r R),S):=by
 rw [FE];exact Db Aw rn IK (N:=mq) rfl hl hl2
def ER(S:ab)(R:Rm)(g:Nat)(w:Wd)(h:g<R.1.length)(hl:R.1.length<=100):bt [aG R,.int (g:Int),w.d] S=Z (aG (R.1.set g w,R.2),S):=by
 rw [xL];exact wK (N:=hJ) rfl h hl
def stOk:Uc gf kf:=⟨Lh,λS r R v R' l h hl s=>by
 rw [uD]
 exact Bi ER (λS r R i e h hi hl=>by rw [FD];exact FJ ER (N:=mn) rfl h hi hl) (N:=gm) rfl h hl s⟩
def zl{S:ab}{r:Rl}{R:Rm}(hb:0<=r.b)(h:ROk R)(hl:R.1.length<=50):bS [r.d,aG R] S=Z (.tup [aG (aB r R).1,cU (aB r R).2],S++[.lst ((aB r R).2.map Ev.d)]):=by
 rw [Ck];exact xk stOk hb (N:=kq) rfl h hl
def HV:EO bS:=λS r R hb h hl=>zl hb h hl
def woOk:TZ ce:=λS R g hl=>by rw [qM,show lF=BP from rfl];exact Qd (N:=dY) rfl hl
def Mc:OR bf:=λS r R l hb h hl h4=>by rw [oG,show jU=BR bS from rfl];exact Qw HV (N:=dr) rfl hb h hl h4
def tuOk:TuOk ge:=λS r R g w hw hl=>by rw [FB,show zN=BQ from rfl];exact Ql (N:=mf) rfl hw hl
def olOk(S:ab)(t:Option Int):gK [bO t] S=Z (bO (t.map (· - 1)),S):=by rw [zG,show su=oz from rfl];exact Jh (N:=jl) rfl
def deOk:DeOk bS bw aZ bt:=⟨HV,nH,Aw,ER⟩
def brOk:BrOk fL jg gi eO gh gg:=
 ⟨λS r R wr g t hb h hl hw hs=>by rw [xO,show qg=xp bS bw ce from rfl];exact OO HV nH woOk (N:=hZ) rfl hb h hl hw hs,
 λS r R g hb h hl hw=>by rw [zJ,show sy=xl bS bw aZ bt from rfl];exact Qe deOk (N:=jp) rfl hb h hl hw,
 λS r R g w hb h hl hw ho=>by rw [uG,show oK=oA bf bt ge Wd.reads.s "down" from rfl];exact AW Mc ER tuOk (N:=gq) rfl hb h hl hw ho (.inl rfl) rfl (by decide) rfl,
 λS r R g w hb h hl hw ho=>by rw [sn,show ny=oA bf bt ge Wd.out.s "out" from rfl];exact AW Mc ER tuOk (N:=eU) rfl hb h hl hw ho (.inr rfl) rfl (by decide) rfl,
 λS r R g w hb h hl hw hc=>by rw [uF,show oJ=ow bf bt ce bw from rfl];exact HK Mc ER woOk nH (N:=gp) rfl hb h hl hw hc,
 λS r R hb h hl=>by rw [uE,show oI=rS bf gK from rfl];exact HA Mc olOk (N:=gn) rfl hb h hl⟩
def pdone{S:ab}{r:Rl}{R:Rm}{dd:Dd}{x:Rm×List Ev}(hb:0<=r.b)(h:ROk R)(hl:R.1.length<=50)(hd:dd.Ok R.1.length)(hx:du r R dd=Z x):∃ T,pP [r.d,aG R,dd.d] S=Z (gD x,S++T):=by
 rw [Nf,show IT=oB (brL fL jg gi eO gh gg) from rfl];exact Fo brOk (N:=uf) rfl hb h hl hd hx
def tofOk:PR bj:=λS xs k=>by rw [lD,show jC=xn from rfl];exact LM (N:=dI) rfl
def Qc:Ly cq:=λS x ys h=>by rw [nN,show mz=rR from rfl];exact Hl (N:=gP) rfl h
def jZ:List Nat->D
 | []=>.non
 | i::_=>ni i
def vh{S:ab}{R:Rm}(hl:R.1.length<=100):cx [aG R] S=Z (nt (mH (λw=>decide (w∈[.reads,.rising])) R.1),S):=by
 rw [uB,aU (show [aG R].length=1 from rfl),show ay gk [aG R]=[Z (aG R)] from rfl]
 have g:=Aw S R [.reads,.rising] hl
 have g':aZ [aG R,eX] S=_:=g
 simp only [oH,aP,aD,aq,ak,bG,oj,ob,aj,ao,be,az,am,aV,g',bg,aC]
def Rt{S:ab}{i:Nat}{l:List Nat}:aE S (nt (i::l)) (.int 0)=Z (ni i):=by
 show aE S (.tup (ni i::l.map ni)) (.int ((0:Nat):Int))=_
 rw [fIx_t,ON];rfl
def Hj{S:ab}{R:Rm}(hl:R.1.length<=100):dU [aG R] S=Z (jZ (mH (λw=>decide (w∈[.writes,.raised])) R.1),S):=by
 rw [xK,aU (show [aG R].length=1 from rfl),show ay gZ [aG R]=[Z (aG R),U] from rfl]
 have g:=Aw S R [.writes,.raised] hl
 have g':aZ [aG R,bV] S=_:=g
 generalize mH (λw=>decide (w∈[Wd.writes,.raised])) R.1=l at g' ⊢
 cases l with
 | nil=>simp [lE,g',nt,jZ]
 | cons i l=>
  have x0:aE S (nt (i::l)) (.int 0)=Z (ni i):=Rt
  have tr:yh (nt (i::l),S)=Z (true,S):=rfl
  simp only [lE,ba,bH,aD,aq,ak,bG,bM,bL,oj,ob,aj,ao,be,az,am,aV,g',bI,bd,gH,ik,cj,aI,aP,oN,dR,tr,Ek,aH,av,aw,x0,bg,aC,jZ]
theorem tG:∀ (ns acc:List Int),acc.Nodup->(ns.foldl step_dedup acc).length<=acc.length+ns.length/\((ns.foldl step_dedup acc).length=acc.length+ns.length↔(acc++ns).Nodup)
 | [],acc,h=>by simp [h]
 | n::ns,acc,h=>by
  rw [Xy]
  by_cases hm:acc.any (· == n)=true
  ·rw [show step_dedup acc n=acc from if_pos hm]
   have hm':n∈acc:=by
    obtain⟨x,hx,e⟩:=UB.mp hm
    have:x=n:=by simpa using e
    subst this;exact hx
   have ih:=tG ns acc h
   have ih1:(List.foldl step_dedup acc ns).length<=acc.length+ns.length:=ih.1
   refine⟨by rw [UE];omega,?_⟩
   constructor
   ·intro e
    rw [UE] at e
    omega
   ·intro hd
    exfalso
    rw [Vv] at hd
    exact hd.2.2 n hm' n Ul rfl
  ·rw [show step_dedup acc n=acc++[n] from if_neg hm]
   have hm':n ∉ acc:=λz=>hm (UB.mpr ⟨n,z,by simp⟩)
   have hn:(acc++[n]).Nodup:=by
    rw [Vv]
    exact⟨h,by simp,λa ha b hb=>by rw [UN.mp hb];rintro rfl;exact hm' ha⟩
   have ih:=tG ns (acc++[n]) hn
   have e:(acc++[n]).length+ns.length=acc.length+(n::ns).length:=by simp;omega
   have e2:acc++[n]++ns=acc++n::ns:=by simp
   rw [e,e2] at ih
   exact ih
def BN(ns:List Int):((List.range ns.length).map λi=>ns.getD i 0)=ns:=by
 apply List.ext_getElem?
 intro i
 by_cases h:i<ns.length
 ·simp [h]
 ·rw [Wl (by simp;omega),Wl (by omega)]
def Oo(ns:List Int):pS ns=ns.length↔ns.Nodup:=by
 unfold pS firstMet
 rw [BN]
 have:=(tG ns [] List.nodup_nil).2
 simpa using this
def Hy{S:ab}{xs:List D}{k:Int}:bj [.tup xs,.int k] S=Z (.bl (decide ((xs.length:Int)=k)),S):=by
 rw [lD,aU (show [D.tup xs,D.int k].length=2 from rfl),show ay dI [D.tup xs,D.int k]=[Z (.tup xs),Z (.int k)] from rfl]
 have it:tL "tuple" S (.tup xs)=Z (.bl true):=rfl
 simp only [jC,aP,gG,pF,ak,bG,bM,bL,oj,ob,aj,pM,it,iy,aH,cu,aq,ao,az,am,cw,yx,av,aw,jI,bg,aC]
 rfl
def Qb{S:ab}{w:Wd}:cq [w.d,cf] S=Z (.bl true,S):=by
 rw [nN,aU (show [w.d,cf].length=2 from rfl),show ay gP [w.d,cf]=[Z w.d,Z cf] from rfl]
 have it:tL "str" S w.d=Z (.bl true):=rfl
 have fi:nk S w.d cf=Z (.bl true):=(JW (l:=[.out,.reads,.rising,.writes,.raised])).trans (by cases w <;> rfl)
 simp only [mz,aP,gG,pF,ak,bG,bM,bL,oj,ob,aj,pM,it,iy,aH,av,aw,fi,bg,aC]
def Hm{S:ab}{b:Bool}:cq [.str (bF b),eW] S=Z (.bl true,S):=by
 rw [nN,aU (show [D.str (bF b),eW].length=2 from rfl),show ay gP [D.str (bF b),eW]=[Z (.str (bF b)),Z eW] from rfl]
 have it:tL "str" S (.str (bF b))=Z (.bl true):=rfl
 have fi:nk S (.str (bF b)) eW=Z (.bl true):=SS (by cases b <;> decide +kernel)
 simp only [mz,aP,gG,pF,ak,bG,bM,bL,oj,ob,aj,pM,it,iy,aH,av,aw,fi,bg,aC]
def EM{S:ab}{i lo hi:Int}:bz [.int i,.int lo,.int hi] S=Z (.bl (decide (lo<=i)&&decide (i<=hi)),S):=by
 have wh:jf [.int i] S=Z (.bl true,S):=by
  rw [zH,aU (show [D.int i].length=1 from rfl),show ay jm [D.int i]=[Z (.int i)] from rfl]
  have i1:tL "int" S (.int i)=Z (.bl true):=rfl
  have i2:tL "bool" S (.int i)=Z (.bl false):=rfl
  simp [sv,i1,i2]
 rw [uC,aU (show [D.int i,D.int lo,D.int hi].length=3 from rfl),show ay gl [D.int i,D.int lo,D.int hi]=[Z (.int i),Z (.int lo),Z (.int hi)] from rfl]
 by_cases h:lo<=i
 ·simp [kS,wh,h]
 ·simp [kS,wh,h]
def Hn{S:ab}{ws:List Wd}{n:Int}(hl:ws.length<=100):fK [.int n,dE ws] S=Z (.bl (decide ((ws.length:Int)=n)),S):=by
 rw [xN,aU (show [D.int n,dE ws].length=2 from rfl),show ay hV [D.int n,dE ws]=[Z (.int n),Z (dE ws)] from rfl]
 have t1:bj [dE ws,.int n] S=Z (.bl (decide ((ws.length:Int)=n)),S):=by rw [show dE ws=.tup (ws.map Wd.d) from rfl,Hy,Ux]
 have k:=gI (S:=S) (t:=bx) (e:=ai 2 cq (aa (ac 0) (aa (mC cf) (ag)))) (cap:=[U]) (env:=[Z (.int n),Z (dE ws)]) (rest:=[]) (a:=U) (enc:=Wd.d) (p:=λ_=>true) (f:=λ_=>.bl true) (xs:=ws) rfl (by omega) (λ_ _=>iF) (λw _ _=>by
  simp only [aD,aq,ak,bG,bM,bL,oj,ob,aj,ao,be,az,am,aV,Qb])
 rw [Vn.mpr (λ_ _=>rfl)] at k
 have al:aT uK [.lst (ws.map λ_=>.bl true)] S=Z (.bl true,S):=by
  rw [CN (lf (p:=λ_=>true) ws)];simp
 have it:Aq (dE ws,S)=Z (ws.map Wd.d,S):=rfl
 simp only [qf,aP,gG,aD,aq,ak,bG,bM,bL,oj,ob,aj,ao,az,am,aV,t1]
 cases decide ((ws.length:Int)=n) with
 | false=>simp only [sZ,ob,bg,aC]
 | true=>simp only [iy,cu,aq,cK,dL,ak,bG,bM,bL,oj,ob,aj,it,k,ao,az,am,cw,al,bg,aC]
def Ji:Option Int->Bool
 | none=>true
 | some t=>decide (1<=t)&&decide (t<=9)
def jK(ws:List Wd)(e:En):Bool:=decide (ws[e.g]?=Z .out)&&((decide (0<=e.m)&&decide (e.m<=999))&&Ji e.t)
def JA{S:ab}{ws:List Wd}{e:En}:iV [dE ws,e.d] S=Z (.bl (jK ws e),S):=by
 rw [Cn,aU (show [dE ws,e.d].length=2 from rfl),show ay ku [dE ws,e.d]=[Z (dE ws),Z e.d,U,U,U,U] from rfl]
 have t1:bj [e.d,.int 4] S=Z (.bl true,S):=Hy
 have g4:∀ env S,aY 4 (af (ah 2) (af (ah 3) (af (ah 4) (af (ah 5) (aQ))))) e.d env S=(af (ah 2) (af (ah 3) (af (ah 4) (af (ah 5) (aQ))))) [.int (e.g:Nat),.str (bF e.wr),.int e.m,bO e.t] env S:=λenv S=>rj
 have b1:bz [.int (e.g:Nat),.int 0,.int ((ws.length:Nat) - 1)] S=Z (.bl (decide (e.g<ws.length)),S):=by
  rw [EM];congr 3;rw [UK];simp;omega
 have b2:bz [.int e.m,.int 0,eY] S=Z (.bl (decide (0<=e.m)&&decide (e.m<=999)),S):=EM
 simp only [vx,ba,bv,kU,dR,aD,aq,ak,bG,bM,bL,oj,ob,aj,ao,be,az,am,aV,t1,gb,kY,UY,bA,bm,aI,bH,bI,g4,bQ,bd,eE,cE,gH,ik,cj,fc,aH,cu,cw,PY,av,aw,yv,bP,b1]
 by_cases hg:e.g<ws.length
 ·have hw:ws[e.g]?=Z ws[e.g]:=Uq hg
  have xw:aE S (dE ws) (.int (e.g:Nat))=Z (ws[e.g]).d:=yS hw
  generalize ws[e.g]=w at hw xw
  have e2:eV S w.d (.str "out")=Z (.bl (!decide (w=.out))):=pQ (b:=.out)
  simp only [Uo hg,UY,gc,aN,aH,ak,bG,bM,bL,oj,ob,aj,av,aw,be,xw,e2,aK]
  by_cases ho:w=.out
  ·subst ho
   simp only [Wf,UY,bA,bm,ob,aI,ba,bv,fc,kU,dR,aD,aq,ak,bG,bM,bL,oj,aj,ao,be,az,am,aV,Hm,gb,kY,gc,bP,b2]
   unfold jK
   rw [hw,Uo rfl,VR]
   cases decide (0<=e.m)&&decide (e.m<=999) with
   | false=>simp only [Vk,bX,aP,be,ob,bg,bN,aC,Vt]
   | true=>
    cases ht:e.t with
    | none=>
     have i1:oU (bO U) .non=true:=rfl
     simp only [UY,bA,bm,ob,aI,aP,Ja,aH,ak,bG,bM,bL,oj,aj,av,be,aw,jx,i1,Pn,bg,aC,Ji,VR]
    | some t=>
     have i1:oU (bO (Z t)) .non=false:=rfl
     have b3:bz [bO (Z t),.int 1,cV] S=Z (.bl (decide (1<=t)&&decide (t<=9)),S):=EM
     simp only [UY,bA,bm,ob,aI,aP,Ja,aH,ak,bG,bM,bL,oj,aj,av,be,aw,jx,i1,Po,aD,aq,ao,az,am,bP,b3,bg,aC,Ji,VR]
  ·unfold jK
   rw [hw,Ut (λz=>ho (Uu z))]
   simp only [Ut ho,Vk,bX,aP,be,ob,bg,bN,aC,Vt]
 ·unfold jK
  rw [Wl (by omega)]
  simp only [Ut hg,Vk,sR,ob,bX,aP,be,bg,bN,aC]
  rfl
def IH(es:List En):Bool:=decide ((es.map (·.g)).Nodup)
def ded_g{es:List En}:(pS (es.map λe=>(e.g:Int)) == es.length)=IH es:=by
 unfold IH
 rw [UK,beq_iff_eq,Vi]
 have:=Oo (es.map λe=>(e.g:Int))
 rw [Ux] at this
 rw [this]
 have hm:(es.map λe=>(e.g:Int))=(es.map (·.g)).map λ(i:Nat)=>(i:Int):=by rw [Vs];rfl
 rw [hm]
 constructor
 ·intro h;exact(List.pairwise_map.mp h).imp λh z=>h (by rw [z])
 ·intro h;exact List.pairwise_map.mpr (h.imp λh z=>h (by omega))
def Dk{S:ab}{ws:List Wd}{es:List En}(hl:es.length<64):gY [dE ws,eQ es] S=Z (.bl (es.all (jK ws)&&IH es),S):=by
 rw [xP,aU (show [dE ws,eQ es].length=2 from rfl),show ay ia [dE ws,eQ es]=[Z (dE ws),Z (eQ es),U] from rfl]
 have it:tL "tuple" S (eQ es)=Z (.bl true):=rfl
 have k:=gI (S:=S) (t:=bx) (e:=ai 2 iV (aa (ac 1) (aa (ac 0) (ag)))) (cap:=[U,Z 0]) (env:=[Z (dE ws),Z (eQ es),U]) (rest:=[Z (dE ws)]) (a:=U) (enc:=En.d) (p:=λ_=>true) (f:=λe=>.bl (jK ws e)) (xs:=es) rfl (by omega) (λ_ _=>iF) (λw _ _=>by
  simp only [aD,aq,ak,bG,bM,bL,oj,ob,aj,ao,az,am,aV,JA])
 rw [Vn.mpr (λ_ _=>rfl)] at k
 have al:aT uK [.lst (es.map λe=>.bl (jK ws e))] S=Z (.bl (es.all (jK ws)),S):=by
  rw [CN (lf (p:=jK ws) es)];congr 3;rw [Yb];rfl
 have gs:=gsC (S:=S) (es:=es) (cap:=[U]) (env:=[Z (dE ws),Z (eQ es),U]) rfl (by omega)
 have ml:(es.map λe=>D.int (e.g:Int))=(es.map λe=>(e.g:Int)).map .int:=by rw [Vs];rfl
 have ks:mG ([.lst (es.map λe=>.int (e.g:Int))],S)=Z (.int (pS (es.map λe=>(e.g:Int)):Nat),S):=by rw [ml];exact vN (by rw [Ux];exact hl)
 have ln:aT eI [.lst (es.map λe=>.int (e.g:Int))] S=Z (.int (es.length:Nat),S):=by rw [yy,Ux]
 simp only [qh,ba,bv,fc,kU,dR,pF,ak,bG,bM,bL,oj,ob,aj,pM,it,gb,kY,UY,gc,cu,aq,cK,dL,gR,k,ao,az,am,cw,al]
 cases es.all (jK ws) with
 | false=>simp only [Vk,bX,aP,be,ob,bg,bN,aC,Vt]
 | true=>
  simp only [UY,bA,bm,ob,aI,ba,bH,cK,dL,ak,bG,bM,bL,oj,aj,gR,gs,bI,bd,gH,ik,cj,aP,aH,vG,aq,ao,az,am,ks,av,cu,cw,ln,aw,jI,bg,aC,VR]
  congr 3
  rw [<- ded_g,UK];simp;omega
def QA{S:ab}{ws:List Wd}{es:List En}{n:Nat}(h1:ws.length<=100)(hl:es.length<64):gM [.int (n:Int),aG (ws,es)] S=Z (.bl (decide (ws.length=n)&&(es.all (jK ws)&&IH es)),S):=by
 rw [Cp,aU (show [D.int (n:Int),aG (ws,es)].length=2 from rfl),show ay ky [D.int (n:Int),aG (ws,es)]=[Z (.int (n:Int)),Z (aG (ws,es)),U,U] from rfl]
 have t1:bj [aG (ws,es),.int 2] S=Z (.bl true,S):=Hy
 have g2:∀ env S,aY 2 (af (ah 2) (af (ah 3) (aQ))) (aG (ws,es)) env S=(af (ah 2) (af (ah 3) (aQ))) [dE ws,eQ es] env S:=λenv S=>dg
 have w1:fK [.int (n:Int),dE ws] S=Z (.bl (decide (ws.length=n)),S):=by
  rw [Hn h1];congr 3;rw [UK];simp;omega
 simp only [vz,ba,bv,kU,dR,aD,aq,ak,bG,bM,bL,oj,ob,aj,ao,be,az,am,aV,t1,gb,kY,UY,bA,bm,aI,bH,bI,g2,bQ,bd,eE,cE,gH,ik,cj,aP,gG,w1]
 cases decide (ws.length=n) with
 | false=>simp only [sZ,ob,bg,aC,Vt]
 | true=>simp only [iy,aD,aq,ak,bG,bM,bL,oj,ob,aj,ao,az,am,aV,Dk hl,bg,aC,VR]
def yn{p:Wd->Bool}{ws:List Wd}:(mH p ws).length=ws.countP p:=by
 unfold mH
 rw [Ux,<- VM]
 have:∀ (ws:List Wd) (k:Nat),(ws.zipIdx k).countP (λq=>p q.1)=ws.countP p:=λws=>by
  induction ws with
  | nil=>intro k;rfl
  | cons w l ih=>intro k;rw [VB,Wn,Wn,ih]
 exact this ws 0
def Li{a b:Wd}(h:a≠b)(ws:List Wd):ws.countP (λw=>decide (w∈[a,b]))=ws.count a+ws.count b:=by
 induction ws with
 | nil=>rfl
 | cons w l ih=>
  rw [Wn,Vf,Vf,ih]
  by_cases h1:w=a
  ·subst h1;simp [h];omega
  ·by_cases h2:w=b
   ·subst h2;simp [h1];omega
   ·simp [h1,h2]
def cnt1{a:Wd}(ws:List Wd):ws.countP (λw=>decide (w∈[a]))=ws.count a:=by
 rw [List.count];congr 1;funext w;rw [UK];simp
def Dz(r:Rl)(ws:List Wd):Bool:=
 if 1<ws.count .writes+ws.count .raised\/1<ws.count .rising then false else if ws.count .writes+ws.count .raised=1/\0<ws.count .reads+ws.count .rising then false else decide (r.a=0)||decide (((ws.count .reads+ws.count .rising:Nat):Int)<=r.a)
def IG{S:ab}{l:List Nat}:aT eI [nt l] S=Z (.int (l.length:Nat),S):=by rw [show nt l=.tup (l.map ni) from rfl,yx,Ux]
def Qx{S:ab}{r:Rl}{R:Rm}(hl:R.1.length<=100):gL [r.d,aG R] S=Z (.bl (Dz r R.1),S):=by
 rw [Co,aU (show [r.d,aG R].length=2 from rfl),show ay kw [r.d,aG R]=[Z r.d,Z (aG R),U,U,U,U] from rfl]
 have g1:cx [aG R] S=_:=vh hl
 have g2:aZ [aG R,bV] S=_:=Aw S R [.writes,.raised] hl
 have g3:aZ [aG R,.tup [.str "rising"]] S=_:=Aw S R [.rising] hl
 have k1:cZ ([.str "rising"],S)=Z (.tup [.str "rising"],S):=bi (by simp)
 simp only [vy,ba,bH,aH,ak,bG,bM,bL,oj,ob,aj,av,be,aw,Rl.ix1,bI,bd,gH,ik,cj,aI,cu,aq,aD,ao,az,am,lH,g1,cw,IG,aV,g2,bD,k1,g3,bv,fc,aN,yn,cnt1,Li (show Wd.reads≠.rising by decide),Li (show Wd.writes≠.raised by decide),qF,aK]
 unfold Dz
 generalize R.1.count .writes+R.1.count .raised=w
 generalize R.1.count .rising=g
 generalize R.1.count .reads+g=d
 by_cases h1:1<w
 ·rw [if_pos (.inl h1)]
  simp only [show decide (((w:Nat):Int)>1)=true from Uo (by omega),sR,ob,bX,aP,be,bg,bN,aC]
 ·by_cases h2:1<g
  ·rw [if_pos (.inr h2)]
   simp only [show decide (((w:Nat):Int)>1)=false from Ut (by omega),gc,aN,aH,ak,bG,bM,bL,oj,aj,av,be,aw,qF,show decide (((g:Nat):Int)>1)=true from Uo (by omega),aK,ob,bX,aP,bg,bN,aC]
  ·rw [if_neg (by omega)]
   simp only [show decide (((w:Nat):Int)>1)=false from Ut (by omega),gc,aN,aH,ak,bG,bM,bL,oj,aj,av,be,aw,qF,show decide (((g:Nat):Int)>1)=false from Ut (by omega),aK,ob,bA,bm,aI,ba,bv,oP,jI]
   have last:∀ env:aW,env=[Z r.d,Z (aG R),Z (.int r.a),Z (.int (d:Nat)),Z (.int (w:Nat)),Z (.int (g:Nat))]->(aJ (uj (ax cI (ac 2) (mC (.int 0))) (ax SR (ac 3) (ac 2))) env S).bind MJ=Z (.bl (decide (r.a=0)||decide (((d:Nat):Int)<=r.a)),S):=λenv he=>by
    subst he
    by_cases ha:r.a=0
    ·simp [ha]
    ·simp [ha,Vh.mpr ha]
   by_cases h3:w=1
   ·have q1:(((w:Nat):Int) == 1)=true:=by rw [beq_iff_eq];omega
    by_cases h4:0<d
    ·rw [if_pos ⟨h3,h4⟩]
     simp only [q1,oT,aN,aH,ak,bG,bM,bL,oj,ob,aj,av,be,aw,qF,show decide (((d:Nat):Int)>0)=true from Uo (by omega),aK,bX,aP,bg,bN,aC]
    ·rw [if_neg (λz=>h4 z.2)]
     simp only [q1,oT,aN,aH,ak,bG,bM,bL,oj,ob,aj,av,be,aw,qF,show decide (((d:Nat):Int)>0)=false from Ut (by omega),aK,bA,bm,aI]
     exact last _ rfl
   ·have q1:(((w:Nat):Int) == 1)=false:=by rw [Vh];omega
    rw [if_neg (λz=>h3 z.1)]
    simp only [q1,ym,ob,bA,bm,aI]
    exact last _ rfl
def Hc(R:Rm):List Nat:=mH (λw=>decide (w∈[.reads,.rising])) R.1
def Hk(R:Rm):List Nat:=mH (λw=>decide (w∈[.writes,.raised])) R.1
def QC{R:Rm}:(Hc R).length=R.1.count .reads+R.1.count .rising:=by unfold Hc;rw [yn,Li (by decide)]
def Qa{R:Rm}:(Hk R).length=R.1.count .writes+R.1.count .raised:=by unfold Hk;rw [yn,Li (by decide)]
def saf_b{r:Rl}{ws:List Wd}(s:Dn r ws):Dz r ws=true:=by
 unfold Dz
 have s1:=s.w1
 have s2:=s.g1
 have s3:=s.al
 rw [if_neg (by omega),if_neg (λz=>by have:=s3 z.1;omega)]
 rcases s.mo with z | z
 ·rw [Uo z];rfl
 ·rw [Uo z,Bool.or_true]
def fit_b{R:Rm}(h:ROk R)(m:MB 999 R.2):(R.2.all (jK R.1)&&IH R.2)=true:=by
 rw [Uk]
 refine⟨UF.mpr λe he=>?_,Uo h.nd⟩
 obtain⟨m1,m2,m3⟩:=m e he
 unfold jK
 rw [h.out e he,Uo rfl,Uo m1,Uo (show e.m<=999 from m2)]
 cases ht:e.t with
 | none=>rfl
 | some t=>
  obtain⟨a,b⟩:=m3 t ht
  show (_&&(decide (1<=t)&&decide (t<=9)))=true
  rw [Uo a,Uo b];rfl
def TR:PX bz:=λS i lo hi=>EM
def SA{S:ab}{n:Nat}{dd:Dd}(hd:dd.Ok n):iW [.int (n:Int),dd.d] S=Z (.bl true,S):=by
 rw [Cq,show vA=lz bj cq bz from rfl];exact Gy tofOk Qc TR (N:=kz) rfl hd
def canDo{S:ab}{R:Rm}{dd:Dd}(hl:R.1.length<=100)(hd:dd.Ok R.1.length)(hc:dP R dd=true):eN [aG R,dd.d] S=Z (.bl true,S):=by
 rw [vv,show sx=mw bw from rfl]
 by_cases ht:dd=.tick
 ·subst ht;exact Df (N:=jo) rfl
 ·rw [wE nH (N:=jo) rfl hl hd ht,hc]
def NV(S:ab)(n:Nat)(h5:n<=5):mL [.int (n:Int)] S=Z (aG (dq n),S):=by rw [IR,show DM=pD from rfl];exact Gr (N:=pv) rfl h5
def LS{S:ab}{r:Rl}{R:Rm}{n:Nat}{dd:Dd}{x:Rm×List Ev}(hb:0<=r.b)(h:ROk R)(hn:R.1.length=n)(h5:n<=5)(hd:dd.Ok n)(hx:du r R dd=Z x):∃ T,gJ [r.d,.int (n:Int),aG R,dd.d] S=Z (gD x,S++T):=by
 subst hn
 obtain⟨T,e⟩:=pdone (S:=S) hb h (by omega) hd hx
 refine⟨T,?_⟩
 rw [Cj,show vw=rT iW eN pP from rfl]
 exact HL (N:=ko) rfl (SA hd) (canDo (by omega) hd (Gu hx)) e
def allOk{S:ab}{n:Nat}(h5:n<=5):fM [.int (n:Int)] S=Z (.tup ((pZ n).map Dd.d),S):=by
 rw [xQ,show qi=xq from rfl];exact OQ (N:=ib) rfl h5
def OF{S:ab}{R:Rm}{dd:Dd}(hl:R.1.length<=100)(hd:dd.Ok R.1.length)(ht:dd≠.tick):eN [aG R,dd.d] S=Z (.bl (dP R dd),S):=by
 rw [vv,show sx=mw bw from rfl];exact wE nH (N:=jo) rfl hl hd ht
def mayOk{S:ab}{R:Rm}{n:Nat}(h5:n<=5)(hl:R.1.length=n):ke [.int (n:Int),aG R] S=Z (.tup ((sr R n).map Dd.d),S):=by
 rw [FC,show zP=xo fM eN from rfl]
 exact Ng (allOk h5) (λdd h=>OF (by omega) (by rw [hl];exact(rq h).1) (rq h).2) h5 (N:=mj) rfl
def kpA:MS:=bu (cX (au (ax dm (ai 2 gM (aa (ac 1) (aa (ac 2) (ag)))) (mC (.bl true)))) (cX (au (ax dm (ai 2 gL (aa (ac 0) (aa (ac 2) (ag)))) (mC (.bl true)))) (au (ax eV (ai 2 bS (aa (ac 0) (aa (ac 2) (ag)))) (aX (aa (ac 2) (aa (aX (ag)) (ag)))))))) (aJ (mC (.bl false))) (aR)
def kpB:MS:=bu (cX (cM (au (ax dm (ac 4) (mC .non))) (au (ax eV (ac 3) (aX (ag))))) (cM (au (ax yR (ax aE (ac 0) (mC (.int 1))) (mC (.int 0)))) (au (ax yR (bn (aT eI) (aa (ac 3) (ag))) (ax aE (ac 0) (mC (.int 1))))))) (aJ (mC (.bl false))) (aR)
def kpW:ME:=bE (cC (ax aE (ac 2) (mC (.int 0)))) (ah 0) (au (ax nk (ac 0) (aX (aa (mC (.str "writes")) (aa (mC (.str "raised")) (ag)))))) (ac 0) [U]
def kpC:MS:=bu (cX (au (ax yR (bn (aT eI) (aa kpW (ag))) (mC (.int 1)))) (au (ax yR (jV (ax aE (ac 2) (mC (.int 0))) (aa (mC (.str "rising")) (ag))) (mC (.int 1))))) (aJ (mC (.bl false))) (aR)
def kpG:ME:=df (ax cI (ai 2 bw (aa (ac 1) (aa (ac 0) (ag)))) (mC (.str "up"))) (ai 3 dk (aa (ac 2) (aa (ac 1) (aa (ac 0) (ag)))))
def kpX:ME:=bE (bq (aa (ac 1) (ag))) (ah 0) (bx) kpG [U,Z 2,Z 0]
def Pj:MS:=aA kpA (aA (jr 3 4 (aa (ai 1 cx (aa (ac 2) (ag))) (aa (ai 1 dU (aa (ac 2) (ag))) (ag)))) (aA kpB (aA kpC (aA (bu (au (ax dm (ai 2 eC (aa (ac 0) (aa (ac 2) (ag)))) (mC .non))) (aJ (mC (.bl false))) (aR)) (aJ (fX (bn (aT AR) (aa kpX (ag)))))))))
def RJ{S:ab}{r:Rl}{R:Rm}{a1:Option D}(s:Dn r R.1):kpB [Z r.d,a1,Z (aG R),Z (nt (Hc R)),Z (jZ (Hk R))] S=Z (.nx [Z r.d,a1,Z (aG R),Z (nt (Hc R)),Z (jZ (Hk R))] S):=by
 have r1:aE S r.d (.int 1)=Z (.int r.a):=rfl
 have kt:cZ ([],S)=Z (.tup [],S):=bi (by simp)
 have lw:=Qa (R:=R)
 have lr:=QC (R:=R)
 have second:El (au (ax yR (bn (aT eI) (aa (ac 3) (ag))) (ax aE (ac 0) (mC (.int 1))))) [Z r.d,a1,Z (aG R),Z (nt (Hc R)),Z (jZ (Hk R))] (decide (0<r.a),S)=Z (false,S):=by
  by_cases ha:0<r.a
  ·rw [Uo ha,oT]
   have:¬ (r.a<((Hc R).length:Int)):=by
    rw [lr]
    rcases s.mo with z | z <;> omega
   simp only [aN,aH,cu,aq,ak,bG,bM,bL,oj,ob,aj,ao,az,am,cw,IG,av,be,aw,r1,qF,Ut this,aK]
  ·rw [Ut ha,ym]
 have go:(Nw (aJ (mC (.bl false))) (aR) [Z r.d,a1,Z (aG R),Z (nt (Hc R)),Z (jZ (Hk R))] (false,S))=Z (.nx [Z r.d,a1,Z (aG R),Z (nt (Hc R)),Z (jZ (Hk R))] S):=by rw [bA,bm]
 have rest:(cM (au (ax yR (ax aE (ac 0) (mC (.int 1))) (mC (.int 0)))) (au (ax yR (bn (aT eI) (aa (ac 3) (ag))) (ax aE (ac 0) (mC (.int 1)))))) [Z r.d,a1,Z (aG R),Z (nt (Hc R)),Z (jZ (Hk R))] S=Z (false,S):=by
  simp only [oP,aN,aH,ak,bG,bM,bL,oj,ob,aj,av,be,aw,r1,qF,aK]
  exact second
 have first:(cM (au (ax dm (ac 4) (mC .non))) (au (ax eV (ac 3) (aX (ag))))) [Z r.d,a1,Z (aG R),Z (nt (Hc R)),Z (jZ (Hk R))] S=Z (false,S):=by
  cases hw:Hk R with
  | nil=>
   have:dm S (jZ []) .non=Z (.bl false):=rfl
   simp only [oP,aN,aH,ak,bG,bM,bL,oj,ob,aj,av,be,aw,this,aK,ym]
  | cons i l=>
   rw [hw,UE] at lw
   have h0:=s.al (by have:=s.w1;omega)
   have hr:Hc R=[]:=Vg (by omega)
   have e1:dm S (jZ (i::l)) .non=Z (.bl true):=rfl
   have e2:eV S (nt []) (.tup [])=Z (.bl false):=pg rfl
   simp only [hr,oP,aN,aH,ak,bG,bM,bL,oj,ob,aj,av,be,aw,e1,aK,oT,bD,az,kt,e2]
 simp only [kpB,bv,fc,first,ob,gc,rest,go]
def RI{S:ab}{r:Rl}{R:Rm}{a0 a1 a3 a4:Option D}(s:Dn r R.1)(hl:R.1.length<=100):kpC [a0,a1,Z (aG R),a3,a4] S=Z (.nx [a0,a1,Z (aG R),a3,a4] S):=by
 have x0:aE S (aG R) (.int 0)=Z (dE R.1):=rfl
 have k2:∀ p q:D,cZ ([p,q],S)=Z (.tup [p,q],S):=λp q=>bi (by simp)
 have kc:=gI (S:=S) (t:=au (ax nk (ac 0) (aX (aa (mC (.str "writes")) (aa (mC (.str "raised")) (ag)))))) (e:=ac 0) (cap:=[U]) (env:=[a0,a1,Z (aG R),a3,a4]) (rest:=[]) (a:=U) (enc:=Wd.d) (p:=λw=>decide (w=.writes)||decide (w=.raised)) (f:=Wd.d) (xs:=R.1) rfl (by omega) (λw _=>by
  simp only [aN,aH,ak,bG,oj,ob,aj,av,bD,aq,be,ao,az,am,k2,aw,JX,aK]) (λw _ _=>by simp only [ak,bG,oj,ob,aj])
 have len:((R.1.filter λw=>decide (w=.writes)||decide (w=.raised)).length:Nat)=R.1.count .writes+R.1.count .raised:=by
  rw [<- Li (a:=.writes) (b:=.raised) (by decide),VM]
  congr 1
  refine Wi λw _=>?_
  rw [UK];simp
 have its:Aq (dE R.1,S)=Z (R.1.map Wd.d,S):=rfl
 have w1:=s.w1
 have g1:=s.g1
 have fl:aT eI [.lst ((R.1.filter λw=>decide (w=.writes)||decide (w=.raised)).map Wd.d)] S=Z (.int ((R.1.count .writes+R.1.count .raised:Nat):Int),S):=by rw [yy,Ux,len]
 have cn:iH (dE R.1) [.str "rising"] S=Z (.int (R.1.count .rising:Nat),S):=PZ .rising
 have l1:decide (1<((R.1.count .writes+R.1.count .raised:Nat):Int))=false:=Ut (by omega)
 have l2:decide (1<((R.1.count .rising:Nat):Int))=false:=Ut (by omega)
 simp only [kpC,kpW,bv,fc,aN,aH,cu,aq,cK,dL,ak,bG,bM,bL,oj,ob,aj,av,be,aw,x0,its,kc,ao,az,am,cw,fl,qF,l1,aK,gc,RC,LF,sS,cn,l2,bA,bm]
def upEq{S:ab}{R:Rm}{g:Nat}:cI S (gS R g) (.str "up")=Z (.bl (decide (R.1[g]?=Z .rising))):=by
 unfold gS
 split
 ·rename_i h;rw [Uo h,dC];exact congrArg _ (congrArg _ (by decide +kernel))
 ·rename_i h
  rw [Ut h]
  cases R.2.find? λe=>decide (e.g=g) with
  | none=>rw [jH rfl rfl];rfl
  | some e=>
   show cI S (.str (bF e.wr)) (.str "up")=_
   rw [dC];cases e.wr <;> exact congrArg _ (congrArg _ (by decide +kernel))
def RH{S:ab}{r:Rl}{R:Rm}{a3 a4:Option D}(hst:Still r R)(hl:R.1.length<=100):kpX [Z r.d,Z (.int (R.1.length:Int)),Z (aG R),a3,a4] S=Z (.lst ((List.range R.1.length).map λ_=>.bl false),S):=by
 have k1:Nq ([.int (R.1.length:Int)],S)=Z ((List.range R.1.length).map ni,S):=by rw [nT (by omega) (by omega),Vx,pB]
 have kc:=gI (S:=S) (t:=bx) (e:=kpG) (cap:=[U,Z 2,Z 0]) (env:=[Z r.d,Z (.int (R.1.length:Int)),Z (aG R),a3,a4]) (rest:=[Z (aG R),Z r.d]) (a:=U) (enc:=ni) (p:=λ_=>true) (f:=λ_=>D.bl false) (xs:=List.range R.1.length) rfl (by rw [List.length_range];omega) (λ_ _=>iF) (λg hg _=>by
  have w:=nH S R g hl
  have w':bw [aG R,ni g] S=Z (gS R g,S):=w
  have c:=rn.1 S r R g hl
  have c':dk [r.d,aG R,ni g] S=Z (.bl (cL r R g),S):=c
  simp only [kpG,gG,aH,aD,aq,ak,bG,bM,bL,oj,ob,aj,ao,az,am,aV,w',av,be,aw,upEq]
  by_cases h:R.1[g]?=Z .rising
  ·rw [Uo h,iy]
   have:=hst.next.2 g h
   simp only [aD,aq,ak,bG,bM,bL,oj,ob,aj,ao,az,am,bP,c',this]
  ·rw [Ut h,sZ])
 rw [Vn.mpr (λ_ _=>rfl)] at kc
 simp only [kpX,cK,gF,aq,ak,bG,bM,bL,oj,ob,aj,ao,az,am,k1,kc]
def RO{S:ab}{r:Rl}{R:Rm}{n:Nat}(hn:R.1.length=n)(n5:n<=5)(h:ROk R)(hb:0<=r.b)(s:Dn r R.1)(m:MB 999 R.2)(hst:Still r R):fQ [r.d,.int (n:Int),aG R] S=Z (.bl true,S++[.lst []]):=by
 subst hn
 rw [xV,show qk=Pj from rfl,aU (show [r.d,D.int (R.1.length:Int),aG R].length=3 from rfl),show ay ii [r.d,D.int (R.1.length:Int),aG R]=[Z r.d,Z (.int (R.1.length:Int)),Z (aG R),U,U] from rfl]
 have hle:=h.len
 have e1:gM [.int (R.1.length:Int),aG R] S=Z (.bl true,S):=by
  have:=QA (S:=S) (ws:=R.1) (es:=R.2) (n:=R.1.length) (by omega) (by omega)
  rw [fit_b h m,Uo rfl] at this
  exact this
 have e2:gL [r.d,aG R] S=Z (.bl true,S):=by rw [Qx (by omega),saf_b s]
 have e3:=zl (S:=S) hb h (by omega)
 rw [hst.settled h hb] at e3
 have e3':bS [r.d,aG R] S=Z (.tup [aG R,cU []],S++[.lst []]):=e3
 have k2:∀ (S:ab) (p q:D),cZ ([p,q],S)=Z (.tup [p,q],S):=λS p q=>bi (by simp)
 have kt:∀ S:ab,cZ ([],S)=Z (.tup [],S):=λS=>bi (by simp)
 have ne:∀ S,eV S (.tup [aG R,cU []]) (.tup [aG R,.tup []])=Z (.bl false):=λS=>pg (MX (n:=35) (l:=[]))
 have it:∀ S,dm S (.bl true) (.bl true)=Z (.bl false):=λS=>rfl
 have eA:∀ a3 a4,kpA [Z r.d,Z (.int (R.1.length:Int)),Z (aG R),a3,a4] S=Z (.nx [Z r.d,Z (.int (R.1.length:Int)),Z (aG R),a3,a4] (S++[.lst []])):=λa3 a4=>by
  simp only [kpA,bv,fc,aN,aH,aD,aq,ak,bG,bM,bL,oj,ob,aj,ao,az,am,aV,e1,av,be,aw,it,aK,gc,e2,e3',bD,kt,k2,ne,bA,bm]
 have rd:∀ S,cx [aG R] S=Z (nt (Hc R),S):=λS=>vh (by omega)
 have wr:∀ S,dU [aG R] S=Z (jZ (Hk R),S):=λS=>Hj (by omega)
 have nx:=IK (S++[.lst []]) r R (by omega) (by omega)
 rw [hst.next.1] at nx
 have nx':eC [r.d,aG R] (S++[.lst []])=Z (.non,S++[.lst []]):=nx
 have inn:dm (S++[.lst []]) .non .non=Z (.bl false):=rfl
 have fa:aT AR [.lst ((List.range R.1.length).map λ_=>D.bl false)] (S++[.lst []])=Z (.bl false,S++[.lst []]):=by
  rw [SW (wF (λ_=>false) _)]
  have:(((List.range R.1.length).map λ_=>false).any id)=false:=by rw [Xk];simp
  rw [this]
 simp only [Pj,ba,eA,ob,aI,IZ,aq,aD,ak,bG,bM,bL,oj,aj,ao,az,am,lH,rd,wr,Jp,gH,ik,RJ s,RI s (by omega),bv,aN,aH,aV,nx',av,be,aw,inn,aK,bA,bm,aP,ya,cu,RH hst (show R.1.length<=100 by omega),cw,fa,Nt,Vk,bg,aC]
def tdG:MG:=aY 2 (af (ah 0) (af (ah 1) (aQ)))
def tdC:ME:=bE (cC (ac 3)) tdG (au (ax cI (ac 1) (ac 2))) (ac 0) [U,U,Z 4]
theorem HB{S:ab}{g:Nat}:∀ (es:List Ev) (a b:Option D),dN tdG (au (ax cI (ac 1) (ac 2))) (ac 0) (es.map Ev.d) [a,b,Z (.int (g:Int))] S=Z ((nq g es).map D.str,S)
 | [],a,b=>Cz
 | e::es,a,b=>by
  have ih:=HB (S:=S) (g:=g) es (Z (.str e.w)) (Z (.int (e.g:Int)))
  have eq:cI S (.int (e.g:Int)) (.int (g:Int))=Z (.bl (decide (e.g=g))):=by
   rw [jI,show (((e.g:Int)) == (g:Int))=decide (e.g=g) by rw [UK,beq_iff_eq,Wu];omega]
  rw [Uy,gU,show Ev.d e=.tup [.str e.w,.int (e.g:Int)] from rfl,show tdG (.tup [.str e.w,.int (e.g:Int)]) [a,b,Z (.int (g:Int))] S=Z ([Z (.str e.w),Z (.int (e.g:Int)),Z (.int (g:Int))],S) by rw [tdG,dg];simp only [bQ,bd,ob,gH,ik,eE,cE]]
  simp only [ob,sY,aN,aH,ak,bG,bM,bL,oj,aj,av,aw,eq,aK]
  rw [show e::es=[e]++es from rfl,mO,show nq g [e]=if e.g=g then [e.w] else [] from dD (w:=e.w) (h:=e.g)]
  by_cases h:e.g=g
  ·rw [Uo h,sX,if_pos h]
   simp only [ak,bG,bM,bL,oj,ob,aj,sW,ih,sV]
   rfl
  ·rw [Ut h,yl,if_neg h,ih];rfl
def inStr{S:ab}{x:Str}{ws:List Str}:nk S (.str x) (.lst (ws.map .str))=Z (.bl (decide (x∈ws))):=by
 rw [lO (ys:=ws.map .str) rfl rfl (by rw [UF];intro d hd;obtain⟨y,_,rfl⟩:=Uz.mp hd;rfl)]
 refine congrArg _ (congrArg _ ?_)
 rw [UK,Wu,UB]
 constructor
 ·rintro⟨d,hd,e⟩
  obtain⟨y,hy,rfl⟩:=Uz.mp hd
  have e':(y == x)=true:=e
  rw [<- beq_iff_eq.mp e'];exact hy
 ·intro h
  exact⟨.str x,Uz.mpr ⟨x,h,rfl⟩,by show (x == x)=true;simp⟩
def td1:MS:=bu (au (ax eV (df (ax cI (ax aE (ac 6) (mC (.int 0))) (mC (.str "out"))) (ax eV (ax aE (ac 6) (mC (.int 1))) (mC (.str "out")))) (ax nk (mC (.str "in")) (ac 5)))) (aJ (mC (.bl false))) (aR)
def td2:MS:=bu (au (ax eV (df (ax eV (ax aE (ac 6) (mC (.int 0))) (mC (.str "out"))) (ax cI (ax aE (ac 6) (mC (.int 1))) (mC (.str "out")))) (ax nk (mC (.str "out")) (ac 5)))) (aJ (mC (.bl false))) (aR)
def td3:MS:=bu (au (ax eV (ax nk (mC (.str "steps")) (ac 5)) (df (ax eV (ax aE (ac 6) (mC (.int 0))) (mC (.str "raised"))) (ax cI (ax aE (ac 6) (mC (.int 1))) (mC (.str "raised")))))) (aJ (mC (.bl false))) (aR)
def td4:MS:=bu (au (ax eV (bn (aT eI) (aa (ac 5) (ag))) (cr (aa (ac 5) (ag))))) (aJ (mC (.bl false))) (aR)
def rH:MS:=aA (aS tdC (ah 5)) (aA (aS (aX (aa (ax aE (ax aE (ac 1) (mC (.int 0))) (ac 4)) (aa (ax aE (ax aE (ac 2) (mC (.int 0))) (ac 4)) (ag)))) (ah 6)) (aA td1 (aA td2 (aA td3 td4))))
def OU:MS:=aA (gt (bq (aa (ac 0) (ag))) (ah 4) rH) (aJ (mC (.bl true)))
def TX{S:ab}{env:aW}{a b:ME}{p q:Bool}(ha:a env S=Z (.bl p,S))(hb:b env S=Z (.bl q,S)):df a b env S=Z (.bl (p&&q),S):=by
 rw [gG,ha,ob]
 cases p with
 | true=>rw [iy,hb];rfl
 | false=>rw [sZ];rfl
def EV{S:ab}{R R':Rm}{es:List Ev}{g:Nat}{w w':Wd}{a0 a5 a6:Option D}(hw:R.1[g]?=Z w)(hw':R'.1[g]?=Z w')(k:Tk w w' (nq g es))(hl:es.length<=100) :
  ∃ b5 b6,rH [a0,Z (aG R),Z (aG R'),Z (cU es),Z (.int (g:Int)),a5,a6] S=Z (.nx [a0,Z (aG R),Z (aG R'),Z (cU es),Z (.int (g:Int)),b5,b6] S):=by
 have k2:∀ p q:D,cZ ([p,q],S)=Z (.tup [p,q],S):=λp q=>bi (by simp)
 have x0:∀ R:Rm,aE S (aG R) (.int 0)=Z (dE R.1):=λR=>rfl
 have x1:aE S (dE R.1) (.int (g:Int))=Z w.d:=yS hw
 have x2:aE S (dE R'.1) (.int (g:Int))=Z w'.d:=yS hw'
 generalize hws:nq g es=ws at k
 have tc:tdC [a0,Z (aG R),Z (aG R'),Z (cU es),Z (.int (g:Int)),a5,a6] S=Z (.lst (ws.map .str),S):=by
  simp only [tdC,cK,dL,ak,bG,bM,bL,oj,ob,aj,cU,sT]
  rw [jW (by rw [Ux];omega),show nu [U,U,Z 4] [a0,Z (aG R),Z (aG R'),Z (D.tup (es.map Ev.d)),Z (.int (g:Int)),a5,a6]=[U,U,Z (.int (g:Int))] from rfl,HB,ob,jX,hws]
 let env:aW:=[a0,Z (aG R),Z (aG R'),Z (cU es),Z (.int (g:Int)),Z (.lst (ws.map .str)),Z (.tup [w.d,w'.d])]
 have i0:aE S (.tup [w.d,w'.d]) (.int 0)=Z w.d:=rfl
 have i1:aE S (.tup [w.d,w'.d]) (.int 1)=Z w'.d:=rfl
 have eqA:∀ (v:Wd),(ax cI (ax aE (ac 6) (mC (.int 0))) (mC (.str v.s))) env S=Z (.bl (decide (w=v)),S):=λv=>by simp only [env,aH,ak,bG,bM,bL,oj,ob,aj,av,be,aw,i0,tN]
 have neA:∀ (v:Wd),(ax eV (ax aE (ac 6) (mC (.int 0))) (mC (.str v.s))) env S=Z (.bl (!decide (w=v)),S):=λv=>by simp only [env,aH,ak,bG,bM,bL,oj,ob,aj,av,be,aw,i0,pQ]
 have eqB:∀ (v:Wd),(ax cI (ax aE (ac 6) (mC (.int 1))) (mC (.str v.s))) env S=Z (.bl (decide (w'=v)),S):=λv=>by simp only [env,aH,ak,bG,bM,bL,oj,ob,aj,av,be,aw,i1,tN]
 have neB:∀ (v:Wd),(ax eV (ax aE (ac 6) (mC (.int 1))) (mC (.str v.s))) env S=Z (.bl (!decide (w'=v)),S):=λv=>by simp only [env,aH,ak,bG,bM,bL,oj,ob,aj,av,be,aw,i1,pQ]
 have inn:∀ x:Str,(ax nk (mC (.str x)) (ac 5)) env S=Z (.bl (decide (x∈ws)),S):=λx=>by simp only [env,aH,ak,bG,bM,bL,oj,ob,aj,av,be,aw,inStr]
 have nb:∀ b:Bool,eV S (.bl b) (.bl b)=Z (.bl false):=λb=>by rw [SM];cases b <;> rfl
 have look:∀ (a b:ME) (p q:Bool),a env S=Z (.bl p,S)->b env S=Z (.bl q,S)->p=q->(bu (au (ax eV a b)) (aJ (mC (.bl false))) (aR)) env S=Z (.nx env S):=λa b p q ha hb hpq=>by
  subst hpq
  rw [bv,aN,aH,ha,ob,av,hb,ob,aw,nb,ob,aj,ob,aK,ob,bA,bm]
 have t1:td1 env S=Z (.nx env S):=look _ _ _ _ (TX (eqA .out) (neB .out)) (inn "in") k.i.symm
 have t2:td2 env S=Z (.nx env S):=look _ _ _ _ (TX (neA .out) (eqB .out)) (inn "out") k.o.symm
 have t3:td3 env S=Z (.nx env S):=look _ _ _ _ (inn "steps") (TX (neA .raised) (eqB .raised)) k.s
 have t4:td4 env S=Z (.nx env S):=by
  have le:aT eI [.lst (ws.map .str)] S=Z (.int (ws.length:Nat),S):=by rw [yy,Ux]
  have ls:mG ([.lst (ws.map .str)],S)=Z (.int (ws.length:Nat),S):=by
   have:=k.one
   match ws,this with
   | [],_=>exact FQ
   | [x],_=>exact FP
  have ne:eV S (.int (ws.length:Nat)) (.int (ws.length:Nat))=Z (.bl false):=pg rfl
  simp only [td4,env,bv,aN,aH,cu,aq,ak,bG,bM,bL,oj,ob,aj,ao,az,am,cw,le,av,vG,ls,aw,ne,aK,bA,bm]
 refine⟨Z (.lst (ws.map .str)),Z (.tup [w.d,w'.d]),?_⟩
 simp only [env] at t1 t2 t3 t4
 simp only [rH,ba,bH,tc,ob,bI,bd,gH,ik,cj,aI,bD,aq,aH,ak,bG,bM,bL,oj,aj,av,be,aw,x0,x1,x2,ao,az,am,k2,t1,t2,t3,t4]
def Qm{S:ab}{R R':Rm}{es:List Ev}{n:Nat}(hn:R.1.length=n)(n5:n<=5)(hl:es.length<=100)(H:∀ g w,R.1[g]?=Z w->∃ w',R'.1[g]?=Z w'/\Tk w w' (nq g es)):fN [.int (n:Int),aG R,aG R',cU es] S=Z (.bl true,S):=by
 rw [xR,show qj=OU from rfl,aU (show [D.int (n:Int),aG R,aG R',cU es].length=4 from rfl),show ay ic [D.int (n:Int),aG R,aG R',cU es]=[Z (.int (n:Int)),Z (aG R),Z (aG R'),Z (cU es),U,U,U] from rfl]
 have k1:Nq ([.int (n:Int)],S)=Z ((List.range n).map ni,S):=by rw [nT (by omega) (by omega),Vx,pB]
 have lp:∀ (gs:List Nat) (a4 a5 a6:Option D),(∀ g∈gs,g<n)->∃ b4 b5 b6,cz (ah 4) rH (gs.map ni) [Z (.int (n:Int)),Z (aG R),Z (aG R'),Z (cU es),a4,a5,a6] S=Z (.nx [Z (.int (n:Int)),Z (aG R),Z (aG R'),Z (cU es),b4,b5,b6] S):=λgs=>by
  induction gs with
  | nil=>exact λa4 a5 a6 _=>⟨a4,a5,a6,vH⟩
  | cons g gs ih=>
   intro a4 a5 a6 hg
   have hgn:=hg g Ul
   have hw:R.1[g]?=Z (R.1[g]'(by omega)):=Uq _
   obtain⟨w',hw',k⟩:=H g _ hw
   obtain⟨b5,b6,e⟩:=EV (S:=S) (a0:=Z (.int (n:Int))) (a5:=a5) (a6:=a6) hw hw' k hl
   obtain⟨c4,c5,c6,e2⟩:=ih (Z (ni g)) b5 b6 λx hx=>hg x (Ur _ hx)
   refine⟨c4,c5,c6,?_⟩
   have e':rH [Z (.int (n:Int)),Z (aG R),Z (aG R'),Z (cU es),Z (ni g),a5,a6] S=_:=e
   rw [Uy,fe]
   simp only [bd,ob,gH,ik,nU,e',mF]
   exact e2
 obtain⟨b4,b5,b6,e⟩:=lp (List.range n) U U U λg hg=>Vr.mp hg
 simp only [OU,ba,sH,gF,aq,ak,bG,oj,ob,aj,ao,az,am,k1,sU,e,aI,aP,be,bg,aC]
def cuC:ME:=bE (cC (ac 9)) (ah 0) (bx) (ca (ac 0) (cb) (cW (mC (.int 2)))) [U]
def Ni:MT:=cX (au (ax cI (ac 8) (aX (aa (mC (.str "tick")) (ag))))) (au (ax nk (ca (ac 8) (cb) (cW (mC (.int 2)))) cuC))
def HP:MS:=aA (aS (ai 4 gJ (aa (ac 4) (aa (ac 5) (aa (ac 6) (aa (ac 8) (ag)))))) (aY 2 (af (ah 10) (af (ah 11) (aQ))))) (aA (bu (cX (cy (cG (ai 3 fQ (aa (ac 4) (aa (ac 5) (aa (ac 10) (ag))))))) (cy (cG (ai 4 fN (aa (ac 5) (aa (ac 6) (aa (ac 10) (aa (ac 11) (ag))))))))) (aJ (mC (.bl false))) (aR)) (aS (ac 10) (ah 6)))
def step:MS:=aA (aS (ai 2 fR (aa (ac 2) (aa (ac 5) (ag)))) (ah 8)) (aA (aS (ai 2 ke (aa (ac 5) (aa (ac 6) (ag)))) (ah 9)) (bu Ni HP (aR)))
def Dt:MS:=aA (jr 4 5 (aa (ai 1 fO (aa (ac 2) (ag))) (aa (ax bJ (mC (.int 1)) (ai 2 cB (aa (ac 2) (aa (mC (.int 5)) (ag))))) (ag)))) (aA (aS (ai 1 mL (aa (ac 5) (ag))) (ah 6)) (gt (bq (aa (mC (.int 40)) (ag))) (ah 7) step))
def turn:MS:=aA (aS (ai 2 fP (aa (ac 0) (aa (ac 1) (ag)))) (ah 2)) (gt (bq (aa (mC (.int 3)) (ag))) (ah 3) Dt)
def Tr{S:ab}{q n:Nat}(P:Pk S q)(h1:1<=n)(h5:n<=5):∃ dd S',fR [.ref q,.int (n:Int)] S=Z (Dd.d dd,S')/\dd.Ok n/\Pk S' q/\Keep q S S':=by
 rw [xW];exact KO BV (N:=ij) rfl P h1 (by omega)
def two(d:Dd):D:=.tup [.str (dO d),.int (cF d:Int)]
def cut2{S:ab}{d:Dd}(h:d≠.tick):sP d.d U (Z 2,S)=Z (two d,S):=by
 cases d with
 | tick=>exact absurd rfl h
 | ask wr g t=>rfl
 | act k g=>rfl
def Hw{d d':Dd}(h:d≠.tick)(h':d'≠.tick):js (two d) (two d')=true↔dO d=dO d'/\cF d=cF d':=by
 show ((dO d == dO d')&&((((cF d:Int)) == (cF d':Int))&&true))=true↔_
 rw [Uk,WE,beq_iff_eq,beq_iff_eq]
 constructor
 ·rintro⟨a,b⟩;exact⟨a,by omega⟩
 ·rintro⟨a,b⟩;exact⟨a,by omega⟩
def wordK:∀ k k':Ak,k.s=k'.s->k=k':=λk k' h=>by
 have:=beq_iff_eq.mpr h
 revert this
 cases k <;> cases k' <;> decide +kernel
def wantK:∀ a b:Bool,bF a=bF b->a=b:=λa b h=>by
 have:=beq_iff_eq.mpr h
 revert this
 cases a <;> cases b <;> decide +kernel
def Hr:∀ (a:Bool) (k:Ak),bF a≠k.s:=λa k h=>by
 have:=beq_iff_eq.mpr h
 revert this
 cases a <;> cases k <;> decide +kernel
def Bg{R:Rm}{d d':Dd}(h:d≠.tick)(h':d'≠.tick)(hw:dO d=dO d')(hg:cF d=cF d'):dP R d=dP R d':=by
 cases d with
 | tick=>exact absurd rfl h
 | ask wr g t=>
  cases d' with
  | tick=>exact absurd rfl h'
  | ask wr' g' t'=>have:g=g':=hg;subst this;rfl
  | act k' g'=>exact absurd hw (Hr wr k')
 | act k g=>
  cases d' with
  | tick=>exact absurd rfl h'
  | ask wr' g' t'=>exact absurd hw.symm (Hr wr' k)
  | act k' g'=>have:g=g':=hg;subst this;have:=wordK k k' hw;subst this;rfl
def Lx{n:Nat}{d:Dd}(h:d≠.tick)(hd:d.Ok n):∃ d'∈pZ n,dO d'=dO d/\cF d'=cF d:=by
 cases d with
 | tick=>exact absurd rfl h
 | ask wr g t=>
  refine⟨.ask wr g U,?_,rfl,rfl⟩
  unfold pZ GW
  refine US _ (WH.mpr ⟨wr,by cases wr <;> simp,Uz.mpr ⟨g,Vr.mpr hd.1,rfl⟩⟩)
 | act k g=>
  refine⟨.act k g,?_,rfl,rfl⟩
  unfold pZ GX
  refine UW _ (WH.mpr ⟨k,by cases k <;> simp,Uz.mpr ⟨g,Vr.mpr hd,rfl⟩⟩)
def Nh{S:ab}{R:Rm}{n:Nat}{dd:Dd}{a0 a1 a2 a3 a4 a5 a6 a7 a10 a11:Option D}(hd:dd.Ok n)(h5:n<=5):Ni [a0,a1,a2,a3,a4,a5,a6,a7,Z dd.d,Z (.tup ((sr R n).map Dd.d)),a10,a11] S=Z (dP R dd,S):=by
 have k1:cZ ([.str "tick"],S)=Z (.tup [.str "tick"],S):=bi (by simp)
 by_cases ht:dd=.tick
 ·subst ht
  have e:cI S Dd.tick.d (.tup [.str "tick"])=Z (.bl true):=JY rfl
  simp only [Ni,fc,aN,aH,ak,bG,bM,bL,oj,ob,aj,av,bD,aq,be,ao,az,am,k1,aw,e,aK,sR]
  rfl
 ·have e:cI S dd.d (.tup [.str "tick"])=Z (.bl false):=by
   cases dd with
   | tick=>exact absurd rfl ht
   | ask wr g t=>rw [jH (by cases t <;> rfl) rfl];exact congrArg _ (congrArg _ (by show (_&&(_:Bool))=false;rw [Bool.and_comm];rfl))
   | act k g=>rw [jH rfl rfl];exact congrArg _ (congrArg _ (by show (_&&(_:Bool))=false;rw [Bool.and_comm];rfl))
  have hlen:(sr R n).length<=1000:=UV (VC _ _) (by unfold pZ;rw [UC,uc,ud];omega)
  have nt:∀ x∈sr R n,x≠.tick:=λx hx=>(rq (UL.mp hx).1).2
  have kc:=gI (S:=S) (t:=bx) (e:=ca (ac 0) (cb) (cW (mC (.int 2)))) (cap:=[U]) (env:=[a0,a1,a2,a3,a4,a5,a6,a7,Z dd.d,Z (.tup ((sr R n).map Dd.d)),a10,a11]) (rest:=[]) (a:=U) (enc:=Dd.d) (p:=λ_=>true) (f:=two) (xs:=sr R n) rfl hlen (λ_ _=>iF) (λx hx _=>by
   simp only [jb,ak,bG,oj,ob,aj,nS,jc,nR,kT,be,kW,cut2 (nt x hx)])
  rw [Vn.mpr (λ_ _=>rfl)] at kc
  have fi:nk S (two dd) (.lst ((sr R n).map two))=Z (.bl (dP R dd)):=by
   rw [lO (ys:=(sr R n).map two) rfl rfl (by rw [UF];intro d hd;obtain⟨y,_,rfl⟩:=Uz.mp hd;rfl)]
   refine congrArg _ (congrArg _ ?_)
   rw [UK,UB]
   constructor
   ·rintro⟨d,hd',e⟩
    obtain⟨y,hy,rfl⟩:=Uz.mp hd'
    obtain⟨e1,e2⟩:=(Hw (nt y hy) ht).mp e
    rw [<- Bg (nt y hy) ht e1 e2]
    exact(UL.mp hy).2
   ·intro hc
    obtain⟨y,hy,e1,e2⟩:=Lx ht hd
    have yt:=(rq hy).2
    refine⟨two y,Uz.mpr ⟨y,UL.mpr ⟨hy,?_⟩,rfl⟩,(Hw yt ht).mpr ⟨e1,e2⟩⟩
    rw [Bg yt ht e1 e2];exact hc
  have s2:=cut2 (S:=S) ht
  simp only [Ni,cuC,fc,aN,aH,ak,bG,bM,bL,oj,ob,aj,av,bD,aq,be,ao,az,am,k1,aw,e,aK,gc,jb,nS,jc,nR,kT,kW,s2,cK,dL,sT,kc,fi]
def KL{r:Rl}{R:Rm}{dd:Dd}(hd:dd.Ok R.1.length)(hc:dP R dd=true):∃ x,du r R dd=Z x:=by
 unfold du
 rw [if_neg (by rw [hc];exact λz=>by cases z)]
 cases dd with
 | tick=>exact⟨_,rfl⟩
 | ask wr g t=>exact⟨_,rfl⟩
 | act k g=>
  dsimp only
  split
  ·exact⟨_,rfl⟩
  ·rw [Uq (show g<R.1.length from hd)];exact⟨_,rfl⟩
def LU{S:ab}{q n:Nat}{r:Rl}{l:List Dd}{R:Rm}{a0 a1 a3 a7 a8 a9 a10 a11:Option D}(P:Pk S q)(h1:1<=n)(h5:n<=5)(Rk:r.Ok)(B:Behind r n l R)(hst:Still r R)(hL:l.length<=80) :
  ∃ l' R' b8 b9 b10 b11 S',step [a0,a1,Z (.ref q),a3,Z r.d,Z (.int (n:Int)),Z (aG R),a7,a8,a9,a10,a11] S=Z (.nx [a0,a1,Z (.ref q),a3,Z r.d,Z (.int (n:Int)),Z (aG R'),a7,b8,b9,b10,b11] S')/\Pk S' q/\Behind r n l' R'/\Still r R'/\l'.length<=l.length+1:=by
 have hR:=B.ok
 obtain⟨dd,S1,e1,hd,P1,K1⟩:=Tr P h1 h5
 have my:=mayOk (S:=S1) (R:=R) h5 hR.2
 have mt:=Nh (S:=S1) (R:=R) (a0:=a0) (a1:=a1) (a2:=Z (.ref q)) (a3:=a3) (a4:=Z r.d) (a5:=Z (.int (n:Int))) (a6:=Z (aG R)) (a7:=a7) (a10:=a10) (a11:=a11) hd h5
 cases hc:dP R dd with
 | false=>
  rw [hc] at mt
  refine⟨l,R,Z dd.d,Z (.tup ((sr R n).map Dd.d)),a10,a11,S1,?_,P1,B,hst,by omega⟩
  simp only [step,ba,bH,aD,aq,ak,bG,bM,bL,oj,ob,aj,ao,az,am,aV,e1,bI,bd,gH,ik,cj,aI,my,bv,mt,bA,bm]
 | true=>
  rw [hc] at mt
  obtain⟨x,hx⟩:=KL (r:=r) (by rw [hR.2];exact hd) hc
  obtain⟨T,e2⟩:=LS (S:=S1) Rk.b0 hR.1 hR.2 h5 hd hx
  have B':Behind r n (l++[dd]) x.1:=B.snoc hd hx
  have hR':=B'.ok
  have st':=CY hR.1 Rk.b0 hst hx
  have mb:MB 999 x.1.2:=B'.mb.mono (UV (Nat.mul_le_mul (show (l++[dd]).length<=81 by rw [UC,Vd];omega) (show 2 * n+1<=11 by omega)) (by decide))
  have e3:=RO (S:=S1++T) (r:=r) hR'.2 h5 hR'.1 Rk.b0 (B'.saf Rk.a0) mb st'
  have few:=wy hR.1 (by rw [hR.2];exact h5) hx
  have e4:=Qm (S:=(S1++T)++[.lst []]) (R:=R) (R':=x.1) (es:=x.2) hR.2 h5 (by omega) λg w hw=>Oh hR.1 Rk.b0 hst hw hx
  have e2':gJ [r.d,.int (n:Int),aG R,dd.d] S1=Z (.tup [aG x.1,cU x.2],S1++T):=e2
  have g2:∀ (u v:D) env S,aY 2 (af (ah 10) (af (ah 11) (aQ))) (.tup [u,v]) env S=(af (ah 10) (af (ah 11) (aQ))) [u,v] env S:=λu v env S=>dg
  refine⟨l++[dd],x.1,Z dd.d,Z (.tup ((sr R n).map Dd.d)),Z (aG x.1),Z (cU x.2),(S1++T)++[.lst []],?_,P1.appT.appT,B',st',by rw [UC];exact Uw _⟩
  simp only [step,HP,ba,bH,aD,aq,ak,bG,bM,bL,oj,ob,aj,ao,az,am,aV,e1,bI,bd,gH,ik,cj,aI,my,bv,mt,bX,Jx,e2',g2,bQ,eE,cE,fc,kU,dR,bP,e3,gb,kY,UY,gc,e4,bA,bm]
theorem za{q n:Nat}{r:Rl}{a0 a1 a3:Option D}(h1:1<=n)(h5:n<=5)(Rk:r.Ok):∀ (ds:List D) (l:List Dd) (R:Rm) (S:ab) (a7 a8 a9 a10 a11:Option D),Pk S q->Behind r n l R->Still r R->l.length+ds.length<=80 ->
  ∃ b6 b7 b8 b9 b10 b11 S',cz (ah 7) step ds [a0,a1,Z (.ref q),a3,Z r.d,Z (.int (n:Int)),Z (aG R),a7,a8,a9,a10,a11] S=Z (.nx [a0,a1,Z (.ref q),a3,Z r.d,Z (.int (n:Int)),b6,b7,b8,b9,b10,b11] S')/\Pk S' q
 | [],l,R,S,a7,a8,a9,a10,a11,P,B,st,hl=>⟨_,a7,a8,a9,a10,a11,S,vH,P⟩
 | d::ds,l,R,S,a7,a8,a9,a10,a11,P,B,st,hl=>by
  rw [UE] at hl
  obtain⟨l',R',b8,b9,b10,b11,S1,e1,P1,B1,st1,hl1⟩:=LU (a0:=a0) (a1:=a1) (a3:=a3) (a7:=Z d) (a8:=a8) (a9:=a9) (a10:=a10) (a11:=a11) P h1 h5 Rk B st (by omega)
  obtain⟨c6,c7,c8,c9,c10,c11,S2,e2,P2⟩:=za h1 h5 Rk ds l' R' S1 (Z d) b8 b9 b10 b11 P1 B1 st1 (by omega)
  refine⟨c6,c7,c8,c9,c10,c11,S2,?_,P2⟩
  rw [fe]
  simp only [bd,ob,gH,ik,nU,e1,mF]
  exact e2
def yZ{r:Rl}{n:Nat}(hb:0<=r.b):Still r (dq n):=by
 have s:=kj (r:=r) (R:=dq n) wu hb
 unfold Still
 generalize gv r (dq n)=o at s
 generalize (iJ r (dq n)).1=x at s
 generalize (iJ r (dq n)).2=y at s
 cases s with
 | up g h=>
  have:(List.replicate n Wd.out)[g]?=Z .rising:=h
  rw [XI] at this
  split at this <;> cases this
 | go i e h=>cases h
 | no=>rfl
def Hx{S:ab}{q:Nat}{a0 a1 a3 a4 a5 a6 a7 a8 a9 a10 a11:Option D}(P:Pk S q):∃ b4 b5 b6 b7 b8 b9 b10 b11 S',Dt [a0,a1,Z (.ref q),a3,a4,a5,a6,a7,a8,a9,a10,a11] S=Z (.nx [a0,a1,Z (.ref q),a3,b4,b5,b6,b7,b8,b9,b10,b11] S')/\Pk S' q:=by
 obtain⟨r,S2,e2,Rk,P2,K2⟩:=rule P
 obtain⟨m,S3,e3,m0,m5,P3,K3⟩:=BV _ _ 5 P2 (by decide) (by decide)
 obtain⟨n,hn⟩:∃ n:Nat,1+m=(n:Int):=⟨(1+m).toNat,by omega⟩
 have e4:=NV S3 n (by omega)
 have k1:Nq ([.int 40],S3)=Z (cQ 0 40,S3):=nT (by decide) (by decide)
 obtain⟨b6,b7,b8,b9,b10,b11,S',e,P'⟩:=za (q:=q) (n:=n) (r:=r) (a0:=a0) (a1:=a1) (a3:=a3) (by omega) (by omega) Rk (cQ 0 40) [] (dq n) S3 a7 a8 a9 a10 a11 P3 .nil (yZ Rk.b0) (by decide)
 refine⟨Z r.d,Z (.int (n:Int)),b6,b7,b8,b9,b10,b11,S',?_,P'⟩
 simp only [Dt,ba,IZ,aq,aD,ak,bG,bM,bL,oj,ob,aj,ao,az,am,lH,e2,aH,be,av,aV,e3,aw,tR,hn,Jp,gH,ik,aI,bH,e4,bI,bd,cj,sH,gF,k1,sU,e]
def LL{S:ab}{ns:List Int}{k:Int}{a2 a3 a4 a5 a6 a7 a8 a9 a10 a11:Option D}(h0:0<=k)(h1:k<=100000) :
  ∃ b2 b3 b4 b5 b6 b7 b8 b9 b10 b11 S',turn [Z (.rol (ns.map .int)),Z (.int k),a2,a3,a4,a5,a6,a7,a8,a9,a10,a11] S=Z (.nx [Z (.rol (ns.map .int)),Z (.int k),b2,b3,b4,b5,b6,b7,b8,b9,b10,b11] S'):=by
 obtain⟨p,q,e1,p0,q0,q1⟩:=left (S:=S) (ns:=ns) h0 h1
 have P1:=Ue (S:=S) (c:=0) p0 q0 q1
 have k1:∀ S,Nq ([.int 3],S)=Z (cQ 0 3,S):=λS=>nT (by decide) (by decide)
 obtain⟨env',S',e,⟨a3',a4',a5',a6',a7',a8',a9',a10',a11',rfl⟩,P'⟩:=tF (tg:=ah 3) (p:=Dt) (λenv T=>(∃ a3 a4 a5 a6 a7 a8 a9 a10 a11,env=[Z (.rol (ns.map .int)),Z (.int k),Z (.ref S.length),a3,a4,a5,a6,a7,a8,a9,a10,a11])/\Pk T S.length) (cQ 0 3) (λd hd env T hI=>by
  obtain⟨⟨a3,a4,a5,a6,a7,a8,a9,a10,a11,rfl⟩,P⟩:=hI
  obtain⟨b4,b5,b6,b7,b8,b9,b10,b11,T',e,P'⟩:=Hx (a0:=Z (.rol (ns.map .int))) (a1:=Z (.int k)) (a3:=Z d) (a4:=a4) (a5:=a5) (a6:=a6) (a7:=a7) (a8:=a8) (a9:=a9) (a10:=a10) (a11:=a11) P
  exact⟨_,_,_,_,bd,e,⟨_,_,_,_,_,_,_,_,_,rfl⟩,P'⟩) [Z (.rol (ns.map .int)),Z (.int k),Z (.ref S.length),a3,a4,a5,a6,a7,a8,a9,a10,a11] _ ⟨⟨_,_,_,_,_,_,_,_,_,rfl⟩,P1⟩
 refine⟨Z (.ref S.length),a3',a4',a5',a6',a7',a8',a9',a10',a11',S',?_⟩
 simp only [turn,ba,bH,aD,aq,ak,bG,bM,bL,oj,ob,aj,ao,az,am,aV,e1,bI,bd,gH,ik,cj,aI,sH,gF,be,k1,sU,e]
def Jj:∀ ns:List Int,ns.length<=63->∃ S',AL [.rol (ns.map .int)] []=Z (.bl true,S'):=λns hl=>by
 rw [Rx,aU (show [D.rol (ns.map .int)].length=1 from rfl),show ay Bo [D.rol (ns.map .int)]=[Z (.rol (ns.map .int)),U,U,U,U,U,U,U,U,U,U,U] from rfl]
 have hm:Ph=aA (gt (bq (aa (bn (aT ph) (aa (mC (.int 3)) (aa (bn (aT AM) (aa (bn (aT eI) (aa (ac 0) (ag))) (aa (mC (.int 8)) (ag)))) (ag)))) (ag))) (ah 1) turn) (aJ (mC (.bl true))):=rfl
 rw [hm]
 generalize hk:(if (if (8:Int)<(ns.length:Int) then 8 else (ns.length:Int))>3 then (if (8:Int)<(ns.length:Int) then 8 else (ns.length:Int)) else 3)=k
 have hk':0<=k/\k<=26:=by rw [<- hk];split <;> (try split) <;> omega
 have k1:Nq ([.int k],[])=Z (cQ 0 k.toNat,[]):=nT (by omega) (by omega)
 obtain⟨env',S',e,a1,a2,a3,a4,a5,a6,a7,a8,a9,a10,a11,rfl⟩:=tF (tg:=ah 1) (p:=turn) (λenv _=>∃ a1 a2 a3 a4 a5 a6 a7 a8 a9 a10 a11,env=[Z (.rol (ns.map .int)),a1,a2,a3,a4,a5,a6,a7,a8,a9,a10,a11]) (cQ 0 k.toNat) (λd hd env S hI=>by
  obtain⟨a1,a2,a3,a4,a5,a6,a7,a8,a9,a10,a11,rfl⟩:=hI
  obtain⟨i,hi,rfl⟩:=Ci hd
  obtain⟨b2,b3,b4,b5,b6,b7,b8,b9,b10,b11,S2,e⟩:=LL (S:=S) (ns:=ns) (k:=0+(i:Int)) (a2:=a2) (a3:=a3) (a4:=a4) (a5:=a5) (a6:=a6) (a7:=a7) (a8:=a8) (a9:=a9) (a10:=a10) (a11:=a11) (by omega) (by omega)
  exact⟨_,_,_,_,bd,e,_,_,_,_,_,_,_,_,_,_,_,rfl⟩) [Z (.rol (ns.map .int)),U,U,U,U,U,U,U,U,U,U,U] [] ⟨_,_,_,_,_,_,_,_,_,_,_,rfl⟩
 refine⟨S',?_⟩
 simp only [ba,sH,gF,aq,aH,be,ob,av,cu,ao,ak,bG,oj,aj,az,am,cw,SQ,NL,NM,Ux,hk,k1,sU,e,aI,aP,bg,aC]
end K55
end
namespace PySem.W.Fast
def tw17637830658717796876:=0
def tw9621511151006332480:=0
def tw14778769681357433137:=0
def tw2619227223180767883:=0
def tw5842856655602336749:=0
def tw3883161451735202609:=0
def tw9472001576273240306:=0
def tw16648267234749277200:=0
def tw515836031800122761:=0
def tw1068261166128974020:=0
def tw3314351686698878378:=0
def tw2660633817692726441:=0
def tw8363240195230650038:=0
def tw249477381847693366:=0
def tw10425423343154652196:=0
def tw7282327451523924400:=0
def tw18397456360656871561:=0
def tw2401138516844794229:=0
def tw2192415060245142334:=0
def tw712355070389657787:=0
def tw17166442792560976993:=0
def tw16454517696649129631:=0
def tw18293780380276805092:=0
def tw7842978634647953831:=0
def tw2837648006362059888:=0
def tw1617738267715159918:=0
def tw5549074977201465552:=0
def tw16787430215860070358:=0
def tw2688716303000323855:=0
def tw3679217729338248582:=0
def tw13013211033749004068:=0
def tw2685489447039155355:=0
def tw14653956314232135787:=0
def tw4307869795950690101:=0
def tw3923778892500087062:=0
def tw16451474543285058252:=0
def tw10193736488181297099:=0
def tw7152295308783675783:=0
def tw16802096975047656690:=0
def tw14880048247959562372:=0
def tw6765374516665084213:=0
def tw6445652245488670304:=0
def tw1775289187195787946:=0
def tw4868339555018099228:=0
def tw14187432746436525334:=0
def tw12949019173616445729:=0
def tw6875794061079192078:=0
def tw3257517894095274692:=0
def tw4591645225493415562:=0
def tw18160948649052090285:=0
def tw11358988010374653954:=0
def tw1560607770699417395:=0
def tw8436546357906549242:=0
def tw16274645256994892991:=0
def tw7566567116692393932:=0
def tw15754916230696844219:=0
def tw16508393881246683959:=0
def tw13078875239848281105:=0
def tw12743300823389092896:=0
def tw15154822321209706740:=0
def tw5161331381428374940:=0
def tw9017656167000988655:=0
def tw4886284298501907075:=0
def tw6662732714759505397:=0
def tw13184358515467927569:=0
def tw663197049581811875:=0
def tw17661086568423295267:=0
def tw6995155539078088842:=0
def tw17181931973050412819:=0
def tw1144805243775756279:=0
def tw10524357198501279467:=0
def tw1884035034648190648:=0
def tw5440716880190788048:=0
def tw4961983021695002826:=0
def tw142487507539333263:=0
def tw2407251069290412303:=0
def tw1945859895069928100:=0
def tw14853223487057623241:=0
def tw10180870577667877243:=0
def tw16742449009492663506:=0
def tw3779599322479129835:=0
def tw17564500838955885393:=0
def tw3805302276931031368:=0
def tw6237089038464718253:=0
end PySem.W.Fast
def PySem.W.Fast.tw6615581575123463608:PySem.Program:=PySem.Challenge.pw_manyreaders_k55_whole_safe_and_full
def PySem.W.Fast.te6615581575123463608:PySem.Challenge.pw_manyreaders_k55_whole_safe_and_full=W.Fast.tw6615581575123463608:=rfl
namespace K55
def c0:Stmt:=eL 0
def c5:Stmt:=eL 5
def c6:Stmt:=eL 6
def c7:Stmt:=eL 7
def c8:Stmt:=eL 8
def c9:Stmt:=eL 9
def c10:Stmt:=eL 10
def c11:Stmt:=eL 11
def c24:Stmt:=eL 24
def c25:Stmt:=eL 25
def c26:Stmt:=eL 26
def c35:Stmt:=eL 35
def c36:Stmt:=eL 36
def c37:Stmt:=eL 37
def c38:Stmt:=eL 38
def c39:Stmt:=eL 39
def c55:Stmt:=eL 55
def c56:Stmt:=eL 56
def pw2:Program:={ PySem.Challenge.pw_manyreaders_k55_whole_safe_and_full with main:={ PySem.Challenge.pw_manyreaders_k55_whole_safe_and_full.main with body:=[c0,gz,eh,iP,dF,c5,c6,c7,c8,c9,c10,c11,iS,fq,fu,iQ,mr,eg,fh,dG,fj,dh,iK,iR,c24,c25,c26,jS,iO,gA,fo,iN,jR,ej,jQ,c35,c36,c37,c38,c39,iT,fv,jP,jT,iL,pA,ft,gB,er,dH,eo,el,gy,jO,cN,c55,c56,di,fB,gC,fA,fz,fD,fC,fx,vd] } }
def lw:W.OpenLaw:={ PySem.Challenge.rw_manyreaders_k55_whole_safe_and_full with prog:=pw2 }
def lw_eq:PySem.Challenge.rw_manyreaders_k55_whole_safe_and_full=lw:=by kernel_rfl
end K55
namespace K55
open L2 MI M
def kf0(P:Params):W.Frag:=[(3,⟨.type "dict",U,.dict #[kE P "__name__" 165 (.str "law_manyreaders_k55_whole_safe_and_full" 640),kE P "__doc__" 166 .none,kE P "__package__" 167 .none,kE P "__loader__" 168 (.builtin "__main__.__loader__#opaque"),kE P "__spec__" 169 .none,kE P "__annotations__" 170 (.ref 6),kE P "__builtins__" 171 (.ref 4),kE P "__file__" 173 (.str "/claim/cut.py" 172),kE P "__cached__" 174 .none,kE P "is_whole" 195 (.ref 21),kE P "is_between" 204 (.ref 28),kE P "is_word" 212 (.ref 35),kE P "is_tuple_of" 220 (.ref 42),kE P "WITHIN_WORDS" 228 (.ref 43),kE P "READING_WORDS" 231 (.ref 44),kE P "WRITING_WORDS" 234 (.ref 45),kE P "WANTS" 237 (.ref 46),kE P "GREATEST_MARK" 239 (.int 999 238),kE P "GREATEST_LEFT" 241 (.int 9 240),kE P "is_room" 251 (.ref 53),kE P "is_within" 257 (.ref 58),kE P "are_waits" 263 (.ref 63),kE P "is_wait" 275 (.ref 70),kE P "empty" 282 (.ref 77),kE P "readers_in" 289 (.ref 84),kE P "writer_in" 297 (.ref 91),kE P "guests_with" 303 (.ref 96),kE P "with_word" 314 (.ref 103),kE P "without_wait" 320 (.ref 108),kE P "waiting" 329 (.ref 115),kE P "is_safe" 341 (.ref 122),kE P "FAVOURED" 355 (.ref 123),kE P "WORD_WITHIN" 362 (.ref 124),kE P "can_go" 368 (.ref 129),kE P "next_in" 377 (.ref 136),kE P "foremost" 383 (.ref 141),kE P "next_past" 395 (.ref 148),kE P "settled" 405 (.ref 155),kE P "coming" 414 (.ref 162),kE P "brought_by" 425 (.ref 169),kE P "let_in" 431 (.ref 174),kE P "GuestError" 451 (.ref 184),kE P "NoDeed" 476 (.ref 204),kE P "GUEST_WORDS" 483 (.ref 207),kE P "is_deed" 494 (.ref 214),kE P "all_deeds" 500 (.ref 219),kE P "may_do" 506 (.ref 224),kE P "can_do" 517 (.ref 231),kE P "stepped" 527 (.ref 238),kE P "done" 537 (.ref 245),kE P "bring_ask" 553 (.ref 252),kE P "bring_up" 564 (.ref 259),kE P "bring_down" 574 (.ref 266),kE P "bring_leave" 584 (.ref 273),kE P "bring_stop" 595 (.ref 280),kE P "bring_tick" 601 (.ref 285),kE P "one_less" 608 (.ref 292),kE P "turned" 614 (.ref 297),kE P "settled_behind" 624 (.ref 304),kE P "BRINGS" 639 (.ref 305),kE P "_law_cell_at" 649 (.ref 312),kE P "_law_left" 659 (.ref 319),kE P "_law_far" 667 (.ref 326),kE P "_law_pick" 676 (.ref 333),kE P "_law_rule" 686 (.ref 340),kE P "_law_deed" 696 (.ref 347),kE P "_law_kept" 702 (.ref 352),kE P "_law_told" 708 (.ref 357),kE P "law" 714 (.ref 362)] 69,#[]⟩),(20,kC "is_whole" 189 2 1 15 16 (.ref 17) (.ref 18) 19 193),(21,kF "is_whole" gz "manyreaders.kinds" 187 20),(27,kC "is_between" 196 4 3 22 23 (.ref 24) (.ref 25) 26 202),(28,kF "is_between" eh "manyreaders.kinds" 187 27),(34,kC "is_word" 205 6 2 29 30 (.ref 31) (.ref 32) 33 210),(35,kF "is_word" iP "manyreaders.kinds" 187 34),(41,kC "is_tuple_of" 213 8 2 36 37 (.ref 38) (.ref 39) 40 218)]
def kf1(P:Params):W.Frag:=[(42,kF "is_tuple_of" dF "manyreaders.kinds" 187 41),(43,⟨.type "tuple",U,.seq #[.str "out" 223,.str "reads" 224,.str "rising" 225,.str "writes" 226,.str "raised" 227] 0,#[]⟩),(44,⟨.type "tuple",U,.seq #[.str "reads" 229,.str "rising" 230] 0,#[]⟩),(45,⟨.type "tuple",U,.seq #[.str "writes" 232,.str "raised" 233] 0,#[]⟩),(46,⟨.type "tuple",U,.seq #[.str "read" 235,.str "write" 236] 0,#[]⟩),(52,kC "is_room" 242 17 2 47 48 (.ref 49) (.ref 50) 51 249),(53,kF "is_room" iS "manyreaders.rooms" 221 52),(57,kC "is_within" 252 22 2 54 55 .none .none 56 255)]
def kf2(P:Params):W.Frag:=[(58,kF "is_within" fq "manyreaders.rooms" 221 57),(62,kC "are_waits" 258 24 2 59 60 .none .none 61 261),(63,kF "are_waits" fu "manyreaders.rooms" 221 62),(69,kC "is_wait" 264 29 2 64 65 (.ref 66) (.ref 67) 68 273),(70,kF "is_wait" iQ "manyreaders.rooms" 221 69),(76,kC "empty" 276 38 1 71 72 (.ref 73) (.ref 74) 75 280),(77,kF "empty" mr "manyreaders.rooms" 221 76),(83,kC "readers_in" 283 40 1 78 79 (.ref 80) (.ref 81) 82 287)]
def kf3(P:Params):W.Frag:=[(84,kF "readers_in" eg "manyreaders.rooms" 221 83),(90,kC "writer_in" 290 42 1 85 86 (.ref 87) (.ref 88) 89 295),(91,kF "writer_in" fh "manyreaders.rooms" 221 90),(95,kC "guests_with" 298 45 2 92 93 .none .none 94 301),(96,kF "guests_with" dG "manyreaders.rooms" 221 95),(102,kC "with_word" 304 47 3 97 98 (.ref 99) (.ref 100) 101 312),(103,kF "with_word" fj "manyreaders.rooms" 221 102),(107,kC "without_wait" 315 50 2 104 105 .none .none 106 318)]
def kf4(P:Params):W.Frag:=[(108,kF "without_wait" dh "manyreaders.rooms" 221 107),(114,kC "waiting" 321 53 2 109 110 (.ref 111) (.ref 112) 113 327),(115,kF "waiting" iK "manyreaders.rooms" 221 114),(121,kC "is_safe" 330 60 2 116 117 (.ref 118) (.ref 119) 120 339),(122,kF "is_safe" iR "manyreaders.rooms" 221 121),(123,⟨.type "dict",U,.dict #[kE P "rows" 344 .none,kE P "readers" 345 (.str "read" 346),kE P "writers" 347 (.str "write" 348),kE P "turns" 349 (.str "write" 350)] 4,#[]⟩),(124,⟨.type "dict",U,.dict #[kE P "read" 356 (.str "reads" 357),kE P "write" 358 (.str "writes" 359)] 2,#[]⟩),(128,kC "can_go" 363 73 3 125 126 .none .none 127 366)]
def kf5(P:Params):W.Frag:=[(129,kF "can_go" jS "manyreaders.doors" 342 128),(135,kC "next_in" 369 82 2 130 131 (.ref 132) (.ref 133) 134 375),(136,kF "next_in" iO "manyreaders.doors" 342 135),(140,kC "foremost" 378 87 2 137 138 .none .none 139 381),(141,kF "foremost" gA "manyreaders.doors" 342 140),(147,kC "next_past" 384 92 2 142 143 (.ref 144) (.ref 145) 146 393),(148,kF "next_past" fo "manyreaders.doors" 342 147),(154,kC "settled" 396 99 2 149 150 (.ref 151) (.ref 152) 153 403)]
def kf6(P:Params):W.Frag:=[(155,kF "settled" iN "manyreaders.doors" 342 154),(161,kC "coming" 406 107 2 156 157 (.ref 158) (.ref 159) 160 412),(162,kF "coming" jR "manyreaders.doors" 342 161),(168,kC "brought_by" 415 113 3 163 164 (.ref 165) (.ref 166) 167 423),(169,kF "brought_by" ej "manyreaders.doors" 342 168),(173,kC "let_in" 426 118 3 170 171 .none .none 172 429),(174,kF "let_in" jQ "manyreaders.doors" 342 173),(207,⟨.type "tuple",U,.seq #[.str "up" 479,.str "down" 480,.str "leave" 481,.str "stop" 482] 0,#[]⟩)]
def kf7(P:Params):W.Frag:=[(213,kC "is_deed" 484 134 2 208 209 (.ref 210) (.ref 211) 212 492),(214,kF "is_deed" iT "manyreaders.deeds" 477 213),(218,kC "all_deeds" 495 143 1 215 216 .none .none 217 498),(219,kF "all_deeds" fv "manyreaders.deeds" 477 218),(223,kC "may_do" 501 146 2 220 221 .none .none 222 504),(224,kF "may_do" jP "manyreaders.deeds" 477 223),(230,kC "can_do" 507 148 2 225 226 (.ref 227) (.ref 228) 229 515),(231,kF "can_do" jT "manyreaders.deeds" 477 230)]
def kf8(P:Params):W.Frag:=[(237,kC "stepped" 518 162 4 232 233 (.ref 234) (.ref 235) 236 525),(238,kF "stepped" iL "manyreaders.deeds" 477 237),(244,kC "done" 528 166 3 239 240 (.ref 241) (.ref 242) 243 535),(245,kF "done" pA "manyreaders.deeds" 477 244),(251,kC "bring_ask" 538 169 3 246 247 (.ref 248) (.ref 249) 250 551),(252,kF "bring_ask" ft "manyreaders.deeds" 477 251),(258,kC "bring_up" 554 179 3 253 254 (.ref 255) (.ref 256) 257 562),(259,kF "bring_up" gB "manyreaders.deeds" 477 258)]
def kf9(P:Params):W.Frag:=[(265,kC "bring_down" 565 187 3 260 261 (.ref 262) (.ref 263) 264 572),(266,kF "bring_down" er "manyreaders.deeds" 477 265),(272,kC "bring_leave" 575 190 3 267 268 (.ref 269) (.ref 270) 271 582),(273,kF "bring_leave" dH "manyreaders.deeds" 477 272),(279,kC "bring_stop" 585 193 3 274 275 (.ref 276) (.ref 277) 278 593),(280,kF "bring_stop" eo "manyreaders.deeds" 477 279),(284,kC "bring_tick" 596 200 3 281 282 .none .none 283 599),(285,kF "bring_tick" el "manyreaders.deeds" 477 284)]
def kf10(P:Params):W.Frag:=[(291,kC "one_less" 602 206 1 286 287 (.ref 288) (.ref 289) 290 606),(292,kF "one_less" gy "manyreaders.deeds" 477 291),(296,kC "turned" 609 208 3 293 294 .none .none 295 612),(297,kF "turned" jO "manyreaders.deeds" 477 296),(303,kC "settled_behind" 615 213 3 298 299 (.ref 300) (.ref 301) 302 622),(304,kF "settled_behind" cN "manyreaders.deeds" 477 303),(305,⟨.type "dict",U,.dict #[kE P "read" 625 (.ref 252),kE P "write" 626 (.ref 252),kE P "up" 627 (.ref 259),kE P "down" 628 (.ref 266),kE P "leave" 629 (.ref 273),kE P "stop" 630 (.ref 280),kE P "tick" 631 (.ref 285)] 7,#[]⟩),(311,kC "_law_cell_at" 642 218 2 306 307 (.ref 308) (.ref 309) 310 647)]
def kf11(P:Params):W.Frag:=[(312,kF "_law_cell_at" di "law_manyreaders_k55_whole_safe_and_full" 640 311),(318,kC "_law_left" 650 222 2 313 314 (.ref 315) (.ref 316) 317 657),(319,kF "_law_left" fB "law_manyreaders_k55_whole_safe_and_full" 640 318),(325,kC "_law_far" 660 229 0 320 321 (.ref 322) (.ref 323) 324 665),(326,kF "_law_far" gC "law_manyreaders_k55_whole_safe_and_full" 640 325),(332,kC "_law_pick" 668 234 2 327 328 (.ref 329) (.ref 330) 331 674),(333,kF "_law_pick" fA "law_manyreaders_k55_whole_safe_and_full" 640 332),(339,kC "_law_rule" 677 242 1 334 335 (.ref 336) (.ref 337) 338 684)]
def kf12(P:Params):W.Frag:=[(340,kF "_law_rule" fz "law_manyreaders_k55_whole_safe_and_full" 640 339),(346,kC "_law_deed" 687 247 2 341 342 (.ref 343) (.ref 344) 345 694),(347,kF "_law_deed" fD "law_manyreaders_k55_whole_safe_and_full" 640 346),(351,kC "_law_kept" 697 255 3 348 349 .none .none 350 700),(352,kF "_law_kept" fC "law_manyreaders_k55_whole_safe_and_full" 640 351),(356,kC "_law_told" 703 266 4 353 354 .none .none 355 706),(357,kF "_law_told" fx "law_manyreaders_k55_whole_safe_and_full" 640 356),(361,kC "law" 709 279 1 358 359 .none .none 360 712)]
def kf13(P:Params):W.Frag:=[(362,kF "law" vd "law_manyreaders_k55_whole_safe_and_full" 640 361)]
def db(P:Params):W.Frag:=(((kf0 P)++((kf1 P)++(kf2 P)))++(((kf3 P)++(kf4 P))++((kf5 P)++(kf6 P))))++(((kf7 P)++((kf8 P)++(kf9 P)))++(((kf10 P)++(kf11 P))++((kf12 P)++(kf13 P))))
def kads:List Addr:=[3,20,21,27,28,34,35,41,42,43,44,45,46,52,53,57,58,62,63,69,70,76,77,83,84,90,91,95,96,102,103,107,108,114,115,121,122,123,124,128,129,135,136,140,141,147,148,154,155,161,162,168,169,173,174,207,213,214,218,219,223,224,230,231,237,238,244,245,251,252,258,259,265,266,272,273,279,280,284,285,291,292,296,297,303,304,305,311,312,318,319,325,326,332,333,339,340,346,347,351,352,356,357,361,362]
def txt{w:World}{h:Heap}{mg:Str->Option Value}(X:(db w.params).In h)(G:h.Ns mainGlobals mg):iB w (db w.params) mg:=
 ⟨cP X G "law_manyreaders_k55_whole_safe_and_full" 312 640 311 (by kernel_rfl),cP X G "law_manyreaders_k55_whole_safe_and_full" 326 640 325 (by kernel_rfl),cP X G "law_manyreaders_k55_whole_safe_and_full" 319 640 318 (by kernel_rfl),cP X G "manyreaders.rooms" 77 221 76 (by kernel_rfl),cP X G "law_manyreaders_k55_whole_safe_and_full" 333 640 332 (by kernel_rfl),cP X G "law_manyreaders_k55_whole_safe_and_full" 340 640 339 (by kernel_rfl),cP X G "law_manyreaders_k55_whole_safe_and_full" 347 640 346 (by kernel_rfl),cP X G "manyreaders.deeds" 219 477 218 (by kernel_rfl),cP X G "manyreaders.rooms" 96 221 95 (by kernel_rfl),cP X G "manyreaders.rooms" 115 221 114 (by kernel_rfl),cP X G "manyreaders.deeds" 231 477 230 (by kernel_rfl),cP X G "manyreaders.deeds" 224 477 223 (by kernel_rfl),cP X G "manyreaders.doors" 141 342 140 (by kernel_rfl),cP X G "manyreaders.doors" 129 342 128 (by kernel_rfl),cP X G "manyreaders.doors" 148 342 147 (by kernel_rfl),cP X G "manyreaders.doors" 136 342 135 (by kernel_rfl),cP X G "manyreaders.doors" 162 342 161 (by kernel_rfl),cP X G "manyreaders.rooms" 103 221 102 (by kernel_rfl),cP X G "manyreaders.doors" 174 342 173 (by kernel_rfl),cP X G "manyreaders.doors" 169 342 168 (by kernel_rfl),cP X G "manyreaders.doors" 155 342 154 (by kernel_rfl),cP X G "manyreaders.rooms" 108 221 107 (by kernel_rfl),cP X G "manyreaders.deeds" 252 477 251 (by kernel_rfl),cP X G "manyreaders.deeds" 259 477 258 (by kernel_rfl),cP X G "manyreaders.deeds" 304 477 303 (by kernel_rfl),cP X G "manyreaders.deeds" 297 477 296 (by kernel_rfl),cP X G "manyreaders.deeds" 266 477 265 (by kernel_rfl),cP X G "manyreaders.deeds" 273 477 272 (by kernel_rfl),cP X G "manyreaders.deeds" 280 477 279 (by kernel_rfl),cP X G "manyreaders.deeds" 292 477 291 (by kernel_rfl),cP X G "manyreaders.deeds" 285 477 284 (by kernel_rfl),cP X G "manyreaders.deeds" 245 477 244 (by kernel_rfl),cP X G "manyreaders.kinds" 42 187 41 (by kernel_rfl),cP X G "manyreaders.kinds" 35 187 34 (by kernel_rfl),cP X G "manyreaders.kinds" 21 187 20 (by kernel_rfl),cP X G "manyreaders.kinds" 28 187 27 (by kernel_rfl),cP X G "manyreaders.deeds" 214 477 213 (by kernel_rfl),cP X G "manyreaders.deeds" 238 477 237 (by kernel_rfl),cP X G "manyreaders.rooms" 84 221 83 (by kernel_rfl),cP X G "manyreaders.rooms" 91 221 90 (by kernel_rfl),cP X G "manyreaders.rooms" 58 221 57 (by kernel_rfl),cP X G "manyreaders.rooms" 70 221 69 (by kernel_rfl),cP X G "manyreaders.rooms" 63 221 62 (by kernel_rfl),cP X G "manyreaders.rooms" 53 221 52 (by kernel_rfl),cP X G "manyreaders.rooms" 122 221 121 (by kernel_rfl),cP X G "law_manyreaders_k55_whole_safe_and_full" 352 640 351 (by kernel_rfl),cP X G "law_manyreaders_k55_whole_safe_and_full" 357 640 356 (by kernel_rfl),cP X G "law_manyreaders_k55_whole_safe_and_full" 362 640 361 (by kernel_rfl),Vo X G (by kernel_rfl),Vo X G (by kernel_rfl),Vo X G (by kernel_rfl),Vo X G (by kernel_rfl),Vo X G (by kernel_rfl),Vo X G (by kernel_rfl),Vo X G (by kernel_rfl),Vo X G (by kernel_rfl),Vo X G (by kernel_rfl),Vo X G (by kernel_rfl),Vo X G (by kernel_rfl),Vo X G (by kernel_rfl),Vo X G (by kernel_rfl),SH (VT X G (show W.nsIn (db w.params) mainGlobals "BRINGS" = Z (Z (.ref 305)) by kernel_rfl)) (show (db w.params).lookup 305=Z ⟨.type "dict",U,.dict #[⟨PyData.keyHash w.params "read",.str "read" 625,.ref 252⟩,⟨PyData.keyHash w.params "write",.str "write" 626,.ref 252⟩,⟨PyData.keyHash w.params "up",.str "up" 627,.ref 259⟩,⟨PyData.keyHash w.params "down",.str "down" 628,.ref 266⟩,⟨PyData.keyHash w.params "leave",.str "leave" 629,.ref 273⟩,⟨PyData.keyHash w.params "stop",.str "stop" 630,.ref 280⟩,⟨PyData.keyHash w.params "tick",.str "tick" 631,.ref 285⟩] 7,#[]⟩ by kernel_rfl) (.cons (.cons (.cons (.cons (.cons (.cons (.cons (.nil)))))))) (show List.Nodup ([.inr "read",.inr "write",.inr "up",.inr "down",.inr "leave",.inr "stop",.inr "tick"]:List bC) by decide +kernel) (.cons (VT X G (show W.nsIn (db w.params) mainGlobals "bring_ask" = Z (Z (.ref 252)) by kernel_rfl)) (.cons (VT X G (show W.nsIn (db w.params) mainGlobals "bring_ask" = Z (Z (.ref 252)) by kernel_rfl)) (.cons (VT X G (show W.nsIn (db w.params) mainGlobals "bring_up" = Z (Z (.ref 259)) by kernel_rfl)) (.cons (VT X G (show W.nsIn (db w.params) mainGlobals "bring_down" = Z (Z (.ref 266)) by kernel_rfl)) (.cons (VT X G (show W.nsIn (db w.params) mainGlobals "bring_leave" = Z (Z (.ref 273)) by kernel_rfl)) (.cons (VT X G (show W.nsIn (db w.params) mainGlobals "bring_stop" = Z (Z (.ref 280)) by kernel_rfl)) (.cons (VT X G (show W.nsIn (db w.params) mainGlobals "bring_tick" = Z (Z (.ref 285)) by kernel_rfl)) (.nil)))))))),HC (VT X G (show W.nsIn (db w.params) mainGlobals "FAVOURED" = Z (Z (.ref 123)) by kernel_rfl)) (show (db w.params).lookup 123=Z ⟨.type "dict",U,.dict #[⟨PyData.keyHash w.params "rows",.str "rows" 344,.none⟩,⟨PyData.keyHash w.params "readers",.str "readers" 345,.str "read" 346⟩,⟨PyData.keyHash w.params "writers",.str "writers" 347,.str "write" 348⟩,⟨PyData.keyHash w.params "turns",.str "turns" 349,.str "write" 350⟩] 4,#[]⟩ by kernel_rfl) (.cons (.cons (.cons (.cons (.nil))))) (show List.Nodup ([.inr "rows",.inr "readers",.inr "writers",.inr "turns"]:List bC) by decide +kernel) (.cons .non rfl (λ_ _ _=>.non) (.cons (V.str "read") ⟨_,rfl⟩ (λ_ _ _=>.str _) (.cons (V.str "write") ⟨_,rfl⟩ (λ_ _ _=>.str _) (.cons (V.str "write") ⟨_,rfl⟩ (λ_ _ _=>.str _) (.nil))))),⟨_,V.int 9,VT X G (show W.nsIn (db w.params) mainGlobals "GREATEST_LEFT" = Z (Z (.int 9 240)) by kernel_rfl),⟨_,rfl⟩,λμ H=>.int _⟩,⟨_,V.int 999,VT X G (show W.nsIn (db w.params) mainGlobals "GREATEST_MARK" = Z (Z (.int 999 238)) by kernel_rfl),⟨_,rfl⟩,λμ H=>.int _⟩,⟨_,.ref 207,VT X G (show W.nsIn (db w.params) mainGlobals "GUEST_WORDS" = Z (Z (.ref 207)) by kernel_rfl),rfl,λμ H=>.ktup (vs:=[V.str "up",V.str "down",V.str "leave",V.str "stop"]) ⟨_,_,_,(show (db w.params).lookup 207=Z ⟨.type "tuple",U,.seq #[.str "up" 479,.str "down" 480,.str "leave" 481,.str "stop" 482] 0,#[]⟩ by kernel_rfl),rfl,rfl,rfl,(show 4<=sizeLine by decide),.cons ⟨_,rfl⟩ (.cons ⟨_,rfl⟩ (.cons ⟨_,rfl⟩ (.cons ⟨_,rfl⟩ (.nil))))⟩ (.cons (.str _) (.cons (.str _) (.cons (.str _) (.cons (.str _) (.nil)))))⟩,⟨_,.ref 44,VT X G (show W.nsIn (db w.params) mainGlobals "READING_WORDS" = Z (Z (.ref 44)) by kernel_rfl),rfl,λμ H=>.ktup (vs:=[V.str "reads",V.str "rising"]) ⟨_,_,_,(show (db w.params).lookup 44=Z ⟨.type "tuple",U,.seq #[.str "reads" 229,.str "rising" 230] 0,#[]⟩ by kernel_rfl),rfl,rfl,rfl,(show 2<=sizeLine by decide),.cons ⟨_,rfl⟩ (.cons ⟨_,rfl⟩ (.nil))⟩ (.cons (.str _) (.cons (.str _) (.nil)))⟩,⟨_,.ref 46,VT X G (show W.nsIn (db w.params) mainGlobals "WANTS" = Z (Z (.ref 46)) by kernel_rfl),rfl,λμ H=>.ktup (vs:=[V.str "read",V.str "write"]) ⟨_,_,_,(show (db w.params).lookup 46=Z ⟨.type "tuple",U,.seq #[.str "read" 235,.str "write" 236] 0,#[]⟩ by kernel_rfl),rfl,rfl,rfl,(show 2<=sizeLine by decide),.cons ⟨_,rfl⟩ (.cons ⟨_,rfl⟩ (.nil))⟩ (.cons (.str _) (.cons (.str _) (.nil)))⟩,⟨_,.ref 43,VT X G (show W.nsIn (db w.params) mainGlobals "WITHIN_WORDS" = Z (Z (.ref 43)) by kernel_rfl),rfl,λμ H=>.ktup (vs:=[V.str "out",V.str "reads",V.str "rising",V.str "writes",V.str "raised"]) ⟨_,_,_,(show (db w.params).lookup 43=Z ⟨.type "tuple",U,.seq #[.str "out" 223,.str "reads" 224,.str "rising" 225,.str "writes" 226,.str "raised" 227] 0,#[]⟩ by kernel_rfl),rfl,rfl,rfl,(show 5<=sizeLine by decide),.cons ⟨_,rfl⟩ (.cons ⟨_,rfl⟩ (.cons ⟨_,rfl⟩ (.cons ⟨_,rfl⟩ (.cons ⟨_,rfl⟩ (.nil)))))⟩ (.cons (.str _) (.cons (.str _) (.cons (.str _) (.cons (.str _) (.cons (.str _) (.nil))))))⟩,HC (VT X G (show W.nsIn (db w.params) mainGlobals "WORD_WITHIN" = Z (Z (.ref 124)) by kernel_rfl)) (show (db w.params).lookup 124=Z ⟨.type "dict",U,.dict #[⟨PyData.keyHash w.params "read",.str "read" 356,.str "reads" 357⟩,⟨PyData.keyHash w.params "write",.str "write" 358,.str "writes" 359⟩] 2,#[]⟩ by kernel_rfl) (.cons (.cons (.nil))) (show List.Nodup ([.inr "read",.inr "write"]:List bC) by decide +kernel) (.cons (V.str "reads") ⟨_,rfl⟩ (λ_ _ _=>.str _) (.cons (V.str "writes") ⟨_,rfl⟩ (λ_ _ _=>.str _) (.nil))),⟨_,.ref 45,VT X G (show W.nsIn (db w.params) mainGlobals "WRITING_WORDS" = Z (Z (.ref 45)) by kernel_rfl),rfl,λμ H=>.ktup (vs:=[V.str "writes",V.str "raised"]) ⟨_,_,_,(show (db w.params).lookup 45=Z ⟨.type "tuple",U,.seq #[.str "writes" 232,.str "raised" 233] 0,#[]⟩ by kernel_rfl),rfl,rfl,rfl,(show 2<=sizeLine by decide),.cons ⟨_,rfl⟩ (.cons ⟨_,rfl⟩ (.nil))⟩ (.cons (.str _) (.cons (.str _) (.nil)))⟩⟩
end K55
open PySem.W
set_option maxRecDepth 100000 in
set_option maxHeartbeats 0 in
theorem PySem.Challenge.cw_manyreaders_k55_whole_safe_and_full_holds : PySem.Challenge.rw_manyreaders_k55_whole_safe_and_full.Holds := by
 rw [K55.lw_eq];w_on;o_law;o_head (kHook K55.db K55.kads (λ_=>by kernel_rfl));(case hw=>w_witness2)
 exact K55.walk (l:=K55.lw) rfl rfl rfl (λw h Y=>PySem.W.kIn_of Y) K55.Jj λw mg h KX G=>K55.txt KX G

end
