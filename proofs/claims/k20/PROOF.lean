import PyProof.Rows.All
import Wide.All
import OpenK.AllK
import Wide.FinOn
import Lean
import PyProof.EqAt
import PyProof.EqKinds
import PyProof.TupleCall
import PySem.Challenge.RW_manyreaders_k20_waits_counted
noncomputable section
set_option Elab.async false
set_option linter.all false
set_option maxRecDepth 100000
open PySem PySem.Spec PyProof.Rows
def WI:=@Option.bind_eq_some_iff
def WJ:=@List.getElem?_eq_some_iff
def WK:=@wpAny_bind
def WL:=@List.mem_cons_self
def WM:=@List.length_map
def WN:=@List.size_toArray
def WO:=@List.mem_cons_of_mem
def WP:=@Bool.and_eq_true
def WQ:=@Heap.get?_push_of_some
def WR:=@List.map_cons
def WS:=@List.getElem?_eq_getElem
def WT:=@List.length_cons
def WU:=@decide_eq_true
def WV:=@decide_eq_false
def WX:=@List.length_append
def WY:=@Nat.le_refl
def WZ:=@List.getElem?_append_left
def Xa:=@wpAny_pure
def Xb:=@Heap.lt_size
def Xc:=@if_pos
def Xd:=@List.all_eq_true
def Xe:=@Heap.get?_push_size
def Xf:=@List.getElem?_set_ne
def Xg:=@Option.some.inj
def Xh:=@List.mem_of_getElem?
def Xi:=@Nat.lt_of_lt_of_le
def Xj:=@List.mem_append
def Xk:=@List.mem_map
def Xl:=@Nat.le_trans
def Xm:=@List.append_assoc
def Xn:=@List.getElem?_set_self
def Xo:=@List.replicate_succ
def Xp:=@List.mem_singleton
def Xq:=@List.mem_cons
def Xr:=@List.append_nil
def Xs:=@Bool.eq_iff_iff
def Xt:=@Bool.not_true
def Xu:=@List.mem_append_left
def Xv:=@Int.toNat_natCast
def Xw:=@Heap.get?_update_ne
def Xx:=@Nat.ne_of_lt
def Xy:=@List.map_append
def Xz:=@Bool.not_false
def XA:=@List.mem_append_right
def XB:=@wpAny_newObj_type
def XC:=@List.map_map
def XD:=@List.any_cons
def XE:=@wpAny_mono
def XF:=@wpAny_field
def XG:=@PyProof.Rows.callWith_type1
def XH:=@Heap.get?_update_self
def XI:=@List.filter_cons
def XJ:=@Bool.false_eq_true
def XM:=@List.mem_filter
def XN:=@List.find?_cons
def XO:=@of_decide_eq_true
def XQ:=@List.length_singleton
def XR:=@List.length_filter_le
def XS:=@List.getElem?_map
def XT:=@List.flatten_cons
def XU:=@wpAny_callSpecial?_slot
def XV:=@W.mg_none_of
def XW:=@List.any_eq_true
def XX:=@List.getElem?_append_right
def XY:=@beq_eq_false_iff_ne
def XZ:=@List.filter_eq_self
def Ya:=@List.eq_nil_of_length_eq_zero
def Yb:=@List.mem_of_mem_take
def Yc:=@List.all_cons
def Yd:=@Heap.size_push
def Ye:=@decide_eq_true_eq
def Yf:=@Option.some.injEq
def Yg:=@List.filterMap_cons
def Yh:=@Heap.SameBut.update
def Yi:=@List.not_mem_nil
def Yj:=@wpAny_setField
def Yk:=@wpAny_seqItems
def Yl:=@decide_true
def Ym:=@Bool.false_and
def Yn:=@Bool.and_false
def Yo:=@PyProof.Rows.slot_tuple_getitem
def Yp:=@Option.isSome_iff_exists
def Yq:=@List.forIn_cons
def Yr:=@PySem.mem_of_lookup
def Ys:=@Nat.lt_irrefl
def Yt:=@Bool.true_and
def Yu:=@wpAny_call_entry
def Yv:=@List.zipIdx_cons
def Yw:=@List.findIdx?_cons
def Yx:=@wpAny_passesOwn
def Yy:=@Nat.zero_le
def Yz:=@Nat.ne_of_gt
def YA:=@List.nodup_cons
def YB:=@wpAny_truthy_bool
def YC:=@List.nodup_append
def YD:=@F.slot_tuple_iterator_next
def YE:=@if_true
def YF:=@W.kia_one
def YG:=@List.drop_eq_getElem_cons
def YH:=@List.length_take
def YI:=@decide_false
def YJ:=@call_meets
def YK:=@wpAny_pyIter_tuple
def YL:=@wpAny_holding
def YM:=@wpAny_Call_Name_kw
def YN:=@if_false
def YO:=@List.nil_append
def YQ:=@List.length_nil
def YR:=@Int.emod_nonneg
def YS:=@F.slot_zip_next
def YT:=@List.take_of_length_le
def YU:=@W.mg_of
def YV:=@List.mem_range
def YW:=@List.take_append_drop
def YX:=@List.mem_iff_getElem?
def YY:=@List.lookup_cons
def YZ:=@List.map_take
def Za:=@List.map_drop
def Zb:=@List.map_congr_left
def Zc:=@List.length_set
def Zd:=@List.count_cons
def Ze:=@Bool.or_eq_true
def Zf:=@Array.length_toList
def Zg:=@codeAny_mono
def Zh:=@List.map_nil
def Zi:=@List.any_map
def Zj:=@List.drop_zero
def Zk:=@List.filter_congr
def Zl:=@AutoSeq1.sub_tuple_tuple
def Zm:=@wpAny_onRaise
def Zn:=@List.getElem?_cons_succ
def Zo:=@List.filter_cons_of_pos
def Zp:=@List.filter_cons_of_neg
def Zq:=@List.length_drop
def Zr:=@wpAny_Call_method_late
def Zs:=@List.range_succ_eq_map
def Zt:=@Calls.callWith_builtin
def Zu:=@wpAny_updateSeq
def Zv:=@wpAny_execs_nil
def Zw:=@Nat.zero_add
def Zx:=@Nat.min_eq_left
def Zy:=@F.slot_int_rmul
def Zz:=@wpAny_rule
def ZA:=@or_false
def ZB:=@Calls.evalArgs_plain
def ZC:=@wpAny_standAt
def ZD:=@assignInOrder_cons
def ZE:=@List.findIdx?_eq_some_iff_getElem
def ZF:=@Int.emod_lt_of_pos
def ZG:=@F.slot_list_extend
def ZH:=@F.args_tuple_add_2
def ZI:=@wpAny_pyIter_list
def ZJ:=@typeIs_int
def ZK:=@List.any_eq_false
def ZL:=@F.slot_list_count
def ZM:=@F.entry_tuple_add
def ZN:=@F.args_zip_next_1
def ZO:=@Nat.mul_comm
def ZP:=@Nat.le_of_eq
def ZQ:=@noFill_tuple_add
def ZR:=@List.getElem_mem
def ZS:=@F.slot_tuple_add
def ZT:=@F.entry_zip_next
def ZU:=@AutoSeq1.idx_int
def ZV:=@List.countP_eq_length_filter
def ZW:=@F.args_tuple_iterator_next_1
def ZX:=@sizeLine_eq
def ZY:=@W.kitx_list
def ZZ:=@PassesOwn.never
def aaa:=@List.of_mem_zip
def aab:=@List.any_append
def aac:=@Int.natCast_add
def aad:=@F.entry_tuple_iterator_next
def aae:=@Calls.Name_function_global
def aaf:=@wpAny_binaryOp_repeat_ref
def aag:=@List.findIdx?_eq_none_iff
def aah:=@wpAny_comprehension_free
def aai:=@intBits_le
def aaj:=@List.getElem?_take_of_lt
def aak:=@wpAny_attempt
def aal:=@seq_tuple_add
def aam:=@Paired.length
def aan:=@List.getElem?_cons_zero
def aao:=@Bool.or_false
def aap:=@Bool.and_true
def aaq:=@subscriptTail_builtinR
def aar:=@Option.map_eq_some_iff
def aas:=@Nat.le_of_succ_le_succ
def aat:=@Heap.get?_update_other
def aau:=@wpAny_typeOf
def aav:=@seqIndex_neg
def aaw:=@concat_meets
def aax:=@Nat.le_of_lt
def aay:=@Nat.add_zero
def aaz:=@List.any_nil
def aaA:=@Int.zero_add
def aaB:=@Int.le_trans
def aaC:=@Bool.true_or
def aaD:=@Bool.or_true
def aaE:=@wpAny_loadName_local
def aaF:=@List.mem_of_mem_drop
def aaG:=@List.getElem_toArray
def aaH:=@F.args_list_extend_2
def aaI:=@wpAny_of_eq
def aaJ:=@wpAny_loadName_cell
def aaK:=@wpAny_letGo
def aaL:=@seqIndex_of
def aaM:=@entry_tuple_getitem
def aaN:=@Nat.mul_le_mul_left
def aaO:=@Nat.le_succ
def aaP:=@F.entry_list_extend
def aaQ:=@args_tuple_getitem
def aaR:=@Obj.data_mapFields
def aaS:=@Nat.lt_of_le_of_lt
def aaT:=@List.mem_filterMap
def aaU:=@F.slot_tuple_count
def aaV:=@F.slot_list_append
def aaW:=@F.slot_dict_update
def aaX:=@Calls.spliced_cons
def aaY:=@Calls.Constant_str
namespace L2
abbrev bG:=Sum Int Str
noncomputable def xx:bG->Value->Bool
 | .inl k,v=>Value.isInt k v
 | .inr x,v=>Value.isStrOf x v
noncomputable def keyH(w:World):bG->Int
 | .inl k=>hashInt k
 | .inr x=>hashStr w x
def dB:∀ {k:bG} {v:Value},xx k v=true->(∃ i t,k=Sum.inl i/\v=Value.int i t)\/(∃ x t,k=Sum.inr x/\v=Value.str x t)
 | .inl i,v,h=>by
  obtain⟨t,e⟩:=Value.isInt_shape (k:=i) (v:=v) h
  exact .inl ⟨i,t,rfl,e⟩
 | .inr x,v,h=>by
  obtain⟨t,e⟩:=Value.isStrOf_shape (x:=x) (v:=v) h
  exact .inr ⟨x,t,rfl,e⟩
def IQ(i:Int)(t:Tok):xx (.inl i) (.int i t)=true:=by simp [xx,Value.isInt]
def IP(x:Str)(t:Tok):xx (.inr x) (.str x t)=true:=by simp [xx,Value.isStrOf]
def UI(a b:Int):decide ((Sum.inl a:bG)=Sum.inl b)=(a == b):=by
 by_cases e:a=b
 ·subst e;simp
 ·have h:¬ (Sum.inl a:bG)=Sum.inl b:=fun q=>e (Sum.inl.inj q)
  rw [WV h]
  exact(XY.mpr e).symm
def UF(a b:Str):decide ((Sum.inr a:bG)=Sum.inr b)=decide (a=b):=by
 by_cases e:a=b
 ·subst e;simp
 ·have h:¬ (Sum.inr a:bG)=Sum.inr b:=fun q=>e (Sum.inr.inj q)
  rw [WV h,WV e]
def UH(a:Int)(b:Str):decide ((Sum.inl a:bG)=Sum.inr b)=false:=WV (fun q=>nomatch q)
def UG(a:Str)(b:Int):decide ((Sum.inr a:bG)=Sum.inl b)=false:=WV (fun q=>nomatch q)
noncomputable def cf(prog:Program)(w:World):PySem.KeyKind prog w bG where
 is:=xx
 hash:=keyH w
 inj:=fun v a b ha hb=>by
  rcases dB ha with ⟨i,t,rfl,rfl⟩ | ⟨x,t,rfl,rfl⟩
  ·rcases dB hb with ⟨j,u,rfl,e⟩ | ⟨y,u,rfl,e⟩
   ·injection e with e1 _;rw [e1]
   ·exact nomatch e
  ·rcases dB hb with ⟨j,u,rfl,e⟩ | ⟨y,u,rfl,e⟩
   ·exact nomatch e
   ·injection e with e1 _;rw [e1]
 byValue:=fun k v h=>by
  rcases dB h with ⟨i,t,rfl,rfl⟩ | ⟨x,t,rfl,rfl⟩ <;> rfl
 pyHash:=fun hv h=>by
  rcases dB hv with ⟨i,t,rfl,rfl⟩ | ⟨x,t,rfl,rfl⟩
  ·exact wpAny_pyHash_int h
  ·exact wpAny_pyHash_str h
 eqBool:=fun hu hv h=>by
  rcases dB hu with ⟨i,t,rfl,rfl⟩ | ⟨x,t,rfl,rfl⟩
  ·rcases dB hv with ⟨j,u,rfl,rfl⟩ | ⟨y,u,rfl,rfl⟩
   ·rw [UI] at h;exact wpAny_eqBool_int h
   ·rw [UH] at h;exact SeqAt.EqAt.int_str i t y u _ _ _ _ h
  ·rcases dB hv with ⟨j,u,rfl,rfl⟩ | ⟨y,u,rfl,rfl⟩
   ·rw [UG] at h;exact SeqAt.EqAt.str_int x t j u _ _ _ _ h
   ·rw [UF] at h;exact wpAny_eqBool_str h
 «strs»:=fun k x t v h=>by
  rcases dB h with ⟨i,u,rfl,e⟩ | ⟨y,u,rfl,e⟩
  ·exact nomatch e
  ·injection e with e1 _
   subst e1
   cases v <;> rfl
def Bx(prog:Program)(w:World)(i:Int)(t:Tok):(cf prog w).is (.inl i) (.int i t)=true:=IQ i t
def Bw(prog:Program)(w:World)(x:Str)(t:Tok):(cf prog w).is (.inr x) (.str x t)=true:=IP x t
inductive V where
 | non | bl (b:Bool) | int (i:Int) | str (x:Str) | byt (b:Array UInt8) | flt (b:UInt64) | ref (a:Addr) | ty (n:String)
 deriving DecidableEq
def RelV:V->Value->Prop
 | .non,u=>u=Value.none
 | .bl b,u=>u=Value.bool b
 | .int i,u=>∃ t,u=Value.int i t
 | .str x,u=>∃ t,u=Value.str x t
 | .byt b,u=>∃ t,u=Value.bytes b t
 | .flt b,u=>∃ t,u=Value.float b t
 | .ref a,u=>u=Value.ref a
 | .ty n,u=>u=Value.type n
abbrev Vals:List V->List Value->Prop:=Paired RelV
def Vals.length{xs:List V}{us:List Value}(r:Vals xs us):xs.length=us.length:=aam r
def Vals.get:∀ {xs:List V} {us:List Value} {i:Nat} {x:V},Vals xs us->xs[i]?=some x->∃ u,us[i]?=some u/\RelV x u
 | _,_,_,_,.nil,e=>by simp at e
 | _,_,0,_,.cons r _,e=>by simp at e;subst e;exact⟨_,rfl,r⟩
 | _,_,i+1,x,.cons _ t,e=>by
  obtain⟨u,h1,h2⟩:=Vals.get (i:=i) (x:=x) t (by simpa using e)
  exact⟨u,by simpa using h1,h2⟩
def Vals.set{x:V}{u:Value}(r:RelV x u):∀ {xs:List V} {us:List Value} (i:Nat),Vals xs us->Vals (xs.set i x) (us.set i u)
 | _,_,_,.nil=>.nil
 | _,_,0,.cons _ t=>.cons r t
 | _,_,i+1,.cons q t=>.cons q (Vals.set r i t)
def Vals.append:∀ {xs ys:List V} {us ws:List Value},Vals xs us->Vals ys ws->Vals (xs++ys) (us++ws)
 | _,_,_,_,.nil,s=>s
 | _,_,_,_,.cons r t,s=>.cons r (Vals.append t s)
def Vals.take:∀ {xs:List V} {us:List Value} (n:Nat),Vals xs us->Vals (xs.take n) (us.take n)
 | _,_,0,_=>.nil
 | _,_,_+1,.nil=>.nil
 | _,_,n+1,.cons r t=>.cons r (Vals.take n t)
def Vals.drop:∀ {xs:List V} {us:List Value} (n:Nat),Vals xs us->Vals (xs.drop n) (us.drop n)
 | _,_,0,r=>r
 | _,_,_+1,.nil=>.nil
 | _,_,n+1,.cons _ t=>Vals.drop n t
def RelO:Option V->Option Value->Prop
 | some v,some u=>RelV v u
 | none,none=>True
 | _,_=>False
def KV{κ:Type}:List (κ×V)->List (κ×Value)->Prop:=Paired fun(p:κ×V) (q:κ×Value)=>p.1=q.1/\RelV p.2 q.2
noncomputable def kV:bG->V
 | .inl i=>.int i
 | .inr x=>.str x
inductive HO where
 | lst (xs:List V)
 | tup (xs:List V)
 | dK (kvs:List (bG×V)) | dT (kvs:List (List bG×V))
 | set (S:Int->Bool) (n:Nat)
 | ins (C dx:Addr) (fs:List (Str×V))
 | own (x:Addr)
 | xd (fs:List (Str×V))
 | met (f x:Addr)
 | rng (lo hi:Int)
 | frz (o:Obj) (u:HO)
 | tbl (ps:Array Value)
 | ext (φ:Heap->Prop)
abbrev Hp:=Addr->Option HO
noncomputable def upd(H:Hp)(a:Addr)(o:HO):Hp:=fun b=>if b=a then some o else H b
def bx{H:Hp}{a:Addr}{o:HO}:upd H a o a=some o:=by unfold upd;rw [Xc rfl]
def bn{H:Hp}{a b:Addr}{o:HO}(h:b≠a):upd H a o b=H b:=by unfold upd;rw [if_neg h]
def cx{H:Hp}{a b:Addr}{o:HO}(h:H a=some o)(h':H b=none):a≠b:=by
 intro e;subst e;rw [h] at h';cases h'
def IsTupN(h:Heap)(a:Addr)(items:Array Value):Prop:=∃ o,h.get? a=some o/\o.cls=.type "tuple"/\(∃ n,o.data=.seq items n)/\o.dict=none
def IsTupN.up{h:Heap}{a:Addr}{items:Array Value}(x:IsTupN h a items):IsTup h a items:=by
 obtain⟨o,e,c,d,_⟩:=x
 exact⟨o,e,c,d⟩
def IsTupN.lt{h:Heap}{a:Addr}{items:Array Value}(x:IsTupN h a items):a<h.objs.size:=x.up.lt
def IsTupN.new(h:Heap)(items:Array Value):IsTupN (h.push { cls:=.type "tuple",data:=.seq items }) h.objs.size items:=⟨_,Xe _ rfl,rfl,⟨_,rfl⟩,rfl⟩
section
variable(P:Program)(w:World)
def ObjOk(H:Hp)(h:Heap)(a:Addr):HO->Prop
 | .lst xs=>xs.length<=sizeLine/\∃ (its:List Value) (n:Nat),Vals xs its/\h.get? a=some { cls:=.type "list",data:=.seq its.toArray n }
 | .tup xs=>xs.length<=sizeLine/\∃ its:List Value,Vals xs its/\IsTupN h a its.toArray
 | .dK kvs=>kvs.length<=sizeLine/\(a == sysModules)=false/\∃ vs,KV kvs vs/\h.DictOf (cf P w) a vs
 | .dT kvs=>kvs.length<=sizeLine/\(a == sysModules)=false/\∃ xs:List (List bG×Addr×Value),
   Paired (fun(p:List bG×V) (q:List bG×Addr×Value)=>p.1=q.1/\H q.2.1=some (.tup (p.1.map kV))/\RelV p.2 q.2.2) kvs xs /\
   ∃ o es ep,h.get? a=some o/\o.ExactDict/\o.data=.dict es ep/\es.toList=xs.map (entryOfKey (tupleKind (cf P w)))/\(xs.map (·.1)).Nodup
 | .set S n=>h.SetOf (intKind P w) a S n
 | .ins C dx fs=>H dx=some (.own a)/\fs.length<=1000/\dx≠a/\h.get? a=some (W.instObj C dx) /\
   ∃ mA,h.Ns1 dx mA/\(∀ f,RelO (fs.lookup f) (mA f))/\PySem.Within mA (fs.map (·.1))
 | .own _=>∃ o,h.get? a=some o
 | .xd fs=>∃ mA,h.Ns1 a mA/\∀ f,RelO (fs.lookup f) (mA f)
 | .rng lo hi=>∃ t u v,h.get? a=some { cls:=.type "range",data:=.fields #[.int lo t,.int hi u,.int 1 v] }
 | .frz o u=>h.get? a=some o/\ObjOk H h a u
 | .tbl ps=>h.get? a=some { cls:=.none,data:=.fields ps }
 | .met f x=>h.get? a=some (W.methodObj (.ref f) (.ref x))
 | .ext φ=>φ h/\(∃ o,h.get? a=some o)/\∀ h1 h2:Heap,φ h1->(∀ o,h1.get? a=some o->h2.get? a=some o)->φ h2
def HOk(H:Hp)(h:Heap):Prop:=∀ a o,H a=some o->ObjOk P w H h a o
end
section
variable{P:Program}{w:World}{H H':Hp}{h h':Heap}{a:Addr}{o:HO}
def ObjOk.lt(x:ObjOk P w H h a o):a<h.objs.size:=by
 cases o with
 | lst xs=>obtain⟨_,_,_,_,e⟩:=x;exact Xb e
 | tup xs=>obtain⟨_,_,_,p⟩:=x;exact p.lt
 | dK kvs=>obtain⟨_,_,_,_,o,_,_,e,_⟩:=x;exact Xb e
 | dT kvs=>obtain⟨_,_,_,_,o,_,_,e,_⟩:=x;exact Xb e
 | set S n=>obtain⟨o,_,_,_,e,_⟩:=x;exact Xb e
 | ins C dx fs=>obtain⟨_,_,_,e,_⟩:=x;exact Xb e
 | own y=>obtain⟨_,e⟩:=x;exact Xb e
 | xd fs=>obtain⟨_,⟨_,_,_,e,_⟩,_⟩:=x;exact Xb e
 | rng lo hi=>obtain⟨_,_,_,e⟩:=x;exact Xb e
 | frz ob u=>obtain⟨e,_⟩:=x;exact Xb e
 | tbl ps=>exact Xb (show h.get? a=some _ from x)
 | met f y=>exact Xb (show h.get? a=some _ from x)
 | ext φ=>obtain⟨_,⟨_,e⟩,_⟩:=x;exact Xb e
def Paired.mapP{α β:Type}{F G:α->β->Prop}:∀ {l₁:List α} {l₂:List β},Paired F l₁ l₂->(∀ a b,F a b->G a b)->Paired G l₁ l₂
 | _,_,.nil,_=>.nil
 | _,_,.cons r t,f=>.cons (f _ _ r) (Paired.mapP t f)
def ObjOk.stay(x:ObjOk P w H h a o)(k:∀ b u,(b=a\/H b=some (.own a))->h.get? b=some u->h'.get? b=some u)
  (ho:∀ b,H b=some (.own a)->H' b=some (.own a)) (ht:∀ b xs,H b=some (.tup xs)->H' b=some (.tup xs)):ObjOk P w H' h' a o:=by
 induction o with
 | lst xs=>obtain⟨z,its,n,r,e⟩:=x;exact⟨z,its,n,r,k _ _ (.inl rfl) e⟩
 | tup xs=>obtain⟨z,its,r,ob,e,c⟩:=x;exact⟨z,its,r,ob,k _ _ (.inl rfl) e,c⟩
 | dK kvs=>obtain⟨z,y,vs,r,ob,es,ep,e,c⟩:=x;exact⟨z,y,vs,r,ob,es,ep,k _ _ (.inl rfl) e,c⟩
 | dT kvs=>
  obtain⟨z,y,xs,r,ob,es,ep,e,c⟩:=x
  exact⟨z,y,xs,Paired.mapP r fun p q z=>⟨z.1,ht _ _ z.2.1,z.2.2⟩,ob,es,ep,k _ _ (.inl rfl) e,c⟩
 | set S n=>obtain⟨ob,es,ep,t,e,c⟩:=x;exact⟨ob,es,ep,t,k _ _ (.inl rfl) e,c⟩
 | ins C dx fs=>
  obtain⟨d,z,ne,e,mA,⟨od,es,ep,e2,c⟩,r⟩:=x
  exact⟨ho _ d,z,ne,k _ _ (.inl rfl) e,mA,⟨od,es,ep,k _ _ (.inr d) e2,c⟩,r⟩
 | own y=>obtain⟨ob,e⟩:=x;exact⟨ob,k _ _ (.inl rfl) e⟩
 | xd fs=>obtain⟨mA,⟨od,es,ep,e,c⟩,r⟩:=x;exact⟨mA,⟨od,es,ep,k _ _ (.inl rfl) e,c⟩,r⟩
 | rng lo hi=>obtain⟨t,u,v,e⟩:=x;exact⟨t,u,v,k _ _ (.inl rfl) e⟩
 | frz ob u ih=>obtain⟨e,q⟩:=x;exact⟨k _ _ (.inl rfl) e,ih q⟩
 | tbl ps=>
  have e:h.get? a=some { cls:=.none,data:=.fields ps }:=x
  show h'.get? a=some { cls:=.none,data:=.fields ps }
  exact k a _ (.inl rfl) e
 | met f y=>
  have e:h.get? a=some (W.methodObj (.ref f) (.ref y)):=x
  show h'.get? a=some (W.methodObj (.ref f) (.ref y))
  exact k a _ (.inl rfl) e
 | ext φ=>obtain⟨p,⟨o,e⟩,st⟩:=x;exact⟨st _ _ p fun o q=>k _ _ (.inl rfl) q,⟨o,k _ _ (.inl rfl) e⟩,st⟩
def HOk.lt(x:HOk P w H h)(e:H a=some o):a<h.objs.size:=(x a o e).lt
def HOk.fresh(x:HOk P w H h)(e:h.objs.size<=a):H a=none:=by
 cases q:H a with
 | none=>rfl
 | some u=>exact absurd (Xi (x.lt q) e) (Ys _)
def HOk.kept(x:HOk P w H h)(k:∀ b u,h.get? b=some u->h'.get? b=some u):HOk P w H h':=fun a o e=>
 (x a o e).stay (fun b u _ q=>k b u q) (fun _ q=>q) fun _ _ q=>q
def HOk.laid(x:HOk P w H h)(k:∀ b u,h.get? b=some u->h'.get? b=some u)(hp:h.objs.size<=a)(new:ObjOk P w (upd H a o) h' a o):HOk P w (upd H a o) h':=fun b u e=>by
 have hn:=x.fresh hp
 by_cases hb:b=a
 ·subst hb;rw [bx] at e;cases e;exact new
 ·rw [bn hb] at e
  exact(x b u e).stay (fun c v _ q=>k c v q) (fun c q=>by rw [bn (cx q hn)];exact q) fun c xs q=>by rw [bn (cx q hn)];exact q
end
def Rd(H:Hp)(a:Addr)(u:HO):Prop:=H a=some u\/∃ o,H a=some (.frz o u)
def Rd.ok{P:Program}{w:World}{H:Hp}{h:Heap}{a:Addr}{u:HO}(r:Rd H a u)(x:HOk P w H h):ObjOk P w H h a u:=by
 rcases r with r | ⟨o,r⟩
 ·exact x a u r
 ·obtain⟨_,q⟩:=x a _ r
  exact q
def Mut:Option HO->Prop
 | some (.lst _)=>True
 | some (.dK _)=>True
 | some (.dT _)=>True
 | some (.set _ _)=>True
 | some (.ins _ _ _)=>True
 | some (.ext _)=>True
 | _=>False
section
variable{P:Program}{w:World}{H:Hp}{h h':Heap}{x e:Addr}{o':HO}
def HOk.write(ok:HOk P w H h)(mu:Mut (H x))(he:e=x\/H e=some (.own x))(k:∀ b u,b≠e->h.get? b=some u->h'.get? b=some u)(heo:∃ u,h'.get? e=some u)
  (new:ObjOk P w (upd H x o') h' x o'):HOk P w (upd H x o') h':=fun b u q=>by
 have nown:∀ c y,H c=some (.own y)->c≠x:=fun c y r z=>by subst z;rw [r] at mu;exact mu
 have ntup:∀ c xs,H c=some (.tup xs)->c≠x:=fun c xs r z=>by subst z;rw [r] at mu;exact mu
 by_cases hb:b=x
 ·subst hb;rw [bx] at q;cases q;exact new
 ·rw [bn hb] at q
  by_cases hbe:b=e
  ·have q':H b=some (.own x):=by
    rcases he with z | z
    ·exact absurd (hbe.trans z) hb
    ·rw [hbe];exact z
   rw [q] at q';cases q'
   obtain⟨v,hv⟩:=heo
   exact⟨v,by rw [hbe];exact hv⟩
  ·refine(ok b u q).stay (fun c v hc r=>k c v ?_ r) (fun c r=>by rw [bn (nown c b r)];exact r) fun c xs r=>by rw [bn (ntup c xs r)];exact r
   rcases hc with rfl | hc
   ·exact hbe
   ·rintro rfl
    rcases he with z | z
    ·exact nown c b hc z
    ·rw [hc] at z;cases z;exact hb rfl
end
structure Un(fs ex:List Addr)(H H':Hp)(h h':Heap):Prop where
 keep:∀ b o,h.get? b=some o->H b=none->b ∉ fs->b ∉ ex->h'.get? b=some o
 slot:∀ b o,h.get? b=some o->H b=none->b∈fs->b ∉ ex->∃ sl,h'.get? b=some { o with slots:=sl }
 free:∀ b o,h.get? b=some o->H b=none->b ∉ ex->H' b=none
 there:∀ b o,h.get? b=some o->b ∉ ex->∃ o',h'.get? b=some o'
 tups:∀ b xs,H b=some (.tup xs)->H' b=some (.tup xs)
 frzs:∀ b o u,H b=some (.frz o u)->H' b=some (.frz o u)
 tbls:∀ b ps,H b=some (.tbl ps)->∃ more,H' b=some (.tbl (ps++more))
section
variable{fs fs' ex ex':List Addr}{H H1 H2:Hp}{h h1 h2 h':Heap}{a x e:Addr}{o:HO}
def Un.any(u:Un fs ex H H1 h h1){b:Addr}{ob:Obj}(q:h.get? b=some ob)(n:H b=none)(hx:b ∉ ex):∃ sl,h1.get? b=some { ob with slots:=sl }:=by
 by_cases hb:b∈fs
 ·exact u.slot b ob q n hb hx
 ·exact⟨ob.slots,u.keep b ob q n hb hx⟩
def Un.kept(k:∀ b u,h.get? b=some u->h'.get? b=some u):Un fs ex H H h h':=
 ⟨fun b ob q _ _ _=>k b ob q,fun b ob q _ _ _=>⟨ob.slots,k b ob q⟩,fun _ _ _ n _=>n,fun b ob q _=>⟨ob,k b ob q⟩,fun _ _ q=>q,fun _ _ _ q=>q,fun _ ps q=>⟨#[],by rw [q];simp⟩⟩
def Un.refl:Un fs ex H H h h:=Un.kept fun _ _ q=>q
def Un.laid(k:∀ b u,h.get? b=some u->h'.get? b=some u)(hp:h.objs.size<=a)(hn:H a=none):Un fs ex H (upd H a o) h h' where
 keep:=fun b u q _ _ _=>k b u q
 slot:=fun b u q _ _ _=>⟨u.slots,k b u q⟩
 free:=fun b u q n _=>by rw [bn (Xx (Xi (Xb q) hp))];exact n
 there:=fun b u q _=>⟨u,k b u q⟩
 tups:=fun b xs q=>by rw [bn (cx q hn)];exact q
 frzs:=fun b u xs q=>by rw [bn (cx q hn)];exact q
 tbls:=fun b ps q=>⟨#[],by rw [bn (cx q hn),q];simp⟩
def Un.write(mu:Mut (H x))(he:e=x\/H e=some (.own x))(k:∀ b u,b≠e->h.get? b=some u->h'.get? b=some u)(heo:∃ u,h'.get? e=some u):Un fs ex H (upd H x o) h h':=by
 have hx:∀ b,H b=none->b≠x:=fun b n z=>by subst z;rw [n] at mu;exact mu
 have hb:∀ b,H b=none->b≠e:=fun b n z=>by
  subst z
  rcases he with r | r
  ·exact hx b n r
  ·rw [n] at r;cases r
 have hm:∀ b u,H b=some u->¬ Mut (some u)->b≠x:=fun b u q nm z=>by subst z;rw [q] at mu;exact nm mu
 refine⟨fun b u q n _ _=>k b u (hb b n) q,fun b u q n _ _=>⟨u.slots,k b u (hb b n) q⟩,fun b u q n _=>by rw [bn (hx b n)];exact n,fun b u q _=>?_,
  fun b xs q=>by rw [bn (hm b _ q fun z=>z)];exact q,fun b u xs q=>by rw [bn (hm b _ q fun z=>z)];exact q,fun b ps q=>⟨#[],by rw [bn (hm b _ q fun z=>z),q];simp⟩⟩
 by_cases hbe:b=e
 ·subst hbe;exact heo
 ·exact⟨u,k b u hbe q⟩
end
def trk(h:Heap)(H:Hp):List Addr:=(List.range h.objs.size).filter fun a=>(H a).isSome
noncomputable def zV(h:Heap)(H:Hp):Heap:=W.hideAll h (trk h H)
def Jb(h:Heap)(H:Hp):(zV h H).objs.size=h.objs.size:=W.hideAll_size _ _
def MC{h:Heap}{H:Hp}{b:Addr}{o:Obj}(e:h.get? b=some o)(n:H b=none):(zV h H).get? b=some o:=
 W.hideAll_get _ e fun hm=>by
  have q:(H b).isSome=true:=(XM.mp hm).2
  rw [n] at q;simp at q
def PU{h:Heap}{H:Hp}{b:Addr}{o:Obj}(e:(zV h H).get? b=some o):h.get? b=some o/\H b=none:=by
 have e':h.get? b=some o:=W.of_hideAll (trk h H) e
 refine⟨e',?_⟩
 cases q:H b with
 | none=>rfl
 | some x=>
  have hm:b∈trk h H:=XM.mpr ⟨YV.mpr (Xb e'),by simp [q]⟩
  have z:(zV h H).get? b=none:=W.hideAll_none (trk h H) hm
  rw [z] at e;cases e
structure Mod(K:W.Frag)(mg:Str->Option Value)(base:Heap):Prop where
 kin:K.In base
 glob:base.Ns mainGlobals mg
 blt:∃ mb,base.Ns builtinsNs mb/\∀ x:Str,x ≠ "__name__"->mb x=bootBuiltins x
 nolimit:base.NoLimit
structure Cx where
 prog:Program
 w:World
 K:W.Frag
 mg:Str->Option Value
 base:Heap
 A:Around
 N:List Str
 s₀:Shared
 H₀:Hp
 env:Env
 outer:List Env
 stack:List Env
 ex:List Addr
 fn:Str->Bool
 calm:Bool
 pn:List (Addr×Obj)
 xe:Value->Shared->Prop
def Kc(l:List Env):List Addr:=l.filterMap (·.frame)
abbrev Cx.fs(X:Cx):List Addr:=Kc X.outer
def SI(sc:Scope)(x:Str):Prop:=sc.names.lookup x=some .local\/sc.names.lookup x=some .cell\/sc.names.lookup x=some .free
def Ke(sc:Scope)(x:Str):Prop:=sc.names.lookup x=some .local\/sc.names.lookup x=some .cell
def Look(env:Env)(h:Heap)(m:Str->Option Value)(x:Str)(u:Value):Prop:=
 (env.kindOf x=some .local/\m x=some u)\/((env.kindOf x=some .cell\/env.kindOf x=some .free)/\∃ c,env.cells.lookup x=some c/\h.IsCell c (some u))
structure Cx.Ok(X:Cx):Prop where
 mod:Mod X.K X.mg X.base
 kind:X.env.scope.kind=.function
 glob:X.env.globals=mainGlobals
 blt:X.env.builtins=builtinsNs
 above:X.s₀.heap.objs.size<=X.env.locals
 inj:∀ x y c,X.env.cells.lookup x=some c->X.env.cells.lookup y=some c->x=y
 has:∀ x,(X.env.kindOf x=some .cell\/X.env.kindOf x=some .free)->∃ c,X.env.cells.lookup x=some c
 cab:∀ x c,X.fn x=true->X.env.cells.lookup x=some c->X.s₀.heap.objs.size<=c
 hd:X.calm=true->X.A.handled=none
 frames:X.A.frames=some X.stack
 stk:X.stack=X.outer\/(X.stack=X.env::X.outer/\X.env.frame=some X.env.locals)
 exf:∀ b∈X.ex,b≠X.env.locals/\∀ x c,X.env.cells.lookup x=some c->c≠b
 bs:∀ b o,X.base.get? b=some o->X.s₀.heap.get? b=some o/\X.H₀ b=none
 bsz:X.base.objs.size<=X.s₀.heap.objs.size
 noex:∀ b o,X.base.get? b=some o->b ∉ X.ex
 exfs:∀ b∈X.ex,b ∉ X.fs
 funs:X.s₀.heap.FunFrames X.base X.outer
 frf:∀ b∈X.fs,X.H₀ b=none
structure Inv(X:Cx)(pins:List (Addr×Obj))(σ:List (Option V))(H:Hp)(s:Shared):Prop where
 ok:X.Ok
 os:s.os=X.s₀.os
 bare:AllBare s.gens
 base:Un X.fs X.ex X.H₀ H X.s₀.heap s.heap
 loc:∃ m,s.heap.Ns X.env.locals m/\∀ (i:Nat) (x:Str) (v:V),X.N[i]?=some x->σ[i]?=some (some v)->SI X.env.scope x->∃ u,RelV v u/\Look X.env s.heap m x u
 cell:∀ x c,X.env.cells.lookup x=some c->∃ v,s.heap.IsCell c v
 free:H X.env.locals=none
 freeC:∀ x c,X.env.cells.lookup x=some c->H c=none
 pin:∀ p∈X.pn++pins,s.heap.get? p.1=some p.2/\H p.1=none/\p.1≠X.env.locals/\p.1 ∉ X.fs/\∀ v,p.2.data≠.cell v
 hok:HOk X.prog X.w H s.heap
 len:σ.length=X.N.length
section
variable{X:Cx}{pins:List (Addr×Obj)}{σ:List (Option V)}{H H':Hp}{s:Shared}{h':Heap}
def Cx.Ok.nofr(ok:X.Ok){b:Addr}{o:Obj}(e:X.base.get? b=some o):b ∉ X.fs:=fun hb=>by
 have:=(ok.funs.mem hb).1
 rw [e] at this;cases this
def Inv.bs(I:Inv X pins σ H s):∀ b o,X.base.get? b=some o->s.heap.get? b=some o/\H b=none:=fun b o e=>
 ⟨I.base.keep b o (I.ok.bs b o e).1 (I.ok.bs b o e).2 (I.ok.nofr e) (I.ok.noex b o e),I.base.free b o (I.ok.bs b o e).1 (I.ok.bs b o e).2 (I.ok.noex b o e)⟩
def Inv.bk(I:Inv X pins σ H s):∀ b o,X.base.get? b=some o->s.heap.get? b=some o:=fun b o e=>(I.bs b o e).1
def Inv.mod(I:Inv X pins σ H s):Mod X.K X.mg X.base:=I.ok.mod
def Inv.kIn(I:Inv X pins σ H s):X.K.In s.heap:=I.ok.mod.kin.keeps I.bk
def Inv.lt(I:Inv X pins σ H s):X.env.locals<s.heap.objs.size:=let ⟨_,hn,_⟩:=I.loc;hn.lt
def Inv.sz(I:Inv X pins σ H s):X.s₀.heap.objs.size<=s.heap.objs.size:=Xl I.ok.above (aax I.lt)
def Inv.nofs(I:Inv X pins σ H s){a:Addr}(h:s.heap.objs.size<=a):a ∉ X.fs:=fun hb=>by
 obtain⟨_,o,ho,_⟩:=I.ok.funs.mem hb
 exact absurd (Xi (Xb ho) (Xl I.sz h)) (Ys _)
def Inv.cne(I:Inv X pins σ H s):∀ x c,X.env.cells.lookup x=some c->c≠X.env.locals:=fun x c e z=>by
 obtain⟨v,o,ho,hd⟩:=I.cell x c e
 obtain⟨m,⟨o',es,ep,ho',hd',_⟩,_⟩:=I.loc
 rw [z,ho'] at ho;cases ho;rw [hd'] at hd;cases hd
def Inv.funs(I:Inv X pins σ H s):s.heap.FunFrames X.base X.outer:=by
 have all:∀ (l:List Env),(∀ b∈Kc l,b∈X.fs)->X.s₀.heap.FunFrames X.base l->s.heap.FunFrames X.base l:=by
  intro l
  induction l with
  | nil=>intro _ _;trivial
  | cons env r ih=>
   intro hs hl
   obtain⟨hk,⟨L,o,hf,hn,ho,hd⟩,hr⟩:=hl
   have hL:L∈X.fs:=hs L (by unfold Kc;rw [Yg,hf];exact WL)
   obtain⟨sl,e⟩:=I.base.slot L o ho (I.ok.frf L hL) hL fun z=>I.ok.exfs L z hL
   exact⟨hk,⟨L,_,hf,hn,e,hd⟩,ih (fun b hb=>hs b (by unfold Kc;rw [Yg,hf];exact WO _ hb)) hr⟩
 exact all X.outer (fun _ hb=>hb) I.ok.funs
def Inv.stack(I:Inv X pins σ H s):s.heap.FunFrames X.base X.stack:=by
 rcases I.ok.stk with e | ⟨e,hf⟩
 ·rw [e];exact I.funs
 ·rw [e]
  obtain⟨m,hn,_⟩:=I.loc
  refine .cons (by rw [I.ok.kind];decide) hf hn ?_ I.funs
  exact Heap.get?_none_of_le (Xl I.ok.bsz I.ok.above)
def Inv.stkSub(I:Inv X pins σ H s):∀ b∈Kc X.stack,b∈X.env.locals::X.fs:=fun b hb=>by
 rcases I.ok.stk with e | ⟨e,hf⟩
 ·rw [e] at hb;exact WO _ hb
 ·rw [e] at hb
  unfold Kc at hb
  rw [Yg,hf] at hb
  exact hb
def Inv.stkFree(I:Inv X pins σ H s):∀ b∈Kc X.stack,H b=none:=fun b hb=>by
 rcases Xq.mp (I.stkSub b hb) with e | hb
 ·rw [e];exact I.free
 ·obtain⟨_,o,ho,_⟩:=I.ok.funs.mem hb
  exact I.base.free b o ho (I.ok.frf b hb) fun z=>I.ok.exfs b z hb
def Inv.step{g':Array GenState}{t':Nat}{d':Drawn}{ch:List Addr}(I:Inv X pins σ H s)
  (hch:∀ b∈ch,(b∈X.ex\/X.s₀.heap.objs.size<=b)/\b≠X.env.locals/\(∀ x c,X.env.cells.lookup x=some c->c≠b)/\∀ p∈X.pn++pins,p.1≠b)
  (keep:∀ b o,b≠X.env.locals->b ∉ X.fs->b ∉ ch->s.heap.get? b=some o->H b=none->h'.get? b=some o)
  (slot:∀ b o,b≠X.env.locals->b∈X.fs->b ∉ ch->s.heap.get? b=some o->H b=none->∃ sl,h'.get? b=some { o with slots:=sl }) (free:∀ b o,b ∉ ch->s.heap.get? b=some o->H b=none->H' b=none)
  (there:∀ b o,b ∉ ch->s.heap.get? b=some o->∃ o',h'.get? b=some o')
  (tups:∀ b xs,H b=some (.tup xs)->H' b=some (.tup xs)) (frzs:∀ b o u,H b=some (.frz o u)->H' b=some (.frz o u)) (tbls:∀ b ps,H b=some (.tbl ps)->∃ more,H' b=some (.tbl (ps++more)))
  (ns:∀ m,s.heap.Ns X.env.locals m->h'.Ns X.env.locals m) (hok:HOk X.prog X.w H' h') (hg:AllBare g') :
  Inv X pins σ H' { s with heap:=h',gens:=g',drawn:=d',toks:=t' }:=by
 have neL:∀ b o,X.s₀.heap.get? b=some o->b≠X.env.locals:=fun b o e=>Xx (Xi (Xb e) I.ok.above)
 have neC:∀ b o,X.s₀.heap.get? b=some o->b ∉ X.ex->b ∉ ch:=fun b o e hx hb=>by
  rcases(hch b hb).1 with z | z
  ·exact hx z
  ·exact absurd (Xi (Xb e) z) (Ys _)
 have cellK:∀ x c,X.env.cells.lookup x=some c->∀ v,s.heap.IsCell c v->h'.IsCell c v:=fun x c e v ⟨o,ho,hd⟩=>by
  have nch:c ∉ ch:=fun z=>(hch c z).2.2.1 x c e rfl
  by_cases hc:c∈X.fs
  ·obtain⟨sl,q⟩:=slot c o (I.cne x c e) hc nch ho (I.freeC x c e)
   exact⟨_,q,hd⟩
  ·exact⟨o,keep c o (I.cne x c e) hc nch ho (I.freeC x c e),hd⟩
 refine⟨I.ok,I.os,hg,⟨fun b o e n hb hx=>?_,fun b o e n hb hx=>?_,fun b o e n hx=>?_,fun b o e hx=>?_,fun b xs e=>tups b xs (I.base.tups b xs e),fun b o xs e=>frzs b o xs (I.base.frzs b o xs e),fun b ps e=>?_⟩,?_,fun x c e=>?_,?_,fun x c e=>?_,fun p hp=>?_,hok,I.len⟩
 ·exact keep b o (neL b o e) hb (neC b o e hx) (I.base.keep b o e n hb hx) (I.base.free b o e n hx)
 ·obtain⟨sl,e1⟩:=I.base.slot b o e n hb hx
  obtain⟨sl',e2⟩:=slot b _ (neL b o e) hb (neC b o e hx) e1 (I.base.free b o e n hx)
  exact⟨sl',e2⟩
 ·obtain⟨o',e1⟩:=I.base.there b o e hx
  exact free b o' (neC b o e hx) e1 (I.base.free b o e n hx)
 ·obtain⟨o',e1⟩:=I.base.there b o e hx
  exact there b o' (neC b o e hx) e1
 ·obtain⟨m1,e1⟩:=I.base.tbls b ps e
  obtain⟨m2,e2⟩:=tbls b _ e1
  exact⟨m1++m2,by rw [e2,Array.append_assoc]⟩
 ·obtain⟨m,hn,hl⟩:=I.loc
  refine⟨m,ns m hn,fun i x v e1 e2 e3=>?_⟩
  obtain⟨u,r,l⟩:=hl i x v e1 e2 e3
  refine⟨u,r,?_⟩
  rcases l with l | ⟨k,c,e,z⟩
  ·exact .inl l
  ·exact .inr ⟨k,c,e,cellK x c e _ z⟩
 ·obtain⟨v,z⟩:=I.cell x c e
  exact⟨v,cellK x c e v z⟩
 ·obtain⟨m,⟨o,_,_,ho,_⟩,_⟩:=I.loc
  exact free _ o (fun z=>(hch _ z).2.1 rfl) ho I.free
 ·obtain⟨v,o,ho,hd⟩:=I.cell x c e
  exact free c o (fun z=>(hch c z).2.2.1 x c e rfl) ho (I.freeC x c e)
 ·obtain⟨e,n,ne,nf,d⟩:=I.pin p hp
  have nch:p.1 ∉ ch:=fun z=>(hch p.1 z).2.2.2 p hp rfl
  exact⟨keep p.1 p.2 ne nf nch e n,free p.1 p.2 nch e n,ne,nf,d⟩
def Inv.un{t':Nat}(I:Inv X pins σ H s)(u:Un X.fs [] H H' s.heap h')(hok:HOk X.prog X.w H' h'):Inv X pins σ H' { s with heap:=h',toks:=t' }:=by
 obtain⟨m,⟨o,es,ep,ho,r⟩,_⟩:=id I.loc
 obtain⟨sl,hL⟩:=u.any ho I.free (by simp)
 exact I.step (g':=s.gens) (d':=s.drawn) (ch:=[]) (fun _ z=>nomatch z) (fun b o _ hb _ e n=>u.keep b o e n hb (by simp)) (fun b o _ hb _ e n=>u.slot b o e n hb (by simp)) (fun b o _ e n=>u.free b o e n (by simp)) (fun b o _ e=>u.there b o e (by simp)) u.tups u.frzs u.tbls (fun m' hm=>by
  obtain⟨o',es',ep',ho',r'⟩:=hm
  rw [ho] at ho';cases ho'
  exact⟨_,es',ep',hL,r'⟩) hok I.bare
def Inv.call{g':Array GenState}{t':Nat}{d':Drawn}{ch:List Addr}(I:Inv X pins σ H s)(u:Un (Kc X.stack) ch H H' s.heap h')(hok:HOk X.prog X.w H' h')(hg:AllBare g')
  (hch:∀ b∈ch,(b∈X.ex\/X.s₀.heap.objs.size<=b)/\b≠X.env.locals/\(∀ x c,X.env.cells.lookup x=some c->c≠b)/\∀ p∈X.pn++pins,p.1≠b) :
  Inv X pins σ H' { s with heap:=h',gens:=g',drawn:=d',toks:=t' }:=by
 obtain⟨m,⟨o,es,ep,ho,r⟩,_⟩:=id I.loc
 obtain⟨sl,hL⟩:=u.any ho I.free fun z=>(hch _ z).2.1 rfl
 exact I.step (ch:=ch) hch (fun b o hL hb hc e n=>u.keep b o e n (fun z=>(Xq.mp (I.stkSub b z)).elim hL hb) hc) (fun b o _ _ hc e n=>u.any e n hc) (fun b o hc e n=>u.free b o e n hc) (fun b o hc e=>u.there b o e hc) u.tups u.frzs u.tbls (fun m' hm=>by
  obtain⟨o',es',ep',ho',r'⟩:=hm
  rw [ho] at ho';cases ho'
  exact⟨_,es',ep',hL,r'⟩) hok hg
def Inv.turned{t':Nat}{it:Addr}(I:Inv X pins σ H s)(k:∀ b o,b≠it->s.heap.get? b=some o->h'.get? b=some o)(hn:H it=none)(hL:it≠X.env.locals)
  (h1:it∈X.ex\/X.s₀.heap.objs.size<=it) (h2:∀ x c,X.env.cells.lookup x=some c->c≠it) (h3:∀ p∈X.pn++pins,p.1≠it):Inv X pins σ H { s with heap:=h',toks:=t' }:=by
 have nit:∀ b u,H b=some u->b≠it:=fun b u e z=>by rw [z,hn] at e;cases e
 refine I.step (g':=s.gens) (d':=s.drawn) (ch:=[it]) (fun b hb=>?_) (fun b o _ _ hc e _=>k b o (fun z=>hc (by simp [z])) e) (fun b o _ _ hc e _=>⟨o.slots,k b o (fun z=>hc (by simp [z])) e⟩) (fun _ _ _ _ n=>n)
  (fun b o hc e=>⟨o,k b o (fun z=>hc (by simp [z])) e⟩) (fun _ _ e=>e) (fun _ _ _ e=>e) (fun b ps e=>⟨#[],by rw [e];simp⟩) (fun m hm=>?_) (fun b u e=>?_) I.bare
 ·have e:b=it:=by simpa using hb
  subst e
  exact⟨h1,hL,h2,h3⟩
 ·obtain⟨o,es,ep,ho,r⟩:=hm
  exact⟨o,es,ep,k _ o (Ne.symm hL) ho,r⟩
 ·refine(I.hok b u e).stay (fun c v hc q=>k c v ?_ q) (fun _ q=>q) fun _ _ q=>q
  rcases hc with z | z
  ·rw [z];exact nit b u e
  ·exact nit c _ z
def Inv.tok(I:Inv X pins σ H s)(t:Nat):Inv X pins σ H { s with toks:=t }:=I.un (h':=s.heap) (t':=t) Un.refl I.hok
def Inv.kept{t':Nat}(I:Inv X pins σ H s)(k:∀ b u,s.heap.get? b=some u->h'.get? b=some u):Inv X pins σ H { s with heap:=h',toks:=t' }:=I.un (Un.kept k) (I.hok.kept k)
def Inv.laid{a:Addr}{o:HO}{t':Nat}(I:Inv X pins σ H s)(k:∀ b u,s.heap.get? b=some u->h'.get? b=some u)(hp:s.heap.objs.size<=a)(new:ObjOk X.prog X.w (upd H a o) h' a o) :
  Inv X pins σ (upd H a o) { s with heap:=h',toks:=t' }:=I.un (Un.laid k hp (I.hok.fresh hp)) (I.hok.laid k hp new)
def Inv.write{x e:Addr}{o:HO}{t':Nat}(I:Inv X pins σ H s)(mu:Mut (H x))(he:e=x\/H e=some (.own x))(k:∀ b u,b≠e->s.heap.get? b=some u->h'.get? b=some u)(heo:∃ u,h'.get? e=some u)
  (new:ObjOk X.prog X.w (upd H x o) h' x o):Inv X pins σ (upd H x o) { s with heap:=h',toks:=t' }:=I.un (Un.write mu he k heo) (I.hok.write mu he k heo new)
def Inv.pins_of{pins':List (Addr×Obj)}(I:Inv X pins σ H s)(h:∀ p∈pins',s.heap.get? p.1=some p.2/\H p.1=none/\p.1≠X.env.locals/\p.1 ∉ X.fs/\∀ v,p.2.data≠.cell v):Inv X pins' σ H s:=
 ⟨I.ok,I.os,I.bare,I.base,I.loc,I.cell,I.free,I.freeC,fun p hp=>(Xj.mp hp).elim (fun z=>I.pin p (Xu _ z)) (h p),I.hok,I.len⟩
def Bt{N:List Str}(hN:N.Nodup){i j:Nat}{x:Str}(a:N[i]?=some x)(b:N[j]?=some x):i=j:=by
 obtain⟨h1,e1⟩:=WJ.mp a
 obtain⟨h2,e2⟩:=WJ.mp b
 exact(List.getElem_inj hN).mp (e1.trans e2.symm)
def wN{M:Model}{A:Around}{E:Value->Shared->Prop}{i:Nat}{x:Str}{v:V}{u:Value}{Q:Unit->Shared->Prop}(I:Inv X pins σ H s)(hN:X.N.Nodup)(hi:X.N[i]?=some x)(hx:Ke X.env.scope x)(r:RelV v u)
  (h:∀ s',Inv X pins (σ.set i (some v)) H s'->(∃ a,Heap.SameBut a s.heap s'.heap/\(a=X.env.locals\/X.env.cells.lookup x=some a))->Q () s') (hf:X.fn x=true\/X.env.scope.names.lookup x=some .local:=by first | exact .inl rfl | exact .inr rfl | assumption):wpAny M A (storeName X.env x u) Q E s:=by
 obtain⟨m,hn,hl⟩:=id I.loc
 have hcls:(X.env.scope.kind == .class||(X.env.scope.kind == .module&&X.env.locals != X.env.globals))=false:=by rw [I.ok.kind];rfl
 have hiσ:i < σ.length:=by rw [I.len];exact(WJ.mp hi).1
 have cne:=I.cne
 have tracked:∀ {a:Addr} {h':Heap},(∃ o,s.heap.get? a=some o/\H a=none)->Heap.SameBut a s.heap h'->HOk X.prog X.w H h':=fun {a h'} ha hs b ob e=>by
  obtain⟨_,_,hfree⟩:=ha
  refine(I.hok b ob e).stay (fun c w' hc q=>(hs.2 c ?_).trans q) (fun _ q=>q) fun _ _ q=>q
  rintro rfl
  rcases hc with rfl | hc
  ·rw [hfree] at e;cases e
  ·rw [hfree] at hc;cases hc
 rcases hx with hk | hk
 ·refine wpAny_storeName_local hk hn (fun h' hn' hs=>?_) hcls
  obtain⟨oL,_,_,hoL,_⟩:=id hn
  refine h _ ⟨I.ok,I.os,I.bare,⟨fun b o e n hb hx=>?_,fun b o e n hb hx=>?_,I.base.free,fun b o e hx=>?_,I.base.tups,I.base.frzs,I.base.tbls⟩,⟨_,hn',fun j y v' e1 e2 e3=>?_⟩,fun y c e=>?_,I.free,I.freeC,fun p hp=>?_,tracked ⟨oL,hoL,I.free⟩ hs,by simpa using I.len⟩ ⟨_,hs,.inl rfl⟩
  ·exact(hs.2 b (Xx (Xi (Xb e) I.ok.above))).trans (I.base.keep b o e n hb hx)
  ·obtain⟨sl,e1⟩:=I.base.slot b o e n hb hx
   exact⟨sl,(hs.2 b (Xx (Xi (Xb e) I.ok.above))).trans e1⟩
  ·obtain⟨o',e1⟩:=I.base.there b o e hx
   exact⟨o',(hs.2 b (Xx (Xi (Xb e) I.ok.above))).trans e1⟩
  ·by_cases hj:j=i
   ·subst hj
    rw [hi] at e1;cases e1
    rw [Xn hiσ] at e2
    cases e2
    exact⟨u,r,.inl ⟨hk,by simp⟩⟩
   ·rw [Xf (Ne.symm hj)] at e2
    obtain⟨u',r',q⟩:=hl j y v' e1 e2 e3
    refine⟨u',r',?_⟩
    rcases q with ⟨k,e⟩ | ⟨k,c,e,z⟩
    ·refine .inl ⟨k,?_⟩
     have:y≠x:=fun e=>hj (Bt hN e1 (e ▸ hi))
     simp [this,e]
    ·exact .inr ⟨k,c,e,z.sameBut hs (cne y c e)⟩
  ·obtain⟨w',z⟩:=I.cell y c e
   exact⟨w',z.sameBut hs (cne y c e)⟩
  ·obtain⟨e,n,ne,nf,d⟩:=I.pin p hp
   exact⟨(hs.2 p.1 ne).trans e,n,ne,nf,d⟩
 ·have hfn:X.fn x=true:=by
   rcases hf with z | z
   ·exact z
   ·rw [z] at hk;cases hk
  obtain⟨c,hc⟩:=I.ok.has x (.inl hk)
  obtain⟨w',z⟩:=I.cell x c hc
  refine wpAny_storeName_cell I.ok.kind hk hc z (fun h' hc' hs=>?_)
  obtain⟨oc,hoc,hocd⟩:=id z
  refine h { s with heap:=h' } ⟨I.ok,I.os,I.bare,⟨fun b o e n hb hx=>?_,fun b o e n hb hx=>?_,I.base.free,fun b o e hx=>?_,I.base.tups,I.base.frzs,I.base.tbls⟩,⟨m,hn.sameBut hs (Ne.symm (cne x c hc)),fun j y v' e1 e2 e3=>?_⟩,fun y c' e=>?_,I.free,I.freeC,fun p hp=>?_,tracked ⟨oc,hoc,I.freeC x c hc⟩ hs,by simpa using I.len⟩ ⟨c,hs,.inr hc⟩
  ·exact(hs.2 b (Xx (Xi (Xb e) (I.ok.cab x c hfn hc)))).trans (I.base.keep b o e n hb hx)
  ·obtain⟨sl,e1⟩:=I.base.slot b o e n hb hx
   exact⟨sl,(hs.2 b (Xx (Xi (Xb e) (I.ok.cab x c hfn hc)))).trans e1⟩
  ·obtain⟨o',e1⟩:=I.base.there b o e hx
   exact⟨o',(hs.2 b (Xx (Xi (Xb e) (I.ok.cab x c hfn hc)))).trans e1⟩
  ·by_cases hj:j=i
   ·subst hj
    rw [hi] at e1;cases e1
    rw [Xn hiσ] at e2
    cases e2
    exact⟨u,r,.inr ⟨.inl hk,c,hc,hc'⟩⟩
   ·rw [Xf (Ne.symm hj)] at e2
    obtain⟨u',r',q⟩:=hl j y v' e1 e2 e3
    refine⟨u',r',?_⟩
    rcases q with q | ⟨k,c',e,z'⟩
    ·exact .inl q
    ·refine .inr ⟨k,c',e,z'.sameBut hs ?_⟩
     rintro rfl
     exact hj (Bt hN e1 (I.ok.inj _ _ _ e hc ▸ hi))
  ·by_cases hcc:c'=c
   ·subst hcc;exact⟨_,hc'⟩
   ·obtain⟨w2,z2⟩:=I.cell y c' e
    exact⟨w2,z2.sameBut hs hcc⟩
  ·obtain⟨e,n,ne,nf,d⟩:=I.pin p hp
   refine⟨(hs.2 p.1 ?_).trans e,n,ne,nf,d⟩
   intro q
   rw [q,hoc] at e
   have q':oc=p.2:=Xg e
   exact d w' (by rw [<- q'];exact hocd)
def mP{M:Model}{A:Around}{E:Value->Shared->Prop}{i:Nat}{x:Str}{v:V}{u:Value}{Q:Unit->Shared->Prop}(I:Inv X pins σ H s)(hN:X.N.Nodup)(hi:X.N[i]?=some x)(hx:Ke X.env.scope x)(r:RelV v u)
  (h:∀ s',Inv X pins (σ.set i (some v)) H s'->Q () s') (hf:X.fn x=true\/X.env.scope.names.lookup x=some .local:=by first | exact .inl rfl | exact .inr rfl | assumption):wpAny M A (storeName X.env x u) Q E s:=
 wN I hN hi hx r (fun s' I' _=>h s' I') hf
def Inv.call'{s':Shared}{ch:List Addr}(I:Inv X pins σ H s)(ho:s'.os=s.os)(u:Un (Kc X.stack) ch H H' s.heap s'.heap)(hok:HOk X.prog X.w H' s'.heap)(hg:AllBare s'.gens)
  (hch:∀ b∈ch,(b∈X.ex\/X.s₀.heap.objs.size<=b)/\b≠X.env.locals/\(∀ x c,X.env.cells.lookup x=some c->c≠b)/\∀ p∈X.pn++pins,p.1≠b):Inv X pins σ H' s':=by
 obtain⟨h',g',d',t',o'⟩:=s'
 have e:o'=s.os:=ho
 subst e
 exact I.call (g':=g') (t':=t') (d':=d') u hok hg hch
end
abbrev XK:=Value->Option Addr->Hp->Prop
abbrev St:=List (Option V)
abbrev VK:=V->Hp->Prop
abbrev TE:=St->Hp->VK->Prop
abbrev TT:=St->Hp->(Bool->Hp->Prop)->Prop
abbrev TA:=St->Hp->(List V->Hp->Prop)->Prop
structure wE where
 nx:St->Hp->Prop
 rt:VK
 bk:St->Hp->Prop:=fun _ _=>False
 ct:St->Hp->Prop:=fun _ _=>False
abbrev TS:=wE->St->Hp->Prop
def EP(X:Cx)(pins:List (Addr×Obj))(σ:St)(Q:VK)(u:Value)(s':Shared):Prop:=∃ v H',Inv X pins σ H' s'/\RelV v u/\Q v H'
def TP(X:Cx)(pins:List (Addr×Obj))(σ:St)(Q:Bool->Hp->Prop)(b:Bool)(s':Shared):Prop:=∃ H',Inv X pins σ H' s'/\Q b H'
def AP(X:Cx)(pins:List (Addr×Obj))(σ:St)(Q:List V->Hp->Prop)(us:List Value)(s':Shared):Prop:=∃ vs H',Inv X pins σ H' s'/\Vals vs us/\Q vs H'
def SP(X:Cx)(pins:List (Addr×Obj))(D:wE)(f:Flow)(s':Shared):Prop:=
 match f with
 | .next=>∃ σ' H',Inv X pins σ' H' s'/\D.nx σ' H'
 | .brk=>∃ σ' H',Inv X pins σ' H' s'/\D.bk σ' H'
 | .cont=>∃ σ' H',Inv X pins σ' H' s'/\D.ct σ' H'
 | .ret u=>∃ v σ' H',Inv X pins σ' H' s'/\RelV v u/\D.rt v H'
def PE(X:Cx)(e:Expr)(t:TE):Prop:=
 ∀ (pins:List (Addr×Obj)) (s:Shared) (σ:St) (H:Hp) (Q:VK),Inv X pins σ H s->t σ H Q->wpAny (model X.prog X.w) X.A (eval e X.env) (EP X pins σ Q) X.xe s
def PT(X:Cx)(e:Expr)(t:TT):Prop:=
 ∀ (pins:List (Addr×Obj)) (s:Shared) (σ:St) (H:Hp) (Q:Bool->Hp->Prop),Inv X pins σ H s->t σ H Q->wpAny (model X.prog X.w) X.A (isTrue e X.env (eval e X.env)) (TP X pins σ Q) X.xe s
def PW(X:Cx)(e:Expr)(t:TT):Prop:=
 ∀ (whole:Sem Value) (pins:List (Addr×Obj)) (s:Shared) (σ:St) (H:Hp) (Q:Bool->Hp->Prop),Inv X pins σ H s->t σ H Q->wpAny (model X.prog X.w) X.A (isTrue e X.env whole) (TP X pins σ Q) X.xe s
def PW.pt{X:Cx}{e:Expr}{t:TT}(h:PW X e t):PT X e t:=h _
def PA(X:Cx)(es:List Expr)(t:TA):Prop:=
 ∀ (pos:Pos) (pins:List (Addr×Obj)) (s:Shared) (σ:St) (H:Hp) (Q:List V->Hp->Prop),Inv X pins σ H s->t σ H Q->wpAny (model X.prog X.w) X.A (spliced (backTo pos (starEach es X.env))) (AP X pins σ Q) X.xe s
def PS(X:Cx)(st:Stmt)(t:TS):Prop:=
 ∀ (pins:List (Addr×Obj)) (s:Shared) (σ:St) (H:Hp) (D:wE),Inv X pins σ H s->t D σ H->wpAny (model X.prog X.w) X.A (exec st X.env) (SP X pins D) X.xe s
def PSs(X:Cx)(st:List Stmt)(t:TS):Prop:=
 ∀ (pins:List (Addr×Obj)) (s:Shared) (σ:St) (H:Hp) (D:wE),Inv X pins σ H s->t D σ H->wpAny (model X.prog X.w) X.A (execs st X.env) (SP X pins D) X.xe s
def dE{α:Type}{t:Sem α}{Q Q':α->Shared->Prop}{M:Model}{A:Around}{E:Value->Shared->Prop}{s:Shared}(h:wpAny M A t Q E s)(hQ:∀ a s,Q a s->Q' a s):wpAny M A t Q' E s:=XE h hQ fun _ _ x=>x
section
variable{X:Cx}
def bin{a b:Expr}{ta tb:TE}(ha:PE X a ta)(hb:PE X b tb){pins:List (Addr×Obj)}{s:Shared}{σ:St}{H:Hp}{R:V->V->Hp->Prop}(I:Inv X pins σ H s)(h:ta σ H fun x H1=>tb σ H1 fun y H2=>R x y H2)
  {α:Type} {Q:α->Shared->Prop} {f:Value->Value->Sem α}
  (hf:∀ v u s2 x y H2,Inv X pins σ H2 s2->RelV x v->RelV y u->R x y H2->wpAny (model X.prog X.w) X.A (f v u) Q X.xe s2) :
  wpAny (model X.prog X.w) X.A (eval a X.env) (fun v s₁=>wpAny (model X.prog X.w) X.A (eval b X.env) (fun u s₂=>wpAny (model X.prog X.w) X.A (f v u) Q X.xe s₂) X.xe s₁) X.xe s:=by
 refine dE (ha pins s σ H _ I h) fun v s1 ⟨x,H1,I1,r1,q1⟩=>?_
 refine dE (hb pins s1 σ H1 _ I1 q1) fun u s2 ⟨y,H2,I2,r2,q2⟩=>?_
 exact hf v u s2 x y H2 I2 r1 r2 q2
def tVar(i:Nat):TE:=fun σ H Q=>∃ v,σ[i]?=some (some v)/\Q v H
def tC(v:V):TE:=fun _ H Q=>Q v H
def Lq{i:Nat}{x:Str}{pos:Pos}(hN:X.N[i]?=some x)(hv:SI X.env.scope x)(hd:(x == ("__debug__":Str))=false:=by decide)(hcd:(x == ("__classdict__":Str))=false:=by decide):PE X (.Name x pos) (tVar i):=by
 intro pins s σ H Q I h
 obtain⟨v,e,h⟩:=h
 obtain⟨m,hn,hl⟩:=I.loc
 obtain⟨u,r,l⟩:=hl i x v hN e hv
 have fin:EP X pins σ Q u s:=⟨v,H,I,r,h⟩
 rcases l with ⟨hk,hm⟩ | ⟨hk,c,hc,hcell⟩
 ·exact wpAny_Name (aaE I.ok.kind hk hn hm fin) hd
 ·rcases hk with hk | hk
  ·exact wpAny_Name (aaJ I.ok.kind hk hc hcell fin) hd
  ·exact wpAny_Name (wpAny_loadName_free I.ok.kind hk hc hcell fin hcd) hd
def TV{i j pos}:PE X (.Constant (.int i) j pos) (tC (.int i)):=fun _ _ _ H _ I h=>wpAny_Constant_int ⟨.int i,H,I.tok _,⟨_,rfl⟩,h⟩
def pe_bl{b j pos}:PE X (.Constant (.bool b) j pos) (tC (.bl b)):=fun _ _ _ H _ I h=>Constant_bool ⟨.bl b,H,I,rfl,h⟩
def TR{j pos}:PE X (.Constant .none j pos) (tC .non):=fun _ _ _ H _ I h=>Constant_none ⟨.non,H,I,rfl,h⟩
def TM{x j pos}:PE X (.Constant (.str x) j pos) (tC (.str x)):=fun _ _ _ H _ I h=>aaY ⟨.str x,H,I.tok _,⟨_,rfl⟩,h⟩
def Gl(X:Cx)(x:Str):Prop:=X.env.kindOf x=some .globalImplicit
def zH{E:Value->Shared->Prop}{pins:List (Addr×Obj)}{s:Shared}{σ:St}{H:Hp}{x:Str}{u:Value}{pos:Pos}{Q:Value->Shared->Prop}(I:Inv X pins σ H s)(hg:Gl X x)(hm:X.mg x=some u)(h:Q u s)
  (hd:(x == ("__debug__":Str))=false:=by decide):wpAny (model X.prog X.w) X.A (eval (.Name x pos) X.env) Q E s:=
 aae I.ok.kind hg (Calls.loadGlobal_global (by rw [I.ok.glob];exact I.mod.glob.keeps I.bk) hm h) hd
def lY{E:Value->Shared->Prop}{pins:List (Addr×Obj)}{s:Shared}{σ:St}{H:Hp}{x:Str}{u:Value}{pos:Pos}{Q:Value->Shared->Prop}(I:Inv X pins σ H s)(hg:Gl X x)(hm:X.mg x=none)(hv:bootBuiltins x=some u)(h:Q u s)
  (hn:x ≠ "__name__":=by decide) (hd:(x == ("__debug__":Str))=false:=by decide):wpAny (model X.prog X.w) X.A (eval (.Name x pos) X.env) Q E s:=by
 obtain⟨mb,h1,h2⟩:=I.mod.blt
 exact aae I.ok.kind hg (Calls.loadGlobal_builtin (by rw [I.ok.glob];exact I.mod.glob.keeps I.bk) hm (by rw [I.ok.blt];exact h1.keeps I.bk) ((h2 x hn).trans hv) h) hd
def yT{x:Str}{v:V}{u:Value}{pos:Pos}(hg:Gl X x)(hm:X.mg x=some u)(r:RelV v u)(hd:(x == ("__debug__":Str))=false:=by decide):PE X (.Name x pos) (tC v):=
 fun _ _ _ H _ I h=>zH I hg hm ⟨v,H,I,r,h⟩ hd
def Pw{x:Str}{v:V}{u:Value}{pos:Pos}(hg:Gl X x)(hm:X.mg x=none)(hv:bootBuiltins x=some u)(r:RelV v u)(hn:x ≠ "__name__":=by decide)(hd:(x == ("__debug__":Str))=false:=by decide):PE X (.Name x pos) (tC v):=
 fun _ _ _ H _ I h=>lY I hg hm hv ⟨v,H,I,r,h⟩ hn hd
variable{a b:Expr}{ta tb:TE}{pos:Pos}
variable{tA tB':TT}{rest:List Expr}
def tAnd(t u:TT):TT:=fun σ H Q=>t σ H fun c H1=>if c=true then u σ H1 Q else Q false H1
def tOr(t u:TT):TT:=fun σ H Q=>t σ H fun c H1=>if c=true then Q true H1 else u σ H1 Q
def tNot(t:TT):TT:=fun σ H Q=>t σ H fun c H1=>Q (!c) H1
def Pd(ha:PT X a tA):PW X (.BoolOp .And [a] pos) tA:=by
 intro wh pins s σ H Q I h
 refine isTrue_and (dE (ha pins s σ H Q I h) fun c s1 e=>?_)
 cases c with
 | true=>exact isTrue_and_nil e
 | false=>exact e
def Ts(ha:PT X a tA):PW X (.BoolOp .Or [a] pos) tA:=by
 intro wh pins s σ H Q I h
 refine isTrue_or (dE (ha pins s σ H Q I h) fun c s1 e=>?_)
 cases c with
 | false=>exact isTrue_or_nil e
 | true=>exact e
def Tt(ha:PT X a tA)(hb:PW X (.BoolOp .And (b::rest) pos) tB'):PW X (.BoolOp .And (a::b::rest) pos) (tAnd tA tB'):=by
 intro wh pins s σ H Q I h
 refine isTrue_and (dE (ha pins s σ H _ I h) fun c s1 ⟨H1,I1,q1⟩=>?_)
 cases c with
 | true=>exact hb wh pins s1 σ H1 Q I1 q1
 | false=>exact⟨H1,I1,q1⟩
def pw_or(ha:PT X a tA)(hb:PW X (.BoolOp .Or (b::rest) pos) tB'):PW X (.BoolOp .Or (a::b::rest) pos) (tOr tA tB'):=by
 intro wh pins s σ H Q I h
 refine isTrue_or (dE (ha pins s σ H _ I h) fun c s1 ⟨H1,I1,q1⟩=>?_)
 cases c with
 | true=>exact⟨H1,I1,q1⟩
 | false=>exact hb wh pins s1 σ H1 Q I1 q1
def Tu(ha:PT X a tA):PT X (.UnaryOp .Not a pos) (tNot tA):=by
 intro pins s σ H Q I h
 exact isTrue_not (ha pins s σ H (fun c H1=>Q (!c) H1) I h)
def TQ{op}{t:TE}(h:PE X a t):PE X (.BoolOp op [a] pos) t:=fun pins s σ H Q I hw=>BoolOp_one (h pins s σ H Q I hw)
def tIf(t:TT)(ta tb:TE):TE:=fun σ H Q=>t σ H fun c H1=>if c=true then ta σ H1 Q else tb σ H1 Q
def Lv{c:Expr}(hc:PT X c tA)(ha:PE X a ta)(hb:PE X b tb):PE X (.IfExp c a b pos) (tIf tA ta tb):=by
 intro pins s σ H Q I h
 refine wpAny_IfExp (dE (hc pins s σ H _ I h) fun d s1 ⟨H1,I1,q1⟩=>?_)
 cases d with
 | true=>exact ha pins s1 σ H1 Q I1 q1
 | false=>exact hb pins s1 σ H1 Q I1 q1
end
def oI(K:W.Frag)(H:Hp)(a:Addr)(xs:List V):Prop:=
 Rd H a (.lst xs) \/
  ∃ (o:Obj) (its:Array Value) (n:Nat),K.lookup a=some o/\o.cls=.type "list"/\o.dict=none/\o.data=.seq its n/\its.size<=sizeLine/\Vals xs its.toList
def mE(K:W.Frag)(H:Hp)(a:Addr)(xs:List V):Prop:=
 Rd H a (.tup xs) \/
  ∃ (o:Obj) (its:Array Value) (n:Nat),K.lookup a=some o/\o.cls=.type "tuple"/\o.dict=none/\o.data=.seq its n/\its.size<=sizeLine/\Vals xs its.toList
noncomputable def absV:Value->Option V
 | .none=>some .non
 | .bool b=>some (.bl b)
 | .int i _=>some (.int i)
 | .str x _=>some (.str x)
 | .bytes b _=>some (.byt b)
 | .float b _=>some (.flt b)
 | .ref a=>some (.ref a)
 | .type n=>some (.ty n)
 | _=>none
def RelV.abs{x:V}{u:Value}(r:RelV x u):absV u=some x:=by
 cases x with
 | non=>cases r;rfl
 | bl _=>cases r;rfl
 | int _=>obtain⟨t,rfl⟩:=r;rfl
 | str _=>obtain⟨t,rfl⟩:=r;rfl
 | byt _=>obtain⟨t,rfl⟩:=r;rfl
 | flt _=>obtain⟨t,rfl⟩:=r;rfl
 | ref _=>cases r;rfl
 | ty _=>cases r;rfl
def RelV.inj{x y:V}{u:Value}(r:RelV x u)(q:RelV y u):x=y:=Xg (r.abs.symm.trans q.abs)
def Vals.inj:∀ {xs ys:List V} {us:List Value},Vals xs us->Vals ys us->xs=ys
 | _,_,_,.nil,.nil=>rfl
 | _,_,_,.cons r t,.cons r' t'=>by rw [r.inj r',Vals.inj t t']
section
variable{X:Cx}{pins:List (Addr×Obj)}{σ:St}{H:Hp}{s:Shared}{a:Addr}{xs ys:List V}
def Inv.list(I:Inv X pins σ H s)(h:oI X.K H a xs):∃ its:List Value,Vals xs its/\PlainL s.heap a its.toArray/\xs.length<=sizeLine:=by
 rcases h with h | ⟨o,its,n,hk,hc,hd,hs,hz,r⟩
 ·obtain⟨z,its,n,r,e⟩:=h.ok I.hok
  exact⟨its,r,⟨_,n,e,rfl,rfl,rfl⟩,z⟩
 ·refine⟨its.toList,r,⟨o,n,I.kIn a o hk,hc,hd,by simpa using hs⟩,?_⟩
  have e:=r.length
  simp only [Zf] at e
  omega
def Inv.tuple(I:Inv X pins σ H s)(h:mE X.K H a xs):∃ its:List Value,Vals xs its/\IsTup s.heap a its.toArray/\xs.length<=sizeLine:=by
 rcases h with h | ⟨o,its,n,hk,hc,hdn,hs,hz,r⟩
 ·obtain⟨z,its,r,p⟩:=h.ok I.hok
  exact⟨its,r,p.up,z⟩
 ·refine⟨its.toList,r,⟨o,I.kIn a o hk,hc,n,by simpa using hs⟩,?_⟩
  have e:=r.length
  simp only [Zf] at e
  omega
def Inv.list_inj(I:Inv X pins σ H s)(h:oI X.K H a xs)(h':oI X.K H a ys):xs=ys:=by
 obtain⟨its,r,⟨o,n,e,_,_,d⟩,_⟩:=I.list h
 obtain⟨its',r',⟨o',n',e',_,_,d'⟩,_⟩:=I.list h'
 rw [e] at e';cases e'
 rw [d] at d'
 injection d' with d1 _
 have:its=its':=by simpa using congrArg Array.toList d1
 subst this
 exact r.inj r'
def Inv.tuple_inj(I:Inv X pins σ H s)(h:mE X.K H a xs)(h':mE X.K H a ys):xs=ys:=by
 obtain⟨its,r,⟨o,e,_,n,d⟩,_⟩:=I.tuple h
 obtain⟨its',r',⟨o',e',_,n',d'⟩,_⟩:=I.tuple h'
 rw [e] at e';cases e'
 rw [d] at d'
 injection d' with d1 _
 have:its=its':=by simpa using congrArg Array.toList d1
 subst this
 exact r.inj r'
end
noncomputable abbrev Cx.wish(X:Cx)(E:Value->Shared->Prop):Cx:={ X with xe:=E }
noncomputable abbrev Cx.nox(X:Cx):Cx:=X.wish fun _ _=>False
def Cx.Ok.wish{X:Cx}(ok:X.Ok)(E:Value->Shared->Prop):(X.wish E).Ok:=
 ⟨ok.mod,ok.kind,ok.glob,ok.blt,ok.above,ok.inj,ok.has,ok.cab,ok.hd,ok.frames,ok.stk,ok.exf,ok.bs,ok.bsz,ok.noex,ok.exfs,ok.funs,ok.frf⟩
def Cx.Ok.unwish{X:Cx}{E:Value->Shared->Prop}(ok:(X.wish E).Ok):X.Ok:=
 ⟨ok.mod,ok.kind,ok.glob,ok.blt,ok.above,ok.inj,ok.has,ok.cab,ok.hd,ok.frames,ok.stk,ok.exf,ok.bs,ok.bsz,ok.noex,ok.exfs,ok.funs,ok.frf⟩
section
variable{X:Cx}{pins:List (Addr×Obj)}{σ:St}{H:Hp}{s:Shared}{E:Value->Shared->Prop}
def Inv.wish(I:Inv X pins σ H s)(E:Value->Shared->Prop):Inv (X.wish E) pins σ H s:=⟨I.ok.wish E,I.os,I.bare,I.base,I.loc,I.cell,I.free,I.freeC,I.pin,I.hok,I.len⟩
def Inv.unwish(I:Inv (X.wish E) pins σ H s):Inv X pins σ H s:=⟨I.ok.unwish,I.os,I.bare,I.base,I.loc,I.cell,I.free,I.freeC,I.pin,I.hok,I.len⟩
def SP.unwish{D:wE}{f:Flow}{s':Shared}(h:SP (X.wish E) pins D f s'):SP X pins D f s':=by
 cases f with
 | next=>obtain⟨σ',H',I,q⟩:=h;exact⟨σ',H',I.unwish,q⟩
 | brk=>obtain⟨σ',H',I,q⟩:=h;exact⟨σ',H',I.unwish,q⟩
 | cont=>obtain⟨σ',H',I,q⟩:=h;exact⟨σ',H',I.unwish,q⟩
 | ret u=>obtain⟨v,σ',H',I,r,q⟩:=h;exact⟨v,σ',H',I.unwish,r,q⟩
def PSs.nox{st:List Stmt}{t:TS}(h:PSs X.nox st t):PSs X st t:=fun pins s σ H D I hw=>
 XE (h pins s σ H D (I.wish _) hw) (fun _ _ q=>q.unwish) fun _ _ z=>False.elim z
end
section
variable{X:Cx}{st:Stmt}{rest:List Stmt}{t u:TS}{e:Expr}{te:TE}{pos:Pos}
def Kx:TS:=fun D σ H=>D.nx σ H
def tSeq(t u:TS):TS:=fun D σ H=>t { D with nx:=u D } σ H
def Pi:PSs X [] Kx:=fun _ _ σ H _ I h=>Zv ⟨σ,H,I,h⟩
def Be(h1:PS X st t)(h2:PSs X rest u):PSs X (st::rest) (tSeq t u):=by
 intro pins s σ H D I h
 refine wpAny_execs_cons (dE (h1 pins s σ H { D with nx:=u D } I h) fun f s1 q=>?_)
 cases f with
 | next=>
  obtain⟨σ',H',I',q⟩:=q
  exact h2 pins s1 σ' H' D I' q
 | ret v=>exact q
 | brk=>exact q
 | cont=>exact q
def Gc(h1:PS X st t):PSs X [st] t:=by
 intro pins s σ H D I h
 refine wpAny_execs_cons (dE (h1 pins s σ H D I h) fun f s1 q=>?_)
 cases f with
 | next=>exact Zv q
 | ret v=>exact q
 | brk=>exact q
 | cont=>exact q
def Td:TS:=fun D σ H=>D.bk σ H
def tCont:TS:=fun D σ H=>D.ct σ H
def Pl:PS X (.Pass pos) Kx:=fun _ _ σ H _ I h=>wpAny_Pass ⟨σ,H,I,h⟩
def Lk:PS X (.Break pos) Td:=fun _ _ σ H _ I h=>wpAny_Break ⟨σ,H,I,h⟩
def Bg:PS X (.Continue pos) tCont:=fun _ _ σ H _ I h=>wpAny_Continue ⟨σ,H,I,h⟩
def Inv.quiet{pins:List (Addr×Obj)}{σ:St}{H:Hp}{s:Shared}(I:Inv X pins σ H s):interactive X.env=false:=by simp [interactive,I.ok.kind]
def Tw{x j pos pos'}:PS X (.Expr (.Constant (.str x) j pos) pos') Kx:=fun _ s σ H _ I h=>wpAny_Expr (aaY (show SP X _ _ .next { s with toks:=s.toks+1 } from ⟨σ,H,I.tok _,h⟩)) I.quiet
def tDrop(te:TE):TS:=fun D σ H=>te σ H fun _ H1=>D.nx σ H1
def Pm(he:PE X e te)(hs:swapsWith e none pos.line X.env=pure false:=by rfl):PS X (.Expr e pos) (tDrop te):=by
 intro pins s σ H D I h
 exact wpAny_Expr_any (dE (he pins s σ H _ I h) fun v s1 ⟨x,H1,I1,r1,q1⟩=>⟨σ,H1,I1,q1⟩) I.quiet hs
def tRet(te:TE):TS:=fun D σ H=>te σ H D.rt
def Li(he:PE X e te):PS X (.Return (some e) pos) (tRet te):=by
 intro pins s σ H D I h
 exact wpAny_Return_some (dE (he pins s σ H _ I h) fun v s1 ⟨x,H1,I1,r1,q1⟩=>⟨x,σ,H1,I1,r1,q1⟩)
def tRetN:TS:=fun D _ H=>D.rt .non H
def Pj:PS X (.Return none pos) tRetN:=fun _ _ σ H _ I h=>wpAny_Return_none ⟨.non,σ,H,I,rfl,h⟩
def tIfS(c:TT)(t u:TS):TS:=fun D σ H=>c σ H fun b H1=>if b=true then t D σ H1 else u D σ H1
def ps_if{c:Expr}{a b:List Stmt}{tc:TT}(hc:PT X c tc)(ha:PSs X a t)(hb:PSs X b u):PS X (.If c a b pos) (tIfS tc t u):=by
 intro pins s σ H D I h
 refine wpAny_If (dE (hc pins s σ H _ I h) fun d s1 ⟨H1,I1,q1⟩=>?_)
 cases d with
 | true=>exact ha pins s1 σ H1 D I1 q1
 | false=>exact hb pins s1 σ H1 D I1 q1
end
abbrev TG:=V->St->Hp->(St->Hp->Prop)->Prop
abbrev SK:=List V->St->Hp->(St->Hp->Prop)->Prop
def PG(X:Cx)(target:Expr)(t:TG):Prop:=
 ∀ (pins:List (Addr×Obj)) (s:Shared) (σ:St) (H:Hp) (v:V) (u:Value) (Q:St->Hp->Prop),Inv X pins σ H s->RelV v u->t v σ H Q ->
  wpAny (model X.prog X.w) X.A (assign target X.env u) (fun _ s'=>∃ σ' H',Inv X pins σ' H' s'/\Q σ' H') X.xe s
def PGs(X:Cx)(ts:List Expr)(t:SK):Prop:=
 ∀ (pins:List (Addr×Obj)) (s:Shared) (σ:St) (H:Hp) (vs:List V) (us:List Value) (Q:St->Hp->Prop),Inv X pins σ H s->Vals vs us->t vs σ H Q ->
  wpAny (model X.prog X.w) X.A (assignInOrder ((assignEach ts X.env).map (·.2)) us) (fun _ s'=>∃ σ' H',Inv X pins σ' H' s'/\Q σ' H') X.xe s
abbrev Wz:=V->V->V->Hp->(Hp->Prop)->Prop
def PSet(X:Cx)(t:Wz):Prop:=
 ∀ (pins:List (Addr×Obj)) (s:Shared) (σ:St) (H:Hp) (o i v:V) (ov iv u:Value) (Q:Hp->Prop),Inv X pins σ H s->RelV o ov->RelV i iv->RelV v u->t o i v H Q ->
  wpAny (model X.prog X.w) X.A (setItem ov iv u) (fun _ s'=>∃ H',Inv X pins σ H' s'/\Q H') X.xe s
abbrev TIp:=V->V->Hp->VK->Prop
def PIp(X:Cx)(op:Operator)(t:TIp):Prop:=
 ∀ (pins:List (Addr×Obj)) (s:Shared) (σ:St) (H:Hp) (x y:V) (v u:Value) (Q:VK),Inv X pins σ H s->RelV x v->RelV y u->t x y H Q ->
  wpAny (model X.prog X.w) X.A (inplaceOp op v u) (EP X pins σ Q) X.xe s
section
variable{X:Cx}{pos:Pos}
def GN(i:Nat):TG:=fun v σ H Q=>Q (σ.set i (some v)) H
def Ps{i:Nat}{x:Str}(hN:X.N.Nodup)(hi:X.N[i]?=some x)(hx:Ke X.env.scope x)(hf:X.fn x=true\/X.env.scope.names.lookup x=some .local:=by first | exact .inl rfl | exact .inr rfl | assumption):PG X (.Name x pos) (GN i):=by
 intro pins s σ H v u Q I r h
 exact wpAny_assign_Name (mP I hN hi hx r (fun s' I'=>⟨_,H,I',h⟩) hf)
noncomputable def gNil:SK:=fun vs σ H Q=>vs=[]/\Q σ H
noncomputable def gCons(t:TG)(u:SK):SK:=fun vs σ H Q=>∃ v r,vs=v::r/\t v σ H fun σ' H'=>u r σ' H' Q
def Pr:PGs X [] gNil:=by
 intro pins s σ H vs us Q I r h
 obtain⟨e,h⟩:=h
 subst e
 cases r
 exact assignInOrder_nil ⟨σ,H,I,h⟩
def Lp{e:Expr}{es:List Expr}{t:TG}{u:SK}(h1:PG X e t)(h2:PGs X es u)
  (hs:(assignEach (e::es) X.env).map (·.2)=assign e X.env::(assignEach es X.env).map (·.2):=by rfl):PGs X (e::es) (gCons t u):=by
 intro pins s σ H vs us Q I r h
 obtain⟨v,vr,e1,h⟩:=h
 subst e1
 cases r with
 | cons r rr=>
  rw [hs]
  refine ZD (dE (h1 pins s σ H _ _ _ I r h) fun _ s1 ⟨σ1,H1,I1,q1⟩=>?_)
  exact h2 pins s1 σ1 H1 _ _ Q I1 rr q1
def gTup(K:W.Frag)(n:Nat)(t:SK):TG:=fun v σ H Q=>∃ a xs,v=.ref a/\mE K H a xs/\xs.length=n/\t xs σ H Q
def TJ{es:List Expr}{k:Nat}{t:SK}{n:Nat}(hc:X.calm=true)(h:PGs X es t)
  (hn:(assignEach es X.env).length=n:=by rfl) (hst:(assignEach es X.env).findIdx? (·.1)=none:=by rfl):PG X (.Tuple es k pos) (gTup X.K n t):=by
 intro pins s σ H v u Q I r hw
 obtain⟨a,xs,e1,hq,hl,hw⟩:=hw
 subst e1
 cases r
 obtain⟨its,rv,ht,hz⟩:=I.tuple hq
 refine assign_Tuple_tuple (I.ok.hd hc) ht (by simp [hn,<- hl,rv.length]) hst fun h' hx=>?_
 have I1:Inv X pins σ H { s with heap:=h' }:=I.kept (t':=s.toks) fun b o e=>hx b o (Xx (Xb e)) e
 exact h pins _ σ H xs _ Q I1 (by simpa using rv) hw
def gSub(to ti:TE)(t:Wz):TG:=fun v σ H Q=>to σ H fun o H1=>ti σ H1 fun i H2=>t o i v H2 fun H3=>Q σ H3
def TK{o i:Expr}{to ti:TE}{t:Wz}(ho:PE X o to)(hi:PE X i ti)(hs:PSet X t)
  (ha:∀ v,assign (.Subscript o i pos) X.env v=(do
   let ov <- holding [v] (eval o X.env)
   let iv <- holding [v,ov] (eval i X.env)
   standAt pos
   holding [v,ov,iv] (setItem ov iv v)
   release [v,ov,iv] []):=by intro _;rfl):PG X (.Subscript o i pos) (gSub to ti t):=by
 intro pins s σ H v u Q I r h
 rw [ha]
 refine WK (YL (dE (ho pins s σ H _ I h) fun ov s1 ⟨x,H1,I1,r1,q1⟩=>?_))
 refine WK (YL (dE (hi pins s1 σ H1 _ I1 q1) fun iv s2 ⟨y,H2,I2,r2,q2⟩=>?_))
 refine WK (ZC (WK (YL (dE (hs pins s2 σ H2 x y v ov iv u _ I2 r1 r2 r q2) fun _ s3 ⟨H3,I3,q3⟩=>?_))))
 exact wpAny_release ⟨σ,H3,I3,q3⟩
def KA(te:TE)(g:TG):TS:=fun D σ H=>te σ H fun x H1=>g x σ H1 D.nx
def Tz{tg e:Expr}{te:TE}{g:TG}(he:PE X e te)(hg:PG X tg g)(hs:swapsWithSole [tg] e pos.line X.env=pure false:=by rfl)(hw:swappedStores [tg] e X.env=pure none:=by rfl)
  (h1:(assignEach [tg] X.env).map (·.2)=[assign tg X.env]:=by rfl):PS X (.Assign [tg] e pos) (KA te g):=by
 intro pins s σ H D I h
 refine wpAny_Assign_stores (dE (he pins s σ H _ I h) fun v s1 ⟨x,H1,I1,r1,q1⟩=>?_) hs hw
 rw [h1]
 exact dE (hg pins s1 σ H1 x v _ I1 r1 q1) fun _ s2 q=>q
def Lh{i:Nat}{x:Str}{e:Expr}{te:TE}{pos':Pos}(hN:X.N.Nodup)(hi:X.N[i]?=some x)(hx:Ke X.env.scope x)(he:PE X e te)(hs:swapsWith e (some (.Name x pos')) pos.line X.env=pure false:=by rfl)(hf:X.fn x=true\/X.env.scope.names.lookup x=some .local:=by first | exact .inl rfl | exact .inr rfl | assumption) :
  PS X (.Assign [.Name x pos'] e pos) (KA te (GN i)):=by
 intro pins s σ H D I h
 refine wpAny_Assign_Name (dE (he pins s σ H _ I h) fun v s1 ⟨y,H1,I1,r1,q1⟩=>?_) hs
 exact mP I1 hN hi hx r1 (fun s2 I2=>⟨_,H1,I2,q1⟩) hf
def tPar(i j:Nat)(ta:TA):TS:=fun D σ H=>ta σ H fun vs H1=>∃ v w,vs=[v,w]/\D.nx ((σ.set i (some v)).set j (some w)) H1
def Tv{i j:Nat}{x y:Str}{a b:Expr}{ta:TA}{px py pt:Pos}{kt k2 pt2}(hc:X.calm=true)(hN:X.N.Nodup)(hi:X.N[i]?=some x)(hj:X.N[j]?=some y)(hij:i≠j)
  (hx:X.env.scope.names.lookup x=some .local) (hy:X.env.scope.names.lookup y=some .local) (ha:PA X [a,b] ta)
  (hw:swappedStores [.Tuple [.Name x px,.Name y py] kt pt] (.Tuple [a,b] k2 pt2) X.env=pure (some [x,y]))
  (hs:swapsWithSole [.Tuple [.Name x px,.Name y py] kt pt] (.Tuple [a,b] k2 pt2) pos.line X.env=pure false:=by rfl) :
  PS X (.Assign [.Tuple [.Name x px,.Name y py] kt pt] (.Tuple [a,b] k2 pt2) pos) (tPar i j ta):=by
 intro pins s σ H D I h
 rw [exec_Assign_arm]
 refine WK (ZC ?_)
 rw [hs]
 refine WK (Xa ?_)
 rw [if_neg (by decide)]
 refine WK (Tuple_ (dE (ha _ pins s σ H _ I h) fun us s1 ⟨vs,H1,I1,r1,q1⟩=>?_))
 obtain⟨v,w,e1,q1⟩:=q1
 subst e1
 obtain⟨u1,u2,rfl,rv,rw'⟩:∃ u1 u2,us=[u1,u2]/\RelV v u1/\RelV w u2:=by
  cases r1 with
  | cons p q=>
   cases q with
   | cons p' q'=>
    cases q'
    exact⟨_,_,rfl,p,p'⟩
 refine XB ?_ (by show 2<=sizeLine;decide)
 have I2:Inv X pins σ H1 { s1 with heap:=s1.heap.push { cls:=.type "tuple",data:=.seq [u1,u2].toArray } }:=I1.kept (t':=s1.toks) fun b o e=>WQ _ e
 rw [hw]
 refine WK (Xa ?_)
 show wpAny (model X.prog X.w) X.A (do rule "assign.swapped-stores";let items <- unpackItems (.ref s1.heap.objs.size) 2 none;assignInOrder [fun v=>bindName X.env y v,fun v=>bindName X.env x v] items.reverse;pure Flow.next) _ _ _
 refine WK (Zz (WK (unpackItems_tuple (items:=#[u1,u2]) (I.ok.hd hc) (IsTup.new s1.heap _) fun h' hx'=>?_)))
 have I3:=I2.kept (h':=h') (t':=s1.toks) fun b o e=>hx' b o (Xx (Xb e)) e
 show wpAny _ _ (assignInOrder [fun v=>bindName X.env y v,fun v=>bindName X.env x v] [u2,u1] >>= fun _=>pure Flow.next) _ _ _
 refine WK (ZD (wpAny_bindName (mP I3 hN hj (.inl hy) rw' (fun s2 I4=>?_) (.inr hy))))
 refine ZD (wpAny_bindName (mP I4 hN hi (.inl hx) rv (fun s3 I5=>assignInOrder_nil (Xa ?_)) (.inr hx)))
 rw [List.set_comm _ _ (Ne.symm hij)] at I5
 exact⟨_,H1,I5,q1⟩
def tAug(i:Nat)(te:TE)(ti:TIp):TS:=fun D σ H=>∃ x,σ[i]?=some (some x)/\te σ H fun y H1=>ti x y H1 fun z H2=>D.nx (σ.set i (some z)) H2
def Tx{i:Nat}{x:Str}{e:Expr}{te:TE}{op:Operator}{ti:TIp}{pos':Pos}(hN:X.N.Nodup)(hi:X.N[i]?=some x)(hx:Ke X.env.scope x)(he:PE X e te)(ho:PIp X op ti)(hf:X.fn x=true\/X.env.scope.names.lookup x=some .local:=by first | exact .inl rfl | exact .inr rfl | assumption) :
  PS X (.AugAssign (.Name x pos') op e pos) (tAug i te ti):=by
 intro pins s σ H D I h
 obtain⟨v,e1,h⟩:=h
 obtain⟨m,hn,hl⟩:=I.loc
 have vis:SI X.env.scope x:=by rcases hx with k | k;exact .inl k;exact .inr (.inl k)
 obtain⟨u,r,l⟩:=hl i x v hi e1 vis
 refine wpAny_AugAssign_Name ?_
 have go:wpAny (model X.prog X.w) X.A (eval e X.env) (fun w s₂=>wpAny (model X.prog X.w) X.A (inplaceOp op u w) (fun r s₃=>wpAny (model X.prog X.w) X.A (storeName X.env x r) (fun _=>SP X pins D .next) X.xe s₃) X.xe s₂) X.xe s:=by
  refine dE (he pins s σ H _ I h) fun w s1 ⟨y,H1,I1,r1,q1⟩=>?_
  refine dE (ho pins s1 σ H1 v y u w _ I1 r r1 q1) fun z s2 ⟨zv,H2,I2,r2,q2⟩=>?_
  exact mP I2 hN hi hx r2 (fun s3 I3=>⟨_,H2,I3,q2⟩) hf
 rcases l with ⟨hk,hm⟩ | ⟨hk,c,hc,hcell⟩
 ·exact aaE I.ok.kind hk hn hm go
 ·rcases hk with hk | hk
  ·exact aaJ I.ok.kind hk hc hcell go
  ·rcases hx with k | k
   ·have:X.env.scope.names.lookup x=some .free:=hk
    rw [k] at this;cases this
   ·have:X.env.scope.names.lookup x=some .free:=hk
    rw [k] at this;cases this
noncomputable def ipI(f:Int->Int->Int):TIp:=fun x y H Q=>∃ i j,x=.int i/\y=.int j/\Q (.int (f i j)) H
def Ve:PIp X .Add (ipI fun i j=>i+j):=by
 intro pins s σ H x y v u Q I r1 r2 h
 obtain⟨i,j,e1,e2,q⟩:=h
 subst e1;subst e2
 obtain⟨t,rfl⟩:=r1
 obtain⟨t',rfl⟩:=r2
 exact iadd_int ⟨.int _,H,I.tok _,⟨_,rfl⟩,q⟩
end
section
variable{X:Cx}{pos:Pos}
def Ta(c:TT)(tb:TS):TS:=fun D σ H=>∃ W:Nat->St->Hp->Prop,(∃ m,W m σ H)/\∀ m σ H,W m σ H ->
 c σ H fun b H1=>if b=true then ∃ N:St->Hp->Prop,(∀ σ' H',N σ' H'->∃ m',m'<m/\W m' σ' H')/\tb { D with nx:=N,ct:=N,bk:=D.nx } σ H1 else D.nx σ H1
def Lg{c:Expr}{body:List Stmt}{tc:TT}{tb:TS}(hp:PassesOwn (model X.prog X.w) X.A X.env X.xe)(hc:PT X c tc)(hb:PSs X body tb):PS X (.While c body [] pos) (Ta tc tb):=by
 intro pins s σ H D I h
 obtain⟨W,⟨m0,w0⟩,turn⟩:=h
 refine wpAny_While (codeAny_whileLoop (fun n s'=>∃ σ' H',Inv X pins σ' H' s'/\W n σ' H') ?_ m0 ⟨σ,H,I,w0⟩)
 rintro n s1 ⟨σ1,H1,I1,w1⟩
 refine Yx hp (dE (hc pins s1 σ1 H1 _ I1 (turn n σ1 H1 w1)) fun b s2 ⟨H2,I2,q2⟩=>?_)
 cases b with
 | true=>
  obtain⟨N,hN,q2⟩:=q2
  rw [Xc rfl]
  refine Yx hp (dE (hb pins s2 σ1 H2 _ I2 q2) fun f s3 q3=>?_)
  cases f with
  | next=>
   obtain⟨σ3,H3,I3,n3⟩:=q3
   obtain⟨m',hm,w3⟩:=hN σ3 H3 n3
   exact⟨m',hm,σ3,H3,I3,w3⟩
  | cont=>
   obtain⟨σ3,H3,I3,n3⟩:=q3
   obtain⟨m',hm,w3⟩:=hN σ3 H3 n3
   exact⟨m',hm,σ3,H3,I3,w3⟩
  | brk=>exact q3
  | ret v=>exact q3
 | false=>
  rw [if_neg Bool.false_ne_true]
  exact Zv ⟨σ1,H2,I2,q2⟩
end
structure It where
 go:Nat->Hp->Prop
 yld:Nat->Hp->V->Hp->Prop
 stop:Nat->Hp->Prop
def rM(X:Cx)(pins:List (Addr×Obj))(H:Hp)(b:Addr):Prop:=
 H b=none/\b≠X.env.locals/\b ∉ X.fs/\(b∈X.ex\/X.s₀.heap.objs.size<=b)/\(∀ x c,X.env.cells.lookup x=some c->c≠b)/\∀ p∈X.pn++pins,p.1≠b
def Inv.fpOk{X:Cx}{pins:List (Addr×Obj)}{σ:St}{H H':Hp}{s:Shared}{b:Addr}(I:Inv X pins σ H s)(hb:s.heap.objs.size<=b)(hn:H' b=none):rM X pins H' b:=by
 refine⟨hn,Yz (Xi I.lt hb),I.nofs hb,.inr (Xl I.sz hb),fun x c e z=>?_,fun p hp z=>?_⟩
 ·obtain⟨v,q⟩:=I.cell x c e
  exact absurd (Xi q.lt (by rw [z];exact hb)) (Ys _)
 ·exact absurd (Xi (Xb (I.pin p hp).1) (by rw [z];exact hb)) (Ys _)
structure FQ(P:Program)(w:World)(K:W.Frag)(tg:Expr)(J:It)(fp:List Addr)(it:Addr)(tn:Nat->Heap->Prop):Prop where
 mem:it∈fp
 obj:∀ i h,tn i h->∀ b∈fp,∃ o,h.get? b=some o/\∀ v,o.data≠.cell v
 keep:∀ i h h',tn i h->(∀ b∈fp,∀ o,h.get? b=some o->h'.get? b=some o)->tn i h'
 item:∀ (X:Cx),X.prog=P->X.w=w->X.K=K->X.calm=true->∀ (i:Nat) (pins:List (Addr×Obj)) (s:Shared) (σ:St) (H:Hp) (E:Value->Shared->Prop),Inv X pins σ H s->(∀ b∈fp,rM X pins H b)->tn i s.heap->J.go i H ->
  wpAny (model P w) X.A (pyNext (.ref it)) (fun r s1=>∃ u,r=some u /\
   wpAny (model P w) X.A (letOwnedTupleGo tg (.ref it) u) (fun _ s2=>∃ x H',Inv X pins σ H' s2/\RelV x u/\J.yld i H x H'/\tn (i+1) s2.heap/\∀ b∈fp,H' b=none) E s1) E s
 done:∀ (X:Cx),X.prog=P->X.w=w->X.K=K->X.calm=true->∀ (i:Nat) (pins:List (Addr×Obj)) (s:Shared) (σ:St) (H:Hp) (E:Value->Shared->Prop),Inv X pins σ H s->(∀ b∈fp,rM X pins H b)->tn i s.heap->J.stop i H ->
  wpAny (model P w) X.A (pyNext (.ref it)) (fun r s1=>r=none/\Inv X pins σ H s1) E s
 self:∀ (A:Around) (i:Nat) (s:Shared) (Q:Value->Shared->Prop) (E:Value->Shared->Prop),tn i s.heap->Q (.ref it) s->wpAny (model P w) A (pyIter (.ref it)) Q E s
abbrev TI:=St->Hp->(It->Hp->Prop)->Prop
def PIE(X:Cx)(pins:List (Addr×Obj))(σ:St)(tg:Expr)(R:It->Hp->Prop)(itv:Value)(s2:Shared):Prop:=
 ∃ (it:Addr) (fp:List Addr) (tn:Nat->Heap->Prop) (J:It) (H':Hp),itv=.ref it/\Inv X pins σ H' s2/\FQ X.prog X.w X.K tg J fp it tn/\tn 0 s2.heap/\(∀ b∈fp,rM X pins H' b)/\R J H'
def PI(X:Cx)(tg iter:Expr)(wi:TI):Prop:=
 ∀ (pins:List (Addr×Obj)) (s:Shared) (σ:St) (H:Hp) (R:It->Hp->Prop),Inv X pins σ H s->wi σ H R ->
  wpAny (model X.prog X.w) X.A (eval iter X.env) (fun v s1=>wpAny (model X.prog X.w) X.A (pyIter v) (PIE X pins σ tg R) X.xe s1) X.xe s
def MD{M:Model}{A:Around}{E:Value->Shared->Prop}{s:Shared}{tg:Expr}{it:Addr}{u:Value}{o:Obj}{n:String}{vs:Array Value}{Q:Unit->Shared->Prop}(ho:s.heap.get? it=some o)(hc:o.cls=.type n)(hd:o.data=.fields vs)
  (hn:["enumerate","zip","dict_itemiterator","dict_reverseitemiterator","odict_iterator","itertools.zip_longest","itertools.pairwise"].contains n=false) (hQ:Q () s):wpAny M A (letOwnedTupleGo tg (.ref it) u) Q E s:=by
 unfold letOwnedTupleGo
 cases tg <;> first
  | exact Xa hQ
  | (cases u <;> first
    | exact Xa hQ
    | (refine WK (wpAny_load ho ?_); rw [hc,hd]; show wpAny M A (if (["enumerate","zip","dict_itemiterator","dict_reverseitemiterator","odict_iterator","itertools.zip_longest","itertools.pairwise"].contains n&&vs[0]? == some (rawInt _))=true then _ else _) Q E s; rw [if_neg (by intro h;rw [hn,Ym] at h;cases h)]; exact Xa hQ))
noncomputable def Itl(K:W.Frag)(a:Addr):It:=
 ⟨fun i H=>∃ xs x,oI K H a xs/\xs[i]?=some x,fun i H x H'=>H'=H/\∀ xs,oI K H a xs->xs[i]?=some x,fun i H=>∃ xs,oI K H a xs/\xs.length<=i⟩
noncomputable def Itt(K:W.Frag)(a:Addr):It:=
 ⟨fun i H=>∃ xs x,mE K H a xs/\xs[i]?=some x,fun i H x H'=>H'=H/\∀ xs,mE K H a xs->xs[i]?=some x,fun i H=>∃ xs,mE K H a xs/\xs.length<=i⟩
noncomputable def Itr(lo:Int)(n:Nat):It:=⟨fun i _=>i<n,fun i H x H'=>H'=H/\x=.int (lo+i),fun i _=>n<=i⟩
def wJ{P:Program}{w:World}{K:W.Frag}{tg:Expr}(a it:Addr):FQ P w K tg (Itl K a) [it] it (fun i h=>h.IsListIter it a i) where
 mem:=by simp
 obj:=fun i h st b hb=>by
  have e:b=it:=by simpa using hb
  subst e
  obtain⟨o,e,c,d⟩:=st
  exact⟨o,e,fun v z=>by rw [d] at z;cases z⟩
 keep:=fun i h h' st k=>st.at fun o e=>k it (by simp) o e
 item:=by
  intro X hP hw hK hc i pins s σ H E I hf st hg
  subst hP hw hK
  obtain⟨xs,x,hq,hx⟩:=hg
  obtain⟨its,rv,p,hz⟩:=I.list hq
  obtain⟨u,hu,ru⟩:=rv.get hx
  obtain⟨f0,f1,f2,f3,f4,f5⟩:=hf it (by simp)
  refine wpAny_pyNext_list_item st p.isList (x:=u) (by simpa using hu) fun h' st' sb=>?_
  have I1:Inv X pins σ H { s with heap:=h' }:=I.turned (t':=s.toks) (fun b o hb e=>(sb.2 b hb).trans e) f0 f1 f3 f4 f5
  obtain⟨o,e,c,d⟩:=id st'
  exact⟨u,rfl,MD (s:={ s with heap:=h' }) e c d (by decide) ⟨x,H,I1,ru,⟨rfl,fun ys hy=>by rw [I.list_inj hy hq];exact hx⟩,st',fun b hb=>(hf b hb).1⟩⟩
 done:=by
  intro X hP hw hK hc i pins s σ H E I hf st hg
  subst hP hw hK
  obtain⟨xs,hq,hx⟩:=hg
  obtain⟨its,rv,p,hz⟩:=I.list hq
  obtain⟨f0,f1,f2,f3,f4,f5⟩:=hf it (by simp)
  have hl:=rv.length
  exact wpAny_pyNext_list_end (I.ok.hd hc) st p.isList (by simp;omega) fun h' eb=>⟨rfl,I.turned (t':=s.toks) (fun b o hb e=>eb b o hb e) f0 f1 f3 f4 f5⟩
 self:=fun _ _ _ _ _ st h=>wpAny_pyIter_listiter st h
def Dx{P:Program}{w:World}{K:W.Frag}{tg:Expr}(a it:Addr):FQ P w K tg (Itt K a) [it] it (fun i h=>h.IsTupleIter it a i) where
 mem:=by simp
 obj:=fun i h st b hb=>by
  have e:b=it:=by simpa using hb
  subst e
  obtain⟨o,e,c,d⟩:=st
  exact⟨o,e,fun v z=>by rw [d] at z;cases z⟩
 keep:=fun i h h' st k=>st.at fun o e=>k it (by simp) o e
 item:=by
  intro X hP hw hK hc i pins s σ H E I hf st hg
  subst hP hw hK
  obtain⟨xs,x,hq,hx⟩:=hg
  obtain⟨its,rv,p,hz⟩:=I.tuple hq
  obtain⟨u,hu,ru⟩:=rv.get hx
  obtain⟨f0,f1,f2,f3,f4,f5⟩:=hf it (by simp)
  refine wpAny_pyNext_tuple_item st (show s.heap.IsTuple a its.toArray from p) (x:=u) (by simpa using hu) fun h' st' sb=>?_
  have I1:Inv X pins σ H { s with heap:=h' }:=I.turned (t':=s.toks) (fun b o hb e=>(sb.2 b hb).trans e) f0 f1 f3 f4 f5
  obtain⟨o,e,c,d⟩:=id st'
  exact⟨u,rfl,MD (s:={ s with heap:=h' }) e c d (by decide) ⟨x,H,I1,ru,⟨rfl,fun ys hy=>by rw [I.tuple_inj hy hq];exact hx⟩,st',fun b hb=>(hf b hb).1⟩⟩
 done:=by
  intro X hP hw hK hc i pins s σ H E I hf st hg
  subst hP hw hK
  obtain⟨xs,hq,hx⟩:=hg
  obtain⟨its,rv,p,hz⟩:=I.tuple hq
  obtain⟨f0,f1,f2,f3,f4,f5⟩:=hf it (by simp)
  have hl:=rv.length
  exact wpAny_pyNext_tuple_end (I.ok.hd hc) st (show s.heap.IsTuple a its.toArray from p) (by simp;omega) fun h' eb=>⟨rfl,I.turned (t':=s.toks) (fun b o hb e=>eb b o hb e) f0 f1 f3 f4 f5⟩
 self:=fun _ _ _ _ _ st h=>wpAny_pyIter_tupleiter st h
def Dy{P:Program}{w:World}{K:W.Frag}{tg:Expr}(it:Addr)(lo:Int)(n:Nat):FQ P w K tg (Itr lo n) [it] it (fun i h=>IsRangeIter h it (lo+(i:Nat) * 1) ((n:Int) - (i:Nat)) 1) where
 mem:=by simp
 obj:=fun i h st b hb=>by
  have e:b=it:=by simpa using hb
  subst e
  exact⟨_,st,fun v z=>by
   have z':Data.fields _=Data.cell v:=z
   cases z'⟩
 keep:=fun i h h' st k=>k it (by simp) _ st
 item:=by
  intro X hP hw hK hc i pins s σ H E I hf st hg
  subst hP hw hK
  obtain⟨f0,f1,f2,f3,f4,f5⟩:=hf it (by simp)
  have W:=Walks.range (prog:=X.prog) (w:=X.w) (I.ok.hd hc) it lo 1 n
  refine W.item i s _ _ hg st fun v h' tk hv st' kk=>?_
  obtain⟨t,rfl⟩:=hv
  have I1:Inv X pins σ H { s with heap:=h',toks:=tk }:=I.turned (fun b o hb e=>kk b o (by simpa using hb) e) f0 f1 f3 f4 f5
  refine⟨_,rfl,MD (s:={ s with heap:=h',toks:=tk }) (n:="range_iterator") st' rfl rfl (by decide) ⟨.int (lo+i),H,I1,⟨t,?_⟩,⟨rfl,rfl⟩,st',fun b hb=>(hf b hb).1⟩⟩
  rw [Int.mul_one]
 done:=by
  intro X hP hw hK hc i pins s σ H E I hf st hg
  subst hP hw hK
  obtain⟨f0,f1,f2,f3,f4,f5⟩:=hf it (by simp)
  exact wpAny_pyNext_range_end (I.ok.hd hc) st (by have:n<=i:=hg;omega) fun h' eb=>⟨rfl,I.turned (t':=s.toks) (fun b o hb e=>eb b o hb e) f0 f1 f3 f4 f5⟩
 self:=fun _ _ _ _ _ st h=>wpAny_pyIter_rangeiter st h
section
variable{X:Cx}{tg:Expr}
def Sq(K:W.Frag)(tl:TE):TI:=fun σ H R=>tl σ H fun x H1=>∃ a,x=.ref a/\(∃ xs,oI K H1 a xs)/\R (Itl K a) H1
def yR{l:Expr}{tl:TE}(hl:PE X l tl):PI X tg l (Sq X.K tl):=by
 intro pins s σ H R I h
 refine dE (hl pins s σ H _ I h) fun v s1 ⟨x,H1,I1,r1,q1⟩=>?_
 obtain⟨a,e,⟨xs,hq⟩,q⟩:=q1
 subst e
 cases r1
 obtain⟨its,rv,p,hz⟩:=I1.list hq
 refine ZI p.isList ?_
 refine⟨s1.heap.objs.size,[s1.heap.objs.size],_,_,H1,rfl,I1.kept (t':=s1.toks) fun b o e=>WQ _ e,wJ a _,⟨_,Xe _ rfl,rfl,rfl⟩,fun b hb=>?_,q⟩
 have e:b=s1.heap.objs.size:=by simpa using hb
 subst e
 exact I1.fpOk (WY _) (I1.hok.fresh (WY _))
def Bc{pins:List (Addr×Obj)}{σ:St}{H:Hp}{s:Shared}{R:It->Hp->Prop}{E:Value->Shared->Prop}{lo hi:Int}{t u v:Tok}{tk:Nat}(I:Inv X pins σ H s)(h1:-(2 ^ 62)<=lo)(h2:lo<2 ^ 62)(h3:-(2 ^ 62)<=hi)(h4:hi<2 ^ 62)
  (q:R (Itr lo (hi - lo).toNat) H):wpAny (model X.prog X.w) X.A (pyIter (.ref s.heap.objs.size)) (PIE X pins σ tg R) E { s with heap:=s.heap.push { cls:=.type "range",data:=.fields #[.int lo t,.int hi u,.int 1 v] },toks:=tk }:=by
 refine wpAny_pyIter_range (IsRange.new ..) (small_one h1 h2 h3 h4) ?_
 have I1:Inv X pins σ H { s with heap:=s.heap.push { cls:=.type "range",data:=.fields #[.int lo t,.int hi u,.int 1 v] },toks:=tk }:=I.kept fun b o e=>WQ _ e
 refine⟨(s.heap.push { cls:=.type "range",data:=.fields #[.int lo t,.int hi u,.int 1 v] }).objs.size,[(s.heap.push { cls:=.type "range",data:=.fields #[.int lo t,.int hi u,.int 1 v] }).objs.size],_,_,H,rfl,
  I1.kept (t':=tk) fun b o e=>WQ _ e,Dy _ lo (hi - lo).toNat,?_,fun b hb=>?_,q⟩
 ·have e1:lo+((0:Nat):Int) * 1=lo:=by simp
  have e2:(((hi - lo).toNat:Nat):Int) - ((0:Nat):Int)=Builtin.Range.rangeSize lo hi 1:=by rw [rangeSize_one];split <;> omega
  show IsRangeIter _ _ (lo+((0:Nat):Int) * 1) ((((hi - lo).toNat:Nat):Int) - ((0:Nat):Int)) 1
  rw [e1,e2]
  exact Xe _ rfl
 ·have e:b=(s.heap.push { cls:=.type "range",data:=.fields #[.int lo t,.int hi u,.int 1 v] }).objs.size:=by simpa using hb
  subst e
  exact I1.fpOk (WY _) (I1.hok.fresh (WY _))
def iRng1(ta:TA):TI:=fun σ H R=>ta σ H fun vs H1=>∃ j:Int,vs=[.int j]/\-(2 ^ 62)<=j/\j<2 ^ 62/\R (Itr 0 j.toNat) H1
def iRng2(ta:TA):TI:=fun σ H R=>ta σ H fun vs H1=>∃ i j:Int,vs=[.int i,.int j]/\(-(2 ^ 62)<=i/\i<2 ^ 62/\-(2 ^ 62)<=j/\j<2 ^ 62)/\R (Itr i (j - i).toNat) H1
def Ie{a:Expr}{ta:TA}{p pos:Pos}(hg:Gl X "range")(hm:X.mg "range" = none)(ha:PA X [a] ta)(hs:starEach [a] X.env=[(false,eval a X.env)]:=by rfl):PI X tg (.Call (.Name "range" p) [a] [] pos) (iRng1 ta):=by
 intro pins s σ H R I h
 refine Call_ (lY I hg hm boot_range (XG (dE (ha pos pins s σ H _ I h) fun us s1 ⟨vs,H1,I1,r1,q1⟩=>?_) hs rfl))
 obtain⟨j,e,q1,q2,q⟩:=q1
 subst e
 cases r1 with
 | cons r rr=>
  cases rr
  obtain⟨t,rfl⟩:=r
  exact call_range_1 (Bc I1 (by omega) (by omega) q1 q2 (by simpa using q))
def Ic{a b:Expr}{ta:TA}{p pos:Pos}(hg:Gl X "range")(hm:X.mg "range" = none)(ha:PA X [a,b] ta)(hs:starEach [a,b] X.env=[(false,eval a X.env),(false,eval b X.env)]:=by rfl)(hs2:starEach [b] X.env=[(false,eval b X.env)]:=by rfl) :
  PI X tg (.Call (.Name "range" p) [a,b] [] pos) (iRng2 ta):=by
 intro pins s σ H R I h
 refine Call_ (lY I hg hm boot_range (XG (dE (ha pos pins s σ H _ I h) fun us s1 ⟨vs,H1,I1,r1,q1⟩=>?_) (by rw [hs,hs2]) (by rw [hs2];rfl)))
 obtain⟨i,j,e,⟨q1,q2,q3,q4⟩,q⟩:=q1
 subst e
 cases r1 with
 | cons r rr=>
  cases rr with
  | cons r' rr=>
   cases rr
   obtain⟨t,rfl⟩:=r
   obtain⟨t',rfl⟩:=r'
   exact call_range_2 (Bc I1 q1 q2 q3 q4 q)
def tFor(wi:TI)(g:TG)(tb:TS):TS:=fun D σ H=>wi σ H fun J H1=>∃ W:Nat->Nat->St->Hp->Prop,(∃ m,W 0 m σ H1)/\∀ i m σ H,W i m σ H ->
 (J.stop i H/\D.nx σ H)\/(J.go i H/\∃ N:St->Hp->Prop,(∀ σ' H',N σ' H'->∃ m',m'<m/\W (i+1) m' σ' H')/\∀ x H',J.yld i H x H'->g x σ H' fun σ2 H2=>tb { D with nx:=N,ct:=N,bk:=D.nx } σ2 H2)
noncomputable def ua(fp:List Addr)(h:Heap):List (Addr×Obj):=fp.filterMap fun b=>(h.get? b).map fun o=>(b,o)
def lV{fp:List Addr}{h:Heap}{b:Addr}{o:Obj}(hb:b∈fp)(e:h.get? b=some o):(b,o)∈ua fp h:=aaT.mpr ⟨b,hb,by rw [e];rfl⟩
def Ip{fp:List Addr}{h:Heap}{p:Addr×Obj}(hp:p∈ua fp h):p.1∈fp/\h.get? p.1=some p.2:=by
 obtain⟨b,hb,e⟩:=aaT.mp hp
 cases q:h.get? b with
 | none=>rw [q] at e;cases e
 | some o=>
  rw [q] at e
  have e':(b,o)=p:=Xg e
  subst e'
  exact⟨hb,q⟩
def Inv.pinned{pins:List (Addr×Obj)}{σ:St}{H:Hp}{s:Shared}{fp:List Addr}(I:Inv X pins σ H s)(hf:∀ b∈fp,rM X pins H b)(ho:∀ b∈fp,∃ o,s.heap.get? b=some o/\∀ v,o.data≠.cell v):Inv X (pins++ua fp s.heap) σ H s:=
 I.pins_of fun p hp=>(Xj.mp hp).elim (fun z=>I.pin p (XA _ z)) fun z=>by
  obtain⟨hb,e⟩:=Ip z
  obtain⟨f0,f1,f2,_⟩:=hf p.1 hb
  obtain⟨o,e',d⟩:=ho p.1 hb
  rw [e] at e';cases e'
  exact⟨e,f0,f1,f2,d⟩
def Inv.unpinned{pins pl:List (Addr×Obj)}{σ:St}{H:Hp}{s:Shared}(I:Inv X (pins++pl) σ H s):Inv X pins σ H s:=I.pins_of fun p hp=>I.pin p (XA _ (Xu _ hp))
def Lj{iter:Expr}{body:List Stmt}{wi:TI}{g:TG}{tb:TS}{pos:Pos}(hp:PassesOwn (model X.prog X.w) X.A X.env X.xe)(hc:X.calm=true)(hi:PI X tg iter wi)(hg:PG X tg g)(hb:PSs X body tb)
  (hs:∀ x,foldedSetIterable iter X.env x=pure x:=by intro _;rfl):PS X (.For tg iter body [] pos) (tFor wi g tb):=by
 intro pins s σ H D I h
 refine wpAny_For (dE (hi pins s σ H _ I h) fun v s1 h1=>dE h1 fun itv s2 h2=>?_) hs
 obtain⟨it,fp,tn,J,H2,e,I2,T,st2,f2,W,⟨m0,w0⟩,turn⟩:=h2
 subst e
 have stat:∀ {H':Hp},(∀ b∈fp,H' b=none)->∀ b∈fp,rM X pins H' b:=fun hn b hb=>⟨hn b hb,(f2 b hb).2⟩
 refine codeAny_forLoop_any (fun n s'=>∃ i σ' H',Inv X pins σ' H' s'/\tn i s'.heap/\(∀ b∈fp,H' b=none)/\W i n σ' H') ?_ m0 ⟨0,σ,H2,I2,st2,fun b hb=>(f2 b hb).1,w0⟩
 rintro n s3 ⟨i,σ3,H3,I3,st3,fr3,w3⟩
 rcases turn i n σ3 H3 w3 with ⟨stop,qn⟩ | ⟨go,N,hN,step⟩
 ·refine Yx hp (dE (T.done X rfl rfl rfl hc i pins s3 σ3 H3 X.xe I3 (stat fr3) st3 stop) fun r s4 ⟨hr,I4⟩=>?_)
  subst hr
  exact Zv ⟨σ3,H3,I4,qn⟩
 ·refine Yx hp (dE (T.item X rfl rfl rfl hc i pins s3 σ3 H3 X.xe I3 (stat fr3) st3 go) fun r s4 ⟨u,hr,h4⟩=>?_)
  subst hr
  refine Yx hp (dE h4 fun _ s5 ⟨x,H5,I5,r5,y5,st5,fr5⟩=>?_)
  have I5':=I5.pinned (stat fr5) (T.obj _ _ st5)
  refine Yx hp (dE (hg _ s5 σ3 H5 x u _ I5' r5 (step x H5 y5)) fun _ s6 ⟨σ6,H6,I6,q6⟩=>?_)
  refine Yx hp (dE (hb _ s6 σ6 H6 _ I6 q6) fun f s7 q7=>?_)
  have again:∀ {σ7:St} {H7:Hp},Inv X (pins++ua fp s5.heap) σ7 H7 s7->N σ7 H7->∃ m,m<n/\∃ i σ' H',Inv X pins σ' H' s7/\tn i s7.heap/\(∀ b∈fp,H' b=none)/\W i m σ' H':=fun {σ7 H7} I7 n7=>by
   obtain⟨m',hm,w7⟩:=hN σ7 H7 n7
   refine⟨m',hm,i+1,σ7,H7,I7.unpinned,T.keep _ _ _ st5 fun b hb o e=>(I7.pin (b,o) (XA _ (XA _ (lV hb e)))).1,fun b hb=>?_,w7⟩
   obtain⟨o,e,d⟩:=T.obj _ _ st5 b hb
   exact(I7.pin (b,o) (XA _ (XA _ (lV hb e)))).2.1
  cases f with
  | next=>obtain⟨σ7,H7,I7,n7⟩:=q7;exact again I7 n7
  | cont=>obtain⟨σ7,H7,I7,n7⟩:=q7;exact again I7 n7
  | brk=>obtain⟨σ7,H7,I7,q7⟩:=q7;exact⟨σ7,H7,I7.unpinned,q7⟩
  | ret v=>obtain⟨x7,σ7,H7,I7,r7,q7⟩:=q7;exact⟨x7,σ7,H7,I7.unpinned,r7,q7⟩
end
abbrev R2:=V->V->Hp->VK->Prop
def OpR(X:Cx)(f:Value->Value->Sem Value)(r:R2):Prop:=
 ∀ (pins:List (Addr×Obj)) (s:Shared) (σ:St) (H:Hp) (x y:V) (v u:Value) (Q:VK),Inv X pins σ H s->RelV x v->RelV y u->r x y H Q ->
  wpAny (model X.prog X.w) X.A (f v u) (EP X pins σ Q) X.xe s
def UnR(X:Cx)(f:Value->Sem Value)(r:V->Hp->VK->Prop):Prop:=
 ∀ (pins:List (Addr×Obj)) (s:Shared) (σ:St) (H:Hp) (x:V) (v:Value) (Q:VK),Inv X pins σ H s->RelV x v->r x H Q ->
  wpAny (model X.prog X.w) X.A (f v) (EP X pins σ Q) X.xe s
def CallR(X:Cx)(f:Value)(r:List V->Hp->VK->Prop):Prop:=
 ∀ (pins:List (Addr×Obj)) (s:Shared) (σ:St) (H:Hp) (xs:List V) (us:List Value) (Q:VK),Inv X pins σ H s->Vals xs us->r xs H Q ->
  wpAny (model X.prog X.w) X.A (call f us) (EP X pins σ Q) X.xe s
def TruR(X:Cx)(r:V->Hp->(Bool->Hp->Prop)->Prop):Prop:=
 ∀ (pins:List (Addr×Obj)) (s:Shared) (σ:St) (H:Hp) (x:V) (v:Value) (Q:Bool->Hp->Prop),Inv X pins σ H s->RelV x v->r x H Q ->
  wpAny (model X.prog X.w) X.A (truthy v) (TP X pins σ Q) X.xe s
def tOp(r:R2)(ta tb:TE):TE:=fun σ H Q=>ta σ H fun x H1=>tb σ H1 fun y H2=>r x y H2 Q
def tUn(r:V->Hp->VK->Prop)(ta:TE):TE:=fun σ H Q=>ta σ H fun x H1=>r x H1 Q
noncomputable def rI(C:Int->Int->Prop)(g:Int->Int->V):R2:=fun x y H Q=>∃ i j,x=.int i/\y=.int j/\C i j/\Q (g i j) H
noncomputable def Pa(g:Int->Int->V):R2:=fun x y H Q=>∃ i j,x=.int i/\y=.int j/\Q (g i j) H
def rU(g:Int->V):V->Hp->VK->Prop:=fun x H Q=>∃ i,x=.int i/\Q (g i) H
section
variable{X:Cx}{a b c:Expr}{ta tb tc:TE}{pos:Pos}
def Wp(ha:PE X a ta)(hb:PE X b tb){pins:List (Addr×Obj)}{s:Shared}{σ:St}{H:Hp}{R:V->V->Hp->Prop}(I:Inv X pins σ H s)
  (h:ta σ H fun x H1=>tb σ H1 fun y H2=>R x y H2) {Q:Value->Shared->Prop} {f:Value->Value->Sem Value}
  (hf:∀ v u s2 x y H2,Inv X pins σ H2 s2->RelV x v->RelV y u->R x y H2->wpAny (model X.prog X.w) X.A (f v u) Q X.xe s2) :
  wpAny (model X.prog X.w) X.A (eval a X.env) (fun v s₁=>wpAny (model X.prog X.w) X.A (eval b X.env) (fun u s₂=>wpAny (model X.prog X.w) X.A (f v u) Q X.xe s₂) X.xe s₁) X.xe s:=by
 refine dE (ha pins s σ H _ I h) fun v s1 ⟨x,H1,I1,r1,q1⟩=>?_
 refine dE (hb pins s1 σ H1 _ I1 q1) fun u s2 ⟨y,H2,I2,r2,q2⟩=>?_
 exact hf v u s2 x y H2 I2 r1 r2 q2
def pe_op{op:Operator}{r:R2}(ho:OpR X (binaryOp op) r)(ha:PE X a ta)(hb:PE X b tb):PE X (.BinOp a op b pos) (tOp r ta tb):=by
 intro pins s σ H Q I h
 exact wpAny_BinOp (Wp ha hb I h fun v u s2 x y H2 I2 rx ry q=>ho pins s2 σ H2 x y v u Q I2 rx ry q)
def pe_un{op:UnaryOp}{r:V->Hp->VK->Prop}(ho:UnR X (unaryOp op) r)(ha:PE X a ta):PE X (.UnaryOp op a pos) (tUn r ta):=by
 intro pins s σ H Q I h
 exact UnaryOp_ (dE (ha pins s σ H _ I h) fun v s1 ⟨x,H1,I1,r1,q1⟩=>ho pins s1 σ H1 x v Q I1 r1 q1)
def opI{f:Value->Value->Sem Value}{C:Int->Int->Prop}{g:Int->Int->Int}
  (rule:∀ (i j:Int) (t u:Tok) (s:Shared) (Q:Value->Shared->Prop) (E:Value->Shared->Prop),C i j->Q (.int (g i j) s.toks) { s with toks:=s.toks+1 }->wpAny (model X.prog X.w) X.A (f (.int i t) (.int j u)) Q E s) :
  OpR X f (rI C fun i j=>.int (g i j)):=by
 intro pins s σ H x y v u Q I rx ry h
 obtain⟨i,j,rfl,rfl,hc,q⟩:=h
 obtain⟨t,rfl⟩:=rx
 obtain⟨t',rfl⟩:=ry
 exact rule i j t t' s _ _ hc ⟨.int (g i j),H,I.tok _,⟨_,rfl⟩,q⟩
def opI0{f:Value->Value->Sem Value}{g:Int->Int->Int}
  (rule:∀ (i j:Int) (t u:Tok) (s:Shared) (Q:Value->Shared->Prop) (E:Value->Shared->Prop),Q (.int (g i j) s.toks) { s with toks:=s.toks+1 }->wpAny (model X.prog X.w) X.A (f (.int i t) (.int j u)) Q E s) :
  OpR X f (Pa fun i j=>.int (g i j)):=by
 intro pins s σ H x y v u Q I rx ry h
 obtain⟨i,j,rfl,rfl,q⟩:=h
 obtain⟨t,rfl⟩:=rx
 obtain⟨t',rfl⟩:=ry
 exact rule i j t t' s _ _ ⟨.int (g i j),H,I.tok _,⟨_,rfl⟩,q⟩
def PP{f:Value->Value->Sem Value}{g:Int->Int->Bool}
  (rule:∀ (i j:Int) (t u:Tok) (s:Shared) (Q:Value->Shared->Prop) (E:Value->Shared->Prop),Q (.bool (g i j)) s->wpAny (model X.prog X.w) X.A (f (.int i t) (.int j u)) Q E s) :
  OpR X f (Pa fun i j=>.bl (g i j)):=by
 intro pins s σ H x y v u Q I rx ry h
 obtain⟨i,j,rfl,rfl,q⟩:=h
 obtain⟨t,rfl⟩:=rx
 obtain⟨t',rfl⟩:=ry
 exact rule i j t t' s _ _ ⟨.bl (g i j),H,I,rfl,q⟩
def CDiv(i j:Int):Prop:=0<j/\j<1073741824
def CPow(i j:Int):Prop:=0<=j/\j<=1000000/\i.natAbs<2 ^ 64
def Uf:OpR X (binaryOp .Add) (Pa fun i j=>.int (i+j)):=opI0 fun _ _ _ _ _ _ _ q=>add_int q
def Ub:OpR X (binaryOp .Sub) (Pa fun i j=>.int (i - j)):=opI0 fun _ _ _ _ _ _ _ q=>sub_int q
def PK:OpR X (binaryOp .FloorDiv) (rI CDiv fun i j=>.int (i / j)):=opI fun i j _ _ _ _ _ hc q=>by
 have h1:(0:Int)<j:=hc.1
 have h2:j<1073741824:=hc.2
 exact floordiv_int (by omega) (by rw [Int.fdiv_eq_ediv_of_nonneg i (by omega)];exact q) (.inl (PyProof.noPylong_small (by omega)))
def Ue:OpR X (binaryOp .Mod) (rI (fun _ j=>0<j) fun i j=>.int (i % j)):=opI fun i j _ _ _ _ _ hc q=>by
 have h1:(0:Int)<j:=hc
 exact mod_int' (by omega) (by rw [Int.fmod_eq_emod_of_nonneg i (by omega)];exact q)
def Ud:OpR X (binaryOp .Pow) (rI CPow fun i j=>.int (i ^ j.toNat)):=opI fun _ _ _ _ _ _ _ hc q=>pow_int_small hc.1 hc.2.1 hc.2.2 q
def unI{f:Value->Sem Value}{g:Int->Int}
  (rule:∀ (i:Int) (t:Tok) (s:Shared) (Q:Value->Shared->Prop) (E:Value->Shared->Prop),Q (.int (g i) s.toks) { s with toks:=s.toks+1 }->wpAny (model X.prog X.w) X.A (f (.int i t)) Q E s) :
  UnR X f (rU fun i=>.int (g i)):=by
 intro pins s σ H x v Q I rx h
 obtain⟨i,rfl,q⟩:=h
 obtain⟨t,rfl⟩:=rx
 exact rule i t s _ _ ⟨.int (g i),H,I.tok _,⟨_,rfl⟩,q⟩
def SS:UnR X (unaryOp .USub) (rU fun i=>.int (-i)):=unI fun _ _ _ _ _ q=>neg_int q
end
section
variable{X:Cx}{a b c:Expr}{ta tb tc:TE}{pos:Pos}
def op_lt:OpR X (compareOp .Lt) (Pa fun i j=>.bl (decide (i<j))):=PP fun _ _ _ _ _ _ _ q=>lt_int q
def op_le:OpR X (compareOp .LtE) (Pa fun i j=>.bl (decide (i<=j))):=PP fun _ _ _ _ _ _ _ q=>le_int q
def op_gt:OpR X (compareOp .Gt) (Pa fun i j=>.bl (decide (j<i))):=PP fun _ _ _ _ _ _ _ q=>gt_int q
def op_ge:OpR X (compareOp .GtE) (Pa fun i j=>.bl (decide (j<=i))):=PP fun _ _ _ _ _ _ _ q=>ge_int q
def OpR.or{f:Value->Value->Sem Value}{r r':R2}(h:OpR X f r)(h':OpR X f r'):OpR X f (fun x y H Q=>r x y H Q\/r' x y H Q):=by
 intro pins s σ H x y v u Q I rx ry q
 rcases q with q | q
 ·exact h pins s σ H x y v u Q I rx ry q
 ·exact h' pins s σ H x y v u Q I rx ry q
def Pu{op:CmpOp}{r:R2}(ho:OpR X (compareOp op) r)(ha:PE X a ta)(hb:PE X b tb)(hm:behindInMarks op b=false):PE X (.Compare a [op] [b] pos) (tOp r ta tb):=by
 intro pins s σ H Q I h
 exact wpAny_Compare1 (Wp ha hb I h fun v u s2 x y H2 I2 rx ry q=>ho pins s2 σ H2 x y v u Q I2 rx ry q) hm
def RQ(t:TE):TT:=fun σ H Q=>t σ H fun x H'=>∃ k,x=.bl k/\Q k H'
def Ph{op:CmpOp}{r:R2}(ho:OpR X (compareOp op) r)(ha:PE X a ta)(hb:PE X b tb)(hm:behindInMarks op b=false):PT X (.Compare a [op] [b] pos) (RQ (tOp r ta tb)):=by
 intro pins s σ H Q I h
 refine wpAny_isTrue_Compare1 (dE (ha pins s σ H _ I h) fun v s1 ⟨x,H1,I1,r1,q1⟩=>dE (hb pins s1 σ H1 _ I1 q1) fun u s2 ⟨y,H2,I2,r2,q2⟩=>
  dE (ho pins s2 σ H2 x y v u _ I2 r1 r2 q2) fun c s3 ⟨z,H3,I3,r3,k,e,q3⟩=>?_) hm
 subst e
 cases r3
 exact YB ⟨H3,I3,q3⟩
def DD(r r':R2)(ta tb tc:TE):TE:=fun σ H Q=>ta σ H fun x H1=>tb σ H1 fun y H2=>r x y H2 fun z H3=>∃ k,z=.bl k /\
 (if k=true then tc σ H3 fun w' H4=>r' y w' H4 Q else Q (.bl false) H3)
def Ly{op op':CmpOp}{r r':R2}(ho:OpR X (compareOp op) r)(ho':OpR X (compareOp op') r')(ha:PE X a ta)(hb:PE X b tb)(hc:PE X c tc)
  (hm:lastMarks [op,op'] [b,c]=false:=by with_unfolding_all rfl):PE X (.Compare a [op,op'] [b,c] pos) (DD r r' ta tb tc):=by
 intro pins s σ H Q I h
 refine Compare_chain (dE (ha pins s σ H _ I h) fun v s1 ⟨x,H1,I1,r1,q1⟩=>chain_link (dE (hb pins s1 σ H1 _ I1 q1) fun u s2 ⟨y,H2,I2,r2,q2⟩=>
  dE (ho pins s2 σ H2 x y v u _ I2 r1 r2 q2) fun d s3 ⟨z,H3,I3,r3,k,e,q3⟩=>?_)) hm
 subst e
 cases r3
 refine YB ?_
 cases k with
 | false=>exact ite_ff ⟨.bl false,H3,I3,rfl,q3⟩
 | true=>exact ite_tt (chain_last (dE (hc pins s3 σ H3 _ I3 q3) fun w' s4 ⟨z',H4,I4,r4,q4⟩=>ho' pins s4 σ H4 y z' u w' Q I4 r2 r4 q4))
def Le{op op':CmpOp}{r r':R2}(ho:OpR X (compareOp op) r)(ho':OpR X (compareOp op') r')(ha:PE X a ta)(hb:PE X b tb)(hc:PE X c tc)
  (hm:lastMarks [op,op'] [b,c]=false:=by with_unfolding_all rfl):PT X (.Compare a [op,op'] [b,c] pos) (RQ (DD r r' ta tb tc)):=by
 intro pins s σ H Q I h
 refine isTrue_chain (dE (ha pins s σ H _ I h) fun v s1 ⟨x,H1,I1,r1,q1⟩=>test_link (dE (hb pins s1 σ H1 _ I1 q1) fun u s2 ⟨y,H2,I2,r2,q2⟩=>
  dE (ho pins s2 σ H2 x y v u _ I2 r1 r2 q2) fun d s3 ⟨z,H3,I3,r3,k,e,q3⟩=>?_)) hm
 subst e
 cases r3
 refine YB ?_
 cases k with
 | false=>
  obtain⟨k',e',q'⟩:=q3
  cases e'
  exact ite_ff ⟨H3,I3,q'⟩
 | true=>
  refine ite_tt (test_last (dE (hc pins s3 σ H3 _ I3 q3) fun w' s4 ⟨z',H4,I4,r4,q4⟩=>dE (ho' pins s4 σ H4 y z' u w' _ I4 r2 r4 q4) fun d' s5 ⟨z2,H5,I5,r5,k2,e2,q5⟩=>?_))
  subst e2
  cases r5
  exact YB ⟨H5,I5,q5⟩
def JZ(K:W.Frag)(x:V)(H:Hp)(k:Bool):Prop:=
 match x with
 | .non=>k=false
 | .bl b=>k=b
 | .int i=>k=(i != 0)
 | .str y=>y.length<=sizeLine/\k=((y.length:Int) != 0)
 | .byt y=>y.size<=sizeLine/\k=((y.size:Int) != 0)
 | .ref p=>(∃ xs,oI K H p xs/\k = !xs.isEmpty)\/(∃ xs,mE K H p xs/\k = !xs.isEmpty)\/∃ kvs,H p=some (.dK kvs)/\k = !kvs.isEmpty
 | _=>False
def Fd{κ:Type}{kvs:List (κ×V)}{vs:List (κ×Value)}(r:KV kvs vs):(!vs.isEmpty) = !kvs.isEmpty:=by
 cases r <;> rfl
def uW{xs:List V}{its:List Value}(r:Vals xs its):(!its.toArray.isEmpty) = !xs.isEmpty:=by
 cases r <;> simp
def qZ:(sizeLine:Nat)<2 ^ 63:=by rw [ZX];decide
def yl:TruR X (fun x H Q=>∃ k,JZ X.K x H k/\Q k H):=by
 intro pins s σ H x v Q I rx h
 obtain⟨k,e,q⟩:=h
 have hl:=qZ
 have hs:sizeLine=16777216:=ZX
 cases x with
 | non=>
  cases rx
  have e':k=false:=e
  subst e'
  exact truthy_none ⟨H,I,q⟩
 | bl b=>
  cases rx
  have e':k=b:=e
  subst e'
  exact YB ⟨H,I,q⟩
 | int i=>
  obtain⟨t,rfl⟩:=rx
  have e':k=(i != 0):=e
  subst e'
  exact PySem.P.truthy_int ⟨H,I,q⟩
 | str y=>
  obtain⟨t,rfl⟩:=rx
  obtain⟨hy,e'⟩:y.length<=sizeLine/\k=((y.length:Int) != 0):=e
  subst e'
  exact PySem.P.truthy_str (by omega) ⟨H,I.tok _,q⟩
 | byt y=>
  obtain⟨t,rfl⟩:=rx
  obtain⟨hy,e'⟩:y.size<=sizeLine/\k=((y.size:Int) != 0):=e
  subst e'
  exact W.truthy_bytes (by omega) ⟨H,I.tok _,q⟩
 | ref p=>
  cases rx
  have e':(∃ xs,oI X.K H p xs/\k = !xs.isEmpty)\/(∃ xs,mE X.K H p xs/\k = !xs.isEmpty)\/∃ kvs,H p=some (.dK kvs)/\k = !kvs.isEmpty:=e
  rcases e' with ⟨xs,hx,e'⟩ | ⟨xs,hx,e'⟩ | ⟨kvs,hx,e'⟩
  ·subst e'
   obtain⟨its,r,pl,hz⟩:=I.list hx
   have hlen:=r.length
   exact wpAny_truthy_list pl.isList (by simp only [WN];omega) ⟨H,I.tok _,by rw [uW r];exact q⟩
  ·subst e'
   obtain⟨its,r,pl,hz⟩:=I.tuple hx
   have hlen:=r.length
   exact truthy_tuple pl (by simp only [WN];omega) ⟨H,I.tok _,by rw [uW r];exact q⟩
  ·subst e'
   obtain⟨hz,hS,vs,r,m⟩:kvs.length<=sizeLine/\(p == sysModules)=false/\∃ vs,KV kvs vs/\s.heap.DictOf (cf X.prog X.w) p vs:=I.hok p _ hx
   have hlen:kvs.length=vs.length:=aam r
   exact wpAny_truthy_dict hS m (by omega) ⟨H,I.tok _,by rw [Fd r];exact q⟩
 | _=>exact(show False from e).elim
def Ld(ha:PE X a ta)(he:∀ whole,isTrue a X.env whole=(do let v <- whole;standAt a.pos;holding [v] (truthy v))) :
  PT X a (fun σ H Q=>ta σ H fun x H'=>∃ k,JZ X.K x H' k/\Q k H'):=by
 intro pins s σ H Q I h
 exact isTrue_plain (dE (ha pins s σ H _ I h) fun v s1 ⟨x,H1,I1,r1,q1⟩=>yl pins s1 σ H1 x v Q I1 r1 q1) (he _)
def Eh:OpR X (binaryOp .Add) (fun x y H Q=>∃ i j,x=.str i/\y=.str j/\i.length+j.length<=sizeLine/\Q (.str (i++j)) H):=by
 intro pins s σ H x y v u Q I rx ry h
 obtain⟨i,j,rfl,rfl,hz,q⟩:=h
 obtain⟨t,rfl⟩:=rx
 obtain⟨t',rfl⟩:=ry
 exact add_str (fun t' tk=>⟨.str (i++j),H,I.tok _,⟨_,rfl⟩,q⟩) hz
def rN{x:V}{us:List Value}(r:Vals [x] us):∃ u,us=[u]/\RelV x u:=by
 cases r with
 | cons r1 r2=>cases r2;exact⟨_,rfl,r1⟩
def Ko{x y:V}{us:List Value}(r:Vals [x,y] us):∃ u w',us=[u,w']/\RelV x u/\RelV y w':=by
 cases r with
 | cons r1 r2=>
  cases r2 with
  | cons r3 r4=>cases r4;exact⟨_,_,rfl,r1,r3⟩
def JS(hc:X.calm=true):CallR X (.builtin "max") (fun xs H Q=>∃ i j,xs=[.int i,.int j]/\Q (.int (if j>i then j else i)) H):=by
 intro pins s σ H xs us Q I r h
 obtain⟨i,j,rfl,q⟩:=h
 obtain⟨u,w',rfl,⟨t,rfl⟩,⟨t',rfl⟩⟩:=Ko r
 refine max_two_ints (I.ok.hd hc) fun h' tk k=>⟨_,H,I.kept k,?_,q⟩
 by_cases hj:j>i
 ·rw [Xc hj,Xc hj];exact⟨_,rfl⟩
 ·rw [if_neg hj,if_neg hj];exact⟨_,rfl⟩
def JQ(hc:X.calm=true):CallR X (.builtin "min") (fun xs H Q=>∃ i j,xs=[.int i,.int j]/\Q (.int (if j<i then j else i)) H):=by
 intro pins s σ H xs us Q I r h
 obtain⟨i,j,rfl,q⟩:=h
 obtain⟨u,w',rfl,⟨t,rfl⟩,⟨t',rfl⟩⟩:=Ko r
 refine min_two_ints (I.ok.hd hc) fun h' tk k=>⟨_,H,I.kept k,?_,q⟩
 by_cases hj:j<i
 ·rw [Xc hj,Xc hj];exact⟨_,rfl⟩
 ·rw [if_neg hj,if_neg hj];exact⟨_,rfl⟩
def JT:CallR X (.type "int") (fun xs H Q=>(∃ i,xs=[.int i]/\Q (.int i) H)\/∃ k,xs=[.bl k]/\Q (.int (if k then 1 else 0)) H):=by
 intro pins s σ H xs us Q I r h
 rcases h with ⟨i,rfl,q⟩ | ⟨k,rfl,q⟩
 ·obtain⟨u,rfl,t,rfl⟩:=rN r
  exact call_int_int ⟨.int i,H,I,⟨_,rfl⟩,q⟩
 ·obtain⟨u,rfl,r1⟩:=rN r
  cases r1
  exact call_int_bool ⟨.int (if k then 1 else 0),H,I.tok _,⟨_,rfl⟩,q⟩
end
section
variable{prog:Program}{w:World}{A:Around}{E:Value->Shared->Prop}{s:Shared}{K:W.Frag}{x dx C f:Addr}{mA:Str->Option Value}{name:Str}{v:Value}
end
def RelO.some_of{v:V}{o:Option Value}(r:RelO (some v) o):∃ u,o=some u/\RelV v u:=by
 cases o with
 | none=>exact(show False from r).elim
 | some u=>exact⟨u,rfl,r⟩
section
variable{P:Program}{w:World}{H H':Hp}{h h':Heap}{a C dx:Addr}{fs fs':List (Str×V)}
end
section
variable{X:Cx}{pins:List (Addr×Obj)}{σ:St}{H:Hp}{s:Shared}{a C dx:Addr}{fs:List (Str×V)}{f:Str}{v:V}{A:Around}{E:Value->Shared->Prop}
end
section
variable{X:Cx}{o e value:Expr}{f:Str}{pos pos' tpos:Pos}{ta tv:TE}
end
section
variable{X:Cx}{pins:List (Addr×Obj)}{σ:St}{H:Hp}{s:Shared}{A:Around}{E:Value->Shared->Prop}{Q:Value->Shared->Prop}{c:Value}{b:Bool}
end
structure Room(k:Nat)(A:Around):Prop where
 hd:A.handled=none
 dp:A.depth+3 * k+5<recursionLimit
 un:A.units+16 * k+200<cLine
def Room.mono{j k:Nat}{A:Around}(r:Room k A)(h:j<=k):Room j A:=⟨r.hd,by have:=r.dp;omega,by have:=r.un;omega⟩
def Room.deeper{k:Nat}{A:Around}(r:Room (k+1) A)(env:Env):Room k (A.deeper env):=
 ⟨r.hd,by have:=r.dp;show A.depth+1+3 * k+5<_;omega,by have:=r.un;show A.units+3+16 * k+200<_;omega⟩
def Room.depth{k:Nat}{A:Around}(r:Room k A):A.depth<recursionLimit:=by have:=r.dp;omega
def Room.units{k:Nat}{A:Around}(r:Room k A):A.units+64<cLine:=by have:=r.un;omega
def tNil:TA:=fun _ H Q=>Q [] H
def tCons(ta:TE)(tr:TA):TA:=fun σ H Q=>ta σ H fun x H1=>tr σ H1 fun xs H2=>Q (x::xs) H2
section
variable{X:Cx}{e:Expr}{es:List Expr}{te:TE}{t:TA}{pos:Pos}
def LC:PA X [] tNil:=fun _ _ _ _ H Q I h=>Calls.spliced_nil ⟨[],H,I,.nil,h⟩
def yU(ha:PE X e te)(hr:PA X es t)(hs:starEach (e::es) X.env=(false,eval e X.env)::starEach es X.env:=by rfl):PA X (e::es) (tCons te t):=by
 intro pos pins s σ H Q I h
 rw [hs]
 show wpAny _ _ (spliced ((false,eval e X.env)::backTo pos (starEach es X.env))) _ _ s
 refine aaX (dE (ha pins s σ H _ I h) fun u s1 ⟨x,H1,I1,r1,q1⟩=>?_)
 exact dE (hr pos pins s1 σ H1 _ I1 q1) fun us s2 ⟨xs,H2,I2,r2,q2⟩=>⟨x::xs,H2,I2,.cons r1 r2,q2⟩
def tTup(t:TA):TE:=fun σ H Q=>t σ H fun xs H1=>xs.length<=sizeLine/\∀ p,H1 p=none->Q (.ref p) (upd H1 p (.tup xs))
def tLst(t:TA):TE:=fun σ H Q=>t σ H fun xs H1=>xs.length<=sizeLine/\∀ p,H1 p=none->Q (.ref p) (upd H1 p (.lst xs))
def TL{x1}(h:PA X es t):PE X (.Tuple es x1 pos) (tTup t):=by
 intro pins s σ H Q I hq
 refine wpAny_Tuple_spliced (dE (h pos pins s σ H _ I hq) fun us s1 ⟨xs,H1,I1,r,z,q⟩=>⟨by rw [<- r.length];exact z,?_⟩)
 have hf:H1 s1.heap.objs.size=none:=I1.hok.fresh (WY _)
 refine⟨.ref s1.heap.objs.size,upd H1 s1.heap.objs.size (.tup xs),I1.laid (t':=s1.toks) (fun b u e=>WQ _ e) (WY _) ?_,rfl,q _ hf⟩
 exact⟨z,us,r,⟨_,Xe _ rfl,rfl,⟨_,rfl⟩,rfl⟩⟩
def Ls(h:PA X es t):PE X (.List es pos) (tLst t):=by
 intro pins s σ H Q I hq
 refine wpAny_List_spliced (dE (h pos pins s σ H _ I hq) fun us s1 ⟨xs,H1,I1,r,z,q⟩=>⟨by rw [<- r.length];exact z,?_⟩)
 have hf:H1 s1.heap.objs.size=none:=I1.hok.fresh (WY _)
 refine⟨.ref s1.heap.objs.size,upd H1 s1.heap.objs.size (.lst xs),I1.laid (t':=s1.toks) (fun b u e=>WQ _ e) (WY _) ?_,rfl,q _ hf⟩
 exact⟨z,us,0,r,Xe _ rfl⟩
end
abbrev Sp:=List V->Hp->VK->XK->Prop
abbrev Kf:=List Env->Hp->Shared->XK->Value->Shared->Prop
structure RO(P:Program)(w:World)(K:W.Frag)(mg:Str->Option Value)(base:Heap)(A:Around)(outer:List Env)(s:Shared)(H:Hp):Prop where
 frames:A.frames=some outer
 mod:Mod K mg base
 bs:∀ b o,base.get? b=some o->s.heap.get? b=some o/\H b=none
 bsz:base.objs.size<=s.heap.objs.size
 funs:s.heap.FunFrames base outer
 frf:∀ b∈Kc outer,H b=none
 hok:HOk P w H s.heap
 bare:AllBare s.gens
def CE(outer:List Env)(P:Program)(w:World)(H:Hp)(s:Shared)(Q:VK)(u:Value)(s':Shared):Prop:=
 ∃ v H',s'.os=s.os/\AllBare s'.gens/\Un (Kc outer) [] H H' s.heap s'.heap/\HOk P w H' s'.heap/\RelV v u/\Q v H'
def CR(CX:Kf)(outer:List Env)(P:Program)(w:World)(H:Hp)(s:Shared)(Q:VK)(E:XK)(r:Result)(s':Shared):Prop:=
 match r with
 | .ok (.ret u)=>CE outer P w H s Q u s'
 | .ok _=>False
 | .error e=>CX outer H s E e s'
structure FnOk(P:Program)(w:World)(K:W.Frag)(mg:Str->Option Value)(base:Heap)(CX:Kf)(k:Nat)(f:Addr)(fd:FuncData)(ps:List Str)(sp:Sp):Prop where
 len:∀ vs H Q E,sp vs H Q E->vs.length=ps.length
 run:∀ (A:Around) (outer:List Env) (s:Shared) (H:Hp) (args:Args) (us:List Value) (vs:List V) (Q:VK) (E:XK),Room k A->RO P w K mg base A outer s H->BindsTo s fd args (ps.zip us)->Vals vs us->sp vs H Q E ->
  codeAny (model P w) A (.call (.ref f) args) (CR CX outer P w H s Q E) s
def FnOk.mono{P:Program}{w:World}{K:W.Frag}{mg:Str->Option Value}{base:Heap}{CX:Kf}{j k:Nat}{f:Addr}{fd:FuncData}{ps:List Str}{sp:Sp}(F:FnOk P w K mg base CX j f fd ps sp)(h:j<=k) :
  FnOk P w K mg base CX k f fd ps sp:=⟨F.len,fun A outer s H args us vs Q E hr=>F.run A outer s H args us vs Q E (hr.mono h)⟩
section
variable{X:Cx}{pins:List (Addr×Obj)}{σ:St}{H:Hp}{s s':Shared}
def Inv.env0(I:Inv X pins σ H s):RO X.prog X.w X.K X.mg X.base X.A X.stack s H:=
 ⟨I.ok.frames,I.ok.mod,I.bs,Xl I.ok.bsz I.sz,I.stack,I.stkFree,I.hok,I.bare⟩
def Inv.after{Q:VK}{u:Value}(I:Inv X pins σ H s)(h:CE X.stack X.prog X.w H s Q u s'):EP X pins σ Q u s':=by
 obtain⟨v,H',os,bare,un,hok,r,q⟩:=h
 obtain⟨hh,g,d,t,os'⟩:=s'
 obtain rfl:os'=s.os:=os
 exact⟨v,H',I.call (h':=hh) (g':=g) (d':=d) (t':=t) (ch:=[]) un hok bare (fun b z=>absurd z (by simp)),r,q⟩
end
def FZ(sp:Sp)(dvs:List V)(E:XK)(t:TA):TE:=fun σ H Q=>t σ H fun vs H1=>sp (vs++dvs) H1 Q E
def Binds(K:W.Frag)(fd:FuncData)(ps:List Str)(ds:List Value):Prop:=
 ∀ (s:Shared) (us:List Value),K.In s.heap->(us++ds).length=ps.length->BindsTo s fd ⟨us,[]⟩ (ps.zip (us++ds))
def Binds.all{K:W.Frag}{fd:FuncData}{ps:List Str}(h:∀ us:List Value,us.length=ps.length->bindArgs fd ⟨us,[]⟩=pure (ps.zip us)):Binds K fd ps []:=fun s us _ hl=>by
 rw [Xr] at hl ⊢
 exact .of_eq (h us hl)
def Az(CX:Kf)(X:Cx)(E:XK):Prop:=∀ (pins:List (Addr×Obj)) (σ:St) (H:Hp) (s:Shared) (e:Value) (s':Shared),Inv X pins σ H s->CX X.stack H s E e s'->X.xe e s'
section
variable{X:Cx}{CX:Kf}{k:Nat}{f C:Addr}{fd:FuncData}{ps:List Str}{sp:Sp}{dvs:List V}{ds:List Value}{E:XK}{x m:Str}{p pos apos:Pos}{e o:Expr}{es:List Expr}{ta:TE}{t:TA}
def DZ{pins:List (Addr×Obj)}{σ:St}{H:Hp}{s:Shared}{Q:VK}{us:List Value}{vs:List V}(F:FnOk X.prog X.w X.K X.mg X.base CX k f fd ps sp)(hr:Room k X.A)(hb:Binds X.K fd ps ds)(hd:Vals dvs ds)(hx:Az CX X E)
  (I:Inv X pins σ H s) (r:Vals vs us) (h:sp (vs++dvs) H Q E):wpAny (model X.prog X.w) X.A (call (.ref f) us) (EP X pins σ Q) X.xe s:=by
 have r2:Vals (vs++dvs) (us++ds):=r.append hd
 have hl:(us++ds).length=ps.length:=by rw [<- r2.length];exact F.len _ _ _ _ h
 refine wpAny_call (Zg (F.run X.A X.stack s H ⟨us,[]⟩ (us++ds) (vs++dvs) Q E hr I.env0 (hb s us I.kIn hl) r2 h) fun r s' hq=>?_)
 cases r with
 | error e=>exact hx pins σ H s e s' I hq
 | ok fl=>
  cases fl with
  | ret u=>exact I.after hq
  | next=>exact False.elim hq
  | brk=>exact False.elim hq
  | cont=>exact False.elim hq
def Pv(F:FnOk X.prog X.w X.K X.mg X.base CX k f fd ps sp)(hr:Room k X.A)(hg:Gl X x)(hm:X.mg x=some (.ref f))(hk:W.keepIn X.K (.ref f)=true)(hb:Binds X.K fd ps ds)(hd:Vals dvs ds)(hx:Az CX X E)
  (ha:PA X (e::es) t) (hdb:(x == ("__debug__":Str))=false:=by decide) (he:starEach (e::es) X.env=(false,eval e X.env)::starEach es X.env:=by rfl) (hpl:(backTo pos (starEach es X.env)).any (·.1)=false:=by rfl) :
  PE X (.Call (.Name x p) (e::es) [] pos) (FZ sp dvs E t):=by
 intro pins s σ H Q I h
 refine YM (zH I hg hm ?_ hdb)
 refine W.callWith_K (h₀:=X.base) I.ok.mod.kin hk (dE (ha pos pins s σ H _ I h) fun us s1 ⟨vs,H1,I1,r,q⟩=>⟨I1.kIn,?_⟩) he hpl
 exact DZ F hr hb hd hx I1 r q
def LA(F:FnOk X.prog X.w X.K X.mg X.base CX k f fd ps sp)(hr:Room k X.A)(hg:Gl X x)(hm:X.mg x=some (.ref f))(hk:W.keepIn X.K (.ref f)=true)(hb:Binds X.K fd ps ds)(hd:Vals dvs ds)(hx:Az CX X E)
  (hdb:(x == ("__debug__":Str))=false:=by decide):PE X (.Call (.Name x p) [] [] pos) (FZ sp dvs E tNil):=by
 intro pins s σ H Q I h
 refine YM (zH I hg hm ?_ hdb)
 exact W.callWith_K0 I.kIn hk (DZ (us:=[]) F hr hb hd hx I .nil h)
end
section
variable{X:Cx}{CX:Kf}{k:Nat}{f C:Addr}{fd:FuncData}{ps ks:List Str}{sp:Sp}{E:XK}{x m:Str}{p pos apos kpos:Pos}{e o:Expr}{es:List Expr}{kws:List Keyword}{te ta:TE}{t tk:TA}{nm:Option Str}
variable{g:List Value->List Value->List Value}{gV:List V->List V->List V}
end
structure aU(N P:List Str)(sc:Scope):Prop where
 kind:sc.kind=.function
 co:sc.isCoroutine=false
 gen:sc.isGenerator=false
 nd:N.Nodup
 pre:N.take P.length=P
 par:∀ x∈P,sc.names.lookup x=some .local\/sc.names.lookup x=some .cell
 nofree:∀ y∈sc.names,y.2≠.free
def yb{kindOf:Str->Option NameKind}{x:Str}:∀ {binds:List (Str×Value)} {m:Str->Option Value},(∀ v,(x,v) ∉ binds)->bindL kindOf binds m x=m x
 | [],_,_=>rfl
 | (n,v)::r,m,h=>by
  unfold bindL
  rw [yb fun w hw=>h w (WO _ hw)]
  split
  ·have:x≠n:=by rintro rfl;exact h v WL
   simp [this]
  ·rfl
def yd{kindOf:Str->Option NameKind}{x:Str}:∀ {binds:List (Str×Value)} {m:Str->Option Value},(∀ v,(x,v) ∉ binds)->bindC kindOf binds m x=m x
 | [],_,_=>rfl
 | (n,v)::r,m,h=>by
  unfold bindC
  rw [yd fun w hw=>h w (WO _ hw)]
  split
  ·rfl
  ·have:x≠n:=by rintro rfl;exact h v WL
   simp [this]
def yc{kindOf:Str->Option NameKind}{x:Str}{v:Value}:∀ {P:List Str} {vs:List Value} {i:Nat} {m:Str->Option Value},P.Nodup->P[i]?=some x->vs[i]?=some v->kindOf x=some .local ->
  bindL kindOf (P.zip vs) m x=some v
 | [],_,_,_,_,h,_,_=>by simp at h
 | _::_,[],_,_,_,_,h,_=>by simp at h
 | p::P,w::vs,0,m,nd,h1,h2,hk=>by
  simp at h1 h2;subst h1;subst h2
  show bindL kindOf ((p,w)::P.zip vs) m p=_
  unfold bindL
  rw [yb fun v hv=>(YA.mp nd).1 (aaa hv).1,Xc hk]
  simp
 | p::P,w::vs,i+1,m,nd,h1,h2,hk=>by
  show bindL kindOf ((p,w)::P.zip vs) m x=_
  unfold bindL
  exact yc (i:=i) (YA.mp nd).2 (by simpa using h1) (by simpa using h2) hk
def ye{kindOf:Str->Option NameKind}{x:Str}{v:Value}:∀ {P:List Str} {vs:List Value} {i:Nat} {m:Str->Option Value},P.Nodup->P[i]?=some x->vs[i]?=some v->kindOf x≠some .local ->
  bindC kindOf (P.zip vs) m x=some v
 | [],_,_,_,_,h,_,_=>by simp at h
 | _::_,[],_,_,_,_,h,_=>by simp at h
 | p::P,w::vs,0,m,nd,h1,h2,hk=>by
  simp at h1 h2;subst h1;subst h2
  show bindC kindOf ((p,w)::P.zip vs) m p=_
  unfold bindC
  rw [yd fun v hv=>(YA.mp nd).1 (aaa hv).1,if_neg hk]
  simp
 | p::P,w::vs,i+1,m,nd,h1,h2,hk=>by
  show bindC kindOf ((p,w)::P.zip vs) m x=_
  unfold bindC
  exact ye (i:=i) (YA.mp nd).2 (by simpa using h1) (by simpa using h2) hk
noncomputable def start(N:List Str)(vs:List V):St:=vs.map some++List.replicate (N.length - vs.length) none
noncomputable def wB(CX:Kf)(P:Program)(w:World)(K:W.Frag)(mg:Str->Option Value)(base:Heap)(N:List Str)(qual:Str)(scope:Scope)(f:Addr)(cd:Value)(A:Around)(outer:List Env)(s:Shared)(H:Hp)(E:XK):Cx where
 prog:=P
 w:=w
 K:=K
 mg:=mg
 base:=base
 A:=A.deeper (envOfC qual scope s.heap.objs.size f cd)
 N:=N
 s₀:=s
 H₀:=H
 env:=envOfC qual scope s.heap.objs.size f cd
 outer:=outer
 stack:=envOfC qual scope s.heap.objs.size f cd::outer
 ex:=[]
 calm:=true
 fn:=fun _=>true
 pn:=[]
 xe:=fun e s'=>wpAny (model P w) (A.deeper (envOfC qual scope s.heap.objs.size f cd)) (leaving (envOfC qual scope s.heap.objs.size f cd) e) (fun _ s''=>CX outer H s E e s'') (fun e' s''=>CX outer H s E e' s'') s'
def Di{sc:Scope}{n:Nat}{x:Str}(h:sc.names.lookup x=some .cell):∃ c,(cellsFrom n sc.names []).lookup x=some c:=by
 have q:=W.cellsFrom_some sc.names n [] (.inl h)
 exact Yp.mp q
def IZ{CX:Kf}{P:Program}{w:World}{K:W.Frag}{mg:Str->Option Value}{base:Heap}{N ps:List Str}{qual:Str}{scope:Scope}{f:Addr}{cd:Value}{A:Around}{outer:List Env}{s s1:Shared}{H:Hp}{E:XK}{us:List Value}{vs:List V}
  (S:aU N ps scope) (hd:A.handled=none) (e0:RO P w K mg base A outer s H) (hl:vs.length=ps.length) (r:Vals vs us)
  (x:InCallC s s.heap.objs.size (bindL (envOfC qual scope s.heap.objs.size f cd).kindOf (ps.zip us) fun _=>none) (cellsFrom (s.heap.objs.size+1) scope.names []) (bindC (envOfC qual scope s.heap.objs.size f cd).kindOf (ps.zip us) fun _=>none) s1) :
  Inv (wB CX P w K mg base N qual scope f cd A outer s H E) [] (start N vs) H s1:=by
 have hpl:ps.length<=N.length:=by have:=congrArg List.length S.pre;rw [YH] at this;omega
 obtain⟨h1,tk,rfl,hk⟩:=x.done
 have noA:∀ b:Addr,b ∉ (wB CX P w K mg base N qual scope f cd A outer s H E).ex:=fun b z=>absurd (show b∈([]:List Addr) from z) (by simp)
 refine⟨⟨e0.mod,S.kind,rfl,rfl,WY _,fun y z c h1 h2=>?_,fun y hy=>?_,fun y c _ h=>?_,fun _=>hd,Around.frames_deeper e0.frames,.inr ⟨rfl,rfl⟩,fun b z=>absurd z (noA b),e0.bs,e0.bsz,fun b _ _=>noA b,fun b z=>absurd z (noA b),e0.funs,e0.frf⟩,
  rfl,e0.bare,Un.kept hk,⟨_,x.toInCall.ns,fun i y v h1 h2 h3=>?_⟩,fun y c h=>⟨_,x.cell y c h⟩,e0.hok.fresh (WY _),fun y c h=>?_,fun p hp=>absurd (show p∈([]:List (Addr×Obj)) from hp) (by simp),e0.hok.kept hk,?_⟩
 ·exact name_of_addr x.apart (Yr h1) (Yr h2)
 ·have hy:scope.names.lookup y=some .cell\/scope.names.lookup y=some .free:=hy
  rcases hy with hy | hy
  ·exact Di hy
  ·exact absurd rfl (S.nofree _ (Yr hy))
 ·exact aax (x.above y c (Yr h))
 ·have hi:i<vs.length:=by
   unfold start at h2
   by_cases hi:i<vs.length
   ·exact hi
   ·rw [XX (by simpa using hi)] at h2
    rw [List.getElem?_replicate] at h2
    split at h2 <;> cases h2
  have ha:vs[i]?=some v:=by
   unfold start at h2
   rw [WZ (by simpa using hi),XS] at h2
   cases e:vs[i]? with
   | none=>rw [e] at h2;cases h2
   | some a=>rw [e] at h2;cases h2;rfl
  obtain⟨u,hu,rv⟩:=r.get ha
  have hp:ps[i]?=some y:=by
   rw [<- S.pre,aaj (by omega)];exact h1
  have ndP:ps.Nodup:=by rw [<- S.pre];exact S.nd.sublist (List.take_sublist _ _)
  refine⟨u,rv,?_⟩
  rcases S.par y (Xh hp) with k | k
  ·exact .inl ⟨k,yc ndP hp hu k⟩
  ·obtain⟨c,e⟩:=Di (n:=s.heap.objs.size+1) k
   refine .inr ⟨.inl k,c,e,?_⟩
   have q:=x.cell y c e
   rw [ye ndP hp hu (by show scope.names.lookup y≠_;rw [k];decide)] at q
   exact q
 ·exact e0.hok.fresh (aax (x.above y c (Yr h)))
 ·unfold start
  show _=N.length
  rw [WX,WM,List.length_replicate]
  omega
def fn_of{CX:Kf}{P:Program}{w:World}{K:W.Frag}{mg:Str->Option Value}{base:Heap}{k:Nat}{f:Addr}{name qual:Str}{params:Arguments}{body:List Stmt}{scope:Scope}{dV kV doc pm cdv ct oc:Value}{an od:Option Addr}
  {osl:Array (Option Value)} {N ps:List Str} {sp:Sp} (lk:K.lookup f=some ⟨oc,od,.func (W.fnOf name qual params body scope dV kV doc pm an cdv ct),osl⟩) (hcd:W.codeIn K cdv qual=true) (S:aU N ps scope)
  (len:∀ vs H Q E,sp vs H Q E->vs.length=ps.length)
  (hbody:∀ (A:Around) (outer:List Env) (s:Shared) (H:Hp) (vs:List V) (Q:VK) (E:XK),Room k (A.deeper (envOfC qual scope s.heap.objs.size f cdv))->sp vs H Q E ->
   ∃ t,PSs (wB CX P w K mg base N qual scope f cdv A outer s H E) body t/\t { nx:=fun _ H'=>Q .non H',rt:=Q } (start N vs) H) :
  FnOk P w K mg base CX (k+1) f (W.fnOf name qual params body scope dV kV doc pm an cdv ct) ps sp:=by
 refine⟨len,fun A outer s H args us vs Q E hr e0 hb r hsp=>?_⟩
 have hl:=len _ _ _ _ hsp
 have KX:K.In s.heap:=e0.mod.kin.keeps fun b o e=>(e0.bs b o e).1
 have lim:s.heap.NoLimit:=e0.mod.nolimit.keeps fun b o e=>(e0.bs b o e).1
 have hkind:∀ y∈ps.zip us,scope.names.lookup y.1=some .local\/(scope.names.lookup y.1=some .cell/\((cellsFrom (s.heap.objs.size+1) scope.names []).lookup y.1).isSome=true):=fun⟨n,v⟩ hy=>by
  rcases S.par n (aaa hy).1 with q | q
  ·exact .inl q
  ·exact .inr ⟨q,W.cellsFrom_some _ _ _ (.inl q)⟩
 refine codeAny_call_function hr.depth (KX _ _ lk) rfl S.co S.gen rfl (W.codeRec_of KX hcd) (hb _ _ _ _ ?_)
 refine wpAny_newFunctionEnv_cells S.kind hkind fun env he s1 x=>?_
 subst he
 refine⟨lim.keeps x.toInCall.keep,codeAny_func ?_⟩
 obtain⟨t,ht,hq⟩:=hbody A outer s H vs Q E (hr.deeper _) hsp
 have I:Inv (wB CX P w K mg base N qual scope f cdv A outer s H E) [] (start N vs) H s1:=IZ S hr.hd e0 hl r x
 refine XE (ht [] s1 (start N vs) H _ I hq) (fun fl s' hs=>?_) fun e s' hs=>hs
 have fin:∀ {σ':St} {H':Hp} {v:V} {u:Value},Inv (wB CX P w K mg base N qual scope f cdv A outer s H E) [] σ' H' s'->RelV v u->Q v H'->CE outer P w H s Q u s':=
  fun {σ' H' v u} J rv q=>⟨v,H',J.os,J.bare,J.base,J.hok,rv,q⟩
 cases fl with
 | ret u=>
  obtain⟨v,σ',H',J,rv,q⟩:=hs
  exact fin J rv q
 | next=>
  obtain⟨σ',H',J,q⟩:=hs
  exact fin (v:=V.non) (u:=Value.none) J rfl q
 | brk=>
  obtain⟨_,_,_,q⟩:=hs
  exact False.elim q
 | cont=>
  obtain⟨_,_,_,q⟩:=hs
  exact False.elim q
section
variable{X:Cx}{x:Str}{p pos:Pos}{e:Expr}{es:List Expr}{t:TA}{id T:String}{r:List V->Hp->VK->Prop}
def tCB(r:List V->Hp->VK->Prop)(t:TA):TE:=fun σ H Q=>t σ H fun vs H1=>r vs H1 Q
def Bh(hc:CallR X (.builtin id) r)(hg:Gl X x)(hm:X.mg x=none)(hv:bootBuiltins x=some (.builtin id))(ha:PA X (e::es) t)(hn:x ≠ "__name__":=by decide)(hdb:(x == ("__debug__":Str))=false:=by decide)
  (he:starEach (e::es) X.env=(false,eval e X.env)::starEach es X.env:=by rfl) (hpl:(backTo pos (starEach es X.env)).any (·.1)=false:=by rfl):PE X (.Call (.Name x p) (e::es) [] pos) (tCB r t):=by
 intro pins s σ H Q I h
 refine YM (lY I hg hm hv ?_ hn hdb)
 exact PyProof.Rows.callWith_builtin1 (dE (ha pos pins s σ H _ I h) fun us s1 ⟨vs,H1,I1,r1,q1⟩=>hc pins s1 σ H1 vs us Q I1 r1 q1) he hpl
def Ig(hc:CallR X (.type T) r)(hg:Gl X x)(hm:X.mg x=none)(hv:bootBuiltins x=some (.type T))(ha:PA X (e::es) t)(hn:x ≠ "__name__":=by decide)(hdb:(x == ("__debug__":Str))=false:=by decide)
  (he:starEach (e::es) X.env=(false,eval e X.env)::starEach es X.env:=by rfl) (hpl:(backTo pos (starEach es X.env)).any (·.1)=false:=by rfl):PE X (.Call (.Name x p) (e::es) [] pos) (tCB r t):=by
 intro pins s σ H Q I h
 refine YM (lY I hg hm hv ?_ hn hdb)
 exact XG (dE (ha pos pins s σ H _ I h) fun us s1 ⟨vs,H1,I1,r1,q1⟩=>hc pins s1 σ H1 vs us Q I1 r1 q1) he hpl
end
end L2
namespace HT
section
open PySem.SeqAt
open PySem.AutoSeq1 (wpAny_loadPart')
open PySem.MeetsSeq PySem.MeetsSeq2 PySem.MeetsSeq3
end
section
variable{prog:Program}{w:World}{A:Around}{E:Value->Shared->Prop}{s:Shared}
def Rt{t b:Addr}{vs ws:List Value}{Q:Value->Shared->Prop}(ht:IsTup s.heap t vs.toArray)(hb:IsTup s.heap b ws.toArray)(hv:vs≠[])
  (h1:ws=[]->Q (.ref t) s) (h2:ws≠[]->Q (.ref s.heap.objs.size) { s with heap:=s.heap.push { cls:=.type "tuple",data:=.seq (vs++ws).toArray } })
  (hsz:vs.length+ws.length<=sizeLine):wpAny (model prog w) A (binaryOp .Add (.ref t) (.ref b)) Q E s:=by
 obtain⟨⟨cls,dd,data,sl⟩,ho,hc,n,hd⟩:=id ht
 obtain⟨⟨cls2,dd2,data2,sl2⟩,ho2,hc2,n2,hd2⟩:=id hb
 simp only at hc hd hc2 hd2
 subst hc hd hc2 hd2
 have e:vs.toArray++ws.toArray=(vs++ws).toArray:=by simp
 by_cases hw:ws=[]
 ·exact aaw ⟨_,ho,rfl⟩ ⟨_,ho2,rfl⟩ ZQ aal ZS ZM (ZH _ _)
   (tuple_addW1 t b vs.toArray ws.toArray n n2 dd dd2 sl sl2 (by simpa using hv) (by simp [hw])) ⟨ho,ho2,h1 hw⟩
 ·refine aaw ⟨_,ho,rfl⟩ ⟨_,ho2,rfl⟩ ZQ aal ZS ZM (ZH _ _)
   (tuple_addW2 t b vs.toArray ws.toArray n n2 dd dd2 sl sl2 (by simpa using hv) (by simpa using hw) (by rw [WN,WN];exact hsz)) ⟨ho,ho2,?_⟩
  rw [e]
  exact h2 hw
noncomputable def ft(n d:Nat):Option Int->Nat
 | none=>d
 | some v=>if v<0 then (v+(n:Int)).toNat else min v.toNat n
def KO(n d:Nat):ft n d none=d:=rfl
def OX(n d k:Nat):ft n d (some (k:Int))=min k n:=by
 show (if (k:Int)<0 then ((k:Int)+(n:Int)).toNat else min (k:Int).toNat n)=min k n
 rw [if_neg (by omega),Xv]
def Tp(n d:Nat)(hd:d<=n)(o:Option Int):ft n d o<=n:=by
 cases o with
 | none=>exact hd
 | some v=>
  show (if v<0 then (v+(n:Int)).toNat else min v.toNat n)<=n
  by_cases hv:v<0
  ·rw [Xc hv];omega
  ·rw [if_neg hv];exact Nat.min_le_right _ _
def Hh(v:Int)(n d:Nat):(if v<0 then max (v+(n:Int)) 0 else min v (n:Int))=((ft n d (some v):Nat):Int):=by
 show (if v<0 then max (v+(n:Int)) 0 else min v (n:Int))=(((if v<0 then (v+(n:Int)).toNat else min v.toNat n):Nat):Int)
 by_cases hv:v<0
 ·simp only [Xc hv];omega
 ·simp only [if_neg hv];omega
def FO(lo hi:Option Int)(n:Nat):Builtin.Slice.sliceAdjust lo hi 1 (n:Int)=(((ft n 0 lo:Nat):Int),((ft n n hi:Nat):Int)):=by
 have h1:¬ ((1:Int)<0):=by omega
 unfold Builtin.Slice.sliceAdjust
 simp only [h1,YN]
 refine Prod.ext ?_ ?_
 ·cases lo with
  | none=>rfl
  | some v=>exact Hh v n 0
 ·cases hi with
  | none=>rfl
  | some v=>exact Hh v n n
def Ef(i j:Nat):Builtin.Slice.slicePlaces (i:Int) (j:Int) 1=j - i:=by
 unfold Builtin.Slice.slicePlaces
 have h1:(1:Int)>0:=by omega
 simp only [h1,YE,Int.ediv_one]
 split <;> omega
def tL{v:Value}{o:Option Int}{Q:Option Int->Shared->Prop}(p:IsPart v o)(h:Q o s):wpAny (model prog w) A (Builtin.Slice.slicePartIndex v) Q E s:=by
 cases p with
 | none=>exact slicePart_none h
 | int i t=>exact slicePart_int h
def kY{sl:Addr}{vl vu:Value}{lo hi:Option Int}{n:Nat}{Q:Int×Int×Nat->Shared->Prop}(hs:s.heap.IsSliceOf sl vl vu .none)(pl:IsPart vl lo)(pu:IsPart vu hi)
  (h:Q (((ft n 0 lo:Nat):Int),1,ft n n hi - ft n 0 lo) s):wpAny (model prog w) A (Builtin.Slice.sliceApplied (.ref sl) (pure (n:Int))) Q E s:=by
 obtain⟨os,hos,hcs,hds⟩:=id hs
 unfold Builtin.Slice.sliceApplied Builtin.Slice.sliceFields
 refine WK (WK (XF hos hds (x:=vl) rfl (WK (XF hos hds (x:=vu) rfl (WK (XF hos hds (x:=.none) rfl (Xa ?_)))))))
 refine WK (slicePart_none ?_)
 show wpAny _ _ (if ((1:Int) == 0)=true then _ else _) _ _ s
 rw [if_neg (by decide)]
 refine WK (tL pl (WK (tL pu (WK (Xa ?_)))))
 show wpAny _ _ (match Builtin.Slice.sliceAdjust lo hi 1 (n:Int) with | (lo,hi)=>pure (lo,(1:Int),Builtin.Slice.slicePlaces lo hi 1)) _ _ s
 rw [FO lo hi n]
 show wpAny _ _ (pure (((ft n 0 lo:Nat):Int),(1:Int),Builtin.Slice.slicePlaces ((ft n 0 lo:Nat):Int) ((ft n n hi:Nat):Int) 1)) _ _ s
 rw [Ef]
 exact Xa h
def Lo(xs:Array Value)(i k:Nat):((List.range k).filterMap fun(m:Nat)=>xs[((i:Int)+(m:Int) * 1).toNat]?).toArray=((xs.toList.drop i).take k).toArray:=by
 have e:(fun(m:Nat)=>xs[((i:Int)+(m:Int) * 1).toNat]?)=fun m=>xs[i+m]?:=by
  funext m
  have:((i:Int)+(m:Int) * 1).toNat=i+m:=by omega
  rw [this]
 rw [e]
 have:=pick_run xs i k
 rw [List.filterMap_map] at this
 have e2:((fun x=>xs[x]?) ∘ fun x=>i+x)=fun m=>xs[i+m]?:=rfl
 rw [e2] at this
 rw [this]
def qp{t sl:Addr}{items:Array Value}{vl vu:Value}{lo hi:Option Int}{Q:Value->Shared->Prop}(ht:IsTup s.heap t items)(hs:s.heap.IsSliceOf sl vl vu .none)(pl:IsPart vl lo)(pu:IsPart vu hi)
  (hw:¬ (ft items.size 0 lo=0/\ft items.size items.size hi=items.size))
  (h:Q (.ref s.heap.objs.size) { s with heap:=s.heap.push { cls:=.type "tuple",data:=.seq ((items.toList.drop (ft items.size 0 lo)).take (ft items.size items.size hi - ft items.size 0 lo)).toArray } })
  (hsz:items.size<=sizeLine):wpAny (model prog w) A (getItem (.ref t) (.ref sl)) Q E s:=by
 have htake:sizeOk (.seq ((items.toList.drop (ft items.size 0 lo)).take (ft items.size items.size hi - ft items.size 0 lo)).toArray):=by
  show ((items.toList.drop (ft items.size 0 lo)).take (ft items.size items.size hi - ft items.size 0 lo)).toArray.size<=sizeLine
  rw [WN,YH,Zq,Zf]
  omega
 have hj:ft items.size items.size hi<=items.size:=Tp _ _ (WY _) hi
 obtain⟨os,hos,hcs,hds⟩:=id hs
 have hTs:s.TypeIs (.ref sl) "slice":=⟨os,hos,hcs⟩
 unfold getItem
 try with_reducible refine YL ?_
 first | refine WK (Xa ?_) | skip
 refine WK (wpAny_sequenceKey ht.typeIs (by decide) ?_)
 refine WK (XU (name:=Str.ofString "__getitem__") ht.typeIs Yo
  (Yu Yo ht.typeIs aaM ?_ (aaQ _ _)))
 show wpAny _ _ (Builtin.Tuple.tupleItemsOf (.ref t) >>= _) _ _ s
 refine WK (tupleItemsOf_ ht ?_)
 refine WK (aau hTs ?_)
 rw [Xc (by decide)]
 refine WK (kY hs pl pu ?_)
 have hno:¬ ((((ft items.size 0 lo:Nat):Int) == 0&&(1:Int) == 1&&(ft items.size items.size hi - ft items.size 0 lo) == items.size)=true):=by
  intro q
  rw [WP,WP] at q
  have q1:((ft items.size 0 lo:Nat):Int)=0:=eq_of_beq q.1.1
  have q2:ft items.size items.size hi - ft items.size 0 lo=items.size:=eq_of_beq q.2
  exact hw ⟨by omega,by omega⟩
 show wpAny _ _ (if (((ft items.size 0 lo:Nat):Int) == 0&&(1:Int) == 1&&(ft items.size items.size hi - ft items.size 0 lo) == items.size)=true then _ else _) _ _ s
 rw [if_neg hno,Lo]
 first
  | exact WK (m:=Builtin.Tuple.tupleExact _) (XB (Xa ⟨_,rfl,Xa h⟩) htake)
  | exact WK (m:=Builtin.Tuple.tupleExact _) (XB (WK (Xa (Xa ⟨_,rfl,Xa h⟩))) htake)
  | exact WK (WK (m:=Builtin.Tuple.tupleExact _) (XB (Xa (Xa ⟨_,rfl,Xa h⟩)) htake))
  | exact WK (WK (m:=Builtin.Tuple.tupleExact _) (XB (Xa ⟨_,rfl,Xa h⟩) htake))
end
end HT
namespace L2
abbrev TO:=St->Hp->(Option Int->Hp->Prop)->Prop
def PO(X:Cx)(e:Option Expr)(t:TO):Prop:=
 ∀ (pins:List (Addr×Obj)) (s:Shared) (σ:St) (H:Hp) (Q:Option Int->Hp->Prop),Inv X pins σ H s->t σ H Q ->
  wpAny (model X.prog X.w) X.A (evalPart e X.env) (fun u s'=>∃ o H',Inv X pins σ H' s'/\IsPart u o/\Q o H') X.xe s
noncomputable def ON:TO:=fun _ H Q=>Q none H
noncomputable def tPart(t:TE):TO:=fun σ H Q=>t σ H fun x H1=>∃ i,x=.int i/\Q (some i) H1
section
variable{X:Cx}{e:Expr}{te:TE}{lo hi:Option Expr}{tl th:TO}{pos p2:Pos}
def Pp:PO X none ON:=by
 intro pins s σ H Q I h
 rw [evalPart_none]
 exact Xa ⟨none,H,I,.none,h⟩
def Po(h:PE X e te):PO X (some e) (tPart te):=by
 intro pins s σ H Q I hw
 rw [evalPart_some]
 refine dE (h pins s σ H _ I hw) fun u s1 ⟨x,H1,I1,r1,q1⟩=>?_
 obtain⟨i,rfl,q⟩:=q1
 obtain⟨t,rfl⟩:=r1
 exact⟨some i,H1,I1,.int i t,q⟩
def SlR(X:Cx)(r:V->Option Int->Option Int->Hp->VK->Prop):Prop:=
 ∀ (pins:List (Addr×Obj)) (s:Shared) (σ:St) (H:Hp) (x:V) (v vl vu:Value) (lo hi:Option Int) (sl:Addr) (Q:VK),Inv X pins σ H s->RelV x v->s.heap.IsSliceOf sl vl vu .none->IsPart vl lo->IsPart vu hi->r x lo hi H Q ->
  ∃ T id,typeLookup (.type T) "__getitem__" = pure (some (.builtin id))/\s.TypeIs v T/\wpAny (model X.prog X.w) X.A (getItem v (.ref sl)) (EP X pins σ Q) X.xe s
def SlR.or{r r':V->Option Int->Option Int->Hp->VK->Prop}(h:SlR X r)(h':SlR X r'):SlR X (fun x lo hi H Q=>r x lo hi H Q\/r' x lo hi H Q):=by
 intro pins s σ H x v vl vu lo hi sl Q I rx hs pl pu q
 rcases q with q | q
 ·exact h pins s σ H x v vl vu lo hi sl Q I rx hs pl pu q
 ·exact h' pins s σ H x v vl vu lo hi sl Q I rx hs pl pu q
def tSl(r:V->Option Int->Option Int->Hp->VK->Prop)(te:TE)(tl th:TO):TE:=fun σ H Q=>te σ H fun x H1=>tl σ H1 fun l H2=>th σ H2 fun u H3=>r x l u H3 Q
def Lr{r:V->Option Int->Option Int->Hp->VK->Prop}(hr:SlR X r)(he:PE X e te)(hl:PO X lo tl)(hu:PO X hi th):PE X (.Subscript e (.Slice lo hi none p2) pos) (tSl r te tl th):=by
 intro pins s σ H Q I h
 refine Subscript_ (dE (he pins s σ H _ I h) fun v s1 ⟨x,H1,I1,r1,q1⟩=>?_)
 refine wpAny_Slice (dE (hl pins s1 σ H1 _ I1 q1) fun vl s2 ⟨l,H2,I2,pl,q2⟩=>dE (hu pins s2 σ H2 _ I2 q2) fun vu s3 ⟨u,H3,I3,pu,q3⟩=>?_)
 rw [evalPart_none]
 refine Xa ?_
 have I4:Inv X pins σ H3 { s3 with heap:=s3.heap.push { cls:=.type "slice",data:=.fields #[vl,vu,.none] } }:=I3.kept (t':=s3.toks) fun b ob q=>WQ _ q
 obtain⟨T,id,hT,ht,hg⟩:=hr pins { s3 with heap:=s3.heap.push { cls:=.type "slice",data:=.fields #[vl,vu,.none] } } σ H3 x v vl vu l u s3.heap.objs.size Q I4 r1 (Heap.IsSliceOf.new ..) pl pu q3
 show wpAny (model X.prog X.w) X.A (subscriptTail e (.Slice lo hi none p2) v (.ref s3.heap.objs.size)) (EP X pins σ Q) X.xe { s3 with heap:=s3.heap.push { cls:=.type "slice",data:=.fields #[vl,vu,.none] } }
 exact tail_any (ops:=[.ref s3.heap.objs.size,v]) ht hT hg (by with_unfolding_all rfl)
noncomputable def Dh(xs:List V)(lo hi:Option Int):List V:=(xs.drop (HT.ft xs.length 0 lo)).take (HT.ft xs.length xs.length hi - HT.ft xs.length 0 lo)
def sy(xs:List V)(lo hi:Option Int):(Dh xs lo hi).length<=xs.length:=by
 unfold Dh
 rw [YH,Zq]
 omega
def rSlT(K:W.Frag):V->Option Int->Option Int->Hp->VK->Prop:=fun x lo hi H Q=>∃ a xs,x=.ref a/\mE K H a xs /\
 ¬ (HT.ft xs.length 0 lo=0/\HT.ft xs.length xs.length hi=xs.length)/\∀ p,H p=none->Q (.ref p) (upd H p (.tup (Dh xs lo hi)))
def Th:SlR X (rSlT X.K):=by
 intro pins s σ H x v vl vu lo hi sl Q I rx hs pl pu h
 obtain⟨a,xs,rfl,hx,hw,q⟩:=h
 cases rx
 obtain⟨its,r,ht,hz⟩:=I.tuple hx
 have hlen:its.toArray.size=xs.length:=by rw [WN];exact r.length.symm
 refine⟨"tuple",_,PyProof.Rows.slot_tuple_getitem.lookup,ht.typeIs,?_⟩
 refine HT.qp ht hs pl pu (by rw [hlen];exact hw) ?_ (by rw [hlen];exact hz)
 rw [hlen]
 refine⟨.ref s.heap.objs.size,_,I.laid (t':=s.toks) (o:=.tup (Dh xs lo hi)) (fun b ob q=>WQ _ q) (WY _) ?_,rfl,q _ (I.hok.fresh (WY _))⟩
 exact⟨Xl (sy xs lo hi) hz,_,(r.drop (HT.ft xs.length 0 lo)).take (HT.ft xs.length xs.length hi - HT.ft xs.length 0 lo),IsTupN.new _ _⟩
noncomputable def rCatT(K:W.Frag):R2:=fun x y H Q=>∃ a b xs ys,x=.ref a/\y=.ref b/\mE K H a xs/\mE K H b ys/\xs≠[]/\xs.length+ys.length<=sizeLine /\
 (ys=[]->Q (.ref a) H)/\(ys≠[]->∀ p,H p=none->Q (.ref p) (upd H p (.tup (xs++ys))))
def Vals.nil_iff{xs:List V}{us:List Value}(r:Vals xs us):us=[]↔xs=[]:=by
 cases r with
 | nil=>simp
 | cons _ _=>simp
def PL:OpR X (binaryOp .Add) (rCatT X.K):=by
 intro pins s σ H x y v u Q I rx ry h
 obtain⟨a,b,xs,ys,rfl,rfl,ha,hb,hx,hz,q1,q2⟩:=h
 cases rx
 cases ry
 obtain⟨its,r1,p1,_⟩:=I.tuple ha
 obtain⟨its2,r2,p2,_⟩:=I.tuple hb
 refine HT.Rt p1 p2 (fun z=>hx (r1.nil_iff.mp z)) (fun z=>⟨.ref a,H,I,rfl,q1 (r2.nil_iff.mp z)⟩) (fun z=>?_) (by rw [<- r1.length,<- r2.length];exact hz)
 refine⟨.ref s.heap.objs.size,_,I.laid (t':=s.toks) (o:=.tup (xs++ys)) (fun b ob q=>WQ _ q) (WY _) ?_,rfl,q2 (fun w=>z (r2.nil_iff.mpr w)) _ (I.hok.fresh (WY _))⟩
 exact⟨by rw [WX];exact hz,_,r1.append r2,IsTupN.new _ _⟩
end
def GL(n:Nat)(i:Int):Option Nat:=if 0<=i then (if i<n then some i.toNat else none) else if -(n:Int)<=i then some (i+n).toNat else none
noncomputable def mM{α:Type}(xs:List α)(i:Int):Option α:=(GL xs.length i).bind fun j=>xs[j]?
def GJ{n:Nat}{i:Int}{j:Nat}(h:GL n i=some j):seqIndex? i n=some j/\j<n/\-(n:Int)<=i/\i<n:=by
 unfold GL at h
 by_cases h0:0<=i
 ·rw [Xc h0] at h
  by_cases h1:i<n
  ·rw [Xc h1] at h
   have e:i.toNat=j:=Xg h
   exact⟨by rw [aaL h0 h1,e],by omega,by omega,h1⟩
  ·rw [if_neg h1] at h;cases h
 ·rw [if_neg h0] at h
  by_cases h1:-(n:Int)<=i
  ·rw [Xc h1] at h
   have e:(i+n).toNat=j:=Xg h
   exact⟨by rw [aav (by omega) h1,e],by omega,h1,by omega⟩
  ·rw [if_neg h1] at h;cases h
def Hm{α:Type}{xs:List α}{i:Int}{v:α}(h:mM xs i=some v):∃ j,seqIndex? i xs.length=some j/\xs[j]?=some v/\j<xs.length/\-(xs.length:Int)<=i/\i<xs.length:=by
 unfold mM at h
 cases e:GL xs.length i with
 | none=>rw [e] at h;cases h
 | some j=>
  rw [e] at h
  obtain⟨h1,h2,h3,h4⟩:=GJ e
  exact⟨j,h1,h,h2,h3,h4⟩
def oA(b:Expr):Prop:=∀ o i,subscripted b false o i=operate [o,i] (getItem o i)
def IxR(X:Cx)(r:R2):Prop:=
 ∀ (value slice:Expr) (pins:List (Addr×Obj)) (s:Shared) (σ:St) (H:Hp) (x y:V) (v u:Value) (Q:VK),Inv X pins σ H s->RelV x v->RelV y u->r x y H Q ->
  subscripted slice false v u=operate [v,u] (getItem v u)->wpAny (model X.prog X.w) X.A (subscriptTail value slice v u) (EP X pins σ Q) X.xe s
def MtR(X:Cx)(id:String)(r:V->List V->Hp->VK->Prop):Prop:=
 ∀ (pins:List (Addr×Obj)) (s:Shared) (σ:St) (H:Hp) (x:V) (xs:List V) (v:Value) (us:List Value) (Q:VK),Inv X pins σ H s->RelV x v->Vals xs us->r x xs H Q ->
  wpAny (model X.prog X.w) X.A (call (.builtin id) (v::us)) (EP X pins σ Q) X.xe s
section
variable{X:Cx}{a b:Expr}{ta tb:TE}{pos:Pos}
def IxR.or{r r':R2}(h:IxR X r)(h':IxR X r'):IxR X (fun x y H Q=>r x y H Q\/r' x y H Q):=by
 intro value slice pins s σ H x y v u Q I rx ry q hs
 rcases q with q | q
 ·exact h value slice pins s σ H x y v u Q I rx ry q hs
 ·exact h' value slice pins s σ H x y v u Q I rx ry q hs
def Lu{r:R2}(hr:IxR X r)(ha:PE X a ta)(hb:PE X b tb)(hs:oA b):PE X (.Subscript a b pos) (tOp r ta tb):=by
 intro pins s σ H Q I h
 exact Subscript_ (Wp ha hb I h fun v u s2 x y H2 I2 rx ry q=>hr a b pins s2 σ H2 x y v u Q I2 rx ry q (hs _ _))
noncomputable def rIxL(K:W.Frag):R2:=fun x y H Q=>∃ p xs i v,x=.ref p/\y=.int i/\oI K H p xs/\mM xs i=some v/\Q v H
noncomputable def rIxT(K:W.Frag):R2:=fun x y H Q=>∃ p xs i v,x=.ref p/\y=.int i/\mE K H p xs/\mM xs i=some v/\Q v H
def ix_list:IxR X (rIxL X.K):=by
 intro value slice pins s σ H x y v u Q I rx ry h hs
 obtain⟨p,xs,i,z,rfl,rfl,hq,he,q⟩:=h
 cases rx
 obtain⟨t,rfl⟩:=ry
 obtain⟨its,r,pl,hz⟩:=I.list hq
 obtain⟨j,h1,h2,h3,h4,h5⟩:=Hm he
 obtain⟨w,ew,rw'⟩:=r.get h2
 have hl:=r.length
 have hn:=qZ
 have fin:EP X pins σ Q w s:=⟨z,H,I,rw',q⟩
 by_cases h0:0<=i
 ·have hj:i.toNat=j:=by
   rw [aaL h0 h5] at h1
   exact Xg h1
  exact item_listR pl.isList h0 (by omega) (by rw [hj];simpa using ew) fin hs
 ·have hj:(i+(its.toArray.size:Int)).toNat=j:=by
   rw [aav (by omega) h4] at h1
   rw [WN,<- hl]
   exact Xg h1
  exact aaq (x:=w) pl.isList.typeIs slot_list_getitem.lookup
   (wpAny_getItem_list_neg (Q:=fun r s'=>r=w/\EP X pins σ Q r s') pl.isList (by omega) (by rw [WN] <;> omega) (by omega) (by rw [hj];simpa using ew) ⟨rfl,fin⟩) hs
def Vb:IxR X (rIxT X.K):=by
 intro value slice pins s σ H x y v u Q I rx ry h hs
 obtain⟨p,xs,i,z,rfl,rfl,hq,he,q⟩:=h
 cases rx
 obtain⟨t,rfl⟩:=ry
 obtain⟨its,r,pl,hz⟩:=I.tuple hq
 obtain⟨j,h1,h2,h3,h4,h5⟩:=Hm he
 obtain⟨w,ew,rw'⟩:=r.get h2
 have hl:=r.length
 have hn:=qZ
 have fin:EP X pins σ Q w s:=⟨z,H,I,rw',q⟩
 exact aaq (x:=w) pl.typeIs slot_tuple_getitem.lookup
  (getItem_tuple (j:=j) (Q:=fun r s'=>r=w/\EP X pins σ Q r s') pl (by omega) (by omega) (by rw [WN,<- hl];exact h1) (by simpa using ew) ⟨rfl,fin⟩) hs
def ED(its:List Value)(n j:Nat)(u:Value):Obj.mapSeq (·.setIfInBounds j u) { cls:=.type "list",data:=.seq its.toArray n } = { cls:=.type "list",data:=.seq (its.set j u).toArray n }:=by
 simp [Obj.mapSeq]
def Inv.lst{pins:List (Addr×Obj)}{σ:St}{H:Hp}{s:Shared}{p:Addr}{xs:List V}(I:Inv X pins σ H s)(h:H p=some (.lst xs)) :
  ∃ (its:List Value) (n:Nat),Vals xs its/\s.heap.get? p=some { cls:=.type "list",data:=.seq its.toArray n }/\xs.length<=sizeLine:=by
 obtain⟨z,its,n,r,e⟩:=I.hok p _ h
 exact⟨its,n,r,e,z⟩
def Inv.lstUpd{pins:List (Addr×Obj)}{σ:St}{H:Hp}{s:Shared}{p:Addr}{xs ys:List V}{its its':List Value}{n n':Nat}{f:Obj->Obj}(I:Inv X pins σ H s)(h:H p=some (.lst xs))
  (ho:s.heap.get? p=some { cls:=.type "list",data:=.seq its.toArray n }) (hf:f { cls:=.type "list",data:=.seq its.toArray n } = { cls:=.type "list",data:=.seq its'.toArray n' }) (r:Vals ys its') (hz:ys.length<=sizeLine) (t:Nat) :
  Inv X pins σ (upd H p (.lst ys)) { s with heap:=s.heap.update p f,toks:=t }:=by
 have e:(s.heap.update p f).get? p=some { cls:=.type "list",data:=.seq its'.toArray n' }:=by
  rw [XH f ho (by rw [hf] <;> rfl),hf]
 refine I.write (x:=p) (e:=p) (by rw [h];trivial) (.inl rfl) (fun b u hb q=>(aat _ _ (Ne.symm hb)).trans q) ⟨_,e⟩ ?_
 exact⟨hz,its',n',r,e⟩
def rSetL:V->V->V->Hp->(Hp->Prop)->Prop:=fun o i v H Q=>∃ p xs k j,o=.ref p/\i=.int k/\H p=some (.lst xs)/\GL xs.length k=some j/\Q (upd H p (.lst (xs.set j v)))
def KH:PSet X rSetL:=by
 intro pins s σ H o i v ov iv u Q I ro ri rv h
 obtain⟨p,xs,k,j,rfl,rfl,hp,hj,q⟩:=h
 cases ro
 obtain⟨t,rfl⟩:=ri
 obtain⟨its,n,r,ho,hz⟩:=I.lst hp
 obtain⟨h1,h2,h3,h4⟩:=GJ hj
 have hl:=r.length
 have hn:=qZ
 have I':Inv X pins σ (upd H p (.lst (xs.set j v))) { s with heap:=s.heap.update p (Obj.mapSeq (·.setIfInBounds j u)) }:=
  I.lstUpd hp ho (ED its n j u) (r.set rv j) (by rw [Zc];exact hz) s.toks
 by_cases h0:0<=k
 ·have hk:k.toNat=j:=by
   rw [aaL h0 h4] at h1
   exact Xg h1
  exact W.ki_setAt ho h0 (by omega) (by rw [WN,<- hl];exact h4) (by rw [hk];exact⟨_,I',q⟩)
 ·have hk:(k+(its.toArray.size:Int)).toNat=j:=by
   rw [aav (by omega) h3] at h1
   rw [WN,<- hl]
   exact Xg h1
  exact W.ki_setBack ho (by omega) (by rw [WN,<- hl];exact h3) (by omega) (by rw [hk];exact⟨_,I',q⟩)
def yq(lo hi:Option Int)(n:Nat):(sliceBounds lo hi none n).1=((HT.ft n 0 lo:Nat):Int)/\(sliceBounds lo hi none n).2.1=((HT.ft n n hi:Nat):Int)/\(sliceBounds lo hi none n).2.2=1:=by
 refine⟨?_,?_,rfl⟩
 ·cases lo with
  | none=>simp [sliceBounds,HT.ft]
  | some i=>
   simp only [sliceBounds,HT.ft,Option.getD_none,show (1:Int)>0 by decide,YE]
   by_cases h:i<0
   ·simp only [h,YE] <;> omega
   ·simp only [h,YN] <;> omega
 ·cases hi with
  | none=>simp [sliceBounds,HT.ft]
  | some i=>
   simp only [sliceBounds,HT.ft,Option.getD_none,show (1:Int)>0 by decide,YE]
   by_cases h:i<0
   ·simp only [h,YE] <;> omega
   ·simp only [h,YN] <;> omega
def vM(its:List Value)(lo hi:Option Int):slicePick its.toArray lo hi none=((its.drop (HT.ft its.length 0 lo)).take (HT.ft its.length its.length hi - HT.ft its.length 0 lo)).toArray:=by
 obtain⟨h1,h2,h3⟩:=yq lo hi its.toArray.size
 unfold slicePick
 rw [h1,h2,h3]
 simp only [sliceRange_one,pick_run,WN] <;> rfl
def rSlL(K:W.Frag):V->Option Int->Option Int->Hp->VK->Prop:=fun x lo hi H Q=>∃ a xs,x=.ref a/\oI K H a xs/\∀ p,H p=none->Q (.ref p) (upd H p (.lst (Dh xs lo hi)))
def OR:SlR X (rSlL X.K):=by
 intro pins s σ H x v vl vu lo hi sl Q I rx hs pl pu h
 obtain⟨a,xs,rfl,hx,q⟩:=h
 cases rx
 obtain⟨its,r,ht,hz⟩:=I.list hx
 have hlen:=r.length
 refine⟨"list",_,slot_list_getitem.lookup,ht.isList.typeIs,?_⟩
 refine wpAny_getItem_list_slice ht.isList hs pl pu .none (by simp) ?_ (by rw [WN] <;> omega)
 rw [vM,<- hlen]
 refine⟨.ref s.heap.objs.size,_,I.laid (t':=s.toks) (o:=.lst (Dh xs lo hi)) (fun b ob q=>WQ _ q) (WY _) ?_,rfl,q _ (I.hok.fresh (WY _))⟩
 exact⟨Xl (sy xs lo hi) hz,_,0,(r.drop (HT.ft xs.length 0 lo)).take (HT.ft xs.length xs.length hi - HT.ft xs.length 0 lo),Xe _ rfl⟩
def call_len_seq:CallR X (.builtin "len") (fun xs H Q=>∃ p ys,xs=[.ref p]/\(oI X.K H p ys\/mE X.K H p ys)/\Q (.int ys.length) H):=by
 intro pins s σ H xs us Q I r h
 obtain⟨p,ys,rfl,hq,q⟩:=h
 obtain⟨u,rfl,rx⟩:=rN r
 cases rx
 have hn:=qZ
 rcases hq with hq | hq
 ·obtain⟨its,r',pl,hz⟩:=I.list hq
  have hlen:=r'.length
  exact Calls.call_len_list pl.isList (by simp only [WN] <;> omega) ⟨.int ys.length,H,I.tok _,⟨s.toks+1,by rw [WN,hlen]⟩,q⟩
 ·obtain⟨its,r',pl,hz⟩:=I.tuple hq
  have hlen:=r'.length
  exact len_tuple pl (by simp only [WN] <;> omega) ⟨.int ys.length,H,I.tok _,⟨s.toks+1,by rw [WN,hlen]⟩,q⟩
def Ap:CallR X (.builtin "len") (fun xs H Q=>∃ z,xs=[.str z]/\z.length<=sizeLine/\Q (.int z.length) H):=by
 intro pins s σ H xs us Q I r h
 obtain⟨z,rfl,hz,q⟩:=h
 obtain⟨u,rfl,t,rfl⟩:=rN r
 have hn:=qZ
 exact len_str (by omega) ⟨.int z.length,H,I.tok _,⟨_,rfl⟩,q⟩
def CallR.or{f:Value}{r r':List V->Hp->VK->Prop}(h:CallR X f r)(h':CallR X f r'):CallR X f (fun xs H Q=>r xs H Q\/r' xs H Q):=by
 intro pins s σ H xs us Q I rs q
 rcases q with q | q
 ·exact h pins s σ H xs us Q I rs q
 ·exact h' pins s σ H xs us Q I rs q
def Ao:CallR X (.type "list") (fun xs H Q=>∃ p ys,xs=[.ref p]/\(oI X.K H p ys\/mE X.K H p ys)/\∀ l,H l=none->Q (.ref l) (upd H l (.lst ys))):=by
 intro pins s σ H xs us Q I r h
 obtain⟨p,ys,rfl,hq,q⟩:=h
 obtain⟨u,rfl,rx⟩:=rN r
 cases rx
 have fin:∀ (its:List Value),Vals ys its->ys.length<=sizeLine->∀ (h':Heap) (c':Nat),(∀ b o',s.heap.get? b=some o'->h'.get? b=some o') ->
   h'.get? s.heap.objs.size=some { cls:=.type "list",dict:=none,data:=.seq its.toArray c',slots:=#[] }->EP X pins σ Q (.ref s.heap.objs.size) { s with heap:=h' }:=fun its r' hz h' c' kp e=>
  ⟨.ref s.heap.objs.size,_,I.laid (t':=s.toks) kp (WY _) (show ObjOk X.prog X.w _ h' _ (.lst ys) from ⟨hz,its,c',r',e⟩),rfl,q _ (I.hok.fresh (WY _))⟩
 rcases hq with hq | hq
 ·obtain⟨its,r',pl,hz⟩:=I.list hq
  have hlen:=r'.length
  obtain⟨o,ho,hc,n,hd⟩:=pl.isList
  exact call_list_seq p (.inl rfl) ho hc hd (fun h' c' kp e=>fin its r' hz h' c' kp e) (by simp only [WN] <;> omega)
 ·obtain⟨its,r',pl,hz⟩:=I.tuple hq
  have hlen:=r'.length
  obtain⟨o,ho,hc,n,hd⟩:=pl
  exact call_list_seq p (.inr rfl) ho hc hd (fun h' c' kp e=>fin its r' hz h' c' kp e) (by simp only [WN] <;> omega)
def wD:CallR X (.type "tuple") (fun xs H Q=>∃ p ys,xs=[.ref p]/\((oI X.K H p ys/\∀ l,H l=none->Q (.ref l) (upd H l (.tup ys)))\/(mE X.K H p ys/\Q (.ref p) H))):=by
 intro pins s σ H xs us Q I r h
 obtain⟨p,ys,rfl,h⟩:=h
 obtain⟨u,rfl,rx⟩:=rN r
 cases rx
 rcases h with ⟨hq,q⟩ | ⟨hq,q⟩
 ·obtain⟨its,r',pl,hz⟩:=I.list hq
  have hlen:=r'.length
  refine call_tuple_list pl.isList (fun h' kp=>?_) (by simp only [WN] <;> omega)
  have I1:Inv X pins σ H { s with heap:=h' }:=I.kept (t':=s.toks) kp
  have I2:Inv X pins σ (upd H h'.objs.size (.tup ys)) { s with heap:=h'.push { cls:=.type "tuple",data:=.seq its.toArray } }:=
   I1.laid (t':=s.toks) (fun b o e=>WQ _ e) (WY _) (show ObjOk X.prog X.w _ _ _ (.tup ys) from ⟨hz,its,r',IsTupN.new _ _⟩)
  exact⟨.ref h'.objs.size,_,I2,rfl,q _ (I1.hok.fresh (WY _))⟩
 ·obtain⟨its,r',pl,hz⟩:=I.tuple hq
  exact call_tuple_same pl ⟨.ref p,H,I,rfl,q⟩
def tyV(K:W.Frag)(T:String)(x:V)(H:Hp):Prop:=match x with
 | .str _=>T = "str"
 | .int _=>T = "int"
 | .ref p=>(T = "list"/\∃ xs,oI K H p xs)\/(T = "tuple"/\∃ o,K.lookup p=some o/\o.cls=.type "tuple"/\o.dict=none) \/
   (T = "dict"/\((∃ kvs,H p=some (.dK kvs))\/∃ kvs,H p=some (.dT kvs)))\/(T = "set"/\∃ S n,H p=some (.set S n))
 | _=>False
def SV{pins:List (Addr×Obj)}{σ:St}{H:Hp}{s:Shared}{T:String}{x:V}{v:Value}(I:Inv X pins σ H s)(r:RelV x v)(ty:tyV X.K T x H) :
  s.TypeIs v T/\∀ a,v=.ref a->∃ ob,s.heap.get? a=some ob/\ob.dict=none:=by
 cases x with
 | str z=>
  obtain⟨t,rfl⟩:=r
  cases (show T = "str" from ty)
  exact⟨typeIs_str s z t,fun _ e=>nomatch e⟩
 | int i=>
  obtain⟨t,rfl⟩:=r
  cases (show T = "int" from ty)
  exact⟨ZJ s i t,fun _ e=>nomatch e⟩
 | ref p=>
  cases r
  rcases ty with ⟨rfl,xs,hq⟩ | ⟨rfl,o,hk,hc,hd⟩ | ⟨rfl,hk⟩ | ⟨rfl,S,n,hk⟩
  ·obtain⟨its,_,pl,_⟩:=I.list hq
   refine⟨pl.isList.typeIs,fun a e=>?_⟩
   cases e
   obtain⟨o,n,e,c,hd,_⟩:=pl
   exact⟨o,e,hd⟩
  ·refine⟨⟨o,I.kIn p o hk,hc⟩,fun a e=>?_⟩
   cases e
   exact⟨o,I.kIn _ o hk,hd⟩
  ·have z:∃ o,s.heap.get? p=some o/\o.ExactDict:=by
    rcases hk with ⟨kvs,hk⟩ | ⟨kvs,hk⟩
    ·obtain⟨_,_,_,_,o,_,_,e,ex,_⟩:=I.hok p _ hk
     exact⟨o,e,ex⟩
    ·obtain⟨_,_,_,_,o,_,_,e,ex,_⟩:=I.hok p _ hk
     exact⟨o,e,ex⟩
   obtain⟨o,e,ex⟩:=z
   refine⟨⟨o,e,ex.1⟩,fun a e2=>?_⟩
   cases e2
   exact⟨o,e,ex.2.1⟩
  ·obtain⟨o,_,_,_,e,ex,_⟩:=I.hok p _ hk
   refine⟨⟨o,e,ex.1⟩,fun a e2=>?_⟩
   cases e2
   exact⟨o,e,ex.2.1⟩
 | _=>exact False.elim ty
def tBM(K:W.Frag)(T:String)(r:V->List V->Hp->VK->Prop)(to:TE)(t:TA):TE:=fun σ H Q=>to σ H fun x H1=>tyV K T x H1/\t σ H1 fun xs H2=>r x xs H2 Q
variable{o e:Expr}{es:List Expr}{to:TE}{t:TA}{name:Str}{apos cpos:Pos}{T id:String}{r:V->List V->Hp->VK->Prop}
def pe_bm(pa:PlainAttrs T)(slot:Slot T name id)(hty:typeOf (.builtin id)=pure (.type "method_descriptor"))(hm:MtR X id r)(ho:PE X o to)(ha:PA X (e::es) t)
  (hbase:attributeBase o name X.env (eval o X.env)=eval o X.env:=by rfl)
  (hfew:((backTo cpos (starEach (e::es) X.env)).all (fun x=>!x.1)&&(backToKw cpos (keywordEach [] X.env)).all (fun x=>x.1.isSome)
   && decide ((e::es).length+([]:List Keyword).length+(if ([]:List Keyword).isEmpty then 0 else 1)<30))=true:=by rfl)
  (hline:(apos.endLine == cpos.line)=true:=by rfl) (hs:starEach (e::es) X.env=(false,eval e X.env)::starEach es X.env:=by rfl) (hplain:(backTo cpos (starEach es X.env)).any (·.1)=false:=by rfl) :
  PE X (.Call (.Attribute o name apos) (e::es) [] cpos) (tBM X.K T r to t):=by
 intro pins s σ H Q I h
 refine Zr hbase hfew hline rfl (dE (ho pins s σ H _ I h) fun v s1 ⟨x,H1,I1,r1,ty,q1⟩=>?_)
 obtain⟨h1,h2⟩:=SV I1 r1 ty
 refine⟨T,id,pa,slot,hty,h1,h2,?_⟩
 have hA:=ha cpos pins s1 σ H1 _ I1 q1
 rw [hs] at hA ⊢
 refine Zt (by show (false||(backTo cpos (starEach es X.env)).any (·.1))=false;rw [hplain] <;> rfl) (ZB ?_)
 exact dE hA fun us s2 ⟨vs,H2,I2,r2,q2⟩=>hm pins s2 σ H2 x vs v us Q I2 r1 r2 q2
end
def MtM(X:Cx)(id:String)(r:V->List V->Hp->VK->Prop):Prop:=
 ∀ (pins:List (Addr×Obj)) (s:Shared) (σ:St) (H:Hp) (x:V) (xs:List V) (v:Value) (us:List Value) (Q:VK),Inv X pins σ H s->RelV x v->Vals xs us->r x xs H Q ->
  wpAny (model X.prog X.w) X.A (call (.builtin id) (v::us)) (EP X pins σ Q) X.xe s
def Vals.one:∀ {x:V} {us:List Value},Vals [x] us->∃ u,us=[u]/\RelV x u
 | _,_,.cons r .nil=>⟨_,rfl,r⟩
def Vals.two:∀ {x y:V} {us:List Value},Vals [x,y] us->∃ u v,us=[u,v]/\RelV x u/\RelV y v
 | _,_,_,.cons r (.cons q .nil)=>⟨_,_,rfl,r,q⟩
def Vals.rep{xs:List V}{us:List Value}(h:Vals xs us):∀ k:Nat,Vals (List.replicate k xs).flatten (List.replicate k us).flatten
 | 0=>.nil
 | k+1=>by
  rw [Xo,Xo,XT,XT]
  exact Vals.append h (Vals.rep h k)
def xO(its:List Value):∀ (k:Nat) (acc:List Value),
  List.foldl (fun x1 x2=>x1++x2) acc.toArray (List.replicate k its.toArray)=(acc++(List.replicate k its).flatten).toArray
 | 0,acc=>by simp
 | k+1,acc=>by
  have e:acc.toArray++its.toArray=(acc++its).toArray:=by simp
  have e2:(acc++its)++(List.replicate k its).flatten=acc++(List.replicate (k+1) its).flatten:=by
   rw [Xo,XT,Xm]
  rw [<- e2,<- xO its k (acc++its),<- e,Xo,List.foldl_cons]
section
variable{X:Cx}{pins:List (Addr×Obj)}{σ:St}{H:Hp}{s:Shared}{l b:Addr}{xs ys zs:List V}
def Inv.lset{its its':List Value}{n:Nat}{f:Array Value->Array Value}{t':Nat}(I:Inv X pins σ H s)(hH:H l=some (.lst xs))
  (e:s.heap.get? l=some { cls:=.type "list",data:=.seq its.toArray n }) (hf:f its.toArray=its'.toArray) (hv:Vals ys its') (hz:ys.length<=sizeLine) :
  Inv X pins σ (upd H l (.lst ys)) { s with heap:=s.heap.update l (Obj.mapSeq f),toks:=t' }:=by
 have q:=PySem.IsL.update e f
 rw [hf] at q
 refine I.write (x:=l) (e:=l) (by rw [hH];exact trivial) (.inl rfl) (fun b' u hb hu=>(aat s.heap (Obj.mapSeq f) (Ne.symm hb)).trans hu) ⟨_,q⟩ ?_
 exact⟨hz,its',_,hv,q⟩
def Inv.lnew{its:List Value}{t':Nat}(I:Inv X pins σ H s)(hv:Vals ys its)(hz:ys.length<=sizeLine) :
  Inv X pins σ (upd H s.heap.objs.size (.lst ys)) { s with heap:=s.heap.push { cls:=.type "list",data:=.seq its.toArray },toks:=t' }:=
 I.laid (fun _ _ q=>WQ _ q) (WY _) ⟨hz,its,0,hv,Xe _ rfl⟩
def Inv.fresh(I:Inv X pins σ H s):H s.heap.objs.size=none:=I.hok.fresh (WY _)
def Inv.lstM(I:Inv X pins σ H s)(hH:H l=some (.lst xs)):xs.length<=sizeLine/\∃ (its:List Value) (n:Nat),Vals xs its/\xs.length=its.length/\s.heap.get? l=some { cls:=.type "list",data:=.seq its.toArray n }:=by
 obtain⟨z,its,n,r,e⟩:=I.hok l _ hH
 exact⟨z,its,n,r,r.length,e⟩
def ui{n:Nat}(h:n<=sizeLine):Builtin.List.listTooLong n=false:=by
 unfold Builtin.List.listTooLong
 exact WV (by omega)
end
section
variable{X:Cx}
def Pc:V->List V->Hp->VK->Prop:=fun x vs H Q=>∃ l xs y,x=.ref l/\vs=[y]/\H l=some (.lst xs)/\xs.length<sizeLine/\Q .non (upd H l (.lst (xs++[y])))
def wZ:MtM X "list.append" Pc:=by
 intro pins s σ H x vs v us Q I rx rv h
 obtain⟨l,xs,y,rfl,rfl,hH,hz,q⟩:=h
 cases rx
 obtain⟨u,rfl,ru⟩:=rv.one
 obtain⟨z,its,n,r,hl,e⟩:=I.lstM hH
 refine YJ aaV ⟨_,e,rfl⟩ F.entry_list_append (F.args_list_append_2 _ _) (PySem.list_append l its.toArray n u (by rw [WN];omega)) ⟨e,?_⟩
 refine⟨.non,_,I.lset (its':=its++[u]) hH e (by simp) (r.append (.cons ru .nil)) ?_,rfl,q⟩
 rw [WX,XQ]
 omega
def Pb:V->List V->Hp->VK->Prop:=fun x vs H Q=>∃ l b xs zs,x=.ref l/\vs=[.ref b]/\H l=some (.lst xs)/\H b=some (.lst zs)/\xs.length+zs.length<=sizeLine/\Q .non (upd H l (.lst (xs++zs)))
def Ir:MtM X "list.extend" Pb:=by
 intro pins s σ H x vs v us Q I rx rv h
 obtain⟨l,b,xs,zs,rfl,rfl,hH,hB,hz,q⟩:=h
 cases rx
 obtain⟨u,rfl,ru⟩:=rv.one
 cases ru
 obtain⟨z,its,n,r,hl,e⟩:=I.lstM hH
 obtain⟨z2,its2,n2,r2,hl2,e2⟩:=I.lstM hB
 have hsz:its.toArray.size+its2.toArray.size<=sizeLine:=by rw [WN,WN];omega
 have hlong:¬ (!its.toArray.isEmpty&&Builtin.List.listTooLong (its.toArray.size+its2.toArray.size))=true:=by
  rw [ui hsz,Yn]
  exact Bool.false_ne_true
 refine YJ ZG ⟨_,e,rfl⟩ aaP (aaH _ _)
  (AutoSeq1.list_extend_list_list_0 l its.toArray n b its2.toArray n2 hlong (by rw [WN];omega) (by omega)) ⟨e,e2,?_⟩
 refine⟨.non,_,I.lset (its':=its++its2) hH e (by simp) (r.append r2) ?_,rfl,q⟩
 rw [WX]
 omega
noncomputable def rCat:R2:=fun x y H Q=>∃ l b xs zs,x=.ref l/\y=.ref b/\H l=some (.lst xs)/\H b=some (.lst zs)/\xs.length+zs.length<=sizeLine/\∀ p,H p=none->Q (.ref p) (upd H p (.lst (xs++zs)))
def LD:OpR X (binaryOp .Add) rCat:=by
 intro pins s σ H x y v u Q I rx ry h
 obtain⟨l,b,xs,zs,rfl,rfl,hH,hB,hz,q⟩:=h
 cases rx
 cases ry
 obtain⟨z,its,n,r,hl,e⟩:=I.lstM hH
 obtain⟨z2,its2,n2,r2,hl2,e2⟩:=I.lstM hB
 refine PySem.P.add_list e e2 ?_ (by rw [WN,WN];omega)
 have ea:its.toArray++its2.toArray=(its++its2).toArray:=by simp
 rw [ea]
 exact⟨.ref _,_,I.lnew (t':=s.toks) (r.append r2) (by rw [WX];omega),rfl,q _ I.fresh⟩
noncomputable def rRep:R2:=fun x y H Q=>∃ l k xs,x=.ref l/\y=.int k/\H l=some (.lst xs)/\-(2 ^ 63)<=k/\k<2 ^ 63/\xs.length * k.toNat<=sizeLine /\
 ∀ p,H p=none->Q (.ref p) (upd H p (.lst (List.replicate k.toNat xs).flatten))
def zF{α:Type}(xs:List α)(k:Nat):(List.replicate k xs).flatten.length=k * xs.length:=by
 induction k with
 | zero=>simp
 | succ k ih=>rw [Xo,XT,WX,ih,Nat.succ_mul,Nat.add_comm]
def Uc:OpR X (binaryOp .Mult) rRep:=by
 intro pins s σ H x y v u Q I rx ry h
 obtain⟨l,k,xs,rfl,rfl,hH,h1,h2,hz,q⟩:=h
 cases rx
 obtain⟨t,rfl⟩:=ry
 obtain⟨z,its,n,r,hl,e⟩:=I.lstM hH
 have hlen:its.toArray.size * k.toNat<=sizeLine:=by rw [WN,<- hl];exact hz
 have hcap:¬ its.toArray.size * k.toNat>(2 ^ 63 - 1) / 8:=by
  have:(sizeLine:Nat)<=(2 ^ 63 - 1) / 8:=by decide
  omega
 have hfit:¬ (!Builtin.List.listFitsIndex k)=true:=by
  rw [fitsIndex_both h1 h2]
  exact Bool.false_ne_true
 have hlong:¬ Builtin.List.listTooLong (its.toArray.size * k.toNat)=true:=by
  rw [ui hlen]
  exact Bool.false_ne_true
 have hnew:List.foldl (fun x1 x2=>x1++x2) #[] (List.replicate (if its.toArray.isEmpty=true then 0 else k.toNat) its.toArray)=(List.replicate k.toNat its).flatten.toArray:=by
  have f0:∀ m:Nat,List.foldl (fun x1 x2=>x1++x2) #[] (List.replicate m its.toArray)=(List.replicate m its).flatten.toArray:=fun m=>by
   have:=xO its m []
   rw [YO] at this
   exact this
  rw [f0]
  cases its with
  | nil=>simp
  | cons a r'=>rw [if_neg (by simp)]
 refine aaf (T:="list") (U:="int") (by decide) ⟨_,e,rfl⟩ (fun s'=>ZJ s' k t) noFill_list_mul F.fills_int_mul Zy repeat_list F.slot_int_index.lookup
  (YJ Zy (ZJ s k t) F.entry_int_rmul (F.args_int_rmul_2 _ _) (int___rmul___int_list k t l its.toArray n)
   ⟨e,rfl,⟨_,e,rfl⟩,YJ F.slot_list_mul ⟨_,e,rfl⟩ F.entry_list_mul (F.args_list_mul_2 _ _) (AutoListH.list___mul___list_int_3 l its.toArray n k t hfit hcap hlong) ⟨e,?_⟩⟩)
 rw [hnew]
 exact⟨.ref _,_,I.lnew (t':=s.toks) (r.rep k.toNat) (by rw [zF,ZO];exact hz),rfl,q _ I.fresh⟩
end
section
variable{prog:Program}{w:World}{A:Around}{E:Value->Shared->Prop}{s:Shared}
end
section
variable{X:Cx}
end
section
variable{κ:Type}[DecidableEq κ]
noncomputable def tJ(kvs:List (κ×V))(k:κ):Option V:=(kvs.find? fun kv=>decide (kv.1=k)).map (·.2)
noncomputable def vV(kvs:List (κ×V))(k:κ)(v:V):List (κ×V):=
 if (kvs.any fun kv=>decide (kv.1=k))=true then kvs.map (fun kv=>if kv.1=k then (kv.1,v) else kv) else kvs++[(k,v)]
def tH{p:κ×V}{r:List (κ×V)}{k:κ}(e:p.1=k):tJ (p::r) k=some p.2:=by simp [tJ,XN,e]
def tI{p:κ×V}{r:List (κ×V)}{k:κ}(e:¬ p.1=k):tJ (p::r) k=tJ r k:=by simp [tJ,XN,e]
def Ci(kvs:List (κ×V))(k:κ)(v:V):(vV kvs k v).length<=kvs.length+1:=by
 unfold vV
 split
 ·rw [WM];omega
 ·rw [WX,WT,YQ];omega
def KV.val{kvs:List (κ×V)}{vs:List (κ×Value)}(r:KV kvs vs)(k:κ):RelO (tJ kvs k) (valueAt vs k):=by
 unfold KV at r
 induction r with
 | nil=>exact True.intro
 | @cons p q ps qs h t ih=>
  obtain⟨h1,h2⟩:=h
  by_cases e:p.1=k
  ·have e':q.1=k:=h1.symm.trans e
   have b:valueAt (q::qs) k=some q.2:=by simp [valueAt,XN,e']
   rw [tH e,b];exact h2
  ·have e':¬ q.1=k:=fun z=>e (h1.trans z)
   have b:valueAt (q::qs) k=valueAt qs k:=by simp [valueAt,XN,e']
   rw [tI e,b];exact ih
def KV.any{kvs:List (κ×V)}{vs:List (κ×Value)}(r:KV kvs vs)(k:κ):(kvs.any fun kv=>decide (kv.1=k))=vs.any fun kv=>decide (kv.1=k):=by
 unfold KV at r
 induction r with
 | nil=>rfl
 | cons h t ih=>rw [XD,XD,ih,h.1]
def KV.repl{kvs:List (κ×V)}{vs:List (κ×Value)}(r:KV kvs vs)(k:κ){y:V}{u:Value}(ry:RelV y u) :
  KV (kvs.map fun kv=>if kv.1=k then (kv.1,y) else kv) (vs.map fun kv=>if kv.1=k then (kv.1,u) else kv):=by
 unfold KV at r ⊢
 induction r with
 | nil=>exact .nil
 | @cons p q ps qs h t ih=>
  rw [WR,WR]
  refine .cons ?_ ih
  obtain⟨h1,h2⟩:=h
  by_cases e:p.1=k
  ·rw [Xc e,Xc (h1.symm.trans e)];exact⟨h1,ry⟩
  ·rw [if_neg e,if_neg (fun z=>e (h1.trans z))];exact⟨h1,h2⟩
def KV.put{kvs:List (κ×V)}{vs:List (κ×Value)}(r:KV kvs vs)(k:κ){y:V}{u:Value}(ry:RelV y u):KV (vV kvs k y) (stored vs k u):=by
 unfold vV stored
 rw [r.any k]
 by_cases e:(vs.any fun kv=>decide (kv.1=k))=true
 ·rw [Xc e,Xc e];exact r.repl k ry
 ·rw [if_neg e,if_neg e];exact Paired.snoc r ⟨rfl,ry⟩
def KV.length{kvs:List (κ×V)}{vs:List (κ×Value)}(r:KV kvs vs):kvs.length=vs.length:=aam r
end
def xy{P:Program}{w:World}{k:bG}{u:Value}(r:RelV (kV k) u):(cf P w).is k u=true:=by
 cases k with
 | inl i=>obtain⟨t,e⟩:=(show ∃ t,u=Value.int i t from r);subst e;exact Bx P w i t
 | inr x=>obtain⟨t,e⟩:=(show ∃ t,u=Value.str x t from r);subst e;exact Bw P w x t
def xD{P:Program}{w:World}:∀ {ks:List bG} {us:List Value},Vals (ks.map kV) us->ItemsAre (cf P w) ks us
 | [],_,r=>by rw [Zh] at r;cases r;exact .nil
 | k::ks,_,r=>by
  rw [WR] at r
  cases r with
  | cons h t=>exact .cons (xy h) (xD t)
abbrev KT(H:Hp):List (List bG×V)->List (List bG×Addr×Value)->Prop:=Paired fun p q=>p.1=q.1/\H q.2.1=some (.tup (p.1.map kV))/\RelV p.2 q.2.2
def KT.val{H:Hp}{kvs:List (List bG×V)}{xs:List (List bG×Addr×Value)}(r:KT H kvs xs)(k:List bG):RelO (tJ kvs k) ((atKey xs k).map (·.2)):=by
 induction r with
 | nil=>exact True.intro
 | @cons p q ps qs h t ih=>
  obtain⟨h1,_,h2⟩:=h
  by_cases e:p.1=k
  ·have e':q.1=k:=h1.symm.trans e
   have b:atKey (q::qs) k=some q.2:=by simp [atKey,XN,e']
   rw [tH e,b];exact h2
  ·have e':¬ q.1=k:=fun z=>e (h1.trans z)
   have b:atKey (q::qs) k=atKey qs k:=by simp [atKey,XN,e']
   rw [tI e,b];exact ih
section
variable{P:Program}{w:World}{H:Hp}{h:Heap}{a:Addr}
def RW{u:HO}(ok:HOk P w H h)(e:Rd H a u):ObjOk P w H h a u:=e.ok ok
def Hb{kvs:List (bG×V)}(ok:HOk P w H h)(e:Rd H a (.dK kvs)):kvs.length<=sizeLine/\(a == sysModules)=false/\∃ vs,KV kvs vs/\h.DictOf (cf P w) a vs:=
 show ObjOk P w H h a (.dK kvs) from RW ok e
def NT{kvs:List (bG×V)}(ok:HOk P w H h)(e:H a=some (.dK kvs)):kvs.length<=sizeLine/\(a == sysModules)=false/\∃ vs,KV kvs vs/\h.DictOf (cf P w) a vs:=Hb ok (.inl e)
def Mm{ks:List bG}(ok:HOk P w H h)(e:H a=some (.tup (ks.map kV))):(tupleKind (cf P w)).is h ks a:=by
 obtain⟨_,its,r,o,h1,h2,⟨n,h3⟩,_⟩:=(show ObjOk P w H h a (.tup (ks.map kV)) from ok a _ e)
 exact⟨o,its.toArray,n,h1,h2,h3,by simpa using xD r⟩
def NH{kvs:List (List bG×V)}(ok:HOk P w H h)(e:Rd H a (.dT kvs)):kvs.length<=sizeLine/\(a == sysModules)=false /\
  ∃ xs,KT H kvs xs/\h.DictOfH (tupleKind (cf P w)) a xs:=by
 obtain⟨z,y,xs,r,o,es,ep,h1,h2,h3,h4,h5⟩:=(show ObjOk P w H h a (.dT kvs) from RW ok e)
 refine⟨z,y,xs,r,o,es,ep,h1,h2,h3,h4,fun x hx=>?_,h5⟩
 have all:∀ {l:List (List bG×V)} {m:List (List bG×Addr×Value)},KT H l m->∀ x∈m,(tupleKind (cf P w)).is h x.1 x.2.1:=by
  intro l m q
  induction q with
  | nil=>intro x hx;exact nomatch hx
  | @cons p q ps qs hq t ih=>
   intro x hx
   rcases Xq.mp hx with e | hx
   ·subst e
    exact Mm ok (by rw [<- hq.1];exact hq.2.1)
   ·exact ih x hx
 exact all r x hx
end
def DGet(H:Hp)(a:Addr)(y:V)(r:Option V):Prop:=
 (∃ kvs k,Rd H a (.dK kvs)/\y=kV k/\r=tJ kvs k)\/∃ kvs k b,Rd H a (.dT kvs)/\y=.ref b/\H b=some (.tup (k.map kV))/\r=tJ kvs k
def DGet.k{H:Hp}{a:Addr}{kvs:List (bG×V)}{k:bG}(e:H a=some (.dK kvs)):DGet H a (kV k) (tJ kvs k):=.inl ⟨kvs,k,.inl e,rfl,rfl⟩
section
variable{X:Cx}{pins:List (Addr×Obj)}{σ:St}{H:Hp}{s:Shared}{a:Addr}{y v:V}{u r:Value}{o:Option V}{A:Around}{E:Value->Shared->Prop}
def Inv.big(I:Inv X pins σ H s):sysModules<s.heap.objs.size:=by
 have h:mainGlobals<s.heap.objs.size:=(I.mod.glob.keeps I.bk).lt
 exact Nat.lt_trans (by decide) h
def JH{Q:Value->Shared->Prop}(hu:A.units+1<cLine)(I:Inv X pins σ H s)(g:DGet H a y (some v))(ry:RelV y u)(h:∀ w' s',Inv X pins σ H s'->RelV v w'->Q w' s') :
  wpAny (model X.prog X.w) A (getItem (.ref a) u) Q E s:=by
 rcases g with ⟨kvs,k,e,ey,l⟩ | ⟨kvs,k,b,e,ey,eb,l⟩
 ·subst ey
  obtain⟨z,hd,vs,rel,dd⟩:=Hb I.hok e
  obtain⟨w',hw,rw'⟩:=RelO.some_of (v:=v) (o:=valueAt vs k) (by rw [l];exact rel.val k)
  exact wpAny_getItem_of (xy ry) dd.mapOf hw (h w' _ (I.tok _) rw')
 ·subst ey
  cases (show u=Value.ref b from ry)
  obtain⟨z,hd,xs,rel,dd⟩:=NH I.hok e
  obtain⟨w',hw,rw'⟩:=RelO.some_of (v:=v) (o:=(atKey xs k).map (·.2)) (by rw [l];exact rel.val k)
  obtain⟨p,hp,hp2⟩:=aar.mp hw
  refine wpAny_getItem_heap (tupleKind_room_in1 hu) (Mm I.hok eb) dd hp ?_
  rw [hp2]
  exact h w' _ (I.tok _) rw'
def He{h':Heap}{t':Nat}{ob:HO}(I:Inv X pins σ H s)(mu:Mut (H a))(hs:Heap.SameBut a s.heap h')(he:∃ q,h'.get? a=some q)(new:ObjOk X.prog X.w (upd H a ob) h' a ob) :
  Inv X pins σ (upd H a ob) { s with heap:=h',toks:=t' }:=
 I.write (x:=a) (e:=a) mu (.inl rfl) (fun b q hb z=>(hs.2 b hb).trans z) he new
def NU{P:Program}{w:World}{H':Hp}{h':Heap}{kvs:List (bG×V)}{vs:List (bG×Value)}(z:kvs.length<=sizeLine)(hd:(a == sysModules)=false)(rel:KV kvs vs)(dd:h'.DictOf (cf P w) a vs) :
  ObjOk P w H' h' a (.dK kvs):=⟨z,hd,vs,rel,dd⟩
end
section
variable{X:Cx}{pins:List (Addr×Obj)}{σ:St}{H:Hp}{s:Shared}{a:Addr}{kvs:List (bG×V)}{k:bG}{u:Value}{A:Around}{E:Value->Shared->Prop}
end
def Dc{X:Cx}{pins:List (Addr×Obj)}{σ:St}{H:Hp}{s:Shared}{a:Addr}{y:V}{o:Option V}(I:Inv X pins σ H s)(g:DGet H a y o):s.TypeIs (.ref a) "dict":=by
 rcases g with ⟨kvs,k,e,_,_⟩ | ⟨kvs,k,b,e,_,_,_⟩
 ·obtain⟨_,_,vs,_,dd⟩:=Hb I.hok e
  exact dd.typeIs
 ·obtain⟨_,_,xs,_,dd⟩:=NH I.hok e
  exact dd.typeIs
section
variable{X:Cx}{o i e value:Expr}{pos pos' tpos:Pos}{td ty tv:TE}
end
def Db{P:Program}{w:World}{H:Hp}(h:Heap)(hb:sysModules<h.objs.size):ObjOk P w H (h.push { cls:=.type "dict",data:=.dict #[] }) h.objs.size (.dK []):=
 ⟨Yy _,XY.mpr (Ne.symm (Xx hb)),[],.nil,Heap.DictOf.new h⟩
def Tc:TE:=fun _ H Q=>∀ p,H p=none->Q (.ref p) (upd H p (.dK []))
section
variable{X:Cx}{pos:Pos}
def Lw:PE X (.Dict [] [] pos) Tc:=fun pins s σ H Q I h=>
 wpAny_Dict_empty ⟨.ref s.heap.objs.size,_,I.laid (a:=s.heap.objs.size) (o:=.dK []) (t':=s.toks) (fun _ _ q=>WQ _ q) (WY _) (Db s.heap I.big),rfl,h _ (I.hok.fresh (WY _))⟩
end
def yn:List (TE×TE)->St->Hp->(List (V×V)->Hp->Prop)->Prop
 | [],_,H,Q=>Q [] H
 | (tk,tv)::r,σ,H,Q=>tk σ H fun x H1=>tv σ H1 fun y H2=>yn r σ H2 fun ps H3=>Q ((x,y)::ps) H3
abbrev VV:List (V×V)->List (Value×Value)->Prop:=Paired fun p q=>RelV p.1 q.1/\RelV p.2 q.2
def PPs(X:Cx)(pos:Pos)(keys:List (Option Expr))(values:List Expr)(trs:List (TE×TE)):Prop:=
 ∀ (pins:List (Addr×Obj)) (s:Shared) (σ:St) (H:Hp) (Q:List (V×V)->Hp->Prop),Inv X pins σ H s->yn trs σ H Q ->
  wpAny (model X.prog X.w) X.A (evalPairs (pairTrees keys values X.env pos)) (fun vs s'=>∃ ps H',Inv X pins σ H' s'/\VV ps vs/\Q ps H') X.xe s
def Pn{X:Cx}{pos:Pos}:PPs X pos [] [] []:=fun pins s σ H Q I h=>pairTrees_nil_walk ⟨[],H,I,.nil,h⟩
def Ll{X:Cx}{pos:Pos}{k v:Expr}{ks:List (Option Expr)}{vs:List Expr}{tk tv:TE}{trs:List (TE×TE)}(hk:PE X k tk)(hv:PE X v tv)(hr:PPs X pos ks vs trs) :
  PPs X pos (some k::ks) (v::vs) ((tk,tv)::trs):=fun pins s σ H Q I h=>
 pairTrees_cons_walk (dE (hk pins s σ H _ I h) fun u s1 ⟨x,H1,I1,rx,q1⟩=>dE (hv pins s1 σ H1 _ I1 q1) fun w2 s2 ⟨y,H2,I2,ry,q2⟩=>
  dE (hr pins s2 σ H2 _ I2 q2) fun ws s3 ⟨ps,H3,I3,rel,q3⟩=>⟨(x,y)::ps,H3,I3,.cons ⟨rx,ry⟩ rel,q3⟩)
noncomputable def jJ(kvs more:List (bG×V)):List (bG×V):=more.foldl (fun acc kv=>vV acc kv.1 kv.2) kvs
def KV.merge:∀ {more:List (bG×V)} {rs:List (bG×Value)} {kvs:List (bG×V)} {vs:List (bG×Value)},KV more rs->KV kvs vs->KV (jJ kvs more) (merged vs rs):=by
 intro more rs kvs vs r
 unfold KV at r
 induction r generalizing kvs vs with
 | nil=>intro q;exact q
 | @cons p q ps qs h t ih=>
  intro r0
  have e:KV (vV kvs p.1 p.2) (stored vs q.1 q.2):=by
   have:=r0.put p.1 h.2
   rw [<- h.1];exact this
  exact ih e
def kP:∀ (more kvs:List (bG×V)),(jJ kvs more).length<=kvs.length+more.length
 | [],kvs=>by show kvs.length<=kvs.length+0;omega
 | p::r,kvs=>by
  have h1:=kP r (vV kvs p.1 p.2)
  have h2:=Ci kvs p.1 p.2
  show (jJ (vV kvs p.1 p.2) r).length<=_
  rw [WT];omega
def vC{P:Program}{w:World}:∀ {kvs:List (bG×V)} {ws:List (Value×Value)},VV (kvs.map fun kv=>(kV kv.1,kv.2)) ws->∃ rs,Carries (cf P w) ws rs/\KV kvs rs
 | [],_,r=>by rw [Zh] at r;cases r;exact⟨[],True.intro,.nil⟩
 | p::kvs,_,r=>by
  rw [WR] at r
  cases r with
  | @cons a b as bs h t=>
   obtain⟨rs,c,q⟩:=vC (P:=P) (w:=w) t
   obtain⟨b1,b2⟩:=b
   exact⟨(p.1,b2)::rs,⟨xy h.1,rfl,c⟩,.cons ⟨rfl,h.2⟩ q⟩
def tDisp(trs:List (TE×TE)):TE:=fun σ H Q=>∀ p,H p=none->yn trs σ (upd H p (.dK [])) fun ps H2=>H2 p=some (.dK [])/\∃ kvs:List (bG×V),ps=kvs.map (fun kv=>(kV kv.1,kv.2))/\kvs.length<=15/\Q (.ref p) (upd H2 p (.dK (jJ [] kvs)))
def Gd{X:Cx}{pos:Pos}{keys:List (Option Expr)}{values:List Expr}{trs:List (TE×TE)}(h:PPs X pos keys values trs)(hall:keys.all (·.isSome)=true)(hl:keys.length=values.length)(h0:keys≠[])
  (h15:keys.length<=15):PE X (.Dict keys values pos) (tDisp trs):=by
 intro pins s σ H Q I q
 have hn:=I.hok.fresh (WY s.heap.objs.size)
 have I1:=I.laid (a:=s.heap.objs.size) (o:=.dK []) (h':=s.heap.push { cls:=.type "dict",data:=.dict #[] }) (t':=s.toks) (fun _ _ q=>WQ _ q) (WY _) (Db s.heap I.big)
 refine wpAny_Dict_walk (knd:=cf X.prog X.w) hall hl h0 h15 (dE (h pins _ σ _ _ I1 (q _ hn)) fun ws s2 ⟨ps,H2,I2,rel,e,kvs,ep,lk,q2⟩=>?_)
 subst ep
 obtain⟨rs,c,rk⟩:=vC (P:=X.prog) (w:=X.w) rel
 obtain⟨z,hd,vs0,r0,dd⟩:=NT I2.hok e
 cases r0
 refine⟨rs,c,dd,fun h' dd' hs=>⟨.ref s.heap.objs.size,_,?_,rfl,q2⟩⟩
 have hz:(jJ [] kvs).length<=sizeLine:=by
  have h1:=kP kvs []
  rw [YQ] at h1
  rw [ZX];omega
 have he:∃ q,h'.get? s.heap.objs.size=some q:=let ⟨q,_,_,hq,_⟩:=dd';⟨q,hq⟩
 exact He I2 (by rw [e];exact True.intro) hs he (NU hz hd (rk.merge .nil) dd')
def IsD(H:Hp)(a:Addr):Prop:=(∃ kvs,Rd H a (.dK kvs))\/∃ kvs,Rd H a (.dT kvs)
def Vd{X:Cx}{pins:List (Addr×Obj)}{σ:St}{H:Hp}{s:Shared}{a:Addr}(I:Inv X pins σ H s)(d:IsD H a) :
  s.TypeIs (.ref a) "dict"/\(∀ b,Value.ref a=.ref b->∃ ob,s.heap.get? b=some ob/\ob.dict=none)/\(a == sysModules)=false:=by
 rcases d with ⟨kvs,e⟩ | ⟨kvs,e⟩
 ·obtain⟨_,hd,vs,_,dd⟩:=Hb I.hok e
  refine⟨dd.typeIs,fun b q=>?_,hd⟩
  cases q
  obtain⟨ob,_,_,h1,h2,_⟩:=dd
  exact⟨ob,h1,h2.2.1⟩
 ·obtain⟨_,hd,xs,_,dd⟩:=NH I.hok e
  refine⟨dd.typeIs,fun b q=>?_,hd⟩
  cases q
  obtain⟨ob,_,_,h1,h2,_⟩:=dd
  exact⟨ob,h1,h2.2.1⟩
section
variable{X:Cx}{pins:List (Addr×Obj)}{σ:St}{H:Hp}{s:Shared}{a:Addr}{y d:V}{u r:Value}{o:Option V}{A:Around}{E:Value->Shared->Prop}
end
section
variable{X:Cx}{o e f:Expr}{apos cpos:Pos}{td ty tx:TE}
end
section
variable{X:Cx}{pins:List (Addr×Obj)}{σ:St}{H:Hp}{s:Shared}{a:Addr}{kvs:List (bG×V)}{A:Around}{E:Value->Shared->Prop}
end
section
variable{X:Cx}{pins:List (Addr×Obj)}{σ:St}{H:Hp}{s:Shared}{a:Addr}{y:V}{u:Value}{A:Around}{E:Value->Shared->Prop}
end
end L2
namespace Att
open PySem.W PySem.Calls
def sK{P:Params}{h:Heap}:∀ (ns:List Int) (vs:List Value),WellAll P h vs (ns.map WData.int)->IntsAre vs ns:=by
 intro ns
 induction ns with
 | nil=>
  intro vs w
  rw [Zh] at w
  cases w
  exact .nil
 | cons n ns ih=>
  intro vs w
  rw [WR] at w
  cases w with
  | cons a b=>
   cases a
   exact .cons _ _ (ih _ b)
def HM{l:OpenLaw}{n:Nat}(hn:l.most=some n){P:Params}{h:Heap}{args:List WData}{vals:List Value}
  (hpre:l.row.toRowW.claim.pre args=true) (hwl:WellAll P h vals args) :
  ∃ a vs ns,vals=[Value.ref a]/\args=[WData.list (ns.map WData.int)]/\h.get? a=some { cls:=.type "list",data:=.seq vs.toArray }/\IntsAre vs ns/\ns.length<=n:=by
 have hsh:WShape.hasAll [] args [.list .int]=true:=(pre_splitW hpre).1
 have hc:l.pre.holds [] { args:=args } = true:=(pre_splitW hpre).2
 obtain⟨d,r,rfl,h1,h2⟩:=hasAllW_cons hsh
 obtain rfl:=hasAllW_nil h2
 obtain⟨xs,rfl,h3⟩:=hasW_list h1
 obtain⟨ns,rfl⟩:=items_int h3
 have hlen:ns.length<=n:=by
  unfold OpenLaw.pre at hc
  have h4:(WTm.not (.lt (.lit (.int (n:Int))) (.len (.arg 0)))).holds [] { args:=[.list (ns.map .int)] } = true:=by
   have h4:=(holds_andW hc).1
   rw [hn] at h4
   exact h4
  have h5:=condW_of h4 (w_not (w_lt w_lit (w_len_list (w_arg rfl))))
  rw [WM] at h5
  refine Nat.le_of_not_lt fun q=>?_
  have q':(n:Int)<((ns.length:Nat):Int):=by omega
  first
   | (rw [WU q'] at h5;exact absurd h5 (by decide))
   | (simp at h5;omega)
 cases hwl with
 | cons w1 w2=>
  cases w2
  cases w1 with
  | list ho hall=>exact⟨_,_,ns,rfl,rfl,ho,sK ns _ hall,hlen⟩
def Ia(l:OpenLaw)(args:List WData):l.row.toRowW.claim.post args (.bool true) args=true:=
 postW_of (r:=l.row.toRowW) (X:=(true == true))
  (show WShape.has [] (.bool true) .bool=true by first | rfl | decide | simp [WShape.has,WShape.arms,WShape.armsAll])
  (show (WTm.eq .res (.lit (.bool true))).value [] { args:=args,res:=some (.bool true),after:=args } = some (.bool (true == true)) from w_eq_bool (w_res rfl) w_lit) rfl
def Dp{l:OpenLaw}{n:Nat}{q:Program}{loose:List Str}{XP:(Str->Option Value)->Heap->Prop}{YP:World->Heap->Prop}{d:DefRec}
  (hn:l.most=some n) (hdf:d.params.defaults=[])
  (call:∀ (w:World) (s₀ s₁:Shared) (mg mb:Str->Option Value) (fa:Addr) (o:Obj) (pm cd doc:Value) (a:Addr) (vs:List Value) (ns:List Int),
   Ground q loose [] XP w s₀ mg mb s₁.heap->YP w s₁.heap ->
   s₁.heap.get? fa=some o->o.data=.func (docDef d.name d.params d.body d.scope pm cd doc)->s₁.heap.CodeRec cd d.name->mg d.name=some (.ref fa) ->
   s₁.heap.get? a=some { cls:=.type "list",data:=.seq vs.toArray }->IntsAre vs ns->ns.length<=n->s₁.gens = #[] ->
   codeAny (model l.prog w) callerA (.call (.ref fa) ⟨[.ref a],[]⟩) (fun r s'=>r=.ok (.ret (.bool true))/\OldK s₁.heap s'.heap/\s'.os=s₁.os/\AllBare s'.gens) s₁) :
  WalkO q loose XP YP l.row.toRowW d [] (fun f vs=>PySem.call f vs):=by
 intro w s₀ s₁ mg mb G Y fa o pm cd doc dV kV ho hd hcd hD hmg hg args vals as hpre hlay hrd hwl hlo
 obtain rfl:dV=.none:=Dflts.none hD hdf
 obtain rfl:kV=.none:=Dflts.noKw hD
 obtain⟨a,vs,ns,rfl,rfl,hobj,hints,hlen⟩:=HM hn hpre hwl
 refine enter_call (Zg (call w s₀ s₁ mg mb fa o pm cd doc a vs ns G Y ho (fd_plain hd) hcd hmg hobj hints hlen hg) fun r s' hq=>?_)
 obtain⟨rfl,h2,h3,h4⟩:=hq
 exact⟨.inl ⟨.bool true,.bool true,[],rfl,fun _=>rfl,.bool true,Ia l _,fun _=>⟨List.Pairwise.nil,fun _ hm=>(nomatch hm)⟩⟩,h2,h3,h4⟩
section
variable{prog:Program}{w:World}{A:Around}{E:Value->Shared->Prop}{s:Shared}{K:Frag}
end
end Att
namespace L2
def wI:∀ {vs:List Value} {ns:List Int},IntsAre vs ns->Vals (ns.map V.int) vs
 | _,_,.nil=>.nil
 | _,_,.cons n t h=>.cons ⟨t,rfl⟩ (wI h)
def WE(H:Hp):Prop:=∀ b,H b=none\/∃ o xs,H b=some (.frz o (.lst xs))
def Ml{P:Program}{w:World}{K:W.Frag}{mg mb:Str->Option Value}{CX:Kf}{k:Nat}{fa a:Addr}{fd:FuncData}{x:Str}{sp:Sp}{s₁:Shared}{vs:List Value}{ns:List Int}
  (KX:K.In s₁.heap) (hns:s₁.heap.Ns mainGlobals mg) (hb:s₁.heap.Ns builtinsNs mb) (hbb:∀ x:Str,x ≠ "__name__"->mb x=bootBuiltins x) (hlim:s₁.heap.NoLimit) (hg:s₁.gens = #[])
  (ha:s₁.heap.get? a=some { cls:=.type "list",data:=.seq vs.toArray }) (hi:IntsAre vs ns) (hl:ns.length<=sizeLine) (hr:Room k callerA)
  (F:∀ base:Heap,K.In base->base.Ns mainGlobals mg->FnOk P w K mg base CX k fa fd [x] sp) (hbind:∀ (s:Shared) (u:Value),BindsTo s fd ⟨[u],[]⟩ [(x,u)])
  (hsp:∀ H:Hp,WE H->oI K H a (ns.map V.int)->sp [.ref a] H (fun v _=>v=.bl true) fun _ _ _=>False)
  (hCX:∀ H e s',CX [] H s₁ (fun _ _ _=>False) e s'->False) :
  codeAny (model P w) callerA (.call (.ref fa) ⟨[.ref a],[]⟩) (fun r s'=>r=.ok (.ret (.bool true))/\OldK s₁.heap s'.heap/\s'.os=s₁.os/\AllBare s'.gens) s₁:=by
 have rv:=wI hi
 have lenV:=hi.length
 have core:∀ H:Hp,WE H->oI K H a (ns.map V.int)->HOk P w H s₁.heap->(∀ b,H b≠none->b=a)->(H a≠none->K.lookup a=none) ->
   codeAny (model P w) callerA (.call (.ref fa) ⟨[.ref a],[]⟩) (fun r s'=>r=.ok (.ret (.bool true))/\OldK s₁.heap s'.heap/\s'.os=s₁.os/\AllBare s'.gens) s₁:=by
  intro H hO hS hok hA hK
  have base_of:∀ {b:Addr} {o:Obj},s₁.heap.get? b=some o->H b=none->(zV s₁.heap H).get? b=some o:=fun e n=>MC e n
  have noA:∀ {b:Addr} {o:Obj} {es:Array DictEntry} {ep:Nat},s₁.heap.get? b=some o->o.data=.dict es ep->H b=none:=fun {b o es ep} e d=>by
   cases q:H b with
   | none=>rfl
   | some u=>
    have e':b=a:=hA b (by rw [q];simp)
    subst e'
    rw [ha] at e;cases e
    have d':Data.seq vs.toArray _=Data.dict es ep:=d
    cases d'
  have nsK:∀ {b:Addr} {m:Str->Option Value},s₁.heap.Ns b m->(zV s₁.heap H).Ns b m:=fun {b m} ⟨o,es,ep,e,d,r⟩=>⟨o,es,ep,base_of e (noA e d),d,r⟩
  have hKb:K.In (zV s₁.heap H):=fun b o e=>base_of (KX b o e) (by
   cases q:H b with
   | none=>rfl
   | some u=>
    have e':b=a:=hA b (by rw [q];simp)
    subst e'
    rw [hK (by rw [q];simp)] at e;cases e)
  have hM:Mod K mg (zV s₁.heap H):=⟨hKb,nsK hns,⟨mb,nsK hb,hbb⟩,let ⟨mc,h1,h2⟩:=hlim;⟨mc,nsK h1,h2⟩⟩
  have e0:RO P w K mg (zV s₁.heap H) callerA [] s₁ H:=⟨rfl,hM,fun b o e=>PU e,ZP (Jb _ _),trivial,fun b hb=>absurd (show b∈([]:List Addr) from hb) (by simp),hok,.of_eq hg⟩
  refine Zg ((F _ hKb (nsK hns)).run callerA [] s₁ H ⟨[.ref a],[]⟩ [.ref a] [.ref a] _ _ hr e0 (hbind s₁ (.ref a)) (.cons rfl .nil) (hsp H hO hS)) fun r s' h=>?_
  cases r with
  | error e=>exact(hCX H e s' h).elim
  | ok fl=>
   cases fl with
   | next=>exact False.elim h
   | brk=>exact False.elim h
   | cont=>exact False.elim h
   | ret u=>
    obtain⟨v,H',os,bare,un,hok',r',q⟩:=h
    have q':v=.bl true:=q
    subst q'
    obtain rfl:u=Value.bool true:=r'
    refine⟨rfl,OldK.of_keep fun b o e=>?_,os,bare⟩
    cases q:H b with
    | none=>exact un.keep b o e q (by intro z;exact absurd (show b∈([]:List Addr) from z) (by simp)) (by simp)
    | some u=>
     rcases hO b with z | ⟨ob,xs,z⟩
     ·rw [q] at z;cases z
     ·have z2:=un.frzs b ob _ z
      obtain⟨e1,_⟩:=hok b _ z
      obtain⟨e2,_⟩:=hok' b _ z2
      rw [e] at e1;cases e1
      exact e2
 cases hk:K.lookup a with
 | some o=>
  have e:=KX a o hk
  rw [ha] at e
  cases e
  refine core (fun _=>none) (fun _=>.inl rfl) (.inr ⟨_,vs.toArray,_,hk,rfl,rfl,rfl,by rw [WN,lenV];exact hl,by simpa using rv⟩) (fun b u z=>by have z':(none:Option HO)=some u:=z;cases z') (fun b z=>absurd rfl z) fun z=>absurd rfl z
 | none=>
  refine core (fun b=>if b=a then some (.frz { cls:=.type "list",data:=.seq vs.toArray } (.lst (ns.map V.int))) else none) (fun b=>?_) (.inl (.inr ⟨{ cls:=.type "list",data:=.seq vs.toArray },Xc rfl⟩)) (fun b u z=>?_) (fun b z=>?_) fun _=>hk
  ·by_cases hb:b=a
   ·exact .inr ⟨_,_,Xc hb⟩
   ·exact .inl (if_neg hb)
  ·by_cases hb:b=a
   ·have z':=(Xc hb).symm.trans z
    cases z'
    subst hb
    exact⟨ha,by rw [WM];exact hl,vs,_,rv,ha⟩
   ·have z':=(if_neg hb).symm.trans z
    cases z'
  ·by_cases hb:b=a
   ·exact hb
   ·exact absurd (if_neg hb) z
def OH{l:W.OpenLaw}{n k:Nat}{q:Program}{loose:List Str}{XP:(Str->Option Value)->Heap->Prop}{YP:World->Heap->Prop}{d:DefRec}{K:Params->W.Frag}{CX:World->Kf}{sp:World->Sp}{x:Str}
  (hn:l.most=some n) (hn2:n<=sizeLine) (hdf:d.params.defaults=[]) (hr:Room k callerA)
  (hY:∀ (w:World) (h:Heap),YP w h->(K w.params).In h)
  (F:∀ (w:World) (mg:Str->Option Value) (fa:Addr) (h:Heap),(K w.params).In h->h.Ns mainGlobals mg->mg d.name=some (.ref fa) ->
   ∃ fd:FuncData,(∀ (s:Shared) (u:Value),BindsTo s fd ⟨[u],[]⟩ [(x,u)]) /\
    ∀ base:Heap,(K w.params).In base->base.Ns mainGlobals mg->FnOk l.prog w (K w.params) mg base (CX w) k fa fd [x] (sp w))
  (hsp:∀ (w:World) (H:Hp) (a:Addr) (ns:List Int),ns.length<=n->WE H->oI (K w.params) H a (ns.map V.int)->sp w [.ref a] H (fun v _=>v=.bl true) fun _ _ _=>False)
  (hCX:∀ (w:World) (H:Hp) (s:Shared) (e:Value) (s':Shared),CX w [] H s (fun _ _ _=>False) e s'->False) :
  W.WalkO q loose XP YP l.row.toRowW d [] (fun f vs=>PySem.call f vs):=by
 refine Att.Dp hn hdf fun w s₀ s₁ mg mb fa o pm cd doc a vs ns G Y ho hd hcd hmg hobj hints hlen hg=>?_
 have KX:=hY w _ Y
 obtain⟨fd,hb,hF⟩:=F w mg fa _ KX G.T.g hmg
 exact Ml KX G.T.g G.T.b G.T.builtins G.T.nolimit hg hobj hints (Xl hlen hn2) hr hF hb (fun H hO hS=>hsp w H a ns hlen hO hS) fun H e s'=>hCX w H s₁ e s'
noncomputable def jy(s:Stmt):Arguments:=match s with
 | .FunctionDef _ a _ _ _ _ _ _ _ _=>a
 | _=>{ posonlyargs:=[],args:=[],vararg:=none,kwonlyargs:=[],kw_defaults:=[],kwarg:=none,defaults:=[] }
noncomputable def aN(s:Stmt):List Stmt:=match s with
 | .FunctionDef _ _ b _ _ _ _ _ _ _=>b
 | _=>[]
noncomputable def aA(s:Stmt):Scope:=match s with
 | .FunctionDef _ _ _ _ _ _ sc _ _ _=>sc
 | _=>{ kind:=.function,names:=[],isGenerator:=false,isCoroutine:=false }
noncomputable abbrev Hq:Kf:=fun _ _ _ _ _ _=>False
noncomputable abbrev E0:XK:=fun _ _ _=>False
def LB{X:Cx}:Az Hq X E0:=fun _ _ _ _ _ _ _ h=>h.elim
structure Fun(K:W.Frag)(x qual:Str)(st:Stmt)(f:Addr)(fd:FuncData):Prop where
 ex:∃ (oc:Value) (od:Option Addr) (kV doc pm:Value) (an:Option Addr) (cdv ct:Value) (osl:Array (Option Value)),
  fd=W.fnOf x qual (jy st) (aN st) (aA st) .none kV doc pm an cdv ct/\K.lookup f=some ⟨oc,od,.func fd,osl⟩/\W.codeIn K cdv qual=true
 kp:W.keepIn K (.ref f)=true
section
variable{P:Program}{w:World}{K:W.Frag}{mg:Str->Option Value}{base:Heap}
def Fun.ok{x qual:Str}{st:Stmt}{f:Addr}{fd:FuncData}{N ps:List Str}{k:Nat}{sp:Sp}(F:Fun K x qual st f fd)(S:aU N ps (aA st))(len:∀ vs H Q E,sp vs H Q E->vs.length=ps.length)
  (hbody:∀ (cdv:Value) (A:Around) (outer:List Env) (s:Shared) (H:Hp) (vs:List V) (Q:VK) (E:XK),Room k (A.deeper (envOfC qual (aA st) s.heap.objs.size f cdv))->sp vs H Q E ->
   ∃ t,PSs (wB Hq P w K mg base N qual (aA st) f cdv A outer s H E).nox (aN st) t/\t { nx:=fun _ H'=>Q .non H',rt:=Q } (start N vs) H):FnOk P w K mg base Hq (k+1) f fd ps sp:=by
 obtain⟨oc,od,kV,doc,pm,an,cdv,ct,osl,rfl,lk,hcd⟩:=F.ex
 refine fn_of lk hcd S len fun A outer s H vs Q E hr hsp=>?_
 obtain⟨t,h,q⟩:=hbody cdv A outer s H vs Q E hr hsp
 exact⟨t,h.nox,q⟩
def Fun.binds{x qual:Str}{st:Stmt}{f:Addr}{fd:FuncData}{ps:List Str}(F:Fun K x qual st f fd)
  (h:∀ (kV doc pm:Value) (an:Option Addr) (cdv ct:Value) (us:List Value),us.length=ps.length->bindArgs (W.fnOf x qual (jy st) (aN st) (aA st) .none kV doc pm an cdv ct) ⟨us,[]⟩=pure (ps.zip us)):Binds K fd ps []:=by
 obtain⟨oc,od,kV,doc,pm,an,cdv,ct,osl,rfl,lk,hcd⟩:=F.ex
 exact .all (h kV doc pm an cdv ct)
def Vh{x qual:Str}{st:Stmt}{f:Addr}{oc:Value}{od an:Option Addr}{osl:Array (Option Value)}{kV doc pm cdv ct:Value}(l:K.lookup f=some ⟨oc,od,.func (W.fnOf x qual (jy st) (aN st) (aA st) .none kV doc pm an cdv ct),osl⟩)
  (c:W.codeIn K cdv qual=true) (k:W.keepIn K (.ref f)=true):Fun K x qual st f (W.fnOf x qual (jy st) (aN st) (aA st) .none kV doc pm an cdv ct):=⟨⟨oc,od,kV,doc,pm,an,cdv,ct,osl,rfl,l,c⟩,k⟩
end
section
variable{X:Cx}
end
section
variable{κ:Type}[DecidableEq κ]
end
noncomputable def nL(cells:List (Str×Addr)):List (Str×NameKind)->List (Str×Addr)->List (Str×Addr)
 | [],acc=>acc
 | (n,k)::r,acc=>if k == .free then nL cells r ((n,(cells.lookup n).getD 0)::acc) else nL cells r acc
def jg{env:Env}:∀ (names:List (Str×NameKind)) (acc:List (Str×Addr)),(∀ x∈names,x.2=.free->(env.cells.lookup x.1).isSome=true) ->
  (forIn names acc fun(x:Str×NameKind) (r:List (Str×Addr))=>(do
   if x.2 == .free then do let c <- cellOf env x.1;pure (ForInStep.yield ((x.1,c)::r)) else pure (ForInStep.yield r):Sem (ForInStep (List (Str×Addr)))))=pure (nL env.cells names acc)
 | [],acc,_=>rfl
 | (n,k)::r,acc,h=>by
  rw [Yq]
  cases hk:k == NameKind.free with
  | true=>
   have e:k=.free:=by simpa using hk
   have hs:=h (n,k) WL e
   obtain⟨c,hc⟩:=Yp.mp hs
   have hc':env.cells.lookup n=some c:=hc
   have hce:cellOf env n=pure c:=by unfold cellOf;rw [hc']
   simp only [YE,hce,hc',Option.getD_some,pure_bind,nL,hk]
   rw [jg r _ fun x hx=>h x (WO _ hx)]
  | false=>
   simp only [XJ,YN,pure_bind,nL,hk]
   exact jg r _ fun x hx=>h x (WO _ hx)
def oZ{scope:Scope}{env:Env}(h:∀ x∈scope.names,x.2=.free->(env.cells.lookup x.1).isSome=true):closureFor scope env=pure (nL env.cells scope.names []):=by
 have q:=jg (env:=env) scope.names [] h
 unfold closureFor
 refine Eq.trans ?_ (Eq.trans (congrArg (fun(m:Sem (List (Str×Addr)))=>m >>= fun cs=>pure cs) q) ?_)
 ·rfl
 ·rfl
def rG(cells:List (Str×Addr)):∀ (names:List (Str×NameKind)) (acc:List (Str×Addr)),(∀ x∈names,x.2=.free->(cells.lookup x.1).isSome=true)->(∀ y c,acc.lookup y=some c->cells.lookup y=some c) ->
  ∀ y c,(nL cells names acc).lookup y=some c->cells.lookup y=some c
 | [],_,_,ha=>ha
 | (n,k)::r,acc,h,ha=>by
  unfold nL
  split
  ·rename_i hk
   refine rG cells r _ (fun x hx=>h x (WO _ hx)) fun y c e=>?_
   rw [YY] at e
   split at e
   ·rename_i hy
    have hy':y=n:=by simpa using hy
    subst hy'
    obtain⟨c',hc'⟩:=Yp.mp (h (y,k) WL (by simpa using hk))
    have hc'':cells.lookup y=some c':=hc'
    rw [hc''] at e ⊢
    exact e
   ·exact ha y c e
  ·exact rG cells r _ (fun x hx=>h x (WO _ hx)) ha
def pH(cells:List (Str×Addr)):∀ (names:List (Str×NameKind)) (acc:List (Str×Addr)) (y:Str),(acc.lookup y).isSome=true->((nL cells names acc).lookup y).isSome=true
 | [],_,_,h=>h
 | (n,k)::r,acc,y,h=>by
  unfold nL
  split
  ·refine pH cells r _ y ?_
   rw [YY]
   split
   ·rfl
   ·exact h
  ·exact pH cells r _ y h
def qD(cells:List (Str×Addr)):∀ (names:List (Str×NameKind)) (acc:List (Str×Addr)) (y:Str),(y,NameKind.free)∈names->((nL cells names acc).lookup y).isSome=true
 | [],_,_,h=>by simp at h
 | (n,k)::r,acc,y,h=>by
  unfold nL
  rcases Xq.mp h with e | h
  ·cases e
   rw [Xc (by rfl)]
   exact pH cells r _ _ (by rw [YY];simp)
  ·split
   ·exact qD cells r _ y h
   ·exact qD cells r _ y h
def lO{scope:Scope}{env:Env}{y:Str}:∀ {names:List (Str×NameKind)},
  ((names.map fun(n,k)=>if (k == NameKind.free&&env.scope.kind == .function&&env.kindOf n == some .cell) then (n,NameKind.cell) else (n,k)).lookup y=some .cell \/
  (names.map fun(n,k)=>if (k == NameKind.free&&env.scope.kind == .function&&env.kindOf n == some .cell) then (n,NameKind.cell) else (n,k)).lookup y=some .free) ->
  (∀ x∈names,x.2≠.cell)->(y,NameKind.free)∈names
 | [],h,_=>by simp at h
 | (n,k)::r,h,hc=>by
  have ih:=@lO scope env y r
  have hr:∀ x∈r,x.2≠.cell:=fun x hx=>hc x (WO _ hx)
  rw [WR] at h
  by_cases hq:(k == NameKind.free&&env.scope.kind == .function&&env.kindOf n == some .cell)=true
  ·have hk:k=.free:=by
    have:=hq
    simp only [WP] at this
    simpa using this.1.1
   simp only [hq,YE] at h
   simp only [YY] at h
   cases hy:y == n with
   | true=>
    have e:y=n:=by simpa using hy
    rw [e,hk]
    exact WL
   | false=>
    simp only [hy] at h
    exact WO _ (ih h hr)
  ·simp only [hq,XJ,YN] at h
   simp only [YY] at h
   cases hy:y == n with
   | true=>
    simp only [hy] at h
    have e:y=n:=by simpa using hy
    rcases h with h | h
    ·exact absurd (Xg h) (hc (n,k) WL)
    ·rw [e,<- Xg h]
     exact WL
   | false=>
    simp only [hy] at h
    exact WO _ (ih h hr)
noncomputable def oq(X:Cx)(N':List Str)(scope:Scope)(C:Addr)(s:Shared)(H:Hp)(fp:List Addr):Cx:=
 {X with N:=N',s₀:=s,H₀:=H,env:=compEnvC scope (nL X.env.cells scope.names []) C X.env,outer:=X.stack,ex:=fp,fn:=fun _=>false,pn:=[],xe:=fun _ _=>False }
def RM(X:Cx)(ifs:List Expr)(t:TT):Prop:=
 ∀ (pins:List (Addr×Obj)) (s:Shared) (σ:St) (H:Hp) (Q:Bool->Hp->Prop),Inv X pins σ H s->t σ H Q->wpAny (model X.prog X.w) X.A (forIn ifs true fun c r=>if r=true then do let ok <- isTrue c X.env (eval c X.env);pure (ForInStep.yield ok) else pure (ForInStep.yield r)) (TP X pins σ Q) X.xe s
def Pg{X:Cx}:RM X [] (fun _ H Q=>Q true H):=fun _ _ _ H _ I h=>wpAny_tests_nil ⟨H,I,h⟩
def Pf{X:Cx}{c:Expr}{t:TT}(h:PT X c t):RM X [c] t:=fun pins s σ H Q I q=>wpAny_tests_one (h pins s σ H Q I q)
noncomputable def tK(e tg:Expr)(p0:Pos)(ifs:List Expr)(d:Nat)(it acc:Value)(env:Env)(bc:Sem Unit):Sem Fin:=do
 standAt p0
 let r <- pyNext it
 match r with
 | none=>pure (Fin.done Flow.next)
 | some v=>do
  letOwnedTupleGo tg it v
  assign tg env v
  let ok <- forIn ifs true fun c r=>if r=true then do let ok <- isTrue c env (eval c env);pure (ForInStep.yield ok) else pure (ForInStep.yield r)
  if ok=true then do bc;again (.compLoop e d it acc env) else again (.compLoop e d it acc env)
noncomputable def VE(elt:Expr)(acc:Value)(env:Env):Sem Unit:=do
 let x <- eval elt env
 let _ <- call (.builtin "list.append") [acc,x]
 pure ()
section
variable{prog:Program}{w:World}{A:Around}{R:Result->Shared->Prop}{s:Shared}
def nJ{e elt tg:Expr}{gens:List Comprehension}{scope:Scope}{pos p0:Pos}{ifs:List Expr}{d:Nat}{it acc:Value}{env:Env}{bc:Sem Unit}(he:e=.ListComp elt gens scope pos)(htn:compTurn e d it acc env=tK e tg p0 ifs d it acc env bc)(I:Nat->Shared->Prop)
  (turn:∀ n s,I n s->wpAny (model prog w) A (pyNext it) (fun r s₁=>match r with
   | none=>R (.ok .next) s₁
   | some v=>wpAny (model prog w) A (letOwnedTupleGo tg it v) (fun _ s₁'=>wpAny (model prog w) A (assign tg env v) (fun _ s₂=>
     wpAny (model prog w) A (forIn ifs true fun c r=>if r=true then do let ok <- isTrue c env (eval c env);pure (ForInStep.yield ok) else pure (ForInStep.yield r)) (fun ok s₃=>
      if ok=true then wpAny (model prog w) A bc (fun _ s₅=>∃ m,m<n/\I m s₅) (fun _ _=>False) s₃
      else ∃ m,m<n/\I m s₃) (fun _ _=>False) s₂) (fun _ _=>False) s₁') (fun _ _=>False) s₁) (fun _ _=>False) s)
  (n:Nat) (h:I n s) :
  codeAny (model prog w) A (.compLoop e d it acc env) R s:=by
 refine codeAny_loop rfl I (fun n s hI=>?_) n h
 subst he
 show wpAny _ A ((compTurn (.ListComp elt gens scope pos) d it acc env).onRaise (fun x=>do noteFrame x env;theTreesLotGoes x)) _ _ s
 refine wpAny_noted ?_
 rw [htn]
 refine WK (ZC (WK (XE (turn n s hI) (fun r s₁ h₁=>?_) fun _ _ h'=>h'.elim)))
 cases r with
 | none=>exact Xa h₁
 | some v=>
  refine WK (XE h₁ (fun _ s₁' h₁'=>?_) fun _ _ h'=>h'.elim)
  refine WK (XE h₁' (fun _ s₂ h₂=>WK (XE h₂ (fun ok s₃ h₃=>?_) fun _ _ h'=>h'.elim)) fun _ _ h'=>h'.elim)
  cases ok with
  | false=>exact Xa ⟨rfl,h₃⟩
  | true=>exact WK (XE h₃ (fun _ s₅ h₅=>Xa ⟨rfl,h₅⟩) fun _ _ h'=>h'.elim)
end
abbrev TB:=St->Hp->(St->Hp->Prop)->Prop
def PB(X:Cx)(m:Sem Unit)(tb:TB):Prop:=
 ∀ (pins:List (Addr×Obj)) (s:Shared) (σ:St) (H:Hp) (Q:St->Hp->Prop),Inv X pins σ H s->tb σ H Q->wpAny (model X.prog X.w) X.A m (fun _ s'=>∃ σ' H',Inv X pins σ' H' s'/\Q σ' H') X.xe s
def tEm(te:TE)(p:Addr):TB:=fun σ H Q=>te σ H fun y H5=>∃ ys,H5 p=some (.lst ys)/\ys.length<sizeLine/\Q σ (upd H5 p (.lst (ys++[y])))
def Gf{X:Cx}{elt:Expr}{te:TE}{p:Addr}(he:PE X elt te):PB X (VE elt (.ref p) X.env) (tEm te p):=fun pins s σ H Q I h=>by
 refine WK (dE (he pins s σ H _ I h) fun xv s8 ⟨y,H8,J8,r8,q8⟩=>?_)
 obtain⟨ys,hy,hz,q9⟩:=q8
 refine WK (dE (wZ _ s8 σ H8 (.ref p) [y] (.ref p) [xv] (fun _ H9=>H9=upd H8 p (.lst (ys++[y]))) J8 rfl (.cons r8 .nil) ⟨_,ys,y,rfl,rfl,hy,hz,rfl⟩) fun _ s9 ⟨_,H9,J9,_,e9⟩=>?_)
 subst e9
 exact Xa ⟨_,_,J9,q9⟩
def Ky(J:It)(g:TG)(tt:TT)(tb:TB)(σ:St)(H:Hp)(Q:St->Hp->Prop):Prop:=∃ W:Nat->Nat->St->Hp->Prop,(∃ m,W 0 m σ H)/\∀ i m σ' H',W i m σ' H' ->
 (J.stop i H'/\Q σ' H')\/(J.go i H'/\∀ x H2,J.yld i H' x H2->g x σ' H2 fun σ2 H3=>tt σ2 H3 fun ok H4=>
  if ok=true then tb σ2 H4 fun σ3 H5=>∃ m',m'<m/\W (i+1) m' σ3 H5 else ∃ m',m'<m/\W (i+1) m' σ2 H4)
def JL{X:Cx}{e elt tg:Expr}{gens:List Comprehension}{scope:Scope}{pos p0:Pos}{ifs:List Expr}{d:Nat}{acc:Value}{bc:Sem Unit}{g:TG}{tt:TT}{tb:TB}{it:Addr}{fp:List Addr}{tn:Nat->Heap->Prop}{J:It}
  (hc:X.calm=true) (hx:∀ e s,X.xe e s->False) (hl:e=.ListComp elt gens scope pos) (htn:compTurn e d (.ref it) acc X.env=tK e tg p0 ifs d (.ref it) acc X.env bc) (hg:PG X tg g) (ht:RM X ifs tt) (hb:PB X bc tb) (T:FQ X.prog X.w X.K tg J fp it tn)
  {pins:List (Addr×Obj)} {s:Shared} {σ:St} {H:Hp} {Q:St->Hp->Prop} (I:Inv X pins σ H s) (st:tn 0 s.heap) (f2:∀ b∈fp,rM X pins H b) (h:Ky J g tt tb σ H Q) :
  codeAny (model X.prog X.w) X.A (.compLoop e d (.ref it) acc X.env) (fun r s'=>∃ σ' H',r=.ok .next/\Inv X pins σ' H' s'/\Q σ' H') s:=by
 obtain⟨W,⟨m0,w0⟩,turn⟩:=h
 have no:∀ e s,X.xe e s->(fun(_:Value) (_:Shared)=>False) e s:=hx
 have stat:∀ {H':Hp},(∀ b∈fp,H' b=none)->∀ b∈fp,rM X pins H' b:=fun hn b hb=>⟨hn b hb,(f2 b hb).2⟩
 refine nJ hl htn (fun n s'=>∃ i σ' H',Inv X pins σ' H' s'/\tn i s'.heap/\(∀ b∈fp,H' b=none)/\W i n σ' H') ?_ m0 ⟨0,_,_,I,st,fun b hb=>(f2 b hb).1,w0⟩
 rintro n s3 ⟨i,σ3,H3,J3,st3,fr3,w3⟩
 rcases turn i n σ3 H3 w3 with ⟨stop,qn⟩ | ⟨go,step⟩
 ·refine dE (T.done X rfl rfl rfl hc i pins s3 σ3 H3 _ J3 (stat fr3) st3 stop) fun r s4 ⟨hr,J4⟩=>?_
  subst hr
  exact⟨σ3,H3,rfl,J4,qn⟩
 ·refine dE (T.item X rfl rfl rfl hc i pins s3 σ3 H3 _ J3 (stat fr3) st3 go) fun r s4 ⟨u,hr,h4⟩=>?_
  subst hr
  refine dE h4 fun _ s5 ⟨x,H5,J5,r5,y5,st5,fr5⟩=>?_
  have J5':=J5.pinned (stat fr5) (T.obj _ _ st5)
  refine XE (hg _ s5 σ3 H5 x u _ J5' r5 (step x H5 y5)) (fun _ s6 ⟨σ6,H6,J6,q6⟩=>?_) no
  refine XE (ht _ s6 σ6 H6 _ J6 q6) (fun ok s7 ⟨H7,J7,q7⟩=>?_) no
  have again:∀ {s':Shared} {σ7:St} {H7:Hp},Inv X (pins++ua fp s5.heap) σ7 H7 s'->(∃ m',m'<n/\W (i+1) m' σ7 H7)->∃ m,m<n/\∃ i σ' H',Inv X pins σ' H' s'/\tn i s'.heap/\(∀ b∈fp,H' b=none)/\W i m σ' H':=fun {s' σ7 H7} J7 n7=>by
   obtain⟨m',hm,w7⟩:=n7
   refine⟨m',hm,i+1,σ7,H7,J7.unpinned,T.keep _ _ _ st5 fun b hb o e=>(J7.pin (b,o) (XA _ (XA _ (lV hb e)))).1,fun b hb=>?_,w7⟩
   obtain⟨o,e,d⟩:=T.obj _ _ st5 b hb
   exact(J7.pin (b,o) (XA _ (XA _ (lV hb e)))).2.1
  cases ok with
  | false=>
   rw [if_neg Bool.false_ne_true] at q7 ⊢
   exact again J7 q7
  | true=>
   rw [Xc rfl] at q7 ⊢
   exact XE (hb _ s7 σ6 H7 _ J7 q7) (fun _ s9 ⟨σ9,H9,J9,q9⟩=>again J9 q9) no
structure BlockOk(X:Cx)(N':List Str)(scope:Scope)(cap:List (Option Nat)):Prop where
 kind:scope.kind=.function
 nocell:∀ x∈scope.names,x.2≠.cell
 names:∀ x∈scope.names,x.2=.local->scope.names.lookup x.1=some .local
 free:∀ x∈scope.names,x.2=.free->(X.env.kindOf x.1=some .cell\/X.env.kindOf x.1=some .free)
 nd:N'.Nodup
 len:cap.length=N'.length
 cap:∀ (j i:Nat),cap[j]?=some (some i)->∃ y,N'[j]?=some y/\X.N[i]?=some y/\SI X.env.scope y/\(X.env.kindOf y=some .cell\/X.env.kindOf y=some .free)/\((relabel scope X.env).names.lookup y=some .cell\/(relabel scope X.env).names.lookup y=some .free)
noncomputable def σB(cap:List (Option Nat))(σ:St):St:=cap.map fun o=>o.bind fun i=>(σ[i]?).join
section
variable{X:Cx}{pins:List (Addr×Obj)}{σ:St}{H:Hp}{s:Shared}{N':List Str}{scope:Scope}{cap:List (Option Nat)}{C:Addr}{fp:List Addr}
def BlockOk.cells(B:BlockOk X N' scope cap)(ok:X.Ok):∀ x∈scope.names,x.2=.free->(X.env.cells.lookup x.1).isSome=true:=fun x hx hf=>by
 obtain⟨c,e⟩:=ok.has x.1 (B.free x hx hf)
 rw [e];rfl
def BlockOk.cl(B:BlockOk X N' scope cap)(ok:X.Ok):∀ y c,(nL X.env.cells scope.names []).lookup y=some c->X.env.cells.lookup y=some c:=
 rG _ _ _ (B.cells ok) fun y c e=>by simp at e
def Inv.notStk(I:Inv X pins σ H s){b:Addr}(h1:b≠X.env.locals)(h2:b ∉ X.fs):b ∉ Kc X.stack:=fun z=>(Xq.mp (I.stkSub b z)).elim h1 h2
def Inv.block{h4:Heap}{tk:Nat}{m0:Str->Option Value}(I:Inv X pins σ H s)(B:BlockOk X N' scope cap)(hfp:∀ b∈fp,rM X pins H b/\b<s.heap.objs.size)(hC:s.heap.objs.size<=C)
  (hk:∀ b o,s.heap.get? b=some o->h4.get? b=some o) (hn:h4.Ns C m0):Inv (oq X N' scope C s H fp) [] (σB cap σ) H { s with heap:=h4,toks:=tk }:=by
 have okX:=I.ok
 have hcl:=B.cl okX
 have cellC:∀ x c,(nL X.env.cells scope.names []).lookup x=some c->∃ v,s.heap.IsCell c v:=fun x c e=>I.cell x c (hcl x c e)
 have neC:∀ b o,s.heap.get? b=some o->b≠C:=fun b o e=>Xx (Xi (Xb e) hC)
 refine⟨⟨okX.mod,B.kind,okX.glob,okX.blt,hC,fun x y c e1 e2=>okX.inj x y c (hcl x c e1) (hcl y c e2),fun x hx=>?_,fun x c e _=>(by cases e),okX.hd,okX.frames,.inl rfl,fun b hb=>⟨fun z=>?_,fun x c e z=>?_⟩,fun b o e=>I.bs b o e,Xl okX.bsz I.sz,fun b o e hb=>?_,fun b hb z=>?_,I.stack,I.stkFree⟩,
  rfl,I.bare,Un.kept hk,⟨m0,hn,fun j y v e1 e2 e3=>?_⟩,fun x c e=>?_,I.hok.fresh hC,fun x c e=>I.freeC x c (hcl x c e),fun p hp=>absurd (show p∈([]:List (Addr×Obj)) from hp) (by simp),I.hok.kept hk,?_⟩
 ·have q:=lO (scope:=scope) (env:=X.env) (y:=x) (names:=scope.names) hx B.nocell
  exact Yp.mp (qD _ _ _ _ q)
 ·have z':b=C:=z
  exact absurd (hfp b hb).2 (by rw [z'];exact Nat.not_lt.mpr hC)
 ·exact(hfp b hb).1.2.2.2.2.1 x c (hcl x c e) z
 ·obtain⟨h0,h1,h2,h3,h4',h5⟩:=(hfp b hb).1
  rcases h3 with h3 | h3
  ·exact okX.noex b o e h3
  ·have:=(okX.bs b o e).1
   exact absurd (Xi (Xb this) h3) (Ys _)
 ·obtain⟨h0,h1,h2,h3,h4',h5⟩:=(hfp b hb).1
  exact I.notStk h1 h2 z
 ·have e1':N'[j]?=some y:=e1
  unfold σB at e2
  rw [XS] at e2
  cases ec:cap[j]? with
  | none=>rw [ec] at e2;cases e2
  | some o=>
   rw [ec] at e2
   cases o with
   | none=>cases e2
   | some i=>
    obtain⟨y',n1,n2,vis,kx,kb⟩:=B.cap j i ec
    rw [e1'] at n1;cases n1
    have e2':(σ[i]?).join=some v:=Xg e2
    have e2'':σ[i]?=some (some v):=by
     cases q:σ[i]? with
     | none=>rw [q] at e2';cases e2'
     | some z=>rw [q] at e2';exact congrArg some e2'
    obtain⟨m,hm,hl⟩:=I.loc
    obtain⟨u,ru,lk⟩:=hl i y v n2 e2'' vis
    refine⟨u,ru,.inr ⟨kb,?_⟩⟩
    rcases lk with ⟨k,_⟩ | ⟨k,c,ec',z⟩
    ·rcases kx with kx | kx
     ·rw [kx] at k;cases k
     ·rw [kx] at k;cases k
    ·have q:=lO (scope:=scope) (env:=X.env) (y:=y) (names:=scope.names) kb B.nocell
     obtain⟨c',hc'⟩:=Yp.mp (qD X.env.cells scope.names [] y q)
     have:=hcl y c' hc'
     rw [ec'] at this;cases this
     exact⟨c,hc',z.keeps hk⟩
 ·obtain⟨v,z⟩:=cellC x c e
  exact⟨v,z.keeps hk⟩
 ·show (σB cap σ).length=N'.length
  unfold σB
  rw [WM,B.len]
def Inv.unblock{Hf:Hp}{s':Shared}{σ':St}{pins':List (Addr×Obj)}(I:Inv X pins σ H s)(hfp:∀ b∈fp,rM X pins H b)(J:Inv (oq X N' scope C s H fp) pins' σ' Hf s'):Inv X pins σ Hf s':=
 I.call' (ch:=fp) J.os J.base J.hok J.bare fun b hb=>by
  obtain⟨h0,h1,h2,h3,h4,h5⟩:=hfp b hb
  exact⟨h3,h1,h4,h5⟩
end
def yp(wi:TI)(g:TG)(tt:TT)(tb:Addr->TB)(cap:List (Option Nat)):TE:=fun σ H Q=>wi σ H fun J H1=>∀ p,H1 p=none->Ky J g tt (tb p) (σB cap σ) (upd H1 p (.lst [])) fun _ H'=>Q (.ref p) H'
def FY(wi:TI)(g:TG)(tt:TT)(te:TE)(cap:List (Option Nat)):TE:=yp wi g tt (tEm te) cap
def Behind(X:Cx)(pins:List (Addr×Obj))(σ:St)(Q:VK)(acc:Value)(C:Addr)(r:Result)(s':Shared):Prop:=
 ∃ p Hf m,r=.ok .next/\acc=.ref p/\Inv X pins σ Hf s'/\Q (.ref p) Hf/\s'.heap.Ns C m/\Hf C=none/\C≠X.env.locals/\X.s₀.heap.objs.size<=C/\(∀ x c,X.env.cells.lookup x=some c->c≠C)/\(∀ q∈X.pn++pins,q.1≠C)
def vz{X:Cx}{elt iter tg:Expr}{ifs:List Expr}{rest:List Comprehension}{scope:Scope}{pos:Pos}{N':List Str}{cap:List (Option Nat)}{wi:TI}{g:TG}{tt:TT}{tb:Addr->TB}{bc:Value->Env->Sem Unit}
  (hc:X.calm=true) (B:BlockOk X N' scope cap) (hi:PI X tg iter wi) (hg:∀ C s H fp,PG (oq X N' scope C s H fp) tg g) (ht:∀ C s H fp,RM (oq X N' scope C s H fp) ifs tt)
  (htn:∀ it acc env,compTurn (.ListComp elt (⟨tg,iter,ifs,0⟩::rest) scope pos) 0 it acc env=tK (.ListComp elt (⟨tg,iter,ifs,0⟩::rest) scope pos) tg iter.pos ifs 0 it acc env (bc acc env))
  (hb:∀ C s H fp p,PB (oq X N' scope C s H fp) (bc (.ref p) (oq X N' scope C s H fp).env) (tb p))
  {pins:List (Addr×Obj)} {s:Shared} {σ:St} {H:Hp} {Q:VK} (I:Inv X pins σ H s) (h:yp wi g tt tb cap σ H Q) {E:Value->Shared->Prop} (hE:∀ e s,X.xe e s->E e s) :
  wpAny (model X.prog X.w) X.A (eval iter X.env) (fun x s₁=>wpAny (model X.prog X.w) X.A (pyIter x) (fun it s₂=>wpAny (model X.prog X.w) X.A (newList []) (fun acc s₃=>
   wpAny (model X.prog X.w) X.A (newFunctionEnv scope X.env.globals (nL X.env.cells scope.names []) [] X.env.qual none .none (some X.env)) (fun cenv s₄=>
    codeAny (model X.prog X.w) X.A (.compStart (.ListComp elt (⟨tg,iter,ifs,0⟩::rest) scope pos) 0 it acc { cenv with scope:=relabel scope X.env }) (Behind X pins σ Q acc cenv.locals) s₄) E s₃) E s₂) E s₁) E s:=by
 refine XE (hi pins s σ H _ I h) (fun v s1 h1=>XE h1 (fun itv s2 h2=>?_) hE) hE
 obtain⟨it,fp,tn,J,H1,e,I2,T,st2,f2,hW⟩:=h2
 subst e
 refine XB (wpAny_newFunctionEnv B.nocell (by intro y hy;simp at hy) (fun h₁ hns₁ hsb₁=>?_) B.kind)
 dsimp only at hns₁ hsb₁ ⊢
 have hp1:H1 s2.heap.objs.size=none:=I2.hok.fresh (WY _)
 have hL:=hW s2.heap.objs.size hp1
 have I3:Inv X pins σ (upd H1 s2.heap.objs.size (.lst [])) { s2 with heap:=s2.heap.push { cls:=.type "list",dict:=none,data:=.seq ([]:List Value).toArray },toks:=s2.toks }:=
  I2.laid (fun b o e=>WQ _ e) (WY _) ⟨Yy _,[],_,.nil,Xe _ rfl⟩
 generalize hH2:s2.heap.push { cls:=.type "list",dict:=none,data:=.seq ([]:List Value).toArray } = H2 at hns₁ hsb₁ I3 ⊢
 have hC:H2.objs.size=s2.heap.objs.size+1:=by rw [<- hH2,Yd]
 have ltfp:∀ b∈fp,b<s2.heap.objs.size:=fun b hb=>by
  obtain⟨o,e,_⟩:=T.obj _ _ st2 b hb
  exact Xb e
 have hf3:∀ b∈fp,rM X pins (upd H1 s2.heap.objs.size (.lst [])) b/\b<H2.objs.size:=fun b hb=>by
  obtain⟨a0,a⟩:=f2 b hb
  refine⟨⟨?_,a⟩,by rw [hC];exact Nat.lt_succ_of_lt (ltfp b hb)⟩
  rw [bn (Xx (ltfp b hb))];exact a0
 have up:∀ b o,H2.get? b=some o->h₁.get? b=some o:=fun b o e=>hsb₁.extBut b o (Xx (Xb e)) (WQ _ e)
 have I4:=I3.block (C:=H2.objs.size) (fp:=fp) (h4:=h₁) (tk:=s2.toks+([]:List (Str×Value)).length) B hf3 (WY _) up hns₁
 have st4:tn 0 h₁:=T.keep _ _ _ st2 fun b hb o e=>up b o (by rw [<- hH2];exact WQ _ e)
 have loop:codeAny (model X.prog X.w) X.A (.compLoop (.ListComp elt (⟨tg,iter,ifs,0⟩::rest) scope pos) 0 (.ref it) (.ref s2.heap.objs.size) (compEnvC scope (nL X.env.cells scope.names []) H2.objs.size X.env))
    (Behind X pins σ Q (.ref s2.heap.objs.size) H2.objs.size) { s2 with heap:=h₁,toks:=s2.toks+([]:List (Str×Value)).length }:=by
  refine Zg (JL (X:=oq X N' scope H2.objs.size { s2 with heap:=H2,toks:=s2.toks } (upd H1 s2.heap.objs.size (.lst [])) fp) hc (fun _ _ z=>z) rfl (htn _ _ _) (hg _ _ _ _) (ht _ _ _ _) (hb _ _ _ _ _) T I4 st4 (fun b hb=>?_) hL) fun r s4 ⟨σ4,H4,hr,J4,qn⟩=>?_
  ·obtain⟨h0,h1,h2,h3,h4',h5⟩:=(hf3 b hb).1
   exact⟨h0,Xx (hf3 b hb).2,I3.notStk h1 h2,.inl hb,fun x c e=>h4' x c (B.cl I3.ok x c e),fun p hp=>absurd (show p∈([]:List (Addr×Obj)) from hp) (by simp)⟩
  ·obtain⟨m,hm,_⟩:=J4.loc
   have IX:=I3.unblock (fun b hb=>(hf3 b hb).1) J4
   refine⟨_,H4,m,hr,rfl,IX,qn,hm,J4.free,?_,?_,fun x c e z=>?_,fun q hq z=>?_⟩
   ·exact Ne.symm (Xx I3.lt)
   ·exact I3.sz
   ·obtain⟨v,q⟩:=I3.cell x c e
    exact absurd q.lt (by rw [z];exact Ys _)
   ·exact absurd (Xb (I3.pin q hq).1) (by rw [z];exact Ys _)
 exact codeAny_compStart_list loop (T.self _ 0 _ _ _ st4 loop)
def Lx{X:Cx}{elt iter tg:Expr}{ifs:List Expr}{rest:List Comprehension}{scope:Scope}{pos:Pos}{N':List Str}{cap:List (Option Nat)}{wi:TI}{g:TG}{tt:TT}{tb:Addr->TB}{bc:Value->Env->Sem Unit}
  (hc:X.calm=true) (B:BlockOk X N' scope cap) (hi:PI X tg iter wi) (hg:∀ C s H fp,PG (oq X N' scope C s H fp) tg g) (ht:∀ C s H fp,RM (oq X N' scope C s H fp) ifs tt) (htn:∀ it acc env,compTurn (.ListComp elt (⟨tg,iter,ifs,0⟩::rest) scope pos) 0 it acc env=tK (.ListComp elt (⟨tg,iter,ifs,0⟩::rest) scope pos) tg iter.pos ifs 0 it acc env (bc acc env))
  (hb:∀ C s H fp p,PB (oq X N' scope C s H fp) (bc (.ref p) (oq X N' scope C s H fp).env) (tb p))
  (hs:∀ x,foldedSetIterable iter X.env x=pure x:=by intro _;rfl):PE X (.ListComp elt (⟨tg,iter,ifs,0⟩::rest) scope pos) (yp wi g tt tb cap):=by
 intro pins s σ H Q I h
 rw [eval_ListComp]
 refine aah (use:=none) rfl hs (oZ (B.cells I.ok)) B.kind B.names ?_
 refine XE (vz hc B hi hg ht htn hb I h fun _ _ x=>x) (fun x s1 h1=>XE h1 (fun it s2 h2=>XE h2 (fun acc s3 h3=>XE h3 (fun cenv s4 h4=>Zg h4 fun r s' hr=>?_) fun _ _ x=>x) fun _ _ x=>x) fun _ _ x=>x) fun _ _ x=>x
 obtain⟨p,Hf,m,rfl,rfl,J,q,hn,c1,c2,c3,c4,c5⟩:=hr
 exact⟨m,hn,fun h' sb=>⟨_,Hf,J.turned (t':=s'.toks) (fun b o hb e=>(sb.2 b hb).trans e) c1 c2 (.inr c3) c4 c5,(show RelV (.ref p) (.ref p) from rfl),q⟩⟩
def Bf{X:Cx}{elt iter tg:Expr}{ifs:List Expr}{rest:List Comprehension}{scope:Scope}{pos spos py:Pos}{N':List Str}{cap:List (Option Nat)}{wi:TI}{g:TG}{tt:TT}{tb:Addr->TB}{bc:Value->Env->Sem Unit}{y:Str}{i:Nat}
  (hN:X.N.Nodup) (hy:X.N[i]?=some y) (hx:Ke X.env.scope y)
  (hc:X.calm=true) (B:BlockOk X N' scope cap) (hi:PI X tg iter wi) (hg:∀ C s H fp,PG (oq X N' scope C s H fp) tg g) (ht:∀ C s H fp,RM (oq X N' scope C s H fp) ifs tt) (htn:∀ it acc env,compTurn (.ListComp elt (⟨tg,iter,ifs,0⟩::rest) scope pos) 0 it acc env=tK (.ListComp elt (⟨tg,iter,ifs,0⟩::rest) scope pos) tg iter.pos ifs 0 it acc env (bc acc env))
  (hb:∀ C s H fp p,PB (oq X N' scope C s H fp) (bc (.ref p) (oq X N' scope C s H fp).env) (tb p))
  (hsw:swapsWith (.ListComp elt (⟨tg,iter,ifs,0⟩::rest) scope pos) (some (.Name y py)) spos.line X.env=pure true:=by rfl)
  (hs:∀ x,foldedSetIterable iter X.env x=pure x:=by intro _;rfl) (hf:X.fn y=true\/X.env.scope.names.lookup y=some .local:=by first | exact .inl rfl | exact .inr rfl | assumption) :
  PS X (.Assign [.Name y py] (.ListComp elt (⟨tg,iter,ifs,0⟩::rest) scope pos) spos) (KA (yp wi g tt tb cap) (GN i)):=by
 intro pins s σ H D I h
 rw [exec_Assign_Name_used _ _ _ _ hsw]
 refine WK (ZC (WK ?_))
 show wpAny _ _ (do let _ <- comprehension (.ListComp elt (⟨tg,iter,ifs,0⟩::rest) scope pos) scope X.env _ (newList []) false (eval iter X.env) (some (assign (.Name y py) X.env))) _ _ s
 refine WK (XE (aah (use:=some (assign (.Name y py) X.env)) (Q:=fun _ s'=>SP X pins D .next s') rfl hs (oZ (B.cells I.ok)) B.kind B.names
  (XE (vz hc B hi hg ht htn hb I h fun _ _ x=>x) (fun x s1 h1=>XE h1 (fun it s2 h2=>XE h2 (fun acc s3 h3=>XE h3 (fun cenv s4 h4=>Zg h4 fun r s' hr=>?_) fun _ _ x=>x) fun _ _ x=>x) fun _ _ x=>x) fun _ _ x=>x))
  (fun _ s' hq=>Xa (Xa hq)) fun _ _ e=>e)
 obtain⟨p,Hf,m,rfl,rfl,J,q,hn,c1,c2,c3,c4,c5⟩:=hr
 refine wpAny_assign_Name (wN J hN hy hx (v:=.ref p) rfl (fun s2 J2 ⟨a,sb,ha⟩=>?_) hf)
 refine⟨m,hn.sameBut sb ?_,fun h' sb2=>⟨_,Hf,J2.turned (t':=s2.toks) (fun b o hb e=>(sb2.2 b hb).trans e) c1 c2 (.inr c3) c4 c5,q⟩⟩
 rcases ha with rfl | ha
 ·exact c2
 ·exact Ne.symm (c4 _ _ ha)
def Ge{X:Cx}{elt iter tg:Expr}{ifs:List Expr}{scope:Scope}{pos:Pos}{N':List Str}{cap:List (Option Nat)}{wi:TI}{g:TG}{tt:TT}{te:TE}
  (hc:X.calm=true) (B:BlockOk X N' scope cap) (hi:PI X tg iter wi) (hg:∀ C s H fp,PG (oq X N' scope C s H fp) tg g) (ht:∀ C s H fp,RM (oq X N' scope C s H fp) ifs tt) (he:∀ C s H fp,PE (oq X N' scope C s H fp) elt te)
  (hs:∀ x,foldedSetIterable iter X.env x=pure x:=by intro _;rfl):PE X (.ListComp elt [⟨tg,iter,ifs,0⟩] scope pos) (FY wi g tt te cap):=
 Lx hc B hi hg ht (fun _ _ _=>compTurn_list ..) (fun C s H fp p=>Gf (he C s H fp)) hs
def tV{X:Cx}{elt iter tg:Expr}{ifs:List Expr}{scope:Scope}{pos spos py:Pos}{N':List Str}{cap:List (Option Nat)}{wi:TI}{g:TG}{tt:TT}{te:TE}{y:Str}{i:Nat}
  (hN:X.N.Nodup) (hy:X.N[i]?=some y) (hx:Ke X.env.scope y)
  (hc:X.calm=true) (B:BlockOk X N' scope cap) (hi:PI X tg iter wi) (hg:∀ C s H fp,PG (oq X N' scope C s H fp) tg g) (ht:∀ C s H fp,RM (oq X N' scope C s H fp) ifs tt) (he:∀ C s H fp,PE (oq X N' scope C s H fp) elt te)
  (hsw:swapsWith (.ListComp elt [⟨tg,iter,ifs,0⟩] scope pos) (some (.Name y py)) spos.line X.env=pure true:=by rfl)
  (hs:∀ x,foldedSetIterable iter X.env x=pure x:=by intro _;rfl) (hf:X.fn y=true\/X.env.scope.names.lookup y=some .local:=by first | exact .inl rfl | exact .inr rfl | assumption) :
  PS X (.Assign [.Name y py] (.ListComp elt [⟨tg,iter,ifs,0⟩] scope pos) spos) (KA (FY wi g tt te cap) (GN i)):=
 Bf hN hy hx hc B hi hg ht (fun _ _ _=>compTurn_list ..) (fun C s H fp p=>Gf (he C s H fp)) hsw hs hf
end L2
namespace M
open L2
inductive D where
 | non
 | bl (b:Bool)
 | int (i:Int)
 | str (x:Str)
 | tup (xs:List D)
 | lst (xs:List D)
 | rol (xs:List D)
 | dct (ks:List bG) (vs:List D)
 | ref (r:Nat)
inductive Cell where
 | lst (xs:List D)
 | dct (ks:List bG) (vs:List D)
abbrev ac:=List Cell
structure Fp where
 cs:List Addr
 fb:List Addr
def Fp.no(μ:Fp)(a:Addr):Prop:=a ∉ μ.cs/\a ∉ μ.fb
abbrev bp:=List (Option D)
def Gk{α:Type}{N:List α}(hN:N.Nodup){i j:Nat}{x:α}(a:N[i]?=some x)(b:N[j]?=some x):i=j:=by
 obtain⟨h1,e1⟩:=WJ.mp a
 obtain⟨h2,e2⟩:=WJ.mp b
 exact(List.getElem_inj hN).mp (e1.trans e2.symm)
def KList(K:W.Frag)(a:Addr)(xs:List V):Prop:=∃ (o:Obj) (its:Array Value) (n:Nat),K.lookup a=some o/\o.cls=.type "list"/\o.dict=none/\o.data=.seq its n/\its.size<=sizeLine/\Vals xs its.toList
def KTup(K:W.Frag)(a:Addr)(xs:List V):Prop:=∃ (o:Obj) (its:Array Value) (n:Nat),K.lookup a=some o/\o.cls=.type "tuple"/\o.dict=none/\o.data=.seq its n/\its.size<=sizeLine/\Vals xs its.toList
mutual
inductive Rep(K:W.Frag)(μ:Fp)(H:Hp):V->D->Prop
 | non:Rep K μ H .non .non
 | bl (b:Bool):Rep K μ H (.bl b) (.bl b)
 | int (i:Int):Rep K μ H (.int i) (.int i)
 | str (x:Str):Rep K μ H (.str x) (.str x)
 | tup {a:Addr} {vs:List V} {ds:List D} (h:H a=some (.tup vs)) (n:μ.no a) (r:Reps K μ H vs ds):Rep K μ H (.ref a) (.tup ds)
 | ktup {a:Addr} {vs:List V} {ds:List D} (h:KTup K a vs) (r:Reps K μ H vs ds):Rep K μ H (.ref a) (.tup ds)
 | lst {a:Addr} {vs:List V} {ds:List D} (h:H a=some (.lst vs)) (n:μ.no a) (r:Reps K μ H vs ds):Rep K μ H (.ref a) (.lst ds)
 | rol {a:Addr} {vs:List V} {ds:List D} (h:Rd H a (.lst vs)) (n:μ.no a) (r:Reps K μ H vs ds):Rep K μ H (.ref a) (.rol ds)
 | krol {a:Addr} {vs:List V} {ds:List D} (h:KList K a vs) (r:Reps K μ H vs ds):Rep K μ H (.ref a) (.rol ds)
 | dct {a:Addr} {kvs:List (bG×V)} {ds:List D} (h:H a=some (.dK kvs)) (n:μ.no a) (r:Reps K μ H (kvs.map (·.2)) ds):Rep K μ H (.ref a) (.dct (kvs.map (·.1)) ds)
 | ref {a:Addr} {r:Nat} (h:μ.cs[r]?=some a):Rep K μ H (.ref a) (.ref r)
inductive Reps(K:W.Frag)(μ:Fp)(H:Hp):List V->List D->Prop
 | nil:Reps K μ H [] []
 | cons {v:V} {d:D} {vs:List V} {ds:List D} (h:Rep K μ H v d) (t:Reps K μ H vs ds):Reps K μ H (v::vs) (d::ds)
end
structure Ext(μ:Fp)(H:Hp)(μ':Fp)(H':Hp):Prop where
 fb:μ'.fb = μ.fb
 pre:∃ l,μ'.cs = μ.cs++l/\∀ a∈l,H a=none
 keep:∀ a o,a ∉ μ.cs->H a=some o->H' a=some o
 dom:∀ a ∈ μ'.cs,H' a≠none
section
variable{K:W.Frag}{μ μ' μ'':Fp}{H H' H'':Hp}
def Ext.stays(e:Ext μ H μ' H'){a:Addr}{o:HO}(h:H a=some o)(n:μ.no a):H' a=some o/\μ'.no a:=by
 refine⟨e.keep a o n.1 h,fun z=>?_,by rw [e.fb];exact n.2⟩
 obtain⟨l,q,hl⟩:=e.pre
 rw [q] at z
 rcases Xj.mp z with z | z
 ·exact n.1 z
 ·rw [hl a z] at h;cases h
def Ext.keeps(e:Ext μ H μ' H'){a:Addr}{o:HO}(h:H a=some o)(n:a ∉ μ.cs):H' a=some o/\a ∉ μ'.cs:=by
 refine⟨e.keep a o n h,fun z=>?_⟩
 obtain⟨l,q,hl⟩:=e.pre
 rw [q] at z
 rcases Xj.mp z with z | z
 ·exact n z
 ·rw [hl a z] at h;cases h
def Ext.trans(e:Ext μ H μ' H')(f:Ext μ' H' μ'' H''):Ext μ H μ'' H'':=by
 obtain⟨l,q,hl⟩:=e.pre
 obtain⟨l',q',hl'⟩:=f.pre
 refine⟨f.fb.trans e.fb,⟨l++l',by rw [q',q,Xm],fun a ha=>?_⟩,fun a o n h=>?_,f.dom⟩
 ·rcases Xj.mp ha with ha | ha
  ·exact hl a ha
  ·have h1:=hl' a ha
   cases q2:H a with
   | none=>rfl
   | some o=>
    by_cases hm:a ∈ μ.cs
    ·exact absurd h1 (e.dom a (by rw [q];exact Xu _ hm))
    ·rw [e.keep a o hm q2] at h1;cases h1
 ·have:=e.keeps h n
  exact f.keep a o this.2 this.1
def Ext.refl(h:∀ a ∈ μ.cs,H a≠none):Ext μ H μ H:=⟨rfl,⟨[],by simp,fun _ z=>by simp at z⟩,fun _ _ _ h=>h,h⟩
mutual
def Rep.imp(hk:∀ {a:Addr} {o:HO},H a=some o->μ.no a->H' a=some o/\μ'.no a)(hr:∀ {r:Nat} {a:Addr},μ.cs[r]?=some a->μ'.cs[r]?=some a):∀ {v:V} {d:D},Rep K μ H v d->Rep K μ' H' v d
 | _,_,.non=>.non
 | _,_,.bl b=>.bl b
 | _,_,.int i=>.int i
 | _,_,.str x=>.str x
 | _,_,.tup h n r=>.tup (hk h n).1 (hk h n).2 (Reps.imp hk hr r)
 | _,_,.ktup h r=>.ktup h (Reps.imp hk hr r)
 | _,_,.lst h n r=>.lst (hk h n).1 (hk h n).2 (Reps.imp hk hr r)
 | _,_,.rol (.inl h) n r=>.rol (.inl (hk h n).1) (hk h n).2 (Reps.imp hk hr r)
 | _,_,.rol (.inr ⟨o,h⟩) n r=>.rol (.inr ⟨o,(hk h n).1⟩) (hk h n).2 (Reps.imp hk hr r)
 | _,_,.krol h r=>.krol h (Reps.imp hk hr r)
 | _,_,.dct h n r=>.dct (hk h n).1 (hk h n).2 (Reps.imp hk hr r)
 | _,_,.ref h=>.ref (hr h)
def Reps.imp(hk:∀ {a:Addr} {o:HO},H a=some o->μ.no a->H' a=some o/\μ'.no a)(hr:∀ {r:Nat} {a:Addr},μ.cs[r]?=some a->μ'.cs[r]?=some a):∀ {vs:List V} {ds:List D},Reps K μ H vs ds->Reps K μ' H' vs ds
 | _,_,.nil=>.nil
 | _,_,.cons h t=>.cons (Rep.imp hk hr h) (Reps.imp hk hr t)
end
def Av{l m:List Addr}{k:List Addr}(q:k=l++m){r:Nat}{a:Addr}(h:l[r]?=some a):k[r]?=some a:=by
 rw [q,WZ (WJ.mp h).1];exact h
def Ext.ix(e:Ext μ H μ' H'){r:Nat}{a:Addr}(h:μ.cs[r]?=some a):μ'.cs[r]?=some a:=by
 obtain⟨l,q,_⟩:=e.pre
 exact Av q h
def Rep.mono(e:Ext μ H μ' H'){v:V}{d:D}(r:Rep K μ H v d):Rep K μ' H' v d:=r.imp e.stays e.ix
def Reps.mono(e:Ext μ H μ' H'){vs:List V}{ds:List D}(r:Reps K μ H vs ds):Reps K μ' H' vs ds:=r.imp e.stays e.ix
def Reps.length:∀ {vs:List V} {ds:List D},Reps K μ H vs ds->vs.length=ds.length
 | _,_,.nil=>rfl
 | _,_,.cons _ t=>by simp [Reps.length t]
def Reps.get:∀ {vs:List V} {ds:List D} {i:Nat} {d:D},Reps K μ H vs ds->ds[i]?=some d->∃ v,vs[i]?=some v/\Rep K μ H v d
 | _,_,_,_,.nil,e=>by simp at e
 | _,_,0,_,.cons h _,e=>by simp at e;subst e;exact⟨_,rfl,h⟩
 | _,_,i+1,d,.cons _ t,e=>by
  obtain⟨u,h1,h2⟩:=Reps.get (i:=i) (d:=d) t (by simpa using e)
  exact⟨u,by simpa using h1,h2⟩
def Reps.append:∀ {vs ws:List V} {ds es:List D},Reps K μ H vs ds->Reps K μ H ws es->Reps K μ H (vs++ws) (ds++es)
 | _,_,_,_,.nil,s=>s
 | _,_,_,_,.cons r t,s=>.cons r (Reps.append t s)
def Reps.take:∀ {vs:List V} {ds:List D} (n:Nat),Reps K μ H vs ds->Reps K μ H (vs.take n) (ds.take n)
 | _,_,0,_=>.nil
 | _,_,_+1,.nil=>.nil
 | _,_,n+1,.cons r t=>.cons r (Reps.take n t)
def Reps.drop:∀ {vs:List V} {ds:List D} (n:Nat),Reps K μ H vs ds->Reps K μ H (vs.drop n) (ds.drop n)
 | _,_,0,r=>r
 | _,_,_+1,.nil=>.nil
 | _,_,n+1,.cons _ t=>Reps.drop n t
def Reps.set{x:V}{d:D}(r:Rep K μ H x d):∀ {vs:List V} {ds:List D} (i:Nat),Reps K μ H vs ds->Reps K μ H (vs.set i x) (ds.set i d)
 | _,_,_,.nil=>.nil
 | _,_,0,.cons _ t=>.cons r t
 | _,_,i+1,.cons q t=>.cons q (Reps.set r i t)
def Reps.flat{xs:List V}:∀ (k:Nat) {ds:List D},Reps K μ H xs ds->Reps K μ H (List.replicate k xs).flatten (List.replicate k ds).flatten
 | 0,_,_=>.nil
 | k+1,_,r=>by rw [Xo,Xo,XT,XT];exact r.append (Reps.flat k r)
def CellOk(K:W.Frag)(μ:Fp)(H:Hp)(a:Addr):Cell->Prop
 | .lst ds=>∃ vs,H a=some (.lst vs)/\Reps K μ H vs ds
 | .dct ks ds=>∃ kvs,H a=some (.dK kvs)/\ks=kvs.map (·.1)/\Reps K μ H (kvs.map (·.2)) ds
structure SOk(K:W.Frag)(μ:Fp)(S:ac)(H:Hp):Prop where
 nd:μ.cs.Nodup
 len:μ.cs.length=S.length
 cell:∀ (r:Nat) (a:Addr) (c:Cell),μ.cs[r]?=some a->S[r]?=some c->CellOk K μ H a c
 fdom:∀ a ∈ μ.fb,H a≠none
 disj:∀ a ∈ μ.fb,a ∉ μ.cs
def CellOk.ne_none{a:Addr}{c:Cell}(h:CellOk K μ H a c):H a≠none:=by
 cases c with
 | lst ds=>obtain⟨vs,h,_⟩:=h;rw [h];simp
 | dct ks ds=>obtain⟨vs,h,_⟩:=h;rw [h];simp
def CellOk.mono(e:Ext μ H μ' H'){a:Addr}{c:Cell}(he:H' a=H a)(h:CellOk K μ H a c):CellOk K μ' H' a c:=by
 cases c with
 | lst ds=>obtain⟨vs,h,r⟩:=h;exact⟨vs,he.trans h,r.mono e⟩
 | dct ks ds=>obtain⟨vs,h,q,r⟩:=h;exact⟨vs,he.trans h,q,r.mono e⟩
def SOk.dom{S:ac}(s:SOk K μ S H):∀ a ∈ μ.cs,H a≠none:=fun a ha=>by
 obtain⟨r,hr⟩:=YX.mp ha
 have hl:=(WJ.mp hr).1
 rw [s.len] at hl
 exact(s.cell r a S[r] hr (by simp [hl])).ne_none
def SOk.ext{S:ac}(s:SOk K μ S H):Ext μ H μ H:=.refl s.dom
def SOk.notMem{S:ac}(s:SOk K μ S H){p:Addr}(h:H p=none):μ.no p:=⟨fun z=>s.dom p z h,fun z=>s.fdom p z h⟩
def SOk.laid{S:ac}(s:SOk K μ S H){p:Addr}{o:HO}(h:H p=none):Ext μ H μ (upd H p o)/\SOk K μ S (upd H p o):=by
 have e:Ext μ H μ (upd H p o):=⟨rfl,⟨[],by simp,fun _ z=>by simp at z⟩,fun a o' _ q=>by rw [bn (cx q h)];exact q,fun a ha=>by
  by_cases z:a=p
  ·subst z;rw [bx];simp
  ·rw [bn z];exact s.dom a ha⟩
 refine⟨e,s.nd,s.len,fun r a c h1 h2=>(s.cell r a c h1 h2).mono e ?_,fun a ha=>?_,s.disj⟩
 case refine_2=>
  by_cases z:a=p
  ·subst z;rw [bx];simp
  ·rw [bn z];exact s.fdom a ha
 have:=(s.cell r a c h1 h2).ne_none
 refine bn fun z=>?_
 rw [z] at this
 exact this h
def SOk.alloc{S:ac}(s:SOk K μ S H){p:Addr}{vs:List V}{ds:List D}(h:H p=none)(r:Reps K μ H vs ds):Ext μ H ⟨μ.cs++[p],μ.fb⟩ (upd H p (.lst vs))/\SOk K ⟨μ.cs++[p],μ.fb⟩ (S++[.lst ds]) (upd H p (.lst vs)):=by
 have hp:=s.notMem h
 have e:Ext μ H ⟨μ.cs++[p],μ.fb⟩ (upd H p (.lst vs)):=⟨rfl,⟨[p],rfl,fun a z=>by rw [Xp.mp z];exact h⟩,fun a o' _ q=>by rw [bn (cx q h)];exact q,fun a ha=>by
  by_cases z:a=p
  ·subst z;rw [bx];simp
  ·rw [bn z]
   rcases Xj.mp ha with q | q
   ·exact s.dom a q
   ·exact absurd (Xp.mp q) z⟩
 refine⟨e,?_,by simp [s.len],fun i a c h1 h2=>?_,fun a ha=>?_,fun a ha z=>?_⟩
 case refine_3=>
  by_cases z:a=p
  ·subst z;rw [bx];simp
  ·rw [bn z];exact s.fdom a ha
 case refine_4=>
  rcases Xj.mp z with q | q
  ·exact s.disj a ha q
  ·rw [Xp.mp q] at ha;exact hp.2 ha
 ·show (μ.cs++[p]).Nodup
  rw [YC]
  exact⟨s.nd,by simp,fun a ha b hb=>by rw [Xp.mp hb];rintro rfl;exact hp.1 ha⟩
 ·have h1:(μ.cs++[p])[i]?=some a:=h1
  by_cases hi:i < μ.cs.length
  ·rw [WZ hi] at h1
   rw [WZ (by rw [<- s.len];exact hi)] at h2
   have q:=s.cell i a c h1 h2
   refine q.mono e (bn fun z=>?_)
   exact hp.1 (z ▸ Xh h1)
  ·have hl:i = μ.cs.length:=by
    have:=(WJ.mp h1).1
    simp at this;omega
   subst hl
   rw [XX (WY _)] at h1
   rw [s.len,XX (WY _)] at h2
   simp at h1 h2
   subst h1 h2
   exact⟨vs,bx,r.mono e⟩
def SOk.write{S:ac}(s:SOk K μ S H){i:Nat}{a:Addr}{vs vs':List V}{ds:List D}(hi:μ.cs[i]?=some a)(h:H a=some (.lst vs))(r:Reps K μ H vs' ds):Ext μ H μ (upd H a (.lst vs'))/\SOk K μ (S.set i (.lst ds)) (upd H a (.lst vs')):=by
 have ha:=Xh hi
 have e:Ext μ H μ (upd H a (.lst vs')):=⟨rfl,⟨[],by simp,fun _ z=>by simp at z⟩,fun b o' n q=>by rw [bn (by rintro rfl;exact n ha)];exact q,fun b hb=>by
  by_cases z:b=a
  ·subst z;rw [bx];simp
  ·rw [bn z];exact s.dom b hb⟩
 refine⟨e,s.nd,by simp [s.len],fun j b c h1 h2=>?_,fun b hb=>?_,s.disj⟩
 case refine_2=>
  by_cases z:b=a
  ·subst z;rw [bx];simp
  ·rw [bn z];exact s.fdom b hb
 by_cases hj:j=i
 ·subst hj
  rw [hi] at h1;cases h1
  have hl:j<S.length:=by rw [<- s.len];exact(WJ.mp hi).1
  rw [Xn hl] at h2
  cases h2
  exact⟨vs',bx,r.mono e⟩
 ·rw [Xf (Ne.symm hj)] at h2
  refine(s.cell j b c h1 h2).mono e (bn fun z=>hj ?_)
  subst z
  exact Gk s.nd h1 hi
inductive EOk(K:W.Frag)(μ:Fp)(H:Hp):L2.St->bp->Prop
 | nil:EOk K μ H [] []
 | no {x:Option V} {σ:L2.St} {env:bp} (t:EOk K μ H σ env):EOk K μ H (x::σ) (none::env)
 | yes {v:V} {d:D} {σ:L2.St} {env:bp} (h:Rep K μ H v d) (t:EOk K μ H σ env):EOk K μ H (some v::σ) (some d::env)
def EOk.mono(e:Ext μ H μ' H'):∀ {σ:L2.St} {env:bp},EOk K μ H σ env->EOk K μ' H' σ env
 | _,_,.nil=>.nil
 | _,_,.no t=>.no (EOk.mono e t)
 | _,_,.yes h t=>.yes (h.mono e) (EOk.mono e t)
def EOk.get:∀ {σ:L2.St} {env:bp} {i:Nat} {d:D},EOk K μ H σ env->env[i]?=some (some d)->∃ v,σ[i]?=some (some v)/\Rep K μ H v d
 | _,_,_,_,.nil,h=>by simp at h
 | _,_,0,_,.no _,h=>by simp at h
 | _,_,0,_,.yes h _,q=>by simp at q;subst q;exact⟨_,rfl,h⟩
 | _,_,i+1,d,.no t,h=>by
  obtain⟨v,h1,h2⟩:=EOk.get (i:=i) (d:=d) t (by simpa using h)
  exact⟨v,by simpa using h1,h2⟩
 | _,_,i+1,d,.yes _ t,h=>by
  obtain⟨v,h1,h2⟩:=EOk.get (i:=i) (d:=d) t (by simpa using h)
  exact⟨v,by simpa using h1,h2⟩
def EOk.set{v:V}{d:D}(r:Rep K μ H v d):∀ {σ:L2.St} {env:bp} (i:Nat),EOk K μ H σ env->EOk K μ H (σ.set i (Option.some v)) (env.set i (Option.some d))
 | _,_,_,.nil=>.nil
 | _,_,0,.no t=>.yes r t
 | _,_,0,.yes _ t=>.yes r t
 | _,_,i+1,.no t=>.no (EOk.set r i t)
 | _,_,i+1,.yes h t=>.yes h (EOk.set r i t)
def EOk.start{N:Nat}:∀ {vs:List V} {ds:List D},Reps K μ H vs ds->EOk K μ H (vs.map Option.some++List.replicate N Option.none) (ds.map Option.some++List.replicate N Option.none)
 | _,_,.nil=>by
  induction N with
  | zero=>exact .nil
  | succ n ih=>exact .no ih
 | _,_,.cons h t=>.yes h (EOk.start t)
def EOk.block{σ:L2.St}{env:bp}(h:EOk K μ H σ env):∀ (cap:List (Option Nat)),EOk K μ H (σB cap σ) (cap.map fun o=>o.bind fun i=>(env[i]?).join)
 | []=>.nil
 | Option.none::r=>.no (EOk.block h r)
 | Option.some i::r=>by
  show EOk K μ H ((σ[i]?).join::σB r σ) ((env[i]?).join::_)
  cases q:(env[i]?).join with
  | none=>exact .no (EOk.block h r)
  | some d=>
   have q':env[i]?=Option.some (Option.some d):=by
    cases z:env[i]? with
    | none=>rw [z] at q;cases q
    | some y=>rw [z] at q;exact congrArg Option.some q
   obtain⟨v,h1,h2⟩:=h.get q'
   rw [h1]
   exact .yes h2 (EOk.block h r)
def Gn{p a:Addr}{cs fb:List Addr}(n:(⟨cs,p::fb⟩:Fp).no a):(⟨cs,fb⟩:Fp).no a:=⟨n.1,fun z=>n.2 (WO _ z)⟩
def Rep.less{p:Addr}{cs fb:List Addr}{v:V}{d:D}(r:Rep K ⟨cs,p::fb⟩ H v d):Rep K ⟨cs,fb⟩ H v d:=r.imp (fun h n=>⟨h,Gn n⟩) fun h=>h
def Reps.less{p:Addr}{cs fb:List Addr}{v:List V}{d:List D}(r:Reps K ⟨cs,p::fb⟩ H v d):Reps K ⟨cs,fb⟩ H v d:=r.imp (fun h n=>⟨h,Gn n⟩) fun h=>h
def Gm{p:Addr}{o:HO}{cs fb:List Addr}(hp:H p=none){a:Addr}{o':HO}(h:H a=some o')(n:(⟨cs,fb⟩:Fp).no a):upd H p o a=some o'/\(⟨cs,p::fb⟩:Fp).no a:=⟨(bn (cx h hp)).trans h,n.1,fun z=>(Xq.mp z).elim (cx h hp) n.2⟩
def Rep.more{p:Addr}{o:HO}{cs fb:List Addr}(hp:H p=none){v:V}{d:D}(r:Rep K ⟨cs,fb⟩ H v d):Rep K ⟨cs,p::fb⟩ (upd H p o) v d:=r.imp (Gm hp) fun h=>h
def Reps.more{p:Addr}{o:HO}{cs fb:List Addr}(hp:H p=none){v:List V}{d:List D}(r:Reps K ⟨cs,fb⟩ H v d):Reps K ⟨cs,p::fb⟩ (upd H p o) v d:=r.imp (Gm hp) fun h=>h
def Fp.no.ne{μ:Fp}{a p:Addr}(n:μ.no a)(hp:p ∈ μ.fb):a≠p:=fun z=>n.2 (by rw [z];exact hp)
def Rep.chg{p:Addr}{o:HO}(hp:p ∈ μ.fb){v:V}{d:D}(r:Rep K μ H v d):Rep K μ (upd H p o) v d:=r.imp (fun h n=>⟨(bn (n.ne hp)).trans h,n⟩) fun h=>h
def Reps.chg{p:Addr}{o:HO}(hp:p ∈ μ.fb){v:List V}{d:List D}(r:Reps K μ H v d):Reps K μ (upd H p o) v d:=r.imp (fun h n=>⟨(bn (n.ne hp)).trans h,n⟩) fun h=>h
def EOk.more{p:Addr}{o:HO}{cs fb:List Addr}(hp:H p=none):∀ {σ:L2.St} {env:bp},EOk K ⟨cs,fb⟩ H σ env->EOk K ⟨cs,p::fb⟩ (upd H p o) σ env
 | _,_,.nil=>.nil
 | _,_,.no t=>.no (EOk.more hp t)
 | _,_,.yes h t=>.yes (h.more hp) (EOk.more hp t)
def EOk.chg{p:Addr}{o:HO}(hp:p ∈ μ.fb):∀ {σ:L2.St} {env:bp},EOk K μ H σ env->EOk K μ (upd H p o) σ env
 | _,_,.nil=>.nil
 | _,_,.no t=>.no (EOk.chg hp t)
 | _,_,.yes h t=>.yes (h.chg hp) (EOk.chg hp t)
def CellOk.upd{p a:Addr}{o:HO}{c:Cell}(μ':Fp)(hpa:a≠p)(h:CellOk K μ H a c)(f:∀ vs ds,Reps K μ H vs ds->Reps K μ' (upd H p o) vs ds):CellOk K μ' (upd H p o) a c:=by
 cases c with
 | lst ds=>obtain⟨vs,h,r⟩:=h;exact⟨vs,(bn hpa).trans h,f _ _ r⟩
 | dct ks ds=>obtain⟨vs,h,q,r⟩:=h;exact⟨vs,(bn hpa).trans h,q,f _ _ r⟩
def SOk.less{S:ac}{p:Addr}{cs fb:List Addr}(s:SOk K ⟨cs,p::fb⟩ S H):SOk K ⟨cs,fb⟩ S H:=
 ⟨s.nd,s.len,fun r a c h1 h2=>by
  have:=s.cell r a c h1 h2
  cases c with
  | lst ds=>obtain⟨vs,h,r⟩:=this;exact⟨vs,h,r.less⟩
  | dct ks ds=>obtain⟨vs,h,q,r⟩:=this;exact⟨vs,h,q,r.less⟩,fun a ha=>s.fdom a (WO _ ha),fun a ha=>s.disj a (WO _ ha)⟩
def SOk.more{S:ac}{p:Addr}{o:HO}{cs fb:List Addr}(s:SOk K ⟨cs,fb⟩ S H)(hp:H p=none):SOk K ⟨cs,p::fb⟩ S (upd H p o):=by
 have hn:=s.notMem hp
 refine⟨s.nd,s.len,fun r a c h1 h2=>(s.cell r a c h1 h2).upd _ (fun z=>?_) fun vs ds r=>r.more hp,fun a ha=>?_,fun a ha z=>?_⟩
 ·exact hn.1 (z ▸ Xh h1)
 ·by_cases z:a=p
  ·subst z;rw [bx];simp
  ·rw [bn z];exact s.fdom a ((Xq.mp ha).resolve_left z)
 ·rcases Xq.mp ha with rfl | ha
  ·exact hn.1 z
  ·exact s.disj a ha z
def SOk.chg{S:ac}{p:Addr}{o:HO}(s:SOk K μ S H)(hp:p ∈ μ.fb):SOk K μ S (upd H p o):=by
 refine⟨s.nd,s.len,fun r a c h1 h2=>(s.cell r a c h1 h2).upd _ (fun z=>?_) fun vs ds r=>r.chg hp,fun a ha=>?_,s.disj⟩
 ·exact s.disj p hp (z ▸ Xh h1)
 ·by_cases z:a=p
  ·subst z;rw [bx];simp
  ·rw [bn z];exact s.fdom a ha
end
abbrev ME:=bp->ac->Option (D×ac)
abbrev MT:=bp->ac->Option (Bool×ac)
abbrev MA:=bp->ac->Option (List D×ac)
inductive pK where
 | nx (env:bp) (S:ac)
 | rt (d:D) (S:ac)
 | bk (env:bp) (S:ac)
 | ct (env:bp) (S:ac)
abbrev MS:=bp->ac->Option pK
def Post(K:W.Frag)(μ:Fp)(H:Hp)(S':ac)(d:D)(Q:VK):Prop:=∀ v H' μ',Ext μ H μ' H'->SOk K μ' S' H'->Rep K μ' H' v d->Q v H'
def PostT(K:W.Frag)(μ:Fp)(H:Hp)(S':ac)(b:Bool)(Q:Bool->Hp->Prop):Prop:=∀ H' μ',Ext μ H μ' H'->SOk K μ' S' H'->Q b H'
def PostA(K:W.Frag)(μ:Fp)(H:Hp)(S':ac)(ds:List D)(Q:List V->Hp->Prop):Prop:=∀ vs H' μ',Ext μ H μ' H'->SOk K μ' S' H'->Reps K μ' H' vs ds->Q vs H'
def PostN(K:W.Frag)(μ:Fp)(H:Hp)(S':ac)(env':bp)(Q:L2.St->Hp->Prop):Prop:=∀ σ' H' μ',Ext μ H μ' H'->SOk K μ' S' H'->EOk K μ' H' σ' env'->Q σ' H'
def PostS(K:W.Frag)(μ:Fp)(H:Hp)(o:pK)(E:wE):Prop:=match o with
 | .nx env' S'=>PostN K μ H S' env' E.nx
 | .rt d S'=>Post K μ H S' d E.rt
 | .bk env' S'=>PostN K μ H S' env' E.bk
 | .ct env' S'=>PostN K μ H S' env' E.ct
inductive tM(K:W.Frag)(m:ME)(σ:L2.St)(H:Hp)(Q:VK):Prop
 | mk (μ:Fp) (S:ac) (env:bp) (d:D) (S':ac) (hS:SOk K μ S H) (hE:EOk K μ H σ env) (h:m env S=some (d,S')) (post:Post K μ H S' d Q)
inductive DC(K:W.Frag)(m:MT)(σ:L2.St)(H:Hp)(Q:Bool->Hp->Prop):Prop
 | mk (μ:Fp) (S:ac) (env:bp) (b:Bool) (S':ac) (hS:SOk K μ S H) (hE:EOk K μ H σ env) (h:m env S=some (b,S')) (post:PostT K μ H S' b Q)
inductive tMA(K:W.Frag)(m:MA)(σ:L2.St)(H:Hp)(Q:List V->Hp->Prop):Prop
 | mk (μ:Fp) (S:ac) (env:bp) (ds:List D) (S':ac) (hS:SOk K μ S H) (hE:EOk K μ H σ env) (h:m env S=some (ds,S')) (post:PostA K μ H S' ds Q)
inductive tMS(K:W.Frag)(m:MS)(E:wE)(σ:L2.St)(H:Hp):Prop
 | mk (μ:Fp) (S:ac) (env:bp) (o:pK) (hS:SOk K μ S H) (hE:EOk K μ H σ env) (h:m env S=some o) (post:PostS K μ H o E)
inductive oC(K:W.Frag)(f:ac->D->D->Option D)(x y:V)(H:Hp)(Q:VK):Prop
 | mk (μ:Fp) (S:ac) (dx dy dz:D) (hS:SOk K μ S H) (h1:Rep K μ H x dx) (h2:Rep K μ H y dy) (h3:f S dx dy=some dz) (post:Post K μ H S dz Q)
inductive rM1(K:W.Frag)(f:ac->D->Option D)(x:V)(H:Hp)(Q:VK):Prop
 | mk (μ:Fp) (S:ac) (dx dz:D) (hS:SOk K μ S H) (h1:Rep K μ H x dx) (h3:f S dx=some dz) (post:Post K μ H S dz Q)
inductive Lb(K:W.Frag)(f:List D->ac->Option (D×ac))(vs:List V)(H:Hp)(Q:VK):Prop
 | mk (μ:Fp) (S:ac) (ds:List D) (d:D) (S':ac) (hS:SOk K μ S H) (h1:Reps K μ H vs ds) (h3:f ds S=some (d,S')) (post:Post K μ H S' d Q)
def DE(X:Cx)(e:Expr)(m:ME):Prop:=PE X e (tM X.K m)
def DT(X:Cx)(e:Expr)(m:MT):Prop:=PT X e (DC X.K m)
def DW(X:Cx)(e:Expr)(m:MT):Prop:=PW X e (DC X.K m)
def DA(X:Cx)(es:List Expr)(m:MA):Prop:=PA X es (tMA X.K m)
def DS(X:Cx)(st:Stmt)(m:MS):Prop:=PS X st (tMS X.K m)
def wF(X:Cx)(st:List Stmt)(m:MS):Prop:=PSs X st (tMS X.K m)
section
variable{X:Cx}{K:W.Frag}{μ μ':Fp}{H H':Hp}{S S':ac}
def Post.ext{d:D}{Q:VK}(e:Ext μ H μ' H')(p:Post K μ H S' d Q):Post K μ' H' S' d Q:=fun v H2 μ2 e2 s r=>p v H2 μ2 (e.trans e2) s r
def Post.here{d:D}{Q:VK}{v:V}(p:Post K μ H S d Q)(s:SOk K μ S H)(r:Rep K μ H v d):Q v H:=p v H μ s.ext s r
def PE.imp{e:Expr}{t t':TE}(h:PE X e t)(i:∀ σ H Q,t' σ H Q->t σ H Q):PE X e t':=fun pins s σ H Q I q=>h pins s σ H Q I (i σ H Q q)
def PT.imp{e:Expr}{t t':TT}(h:PT X e t)(i:∀ σ H Q,t' σ H Q->t σ H Q):PT X e t':=fun pins s σ H Q I q=>h pins s σ H Q I (i σ H Q q)
def PW.imp{e:Expr}{t t':TT}(h:PW X e t)(i:∀ σ H Q,t' σ H Q->t σ H Q):PW X e t':=fun w pins s σ H Q I q=>h w pins s σ H Q I (i σ H Q q)
def PA.imp{e:List Expr}{t t':TA}(h:PA X e t)(i:∀ σ H Q,t' σ H Q->t σ H Q):PA X e t':=fun pos pins s σ H Q I q=>h pos pins s σ H Q I (i σ H Q q)
def PS.imp{e:Stmt}{t t':TS}(h:PS X e t)(i:∀ E σ H,t' E σ H->t E σ H):PS X e t':=fun pins s σ H E I q=>h pins s σ H E I (i E σ H q)
def PSs.imp{e:List Stmt}{t t':TS}(h:PSs X e t)(i:∀ E σ H,t' E σ H->t E σ H):PSs X e t':=fun pins s σ H E I q=>h pins s σ H E I (i E σ H q)
def OpR.imp{f:Value->Value->Sem Value}{r r':R2}(h:OpR X f r)(i:∀ x y H Q,r' x y H Q->r x y H Q):OpR X f r':=fun pins s σ H x y v u Q I rx ry q=>h pins s σ H x y v u Q I rx ry (i x y H Q q)
def UnR.imp{f:Value->Sem Value}{r r':V->Hp->VK->Prop}(h:UnR X f r)(i:∀ x H Q,r' x H Q->r x H Q):UnR X f r':=fun pins s σ H x v Q I rx q=>h pins s σ H x v Q I rx (i x H Q q)
def CallR.imp{f:Value}{r r':List V->Hp->VK->Prop}(h:CallR X f r)(i:∀ x H Q,r' x H Q->r x H Q):CallR X f r':=fun pins s σ H x v Q I rx q=>h pins s σ H x v Q I rx (i x H Q q)
def IxR.imp{r r':R2}(h:IxR X r)(i:∀ x y H Q,r' x y H Q->r x y H Q):IxR X r':=fun va sl pins s σ H x y v u Q I rx ry q=>h va sl pins s σ H x y v u Q I rx ry (i x y H Q q)
noncomputable def ab(i:Nat):ME:=fun env S=>(env[i]?).join.bind fun d=>some (d,S)
noncomputable def mC(d:D):ME:=fun _ S=>some (d,S)
def xB{α:Type}{o:Option (Option α)}{a:α}(h:o.join=some a):o=some (some a):=by
 cases o with
 | none=>cases h
 | some o=>exact congrArg some h
def VS{i:Nat}{x:Str}{pos:Pos}(hN:X.N[i]?=some x)(hv:SI X.env.scope x)(hd:(x == ("__debug__":Str))=false:=by decide)(hcd:(x == ("__classdict__":Str))=false:=by decide):DE X (.Name x pos) (ab i):=
 PE.imp (Lq hN hv hd hcd) fun σ H Q ⟨μ,S,env,d,S',hS,hE,hm,post⟩=>by
  obtain⟨d',h1,h2⟩:=WI.mp hm
  cases h2
  obtain⟨v,e,r⟩:=hE.get (xB h1)
  exact⟨v,e,post.here hS r⟩
def nH{e:Expr}{v:V}{d:D}(h:PE X e (tC v))(r:∀ μ H,Rep X.K μ H v d):DE X e (mC d):=
 PE.imp h fun σ H Q ⟨μ,S,env,d',S',hS,hE,hm,post⟩=>by cases hm;exact post.here hS (r μ H)
def Wa{i:Int}{j pos}:DE X (.Constant (.int i) j pos) (mC (.int i)):=nH TV fun _ _=>.int i
def de_bl{b j pos}:DE X (.Constant (.bool b) j pos) (mC (.bl b)):=nH pe_bl fun _ _=>.bl b
def VX{j pos}:DE X (.Constant .none j pos) (mC .non):=nH TR fun _ _=>.non
def VU{x j pos}:DE X (.Constant (.str x) j pos) (mC (.str x)):=nH TM fun _ _=>.str x
structure GC(K:W.Frag)(mg:Str->Option Value)(x:Str)(d:D):Prop where
 ex:∃ u v,mg x=some u/\RelV v u/\∀ μ H,Rep K μ H v d
def Rg{x:Str}{d:D}{pos:Pos}(g:GC X.K X.mg x d)(hg:Gl X x:=by rfl)(hd:(x == ("__debug__":Str))=false:=by decide):DE X (.Name x pos) (mC d):=by
 obtain⟨u,v,h1,h2,h3⟩:=g.ex
 exact nH (yT hg h1 h2 hd) h3
noncomputable def ar(f:ac->D->D->Option D)(a b:ME):ME:=fun env S=>(a env S).bind fun p=>(b env p.2).bind fun q=>(f q.2 p.1 q.1).bind fun z=>some (z,q.2)
def LW{f:ac->D->D->Option D}{a b:ME}{env:bp}{S S':ac}{d:D}(h:ar f a b env S=some (d,S')):∃ x S1 y,a env S=some (x,S1)/\b env S1=some (y,S')/\f S' x y=some d:=by
 obtain⟨⟨x,S1⟩,h1,h⟩:=WI.mp h
 obtain⟨⟨y,S2⟩,h2,h⟩:=WI.mp h
 obtain⟨z,h3,h⟩:=WI.mp h
 cases h
 exact⟨x,S1,y,h1,h2,h3⟩
def yo{f:ac->D->D->Option D}{ma mb:ME}{σ:L2.St}{Q:VK}(h:tM K (ar f ma mb) σ H Q):tOp (oC K f) (tM K ma) (tM K mb) σ H Q:=by
 obtain⟨μ,S,env,d,S',hS,hE,hm,post⟩:=h
 obtain⟨x,S1,y,h1,h2,h3⟩:=LW hm
 exact⟨μ,S,env,x,S1,hS,hE,h1,fun v H1 μ1 e1 s1 r1=>⟨μ1,S1,env,y,S',s1,hE.mono e1,h2,fun w H2 μ2 e2 s2 r2=>⟨μ2,S',x,y,d,s2,r1.mono e2,r2,h3,(post.ext e1).ext e2⟩⟩⟩
section
variable{a b c:Expr}{ma mb mc:ME}{pos:Pos}
def xW{op:Operator}{f:ac->D->D->Option D}(ho:OpR X (binaryOp op) (oC X.K f))(ha:DE X a ma)(hb:DE X b mb):DE X (.BinOp a op b pos) (ar f ma mb):=
 PE.imp (pe_op ho ha hb) fun _ _ _ h=>yo h
def Wc{op:CmpOp}{f:ac->D->D->Option D}(ho:OpR X (compareOp op) (oC X.K f))(ha:DE X a ma)(hb:DE X b mb)(hm:behindInMarks op b=false):DE X (.Compare a [op] [b] pos) (ar f ma mb):=
 PE.imp (Pu ho ha hb hm) fun _ _ _ h=>yo h
noncomputable def ax(m:ME):MT:=fun env S=>(m env S).bind fun p=>match p.1 with | .bl k=>some (k,p.2) | _=>none
def uC{m:ME}{env:bp}{S S':ac}{k:Bool}(h:ax m env S=some (k,S')):m env S=some (.bl k,S'):=by
 obtain⟨⟨x,S1⟩,h1,h⟩:=WI.mp h
 cases x <;> first | (cases h;exact h1) | cases h
def Rep.bl_inv{v:V}{k:Bool}(h:Rep K μ H v (.bl k)):v=.bl k:=by cases h;rfl
def Rep.int_inv{v:V}{k:Int}(h:Rep K μ H v (.int k)):v=.int k:=by cases h;rfl
def Rep.str_inv{v:V}{k:Str}(h:Rep K μ H v (.str k)):v=.str k:=by cases h;rfl
def VG{op:CmpOp}{f:ac->D->D->Option D}(ho:OpR X (compareOp op) (oC X.K f))(ha:DE X a ma)(hb:DE X b mb)(hm:behindInMarks op b=false):DT X (.Compare a [op] [b] pos) (ax (ar f ma mb)):=
 PT.imp (Ph ho ha hb hm) fun σ H Q ⟨μ,S,env,k,S',hS,hE,hm,post⟩=>by
  have h:=uC hm
  refine yo ⟨μ,S,env,_,S',hS,hE,h,fun v H' μ' e s r=>?_⟩
  exact⟨k,r.bl_inv,post H' μ' e s⟩
noncomputable def cS(f g:ac->D->D->Option D)(a b c:ME):ME:=fun env S=>(a env S).bind fun p=>(b env p.2).bind fun q=>(f q.2 p.1 q.1).bind fun z=>match z with
 | .bl true=>(c env q.2).bind fun r=>(g r.2 q.1 r.1).bind fun z=>some (z,r.2)
 | .bl false=>some (.bl false,q.2)
 | _=>none
def wM{f g:ac->D->D->Option D}{σ:L2.St}{Q:VK}(h:tM K (cS f g ma mb mc) σ H Q):DD (oC K f) (oC K g) (tM K ma) (tM K mb) (tM K mc) σ H Q:=by
 obtain⟨μ,S,env,d,S',hS,hE,hm,post⟩:=h
 obtain⟨⟨x,S1⟩,h1,hm⟩:=WI.mp hm
 obtain⟨⟨y,S2⟩,h2,hm⟩:=WI.mp hm
 obtain⟨z,h3,hm⟩:=WI.mp hm
 refine⟨μ,S,env,x,S1,hS,hE,h1,fun v H1 μ1 e1 s1 r1=>⟨μ1,S1,env,y,S2,s1,hE.mono e1,h2,fun w H2 μ2 e2 s2 r2=>⟨μ2,S2,x,y,z,s2,r1.mono e2,r2,h3,fun u H3 μ3 e3 s3 r3=>?_⟩⟩⟩
 cases z with
 | bl k=>
  refine⟨k,r3.bl_inv,?_⟩
  cases k with
  | false=>cases hm;rw [if_neg Bool.false_ne_true];exact post _ H3 μ3 ((e1.trans e2).trans e3) s3 (.bl false)
  | true=>
   obtain⟨⟨t,S4⟩,h4,hm⟩:=WI.mp hm
   obtain⟨z,h5,hm⟩:=WI.mp hm
   cases hm
   rw [Xc rfl]
   exact⟨μ3,S2,env,t,S4,s3,hE.mono ((e1.trans e2).trans e3),h4,fun u' H4 μ4 e4 s4 r4=>⟨μ4,_,y,t,_,s4,(r2.mono e3).mono e4,r4,h5,post.ext (((e1.trans e2).trans e3).trans e4)⟩⟩
 | _=>cases hm
def Oe{op op':CmpOp}{f g:ac->D->D->Option D}(ho:OpR X (compareOp op) (oC X.K f))(ho':OpR X (compareOp op') (oC X.K g))(ha:DE X a ma)(hb:DE X b mb)(hc:DE X c mc)
  (hm:lastMarks [op,op'] [b,c]=false:=by with_unfolding_all rfl):DE X (.Compare a [op,op'] [b,c] pos) (cS f g ma mb mc):=
 PE.imp (Ly ho ho' ha hb hc hm) fun _ _ _ h=>wM h
def NI{op op':CmpOp}{f g:ac->D->D->Option D}(ho:OpR X (compareOp op) (oC X.K f))(ho':OpR X (compareOp op') (oC X.K g))(ha:DE X a ma)(hb:DE X b mb)(hc:DE X c mc)
  (hm:lastMarks [op,op'] [b,c]=false:=by with_unfolding_all rfl):DT X (.Compare a [op,op'] [b,c] pos) (ax (cS f g ma mb mc)):=
 PT.imp (Le ho ho' ha hb hc hm) fun σ H Q ⟨μ,S,env,k,S',hS,hE,hm,post⟩=>by
  have h:=uC hm
  refine wM ⟨μ,S,env,_,S',hS,hE,h,fun v H' μ' e s r=>?_⟩
  exact⟨k,r.bl_inv,post H' μ' e s⟩
noncomputable def pN(S:ac):D->Option Bool
 | .non=>some false
 | .bl b=>some b
 | .int i=>some (i != 0)
 | .str y=>if y.length<=sizeLine then some ((y.length:Int) != 0) else none
 | .tup xs=>some (!xs.isEmpty)
 | .lst xs=>some (!xs.isEmpty)
 | .rol xs=>some (!xs.isEmpty)
 | .dct ks _=>some (!ks.isEmpty)
 | .ref r=>match S[r]? with
  | some (.lst xs)=>some (!xs.isEmpty)
  | some (.dct ks _)=>some (!ks.isEmpty)
  | none=>none
def Reps.isEmpty{vs:List V}{ds:List D}(r:Reps K μ H vs ds):(!ds.isEmpty) = !vs.isEmpty:=by cases r <;> rfl
def rW{α β:Type}(f:α->β)(l:List α):(!(l.map f).isEmpty) = !l.isEmpty:=by cases l <;> rfl
def sT{x:V}{d:D}{k:Bool}(s:SOk K μ S H)(r:Rep K μ H x d)(h:pN S d=some k):JZ K x H k:=by
 cases r with
 | non=>cases h;rfl
 | bl b=>cases h;rfl
 | int i=>cases h;rfl
 | str y=>
  simp only [pN] at h
  split at h
  ·rename_i hy;cases h;exact⟨hy,rfl⟩
  ·cases h
 | @tup a vs ds h' n r=>cases h;exact .inr (.inl ⟨vs,.inl (.inl h'),r.isEmpty⟩)
 | @ktup a vs ds h' r=>cases h;exact .inr (.inl ⟨vs,.inr h',r.isEmpty⟩)
 | @lst a vs ds h' n r=>cases h;exact .inl ⟨vs,.inl (.inl h'),r.isEmpty⟩
 | @rol a vs ds h' n r=>cases h;exact .inl ⟨vs,.inl h',r.isEmpty⟩
 | @krol a vs ds h' r=>cases h;exact .inl ⟨vs,.inr h',r.isEmpty⟩
 | @dct a kvs ds h' n r=>cases h;exact .inr (.inr ⟨kvs,h',rW _ _⟩)
 | @ref a i h'=>
  simp only [pN] at h
  cases q:S[i]? with
  | none=>rw [q] at h;cases h
  | some c=>
   rw [q] at h
   have ck:=s.cell i a c h' q
   cases c with
   | lst xs=>cases h;obtain⟨vs,e,r⟩:=ck;exact .inl ⟨vs,.inl (.inl e),r.isEmpty⟩
   | dct ks xs=>cases h;obtain⟨kvs,e,rfl,r⟩:=ck;exact .inr (.inr ⟨kvs,e,rW _ _⟩)
noncomputable def da(m:ME):MT:=fun env S=>(m env S).bind fun p=>(pN p.2 p.1).bind fun k=>some (k,p.2)
def CV(ha:DE X a ma)(he:∀ whole,isTrue a X.env whole=(do let v <- whole;standAt a.pos;holding [v] (truthy v)):=by intro _;rfl):DT X a (da ma):=
 PT.imp (Ld ha he) fun σ H Q ⟨μ,S,env,k,S',hS,hE,hm,post⟩=>by
  obtain⟨⟨x,S1⟩,h1,hm⟩:=WI.mp hm
  obtain⟨k',h2,hm⟩:=WI.mp hm
  cases hm
  exact⟨μ,S,env,x,S1,hS,hE,h1,fun v H' μ' e s r=>⟨k,sT s r h2,post H' μ' e s⟩⟩
variable{ta tb tc:MT}{rest:List Expr}
noncomputable def cF(a b:MT):MT:=fun env S=>(a env S).bind fun p=>if p.1=true then b env p.2 else some (false,p.2)
noncomputable def eL(a b:MT):MT:=fun env S=>(a env S).bind fun p=>if p.1=true then some (true,p.2) else b env p.2
noncomputable def dH(a:MT):MT:=fun env S=>(a env S).bind fun p=>some (!p.1,p.2)
def OP{σ:L2.St}{Q:Bool->Hp->Prop}(h:DC K (cF ta tb) σ H Q):tAnd (DC K ta) (DC K tb) σ H Q:=by
 obtain⟨μ,S,env,k,S',hS,hE,hm,post⟩:=h
 obtain⟨⟨x,S1⟩,h1,hm⟩:=WI.mp hm
 refine⟨μ,S,env,x,S1,hS,hE,h1,fun H1 μ1 e1 s1=>?_⟩
 cases x with
 | true=>rw [Xc rfl] at hm ⊢;exact⟨μ1,S1,env,k,S',s1,hE.mono e1,hm,fun H2 μ2 e2 s2=>post H2 μ2 (e1.trans e2) s2⟩
 | false=>rw [if_neg Bool.false_ne_true] at hm ⊢;cases hm;exact post H1 μ1 e1 s1
def Tb{σ:L2.St}{Q:Bool->Hp->Prop}(h:DC K (eL ta tb) σ H Q):tOr (DC K ta) (DC K tb) σ H Q:=by
 obtain⟨μ,S,env,k,S',hS,hE,hm,post⟩:=h
 obtain⟨⟨x,S1⟩,h1,hm⟩:=WI.mp hm
 refine⟨μ,S,env,x,S1,hS,hE,h1,fun H1 μ1 e1 s1=>?_⟩
 cases x with
 | false=>rw [if_neg Bool.false_ne_true] at hm ⊢;exact⟨μ1,S1,env,k,S',s1,hE.mono e1,hm,fun H2 μ2 e2 s2=>post H2 μ2 (e1.trans e2) s2⟩
 | true=>rw [Xc rfl] at hm ⊢;cases hm;exact post H1 μ1 e1 s1
def Ha(ha:DT X a ta):DW X (.BoolOp .And [a] pos) ta:=Pd ha
def NE(ha:DT X a ta):DW X (.BoolOp .Or [a] pos) ta:=Ts ha
def NF(ha:DT X a ta)(hb:DW X (.BoolOp .And (b::rest) pos) tb):DW X (.BoolOp .And (a::b::rest) pos) (cF ta tb):=PW.imp (Tt ha hb) fun _ _ _ h=>OP h
def SC(ha:DT X a ta)(hb:DW X (.BoolOp .Or (b::rest) pos) tb):DW X (.BoolOp .Or (a::b::rest) pos) (eL ta tb):=PW.imp (pw_or ha hb) fun _ _ _ h=>Tb h
def QQ(h:DW X a ta):DT X a ta:=PW.pt h
def VF(ha:DT X a ta):DT X (.UnaryOp .Not a pos) (dH ta):=PT.imp (Tu ha) fun σ H Q ⟨μ,S,env,k,S',hS,hE,hm,post⟩=>by
 obtain⟨⟨x,S1⟩,h1,hm⟩:=WI.mp hm
 cases hm
 exact⟨μ,S,env,x,S1,hS,hE,h1,fun H1 μ1 e1 s1=>post H1 μ1 e1 s1⟩
noncomputable def dG(a b:ME):ME:=fun env S=>(a env S).bind fun p=>match p.1 with | .bl true=>b env p.2 | .bl false=>some (.bl false,p.2) | _=>none
noncomputable def tf(a b:ME):ME:=fun env S=>(a env S).bind fun p=>match p.1 with | .bl false=>b env p.2 | .bl true=>some (.bl true,p.2) | _=>none
def NZ{op}(h:DE X a ma):DE X (.BoolOp op [a] pos) ma:=TQ h
noncomputable def fQ(a:ME):ME:=fun env S=>(a env S).bind fun p=>match p.1 with | .bl k=>some (.bl (!k),p.2) | _=>none
noncomputable def lL(t:MT)(a b:ME):ME:=fun env S=>(t env S).bind fun p=>if p.1=true then a env p.2 else b env p.2
def de_if(hc:DT X c tc)(ha:DE X a ma)(hb:DE X b mb):DE X (.IfExp c a b pos) (lL tc ma mb):=PE.imp (Lv hc ha hb) fun σ H Q ⟨μ,S,env,d,S',hS,hE,hm,post⟩=>by
 obtain⟨⟨x,S1⟩,h1,hm⟩:=WI.mp hm
 refine⟨μ,S,env,x,S1,hS,hE,h1,fun H1 μ1 e1 s1=>?_⟩
 cases x with
 | true=>rw [Xc rfl] at hm ⊢;exact⟨μ1,S1,env,d,S',s1,hE.mono e1,hm,post.ext e1⟩
 | false=>rw [if_neg Bool.false_ne_true] at hm ⊢;exact⟨μ1,S1,env,d,S',s1,hE.mono e1,hm,post.ext e1⟩
variable{es:List Expr}{ms:MA}
noncomputable def ai:MA:=fun _ S=>some ([],S)
noncomputable def aa(a:ME)(r:MA):MA:=fun env S=>(a env S).bind fun p=>(r env p.2).bind fun q=>some (p.1::q.1,q.2)
def We:DA X [] ai:=PA.imp LC fun σ H Q ⟨μ,S,env,d,S',hS,hE,hm,post⟩=>by cases hm;exact post [] H μ hS.ext hS .nil
def Rr(ha:DE X a ma)(hr:DA X es ms)(hs:starEach (a::es) X.env=(false,eval a X.env)::starEach es X.env:=by rfl):DA X (a::es) (aa ma ms):=PA.imp (yU ha hr hs) fun σ H Q ⟨μ,S,env,ds,S',hS,hE,hm,post⟩=>by
 obtain⟨⟨x,S1⟩,h1,hm⟩:=WI.mp hm
 obtain⟨⟨xs,S2⟩,h2,hm⟩:=WI.mp hm
 cases hm
 exact⟨μ,S,env,x,S1,hS,hE,h1,fun v H1 μ1 e1 s1 r1=>⟨μ1,S1,env,xs,S2,s1,hE.mono e1,h2,fun vs H2 μ2 e2 s2 r2=>post (v::vs) H2 μ2 (e1.trans e2) s2 (.cons (r1.mono e2) r2)⟩⟩
noncomputable def aM(ms:MA):ME:=fun env S=>(ms env S).bind fun p=>if p.1.length<=sizeLine then some (.tup p.1,p.2) else none
noncomputable def eM(ms:MA):ME:=fun env S=>(ms env S).bind fun p=>if p.1.length<=sizeLine then some (.lst p.1,p.2) else none
noncomputable def dj(ms:MA):ME:=fun env S=>(ms env S).bind fun p=>if p.1.length<=sizeLine then some (.ref p.2.length,p.2++[.lst p.1]) else none
def Post.tup{vs:List V}{ds:List D}{Q:VK}{p:Addr}(post:Post K μ H S (.tup ds) Q)(s:SOk K μ S H)(hp:H p=none)(r:Reps K μ H vs ds):Q (.ref p) (upd H p (.tup vs)):=by
 obtain⟨e,s'⟩:=s.laid (o:=.tup vs) hp
 exact post _ _ _ e s' (.tup bx (s.notMem hp) (r.mono e))
def Post.lst{vs:List V}{ds:List D}{Q:VK}{p:Addr}(post:Post K μ H S (.lst ds) Q)(s:SOk K μ S H)(hp:H p=none)(r:Reps K μ H vs ds):Q (.ref p) (upd H p (.lst vs)):=by
 obtain⟨e,s'⟩:=s.laid (o:=.lst vs) hp
 exact post _ _ _ e s' (.lst bx (s.notMem hp) (r.mono e))
def Post.lstR{vs:List V}{ds:List D}{Q:VK}{p:Addr}(post:Post K μ H (S++[.lst ds]) (.ref S.length) Q)(s:SOk K μ S H)(hp:H p=none)(r:Reps K μ H vs ds):Q (.ref p) (upd H p (.lst vs)):=by
 obtain⟨e,s'⟩:=s.alloc hp r
 exact post _ _ _ e s' (.ref (by rw [<- s.len,XX (WY _)];simp))
def VT{k}(h:DA X es ms):DE X (.Tuple es k pos) (aM ms):=PE.imp (TL h) fun σ H Q ⟨μ,S,env,d,S',hS,hE,hm,post⟩=>by
 obtain⟨⟨xs,S1⟩,h1,hm⟩:=WI.mp hm
 dsimp only at hm
 split at hm
 ·rename_i hl
  cases hm
  exact⟨μ,S,env,_,_,hS,hE,h1,fun vs H1 μ1 e1 s1 r1=>⟨by rw [r1.length];exact hl,fun p hp=>(post.ext e1).tup s1 hp r1⟩⟩
 ·cases hm
def VY(h:DA X es ms):DE X (.List es pos) (eM ms):=PE.imp (Ls h) fun σ H Q ⟨μ,S,env,d,S',hS,hE,hm,post⟩=>by
 obtain⟨⟨xs,S1⟩,h1,hm⟩:=WI.mp hm
 dsimp only at hm
 split at hm
 ·rename_i hl
  cases hm
  exact⟨μ,S,env,_,_,hS,hE,h1,fun vs H1 μ1 e1 s1 r1=>⟨by rw [r1.length];exact hl,fun p hp=>(post.ext e1).lst s1 hp r1⟩⟩
 ·cases hm
def Rf(h:DA X es ms):DE X (.List es pos) (dj ms):=PE.imp (Ls h) fun σ H Q ⟨μ,S,env,d,S',hS,hE,hm,post⟩=>by
 obtain⟨⟨xs,S1⟩,h1,hm⟩:=WI.mp hm
 dsimp only at hm
 split at hm
 ·rename_i hl
  cases hm
  exact⟨μ,S,env,_,_,hS,hE,h1,fun vs H1 μ1 e1 s1 r1=>⟨by rw [r1.length];exact hl,fun p hp=>(post.ext e1).lstR s1 hp r1⟩⟩
 ·cases hm
def Rh:DE X (.Dict [] [] pos) (mC (.dct [] [])):=PE.imp Lw fun σ H Q ⟨μ,S,env,d,S',hS,hE,hm,post⟩=>by
 cases hm
 intro p hp
 obtain⟨e,s'⟩:=hS.laid (o:=.dK []) hp
 exact post _ _ _ e s' (.dct (kvs:=[]) bx (hS.notMem hp) .nil)
end
end
mutual
noncomputable def jm:D->D->Bool
 | .non,.non=>true
 | .bl a,.bl b=>a == b
 | .bl a,.int b=>(if a then 1 else 0) == b
 | .int a,.bl b=>a == (if b then 1 else 0)
 | .int a,.int b=>a == b
 | .str a,.str b=>a == b
 | .tup xs,.tup ys=>eqDs xs ys
 | .lst xs,.lst ys=>eqDs xs ys
 | _,_=>false
noncomputable def eqDs:List D->List D->Bool
 | [],[]=>true
 | x::xs,y::ys=>jm x y&&eqDs xs ys
 | _,_=>false
end
noncomputable def cY:Nat->D->Bool
 | _,.non=>true
 | _,.bl _=>true
 | _,.int _=>true
 | _,.str _=>true
 | n+1,.tup xs=>xs.all (cY n)
 | n+1,.lst xs=>xs.all (cY n)
 | _,_=>false
def ug:∀ {n m:Nat} {d:D},n<=m->cY n d=true->cY m d=true
 | n,m,.non,_,_=>by simp [cY]
 | n,m,.bl _,_,_=>by simp [cY]
 | n,m,.int _,_,_=>by simp [cY]
 | n,m,.str _,_,_=>by simp [cY]
 | 0,m,.tup _,_,h=>by simp [cY] at h
 | 0,m,.lst _,_,h=>by simp [cY] at h
 | n+1,m+1,.tup xs,hl,h=>by
  simp only [cY,Xd] at h ⊢
  exact fun d hd=>ug (aas hl) (h d hd)
 | n+1,m+1,.lst xs,hl,h=>by
  simp only [cY,Xd] at h ⊢
  exact fun d hd=>ug (aas hl) (h d hd)
 | n+1,0,.tup _,hl,_=>absurd hl (by omega)
 | n+1,0,.lst _,hl,_=>absurd hl (by omega)
 | n,m,.rol _,_,h=>by cases n <;> simp [cY] at h
 | n,m,.dct _ _,_,h=>by cases n <;> simp [cY] at h
 | n,m,.ref _,_,h=>by cases n <;> simp [cY] at h
def Ag:∀ (xs ys:List D),eqDs xs ys=((List.range (min xs.length ys.length)).all (fun j=>match xs[j]?,ys[j]? with | some a,some b=>jm a b | _,_=>true)&&xs.length == ys.length)
 | [],[]=>rfl
 | [],y::ys=>by simp [eqDs]
 | x::xs,[]=>by simp [eqDs]
 | x::xs,y::ys=>by
  have ih:=Ag xs ys
  rw [eqDs,ih]
  have hm:min (x::xs).length (y::ys).length=min xs.length ys.length+1:=by simp only [WT];omega
  rw [hm,Zs,Yc,List.all_map]
  simp only [aan,WT,Bool.and_assoc]
  congr 1
  congr 1
  rw [Xs];simp
section
variable{X:Cx}{pins:List (Addr×Obj)}{σ:L2.St}{H:Hp}{s:Shared}{μ:Fp}{A:Around}
def Rep.sqT{K:W.Frag}{v:V}{ds:List D}(r:Rep K μ H v (.tup ds)):∃ a vs,v=.ref a/\mE K H a vs/\Reps K μ H vs ds:=by
 cases r with
 | tup h n r=>exact⟨_,_,rfl,.inl (.inl h),r⟩
 | ktup h r=>exact⟨_,_,rfl,.inr h,r⟩
def Rep.sqL{K:W.Frag}{v:V}{ds:List D}(r:Rep K μ H v (.lst ds)):∃ a vs,v=.ref a/\H a=some (.lst vs)/\μ.no a/\Reps K μ H vs ds:=by
 cases r with
 | lst h n r=>exact⟨_,_,rfl,h,n,r⟩
def Rep.sqR{K:W.Frag}{v:V}{ds:List D}(r:Rep K μ H v (.rol ds)):∃ a vs,v=.ref a/\oI K H a vs/\Reps K μ H vs ds:=by
 cases r with
 | rol h n r=>exact⟨_,_,rfl,.inl h,r⟩
 | krol h r=>exact⟨_,_,rfl,.inr h,r⟩
def ntl(I:Inv X pins σ H s){a:Addr}{xs ys:List V}(h:mE X.K H a xs)(h':oI X.K H a ys):False:=by
 obtain⟨its,_,⟨o,e,c,_⟩,_⟩:=I.tuple h
 obtain⟨its',_,⟨o',n',e',c',_⟩,_⟩:=I.list h'
 rw [e] at e';cases e'
 rw [c] at c'
 exact absurd c' (by simp)
def Rep.non_inv{K:W.Frag}{v:V}(h:Rep K μ H v .non):v=.non:=by cases h;rfl
def Gg{n:Nat}{xs:List D}:cY n (.rol xs)=false:=by cases n <;> rfl
def Gi{n:Nat}{ks:List bG}{xs:List D}:cY n (.dct ks xs)=false:=by cases n <;> rfl
def Gh{n:Nat}{r:Nat}:cY n (.ref r)=false:=by cases n <;> rfl
def sX{n:Nat}{xs:List D}(h:cY n (.tup xs)=true):∃ m,m+1=n/\∀ x∈xs,cY m x=true:=by
 cases n with
 | zero=>cases h
 | succ n=>exact⟨n,rfl,Xd.mp h⟩
def sY{n:Nat}{xs:List D}(h:cY n (.lst xs)=true):∃ m,m+1=n/\∀ x∈xs,cY m x=true:=by
 cases n with
 | zero=>cases h
 | succ n=>exact⟨n,rfl,Xd.mp h⟩
inductive Fm(K:W.Frag)(μ:Fp)(H:Hp):D->V->Prop
 | non:Fm K μ H .non .non
 | bl (b:Bool):Fm K μ H (.bl b) (.bl b)
 | int (i:Int):Fm K μ H (.int i) (.int i)
 | str (x:Str):Fm K μ H (.str x) (.str x)
 | tup {xs:List D} {l:Addr} {vs:List V} (q:mE K H l vs) (r:Reps K μ H vs xs):Fm K μ H (.tup xs) (.ref l)
 | lst {xs:List D} {l:Addr} {vs:List V} (q:oI K H l vs) (r:Reps K μ H vs xs):Fm K μ H (.lst xs) (.ref l)
def sv{K:W.Frag}{n:Nat}{x:D}{a:V}(hx:cY n x=true)(r:Rep K μ H a x):Fm K μ H x a:=by
 cases x with
 | non=>rw [r.non_inv];exact .non
 | bl b=>rw [r.bl_inv];exact .bl b
 | int b=>rw [r.int_inv];exact .int b
 | str b=>rw [r.str_inv];exact .str b
 | tup xs=>obtain⟨l,vs,rfl,q,r⟩:=r.sqT;exact .tup q r
 | lst xs=>obtain⟨l,vs,rfl,q,_,r⟩:=r.sqL;exact .lst (.inl (.inl q)) r
 | rol _=>rw [Gg] at hx;cases hx
 | dct _ _=>rw [Gi] at hx;cases hx
 | ref _=>rw [Gh] at hx;cases hx
def Reps.injN{K:W.Frag}{n:Nat}(ih:∀ {v:V} {x y:D},cY n x=true->cY n y=true->Rep K μ H v x->Rep K μ H v y->x=y):∀ {vs:List V} {xs ys:List D},(∀ x∈xs,cY n x=true)->(∀ y∈ys,cY n y=true)->Reps K μ H vs xs->Reps K μ H vs ys->xs=ys
 | _,_,_,_,_,.nil,.nil=>rfl
 | _,_,_,hx,hy,.cons h t,.cons h' t'=>by
  rw [ih (hx _ WL) (hy _ WL) h h',Reps.injN ih (fun x m=>hx x (WO _ m)) (fun x m=>hy x (WO _ m)) t t']
def Cu(I:Inv X pins σ H s)(n:Nat)(ih:∀ m,m+1=n->∀ {v:V} {x y:D},cY m x=true->cY m y=true->Rep X.K μ H v x->Rep X.K μ H v y->x=y){v:V}{x y:D}(hx:cY n x=true)(hy:cY n y=true)(rx:Rep X.K μ H v x)(ry:Rep X.K μ H v y):x=y:=by
 have fy:=sv hy ry
 cases x with
 | tup xs=>
  obtain⟨a,vs,rfl,q,r⟩:=rx.sqT
  obtain⟨m,hm,ox⟩:=sX hx
  cases fy with
  | tup q' r'=>
   cases I.tuple_inj q' q
   obtain⟨m',hm',oy⟩:=sX hy
   have:m'=m:=by omega
   subst this
   rw [Reps.injN (ih m' hm) ox oy r r']
  | lst q' _=>exact(ntl I q q').elim
 | lst xs=>
  obtain⟨a,vs,rfl,q,_,r⟩:=rx.sqL
  obtain⟨m,hm,ox⟩:=sY hx
  cases y with
  | lst ys=>
   obtain⟨m',hm',oy⟩:=sY hy
   have:m'=m:=by omega
   subst this
   obtain⟨a',vs',e,q',_,r'⟩:=ry.sqL
   cases e
   rw [q] at q';cases q'
   rw [Reps.injN (ih m' hm) ox oy r r']
  | _=>cases fy <;> exact(ntl I (by assumption) (.inl (.inl q))).elim
 | non=>rw [rx.non_inv] at fy;cases fy;rfl
 | bl b=>rw [rx.bl_inv] at fy;cases fy;rfl
 | int b=>rw [rx.int_inv] at fy;cases fy;rfl
 | str b=>rw [rx.str_inv] at fy;cases fy;rfl
 | rol _=>rw [Gg] at hx;cases hx
 | dct _ _=>rw [Gi] at hx;cases hx
 | ref _=>rw [Gh] at hx;cases hx
def Rep.inj(I:Inv X pins σ H s)(n:Nat):∀ {v:V} {x y:D},cY n x=true->cY n y=true->Rep X.K μ H v x->Rep X.K μ H v y->x=y:=by
 induction n with
 | zero=>exact fun hx hy rx ry=>Cu I 0 (fun m h=>absurd h (Nat.succ_ne_zero m)) hx hy rx ry
 | succ n ih=>exact fun hx hy rx ry=>Cu I (n+1) (fun m h=>by cases h;exact ih) hx hy rx ry
def nG:∀ (n:Nat) (x:D),cY n x=true->jm x x=true
 | n,.non,_=>rfl
 | n,.bl _,_=>by simp [jm]
 | n,.int _,_=>by simp [jm]
 | n,.str _,_=>by simp [jm]
 | 0,.tup _,h=>by simp [cY] at h
 | 0,.lst _,h=>by simp [cY] at h
 | n+1,.tup xs,h=>by
  simp only [cY,Xd] at h
  rw [jm]
  induction xs with
  | nil=>rfl
  | cons x xs ih=>rw [eqDs,nG n x (h x WL),ih fun y m=>h y (WO _ m)];rfl
 | n+1,.lst xs,h=>by
  simp only [cY,Xd] at h
  rw [jm]
  induction xs with
  | nil=>rfl
  | cons x xs ih=>rw [eqDs,nG n x (h x WL),ih fun y m=>h y (WO _ m)];rfl
 | n,.rol _,h=>by cases n <;> simp [cY] at h
 | n,.dct _ _,h=>by cases n <;> simp [cY] at h
 | n,.ref _,h=>by cases n <;> simp [cY] at h
open PySem.SeqAt
def xH(A:Around):A.in1.units=A.units+1:=rfl
def xE{its its2:List Value}{vs ws:List V}{xs ys:List D}{P:Value->Value->Bool->Prop}(r1:Vals vs its)(q1:Reps X.K μ H vs xs)(r2:Vals ws its2)(q2:Reps X.K μ H ws ys)
  (h:∀ (j:Nat) (v w:V) (u u':Value) (x y:D),xs[j]?=some x->ys[j]?=some y->Rep X.K μ H v x->Rep X.K μ H w y->RelV v u->RelV w u'->P u u' (jm x y)) :
  ∀ j (h1:j<its.toArray.size) (h2:j<its2.toArray.size),P its.toArray[j] its2.toArray[j] (match xs[j]?,ys[j]? with | some a,some b=>jm a b | _,_=>true):=fun j h1 h2=>by
 have l1:=r1.length
 have l2:=r2.length
 have m1:=q1.length
 have m2:=q2.length
 have h1':j<its.length:=by simpa using h1
 have h2':j<its2.length:=by simpa using h2
 have hx:xs[j]?=some xs[j]:=WS (by omega)
 have hy:ys[j]?=some ys[j]:=WS (by omega)
 obtain⟨v,e1,p1⟩:=q1.get hx
 obtain⟨w,e2,p2⟩:=q2.get hy
 obtain⟨u,f1,g1⟩:=r1.get e1
 obtain⟨u',f2,g2⟩:=r2.get e2
 rw [hx,hy]
 have:=h j v w u u' _ _ hx hy p1 p2 g1 g2
 have f1':its.toArray[j]=u:=by simpa [WS h1'] using f1
 have f2':its2.toArray[j]=u':=by simpa [WS h2'] using f2
 rw [f1',f2']
 exact this
structure WH(A:Around)(s:Shared)(u v:Value)(b:Bool):Prop where
 eq:EqAt A s u v b
 rc:RcAt A s u v b
 ne:RcNeAt A s u v (!b)
def GY(I:Inv X pins σ H s)(n:Nat)(ih:∀ m,m+1=n->∀ (A:Around) {a b:V} {u v:Value} {x y:D},A.units+m<cLine->cY m x=true->cY m y=true->Rep X.K μ H a x->Rep X.K μ H b y->RelV a u->RelV b v->WH A s u v (jm x y))
  (A:Around) {a b:V} {u v:Value} {x y:D} (hn:A.units+n<cLine) (hx:cY n x=true) (hy:cY n y=true) (rx:Rep X.K μ H a x) (ry:Rep X.K μ H b y) (ra:RelV a u) (rb:RelV b v):WH A s u v (jm x y):=by
 have hu:A.units<cLine:=by omega
 cases sv hx rx with
 | non=>
  cases ra
  cases sv hy ry with
  | non=>cases rb;exact⟨EqAt.same _,RcAt.none_none,RcNeAt.none_none⟩
  | bl b=>cases rb;exact⟨EqAt.none_bool b,RcAt.none_bool b,RcNeAt.none_bool b⟩
  | int b=>obtain⟨t,rfl⟩:=rb;exact⟨EqAt.none_int b t,RcAt.none_int b t,RcNeAt.none_int b t⟩
  | str b=>obtain⟨t,rfl⟩:=rb;exact⟨EqAt.none_str b t,RcAt.none_str b t,RcNeAt.none_str b t⟩
  | tup q r=>cases rb;obtain⟨its,rv,p,_⟩:=I.tuple q;exact⟨EqAt.none_tuple p hu,RcAt.none_tuple p hu,RcNeAt.none_tuple p hu⟩
  | lst q r=>cases rb;obtain⟨its,rv,p,_⟩:=I.list q;exact⟨EqAt.none_list p.isList hu,RcAt.none_list p.isList hu,RcNeAt.none_list p.isList hu⟩
 | bl a=>
  cases ra
  cases sv hy ry with
  | non=>cases rb;exact⟨EqAt.bool_none a,RcAt.bool_none a,RcNeAt.bool_none a⟩
  | bl b=>cases rb;exact⟨EqAt.bool_bool a b,RcAt.bool_bool a b,RcNeAt.bool_bool a b⟩
  | int b=>obtain⟨t,rfl⟩:=rb;exact⟨EqAt.bool_int a b t,RcAt.bool_int a b t,RcNeAt.bool_int a b t⟩
  | str b=>obtain⟨t,rfl⟩:=rb;exact⟨EqAt.bool_str a b t,RcAt.bool_str a b t,RcNeAt.bool_str a b t⟩
  | tup q r=>cases rb;obtain⟨its,rv,p,_⟩:=I.tuple q;exact⟨EqAt.bool_tuple a p hu,RcAt.bool_tuple a p hu,RcNeAt.bool_tuple a p hu⟩
  | lst q r=>cases rb;obtain⟨its,rv,p,_⟩:=I.list q;exact⟨EqAt.bool_list a p.isList hu,RcAt.bool_list a p.isList hu,RcNeAt.bool_list a p.isList hu⟩
 | int a=>
  obtain⟨t',rfl⟩:=ra
  cases sv hy ry with
  | non=>cases rb;exact⟨EqAt.int_none a t',RcAt.int_none a t',RcNeAt.int_none a t'⟩
  | bl b=>cases rb;exact⟨EqAt.int_bool a t' b,RcAt.int_bool a t' b,RcNeAt.int_bool a t' b⟩
  | int b=>obtain⟨t,rfl⟩:=rb;exact⟨EqAt.int_int a t' b t,RcAt.int_int a t' b t,RcNeAt.int_int a t' b t⟩
  | str b=>obtain⟨t,rfl⟩:=rb;exact⟨EqAt.int_str a t' b t,RcAt.int_str a t' b t,RcNeAt.int_str a t' b t⟩
  | tup q r=>cases rb;obtain⟨its,rv,p,_⟩:=I.tuple q;exact⟨EqAt.int_tuple a t' p hu,RcAt.int_tuple a t' p hu,RcNeAt.int_tuple a t' p hu⟩
  | lst q r=>cases rb;obtain⟨its,rv,p,_⟩:=I.list q;exact⟨EqAt.int_list a t' p.isList hu,RcAt.int_list a t' p.isList hu,RcNeAt.int_list a t' p.isList hu⟩
 | str a=>
  obtain⟨t',rfl⟩:=ra
  cases sv hy ry with
  | non=>cases rb;exact⟨EqAt.str_none a t',RcAt.str_none a t',RcNeAt.str_none a t'⟩
  | bl b=>cases rb;exact⟨EqAt.str_bool a t' b,RcAt.str_bool a t' b,RcNeAt.str_bool a t' b⟩
  | int b=>obtain⟨t,rfl⟩:=rb;exact⟨EqAt.str_int a t' b t,RcAt.str_int a t' b t,RcNeAt.str_int a t' b t⟩
  | str b=>obtain⟨t,rfl⟩:=rb;exact⟨EqAt.str_str a t' b t,RcAt.str_str a t' b t,RcNeAt.str_str a t' b t⟩
  | tup q r=>cases rb;obtain⟨its,rv,p,_⟩:=I.tuple q;exact⟨EqAt.str_tuple a t' p hu,RcAt.str_tuple a t' p hu,RcNeAt.str_tuple a t' p hu⟩
  | lst q r=>cases rb;obtain⟨its,rv,p,_⟩:=I.list q;exact⟨EqAt.str_list a t' p.isList hu,RcAt.str_list a t' p.isList hu,RcNeAt.str_list a t' p.isList hu⟩
 | @tup xs l vs q r=>
  cases ra
  obtain⟨its,rv,p,_⟩:=I.tuple q
  cases sv hy ry with
  | non=>cases rb;exact⟨EqAt.tuple_none p hu,RcAt.tuple_none p hu,RcNeAt.tuple_none p hu⟩
  | bl b=>cases rb;exact⟨EqAt.tuple_bool b p hu,RcAt.tuple_bool b p hu,RcNeAt.tuple_bool b p hu⟩
  | int b=>obtain⟨t,rfl⟩:=rb;exact⟨EqAt.tuple_int b t p hu,RcAt.tuple_int b t p hu,RcNeAt.tuple_int b t p hu⟩
  | str b=>obtain⟨t,rfl⟩:=rb;exact⟨EqAt.tuple_str b t p hu,RcAt.tuple_str b t p hu,RcNeAt.tuple_str b t p hu⟩
  | @tup ys l' vs' q' r'=>
   cases rb
   obtain⟨its',rv',p',_⟩:=I.tuple q'
   obtain⟨m,hm,ox⟩:=sX hx
   obtain⟨m',hm',oy⟩:=sX hy
   have:m'=m:=by omega
   subst this
   have all:=xE (P:=fun u u' b=>EqAt A.in1 s u u' b) rv r rv' r' fun j v w u u' x y hx' hy' q1 q2 g1 g2=>
    (ih m' hm A.in1 (by rw [xH];omega) (ox x (Xh hx')) (oy y (Xh hy')) q1 q2 g1 g2).eq
   have e0:its.toArray.size=xs.length:=by rw [WN,<- rv.length,r.length]
   have e1:its'.toArray.size=ys.length:=by rw [WN,<- rv'.length,r'.length]
   have key:=RcAt.tuples (A:=A) (s:=s) p p' hu all
   have kne:=RcNeAt.tuples (A:=A) (s:=s) p p' hu all
   rw [e0,e1,<- Ag] at key kne
   refine⟨?_,key,kne⟩
   by_cases hl:l=l'
   ·subst hl
    rw [<- Rep.inj I n hx hy rx ry,nG _ _ hx]
    exact EqAt.same _
   ·exact EqAt.of_refs hl key
  | lst q' r'=>cases rb;obtain⟨its',rv',p',_⟩:=I.list q';exact⟨EqAt.tuple_list p p'.isList hu,RcAt.tuple_list p p'.isList hu,RcNeAt.tuple_list p p'.isList hu⟩
 | @lst xs l vs q r=>
  cases ra
  obtain⟨its,rv,p0,_⟩:=I.list q
  have p:=p0.isList
  cases sv hy ry with
  | non=>cases rb;exact⟨EqAt.list_none p hu,RcAt.list_none p hu,RcNeAt.list_none p hu⟩
  | bl b=>cases rb;exact⟨EqAt.list_bool b p hu,RcAt.list_bool b p hu,RcNeAt.list_bool b p hu⟩
  | int b=>obtain⟨t,rfl⟩:=rb;exact⟨EqAt.list_int b t p hu,RcAt.list_int b t p hu,RcNeAt.list_int b t p hu⟩
  | str b=>obtain⟨t,rfl⟩:=rb;exact⟨EqAt.list_str b t p hu,RcAt.list_str b t p hu,RcNeAt.list_str b t p hu⟩
  | tup q' r'=>cases rb;obtain⟨its',rv',p',_⟩:=I.tuple q';exact⟨EqAt.list_tuple p p' hu,RcAt.list_tuple p p' hu,RcNeAt.list_tuple p p' hu⟩
  | @lst ys l' vs' q' r'=>
   cases rb
   obtain⟨its',rv',p0',_⟩:=I.list q'
   have p':=p0'.isList
   obtain⟨m,hm,ox⟩:=sY hx
   obtain⟨m',hm',oy⟩:=sY hy
   have:m'=m:=by omega
   subst this
   have all:=xE (P:=fun u u' b=>EqAt A.in1 s u u' b) rv r rv' r' fun j v w u u' x y hx' hy' q1 q2 g1 g2=>
    (ih m' hm A.in1 (by rw [xH];omega) (ox x (Xh hx')) (oy y (Xh hy')) q1 q2 g1 g2).eq
   have e0:its.toArray.size=xs.length:=by rw [WN,<- rv.length,r.length]
   have e1:its'.toArray.size=ys.length:=by rw [WN,<- rv'.length,r'.length]
   have key:RcAt A s (.ref l) (.ref l') (eqDs xs ys)/\RcNeAt A s (.ref l) (.ref l') (!eqDs xs ys):=by
    rw [Ag]
    by_cases hlen:xs.length=ys.length
    ·have k1:=RcAt.lists (A:=A) (s:=s) p p' (by rw [e0,e1,hlen]) hu all
     have k2:=RcNeAt.lists (A:=A) (s:=s) p p' (by rw [e0,e1,hlen]) hu all
     rw [e0] at k1 k2
     rw [<- hlen,Nat.min_self,beq_self_eq_true,aap]
     exact⟨k1,k2⟩
    ·rw [show (xs.length == ys.length)=false from XY.mpr hlen,Yn]
     exact⟨RcAt.lists_lengths (A:=A) (s:=s) p p' (by rw [e0,e1];exact bne_iff_ne.mpr hlen) hu,RcNeAt.lists_lengths (A:=A) (s:=s) p p' (by rw [e0,e1];exact bne_iff_ne.mpr hlen) hu⟩
   refine⟨?_,key.1,key.2⟩
   by_cases hl:l=l'
   ·subst hl
    rw [<- Rep.inj I n hx hy rx ry,nG _ _ hx]
    exact EqAt.same _
   ·exact EqAt.of_refs hl key.1
def Wh(I:Inv X pins σ H s)(n:Nat):∀ (A:Around) {a b:V} {u v:Value} {x y:D},A.units+n<cLine->cY n x=true->cY n y=true->Rep X.K μ H a x->Rep X.K μ H b y->RelV a u->RelV b v->WH A s u v (jm x y):=by
 induction n with
 | zero=>exact fun A _ _ _ _ _ _ hn hx hy rx ry ra rb=>GY I 0 (fun m h=>absurd h (Nat.succ_ne_zero m)) A hn hx hy rx ry ra rb
 | succ n ih=>exact fun A _ _ _ _ _ _ hn hx hy rx ry ra rb=>GY I (n+1) (fun m h=>by cases h;exact ih) A hn hx hy rx ry ra rb
def eqRc(I:Inv X pins σ H s)(n:Nat)(A:Around){a b:V}{u v:Value}{x y:D}(hn:A.units+n<cLine)(hx:cY n x=true)(hy:cY n y=true)(rx:Rep X.K μ H a x)(ry:Rep X.K μ H b y)(ra:RelV a u)(rb:RelV b v) :
  EqAt A s u v (jm x y)/\RcAt A s u v (jm x y):=⟨(Wh I n A hn hx hy rx ry ra rb).eq,(Wh I n A hn hx hy rx ry ra rb).rc⟩
def neRc(I:Inv X pins σ H s)(n:Nat)(A:Around){a b:V}{u v:Value}{x y:D}(hn:A.units+n<cLine)(hx:cY n x=true)(hy:cY n y=true)(rx:Rep X.K μ H a x)(ry:Rep X.K μ H b y)(ra:RelV a u)(rb:RelV b v) :
  RcNeAt A s u v (!jm x y):=(Wh I n A hn hx hy rx ry ra rb).ne
end
section
variable{X:Cx}{pins:List (Addr×Obj)}{σ:L2.St}{H:Hp}{s:Shared}{μ:Fp}{A:Around}
end
noncomputable def ii(S:ac):D->Option (List D)
 | .tup xs=>some xs
 | .lst xs=>some xs
 | .rol xs=>some xs
 | .ref r=>match S[r]? with | some (.lst xs)=>some xs | _=>none
 | _=>none
section
variable{X:Cx}{K:W.Frag}{μ:Fp}{H:Hp}{S:ac}
def kD{x:V}{d:D}{ds:List D}(s:SOk K μ S H)(r:Rep K μ H x d)(h:ii S d=some ds):∃ a vs,x=.ref a/\(oI K H a vs\/mE K H a vs)/\Reps K μ H vs ds:=by
 cases r with
 | tup h' n r=>cases h;exact⟨_,_,rfl,.inr (.inl (.inl h')),r⟩
 | ktup h' r=>cases h;exact⟨_,_,rfl,.inr (.inr h'),r⟩
 | lst h' n r=>cases h;exact⟨_,_,rfl,.inl (.inl (.inl h')),r⟩
 | rol h' n r=>cases h;exact⟨_,_,rfl,.inl (.inl h'),r⟩
 | krol h' r=>cases h;exact⟨_,_,rfl,.inl (.inr h'),r⟩
 | @ref a i h'=>
  simp only [ii] at h
  cases q:S[i]? with
  | none=>rw [q] at h;cases h
  | some c=>
   rw [q] at h
   have ck:=s.cell i a c h' q
   cases c with
   | lst xs=>cases h;obtain⟨vs,e,r⟩:=ck;exact⟨_,vs,rfl,.inl (.inl (.inl e)),r⟩
   | dct ks xs=>cases h
 | _=>cases h
noncomputable def bY(S:ac)(x y:D):Option D:=if cY 40 x=true/\cY 40 y=true then some (.bl (jm x y)) else none
noncomputable def ib(S:ac)(x y:D):Option D:=if cY 40 x=true/\cY 40 y=true then some (.bl (!jm x y)) else none
def op_Eq(hu:X.A.units+64<cLine):OpR X (compareOp .Eq) (oC X.K bY):=by
 intro pins s σ H x y v u Q I rx ry h
 obtain⟨μ,S,dx,dy,dz,hS,h1,h2,h3,post⟩:=h
 simp only [bY] at h3
 split at h3
 ·rename_i hk
  cases h3
  exact(eqRc I 40 X.A (by omega) hk.1 hk.2 h1 h2 rx ry).2 X.prog X.w X.xe _ ⟨.bl _,H,I,rfl,post.here hS (.bl _)⟩
 ·cases h3
def op_Ne(hu:X.A.units+64<cLine):OpR X (compareOp .NotEq) (oC X.K ib):=by
 intro pins s σ H x y v u Q I rx ry h
 obtain⟨μ,S,dx,dy,dz,hS,h1,h2,h3,post⟩:=h
 simp only [ib] at h3
 split at h3
 ·rename_i hk
  cases h3
  exact neRc I 40 X.A (by omega) hk.1 hk.2 h1 h2 rx ry X.prog X.w X.xe _ ⟨.bl _,H,I,rfl,post.here hS (.bl _)⟩
 ·cases h3
open Classical in
def fh(K:W.Frag)(μ:Fp)(H:Hp)(x:D)(u:Value):Bool:=decide (∃ v d,RelV v u/\Rep K μ H v d/\cY 39 d=true/\jm d x=true)
open Classical in
def qz{pins:List (Addr×Obj)}{σ:L2.St}{s:Shared}(I:Inv X pins σ H s){x d:D}{v:V}{u:Value}(rv:RelV v u)(r:Rep X.K μ H v d)(ok:cY 39 d=true):fh X.K μ H x u=jm d x:=by
 unfold fh
 cases e:jm d x with
 | true=>exact WU ⟨v,d,rv,r,ok,e⟩
 | false=>
  refine WV ?_
  rintro⟨v',d',rv',r',ok',e'⟩
  cases rv.inj rv'
  rw [Rep.inj I 39 ok ok' r r'] at e
  rw [e] at e';cases e'
def lE{pins:List (Addr×Obj)}{σ:L2.St}{s:Shared}(I:Inv X pins σ H s){x:D}:∀ {vs:List V} {us:List Value} {ds:List D},Vals vs us->Reps X.K μ H vs ds->(∀ d∈ds,cY 39 d=true) ->
  us.any (fh X.K μ H x)=ds.any fun d=>jm d x
 | _,_,_,.nil,.nil,_=>rfl
 | _,_,_,.cons rv tv,.cons r t,ok=>by
  rw [XD,XD,qz I rv r (ok _ WL),lE I tv t fun d m=>ok d (WO _ m)]
def gx{pins:List (Addr×Obj)}{σ:L2.St}{s:Shared}(I:Inv X pins σ H s){A:Around}(hu:A.units+40<cLine){x:D}{v:V}{u:Value}(rx:RelV v u)(rD:Rep X.K μ H v x)(okx:cY 40 x=true) :
  ∀ {vs:List V} {us:List Value} {ds:List D},Vals vs us->Reps X.K μ H vs ds->(∀ d∈ds,cY 39 d=true)->∀ w∈us,SeqAt.EqAt A s w u (fh X.K μ H x w)
 | _,_,_,.nil,.nil,_=>fun w hw=>by cases hw
 | _,_,_,.cons rv tv,.cons r t,ok=>fun w hw=>by
  rcases Xq.mp hw with rfl | hw
  ·rw [qz I rv r (ok _ WL)]
   exact(eqRc I 40 A hu (ug (by decide) (ok _ WL)) okx r rD rv rx).1
  ·exact gx I hu rx rD okx tv t (fun d m=>ok d (WO _ m)) w hw
noncomputable def kz(S:ac)(x y:D):Option D:=(ii S y).bind fun ds=>if cY 40 x=true/\ds.all (cY 39)=true then some (.bl (ds.any fun d=>jm d x)) else none
noncomputable def rp(S:ac)(x y:D):Option D:=(ii S y).bind fun ds=>if cY 40 x=true/\ds.all (cY 39)=true then some (.bl (!ds.any fun d=>jm d x)) else none
def op_In(hu:X.A.units+64<cLine):OpR X (compareOp .In) (oC X.K kz):=by
 intro pins s σ H x y v u Q I rx ry h
 obtain⟨μ,S,dx,dy,dz,hS,h1,h2,h3,post⟩:=h
 obtain⟨ds,e,h3⟩:=WI.mp h3
 split at h3
 ·rename_i hk
  cases h3
  obtain⟨a,vs,rfl,hq,r⟩:=kD hS h2 e
  cases ry
  have ok:=Xd.mp hk.2
  rcases hq with hq | hq
  ·obtain⟨its,rv,pl,hz⟩:=I.list hq
   refine SeqAt.in_listAt (fh X.K μ H dx) pl.isList (fun w hw=>gx I (by show X.A.units+1+40<cLine;omega) rx h1 hk.1 rv r ok w (by simpa using hw)) ⟨.bl _,H,I,rfl,?_⟩
   rw [show its.toArray.any (fh X.K μ H dx)=its.any (fh X.K μ H dx) by simp,lE I rv r ok]
   exact post.here hS (.bl _)
  ·obtain⟨its,rv,pl,hz⟩:=I.tuple hq
   refine SeqAt.in_tupleAt (fh X.K μ H dx) pl (fun w hw=>gx I (by show X.A.units+1+40<cLine;omega) rx h1 hk.1 rv r ok w (by simpa using hw)) ⟨.bl _,H,I,rfl,?_⟩
   rw [show its.toArray.any (fh X.K μ H dx)=its.any (fh X.K μ H dx) by simp,lE I rv r ok]
   exact post.here hS (.bl _)
 ·cases h3
def LF(hu:X.A.units+64<cLine):OpR X (compareOp .NotIn) (oC X.K rp):=by
 intro pins s σ H x y v u Q I rx ry h
 obtain⟨μ,S,dx,dy,dz,hS,h1,h2,h3,post⟩:=h
 obtain⟨ds,e,h3⟩:=WI.mp h3
 split at h3
 ·rename_i hk
  cases h3
  obtain⟨a,vs,rfl,hq,r⟩:=kD hS h2 e
  cases ry
  have ok:=Xd.mp hk.2
  rcases hq with hq | hq
  ·obtain⟨its,rv,pl,hz⟩:=I.list hq
   refine SeqAt.notIn_listAt (fh X.K μ H dx) pl.isList (fun w hw=>gx I (by show X.A.units+1+40<cLine;omega) rx h1 hk.1 rv r ok w (by simpa using hw)) ⟨.bl _,H,I,rfl,?_⟩
   rw [show its.toArray.any (fh X.K μ H dx)=its.any (fh X.K μ H dx) by simp,lE I rv r ok]
   exact post.here hS (.bl _)
  ·obtain⟨its,rv,pl,hz⟩:=I.tuple hq
   refine SeqAt.notIn_tupleAt (fh X.K μ H dx) pl (fun w hw=>gx I (by show X.A.units+1+40<cLine;omega) rx h1 hk.1 rv r ok w (by simpa using hw)) ⟨.bl _,H,I,rfl,?_⟩
   rw [show its.toArray.any (fh X.K μ H dx)=its.any (fh X.K μ H dx) by simp,lE I rv r ok]
   exact post.here hS (.bl _)
 ·cases h3
noncomputable def nq:D->D->Bool
 | .non,.non=>true
 | .bl a,.bl b=>a == b
 | _,_=>false
noncomputable def wA(S:ac)(x y:D):Option D:=match y with | .non=>some (.bl (nq x y)) | .bl _=>some (.bl (nq x y)) | _=>none
noncomputable def nA(S:ac)(x y:D):Option D:=match y with | .non=>some (.bl (!nq x y)) | .bl _=>some (.bl (!nq x y)) | _=>none
def MB{x y:V}{dx dy:D}{v u:Value}(h1:Rep K μ H x dx)(h2:Rep K μ H y dy)(rx:RelV x v)(ry:RelV y u)(hy:dy=.non\/∃ b,dy=.bl b):plainIs v u=true/\(v == u)=nq dx dy:=by
 rcases hy with rfl | ⟨b,rfl⟩
 ·cases h2;cases ry
  cases h1 <;> first | (cases rx;exact⟨rfl,rfl⟩) | (obtain⟨t,rfl⟩:=rx;exact⟨rfl,rfl⟩)
 ·cases h2;cases ry
  cases h1 <;> first | (cases rx;exact⟨rfl,rfl⟩) | (obtain⟨t,rfl⟩:=rx;exact⟨rfl,rfl⟩) | (cases rx;rename_i c;refine⟨rfl,?_⟩;cases b <;> cases c <;> rfl)
def op_Is:OpR X (compareOp .Is) (oC X.K wA):=by
 intro pins s σ H x y v u Q I rx ry h
 obtain⟨μ,S,dx,dy,dz,hS,h1,h2,h3,post⟩:=h
 have hy:(dy=.non\/∃ b,dy=.bl b)/\dz=.bl (nq dx dy):=by
  cases dy <;> first | (cases h3;exact⟨.inl rfl,rfl⟩) | (cases h3;exact⟨.inr ⟨_,rfl⟩,rfl⟩) | cases h3
 obtain⟨p,e⟩:=MB h1 h2 rx ry hy.1
 cases hy.2
 exact wpAny_is_plain p ⟨.bl _,H,I,congrArg Value.bool e,post.here hS (.bl _)⟩
def LG:OpR X (compareOp .IsNot) (oC X.K nA):=by
 intro pins s σ H x y v u Q I rx ry h
 obtain⟨μ,S,dx,dy,dz,hS,h1,h2,h3,post⟩:=h
 have hy:(dy=.non\/∃ b,dy=.bl b)/\dz=.bl (!nq dx dy):=by
  cases dy <;> first | (cases h3;exact⟨.inl rfl,rfl⟩) | (cases h3;exact⟨.inr ⟨_,rfl⟩,rfl⟩) | cases h3
 obtain⟨p,e⟩:=MB h1 h2 rx ry hy.1
 cases hy.2
 exact wpAny_isNot_plain p ⟨.bl _,H,I,congrArg (fun b=>Value.bool (!b)) e,post.here hS (.bl _)⟩
end
end M
namespace HT
section
variable{prog:Program}{w:World}{A:Around}{E:Value->Shared->Prop}{s:Shared}
def Ru{t b:Addr}{ws:List Value}{Q:Value->Shared->Prop}(ht:IsTup s.heap t #[])(hb:IsTup s.heap b ws.toArray)(h:Q (.ref b) s):wpAny (model prog w) A (binaryOp .Add (.ref t) (.ref b)) Q E s:=by
 obtain⟨⟨cls,dd,data,sl⟩,ho,hc,n,hd⟩:=id ht
 obtain⟨⟨cls2,dd2,data2,sl2⟩,ho2,hc2,n2,hd2⟩:=id hb
 simp only at hc hd hc2 hd2
 subst hc hd hc2 hd2
 exact aaw ⟨_,ho,rfl⟩ ⟨_,ho2,rfl⟩ ZQ aal ZS ZM (ZH _ _)
   (tuple_addW0 t b #[] ws.toArray n n2 dd dd2 sl sl2 rfl) ⟨ho,ho2,h⟩
def oG{t sl:Addr}{items:Array Value}{vl vu:Value}{lo hi:Option Int}{Q:Value->Shared->Prop}(ht:IsTup s.heap t items)(hs:s.heap.IsSliceOf sl vl vu .none)(pl:IsPart vl lo)(pu:IsPart vu hi)
  (hw:ft items.size 0 lo=0/\ft items.size items.size hi=items.size) (h:Q (.ref t) s):wpAny (model prog w) A (getItem (.ref t) (.ref sl)) Q E s:=by
 obtain⟨os,hos,hcs,hds⟩:=id hs
 have hTs:s.TypeIs (.ref sl) "slice":=⟨os,hos,hcs⟩
 unfold getItem
 try with_reducible refine YL ?_
 first | refine WK (Xa ?_) | skip
 refine WK (wpAny_sequenceKey ht.typeIs (by decide) ?_)
 refine WK (XU (name:=Str.ofString "__getitem__") ht.typeIs Yo
  (Yu Yo ht.typeIs aaM ?_ (aaQ _ _)))
 show wpAny _ _ (Builtin.Tuple.tupleItemsOf (.ref t) >>= _) _ _ s
 refine WK (tupleItemsOf_ ht ?_)
 refine WK (aau hTs ?_)
 rw [Xc (by decide)]
 refine WK (kY hs pl pu ?_)
 have hyes:(((ft items.size 0 lo:Nat):Int) == 0&&(1:Int) == 1&&(ft items.size items.size hi - ft items.size 0 lo) == items.size)=true:=by
  rw [hw.1,hw.2];simp
 show wpAny _ _ (if (((ft items.size 0 lo:Nat):Int) == 0&&(1:Int) == 1&&(ft items.size items.size hi - ft items.size 0 lo) == items.size)=true then _ else _) _ _ s
 rw [Xc hyes]
 unfold Builtin.Tuple.tupleIsExact
 refine WK (WK (aau ht.typeIs (Xa ?_)))
 rw [Xc (by decide)]
 exact WK (Zz (WK (Xa (Xa ⟨_,rfl,Xa h⟩))))
end
end HT
namespace M
open L2
section
variable{X:Cx}{K:W.Frag}{μ μ':Fp}{H H':Hp}{S:ac}
noncomputable def Ji(g:Int->Int->D)(S:ac)(x y:D):Option D:=match x,y with | .int i,.int j=>some (g i j) | _,_=>none
noncomputable def CU(C:Int->Int->Bool)(g:Int->Int->D)(S:ac)(x y:D):Option D:=match x,y with | .int i,.int j=>if C i j=true then some (g i j) else none | _,_=>none
def pV{f:Value->Value->Sem Value}{g:Int->Int->V}{g':Int->Int->D}(h:OpR X f (Pa g))(hg:∀ i j μ H,Rep X.K μ H (g i j) (g' i j)):OpR X f (oC X.K (Ji g')):=
 OpR.imp h fun x y H Q ⟨μ,S,dx,dy,dz,hS,h1,h2,h3,post⟩=>by
  cases dx <;> cases dy <;> first | cases h3 | skip
  exact⟨_,_,h1.int_inv,h2.int_inv,post.here hS (hg _ _ _ _)⟩
def yV{f:Value->Value->Sem Value}{C:Int->Int->Prop}{C':Int->Int->Bool}{g:Int->Int->V}{g':Int->Int->D}(h:OpR X f (rI C g))(hC:∀ i j,C' i j=true->C i j)(hg:∀ i j μ H,Rep X.K μ H (g i j) (g' i j)):OpR X f (oC X.K (CU C' g')):=
 OpR.imp h fun x y H Q ⟨μ,S,dx,dy,dz,hS,h1,h2,h3,post⟩=>by
  cases dx <;> cases dy <;> first | cases h3 | skip
  simp only [CU] at h3
  split at h3
  ·rename_i hc
   cases h3
   exact⟨_,_,h1.int_inv,h2.int_inv,hC _ _ hc,post.here hS (hg _ _ _ _)⟩
  ·cases h3
noncomputable def oH:=Ji fun i j=>.int (i - j)
noncomputable def QF:=Ji fun i j=>.bl (decide (i<j))
noncomputable def QG:=Ji fun i j=>.bl (decide (i<=j))
noncomputable def fGt:=Ji fun i j=>.bl (decide (j<i))
noncomputable def fGe:=Ji fun i j=>.bl (decide (j<=i))
def Ug:OpR X (binaryOp .Sub) (oC X.K oH):=pV Ub fun _ _ _ _=>.int _
def op_Lt:OpR X (compareOp .Lt) (oC X.K QF):=pV op_lt fun _ _ _ _=>.bl _
def op_Le:OpR X (compareOp .LtE) (oC X.K QG):=pV op_le fun _ _ _ _=>.bl _
def op_Gt:OpR X (compareOp .Gt) (oC X.K fGt):=pV op_gt fun _ _ _ _=>.bl _
def op_Ge:OpR X (compareOp .GtE) (oC X.K fGe):=pV op_ge fun _ _ _ _=>.bl _
noncomputable def mw:=CU (fun _ j=>decide (0<j)) fun i j=>.int (i % j)
noncomputable def Jl:=CU (fun _ j=>decide (0<j)&&decide (j<1073741824)) fun i j=>.int (i / j)
noncomputable def wz:=CU (fun i j=>decide (0<=j)&&decide (j<=1000000)&&decide (i.natAbs<2 ^ 64)) fun i j=>.int (i ^ j.toNat)
def Uj:OpR X (binaryOp .Mod) (oC X.K mw):=yV Ue (fun _ _ h=>XO h) fun _ _ _ _=>.int _
def Uk:OpR X (binaryOp .FloorDiv) (oC X.K Jl):=yV PK (fun _ _ h=>by simpa [CDiv] using h) fun _ _ _ _=>.int _
def Uh:OpR X (binaryOp .Pow) (oC X.K wz):=yV Ud (fun i j h=>by
 simp only [WP,Ye] at h
 exact⟨h.1.1,h.1.2,h.2⟩) fun _ _ _ _=>.int _
def pY(i j:Int):Bool:=decide (i.natAbs<18446744073709551616)||decide (j.natAbs<18446744073709551616)||(decide (i.natAbs<2 ^ 4000)&&decide (j.natAbs<2 ^ 4000))
def PY{i j:Int}(h:pY i j=true):IntMulOk i j:=by
 unfold pY at h
 simp only [Ze,WP,Ye] at h
 rcases h with (h | h) | h
 ·exact .of_left (aai (k:=64) (by omega))
 ·exact .of_right (aai (k:=64) (by omega))
 ·exact .of_bits (Xl (aai (k:=4000) h.1) (by decide)) (Xl (aai (k:=4000) h.2) (by decide))
def PJ:OpR X (binaryOp .Mult) (rI (fun i j=>pY i j=true) fun i j=>.int (i * j)):=opI fun _ _ _ _ _ _ _ hc q=>mul_int q (PY hc)
noncomputable def Vr(S:ac)(x y:D):Option D:=match x,y with
 | .int i,.int j=>if pY i j=true then some (.int (i * j)) else none
 | _,_=>none
def Ui:OpR X (binaryOp .Mult) (oC X.K Vr):=OpR.imp PJ fun x y H Q ⟨μ,S,dx,dy,dz,hS,h1,h2,h3,post⟩=>by
 cases dx <;> cases dy <;> first | cases h3 | skip
 simp only [Vr] at h3
 split at h3
 ·rename_i hc
  cases h3
  exact⟨_,_,h1.int_inv,h2.int_inv,hc,post.here hS (.int _)⟩
 ·cases h3
noncomputable def Ni(S:ac)(x y:D):Option D:=match x,y with
 | .int i,.int j=>some (.int (i+j))
 | .str i,.str j=>if i.length+j.length<=sizeLine then some (.str (i++j)) else none
 | .tup xs,.tup ys=>if xs.length+ys.length<=sizeLine then some (.tup (xs++ys)) else none
 | .lst xs,.lst ys=>if xs.length+ys.length<=sizeLine then some (.lst (xs++ys)) else none
 | _,_=>none
def Ul:OpR X (binaryOp .Add) (oC X.K Ni):=by
 intro pins s σ H x y v u Q I rx ry h
 obtain⟨μ,S,dx,dy,dz,hS,h1,h2,h3,post⟩:=h
 cases dx <;> cases dy <;> first | cases h3 | skip
 case int.int i j=>exact Uf pins s σ H x y v u Q I rx ry ⟨_,_,h1.int_inv,h2.int_inv,post.here hS (.int _)⟩
 case str.str i j=>
  simp only [Ni] at h3
  split at h3
  ·rename_i hl;cases h3
   exact Eh pins s σ H x y v u Q I rx ry ⟨_,_,h1.str_inv,h2.str_inv,hl,post.here hS (.str _)⟩
  ·cases h3
 case tup.tup xs ys=>
  simp only [Ni] at h3
  split at h3
  ·rename_i hl;cases h3
   have h2':=h2
   have h1':=h1
   obtain⟨a,vs,rfl,q1,r1⟩:=h1.sqT
   obtain⟨b,ws,rfl,q2,r2⟩:=h2.sqT
   have e1:=r1.length
   have e2:=r2.length
   by_cases hv:vs=[]
   ·subst hv
    have hx:xs=[]:=Ya (by simpa using e1.symm)
    subst hx
    cases rx;cases ry
    obtain⟨its,rv,p1,_⟩:=I.tuple q1
    obtain⟨its2,rv2,p2,_⟩:=I.tuple q2
    have:its=[]:=rv.nil_iff.mpr rfl
    subst this
    exact HT.Ru p1 p2 ⟨.ref b,H,I,rfl,post.here hS h2'⟩
   ·refine PL pins s σ H _ _ v u Q I rx ry ⟨a,b,vs,ws,rfl,rfl,q1,q2,hv,by omega,fun hw=>?_,fun hw p hp=>post.tup hS hp (r1.append r2)⟩
    subst hw
    have hy:ys=[]:=Ya (by simpa using e2.symm)
    subst hy
    rw [Xr] at post
    exact post.here hS h1'
  ·cases h3
 case lst.lst xs ys=>
  simp only [Ni] at h3
  split at h3
  ·rename_i hl;cases h3
   obtain⟨a,vs,rfl,q1,n1,r1⟩:=h1.sqL
   obtain⟨b,ws,rfl,q2,n2,r2⟩:=h2.sqL
   have e1:=r1.length
   have e2:=r2.length
   exact LD pins s σ H _ _ v u Q I rx ry ⟨a,b,vs,ws,rfl,rfl,q1,q2,by omega,fun p hp=>post.lst hS hp (r1.append r2)⟩
  ·cases h3
def SU:UnR X (unaryOp .USub) (rM1 X.K fun _ x=>match x with | .int i=>some (.int (-i)) | _=>none):=UnR.imp SS fun x H Q ⟨μ,S,dx,dz,hS,h1,h3,post⟩=>by
 cases dx <;> first | cases h3 | skip
 exact⟨_,h1.int_inv,post.here hS (.int _)⟩
noncomputable def xi(f:ac->D->Option D)(a:ME):ME:=fun env S=>(a env S).bind fun p=>(f p.2 p.1).bind fun z=>some (z,p.2)
def de_un{a:Expr}{ma:ME}{pos:Pos}{op:UnaryOp}{f:ac->D->Option D}(ho:UnR X (unaryOp op) (rM1 X.K f))(ha:DE X a ma):DE X (.UnaryOp op a pos) (xi f ma):=
 PE.imp (pe_un ho ha) fun σ H Q ⟨μ,S,env,d,S',hS,hE,hm,post⟩=>by
  obtain⟨⟨x,S1⟩,h1,hm⟩:=WI.mp hm
  obtain⟨z,h2,hm⟩:=WI.mp hm
  cases hm
  exact⟨μ,S,env,x,_,hS,hE,h1,fun v H1 μ1 e1 s1 r1=>⟨μ1,_,x,_,s1,r1,h2,post.ext e1⟩⟩
def RI{vs:List V}{ds:List D}{i:Int}{d:D}(r:Reps K μ H vs ds)(h:mM ds i=some d):∃ v,mM vs i=some v/\Rep K μ H v d:=by
 unfold mM at h ⊢
 rw [r.length]
 obtain⟨j,h1,h2⟩:=WI.mp h
 obtain⟨v,h3,h4⟩:=r.get h2
 exact⟨v,by rw [h1];exact h3,h4⟩
noncomputable def fIx(S:ac)(x y:D):Option D:=match y with | .int i=>(ii S x).bind fun xs=>mM xs i | _=>none
def ix_D:IxR X (oC X.K fIx):=IxR.imp (ix_list.or Vb) fun x y H Q ⟨μ,S,dx,dy,dz,hS,h1,h2,h3,post⟩=>by
 cases dy <;> first | cases h3 | skip
 rename_i i
 obtain⟨xs,e,h3⟩:=WI.mp h3
 obtain⟨a,vs,rfl,hq,r⟩:=kD hS h1 e
 obtain⟨v,h4,h5⟩:=RI r h3
 rcases hq with hq | hq
 ·exact .inl ⟨a,vs,i,v,rfl,h2.int_inv,hq,h4,post.here hS h5⟩
 ·exact .inr ⟨a,vs,i,v,rfl,h2.int_inv,hq,h4,post.here hS h5⟩
noncomputable def fO{α:Type}(xs:List α)(lo hi:Option Int):List α:=(xs.drop (HT.ft xs.length 0 lo)).take (HT.ft xs.length xs.length hi - HT.ft xs.length 0 lo)
abbrev MO:=bp->ac->Option (Option Int×ac)
noncomputable def bu:MO:=fun _ S=>some (none,S)
noncomputable def bU(m:ME):MO:=fun env S=>(m env S).bind fun p=>match p.1 with | .int i=>some (some i,p.2) | _=>none
inductive tMO(K:W.Frag)(m:MO)(σ:L2.St)(H:Hp)(Q:Option Int->Hp->Prop):Prop
 | mk (μ:Fp) (S:ac) (env:bp) (o:Option Int) (S':ac) (hS:SOk K μ S H) (hE:EOk K μ H σ env) (h:m env S=some (o,S')) (post:∀ H' μ',Ext μ H μ' H'->SOk K μ' S' H'->Q o H')
def DO(X:Cx)(e:Option Expr)(m:MO):Prop:=PO X e (tMO X.K m)
def PO.imp{e:Option Expr}{t t':TO}(h:PO X e t)(i:∀ σ H Q,t' σ H Q->t σ H Q):PO X e t':=fun pins s σ H Q I q=>h pins s σ H Q I (i σ H Q q)
def Ra:DO X none bu:=PO.imp Pp fun σ H Q ⟨μ,S,env,d,S',hS,hE,hm,post⟩=>by cases hm;exact post H μ hS.ext hS
def QZ{e:Expr}{m:ME}(h:DE X e m):DO X (some e) (bU m):=PO.imp (Po h) fun σ H Q ⟨μ,S,env,d,S',hS,hE,hm,post⟩=>by
 obtain⟨⟨x,S1⟩,h1,hm⟩:=WI.mp hm
 cases x <;> first | cases hm | skip
 exact⟨μ,S,env,_,_,hS,hE,h1,fun v H1 μ1 e1 s1 r1=>⟨_,r1.int_inv,post H1 μ1 e1 s1⟩⟩
noncomputable def bt(a:ME)(lo hi:MO):ME:=fun env S=>(a env S).bind fun p=>(lo env p.2).bind fun l=>(hi env l.2).bind fun h=>match p.1 with
 | .tup xs=>some (.tup (fO xs l.1 h.1),h.2)
 | .lst xs=>some (.lst (fO xs l.1 h.1),h.2)
 | .rol xs=>some (.lst (fO xs l.1 h.1),h.2)
 | .ref r=>match h.2[r]? with | some (.lst xs)=>some (.lst (fO xs l.1 h.1),h.2) | _=>none
 | _=>none
def tE{vs:List V}{ds:List D}{lo hi:Option Int}(r:Reps K μ H vs ds):Reps K μ H (Dh vs lo hi) (fO ds lo hi):=by
 unfold Dh fO
 rw [r.length]
 exact(r.drop _).take _
def OQ:SlR X (fun x lo hi H Q=>∃ a xs,x=.ref a/\mE X.K H a xs/\(HT.ft xs.length 0 lo=0/\HT.ft xs.length xs.length hi=xs.length)/\Q (.ref a) H):=by
 intro pins s σ H x v vl vu lo hi sl Q I rx hs pl pu h
 obtain⟨a,xs,rfl,hx,hw,q⟩:=h
 cases rx
 obtain⟨its,r,ht,hz⟩:=I.tuple hx
 have hlen:its.toArray.size=xs.length:=by rw [WN];exact r.length.symm
 refine⟨"tuple",_,PyProof.Rows.slot_tuple_getitem.lookup,ht.typeIs,?_⟩
 exact HT.oG ht hs pl pu (by rw [hlen];exact hw) ⟨.ref a,H,I,rfl,q⟩
def NY{a:Expr}{lo hi:Option Expr}{ma:ME}{ml mh:MO}{pos p2:Pos}(ha:DE X a ma)(hl:DO X lo ml)(hh:DO X hi mh):DE X (.Subscript a (.Slice lo hi none p2) pos) (bt ma ml mh):=
 PE.imp (Lr (SlR.or OQ (SlR.or Th OR)) ha hl hh) fun σ H Q ⟨μ,S,env,d,S',hS,hE,hm,post⟩=>by
  obtain⟨⟨x,S1⟩,h1,hm⟩:=WI.mp hm
  obtain⟨⟨l,S2⟩,h2,hm⟩:=WI.mp hm
  obtain⟨⟨h,S3⟩,h3,hm⟩:=WI.mp hm
  refine⟨μ,S,env,x,S1,hS,hE,h1,fun v H1 μ1 e1 s1 r1=>⟨μ1,S1,env,l,S2,s1,hE.mono e1,h2,fun H2 μ2 e2 s2=>⟨μ2,S2,env,h,S3,s2,(hE.mono e1).mono e2,h3,fun H3 μ3 e3 s3=>?_⟩⟩⟩
  have r3:=(r1.mono e2).mono e3
  have e:=(e1.trans e2).trans e3
  cases x with
  | tup xs=>
   cases hm
   have r3':=r3
   obtain⟨a,vs,rfl,q1,r⟩:=r3.sqT
   by_cases hw:HT.ft vs.length 0 l=0/\HT.ft vs.length vs.length h=vs.length
   ·refine .inl ⟨a,vs,rfl,q1,hw,?_⟩
    have:fO xs l h=xs:=by unfold fO;rw [<- r.length,hw.1,hw.2];simp [r.length]
    rw [this] at post
    exact post _ H3 μ3 e s3 r3'
   ·exact .inr (.inl ⟨a,vs,rfl,q1,hw,fun p hp=>(post.ext e).tup s3 hp (tE r)⟩)
  | lst xs=>
   cases hm
   obtain⟨a,vs,rfl,q1,n1,r⟩:=r3.sqL
   exact .inr (.inr ⟨a,vs,rfl,.inl (.inl q1),fun p hp=>(post.ext e).lst s3 hp (tE r)⟩)
  | rol xs=>
   cases hm
   obtain⟨a,vs,rfl,q1,r⟩:=r3.sqR
   exact .inr (.inr ⟨a,vs,rfl,q1,fun p hp=>(post.ext e).lst s3 hp (tE r)⟩)
  | ref r=>
   dsimp only at hm
   split at hm
   ·rename_i xs q
    cases hm
    cases r3 with
    | @ref a _ ha=>
     obtain⟨vs,hv,rv⟩:=s3.cell r a _ ha q
     exact .inr (.inr ⟨a,vs,rfl,.inl (.inl hv),fun p hp=>(post.ext e).lst s3 hp (tE rv)⟩)
   ·cases hm
  | _=>cases hm
end
section
variable{X:Cx}{K:W.Frag}{μ μ':Fp}{H H':Hp}{S:ac}
noncomputable def bd(f:List D->ac->Option (D×ac))(ms:MA):ME:=fun env S=>(ms env S).bind fun p=>f p.1 p.2
def Kz{f:List D->ac->Option (D×ac)}{ms:MA}{σ:L2.St}{Q:VK}(h:tM K (bd f ms) σ H Q):tCB (Lb K f) (tMA K ms) σ H Q:=by
 obtain⟨μ,S,env,d,S',hS,hE,hm,post⟩:=h
 obtain⟨⟨xs,S1⟩,h1,hm⟩:=WI.mp hm
 exact⟨μ,S,env,xs,S1,hS,hE,h1,fun vs H1 μ1 e1 s1 r1=>⟨μ1,S1,xs,d,S',s1,r1,hm,post.ext e1⟩⟩
section
variable{x:Str}{p pos:Pos}{e:Expr}{es:List Expr}{ms:MA}{id T:String}{f:List D->ac->Option (D×ac)}
def qC(hc:CallR X (.builtin id) (Lb X.K f))(hm:X.mg x=none)(hv:bootBuiltins x=some (.builtin id))(ha:DA X (e::es) ms)(hg:Gl X x:=by rfl)(hn:x ≠ "__name__":=by decide)(hdb:(x == ("__debug__":Str))=false:=by decide)
  (he:starEach (e::es) X.env=(false,eval e X.env)::starEach es X.env:=by rfl) (hpl:(backTo pos (starEach es X.env)).any (·.1)=false:=by rfl):DE X (.Call (.Name x p) (e::es) [] pos) (bd f ms):=
 PE.imp (Bh hc hg hm hv ha hn hdb he hpl) fun _ _ _ h=>Kz h
def rE(hc:CallR X (.type T) (Lb X.K f))(hm:X.mg x=none)(hv:bootBuiltins x=some (.type T))(ha:DA X (e::es) ms)(hg:Gl X x:=by rfl)(hn:x ≠ "__name__":=by decide)(hdb:(x == ("__debug__":Str))=false:=by decide)
  (he:starEach (e::es) X.env=(false,eval e X.env)::starEach es X.env:=by rfl) (hpl:(backTo pos (starEach es X.env)).any (·.1)=false:=by rfl):DE X (.Call (.Name x p) (e::es) [] pos) (bd f ms):=
 PE.imp (Ig hc hg hm hv ha hn hdb he hpl) fun _ _ _ h=>Kz h
end
def Reps.one{vs:List V}{d:D}(r:Reps K μ H vs [d]):∃ v,vs=[v]/\Rep K μ H v d:=by
 cases r with
 | cons h t=>cases t;exact⟨_,rfl,h⟩
def Reps.two{vs:List V}{d e:D}(r:Reps K μ H vs [d,e]):∃ v w,vs=[v,w]/\Rep K μ H v d/\Rep K μ H w e:=by
 cases r with
 | cons h t=>cases t with | cons h' t=>cases t;exact⟨_,_,rfl,h,h'⟩
noncomputable def aP(f:ac->List D->Option D):List D->ac->Option (D×ac):=fun ds S=>(f S ds).bind fun d=>some (d,S)
def eZ{f:ac->List D->Option D}{ds:List D}{S S':ac}{d:D}(h:aP f ds S=some (d,S')):S'=S/\f S ds=some d:=by
 obtain⟨z,h1,h⟩:=WI.mp h
 cases h
 exact⟨rfl,h1⟩
noncomputable def fg(S:ac):List D->Option D
 | [.str z]=>if z.length<=sizeLine then some (.int z.length) else none
 | [d]=>(ii S d).bind fun xs=>some (.int xs.length)
 | _=>none
def Op:CallR X (.builtin "len") (Lb X.K (aP fg)):=CallR.imp (call_len_seq.or Ap) fun xs H Q ⟨μ,S,ds,d,S',hS,hr,hm,post⟩=>by
 obtain⟨rfl,hm⟩:=eZ hm
 match ds,hr,hm with
 | [D.str z],hr,hm=>
  obtain⟨v,rfl,r⟩:=hr.one
  simp only [fg] at hm
  split at hm
  ·rename_i hl;cases hm;exact .inr ⟨z,by rw [r.str_inv],hl,post.here hS (.int _)⟩
  ·cases hm
 | [D.non],hr,hm=>cases hm
 | [D.bl _],hr,hm=>cases hm
 | [D.int _],hr,hm=>cases hm
 | [D.dct _ _],hr,hm=>cases hm
 | [D.tup xs],hr,hm=>
  obtain⟨v,rfl,r⟩:=hr.one
  cases hm
  obtain⟨a,vs,rfl,hq,r⟩:=kD hS r rfl
  exact .inl ⟨a,vs,rfl,hq,by rw [r.length];exact post.here hS (.int _)⟩
 | [D.lst xs],hr,hm=>
  obtain⟨v,rfl,r⟩:=hr.one
  cases hm
  obtain⟨a,vs,rfl,hq,r⟩:=kD hS r rfl
  exact .inl ⟨a,vs,rfl,hq,by rw [r.length];exact post.here hS (.int _)⟩
 | [D.rol xs],hr,hm=>
  obtain⟨v,rfl,r⟩:=hr.one
  cases hm
  obtain⟨a,vs,rfl,hq,r⟩:=kD hS r rfl
  exact .inl ⟨a,vs,rfl,hq,by rw [r.length];exact post.here hS (.int _)⟩
 | [D.ref i],hr,hm=>
  obtain⟨v,rfl,r⟩:=hr.one
  obtain⟨xs,h1,hm⟩:=WI.mp hm
  cases hm
  obtain⟨a,vs,rfl,hq,r⟩:=kD hS r h1
  exact .inl ⟨a,vs,rfl,hq,by rw [r.length];exact post.here hS (.int _)⟩
 | [],hr,hm=>cases hm
 | a::b::c,hr,hm=>simp [fg] at hm
noncomputable def jk(S:ac):List D->Option D
 | [.int i]=>some (.int i)
 | [.bl k]=>some (.int (if k then 1 else 0))
 | _=>none
def Oq:CallR X (.type "int") (Lb X.K (aP jk)):=CallR.imp JT fun xs H Q ⟨μ,S,ds,d,S',hS,hr,hm,post⟩=>by
 obtain⟨rfl,hm⟩:=eZ hm
 match ds,hr,hm with
 | [D.int i],hr,hm=>obtain⟨v,rfl,r⟩:=hr.one;cases hm;exact .inl ⟨i,by rw [r.int_inv],post.here hS (.int _)⟩
 | [D.bl k],hr,hm=>obtain⟨v,rfl,r⟩:=hr.one;cases hm;exact .inr ⟨k,by rw [r.bl_inv],post.here hS (.int _)⟩
 | [D.non],hr,hm=>cases hm
 | [D.str _],hr,hm=>cases hm
 | [D.dct _ _],hr,hm=>cases hm
 | [D.tup _],hr,hm=>cases hm
 | [D.lst _],hr,hm=>cases hm
 | [D.rol _],hr,hm=>cases hm
 | [D.ref _],hr,hm=>cases hm
 | [],hr,hm=>cases hm
 | a::b::c,hr,hm=>simp [jk] at hm
noncomputable def Sx(S:ac):List D->Option D
 | [.int i,.int j]=>some (.int (if j>i then j else i))
 | _=>none
noncomputable def CS(S:ac):List D->Option D
 | [.int i,.int j]=>some (.int (if j<i then j else i))
 | _=>none
def So{ds:List D}{f:Int->Int->D}{d:D}(h:(match ds with | [.int i,.int j]=>some (f i j) | _=>none)=some d):∃ i j,ds=[.int i,.int j]/\d=f i j:=by
 split at h
 ·cases h;exact⟨_,_,rfl,rfl⟩
 ·cases h
def JW(hc:X.calm=true):CallR X (.builtin "max") (Lb X.K (aP Sx)):=CallR.imp (JS hc) fun xs H Q ⟨μ,S,ds,d,S',hS,hr,hm,post⟩=>by
 obtain⟨rfl,hm⟩:=eZ hm
 obtain⟨i,j,rfl,rfl⟩:=So (f:=fun i j=>.int (if j>i then j else i)) hm
 obtain⟨v,w,rfl,r1,r2⟩:=hr.two
 exact⟨i,j,by rw [r1.int_inv,r2.int_inv],post.here hS (.int _)⟩
def JU(hc:X.calm=true):CallR X (.builtin "min") (Lb X.K (aP CS)):=CallR.imp (JQ hc) fun xs H Q ⟨μ,S,ds,d,S',hS,hr,hm,post⟩=>by
 obtain⟨rfl,hm⟩:=eZ hm
 obtain⟨i,j,rfl,rfl⟩:=So (f:=fun i j=>.int (if j<i then j else i)) hm
 obtain⟨v,w,rfl,r1,r2⟩:=hr.two
 exact⟨i,j,by rw [r1.int_inv,r2.int_inv],post.here hS (.int _)⟩
noncomputable def cw(c:List D->D)(S:ac):List D->Option D
 | [d]=>(ii S d).bind fun xs=>some (c xs)
 | _=>none
def vp{c:List D->D}{S:ac}{ds:List D}{d:D}(h:cw c S ds=some d):∃ x xs,ds=[x]/\ii S x=some xs/\d=c xs:=by
 match ds,h with
 | [x],h=>
  obtain⟨xs,h1,h⟩:=WI.mp h
  cases h
  exact⟨x,xs,rfl,h1,rfl⟩
 | [],h=>cases h
 | _::_::_,h=>cases h
def JX:CallR X (.type "list") (Lb X.K (aP (cw .lst))):=CallR.imp Ao fun xs H Q ⟨μ,S,ds,d,S',hS,hr,hm,post⟩=>by
 obtain⟨rfl,hm⟩:=eZ hm
 obtain⟨x,ys,rfl,h1,rfl⟩:=vp hm
 obtain⟨v,rfl,r⟩:=hr.one
 obtain⟨a,vs,rfl,hq,r⟩:=kD hS r h1
 exact⟨a,vs,rfl,hq,fun l hl=>post.lst hS hl r⟩
def FK:CallR X (.type "tuple") (Lb X.K (aP (cw .tup))):=CallR.imp wD fun xs H Q ⟨μ,S,ds,d,S',hS,hr,hm,post⟩=>by
 obtain⟨rfl,hm⟩:=eZ hm
 obtain⟨x,ys,rfl,h1,rfl⟩:=vp hm
 obtain⟨v,rfl,r⟩:=hr.one
 cases x with
 | tup zs=>
  cases h1
  have r':=r
  obtain⟨a,vs,rfl,q,r⟩:=r.sqT
  exact⟨a,vs,rfl,.inr ⟨q,post.here hS r'⟩⟩
 | lst zs=>
  cases h1
  obtain⟨a,vs,rfl,q,n,r⟩:=r.sqL
  exact⟨a,vs,rfl,.inl ⟨.inl (.inl q),fun l hl=>post.tup hS hl r⟩⟩
 | rol zs=>
  cases h1
  obtain⟨a,vs,rfl,q,r⟩:=r.sqR
  exact⟨a,vs,rfl,.inl ⟨q,fun l hl=>post.tup hS hl r⟩⟩
 | ref i=>
  simp only [ii] at h1
  cases r with
  | @ref a _ h'=>
   cases q:S'[i]? with
   | none=>rw [q] at h1;cases h1
   | some c=>
    rw [q] at h1
    have ck:=hS.cell i a c h' q
    cases c with
    | lst xs=>cases h1;obtain⟨vs,e,r⟩:=ck;exact⟨a,vs,rfl,.inl ⟨.inl (.inl e),fun l hl=>post.tup hS hl r⟩⟩
    | dct ks xs=>cases h1
 | _=>cases h1
noncomputable def mB:List D->Option (List Bool)
 | []=>some []
 | .bl b::r=>(mB r).bind fun bs=>some (b::bs)
 | _=>none
noncomputable def Ab(S:ac):List D->Option D
 | [.lst xs]=>(mB xs).bind fun bs=>some (.bl (bs.all id))
 | _=>none
def sA:∀ {vs:List V} {ds:List D} {us:List Value} {bs:List Bool},Reps K μ H vs ds->Vals vs us->mB ds=some bs->LSm.BoolsAre us bs
 | _,_,_,_,.nil,.nil,h=>by cases h;exact .nil
 | _,_,_,_,.cons (d:=d) r t,.cons rv tv,h=>by
  cases d <;> first | cases h | skip
  obtain⟨cs,h1,h⟩:=WI.mp h
  cases h
  cases r;cases rv
  exact .cons _ (sA t tv h1)
def Os(hc:X.calm=true):CallR X (.builtin "all") (Lb X.K (aP Ab)):=by
 intro pins s σ H xs us Q I rv h
 obtain⟨μ,S,ds,d,S',hS,hr,hm,post⟩:=h
 obtain⟨rfl,hm⟩:=eZ hm
 match ds,hr,hm with
 | [D.lst zs],hr,hm=>
  obtain⟨v,rfl,r⟩:=hr.one
  obtain⟨bs,h1,hm⟩:=WI.mp hm
  cases hm
  obtain⟨u,rfl,ru⟩:=rN rv
  obtain⟨a,vs,rfl,q,n,r⟩:=r.sqL
  cases ru
  obtain⟨its,rv',pl,hz⟩:=I.list (.inl (.inl q))
  have hl:=pl.isList
  have hb:=sA r rv' h1
  have hlt:a<s.heap.objs.size:=by obtain⟨_,e,_⟩:=hl;exact Xb e
  refine call_all_walk (ZI hl ?_)
  refine⟨s.heap.objs.size,[s.heap.objs.size,a],[s.heap.objs.size],its.toArray.size,_,_,fun i=>(bs[i]?).getD true,rfl,Walks.list (A:=X.A.in1) (I.ok.hd hc) _ a (Xx hlt) its.toArray,
   ⟨⟨_,Xe _ rfl,rfl,rfl⟩,hl.push _⟩,fun i v s' Q' E' hP hQ=>?_,fun h' tk hk=>?_⟩
  ·obtain⟨b,e,rfl⟩:=hb.get i v (by simpa using hP)
   simp only [e,Option.getD_some] at hQ
   exact YB hQ
  ·have e:((List.range its.toArray.size).all fun i=>(bs[i]?).getD true)=bs.all id:=by
    rw [WN,hb.length];exact LSm.range_all bs
   rw [e]
   exact⟨.bl _,H,I.kept (LSm.kept_iter hk),rfl,post.here hS (.bl _)⟩
 | [D.non],hr,hm=>cases hm
 | [D.bl _],hr,hm=>cases hm
 | [D.int _],hr,hm=>cases hm
 | [D.str _],hr,hm=>cases hm
 | [D.dct _ _],hr,hm=>cases hm
 | [D.tup _],hr,hm=>cases hm
 | [D.rol _],hr,hm=>cases hm
 | [D.ref _],hr,hm=>cases hm
 | [],hr,hm=>cases hm
 | a::b::c,hr,hm=>simp [Ab] at hm
noncomputable def tyD(S:ac):D->Option String
 | .non=>some "NoneType"
 | .bl _=>some "bool"
 | .int _=>some "int"
 | .str _=>some "str"
 | .tup _=>some "tuple"
 | .lst _=>some "list"
 | .rol _=>some "list"
 | .dct _ _=>some "dict"
 | .ref r=>match S[r]? with | some (.lst _)=>some "list" | some (.dct _ _)=>some "dict" | none=>none
def Mz(T:String)(t:String):Bool:=t == T||(t == "bool" && T == "int")
noncomputable def lA(T:String)(S:ac)(d:D):Option D:=(tyD S d).bind fun t=>some (.bl (Mz T t))
noncomputable def dN(T:String)(m:ME):ME:=fun env S=>(m env S).bind fun p=>(lA T p.2 p.1).bind fun d=>some (d,p.2)
def HB{S:ac}{d:D}{t:String}(h:tyD S d=some t):t = "NoneType"\/t = "bool"\/t = "int"\/t = "str"\/t = "tuple"\/t = "list"\/t = "dict":=by
 cases d <;> simp only [tyD] at h <;> first | (cases h;simp) | (split at h <;> first | (cases h;simp) | cases h)
def Qe(K:W.Frag){T t:String}(hT:T = "int"\/T = "bool"\/T = "str"\/T = "tuple"\/T = "list"\/T = "dict")(ht:t = "NoneType"\/t = "bool"\/t = "int"\/t = "str"\/t = "tuple"\/t = "list"\/t = "dict") :
  W.kitOne K (.type t) (.type T)=some (Mz T t):=by
 rcases hT with rfl | rfl | rfl | rfl | rfl | rfl <;> rcases ht with rfl | rfl | rfl | rfl | rfl | rfl | rfl <;> rfl
def kia_D{pins:List (Addr×Obj)}{σ:L2.St}{s:Shared}{v:V}{u:Value}{d:D}{t:String}{b:Bool}{c:Value}{Q:Value->Shared->Prop}{E:Value->Shared->Prop}(I:Inv X pins σ H s)(hS:SOk X.K μ S H)(r:Rep X.K μ H v d)(ru:RelV v u)(ht:tyD S d=some t)
  (e:W.kitOne X.K (.type t) c=some b) (h:∀ tk,Q (.bool b) { s with toks:=tk }):wpAny (model X.prog X.w) X.A (call (.builtin "isinstance") [u,c]) Q E s:=by
 have tupK:∀ {a:Addr} {vs:List V},mE X.K H a vs->W.KitAt a "tuple" s.heap:=fun {a vs} q=>by
  obtain⟨its,_,⟨o,h1,h2,_⟩,_⟩:=I.tuple q;exact⟨o,h1,h2⟩
 have lstK:∀ {a:Addr} {vs:List V},oI X.K H a vs->W.KitAt a "list" s.heap:=fun {a vs} q=>by
  obtain⟨its,_,⟨o,n,h1,h2,_⟩,_⟩:=I.list q;exact⟨o,h1,h2⟩
 have dK:∀ {a:Addr} {kvs:List (bG×V)},H a=some (.dK kvs)->W.KitAt a "dict" s.heap:=fun {a kvs} q=>by
  obtain⟨_,_,vs,_,p⟩:=(show ObjOk X.prog X.w H s.heap a (.dK kvs) from I.hok a _ q)
  obtain⟨o,es,ep,h1,h2,_⟩:=p
  exact⟨o,h1,h2.1⟩
 cases r with
 | non=>cases ht;cases ru;exact YF W.kitx_none I.kIn True.intro e (fun z=>nomatch z) h
 | bl y=>cases ht;cases ru;exact YF W.kitx_bool I.kIn True.intro e (fun z=>nomatch z) h
 | int i=>cases ht;obtain⟨t,rfl⟩:=ru;exact YF W.kitx_int I.kIn True.intro e (fun z=>nomatch z) h
 | str y=>cases ht;obtain⟨t,rfl⟩:=ru;exact YF W.kitx_str I.kIn True.intro e (fun z=>nomatch z) h
 | tup q n r=>cases ht;cases ru;exact YF W.kitx_tuple I.kIn (tupK (.inl (.inl q))) e (fun z=>nomatch z) h
 | ktup q r=>cases ht;cases ru;exact YF W.kitx_tuple I.kIn (tupK (.inr q)) e (fun z=>nomatch z) h
 | lst q n r=>cases ht;cases ru;exact YF ZY I.kIn (lstK (.inl (.inl q))) e (fun z=>nomatch z) h
 | rol q n r=>cases ht;cases ru;exact YF ZY I.kIn (lstK (.inl q)) e (fun z=>nomatch z) h
 | krol q r=>cases ht;cases ru;exact YF ZY I.kIn (lstK (.inr q)) e (fun z=>nomatch z) h
 | dct q n r=>cases ht;cases ru;exact YF W.kitx_dict I.kIn (dK q) e (fun z=>nomatch z) h
 | @ref a i h'=>
  cases ru
  simp only [tyD] at ht
  cases q:S[i]? with
  | none=>rw [q] at ht;cases ht
  | some c'=>
   rw [q] at ht
   have ck:=hS.cell i a c' h' q
   cases c' with
   | lst xs=>cases ht;obtain⟨vs,q,r⟩:=ck;exact YF ZY I.kIn (lstK (.inl (.inl q))) e (fun z=>nomatch z) h
   | dct ks xs=>cases ht;obtain⟨kvs,q,r⟩:=ck;exact YF W.kitx_dict I.kIn (dK q) e (fun z=>nomatch z) h
def JG{a:Expr}{ma:ME}{T:String}{x:Str}{p p2 pos:Pos}(hm:X.mg "isinstance" = none)(hmT:X.mg x=none)(hb:bootBuiltins x=some (.type T))(ha:DE X a ma)
  (hT:T = "int"\/T = "bool"\/T = "str"\/T = "tuple"\/T = "list"\/T = "dict":=by simp)
  (hg:Gl X "isinstance":=by rfl) (hgT:Gl X x:=by rfl) (hn:x ≠ "__name__":=by decide) (hd:(x == ("__debug__":Str))=false:=by decide)
  (hs1:starEach [a,.Name x p2] X.env=(false,eval a X.env)::starEach [.Name x p2] X.env:=by rfl) (hs2:starEach [.Name x p2] X.env=(false,eval (.Name x p2) X.env)::starEach [] X.env:=by rfl) (hpl:(backTo pos (starEach [.Name x p2] X.env)).any (·.1)=false:=by rfl) :
  DE X (.Call (.Name "isinstance" p) [a,.Name x p2] [] pos) (dN T ma):=by
 have hc:CallR X (.builtin "isinstance") (fun vs H Q=>∃ v μ S d t,vs=[v,.ty T]/\SOk X.K μ S H/\Rep X.K μ H v d/\tyD S d=some t/\Q (.bl (Mz T t)) H):=by
  intro pins s σ H xs us Q I rv h
  obtain⟨v,μ,S,d,t,rfl,hS,r,ht,q⟩:=h
  obtain⟨u,w',rfl,r1,r2⟩:=Ko rv
  cases r2
  exact kia_D I hS r r1 ht (Qe _ hT (HB ht)) fun tk=>⟨.bl _,H,I.tok _,rfl,q⟩
 refine PE.imp (Bh hc hg hm boot_isinstance (yU ha (yU (Pw (v:=.ty T) hgT hmT hb rfl hn hd) LC hs2) hs1) (by decide) (by decide) hs1 hpl) fun σ H Q ⟨μ,S,env,d,S',hS,hE,hm,post⟩=>?_
 obtain⟨⟨x,S1⟩,h1,hm⟩:=WI.mp hm
 obtain⟨z,h2,hm⟩:=WI.mp hm
 cases hm
 obtain⟨t,h3,h2⟩:=WI.mp h2
 cases h2
 exact⟨μ,S,env,x,S1,hS,hE,h1,fun v H1 μ1 e1 s1 r1=>⟨v,μ1,S1,x,t,rfl,s1,r1,h3,post _ H1 μ1 e1 s1 (.bl _)⟩⟩
end
section
variable{X:Cx}{K:W.Frag}{μ μ':Fp}{H H':Hp}{S:ac}
noncomputable def KG(K:W.Frag)(n:Nat)(f:List D->ac->Option (D×ac)):Sp:=fun vs H Q _=>∃ μ S ds d S',SOk K μ S H/\Reps K μ H vs ds/\ds.length=n/\f ds S=some (d,S')/\Post K μ H S' d Q
structure Fn(P:Program)(w:World)(K:W.Frag)(mg:Str->Option Value)(base:Heap)(k:Nat)(x:Str)(n:Nat)(f:List D->ac->Option (D×ac)):Prop where
 ex:∃ (a:Addr) (fd:FuncData) (ps:List Str),ps.length=n/\FnOk P w K mg base Hq k a fd ps (KG K n f)/\mg x=some (.ref a)/\W.keepIn K (.ref a)=true/\Binds K fd ps []
noncomputable def ao(n:Nat)(f:List D->ac->Option (D×ac))(ms:MA):ME:=fun env S=>(ms env S).bind fun p=>if p.1.length=n then f p.1 p.2 else none
def AN{n:Nat}{f:List D->ac->Option (D×ac)}{ms:MA}{σ:L2.St}{Q:VK}(h:tM K (ao n f ms) σ H Q):FZ (KG K n f) [] E0 (tMA K ms) σ H Q:=by
 obtain⟨μ,S,env,d,S',hS,hE,hm,post⟩:=h
 obtain⟨⟨xs,S1⟩,h1,hm⟩:=WI.mp hm
 dsimp only at hm
 split at hm
 ·rename_i hn
  refine⟨μ,S,env,xs,S1,hS,hE,h1,fun vs H1 μ1 e1 s1 r1=>?_⟩
  show KG K n f (vs++[]) H1 Q E0
  rw [Xr]
  exact⟨μ1,S1,xs,d,S',s1,r1,hn,hm,post.ext e1⟩
 ·cases hm
def Rn{k n:Nat}{x:Str}{f:List D->ac->Option (D×ac)}{e:Expr}{es:List Expr}{ms:MA}{p pos:Pos}(F:Fn X.prog X.w X.K X.mg X.base k x n f)(hr:Room k X.A)(ha:DA X (e::es) ms)(hg:Gl X x:=by rfl)
  (hdb:(x == ("__debug__":Str))=false:=by decide) (he:starEach (e::es) X.env=(false,eval e X.env)::starEach es X.env:=by rfl) (hpl:(backTo pos (starEach es X.env)).any (·.1)=false:=by rfl) :
  DE X (.Call (.Name x p) (e::es) [] pos) (ao n f ms):=by
 obtain⟨a,fd,ps,hn,F,hm,hk,hb⟩:=F.ex
 exact PE.imp (Pv F hr hg hm hk hb .nil LB ha hdb he hpl) fun _ _ _ h=>AN h
def Of{k:Nat}{x:Str}{f:List D->ac->Option (D×ac)}{p pos:Pos}(F:Fn X.prog X.w X.K X.mg X.base k x 0 f)(hr:Room k X.A)(hg:Gl X x:=by rfl)
  (hdb:(x == ("__debug__":Str))=false:=by decide):DE X (.Call (.Name x p) [] [] pos) (ao 0 f ai):=by
 obtain⟨a,fd,ps,hn,F,hm,hk,hb⟩:=F.ex
 refine PE.imp (LA F hr hg hm hk hb .nil LB hdb) fun σ H Q h=>?_
 obtain⟨μ,S,env,d,S',hS,hE,hm,post⟩:=h
 exact⟨μ,S,[],d,S',hS,.nil,rfl,hm,post⟩
mutual
noncomputable def nK(n:Nat):D->Bool
 | .tup xs=>closDs n xs
 | .lst xs=>closDs n xs
 | .rol xs=>closDs n xs
 | .dct _ xs=>closDs n xs
 | .ref r=>decide (r<n)
 | _=>true
noncomputable def closDs(n:Nat):List D->Bool
 | []=>true
 | d::ds=>nK n d&&closDs n ds
end
noncomputable def xZ(n:Nat):Cell->Bool
 | .lst xs=>closDs n xs
 | .dct _ xs=>closDs n xs
mutual
def Rep.trunc{cs l fb:List Addr}:∀ {v:V} {d:D},Rep K ⟨cs++l,fb⟩ H v d->nK cs.length d=true->Rep K ⟨cs,fb⟩ H v d
 | _,_,.non,_=>.non
 | _,_,.bl b,_=>.bl b
 | _,_,.int i,_=>.int i
 | _,_,.str x,_=>.str x
 | _,_,.tup h n r,c=>.tup h ⟨fun z=>n.1 (Xu _ z),n.2⟩ (Reps.trunc r (by simpa only [nK] using c))
 | _,_,.ktup h r,c=>.ktup h (Reps.trunc r (by simpa only [nK] using c))
 | _,_,.lst h n r,c=>.lst h ⟨fun z=>n.1 (Xu _ z),n.2⟩ (Reps.trunc r (by simpa only [nK] using c))
 | _,_,.rol h n r,c=>.rol h ⟨fun z=>n.1 (Xu _ z),n.2⟩ (Reps.trunc r (by simpa only [nK] using c))
 | _,_,.krol h r,c=>.krol h (Reps.trunc r (by simpa only [nK] using c))
 | _,_,.dct h n r,c=>.dct h ⟨fun z=>n.1 (Xu _ z),n.2⟩ (Reps.trunc r (by simpa only [nK] using c))
 | _,_,.ref h,c=>.ref (by
   have hl:=XO c
   have h:(cs++l)[_]?=some _:=h
   rw [WZ hl] at h
   exact h)
def Reps.trunc{cs l fb:List Addr}:∀ {vs:List V} {ds:List D},Reps K ⟨cs++l,fb⟩ H vs ds->closDs cs.length ds=true->Reps K ⟨cs,fb⟩ H vs ds
 | _,_,.nil,_=>.nil
 | _,_,.cons h t,c=>by
  rw [closDs,WP] at c
  exact .cons (Rep.trunc h c.1) (Reps.trunc t c.2)
end
mutual
def Rep.closed:∀ {v:V} {d:D},Rep K μ H v d->nK μ.cs.length d=true
 | _,_,.non=>rfl
 | _,_,.bl b=>rfl
 | _,_,.int i=>rfl
 | _,_,.str x=>rfl
 | _,_,.tup h n r=>Reps.closed r
 | _,_,.ktup h r=>Reps.closed r
 | _,_,.lst h n r=>Reps.closed r
 | _,_,.rol h n r=>Reps.closed r
 | _,_,.krol h r=>Reps.closed r
 | _,_,.dct h n r=>Reps.closed r
 | _,_,.ref h=>WU (WJ.mp h).1
def Reps.closed:∀ {vs:List V} {ds:List D},Reps K μ H vs ds->closDs μ.cs.length ds=true
 | _,_,.nil=>rfl
 | _,_,.cons h t=>by rw [closDs,Rep.closed h,Reps.closed t];rfl
end
def SOk.closed(s:SOk K μ S H):∀ c∈S,xZ S.length c=true:=fun c hc=>by
 obtain⟨r,hr⟩:=YX.mp hc
 have hl:=(WJ.mp hr).1
 have hl':r < μ.cs.length:=by rw [s.len];exact hl
 have:=s.cell r _ c (WS hl') hr
 cases c with
 | lst ds=>obtain⟨vs,_,q⟩:=this;rw [<- s.len];exact q.closed
 | dct ks ds=>obtain⟨vs,_,_,q⟩:=this;rw [<- s.len];exact q.closed
def SOk.trunc{S' g:ac}(s:SOk K μ (S'++g) H)(hc:∀ c∈S',xZ S'.length c=true):∃ cs l,μ.cs=cs++l/\cs.length=S'.length/\SOk K ⟨cs,μ.fb⟩ S' H:=by
 obtain⟨cs0,fb⟩:=μ
 have hlen:cs0.length=S'.length+g.length:=by have:=s.len;simpa using this
 have hcl:(cs0.take S'.length).length=S'.length:=by rw [YH];omega
 refine⟨cs0.take S'.length,cs0.drop S'.length,(YW _ _).symm,hcl,s.nd.sublist (List.take_sublist _ _),hcl,fun r a c h1 h2=>?_,s.fdom,fun a ha z=>s.disj a ha (Yb z)⟩
 have hr:=(WJ.mp h2).1
 have h1':cs0[r]?=some a:=by
  have h1:(cs0.take S'.length)[r]?=some a:=h1
  rwa [aaj hr] at h1
 have ck:=s.cell r a c h1' (by rw [WZ hr];exact h2)
 have cc:=hc c (Xh h2)
 have e:cs0=cs0.take S'.length++cs0.drop S'.length:=(YW _ _).symm
 cases c with
 | lst ds=>
  obtain⟨vs,q,r⟩:=ck
  have r':Reps K ⟨cs0.take S'.length++cs0.drop S'.length,fb⟩ H vs ds:=by rw [<- e];exact r
  exact⟨vs,q,r'.trunc (by rw [hcl];exact cc)⟩
 | dct ks ds=>
  obtain⟨vs,q,q2,r⟩:=ck
  have r':Reps K ⟨cs0.take S'.length++cs0.drop S'.length,fb⟩ H (vs.map (·.2)) ds:=by rw [<- e];exact r
  exact⟨vs,q,q2,r'.trunc (by rw [hcl];exact cc)⟩
def Post.trunc{S' g:ac}{d:D}{Q:VK}(post:Post K μ H S' d Q)(hd:nK S'.length d=true)(hc:∀ c∈S',xZ S'.length c=true)(hl:μ.cs.length<=S'.length):Post K μ H (S'++g) d Q:=fun v H' μ' e s r=>by
 obtain⟨cs,l,q,hcl,s'⟩:=s.trunc hc
 obtain⟨cs',fb'⟩:=μ'
 have q':cs'=cs++l:=q
 subst q'
 refine post v H' ⟨cs,fb'⟩ ⟨e.fb,?_,e.keep,fun a ha=>e.dom a (Xu _ ha)⟩ s' (r.trunc (by rw [hcl];exact hd))
 obtain⟨l0,q0,h0⟩:=e.pre
 have q0:cs++l = μ.cs++l0:=q0
 have hle:μ.cs.length<=cs.length:=by rw [hcl];exact hl
 refine⟨cs.drop μ.cs.length,?_,fun a ha=>h0 a ?_⟩
 ·have t1:(cs++l).take μ.cs.length = μ.cs:=by rw [q0];simp
  rw [List.take_append_of_le_length hle] at t1
  show cs = μ.cs++cs.drop μ.cs.length
  conv=>lhs;rw [<- YW μ.cs.length cs,t1]
 ·have t2:(cs++l).drop μ.cs.length=l0:=by rw [q0];simp
  rw [<- t2,List.drop_append_of_le_length hle]
  exact Xu _ ha
def Runs(m:MS)(env:bp)(S:ac)(d:D)(S':ac):Prop:=
 ∃ o g,m env S=some o/\(g=[]\/(nK S'.length d=true/\(∀ c∈S',xZ S'.length c=true)/\S.length<=S'.length))/\(o=.rt d (S'++g)\/(d=.non/\∃ env',o=.nx env' (S'++g)))
def Runs.ret{m:MS}{env:bp}{S S':ac}{d:D}(h:m env S=some (.rt d S')):Runs m env S d S':=⟨_,[],h,.inl rfl,.inl (by rw [Xr])⟩
noncomputable def aC(N:List Str)(ds:List D):bp:=ds.map some++List.replicate (N.length - ds.length) none
def Sv{P:Program}{w:World}{mg:Str->Option Value}{base:Heap}{k:Nat}{x qual:Str}{st:Stmt}{a:Addr}{fd:FuncData}{N ps:List Str}{f:List D->ac->Option (D×ac)}
  (F:L2.Fun K x qual st a fd) (Sc:aU N ps (aA st))
  (hbody:∀ (cdv:Value) (A:Around) (outer:List PySem.Env) (s:Shared) (H:Hp) (E:XK),Room k (A.deeper (envOfC qual (aA st) s.heap.objs.size a cdv)) ->
   ∃ m,wF (wB Hq P w K mg base N qual (aA st) a cdv A outer s H E).nox (aN st) m/\∀ ds S d S',ds.length=ps.length->(∀ c∈S,xZ S.length c=true)->closDs S.length ds=true->f ds S=some (d,S')->Runs m (aC N ds) S d S') :
  FnOk P w K mg base Hq (k+1) a fd ps (KG K ps.length f):=by
 refine F.ok Sc (fun vs H Q E h=>?_) (fun cdv A outer s H vs Q E hr h=>?_)
 ·obtain⟨μ,S,ds,d,S',hS,hr,hn,hf,post⟩:=h
  rw [hr.length,hn]
 ·obtain⟨m,hm,run⟩:=hbody cdv A outer s H E hr
  refine⟨_,hm,?_⟩
  obtain⟨μ,S,ds,d,S',hS,hrp,hn,hf,post⟩:=h
  obtain⟨o,g,ho,hg,hend⟩:=run ds S d S' hn hS.closed (by rw [<- hS.len];exact hrp.closed) hf
  have post':Post K μ H (S'++g) d Q:=by
   rcases hg with rfl | ⟨c1,c2,c3⟩
   ·rw [Xr];exact post
   ·exact post.trunc c1 c2 (by rw [hS.len];exact c3)
  have hEnv:EOk K μ H (L2.start N vs) (aC N ds):=by unfold L2.start aC;rw [hrp.length];exact EOk.start hrp
  rcases hend with rfl | ⟨rfl,env',rfl⟩
  ·exact⟨μ,S,_,_,hS,hEnv,ho,post'⟩
  ·exact⟨μ,S,_,_,hS,hEnv,ho,fun σ' H' μ' e s' _=>post' .non H' μ' e s' .non⟩
def Sw{P:Program}{w:World}{mg:Str->Option Value}{base:Heap}{k:Nat}{x qual:Str}{st:Stmt}{a:Addr}{fd:FuncData}{N ps:List Str}{f:List D->ac->Option (D×ac)}
  (F:L2.Fun K x qual st a fd) (Sc:aU N ps (aA st)) (hmg:mg x=some (.ref a)) (hb:Binds K fd ps [])
  (hbody:∀ (cdv:Value) (A:Around) (outer:List PySem.Env) (s:Shared) (H:Hp) (E:XK),Room k (A.deeper (envOfC qual (aA st) s.heap.objs.size a cdv)) ->
   ∃ m,wF (wB Hq P w K mg base N qual (aA st) a cdv A outer s H E).nox (aN st) m/\∀ ds S d S',ds.length=ps.length->(∀ c∈S,xZ S.length c=true)->closDs S.length ds=true->f ds S=some (d,S')->Runs m (aC N ds) S d S') :
  Fn P w K mg base (k+1) x ps.length f:=⟨a,fd,ps,rfl,Sv F Sc hbody,hmg,F.kp,hb⟩
end
section
variable{X:Cx}{K:W.Frag}{μ μ':Fp}{H H':Hp}{S:ac}
def PostN.ext{S':ac}{env':bp}{Q:L2.St->Hp->Prop}(e:Ext μ H μ' H')(p:PostN K μ H S' env' Q):PostN K μ' H' S' env' Q:=fun σ2 H2 μ2 e2 s r=>p σ2 H2 μ2 (e.trans e2) s r
def PostS.ext{o:pK}{E:wE}(e:Ext μ H μ' H')(p:PostS K μ H o E):PostS K μ' H' o E:=by
 cases o with
 | nx env S=>exact PostN.ext e p
 | rt d S=>exact Post.ext e p
 | bk env S=>exact PostN.ext e p
 | ct env S=>exact PostN.ext e p
noncomputable def aY:MS:=fun env S=>some (.nx env S)
noncomputable def ay(a b:MS):MS:=fun env S=>(a env S).bind fun o=>match o with | .nx env' S'=>b env' S' | o=>some o
def QS:wF X [] aY:=PSs.imp Pi fun E σ H ⟨μ,S,env,o,hS,hE,hm,post⟩=>by cases hm;exact post σ H μ hS.ext hS hE
def OM{a b:MS}{E:wE}{σ:L2.St}(h:tMS K (ay a b) E σ H):tSeq (tMS K a) (tMS K b) E σ H:=by
 obtain⟨μ,S,env,o,hS,hE,hm,post⟩:=h
 obtain⟨o1,h1,hm⟩:=WI.mp hm
 refine⟨μ,S,env,o1,hS,hE,h1,?_⟩
 cases o1 with
 | nx env' S'=>exact fun σ' H' μ' e s r=>⟨μ',S',env',o,s,r,hm,post.ext e⟩
 | rt d S'=>cases hm;exact post
 | bk env' S'=>cases hm;exact post
 | ct env' S'=>cases hm;exact post
def NK{st:Stmt}{rest:List Stmt}{a b:MS}(h1:DS X st a)(h2:wF X rest b):wF X (st::rest) (ay a b):=PSs.imp (Be h1 h2) fun _ _ _ h=>OM h
def QR{st:Stmt}{a:MS}(h1:DS X st a):wF X [st] a:=Gc h1
variable{pos:Pos}{e c:Expr}{m:ME}{mt:MT}{a b:List Stmt}{ma mb:MS}
def QU:DS X (.Pass pos) aY:=PS.imp Pl fun E σ H ⟨μ,S,env,o,hS,hE,hm,post⟩=>by cases hm;exact post σ H μ hS.ext hS hE
def NN:DS X (.Break pos) (fun env S=>some (.bk env S)):=PS.imp Lk fun E σ H ⟨μ,S,env,o,hS,hE,hm,post⟩=>by cases hm;exact post σ H μ hS.ext hS hE
def CY:DS X (.Continue pos) (fun env S=>some (.ct env S)):=PS.imp Bg fun E σ H ⟨μ,S,env,o,hS,hE,hm,post⟩=>by cases hm;exact post σ H μ hS.ext hS hE
def VL{x j p}:DS X (.Expr (.Constant (.str x) j p) pos) aY:=PS.imp Tw fun E σ H ⟨μ,S,env,o,hS,hE,hm,post⟩=>by cases hm;exact post σ H μ hS.ext hS hE
noncomputable def aV(m:ME):MS:=fun env S=>(m env S).bind fun p=>some (.rt p.1 p.2)
def VI(he:DE X e m):DS X (.Return (some e) pos) (aV m):=PS.imp (Li he) fun E σ H ⟨μ,S,env,o,hS,hE,hm,post⟩=>by
 obtain⟨⟨d,S1⟩,h1,hm⟩:=WI.mp hm
 cases hm
 exact⟨μ,S,env,d,S1,hS,hE,h1,post⟩
def QT:DS X (.Return none pos) (fun _ S=>some (.rt .non S)):=PS.imp Pj fun E σ H ⟨μ,S,env,o,hS,hE,hm,post⟩=>by cases hm;exact Post.here post hS .non
noncomputable def db(m:ME):MS:=fun env S=>(m env S).bind fun p=>some (.nx env p.2)
def QX(he:DE X e m)(hs:swapsWith e none pos.line X.env=pure false:=by rfl):DS X (.Expr e pos) (db m):=PS.imp (Pm he hs) fun E σ H ⟨μ,S,env,o,hS,hE,hm,post⟩=>by
 obtain⟨⟨d,S1⟩,h1,hm⟩:=WI.mp hm
 cases hm
 exact⟨μ,S,env,d,S1,hS,hE,h1,fun v H' μ' ex s r=>post σ H' μ' ex s (hE.mono ex)⟩
noncomputable def bC(t:MT)(a b:MS):MS:=fun env S=>(t env S).bind fun p=>if p.1=true then a env p.2 else b env p.2
def ds_if(hc:DT X c mt)(ha:wF X a ma)(hb:wF X b mb):DS X (.If c a b pos) (bC mt ma mb):=PS.imp (ps_if hc ha hb) fun E σ H ⟨μ,S,env,o,hS,hE,hm,post⟩=>by
 obtain⟨⟨k,S1⟩,h1,hm⟩:=WI.mp hm
 refine⟨μ,S,env,k,S1,hS,hE,h1,fun H1 μ1 e1 s1=>?_⟩
 cases k with
 | true=>rw [Xc rfl] at hm ⊢;exact⟨μ1,S1,env,o,s1,hE.mono e1,hm,post.ext e1⟩
 | false=>rw [if_neg Bool.false_ne_true] at hm ⊢;exact⟨μ1,S1,env,o,s1,hE.mono e1,hm,post.ext e1⟩
abbrev MG:=D->bp->ac->Option (bp×ac)
abbrev vL:=List D->bp->ac->Option (bp×ac)
inductive RR(K:W.Frag)(g:MG)(v:V)(σ:L2.St)(H:Hp)(Q:L2.St->Hp->Prop):Prop
 | mk (μ:Fp) (S:ac) (env:bp) (d:D) (env':bp) (S':ac) (hS:SOk K μ S H) (hE:EOk K μ H σ env) (h1:Rep K μ H v d) (h:g d env S=some (env',S')) (post:PostN K μ H S' env' Q)
inductive tMGs(K:W.Frag)(g:vL)(vs:List V)(σ:L2.St)(H:Hp)(Q:L2.St->Hp->Prop):Prop
 | mk (μ:Fp) (S:ac) (env:bp) (ds:List D) (env':bp) (S':ac) (hS:SOk K μ S H) (hE:EOk K μ H σ env) (h1:Reps K μ H vs ds) (h:g ds env S=some (env',S')) (post:PostN K μ H S' env' Q)
def DG(X:Cx)(tg:Expr)(g:MG):Prop:=PG X tg (RR X.K g)
def WG(X:Cx)(tg:List Expr)(g:vL):Prop:=PGs X tg (tMGs X.K g)
def PG.imp{tg:Expr}{t t':TG}(h:PG X tg t)(i:∀ v σ H Q,t' v σ H Q->t v σ H Q):PG X tg t':=fun pins s σ H v u Q I r q=>h pins s σ H v u Q I r (i v σ H Q q)
def PGs.imp{tg:List Expr}{t t':SK}(h:PGs X tg t)(i:∀ v σ H Q,t' v σ H Q->t v σ H Q):PGs X tg t':=fun pins s σ H v u Q I r q=>h pins s σ H v u Q I r (i v σ H Q q)
noncomputable def ah(i:Nat):MG:=fun d env S=>some (env.set i (some d),S)
def Hc{i:Nat}{x:Str}(hN:X.N.Nodup)(hi:X.N[i]?=some x)(hx:Ke X.env.scope x)(hf:X.fn x=true\/X.env.scope.names.lookup x=some .local:=by first | exact .inl rfl | exact .inr rfl | assumption):DG X (.Name x pos) (ah i):=
 PG.imp (Ps hN hi hx hf) fun v σ H Q ⟨μ,S,env,d,env',S',hS,hE,hr,hm,post⟩=>by cases hm;exact post _ H μ hS.ext hS (hE.set hr i)
noncomputable def aB:vL:=fun ds env S=>match ds with | []=>some (env,S) | _=>none
noncomputable def af(g:MG)(gs:vL):vL:=fun ds env S=>match ds with | d::r=>(g d env S).bind fun p=>gs r p.1 p.2 | []=>none
def Rc:WG X [] aB:=PGs.imp Pr fun v σ H Q ⟨μ,S,env,ds,env',S',hS,hE,hr,hm,post⟩=>by
 cases hr with
 | nil=>cases hm;exact⟨rfl,post σ H μ hS.ext hS hE⟩
 | cons _ _=>cases hm
def NV{t:Expr}{ts:List Expr}{g:MG}{gs:vL}(h1:DG X t g)(h2:WG X ts gs)(hs:(assignEach (t::ts) X.env).map (·.2)=assign t X.env::(assignEach ts X.env).map (·.2):=by rfl):WG X (t::ts) (af g gs):=
 PGs.imp (Lp h1 h2 hs) fun v σ H Q ⟨μ,S,env,ds,env',S',hS,hE,hr,hm,post⟩=>by
  cases hr with
  | nil=>cases hm
  | @cons v d vs ds h t=>
   obtain⟨⟨env1,S1⟩,h1,hm⟩:=WI.mp hm
   exact⟨v,vs,rfl,μ,S,env,d,env1,S1,hS,hE,h,h1,fun σ1 H1 μ1 e1 s1 r1=>⟨μ1,S1,env1,ds,env',S',s1,r1,t.mono e1,hm,post.ext e1⟩⟩
noncomputable def aE(n:Nat)(gs:vL):MG:=fun d env S=>match d with | .tup xs=>if xs.length=n then gs xs env S else none | _=>none
def VO{es:List Expr}{k n:Nat}{gs:vL}(hc:X.calm=true)(h:WG X es gs)(hn:(assignEach es X.env).length=n:=by rfl)(hst:(assignEach es X.env).findIdx? (·.1)=none:=by rfl):DG X (.Tuple es k pos) (aE n gs):=
 PG.imp (TJ hc h hn hst) fun v σ H Q ⟨μ,S,env,d,env',S',hS,hE,hr,hm,post⟩=>by
  cases d with
  | tup xs=>
   simp only [aE] at hm
   split at hm
   ·rename_i hl
    obtain⟨a,vs,rfl,q,r⟩:=hr.sqT
    exact⟨a,vs,rfl,q,by rw [r.length];exact hl,μ,S,env,xs,env',S',hS,hE,r,hm,post⟩
   ·cases hm
  | _=>cases hm
noncomputable def eW(o i:ME):MG:=fun d env S=>(o env S).bind fun p=>(i env p.2).bind fun q=>match p.1,q.1 with
 | .ref r,.int k=>match q.2[r]? with
  | some (.lst xs)=>(GL xs.length k).bind fun j=>some (env,q.2.set r (.lst (xs.set j d)))
  | _=>none
 | _,_=>none
def VP{o i:Expr}{mo mi:ME}(ho:DE X o mo)(hi:DE X i mi)(ha:∀ v,assign (.Subscript o i pos) X.env v=(do
   let ov <- holding [v] (eval o X.env)
   let iv <- holding [v,ov] (eval i X.env)
   standAt pos
   holding [v,ov,iv] (setItem ov iv v)
   release [v,ov,iv] []):=by intro _;rfl):DG X (.Subscript o i pos) (eW mo mi):=
 PG.imp (TK ho hi KH ha) fun v σ H Q ⟨μ,S,env,d,env',S',hS,hE,hr,hm,post⟩=>by
  obtain⟨⟨x,S1⟩,h1,hm⟩:=WI.mp hm
  obtain⟨⟨y,S2⟩,h2,hm⟩:=WI.mp hm
  refine⟨μ,S,env,x,S1,hS,hE,h1,fun v1 H1 μ1 e1 s1 r1=>⟨μ1,S1,env,y,S2,s1,hE.mono e1,h2,fun v2 H2 μ2 e2 s2 r2=>?_⟩⟩
  cases x with
  | ref r=>
   cases y with
   | int k=>
    dsimp only at hm
    cases q:S2[r]? with
    | none=>rw [q] at hm;cases hm
    | some c=>
     rw [q] at hm
     cases c with
     | lst xs=>
      obtain⟨j,h3,hm⟩:=WI.mp hm
      cases hm
      have r1':=r1.mono e2
      cases r1' with
      | @ref a _ h'=>
       obtain⟨vs,hv,rv⟩:=s2.cell r a _ h' q
       have rd:=(hr.mono e1).mono e2
       obtain⟨e3,s3⟩:=s2.write h' hv (rv.set rd j)
       exact⟨a,vs,k,j,rfl,r2.int_inv,hv,by rw [rv.length];exact h3,post σ _ μ2 ((e1.trans e2).trans e3) s3 (hE.mono ((e1.trans e2).trans e3))⟩
     | dct ks xs=>cases hm
   | _=>cases hm
  | _=>cases hm
noncomputable def aI(m:ME)(g:MG):MS:=fun env S=>(m env S).bind fun p=>(g p.1 env p.2).bind fun q=>some (.nx q.1 q.2)
def OO{g:MG}{E:wE}{σ:L2.St}(h:tMS K (aI m g) E σ H):KA (tM K m) (RR K g) E σ H:=by
 obtain⟨μ,S,env,o,hS,hE,hm,post⟩:=h
 obtain⟨⟨d,S1⟩,h1,hm⟩:=WI.mp hm
 obtain⟨⟨env2,S2⟩,h2,hm⟩:=WI.mp hm
 cases hm
 exact⟨μ,S,env,d,S1,hS,hE,h1,fun v H1 μ1 e1 s1 r1=>⟨μ1,S1,env,d,env2,S2,s1,hE.mono e1,r1,h2,PostN.ext e1 post⟩⟩
def NO{tg:Expr}{g:MG}(he:DE X e m)(hg:DG X tg g)(hs:swapsWithSole [tg] e pos.line X.env=pure false:=by rfl)(hw:swappedStores [tg] e X.env=pure none:=by rfl)
  (h1:(assignEach [tg] X.env).map (·.2)=[assign tg X.env]:=by rfl):DS X (.Assign [tg] e pos) (aI m g):=PS.imp (Tz he hg hs hw h1) fun _ _ _ h=>OO h
def Fw{i:Nat}{x:Str}{pos':Pos}(hN:X.N.Nodup)(hi:X.N[i]?=some x)(hx:Ke X.env.scope x)(he:DE X e m)(hs:swapsWith e (some (.Name x pos')) pos.line X.env=pure false:=by rfl)(hf:X.fn x=true\/X.env.scope.names.lookup x=some .local:=by first | exact .inl rfl | exact .inr rfl | assumption) :
  DS X (.Assign [.Name x pos'] e pos) (aI m (ah i)):=PS.imp (Lh hN hi hx he hs hf) fun E σ H h=>by
 obtain⟨μ,S,env,o,hS,hE,hm,post⟩:=h
 obtain⟨⟨d,S1⟩,h1,hm⟩:=WI.mp hm
 cases hm
 exact⟨μ,S,env,d,S1,hS,hE,h1,fun v H1 μ1 e1 s1 r1=>post _ H1 μ1 e1 s1 ((hE.mono e1).set r1 i)⟩
structure ExtP(μ:Fp)(H:Hp)(μ':Fp)(H':Hp):Prop where
 fb:∃ l,μ'.fb=l++μ.fb/\∀ a∈l,H a=none
 pre:∃ l,μ'.cs = μ.cs++l/\∀ a∈l,H a=none
 keep:∀ a o,a ∉ μ.cs->H a=some o->H' a=some o
 dom:∀ a ∈ μ'.cs,H' a≠none
def Ext.toP(e:Ext μ H μ' H'):ExtP μ H μ' H':=⟨⟨[],by rw [e.fb];rfl,fun _ z=>by simp at z⟩,e.pre,e.keep,e.dom⟩
def ExtP.stays(e:ExtP μ H μ' H'){a:Addr}{o:HO}(h:H a=some o)(n:μ.no a):H' a=some o/\μ'.no a:=by
 refine⟨e.keep a o n.1 h,fun z=>?_,fun z=>?_⟩
 ·obtain⟨l,q,hl⟩:=e.pre
  rw [q] at z
  rcases Xj.mp z with z | z
  ·exact n.1 z
  ·rw [hl a z] at h;cases h
 ·obtain⟨l,q,hl⟩:=e.fb
  rw [q] at z
  rcases Xj.mp z with z | z
  ·rw [hl a z] at h;cases h
  ·exact n.2 z
def ExtP.then{μ'':Fp}{H'':Hp}(e:ExtP μ H μ' H')(f:Ext μ' H' μ'' H''):ExtP μ H μ'' H'':=by
 obtain⟨l,q,hl⟩:=e.pre
 obtain⟨l',q',hl'⟩:=f.pre
 refine⟨by rw [f.fb];exact e.fb,⟨l++l',by rw [q',q,Xm],fun a ha=>?_⟩,fun a o n h=>?_,f.dom⟩
 ·rcases Xj.mp ha with ha | ha
  ·exact hl a ha
  ·have h1:=hl' a ha
   cases q2:H a with
   | none=>rfl
   | some o=>
    by_cases hm:a ∈ μ.cs
    ·exact absurd h1 (e.dom a (by rw [q];exact Xu _ hm))
    ·rw [e.keep a o hm q2] at h1;cases h1
 ·have h1:=e.keep a o n h
  refine f.keep a o (fun z=>?_) h1
  rw [q] at z
  rcases Xj.mp z with z | z
  ·exact n z
  ·rw [hl a z] at h;cases h
def ExtP.chg{p:Addr}{o:HO}(e:ExtP μ H μ' H')(hp:H p=none):ExtP μ H μ' (upd H' p o):=
 ⟨e.fb,e.pre,fun a o' n h=>by rw [bn (cx h hp)];exact e.keep a o' n h,fun a ha=>by
  by_cases z:a=p
  ·subst z;rw [bx];simp
  ·rw [bn z];exact e.dom a ha⟩
def ExtP.ix(e:ExtP μ H μ' H'){r:Nat}{a:Addr}(h:μ.cs[r]?=some a):μ'.cs[r]?=some a:=by
 obtain⟨l,q,_⟩:=e.pre
 exact Av q h
def Rep.monoP(e:ExtP μ H μ' H'){v:V}{d:D}(r:Rep K μ H v d):Rep K μ' H' v d:=r.imp e.stays e.ix
def FU(K:W.Frag)(μ:Fp)(H:Hp)(J:It)(xs:List D):Prop:=
 ∀ μ' H' S',ExtP μ H μ' H'->SOk K μ' S' H'->∀ i,(∀ d,xs[i]?=some d->J.go i H'/\∀ x H2,J.yld i H' x H2->Ext μ' H' μ' H2/\SOk K μ' S' H2/\Rep K μ' H2 x d)/\(xs.length<=i->J.stop i H')
inductive iM(K:W.Frag)(m:MA)(σ:L2.St)(H:Hp)(R:It->Hp->Prop):Prop
 | mk (μ:Fp) (S:ac) (env:bp) (xs:List D) (S':ac) (hS:SOk K μ S H) (hE:EOk K μ H σ env) (h:m env S=some (xs,S')) (post:∀ J H' μ',Ext μ H μ' H'->SOk K μ' S' H'->FU K μ' H' J xs->R J H')
def DI(X:Cx)(tg iter:Expr)(m:MA):Prop:=PI X tg iter (iM X.K m)
def PI.imp{tg iter:Expr}{t t':TI}(h:PI X tg iter t)(i:∀ σ H R,t' σ H R->t σ H R):PI X tg iter t':=fun pins s σ H R I q=>h pins s σ H R I (i σ H R q)
def xF{v:V}{a:Addr}{d:D}{xs:List D}(hd:d=.lst xs\/d=.rol xs)(r:Rep K μ H v d)(hv:v=.ref a):FU K μ H (Itl K a) xs:=fun μ' H' S' e s i=>by
 have r':=r.monoP e
 obtain⟨vs,q,rs⟩:∃ vs,oI K H' a vs/\Reps K μ' H' vs xs:=by
  subst hv
  rcases hd with rfl | rfl
  ·obtain⟨a',vs,ea,q,_,rs⟩:=r'.sqL;cases ea;exact⟨vs,.inl (.inl q),rs⟩
  ·obtain⟨a',vs,ea,q,rs⟩:=r'.sqR;cases ea;exact⟨vs,q,rs⟩
 refine⟨fun d hd=>?_,fun hl=>⟨vs,q,by rw [rs.length];exact hl⟩⟩
 obtain⟨v,hv,rv⟩:=rs.get hd
 refine⟨⟨vs,v,q,hv⟩,fun x H2 ⟨e2,hy⟩=>?_⟩
 subst e2
 have:=hy vs q
 rw [hv] at this;cases this
 exact⟨s.ext,s,rv⟩
def My{a:Addr}{xs:List D}(r:Rep K μ H (.ref a) (.tup xs)):FU K μ H (Itt K a) xs:=fun μ' H' S' e s i=>by
 obtain⟨a',vs,ea,q,rs⟩:=(r.monoP e).sqT
 cases ea
 refine⟨fun d hd=>?_,fun hl=>⟨vs,q,by rw [rs.length];exact hl⟩⟩
 obtain⟨v,hv,rv⟩:=rs.get hd
 refine⟨⟨vs,v,q,hv⟩,fun x H2 ⟨e2,hy⟩=>?_⟩
 subst e2
 have:=hy vs q
 rw [hv] at this;cases this
 exact⟨s.ext,s,rv⟩
variable{tg iter:Expr}
noncomputable def cD(lo:Int)(n:Nat):List D:=(List.range n).map fun(i:Nat)=>D.int (lo+(i:Int))
def tT(lo:Int)(n i:Nat)(d:D)(h:(cD lo n)[i]?=some d):i<n/\d=.int (lo+(i:Int)):=by
 unfold cD at h
 rw [XS] at h
 cases q:(List.range n)[i]? with
 | none=>rw [q] at h;cases h
 | some j=>
  rw [q] at h;cases h
  obtain⟨h1,h2⟩:=WJ.mp q
  simp at h1 h2
  exact⟨h1,by rw [h2]⟩
def uV(lo:Int)(n:Nat):FU K μ H (Itr lo n) (cD lo n):=fun μ' H' S' e s i=>by
 refine⟨fun d hd=>?_,fun hl=>?_⟩
 ·obtain⟨h1,rfl⟩:=tT lo n i d hd
  refine⟨h1,fun x H2 ⟨e2,hy⟩=>?_⟩
  subst e2 hy
  exact⟨s.ext,s,.int _⟩
 ·have:(cD lo n).length=n:=by simp [cD]
  rw [this] at hl;exact hl
noncomputable def bZ(ms:MA):MA:=fun env S=>(ms env S).bind fun p=>match p.1 with | [.int j]=>if -(2 ^ 62)<=j/\j<2 ^ 62 then some (cD 0 j.toNat,p.2) else none | _=>none
noncomputable def dm(ms:MA):MA:=fun env S=>(ms env S).bind fun p=>match p.1 with | [.int i,.int j]=>if -(2 ^ 62)<=i/\i<2 ^ 62/\-(2 ^ 62)<=j/\j<2 ^ 62 then some (cD i (j - i).toNat,p.2) else none | _=>none
def JE{a:Expr}{ms:MA}{p:Pos}(hm:X.mg "range" = none)(ha:DA X [a] ms)(hg:Gl X "range":=by rfl)(hs:starEach [a] X.env=[(false,eval a X.env)]:=by rfl):DI X tg (.Call (.Name "range" p) [a] [] pos) (bZ ms):=
 PI.imp (Ie hg hm ha hs) fun σ H R ⟨μ,S,env,xs,S',hS,hE,hm,post⟩=>by
  obtain⟨⟨ds,S1⟩,h1,hm⟩:=WI.mp hm
  refine⟨μ,S,env,ds,S1,hS,hE,h1,fun vs H1 μ1 e1 s1 r1=>?_⟩
  dsimp only at hm
  split at hm
  ·split at hm
   ·rename_i hb
    cases hm
    obtain⟨v,rfl,r⟩:=r1.one
    exact⟨_,by rw [r.int_inv],hb.1,hb.2,post _ H1 μ1 e1 s1 (uV 0 _)⟩
   ·cases hm
  ·cases hm
def JD{a b:Expr}{ms:MA}{p:Pos}(hm:X.mg "range" = none)(ha:DA X [a,b] ms)(hg:Gl X "range":=by rfl)(hs:starEach [a,b] X.env=[(false,eval a X.env),(false,eval b X.env)]:=by rfl)(hs2:starEach [b] X.env=[(false,eval b X.env)]:=by rfl):DI X tg (.Call (.Name "range" p) [a,b] [] pos) (dm ms):=
 PI.imp (Ic hg hm ha hs hs2) fun σ H R ⟨μ,S,env,xs,S',hS,hE,hm,post⟩=>by
  obtain⟨⟨ds,S1⟩,h1,hm⟩:=WI.mp hm
  refine⟨μ,S,env,ds,S1,hS,hE,h1,fun vs H1 μ1 e1 s1 r1=>?_⟩
  dsimp only at hm
  split at hm
  ·split at hm
   ·rename_i hb
    cases hm
    obtain⟨v,w,rfl,r,r'⟩:=r1.two
    exact⟨_,_,by rw [r.int_inv,r'.int_inv],hb,post _ H1 μ1 e1 s1 (uV _ _)⟩
   ·cases hm
  ·cases hm
noncomputable def cj(g:MG)(body:MS):List D->bp->ac->Option pK
 | [],env,S=>some (.nx env S)
 | d::ds,env,S=>(g d env S).bind fun p=>(body p.1 p.2).bind fun o=>match o with
  | .nx e s=>cj g body ds e s
  | .ct e s=>cj g body ds e s
  | .bk e s=>some (.nx e s)
  | .rt d s=>some (.rt d s)
noncomputable def ia(mi:MA)(g:MG)(body:MS):MS:=fun env S=>(mi env S).bind fun p=>cj g body p.1 env p.2
def NM{body:List Stmt}{mi:MA}{g:MG}{mb:MS}(hp:PassesOwn (model X.prog X.w) X.A X.env X.xe)(hc:X.calm=true)(hi:DI X tg iter mi)(hg:DG X tg g)(hb:wF X body mb)
  (hs:∀ x,foldedSetIterable iter X.env x=pure x:=by intro _;rfl):DS X (.For tg iter body [] pos) (ia mi g mb):=PS.imp (Lj hp hc hi hg hb hs) fun E σ H ⟨μ,S,env,o,hS,hE,hm,post⟩=>by
 obtain⟨⟨xs,S1⟩,h1,hm⟩:=WI.mp hm
 refine⟨μ,S,env,xs,S1,hS,hE,h1,fun J H1 μ1 e1 s1 it=>?_⟩
 refine⟨fun i n σ H=>n=xs.length - i/\i<=xs.length/\∃ μ' S' env' o',Ext μ1 H1 μ' H/\SOk X.K μ' S' H/\EOk X.K μ' H σ env'/\cj g mb (xs.drop i) env' S'=some o'/\PostS X.K μ' H o' E,
  ⟨xs.length,by simp,Yy _,μ1,S1,env,o,s1.ext,s1,hE.mono e1,by rw [Zj];exact hm,post.ext e1⟩,?_⟩
 rintro i n σ' H' ⟨rfl,hi,μ',S',env',o',e',s',r',hl,post'⟩
 have iti:=it μ' H' S' e'.toP s' i
 by_cases hlt:i<xs.length
 ·refine .inr ⟨(iti.1 xs[i] (WS hlt)).1,fun σ2 H2=>∃ μ2 S2 env2 o2,Ext μ1 H1 μ2 H2/\SOk X.K μ2 S2 H2/\EOk X.K μ2 H2 σ2 env2/\cj g mb (xs.drop (i+1)) env2 S2=some o2/\PostS X.K μ2 H2 o2 E,
   fun σ2 H2 ⟨μ2,S2,env2,o2,q1,q2,q3,q4,q5⟩=>⟨xs.length - (i+1),by omega,rfl,hlt,μ2,S2,env2,o2,q1,q2,q3,q4,q5⟩,fun x H2 y=>?_⟩
  obtain⟨e2,s2,rx⟩:=(iti.1 xs[i] (WS hlt)).2 x H2 y
  rw [YG hlt] at hl
  obtain⟨⟨env3,S3⟩,h3,hl⟩:=WI.mp hl
  obtain⟨o4,h4,hl⟩:=WI.mp hl
  refine⟨μ',S',env',xs[i],env3,S3,s2,r'.mono e2,rx,h3,fun σ3 H3 μ3 e3 s3 r3=>⟨μ3,S3,env3,o4,s3,r3,h4,?_⟩⟩
  have eT:Ext μ1 H1 μ3 H3:=(e'.trans e2).trans e3
  have pT:PostS X.K μ3 H3 o' E:=(post'.ext e2).ext e3
  cases o4 with
  | nx e5 s5=>exact fun σ6 H6 μ6 e6 s6 r6=>⟨μ6,s5,e5,o',eT.trans e6,s6,r6,hl,pT.ext e6⟩
  | ct e5 s5=>exact fun σ6 H6 μ6 e6 s6 r6=>⟨μ6,s5,e5,o',eT.trans e6,s6,r6,hl,pT.ext e6⟩
  | bk e5 s5=>cases hl;exact pT
  | rt d5 s5=>cases hl;exact pT
 ·have e:i=xs.length:=by omega
  subst e
  refine .inl ⟨iti.2 (WY _),?_⟩
  rw [List.drop_length] at hl
  cases hl
  exact post' σ' H' μ' s'.ext s' r'
noncomputable def lD(cap:List (Option Nat))(env:bp):bp:=cap.map fun o=>o.bind fun i=>(env[i]?).join
def OE(X:Cx)(ifs:List Expr)(m:MT):Prop:=RM X ifs (DC X.K m)
def QP:OE X [] (fun _ S=>some (true,S)):=fun pins s σ H Q I ⟨μ,S,env,b,S',hS,hE,hm,post⟩=>by cases hm;exact Pg pins s σ H Q I (post H μ hS.ext hS)
def QO{c:Expr}{t:MT}(h:DT X c t):OE X [c] t:=Pf h
noncomputable def dF(g:MG)(t:MT)(e:ME):List D->bp->ac->Option (List D×ac)
 | [],_,S=>some ([],S)
 | d::ds,env,S=>(g d env S).bind fun p=>(t p.1 p.2).bind fun b=>if b.1=true then (e p.1 b.2).bind fun q=>(dF g t e ds p.1 q.2).bind fun r=>some (q.1::r.1,r.2) else dF g t e ds p.1 b.2
noncomputable def bE(mi:MA)(g:MG)(t:MT)(e:ME)(cap:List (Option Nat)):ME:=fun env S=>(mi env S).bind fun p=>if p.1.length<=sizeLine then (dF g t e p.1 (lD cap env) p.2).bind fun q=>some (.lst q.1,q.2) else none
def AM{mi:MA}{g:MG}{t:MT}{e:ME}{cap:List (Option Nat)}{σ:L2.St}{Q:VK}(h:tM K (bE mi g t e cap) σ H Q):FY (iM K mi) (RR K g) (DC K t) (tM K e) cap σ H Q:=by
 obtain⟨μ,S,env,d,S',hS,hE,hm,post⟩:=h
 obtain⟨⟨xs,S1⟩,h1,hm⟩:=WI.mp hm
 dsimp only at hm
 split at hm
 case isFalse=>cases hm
 rename_i hsz
 obtain⟨⟨ys,S2⟩,h2,hm⟩:=WI.mp hm
 cases hm
 refine⟨μ,S,env,xs,S1,hS,hE,h1,fun J H1 μ1 e1 s1 it p hp=>?_⟩
 have hpn:=s1.notMem hp
 refine⟨fun i n σ' H'=>n=xs.length - i/\i<=xs.length/\∃ (cs:List Addr) (S':ac) (env':bp) (vs:List V) (zs rest:List D),ExtP μ1 H1 ⟨cs,p::μ1.fb⟩ H'/\SOk K ⟨cs,p::μ1.fb⟩ S' H'/\EOk K ⟨cs,p::μ1.fb⟩ H' σ' env'/\H' p=some (.lst vs) /\
   Reps K ⟨cs,p::μ1.fb⟩ H' vs zs/\dF g t e (xs.drop i) env' S'=some (rest,S2)/\ys=zs++rest/\vs.length<=i,⟨xs.length,by simp,Yy _,μ1.cs,S1,lD cap env,[],[],ys,?_,s1.more hp,?_,bx,.nil,by rw [Zj];exact h2,rfl,WY _⟩,?_⟩
 ·exact⟨⟨[p],rfl,fun a z=>by rw [Xp.mp z];exact hp⟩,⟨[],by simp,fun _ z=>by simp at z⟩,fun a o' n h=>by rw [bn (cx h hp)];exact h,fun a ha=>by
   by_cases z:a=p
   ·subst z;rw [bx];simp
   ·rw [bn z];exact s1.dom a ha⟩
 ·exact((hE.mono e1).block cap).more hp
 rintro i n σ' H' ⟨rfl,hi,cs,S',env',vs,zs,rest,eP,s',r',hpv,rz,hl,rfl,hvl⟩
 have iti:=it _ H' S' eP s' i
 by_cases hlt:i<xs.length
 ·refine .inr ⟨(iti.1 xs[i] (WS hlt)).1,fun x H2 y=>?_⟩
  obtain⟨e2,s2,rx⟩:=(iti.1 xs[i] (WS hlt)).2 x H2 y
  rw [YG hlt] at hl
  obtain⟨⟨env3,S3⟩,h3,hl⟩:=WI.mp hl
  obtain⟨⟨b,S4⟩,h4,hl⟩:=WI.mp hl
  refine⟨_,S',env',xs[i],env3,S3,s2,r'.mono e2,rx,h3,fun σ3 H3 μ3 e3 s3 r3=>⟨μ3,S3,env3,b,S4,s3,r3,h4,fun H4 μ4 e4 s4=>?_⟩⟩
  have eA:=(e2.trans e3).trans e4
  have pcs:p ∉ cs:=fun z=>s'.disj p WL z
  cases b with
  | false=>
   rw [if_neg Bool.false_ne_true] at hl
   dsimp only
   rw [if_neg Bool.false_ne_true]
   obtain⟨cs4,fb4⟩:=μ4
   have hfb:fb4=p::μ1.fb:=eA.fb
   subst hfb
   exact⟨xs.length - (i+1),by omega,rfl,hlt,cs4,S4,env3,vs,zs,rest,eP.then eA,s4,r3.mono e4,(eA.keeps hpv pcs).1,rz.mono eA,hl,rfl,by omega⟩
  | true=>
   rw [Xc rfl] at hl
   dsimp only
   rw [Xc rfl]
   obtain⟨⟨dv,S5⟩,h5,hl⟩:=WI.mp hl
   obtain⟨⟨rs,S6⟩,h6,hl⟩:=WI.mp hl
   cases hl
   refine⟨μ4,S4,env3,dv,S5,s4,r3.mono e4,h5,fun v H5 μ5 e5 s5 r5=>?_⟩
   have eB:=eA.trans e5
   obtain⟨cs5,fb5⟩:=μ5
   have hfb:fb5=p::μ1.fb:=eB.fb
   subst hfb
   refine⟨vs,(eB.keeps hpv pcs).1,by omega,xs.length - (i+1),by omega,rfl,hlt,cs5,S5,env3,vs++[v],zs++[dv],rs,(eP.then eB).chg hp,s5.chg WL,((r3.mono e4).mono e5).chg WL,bx,Reps.chg WL ((rz.mono eB).append (.cons r5 .nil)),h6,by simp,by rw [WX,XQ];omega⟩
 ·have e:i=xs.length:=by omega
  subst e
  refine .inl ⟨iti.2 (WY _),?_⟩
  rw [List.drop_length] at hl
  cases hl
  have eF:Ext μ1 H1 ⟨cs,μ1.fb⟩ H':=⟨rfl,eP.pre,eP.keep,eP.dom⟩
  dsimp only at post
  rw [Xr] at post
  exact post _ H' ⟨cs,μ1.fb⟩ (e1.trans eF) s'.less (.lst hpv ⟨fun z=>s'.disj p WL z,hpn.2⟩ rz.less)
def Rj{elt:Expr}{ifs:List Expr}{scope:Scope}{N':List Str}{cap:List (Option Nat)}{mi:MA}{g:MG}{t:MT}{me:ME}
  (hc:X.calm=true) (B:BlockOk X N' scope cap) (hi:DI X tg iter mi) (hg:∀ C s H fp,DG (oq X N' scope C s H fp) tg g) (ht:∀ C s H fp,OE (oq X N' scope C s H fp) ifs t) (he:∀ C s H fp,DE (oq X N' scope C s H fp) elt me)
  (hs:∀ x,foldedSetIterable iter X.env x=pure x:=by intro _;rfl):DE X (.ListComp elt [⟨tg,iter,ifs,0⟩] scope pos) (bE mi g t me cap):=
 PE.imp (Ge (g:=RR X.K g) (tt:=DC X.K t) (te:=tM X.K me) hc B hi hg ht he hs) fun _ _ _ h=>AM h
def Fv{elt:Expr}{ifs:List Expr}{scope:Scope}{spos py:Pos}{N':List Str}{cap:List (Option Nat)}{mi:MA}{g:MG}{t:MT}{me:ME}{y:Str}{i:Nat}
  (hN:X.N.Nodup) (hy:X.N[i]?=some y) (hx:Ke X.env.scope y)
  (hc:X.calm=true) (B:BlockOk X N' scope cap) (hi:DI X tg iter mi) (hg:∀ C s H fp,DG (oq X N' scope C s H fp) tg g) (ht:∀ C s H fp,OE (oq X N' scope C s H fp) ifs t) (he:∀ C s H fp,DE (oq X N' scope C s H fp) elt me)
  (hsw:swapsWith (.ListComp elt [⟨tg,iter,ifs,0⟩] scope pos) (some (.Name y py)) spos.line X.env=pure true:=by rfl)
  (hs:∀ x,foldedSetIterable iter X.env x=pure x:=by intro _;rfl) (hf:X.fn y=true\/X.env.scope.names.lookup y=some .local:=by first | exact .inl rfl | exact .inr rfl | assumption) :
  DS X (.Assign [.Name y py] (.ListComp elt [⟨tg,iter,ifs,0⟩] scope pos) spos) (aI (bE mi g t me cap) (ah i)):=
 PS.imp (tV (g:=RR X.K g) (tt:=DC X.K t) (te:=tM X.K me) hN hy hx hc B hi hg ht he hsw hs hf) fun E σ H h=>by
  obtain⟨μ,S,env,o,hS,hE,hm,post⟩:=h
  obtain⟨⟨d,S1⟩,h1,hm⟩:=WI.mp hm
  cases hm
  exact AM ⟨μ,S,env,d,S1,hS,hE,h1,fun v H1 μ1 e1 s1 r1=>post _ H1 μ1 e1 s1 ((hE.mono e1).set r1 i)⟩
end
section
variable{X:Cx}{K:W.Frag}{μ μ':Fp}{H H':Hp}{S:ac}{pos p2:Pos}{tg iter:Expr}{m:ME}
noncomputable def wC(N N':List Str)(kX kB:Str->Option NameKind):List (Option Nat)->List Str->Bool
 | [],[]=>true
 | none::r,_::s=>wC N N' kX kB r s
 | some i::r,y::s=>N[i]? == some y&&(kX y == some .cell||kX y == some .free)&&(kB y == some .cell||kB y == some .free)&&wC N N' kX kB r s
 | _,_=>false
def Am{N N':List Str}{kX kB:Str->Option NameKind}:∀ {cap:List (Option Nat)} {ys:List Str},wC N N' kX kB cap ys=true->cap.length=ys.length/\∀ (j i:Nat),cap[j]?=some (some i)->∃ y,ys[j]?=some y/\N[i]?=some y/\(kX y=some .cell\/kX y=some .free)/\(kB y=some .cell\/kB y=some .free)
 | [],[],_=>⟨rfl,fun j i e=>by simp at e⟩
 | none::r,y::s,h=>by
  obtain⟨h1,h2⟩:=Am (cap:=r) (ys:=s) h
  refine⟨by simp [h1],fun j i e=>?_⟩
  cases j with
  | zero=>simp at e
  | succ j=>simpa using h2 j i (by simpa using e)
 | some k::r,y::s,h=>by
  rw [wC,WP,WP,WP,Ze,Ze] at h
  obtain⟨h1,h2⟩:=Am (cap:=r) (ys:=s) h.2
  refine⟨by simp [h1],fun j i e=>?_⟩
  cases j with
  | zero=>
   simp at e;subst e
   refine⟨y,rfl,by simpa using h.1.1.1,?_,?_⟩
   ·exact h.1.1.2.imp (fun z=>by simpa using z) fun z=>by simpa using z
   ·exact h.1.2.imp (fun z=>by simpa using z) fun z=>by simpa using z
  | succ j=>simpa using h2 j i (by simpa using e)
 | [],_::_,h=>by simp [wC] at h
 | none::_,[],h=>by simp [wC] at h
 | some _::_,[],h=>by simp [wC] at h
def blk{N':List Str}{scope:Scope}{cap:List (Option Nat)}(nd:N'.Nodup)(k:scope.kind=.function:=by rfl)(nc:(scope.names.all fun x=>x.2 != .cell)=true:=by rfl)(nm:(scope.names.all fun x=>x.2 != .local||scope.names.lookup x.1 == some .local)=true:=by rfl)
  (fr:(scope.names.all fun x=>x.2 != .free||X.env.kindOf x.1 == some .cell||X.env.kindOf x.1 == some .free)=true:=by rfl)
  (cp:wC X.N N' X.env.kindOf (fun y=>(relabel scope X.env).names.lookup y) cap N'=true:=by rfl):BlockOk X N' scope cap:=by
 obtain⟨h1,h2⟩:=Am cp
 refine⟨k,fun x hx=>?_,fun x hx hl=>?_,fun x hx hf=>?_,nd,h1,fun j i e=>?_⟩
 ·have:=Xd.mp nc x hx
  simpa using this
 ·have:=Xd.mp nm x hx
  simpa [hl] using this
 ·have:=Xd.mp fr x hx
  simpa [hf] using this
 ·obtain⟨y,a,b,c,d⟩:=h2 j i e
  exact⟨y,a,b,.inr c,c,d⟩
def TH{l:Expr}{tl:TE}(hl:PE X l tl):PI X tg l (fun σ H R=>tl σ H fun x H1=>∃ a,x=.ref a/\(((∃ xs,oI X.K H1 a xs)/\R (Itl X.K a) H1)\/((∃ xs,mE X.K H1 a xs)/\R (Itt X.K a) H1))):=by
 intro pins s σ H R I h
 refine dE (hl pins s σ H _ I h) fun v s1 ⟨x,H1,I1,r1,q1⟩=>?_
 obtain⟨a,e,⟨⟨xs,hq⟩,q⟩ | ⟨⟨xs,hq⟩,q⟩⟩:=q1
 ·subst e
  cases r1
  obtain⟨its,rv,p,hz⟩:=I1.list hq
  refine ZI p.isList ?_
  refine⟨s1.heap.objs.size,[s1.heap.objs.size],_,_,H1,rfl,I1.kept (t':=s1.toks) fun b o e=>WQ _ e,wJ a _,⟨_,Xe _ rfl,rfl,rfl⟩,fun b hb=>?_,q⟩
  have e:b=s1.heap.objs.size:=by simpa using hb
  subst e
  exact I1.fpOk (WY _) (I1.hok.fresh (WY _))
 ·subst e
  cases r1
  obtain⟨its,rv,p,hz⟩:=I1.tuple hq
  refine YK (show s1.heap.IsTuple a its.toArray from p) ?_
  refine⟨s1.heap.objs.size,[s1.heap.objs.size],_,_,H1,rfl,I1.kept (t':=s1.toks) fun b o e=>WQ _ e,Dx a _,⟨_,Xe _ rfl,rfl,rfl⟩,fun b hb=>?_,q⟩
  have e:b=s1.heap.objs.size:=by simpa using hb
  subst e
  exact I1.fpOk (WY _) (I1.hok.fresh (WY _))
noncomputable def cZ(m:ME):MA:=fun env S=>(m env S).bind fun p=>match p.1 with | .lst xs=>some (xs,p.2) | .rol xs=>some (xs,p.2) | .tup xs=>some (xs,p.2) | _=>none
def FE(h:DE X iter m):DI X tg iter (cZ m):=PI.imp (TH h) fun σ H R ⟨μ,S,env,xs,S',hS,hE,hm,post⟩=>by
 obtain⟨⟨d,S1⟩,h1,hm⟩:=WI.mp hm
 refine⟨μ,S,env,d,S1,hS,hE,h1,fun v H1 μ1 e1 s1 r1=>?_⟩
 cases d with
 | lst ys=>
  cases hm
  have r1':=r1
  obtain⟨a,vs,rfl,q,_,rs⟩:=r1.sqL
  exact⟨a,rfl,.inl ⟨⟨vs,.inl (.inl q)⟩,post _ H1 μ1 e1 s1 (xF (.inl rfl) r1' rfl)⟩⟩
 | rol ys=>
  cases hm
  have r1':=r1
  obtain⟨a,vs,rfl,q,rs⟩:=r1.sqR
  exact⟨a,rfl,.inl ⟨⟨vs,q⟩,post _ H1 μ1 e1 s1 (xF (.inr rfl) r1' rfl)⟩⟩
 | tup ys=>
  cases hm
  have r1':=r1
  obtain⟨a,vs,rfl,q,rs⟩:=r1.sqT
  exact⟨a,rfl,.inr ⟨⟨vs,q⟩,post _ H1 μ1 e1 s1 (My r1')⟩⟩
 | _=>cases hm
end
noncomputable def aQ(N:List Str)(m:MS)(n:Nat):List D->ac->Option (D×ac):=fun ds S=>if ds.length=n then (m (aC N ds) S).bind fun o=>match o with | .rt d S'=>some (d,S') | .nx _ S'=>some (.non,S') | _=>none else none
def wT{N:List Str}{m:MS}{n:Nat}{ds:List D}{S S':ac}{d:D}(h:aQ N m n ds S=some (d,S')):Runs m (aC N ds) S d S':=by
 unfold aQ at h
 split at h
 ·obtain⟨o,h1,h⟩:=WI.mp h
  cases o with
  | rt d' S2=>cases h;exact .ret h1
  | nx e S2=>cases h;exact⟨_,[],h1,.inl rfl,.inr ⟨rfl,e,by rw [Xr]⟩⟩
  | bk _ _=>cases h
  | ct _ _=>cases h
 ·cases h
structure bO(K:W.Frag)(mg:Str->Option Value)(x:Str)(st:Stmt):Prop where
 ex:∃ (a:Addr) (fd:FuncData),L2.Fun K x x st a fd/\mg x=some (.ref a)
def AB(x:Str)(st:Stmt)(ps:List Str):Prop:=∀ (kV doc pm:Value) (an:Option Addr) (cdv ct:Value) (us:List Value),us.length=ps.length->bindArgs (W.fnOf x x (jy st) (aN st) (aA st) .none kV doc pm an cdv ct) ⟨us,[]⟩=pure (ps.zip us)
def VQ{P:Program}{w:World}{K:W.Frag}{mg:Str->Option Value}{base:Heap}{k:Nat}{x:Str}{st:Stmt}{N ps:List Str}{m:MS}
  (F:bO K mg x st) (Sc:aU N ps (aA st)) (hb:AB x st ps)
  (hbody:∀ (a:Addr) (cdv:Value) (A:Around) (outer:List PySem.Env) (s:Shared) (H:Hp) (E:XK),Room k (A.deeper (envOfC x (aA st) s.heap.objs.size a cdv)) ->
   wF (wB Hq P w K mg base N x (aA st) a cdv A outer s H E).nox (aN st) m) :
  Fn P w K mg base (k+1) x ps.length (aQ N m ps.length):=by
 obtain⟨a,fd,F,hmg⟩:=F.ex
 exact Sw F Sc hmg (F.binds hb) fun cdv A outer s H E hr=>⟨m,hbody a cdv A outer s H E hr,fun ds S d S' hn hS hd h=>wT h⟩
def Fn.up{P:Program}{w:World}{K:W.Frag}{mg:Str->Option Value}{base:Heap}{k k':Nat}{x:Str}{n:Nat}{f:List D->ac->Option (D×ac)}(F:Fn P w K mg base k x n f)(h:k<=k'):Fn P w K mg base k' x n f:=by
 obtain⟨a,fd,ps,h1,h2,h3⟩:=F.ex
 exact⟨a,fd,ps,h1,h2.mono h,h3⟩
def UC{K:W.Frag}{f:List D->ac->Option (D×ac)}(h:∀ ns:List Int,ns.length<=63->∃ S',f [.rol (ns.map .int)] []=some (.bl true,S')){H:Hp}{a:Addr}{ns:List Int}{E:XK}(hl:ns.length<=63)(hS:oI K H a (ns.map V.int)) :
  KG K 1 f [.ref a] H (fun v _=>v=.bl true) E:=by
 obtain⟨S',hf⟩:=h ns hl
 have hr:∀ l:List Int,Reps K ⟨[],[]⟩ H (l.map V.int) (l.map D.int):=fun l=>by
  induction l with
  | nil=>exact .nil
  | cons x l ih=>exact .cons (.int x) ih
 refine⟨⟨[],[]⟩,[],_,_,S',⟨List.nodup_nil,rfl,fun r a c h=>by simp at h,fun a h=>by simp at h,fun a h=>by simp at h⟩,.cons ?_ .nil,rfl,hf,fun v H' μ' e s r=>r.bl_inv⟩
 rcases hS with hS | hS
 ·exact .rol hS ⟨by simp,by simp⟩ (hr ns)
 ·exact .krol hS (hr ns)
noncomputable def Jh(_:ac)(x:D):Option D:=match x with | .int i=>some (.int (-i)) | _=>none
def OI{X:Cx}:UnR X (unaryOp .USub) (rM1 X.K Jh):=SU
noncomputable def bH:MT:=fun _ S=>some (true,S)
def NG{X:Cx}:OE X [] bH:=QP
def UD{P:Program}{w:World}{K:W.Frag}{mg:Str->Option Value}{k:Nat}{st:Stmt}{N:List Str}{m:MS}{fa:Addr}(F:bO K mg "law" st)(hfa:mg "law" = some (.ref fa))(Sc:aU N ["_law_script"] (aA st))
  (hbt:∀ (kV doc pm:Value) (an:Option Addr) (cdv ct v:Value),bindArgs (W.fnOf "law" "law" (jy st) (aN st) (aA st) .none kV doc pm an cdv ct) ⟨[v],[]⟩=pure [(("_law_script":Str),v)])
  (hbody:∀ (base:Heap) (a:Addr) (cdv:Value) (A:Around) (outer:List PySem.Env) (s:Shared) (H:Hp) (E:XK),Room k (A.deeper (envOfC "law" (aA st) s.heap.objs.size a cdv)) ->
   wF (wB Hq P w K mg base N "law" (aA st) a cdv A outer s H E).nox (aN st) m) :
  ∃ fd:FuncData,(∀ (s:Shared) (v:Value),BindsTo s fd ⟨[v],[]⟩ [("_law_script",v)])/\∀ base:Heap,K.In base->base.Ns mainGlobals mg->FnOk P w K mg base Hq (k+1) fa fd ["_law_script"] (KG K 1 (aQ N m 1)):=by
 obtain⟨a,fd,F,hmg⟩:=F.ex
 rw [hfa] at hmg
 have e:fa=a:=by cases hmg;rfl
 subst e
 refine⟨fd,fun s v=>?_,fun base _ _=>Sv F Sc fun cdv A outer s H E hr=>⟨m,hbody base fa cdv A outer s H E hr,fun ds S d S' hn hS hd h=>wT h⟩⟩
 obtain⟨oc,od,kV,doc,pm,an,cdv,ct,osl,rfl,lk,hcd⟩:=F.ex
 exact .of_eq (hbt kV doc pm an cdv ct v)
end M
namespace HT
open AutoSeq1 (wpAny_loadPart')
def Eo:fillsNumberSlot (.type "tuple") "mul" = pure false:=
 PySem.fillsNumberSlot_seq (id:="tuple.__mul__") (r:=some (.builtin "tuple.__rmul__"))
  F.slot_tuple_mul.lookup (by decide +kernel) F.slot_tuple_rmul.lookup (by decide +kernel)
def Tq:seqRepeat? (.type "tuple")=pure (some (.builtin "tuple.__mul__")):=by
 unfold seqRepeat?
 rw [PySem.seqSlot_of (T:="tuple") (name:="__mul__") (id:="tuple.__mul__") F.slot_tuple_mul.lookup (by decide +kernel)]
 rw [PySem.seqSlot_of (T:="tuple") (name:="__rmul__") (id:="tuple.__rmul__") F.slot_tuple_rmul.lookup (by decide +kernel)]
 rfl
def KS(a:Int)(t:Tok)(l:Addr)(items:Array Value)(n:Nat)(dd:Option Addr)(sl:Array (Option Value)) :
  Meets (Builtin.«int.__rmul__» ⟨[.int a t,.ref l],[]⟩) (fun _ R s=>s.heap.get? l=some ⟨.type "tuple",dd,.seq items n,sl⟩/\R (.ok (.ret Value.notImplemented)) s):=
 .of_wp fun prog w A R s h=>by
  obtain⟨hp,g,d,tk,os⟩:=s
  obtain⟨hl,h⟩:=h
  wp_walk
  exact⟨_,rfl,h⟩
def mulT0(l:Addr)(items:Array Value)(n:Nat)(k:Int)(t:Tok)(dd:Option Addr)(sl:Array (Option Value))(h1:¬ (decide (k < -(2 ^ 63))||decide (k≥2 ^ 63))=true)(hc:(items.isEmpty||k == 1)=true) :
  Meets (Builtin.«tuple.__mul__» ⟨[.ref l,.int k t],[]⟩) (fun _ R s=>s.heap.get? l=some ⟨.type "tuple",dd,.seq items n,sl⟩/\R (.ok (.ret (.ref l))) s):=
 .of_wp fun prog w A R s h=>by
  obtain⟨hp,g,d,tk,os⟩:=s
  obtain⟨hl,h⟩:=h
  have f1:=ZU
  have f2:=Zl
  wp_walk using wpAny_loadPart' hl
  rw [if_neg h1]
  wp_walk using wpAny_loadPart' hl
  exact⟨_,rfl,h⟩
def mulT1(l:Addr)(items:Array Value)(n:Nat)(k:Int)(t:Tok)(dd:Option Addr)(sl:Array (Option Value))(h1:¬ (decide (k < -(2 ^ 63))||decide (k≥2 ^ 63))=true)(hc:¬ (items.isEmpty||k == 1)=true)(hk:(decide (k<=0)||items.isEmpty)=true) :
  Meets (Builtin.«tuple.__mul__» ⟨[.ref l,.int k t],[]⟩) (fun _ R s=>s.heap.get? l=some ⟨.type "tuple",dd,.seq items n,sl⟩/\R (.ok (.ret (.ref s.heap.objs.size))) { s with heap:=s.heap.push { cls:=.type "tuple",data:=.seq #[] },toks:=s.toks }):=
 .of_wp fun prog w A R s h=>by
  obtain⟨hp,g,d,tk,os⟩:=s
  obtain⟨hl,h⟩:=h
  have f1:=ZU
  have f2:=Zl
  wp_walk using wpAny_loadPart' hl
  rw [if_neg h1]
  wp_walk using wpAny_loadPart' hl
  exact⟨_,rfl,h⟩
def mulT2(l:Addr)(items:Array Value)(n:Nat)(k:Int)(t:Tok)(dd:Option Addr)(sl:Array (Option Value))(h1:¬ (decide (k < -(2 ^ 63))||decide (k≥2 ^ 63))=true)(hc:¬ (items.isEmpty||k == 1)=true)(hk:¬ (decide (k<=0)||items.isEmpty)=true)
  (hb:¬ ((items.size:Int) * k>(2 ^ 63 - 1) / 8)) (hm:¬ Builtin.Tuple.tupleTooMany ((items.size:Int) * k)=true) (hz:(List.foldl (fun x1 x2=>x1++x2) #[] (List.replicate k.toNat items)).size<=sizeLine) :
  Meets (Builtin.«tuple.__mul__» ⟨[.ref l,.int k t],[]⟩) (fun _ R s=>s.heap.get? l=some ⟨.type "tuple",dd,.seq items n,sl⟩/\R (.ok (.ret (.ref s.heap.objs.size))) { s with heap:=s.heap.push { cls:=.type "tuple",data:=.seq (List.foldl (fun x1 x2=>x1++x2) #[] (List.replicate k.toNat items)) },toks:=s.toks }):=
 .of_wp fun prog w A R s h=>by
  obtain⟨hp,g,d,tk,os⟩:=s
  obtain⟨hl,h⟩:=h
  have f1:=ZU
  have f2:=Zl
  wp_walk using wpAny_loadPart' hl
  rw [if_neg h1]
  wp_walk using wpAny_loadPart' hl
  rw [if_neg hb]
  wp_walk using wpAny_loadPart' hl
  exact⟨_,rfl,h⟩
end HT
namespace L2
section
variable{X:Cx}
def vrep{xs:List V}{us:List Value}(h:Vals xs us):∀ k:Nat,Vals (List.replicate k xs).flatten (List.replicate k us).flatten
 | 0=>.nil
 | k+1=>by rw [Xo,Xo,XT,XT];exact h.append (vrep h k)
def frep(its:List Value):∀ (m:Nat) (acc:List Value),List.foldl (fun x1 x2=>x1++x2) acc.toArray (List.replicate m its.toArray)=(acc++(List.replicate m its).flatten).toArray
 | 0,acc=>by simp
 | m+1,acc=>by
  rw [Xo,List.foldl_cons,List.append_toArray,frep its m (acc++its),Xo,XT,Xm]
noncomputable def rRepT(K:W.Frag):R2:=fun x y H Q=>∃ a k xs,x=.ref a/\y=.int k/\mE K H a xs/\-(2 ^ 62)<=k/\k<2 ^ 62/\xs.length * k.toNat<=sizeLine /\
 ((xs=[]\/k=1)->Q (.ref a) H)/\((xs≠[]/\k≠1)->∀ p,H p=none->Q (.ref p) (upd H p (.tup (List.replicate k.toNat xs).flatten)))
def PH:OpR X (binaryOp .Mult) (rRepT X.K):=by
 intro pins s σ H x y v u Q I rx ry h
 obtain⟨l,k,xs,rfl,rfl,hq,h1,h2,hz,q1,q2⟩:=h
 cases rx
 obtain⟨t,rfl⟩:=ry
 obtain⟨its,r,hT,hzz⟩:=I.tuple hq
 obtain⟨⟨cls,dd,data,sl⟩,e,hc,n,hd⟩:=id hT
 simp only at hc hd
 subst hc hd
 have hlen:xs.length=its.length:=r.length
 have g1:¬ (decide (k < -(2 ^ 63))||decide (k≥2 ^ 63))=true:=by simp;omega
 have road:∀ {S:PySem.Spec},Meets (Builtin.«tuple.__mul__» ⟨[.ref l,.int k t],[]⟩) S->S X.A (wants (EP X pins σ Q) X.xe) s->wpAny (model X.prog X.w) X.A (binaryOp .Mult (.ref l) (.int k t)) (EP X pins σ Q) X.xe s:=fun M hS=>
  aaf (T:="tuple") (U:="int") (by decide) ⟨_,e,rfl⟩ (fun s'=>ZJ s' k t) HT.Eo F.fills_int_mul Zy HT.Tq F.slot_int_index.lookup
   (YJ Zy (ZJ s k t) F.entry_int_rmul (F.args_int_rmul_2 _ _) (HT.KS k t l its.toArray n dd sl)
    ⟨e,rfl,⟨_,e,rfl⟩,YJ F.slot_tuple_mul ⟨_,e,rfl⟩ F.entry_tuple_mul (F.args_tuple_mul_2 _ _) M hS⟩)
 by_cases hs:xs=[]\/k=1
 ·have hcc:(its.toArray.isEmpty||k == 1)=true:=by
   rcases hs with rfl | rfl
   ·cases r;rfl
   ·simp
  exact road (HT.mulT0 l its.toArray n k t dd sl g1 hcc) ⟨e,.ref l,H,I,rfl,q1 hs⟩
 ·have hx:xs≠[]:=fun z=>hs (.inl z)
  have hk1:k≠1:=fun z=>hs (.inr z)
  have hi:its≠[]:=fun z=>by subst z;cases r;exact hx rfl
  have hcc:¬ (its.toArray.isEmpty||k == 1)=true:=by simp [hi,hk1]
  by_cases hk:k<=0
  ·have hk':(decide (k<=0)||its.toArray.isEmpty)=true:=by simp [hk]
   have k0:k.toNat=0:=by omega
   refine road (HT.mulT1 l its.toArray n k t dd sl g1 hcc hk') ⟨e,.ref _,_,I.laid (o:=.tup []) (fun _ _ q=>WQ _ q) (WY _) ⟨by simp,[],.nil,⟨_,Xe _ rfl,rfl,⟨0,rfl⟩,rfl⟩⟩,rfl,?_⟩
   have:=q2 ⟨hx,hk1⟩ s.heap.objs.size I.fresh
   rw [k0] at this
   exact this
  ·have hk':¬ (decide (k<=0)||its.toArray.isEmpty)=true:=by simp [hi];omega
   have km:(k.toNat:Int)=k:=by omega
   have hpr:((its.length:Int) * k)<=sizeLine:=by rw [<- km,<- hlen];exact_mod_cast hz
   have hsl:((sizeLine:Nat):Int)<=(2 ^ 63 - 1) / 8:=by decide
   have hf:=frep its k.toNat []
   rw [YO] at hf
   have hf':List.foldl (fun x1 x2=>x1++x2) #[] (List.replicate k.toNat its.toArray)=(List.replicate k.toNat its).flatten.toArray:=hf
   have hl2:(List.replicate k.toNat its).flatten.length<=sizeLine:=by rw [zF,<- hlen,ZO];exact hz
   refine road (HT.mulT2 l its.toArray n k t dd sl g1 hcc hk' (by rw [WN];omega) (by unfold Builtin.Tuple.tupleTooMany;rw [WN];simp;omega) (by rw [hf',WN];exact hl2)) ⟨e,?_⟩
   rw [hf']
   exact⟨.ref _,_,I.laid (o:=.tup (List.replicate k.toNat xs).flatten) (fun _ _ q=>WQ _ q) (WY _) ⟨by rw [zF,ZO];exact hz,(List.replicate k.toNat its).flatten,vrep r _,⟨_,Xe _ rfl,rfl,⟨0,rfl⟩,rfl⟩⟩,rfl,q2 ⟨hx,hk1⟩ _ I.fresh⟩
end
section
variable{X:Cx}
def insK(n:Nat)(i:Int):Nat:=if i<0 then (i+(n:Int)).toNat else min i.toNat n
noncomputable def insL{α:Type}(xs:List α)(i:Int)(y:α):List α:=xs.take (insK xs.length i)++y::xs.drop (insK xs.length i)
end
end L2
namespace M
open L2
section
variable{X:Cx}{K:W.Frag}{μ μ':Fp}{H H':Hp}{S:ac}
noncomputable def cC(S:ac)(x y:D):Option D:=match x,y with
 | .tup xs,.int k=>if -(2 ^ 62)<=k/\k<2 ^ 62/\xs.length * k.toNat<=sizeLine then some (.tup (List.replicate k.toNat xs).flatten) else none
 | .lst xs,.int k=>if -(2 ^ 62)<=k/\k<2 ^ 62/\xs.length * k.toNat<=sizeLine then some (.lst (List.replicate k.toNat xs).flatten) else none
 | x,y=>Vr S x y
def flat1{α:Type}(xs:List α):(List.replicate 1 xs).flatten=xs:=by simp
def PM:OpR X (binaryOp .Mult) (oC X.K cC):=OpR.imp (OpR.or Ui (OpR.or PH Uc)) fun x y H Q ⟨μ,S,dx,dy,dz,hS,h1,h2,h3,post⟩=>by
 unfold cC at h3
 split at h3
 ·rename_i xs k
  split at h3
  ·rename_i hk
   cases h3
   obtain⟨a,vs,rfl,q,r⟩:=h1.sqT
   have h1':=h1
   refine .inr (.inl ⟨a,k,vs,rfl,h2.int_inv,q,hk.1,hk.2.1,by rw [r.length];exact hk.2.2,fun hs=>?_,fun _ p hp=>post.tup hS hp (Reps.flat _ r)⟩)
   have e:(List.replicate k.toNat xs).flatten=xs:=by
    rcases hs with rfl | rfl
    ·cases r;simp
    ·exact flat1 xs
   rw [e] at post
   exact post.here hS h1'
  ·cases h3
 ·rename_i xs k
  split at h3
  ·rename_i hk
   cases h3
   obtain⟨a,vs,rfl,q,n,r⟩:=h1.sqL
   exact .inr (.inr ⟨a,k,vs,rfl,h2.int_inv,q,by omega,by omega,by rw [r.length];exact hk.2.2,fun p hp=>post.lst hS hp (Reps.flat _ r)⟩)
  ·cases h3
 ·exact .inl ⟨μ,S,dx,dy,dz,hS,h1,h2,h3,post⟩
abbrev MF:=D->List D->ac->Option (D×ac)
inductive OB(K:W.Frag)(f:MF)(x:V)(vs:List V)(H:Hp)(Q:VK):Prop
 | mk (μ:Fp) (S:ac) (dx:D) (ds:List D) (d:D) (S':ac) (hS:SOk K μ S H) (h1:Rep K μ H x dx) (h2:Reps K μ H vs ds) (h3:f dx ds S=some (d,S')) (post:Post K μ H S' d Q)
def MtR.imp{id:String}{r r':V->List V->Hp->VK->Prop}(h:MtR X id r)(i:∀ x xs H Q,r' x xs H Q->r x xs H Q):MtR X id r':=fun pins s σ H x xs v us Q I rx rv q=>h pins s σ H x xs v us Q I rx rv (i x xs H Q q)
noncomputable def cX:MF:=fun o ds S=>match o,ds with
 | .ref r,[y]=>match S[r]? with | some (.lst xs)=>if xs.length<sizeLine then some (.non,S.set r (.lst (xs++[y]))) else none | _=>none
 | _,_=>none
noncomputable def fInsert:MF:=fun o ds S=>match o,ds with
 | .ref r,[.int i,y]=>match S[r]? with | some (.lst xs)=>if xs.length<sizeLine/\-(2 ^ 62)<=i/\i<2 ^ 62 then some (.non,S.set r (.lst (insL xs i y))) else none | _=>none
 | _,_=>none
noncomputable def vt:MF:=fun o ds S=>match ds with
 | [x]=>(ii S o).bind fun ys=>if cY 40 x=true/\ys.all (cY 39)=true then some (.int (ys.countP fun d=>jm d x),S) else none
 | _=>none
def Iw:MtR X "list.append" (OB X.K cX):=MtR.imp wZ fun x vs H Q ⟨μ,S,dx,ds,d,S',hS,r1,r2,h,post⟩=>by
 unfold cX at h
 split at h
 ·rename_i r y
  obtain⟨v,rfl,rv⟩:=r2.one
  cases q:S[r]? with
  | none=>rw [q] at h;cases h
  | some c=>
   rw [q] at h
   cases c with
   | dct _ _=>cases h
   | lst xs=>
    dsimp only at h
    split at h
    ·rename_i hz
     cases h
     cases r1 with
     | @ref a _ h'=>
      obtain⟨ws,hw,rw'⟩:=hS.cell r a _ h' q
      obtain⟨e,s'⟩:=hS.write h' hw (rw'.append (.cons rv .nil))
      exact⟨a,ws,v,rfl,rfl,hw,by rw [rw'.length];exact hz,post _ _ μ e s' .non⟩
    ·cases h
 ·cases h
def nI{pins:List (Addr×Obj)}{σ:L2.St}{s:Shared}(I:Inv X pins σ H s){x:D}:∀ {vs:List V} {us:List Value} {ds:List D},Vals vs us->Reps X.K μ H vs ds->(∀ d∈ds,cY 39 d=true) ->
  us.countP (fh X.K μ H x)=ds.countP fun d=>jm d x
 | _,_,_,.nil,.nil,_=>rfl
 | _,_,_,.cons rv tv,.cons r t,ok=>by
  rw [List.countP_cons,List.countP_cons,qz I rv r (ok _ WL),nI I tv t fun d m=>ok d (WO _ m)]
noncomputable def sJ(S:ac):D->Bool
 | .lst _=>true
 | .rol _=>true
 | .ref r=>match S[r]? with | some (.lst _)=>true | _=>false
 | _=>false
def qh{v:V}{d:D}(hS:SOk K μ S H)(r:Rep K μ H v d)(h:sJ S d=true):∃ a vs ds,v=.ref a/\oI K H a vs/\ii S d=some ds/\Reps K μ H vs ds:=by
 cases r with
 | lst h' n r=>exact⟨_,_,_,rfl,.inl (.inl h'),rfl,r⟩
 | rol h' n r=>exact⟨_,_,_,rfl,.inl h',rfl,r⟩
 | krol h' r=>exact⟨_,_,_,rfl,.inr h',rfl,r⟩
 | @ref a i h'=>
  simp only [sJ] at h
  cases q:S[i]? with
  | none=>rw [q] at h;cases h
  | some c=>
   rw [q] at h
   cases c with
   | dct _ _=>cases h
   | lst xs=>
    obtain⟨vs,e,r⟩:=hS.cell i a _ h' q
    exact⟨a,vs,xs,rfl,.inl (.inl e),by simp only [ii,q],r⟩
 | _=>cases h
noncomputable def om:MF:=fun o ds S=>if sJ S o=true then vt o ds S else none
def Bv(hu:X.A.units+64<cLine):MtR X "list.count" (OB X.K om):=by
 intro pins s σ H x vs v us Q I rx rv h
 obtain⟨μ,S,dx,ds,d,S',hS,r1,r2,h,post⟩:=h
 unfold om at h
 split at h
 ·rename_i hl
  unfold vt at h
  split at h
  ·rename_i y
   obtain⟨a,ws,es,rfl,hq,hse,re⟩:=qh hS r1 hl
   rw [hse] at h
   dsimp only [Option.bind_some] at h
   split at h
   ·rename_i hk
    cases h
    cases rx
    obtain⟨w,rfl,rw0⟩:=r2.one
    obtain⟨u,rfl,ru⟩:=rv.one
    obtain⟨its,rvs,⟨⟨cls,dd,data,sl⟩,n,e,hc,hdd,hd⟩,hz⟩:=I.list hq
    simp only at hc hdd hd
    subst hc hdd hd
    have ok:=Xd.mp hk.2
    refine YJ ZL ⟨_,e,rfl⟩ F.entry_list_count (F.args_list_count_2 _ _) (SeqAt.list_countAt a its.toArray n none sl u (fh X.K μ H y)) ⟨e,fun w' hw'=>?_,?_⟩
    ·exact gx I (by show X.A.units+1+40<cLine;omega) ru rw0 hk.1 rvs re ok w' (by simpa using hw')
    ·refine⟨.int _,H,I.tok _,⟨_,rfl⟩,?_⟩
     rw [nI I rvs re ok]
     exact post.here hS (.int _)
   ·cases h
  ·cases h
 ·cases h
noncomputable def di(f:MF)(o:ME)(ms:MA):ME:=fun env S=>(o env S).bind fun p=>if sJ p.2 p.1=true then (ms env p.2).bind fun q=>f p.1 q.1 q.2 else none
def Hd{o e:Expr}{es:List Expr}{mo:ME}{ms:MA}{f:MF}{name:Str}{id:String}{apos cpos:Pos}(slot:Slot "list" name id)(hty:typeOf (.builtin id)=pure (.type "method_descriptor"))(hm:MtR X id (OB X.K f))(ho:DE X o mo)(ha:DA X (e::es) ms)
  (hbase:attributeBase o name X.env (eval o X.env)=eval o X.env)
  (hfew:((backTo cpos (starEach (e::es) X.env)).all (fun x=>!x.1)&&(backToKw cpos (keywordEach [] X.env)).all (fun x=>x.1.isSome)&&decide ((e::es).length+([]:List Keyword).length+(if ([]:List Keyword).isEmpty then 0 else 1)<30))=true)
  (hline:(apos.endLine == cpos.line)=true) (hs:starEach (e::es) X.env=(false,eval e X.env)::starEach es X.env) (hpl:(backTo cpos (starEach es X.env)).any (·.1)=false) :
  DE X (.Call (.Attribute o name apos) (e::es) [] cpos) (di f mo ms):=
 PE.imp (pe_bm F.plainAttrs_list slot hty hm ho ha hbase hfew hline hs hpl) fun σ H Q ⟨μ,S,env,d,S',hS,hE,h,post⟩=>by
  obtain⟨⟨x,S1⟩,h1,h⟩:=WI.mp h
  dsimp only at h
  split at h
  ·rename_i hl
   obtain⟨⟨xs,S2⟩,h2,h⟩:=WI.mp h
   refine⟨μ,S,env,x,S1,hS,hE,h1,fun v H1 μ1 e1 s1 r1=>⟨?_,μ1,S1,env,xs,S2,s1,hE.mono e1,h2,fun vs H2 μ2 e2 s2 r2=>⟨μ2,S2,x,xs,d,S',s2,r1.mono e2,r2,h,(post.ext e1).ext e2⟩⟩⟩
   obtain⟨a,ws,es,rfl,hq,_,_⟩:=qh s1 r1 hl
   exact .inl ⟨rfl,ws,hq⟩
  ·cases h
end
end M
namespace HT
open AutoSeq1 (wpAny_loadPart')
section
variable{prog:Program}{w:World}{A:Around}{E:Value->Shared->Prop}{s:Shared}
def Fx{it t:Addr}{i:Nat}{items:Array Value}{x:Value}{Q:Value->Shared->Prop}(hit:s.heap.IsTupleIter it t i)(ht:s.heap.IsTuple t items)(hx:items[i]?=some x)
  (hQ:∀ h',h'.IsTupleIter it t (i+1)->Heap.SameBut it s.heap h'->Q x { s with heap:=h' }):wpAny (model prog w) A (Builtin.SmallTypes.nextOf (.ref it)) Q E s:=by
 obtain⟨o,ho,hc,hd⟩:=id hit;obtain⟨ol,hol,_,nl,hdl⟩:=ht
 unfold Builtin.SmallTypes.nextOf
 refine WK (XU (name:=Str.ofString "__next__") hit.typeIs YD (Yu YD hit.typeIs aad ?_ (ZW _)))
 show wpAny _ _ (field (.ref it) 0 >>= _) _ _ s;refine WK (XF ho hd (x:=.ref t) rfl ?_)
 show wpAny _ _ (if (Value.ref t == Value.none)=true then _ else _) _ _ s;rw [if_neg (show ¬ ((Value.ref t == Value.none)=true) from Bool.false_ne_true)]
 show wpAny _ _ (field (.ref it) 1 >>= _) _ _ s;refine WK (XF ho hd (x:=.int i 0) rfl ?_)
 show wpAny _ _ (seqItems? (.ref t) >>= _) _ _ s;refine WK (Yk hol hdl ?_);simp only [Xv,hx]
 refine WK (Yj ho hd (by simp) (Xa ⟨x,rfl,Xa (hQ _ ⟨_,XH _ ho (Obj.isFreed_of_fields (aaR hd _)),(Obj.cls_mapFields ..).trans hc,?_⟩ (Yh ..))⟩))
 rw [aaR hd];simp [rawInt]
def rB{it t:Addr}{i:Nat}{items:Array Value}{Q:Value->Shared->Prop}(hh:A.handled=none)(hit:s.heap.IsTupleIter it t i)(ht:s.heap.IsTuple t items)(hx:items[i]?=none)
  (hE:∀ h' e,Heap.ExtBut it s.heap h'->(∃ o,h'.get? e=some o/\o.cls=.type "StopIteration")->E (.ref e) { s with heap:=h' }):wpAny (model prog w) A (Builtin.SmallTypes.nextOf (.ref it)) Q E s:=by
 obtain⟨o,ho,hc,hd⟩:=id hit;obtain⟨ol,hol,_,nl,hdl⟩:=ht
 unfold Builtin.SmallTypes.nextOf
 refine WK (XU (name:=Str.ofString "__next__") hit.typeIs YD (Yu YD hit.typeIs aad ?_ (ZW _)))
 show wpAny _ _ (field (.ref it) 0 >>= _) _ _ s;refine WK (XF ho hd (x:=.ref t) rfl ?_)
 show wpAny _ _ (if (Value.ref t == Value.none)=true then _ else _) _ _ s;rw [if_neg (show ¬ ((Value.ref t == Value.none)=true) from Bool.false_ne_true)]
 show wpAny _ _ (field (.ref it) 1 >>= _) _ _ s;refine WK (XF ho hd (x:=.int i 0) rfl ?_)
 show wpAny _ _ (seqItems? (.ref t) >>= _) _ _ s;refine WK (Yk hol hdl ?_);simp only [Xv,hx]
 refine WK (Zz (WK (Yj ho hd (by simp) ?_)));show wpAny _ _ (newExc (.type "StopIteration") [] >>= _) _ _ _
 refine WK ?_;simp only [newExc,newTuple];refine WK (XB ?_ (by size_fits))
 refine WK (m:=firstArgMember _ _) (aaI (a:=Value.none) (by first | rfl | (simp only [firstArgMember];rfl)) (XB ?_ (by size_fits)))
 simp only [raiseNew];refine WK (wpAny_handled ?_);(first | rw [show A.in1.handled=none from hh] | rw [hh])
 refine WK (Xa (wpAny_throw (hE _ _ (((Yh ..).extBut.push _).push _) ⟨_,Xe _ rfl,rfl⟩)))
end
def vw{prog:Program}{w:World}{A:Around}(hh:A.handled=none)(it t:Addr)(hne:t≠it)(items:Array Value) :
  Draws prog w A it [it,t] items.size (fun i v=>items[i]?=some v) (fun i h=>h.IsTupleIter it t i/\h.IsTuple t items) where
 live:=fun _ _ st=>by obtain⟨o,ho,_⟩:=st.1;exact⟨o,ho⟩
 frame:=fun _ _ _ st hk=>by
  obtain⟨⟨o,ho,r⟩,⟨o2,ho2,r2⟩⟩:=st
  exact⟨⟨o,hk it (by simp) o ho,r⟩,⟨o2,hk t (by simp) o2 ho2,r2⟩⟩
 item:=fun i s Q E hi st hQ=>Fx st.1 st.2 (x:=items[i]) (by simp [hi]) fun h' hit' hs'=>hQ _ h' s.toks (by simp [hi]) ⟨hit',st.2.extBut hs'.extBut hne⟩ hs'
 done:=fun s Q E st hE=>rB hh st.1 st.2 (by simp) hE
def Jw(l:Addr)(items:Array Value)(n:Nat)(dct:Option Addr)(sl:Array (Option Value)) :
  Meets (Builtin.«enumerate.__new__» ⟨[.type "enumerate",.ref l],[]⟩) (fun _ R s=>s.heap.get? l=some ⟨.type "tuple",dct,.seq items n,sl⟩ /\
   R (.ok (.ret (.ref (s.heap.push { cls:=.type "tuple_iterator",data:=.fields #[.ref l,.int 0 0] }).objs.size)))
    {s with heap:=(s.heap.push { cls:=.type "tuple_iterator",data:=.fields #[.ref l,.int 0 0] }).push { cls:=.type "enumerate",data:=.fields #[.none,.bool false,.ref s.heap.objs.size,rawInt 0,.none,.none] } }):=
 .of_wp fun prog w A R s h=>by
  obtain⟨hp,g,d,tk,os⟩:=s
  obtain⟨hl,h⟩:=h
  have hsub:=sub_enumerate
  have hL:Heap.IsTuple (Shared.heap ⟨hp,g,d,tk,os⟩) l items:=⟨_,hl,rfl,n,rfl⟩
  wp_walk using wpAny_loadPart' hl
  refine wpAny_stack_any fun st=>Xa ?_
  split
  ·rename_i c _ _ _ _ _
   cases (c == Value.type "enumerate") <;> (wp_walk using wpAny_loadPart' hl,YK hL;exact⟨_,rfl,h⟩)
  ·wp_walk using wpAny_loadPart' hl,YK hL
   exact⟨_,rfl,h⟩
end HT
namespace HT
section
variable{prog:Program}{w:World}{A:Around}{E:Value->Shared->Prop}{s:Shared}
def FJ{l:Addr}{items:Array Value}{Q:Value->Shared->Prop}(hL:s.heap.IsTuple l items)
  (h:∀ h':Heap,IsEnum h' (s.heap.objs.size+1) s.heap.objs.size 0 .none->h'.IsTupleIter s.heap.objs.size l 0->h'.objs.size=s.heap.objs.size+2->(∀ b o,s.heap.get? b=some o->h'.get? b=some o)->Q (.ref (s.heap.objs.size+1)) { s with heap:=h' }) :
  wpAny (model prog w) A (call (.type "enumerate") [.ref l]) Q E s:=by
 obtain⟨⟨c,dct,dt,sl⟩,hl,hc,n,hd⟩:=hL
 simp only at hc hd
 subst hc hd
 refine callType_new F.called_enumerate (by decide) (F.typeCall_enumerate_1 _) (F.newCall_enumerate_1 _) (fun obj=>F.args_object_init_2 obj _) F.entry_enumerate_new (Jw l items n dct sl) ⟨hl,?_⟩
 have hz:(s.heap.push { cls:=.type "tuple_iterator",data:=.fields #[.ref l,.int 0 0] }).objs.size=s.heap.objs.size+1:=Yd ..
 show _/\_
 rw [hz]
 have he:IsEnum ((s.heap.push { cls:=.type "tuple_iterator",data:=.fields #[.ref l,.int 0 0] }).push { cls:=.type "enumerate",data:=.fields #[.none,.bool false,.ref s.heap.objs.size,rawInt 0,.none,.none] }) (s.heap.objs.size+1) s.heap.objs.size 0 .none:=by
  have q:=Xe (s.heap.push { cls:=.type "tuple_iterator",data:=.fields #[.ref l,.int 0 0] }) (o:={ cls:=.type "enumerate",data:=.fields #[.none,.bool false,.ref s.heap.objs.size,rawInt 0,.none,.none] }) rfl
  rw [hz] at q
  exact q
 exact⟨⟨_,he,rfl⟩,h _ he ⟨_,WQ _ (Xe _ rfl),rfl,rfl⟩ (by rw [Yd,hz]) fun b o x=>WQ _ (WQ _ x)⟩
end
end HT
namespace L2
section
variable{X:Cx}{pins:List (Addr×Obj)}{σ:St}{H:Hp}{s:Shared}{h':Heap}
def Inv.turnLaid{fp:List Addr}{a:Addr}{o:HO}{t':Nat}(I:Inv X pins σ H s)(k:∀ b o,b ∉ fp->s.heap.get? b=some o->h'.get? b=some o)(hf:∀ b∈fp,rM X pins H b)(hp:s.heap.objs.size<=a)
  (new:ObjOk X.prog X.w (upd H a o) h' a o):Inv X pins σ (upd H a o) { s with heap:=h',toks:=t' }:=by
 have hn:H a=none:=I.hok.fresh hp
 have st:∀ b u,H b=some u->upd H a o b=some u:=fun b u e=>(bn (cx e hn)).trans e
 have nfp:∀ b u,H b=some u->b ∉ fp:=fun b u e z=>by rw [(hf b z).1] at e;cases e
 refine I.step (g':=s.gens) (d':=s.drawn) (ch:=fp) (fun b hb=>?_) (fun b o _ _ hc e _=>k b o hc e) (fun b o _ _ hc e _=>⟨o.slots,k b o hc e⟩) (fun b u _ e n=>?_) (fun b o hc e=>⟨o,k b o hc e⟩) (fun b xs e=>st b _ e) (fun b o u e=>st b _ e) (fun b ps e=>⟨#[],by rw [st b _ e];simp⟩) (fun m hm=>?_) (fun b u e=>?_) I.bare
 ·obtain⟨f0,f1,f2,f3,f4,f5⟩:=hf b hb
  exact⟨f3,f1,f4,f5⟩
 ·rw [bn (Xx (Xi (Xb e) hp))];exact n
 ·obtain⟨o',es,ep,ho,r⟩:=hm
  exact⟨o',es,ep,k _ o' (fun z=>(hf _ z).2.1 rfl) ho,r⟩
 ·by_cases hb:b=a
  ·subst hb
   rw [bx] at e
   cases e
   exact new
  ·rw [bn hb] at e
   refine(I.hok b u e).stay (fun c v hc q=>k c v ?_ q) (fun _ q=>st _ _ q) fun _ _ q=>st _ _ q
   rcases hc with z | z
   ·rw [z];exact nfp b u e
   ·exact nfp c _ z
def Inv.turnedL{fp:List Addr}{t':Nat}(I:Inv X pins σ H s)(k:∀ b o,b ∉ fp->s.heap.get? b=some o->h'.get? b=some o)(hf:∀ b∈fp,rM X pins H b):Inv X pins σ H { s with heap:=h',toks:=t' }:=by
 have nfp:∀ b u,H b=some u->b ∉ fp:=fun b u e z=>by rw [(hf b z).1] at e;cases e
 refine I.step (g':=s.gens) (d':=s.drawn) (ch:=fp) (fun b hb=>?_) (fun b o _ _ hc e _=>k b o hc e) (fun b o _ _ hc e _=>⟨o.slots,k b o hc e⟩) (fun b u _ e n=>n) (fun b o hc e=>⟨o,k b o hc e⟩) (fun b xs e=>e) (fun b o u e=>e) (fun b ps e=>⟨#[],by rw [e];simp⟩) (fun m hm=>?_) (fun b u e=>?_) I.bare
 ·obtain⟨f0,f1,f2,f3,f4,f5⟩:=hf b hb
  exact⟨f3,f1,f4,f5⟩
 ·obtain⟨o',es,ep,ho,r⟩:=hm
  exact⟨o',es,ep,k _ o' (fun z=>(hf _ z).2.1 rfl) ho,r⟩
 ·refine(I.hok b u e).stay (fun c v hc q=>k c v ?_ q) (fun _ q=>q) fun _ _ q=>q
  rcases hc with z | z
  ·rw [z];exact nfp b u e
  ·exact nfp c _ z
noncomputable def Ite(K:W.Frag)(a:Addr):It:=
 ⟨fun i H=>∃ xs x,mE K H a xs/\xs[i]?=some x,fun i H x H'=>∃ p v,x=.ref p/\H p=none/\H'=upd H p (.tup [.int (i:Nat),v])/\∀ xs,mE K H a xs->xs[i]?=some v,fun i H=>∃ xs,mE K H a xs/\xs.length<=i⟩
def HC{P:Program}{w:World}{K:W.Frag}{es:List Expr}{k:Nat}{pos:Pos}(a e it:Addr)(hei:e≠it):FQ P w K (.Tuple es k pos) (Ite K a) [e,it] e (fun i h=>(∃ old,IsEnum h e it i old)/\h.IsTupleIter it a i) where
 mem:=by simp
 obj:=fun i h st b hb=>by
  obtain⟨⟨old,he⟩,⟨o,ho,hc,hd⟩⟩:=st
  simp only [Xq,Yi,ZA] at hb
  rcases hb with rfl | rfl
  ·exact⟨_,he,fun v z=>by cases z⟩
  ·exact⟨o,ho,fun v z=>by rw [hd] at z;cases z⟩
 keep:=fun i h h' st kk=>by
  obtain⟨⟨old,he⟩,⟨o,ho,r⟩⟩:=st
  exact⟨⟨old,kk e (by simp) _ he⟩,⟨o,kk it (by simp) _ ho,r⟩⟩
 item:=by
  intro X hP hw hK hc i pins s σ H E I hf st hg
  subst hP hw hK
  obtain⟨xs,x,hq,hx⟩:=hg
  obtain⟨its,rv,p,hz⟩:=I.tuple hq
  have hT:s.heap.IsTuple a its.toArray:=p
  have hh:=I.ok.hd hc
  have ne1:a≠e:=fun z=>by
   obtain⟨⟨old,he⟩,_⟩:=st
   obtain⟨o,ho,hcl,_⟩:=hT
   rw [z,he] at ho;cases ho;exact absurd (show Value.type "enumerate" = Value.type "tuple" from hcl) (by decide)
  have ne2:a≠it:=fun z=>by
   obtain⟨_,⟨o',ho',hc',_⟩⟩:=st
   obtain⟨o,ho,hcl,_⟩:=hT
   rw [z,ho'] at ho;cases ho;rw [hc'] at hcl;exact absurd hcl (by decide)
  have W:=WalksT.enumerateD (HT.vw (prog:=X.prog) (w:=X.w) (A:=X.A.in1) hh it a ne2 its.toArray) e hei (by simp;exact⟨hei,fun z=>ne1 z.symm⟩) (by simp)
  have hi:i<its.toArray.size:=by rw [WN,<- rv.length];exact(WJ.mp hx).1
  obtain⟨⟨old,he⟩,hit⟩:=st
  have Te:s.heap.objs.size≠e:=Yz (Xb he)
  have Ti:s.heap.objs.size≠it:=by
   obtain⟨o,ho,_⟩:=hit
   exact Yz (Xb ho)
  refine wpAny_pyNext_enum_itemD (HT.vw (prog:=X.prog) (w:=X.w) (A:=X.A.in1) hh it a ne2 its.toArray) he ⟨hit,hT⟩ hi hei (by simp;exact⟨hei,fun z=>ne1 z.symm⟩) fun y h1 tk hy ho st1 hT1 hsz kk=>⟨_,rfl,?_⟩
  refine W.go es k pos i s.heap.objs.size _ _ _ ⟨⟨y,ho⟩,st1,Te,Ti⟩ fun h2 st2 kk2=>?_
  generalize hTT:s.heap.objs.size=T at *
  obtain⟨u,hu,ru⟩:=rv.get hx
  have ey:y=u:=by
   rw [show its.toArray[i]?=its[i]? by simp,hu] at hy
   exact(Xg hy).symm
  subst ey
  have apT:T ∉ [e,it]:=by simp;exact⟨Te,Ti⟩
  have kall:∀ b o,b ∉ [e,it]->s.heap.get? b=some o->h2.get? b=some o:=fun b o hb q=>kk2 b o hb (kk b o (fun z=>hb (by simp [z])) (fun z=>hb (by simp [z])) q)
  have hT2:IsTupN h2 T #[.int i tk,y]:=⟨_,kk2 T _ apT hT1,rfl,⟨_,rfl⟩,rfl⟩
  have hTs:s.heap.objs.size<=T:=ZP hTT
  refine⟨.ref T,upd H T (.tup [.int (i:Nat),x]),I.turnLaid kall hf hTs ⟨by show 2<=sizeLine;decide,[.int i tk,y],.cons ⟨_,rfl⟩ (.cons ru .nil),hT2⟩,rfl,⟨T,x,rfl,I.hok.fresh hTs,rfl,fun ys hy=>by rw [I.tuple_inj hy hq];exact hx⟩,⟨st2.1,st2.2.1⟩,fun b hb=>?_⟩
  have nb:b≠T:=fun z=>apT (by rw [<- z];exact hb)
  rw [bn nb]
  exact(hf b hb).1
 done:=by
  intro X hP hw hK hc i pins s σ H E I hf st hg
  subst hP hw hK
  obtain⟨xs,hq,hx⟩:=hg
  obtain⟨its,rv,p,hz⟩:=I.tuple hq
  have hT:s.heap.IsTuple a its.toArray:=p
  have hh:=I.ok.hd hc
  have ne1:a≠e:=fun z=>by
   obtain⟨⟨old,he⟩,_⟩:=st
   obtain⟨o,ho,hcl,_⟩:=hT
   rw [z,he] at ho;cases ho;exact absurd (show Value.type "enumerate" = Value.type "tuple" from hcl) (by decide)
  have D':Draws X.prog X.w X.A.in1 it [it,a] i (fun _ _=>True) (fun j h=>j=i/\h.IsTupleIter it a i/\h.IsTuple a its.toArray):=
   {live:=fun _ _ q=>by obtain⟨_,⟨o,ho,_⟩,_⟩:=q;exact⟨o,ho⟩
    frame:=fun _ _ _ q hk=>by
     obtain⟨q0,⟨o,ho,r⟩,⟨o2,ho2,r2⟩⟩:=q
     exact⟨q0,⟨o,hk it (by simp) o ho,r⟩,⟨o2,hk a (by simp) o2 ho2,r2⟩⟩
    item:=fun j _ _ _ hj q _=>absurd q.1 (Xx hj)
    done:=fun s Q E q hE=>HT.rB hh q.2.1 q.2.2 (by simp;have:=rv.length;omega) hE }
  have W:=WalksT.enumerateD D' e hei (by simp;exact⟨hei,fun z=>ne1 z.symm⟩) (by simp)
  refine W.done s _ _ ⟨st.1,rfl,st.2,hT⟩ fun h2 tk kk=>⟨rfl,I.turnedL kk hf⟩
 self:=fun A i s Q E st h=>by
  obtain⟨⟨old,he⟩,_⟩:=st
  exact wpAny_pyIter_enum he h
def iEnum(K:W.Frag)(t:TA):TI:=fun σ H R=>t σ H fun xs H1=>∃ a,xs=[.ref a]/\(∃ ys,mE K H1 a ys)/\R (Ite K a) H1
end
section
variable{X:Cx}
def Pq{a:Expr}{ta:TA}{es:List Expr}{k:Nat}{tp p pos:Pos}(hg:Gl X "enumerate")(hm:X.mg "enumerate" = none)(ha:PA X [a] ta)(hs:starEach [a] X.env=[(false,eval a X.env)]) :
  PI X (.Tuple es k tp) (.Call (.Name "enumerate" p) [a] [] pos) (iEnum X.K ta):=by
 intro pins s σ H R I h
 refine Call_ (lY I hg hm boot_enumerate (XG (dE (ha pos pins s σ H _ I h) fun us s1 ⟨vs,H1,I1,r1,q1⟩=>?_) hs rfl))
 obtain⟨t,rfl,⟨ys,hq⟩,q⟩:=q1
 obtain⟨u,rfl,ru⟩:=r1.one
 cases ru
 obtain⟨its,rv,pt,hz⟩:=I1.tuple hq
 refine HT.FJ pt fun h' he hi hsz kk=>wpAny_pyIter_enum he ?_
 refine⟨s1.heap.objs.size+1,[s1.heap.objs.size+1,s1.heap.objs.size],_,_,H1,rfl,I1.kept (t':=s1.toks) kk,HC t _ _ (Nat.succ_ne_self _),⟨⟨_,he⟩,hi⟩,fun b hb=>?_,q⟩
 simp only [Xq,Yi,ZA] at hb
 rcases hb with rfl | rfl
 ·exact I1.fpOk (aaO _) (I1.hok.fresh (aaO _))
 ·exact I1.fpOk (WY _) (I1.hok.fresh (WY _))
end
end L2
namespace M
open L2
section
variable{X:Cx}{K:W.Frag}{μ μ':Fp}{H H':Hp}{S:ac}
noncomputable def eR:Nat->List D->List D
 | _,[]=>[]
 | i,x::r=>.tup [.int (i:Nat),x]::eR (i+1) r
def oo:∀ (i:Nat) (xs:List D),(eR i xs).length=xs.length
 | _,[]=>rfl
 | i,_::r=>by rw [eR,WT,WT,oo (i+1) r]
def xV:∀ (k:Nat) (xs:List D) (i:Nat) (d:D),(eR k xs)[i]?=some d->∃ x,xs[i]?=some x/\d=.tup [.int ((k+i:Nat):Int),x]
 | _,[],i,d,h=>by simp [eR] at h
 | k,x::r,0,d,h=>by simp [eR] at h;exact⟨x,rfl,h.symm⟩
 | k,x::r,i+1,d,h=>by
  rw [eR,Zn] at h
  obtain⟨y,h1,h2⟩:=xV (k+1) r i d h
  refine⟨y,by simpa using h1,?_⟩
  rw [h2,show k+1+i=k+(i+1) by omega]
def IW{a:Addr}{xs:List D}(r:Rep K μ H (.ref a) (.tup xs)):FU K μ H (Ite K a) (eR 0 xs):=fun μ' H' S' e s i=>by
 have r':=r.monoP e
 obtain⟨b,vs,hb,hq,rs⟩:=r'.sqT
 cases hb
 refine⟨fun d hd=>?_,fun hl=>⟨vs,hq,by rw [rs.length];rw [oo] at hl;exact hl⟩⟩
 obtain⟨x,hx,rfl⟩:=xV 0 xs i d hd
 obtain⟨v,hv,rv⟩:=rs.get hx
 refine⟨⟨vs,v,hq,hv⟩,fun y H2 hy=>?_⟩
 obtain⟨p,w,rfl,hp,rfl,hw⟩:=hy
 have ew:w=v:=by have:=hw vs hq;rw [hv] at this;exact(Xg this).symm
 subst ew
 obtain⟨e2,s2⟩:=s.laid (o:=.tup [.int (i:Nat),w]) hp
 refine⟨e2,s2,?_⟩
 rw [Zw]
 exact .tup bx (s.notMem hp) (.cons (.int _) (.cons (rv.mono e2) .nil))
noncomputable def el(ms:MA):MA:=fun env S=>(ms env S).bind fun p=>match p.1 with | [.tup xs]=>some (eR 0 xs,p.2) | _=>none
def Rb{a:Expr}{ms:MA}{es:List Expr}{k:Nat}{tp p pos:Pos}(hm:X.mg "enumerate" = none)(ha:DA X [a] ms)(hg:Gl X "enumerate")(hs:starEach [a] X.env=[(false,eval a X.env)]) :
  DI X (.Tuple es k tp) (.Call (.Name "enumerate" p) [a] [] pos) (el ms):=PI.imp (Pq hg hm ha hs) fun σ H R ⟨μ,S,env,xs,S',hS,hE,h,post⟩=>by
 obtain⟨⟨ds,S1⟩,h1,h⟩:=WI.mp h
 refine⟨μ,S,env,ds,S1,hS,hE,h1,fun vs H1 μ1 e1 s1 r1=>?_⟩
 dsimp only at h
 split at h
 ·rename_i ys
  cases h
  obtain⟨v,rfl,rv⟩:=r1.one
  have rv':=rv
  obtain⟨b,ws,rfl,hq,rs⟩:=rv.sqT
  exact⟨b,rfl,⟨ws,hq⟩,post _ H1 μ1 e1 s1 (IW rv')⟩
 ·cases h
end
end M
namespace HT
section
variable{prog:Program}{w:World}{A:Around}{E:Value->Shared->Prop}{s:Shared}
end
end HT
namespace L2
section
variable{X:Cx}{e st:Expr}{te:TE}{ts:TO}{pos p2:Pos}
end
end L2
namespace M
open L2
section
variable{X:Cx}{K:W.Frag}{μ:Fp}{H:Hp}{S:ac}
noncomputable def mRev(a:ME)(st:MO):ME:=fun env S=>(a env S).bind fun p=>(st env p.2).bind fun k=>match p.1,k.1 with
 | .tup xs,some j=>if j = -1 then some (.tup xs.reverse,k.2) else none
 | _,_=>none
end
end M
namespace L2
section
variable{X:Cx}
def dedN(ns:List Int):Nat:=(firstMet (fun i=>ns.getD i 0) ns.length).length
end
end L2
namespace M
open L2
noncomputable def pE:List D->Option (List Int)
 | []=>some []
 | .int i::r=>(pE r).bind fun ns=>some (i::ns)
 | _::_=>none
def rX:∀ {ds:List D} {ns:List Int},pE ds=some ns->ds=ns.map D.int
 | [],ns,h=>by cases h;rfl
 | .int i::r,ns,h=>by
  obtain⟨ms,h1,h2⟩:=WI.mp h
  cases h2
  rw [WR,<- rX h1]
 | .non::_,ns,h=>by cases h
 | .bl _::_,ns,h=>by cases h
 | .str _::_,ns,h=>by cases h
 | .tup _::_,ns,h=>by cases h
 | .lst _::_,ns,h=>by cases h
 | .rol _::_,ns,h=>by cases h
 | .dct _ _::_,ns,h=>by cases h
 | .ref _::_,ns,h=>by cases h
def uY:∀ ns:List Int,pE (ns.map D.int)=some ns
 | []=>rfl
 | n::ns=>by rw [WR,pE,uY ns];rfl
noncomputable def isort(ns:List Int):List Int:=ns.mergeSort fun a b=>decide (a<=b)
section
variable{X:Cx}{K:W.Frag}{μ:Fp}{H:Hp}{S:ac}
def wV:∀ {vs:List V} {ns:List Int},Reps K μ H vs (ns.map D.int)->vs=ns.map V.int
 | _,[],.nil=>rfl
 | _,n::ns,.cons h t=>by rw [h.int_inv,wV t];rfl
noncomputable def rY(S:ac)(d:D):Option (List Int):=if sJ S d=true then (ii S d).bind fun ds=>(pE ds).bind fun ns=>if ns.length<64 then some ns else none else none
def Fe{v:V}{d:D}{ns:List Int}(hS:SOk K μ S H)(r:Rep K μ H v d)(h:rY S d=some ns):∃ a,v=.ref a/\oI K H a (ns.map V.int)/\ns.length<64:=by
 unfold rY at h
 split at h
 ·rename_i hl
  obtain⟨a,vs,ds,rfl,hq,hs,rs⟩:=qh hS r hl
  rw [hs] at h
  have h:((pE ds).bind fun ns=>if ns.length<64 then some ns else none)=some ns:=h
  obtain⟨ms,h1,h2⟩:=WI.mp h
  split at h2
  ·rename_i h3
   cases h2
   have:=rX h1
   subst this
   exact⟨a,rfl,by rw [<- wV rs];exact hq,h3⟩
  ·cases h2
 ·cases h
noncomputable def fSorted(S:ac):List D->Option D
 | [d]=>(rY S d).bind fun ns=>some (.lst ((isort ns).map D.int))
 | _=>none
noncomputable def fLenSet(S:ac):List D->Option D
 | [d]=>(rY S d).bind fun ns=>some (.int (dedN ns:Nat))
 | _=>none
end
section
variable{X:Cx}{K:W.Frag}{μ:Fp}{H:Hp}{S:ac}
noncomputable def lq(i j:Nat)(ms:MA):MS:=fun env S=>(ms env S).bind fun p=>match p.1 with | [v,w]=>some (.nx ((env.set i (some v)).set j (some w)) p.2) | _=>none
def VJ{i j:Nat}{x y:Str}{a b:Expr}{ms:MA}{px py pt pos:Pos}{kt k2:Nat}{pt2:Pos}(hc:X.calm=true)(hN:X.N.Nodup)(hi:X.N[i]?=some x)(hj:X.N[j]?=some y)(hij:i≠j)
  (hx:X.env.scope.names.lookup x=some .local) (hy:X.env.scope.names.lookup y=some .local) (ha:DA X [a,b] ms)
  (hw:swappedStores [.Tuple [.Name x px,.Name y py] kt pt] (.Tuple [a,b] k2 pt2) X.env=pure (some [x,y])) :
  DS X (.Assign [.Tuple [.Name x px,.Name y py] kt pt] (.Tuple [a,b] k2 pt2) pos) (lq i j ms):=
 PS.imp (Tv hc hN hi hj hij hx hy ha hw rfl) fun E σ H ⟨μ,S,env,o,hS,hE,h,post⟩=>by
  obtain⟨⟨ds,S1⟩,h1,h⟩:=WI.mp h
  refine⟨μ,S,env,ds,S1,hS,hE,h1,fun vs H1 μ1 e1 s1 r1=>?_⟩
  dsimp only at h
  split at h
  ·rename_i v w
   cases h
   obtain⟨v',w',rfl,rv,rw'⟩:=r1.two
   exact⟨v',w',rfl,post _ H1 μ1 e1 s1 (((hE.mono e1).set rv i).set rw' j)⟩
  ·cases h
noncomputable def tZ:Expr->Bool
 | .Starred _ _=>false
 | _=>true
def KB{x y:Str}{a b:Expr}{px py pt:Pos}{kt k2:Nat}{pt2:Pos}(hb:X.env.blockKind=.function)(hx:X.env.scope.names.lookup x=some .local)(hy:X.env.scope.names.lookup y=some .local)(hne:(x == y)=false)
  (hl:(py.line == px.line)=true) (ha:tZ a=true) (hb':tZ b=true) (hf:(foldedForSure 8 a&&foldedForSure 8 b)=false) (hcn:(constantsAlone 8 a&&constantsAlone 8 b)=false) :
  swappedStores [.Tuple [.Name x px,.Name y py] kt pt] (.Tuple [a,b] k2 pt2) X.env=pure (some [x,y]):=by
 have hkx:X.env.kindOf x=some .local:=hx
 have hky:X.env.kindOf y=some .local:=hy
 have hs:([a,b].any fun e=>match e with | .Starred ..=>true | _=>false)=false:=by
  have q:∀ e:Expr,tZ e=true->(match e with | .Starred ..=>true | _=>false:Bool)=false:=fun e h=>by cases e <;> first | rfl | cases h
  simp only [XD,aaz,q a ha,q b hb',Bool.or_self]
 have hxy:(y == x)=false:=by
  rw [Bool.eq_false_iff] at hne ⊢
  intro z;exact hne (by rw [beq_iff_eq] at z ⊢;exact z.symm)
 have hed:([x,y]:List Str).eraseDups=[x,y]:=by simp [List.eraseDups_cons,hxy]
 have hl':py.line=px.line:=by simpa using hl
 unfold swappedStores
 simp only [WT,YQ,hb]
 simp only [Yc,List.all_nil,aap,hf,hcn]
 generalize hg:List.filterMap _ [Expr.Name x px,Expr.Name y py]=L
 have hL:L=[x,y]:=by
  rw [<- hg]
  have e0:(Option.map (fun(x:Expr)=>x.pos.line) [Expr.Name x px,Expr.Name y py].head?).getD 0=px.line:=rfl
  rw [Yg,Yg]
  have e1:(Expr.Name x px).pos=px:=rfl
  simp [hkx,hky,e0,e1,hl']
 subst hL
 rw [if_neg (by decide)]
 rw [if_neg (by
  intro z
  have:([a,b].any fun e=>match e with | .Starred ..=>true | _=>false)=true:=z
  rw [hs] at this;cases this)]
 rw [if_neg (by rw [hed];simp),if_neg Bool.false_ne_true,if_neg Bool.false_ne_true]
end
end M
namespace L2
section
variable{X:Cx}{pins:List (Addr×Obj)}{σ:St}{H:Hp}{s:Shared}{a:Addr}{xs:List V}
def Inv.tupD(I:Inv X pins σ H s)(h:mE X.K H a xs):∃ ob,s.heap.get? a=some ob/\ob.cls=.type "tuple"/\ob.dict=none:=by
 rcases h with h | ⟨o,its,n,hk,hc,hdn,hs,hz,r⟩
 ·obtain⟨z,its,r,ob,e,c,d,dn⟩:=h.ok I.hok
  exact⟨ob,e,c,dn⟩
 ·exact⟨o,I.kIn a o hk,hc,hdn⟩
variable{o e:Expr}{es:List Expr}{to:TE}{t:TA}{name:Str}{apos cpos:Pos}{id:String}{r:V->List V->Hp->VK->Prop}
def tBT(K:W.Frag)(r:V->List V->Hp->VK->Prop)(to:TE)(t:TA):TE:=fun σ H Q=>to σ H fun x H1=>(∃ p xs,x=.ref p/\mE K H1 p xs)/\t σ H1 fun xs H2=>r x xs H2 Q
def TW(slot:Slot "tuple" name id)(hty:typeOf (.builtin id)=pure (.type "method_descriptor"))(hm:MtR X id r)(ho:PE X o to)(ha:PA X (e::es) t)
  (hbase:attributeBase o name X.env (eval o X.env)=eval o X.env)
  (hfew:((backTo cpos (starEach (e::es) X.env)).all (fun x=>!x.1)&&(backToKw cpos (keywordEach [] X.env)).all (fun x=>x.1.isSome)&&decide ((e::es).length+([]:List Keyword).length+(if ([]:List Keyword).isEmpty then 0 else 1)<30))=true)
  (hline:(apos.endLine == cpos.line)=true) (hs:starEach (e::es) X.env=(false,eval e X.env)::starEach es X.env) (hplain:(backTo cpos (starEach es X.env)).any (·.1)=false) :
  PE X (.Call (.Attribute o name apos) (e::es) [] cpos) (tBT X.K r to t):=by
 intro pins s σ H Q I h
 refine Zr hbase hfew hline rfl (dE (ho pins s σ H _ I h) fun v s1 ⟨x,H1,I1,r1,ty,q1⟩=>?_)
 obtain⟨p,ys,rfl,hq⟩:=ty
 cases r1
 obtain⟨ob,e1,e2,e3⟩:=I1.tupD hq
 refine⟨"tuple",id,F.plainAttrs_tuple,slot,hty,⟨ob,e1,e2⟩,fun a z=>by cases z;exact⟨ob,e1,e3⟩,?_⟩
 have hA:=ha cpos pins s1 σ H1 _ I1 q1
 rw [hs] at hA ⊢
 refine Zt (by show (false||(backTo cpos (starEach es X.env)).any (·.1))=false;rw [hplain] <;> rfl) (ZB ?_)
 exact dE hA fun us s2 ⟨vs,H2,I2,r2,q2⟩=>hm pins s2 σ H2 (V.ref p) vs _ us Q I2 (show RelV (V.ref p) (Value.ref p) from rfl) r2 q2
end
end L2
namespace M
open L2
section
variable{X:Cx}{K:W.Frag}{μ:Fp}{H:Hp}{S:ac}
noncomputable def Ks:D->Bool
 | .tup _=>true
 | _=>false
noncomputable def gd:MF:=fun o ds S=>if Ks o=true then vt o ds S else none
def Iv(hu:X.A.units+64<cLine):MtR X "tuple.count" (OB X.K gd):=by
 intro pins s σ H x vs v us Q I rx rv h
 obtain⟨μ,S,dx,ds,d,S',hS,r1,r2,h,post⟩:=h
 unfold gd at h
 split at h
 ·rename_i hl
  cases dx with
  | tup es=>
   unfold vt at h
   split at h
   ·rename_i y
    have h:(if cY 40 y=true/\es.all (cY 39)=true then some (D.int (es.countP fun d=>jm d y),S) else none)=some (d,S'):=h
    split at h
    ·rename_i hk
     cases h
     obtain⟨a,ws,rfl,hq,re⟩:=r1.sqT
     cases rx
     obtain⟨w,rfl,rw0⟩:=r2.one
     obtain⟨u,rfl,ru⟩:=rv.one
     obtain⟨its,rvs,pt,hz⟩:=I.tuple hq
     obtain⟨⟨cls,dd,data,sl⟩,e,hc,n,hd⟩:=id pt
     simp only at hc hd
     subst hc hd
     have ok:=Xd.mp hk.2
     refine YJ aaU ⟨_,e,rfl⟩ F.entry_tuple_count (F.args_tuple_count_2 _ _) (SeqAt.tuple_countAt a its.toArray n dd sl u (fh X.K μ H y)) ⟨e,fun w' hw'=>?_,?_⟩
     ·exact gx I (by show X.A.units+1+40<cLine;omega) ru rw0 hk.1 rvs re ok w' (by simpa using hw')
     ·refine⟨.int _,H,I.tok _,⟨_,rfl⟩,?_⟩
      rw [nI I rvs re ok]
      exact post.here hS (.int _)
    ·cases h
   ·cases h
  | _=>cases hl
 ·cases h
noncomputable def ju(o:ME)(ms:MA):ME:=fun env S=>(o env S).bind fun p=>if Ks p.1=true then (ms env p.2).bind fun q=>gd p.1 q.1 q.2 else if sJ p.2 p.1=true then (ms env p.2).bind fun q=>om p.1 q.1 q.2 else none
def Wb{o e:Expr}{es:List Expr}{mo:ME}{ms:MA}{apos cpos:Pos}(hu:X.A.units+64<cLine)(ho:DE X o mo)(ha:DA X (e::es) ms)
  (hbase:attributeBase o "count" X.env (eval o X.env)=eval o X.env)
  (hfew:((backTo cpos (starEach (e::es) X.env)).all (fun x=>!x.1)&&(backToKw cpos (keywordEach [] X.env)).all (fun x=>x.1.isSome)&&decide ((e::es).length+([]:List Keyword).length+(if ([]:List Keyword).isEmpty then 0 else 1)<30))=true)
  (hline:(apos.endLine == cpos.line)=true) (hs:starEach (e::es) X.env=(false,eval e X.env)::starEach es X.env) (hpl:(backTo cpos (starEach es X.env)).any (·.1)=false) :
  DE X (.Call (.Attribute o "count" apos) (e::es) [] cpos) (ju mo ms):=by
 have hT:=TW (X:=X) aaU F.type_tuple_count (Iv hu) ho ha hbase hfew hline hs hpl
 have hL:=Hd (X:=X) ZL F.type_list_count (Bv hu) ho ha hbase hfew hline hs hpl
 intro pins s σ H Q I ⟨μ,S,env,d,S',hS,hE,h,post⟩
 obtain⟨⟨x,S1⟩,h1,h⟩:=WI.mp h
 dsimp only at h
 split at h
 ·rename_i ht
  obtain⟨⟨xs,S2⟩,h2,h⟩:=WI.mp h
  refine hT pins s σ H Q I ⟨μ,S,env,x,S1,hS,hE,h1,fun v H1 μ1 e1 s1 r1=>⟨?_,μ1,S1,env,xs,S2,s1,hE.mono e1,h2,fun vs H2 μ2 e2 s2 r2=>⟨μ2,S2,x,xs,d,S',s2,r1.mono e2,r2,h,(post.ext e1).ext e2⟩⟩⟩
  cases x <;> first | cases ht | skip
  obtain⟨a,ws,rfl,hq,_⟩:=r1.sqT
  exact⟨a,ws,rfl,hq⟩
 ·refine hL pins s σ H Q I ⟨μ,S,env,d,S',hS,hE,?_,post⟩
  show (mo env S).bind _=_
  rw [h1];exact h
end
end M
namespace HT
section
variable{prog:Program}{w:World}{A:Around}{E:Value->Shared->Prop}{s:Shared}
structure Ay(z TI TO i1 i2:Addr)(fp1 fp2:List Addr):Prop where
 TIz:TI≠z
 TOz:TO≠z
 TITO:TI≠TO
 z1:z ∉ fp1
 z2:z ∉ fp2
 o1:TO ∉ fp1
 o2:TO ∉ fp2
 i12:i1 ∉ fp2
 i21:i2 ∉ fp1
 t1:TI≠i1
 t2:TI≠i2
 m1:i1∈fp1
 m2:i2∈fp2
def Hr{z TI TO i1 i2:Addr}{fp1 fp2:List Addr}{n1 n2 k1 k2:Nat}{P1 P2:Nat->Value->Prop}{St1 St2:Nat->Heap->Prop}{a b:Value}{Q:Value->Shared->Prop}
  (Z:Ay z TI TO i1 i2 fp1 fp2) (D1:Draws prog w A i1 fp1 n1 P1 St1) (D2:Draws prog w A i2 fp2 n2 P2 St2) (hz:IsZip s.heap z TI TO .none) (hTI:IsPair s.heap TI (.ref i1) (.ref i2)) (hTO:IsPair s.heap TO a b)
  (s1:St1 k1 s.heap) (s2:St2 k2 s.heap) (l1:k1<n1) (l2:k2<n2)
  (hQ:∀ x y h' tk,P1 k1 x->P2 k2 y->IsZip h' z TI TO (rawInt s.heap.objs.size)->IsPair h' TO x y->St1 (k1+1) h'->St2 (k2+1) h'->IsPair h' s.heap.objs.size x y->h'.objs.size=s.heap.objs.size+1 ->
   (∀ c o,c≠z->c≠TO->c≠i1->c≠i2->s.heap.get? c=some o->h'.get? c=some o)->Q (.ref s.heap.objs.size) { s with heap:=h',toks:=tk }) :
  wpAny (model prog w) A (Builtin.«zip.__next__» ⟨[.ref z],[]⟩) (fun fin s'=>∃ v,fin=.done (.ret v)/\Q v s') E s:=by
 unfold Builtin.«zip.__next__»
 show wpAny _ _ (field (.ref z) 2 >>= _) _ _ s
 refine WK (XF hz rfl (x:=.bool false) rfl ?_)
 refine WK (XF hz rfl (x:=.ref TI) rfl ?_)
 refine WK (Yk hTI rfl ?_)
 show wpAny _ _ (Builtin.SmallTypes.ownedTupleIsFree (.ref z) >>= _) _ _ s
 refine WK ?_
 unfold Builtin.SmallTypes.ownedTupleIsFree
 refine WK (XF hz rfl (x:=.none) rfl (Xa ?_))
 show wpAny _ _ (rule "zip.__next__.owned-tuple-again" >>= _) _ _ s
 refine WK (Zz ?_)
 refine WK (XF hz rfl (x:=.ref TO) rfl ?_)
 refine WK (Yj hz rfl (by simp) ?_)
 refine WK ?_
 show wpAny _ _ (forIn [((Value.ref i1,0):Value×Nat),(Value.ref i2,1)] _ _) _ _ _
 rw [Yq]
 refine WK ?_
 refine WK (Zm ?_)
 refine WK ?_
 have ez:(s.heap.update z (Obj.mapFields fun vs=>vs.setIfInBounds 0 .ellipsis)).get? z=some { cls:=.type "zip",data:=.fields #[.ellipsis,.bool false,.bool false,.ref TI,.ref TO] }:=XH _ hz rfl
 have ne0:∀ c,c≠z->(s.heap.update z (Obj.mapFields fun vs=>vs.setIfInBounds 0 .ellipsis)).get? c=s.heap.get? c:=fun c hc=>Xw _ _ _ _ hc
 have sz0:(s.heap.update z (Obj.mapFields fun vs=>vs.setIfInBounds 0 .ellipsis)).objs.size=s.heap.objs.size:=(Yh ..).1
 generalize (s.heap.update z (Obj.mapFields fun vs=>vs.setIfInBounds 0 .ellipsis))=h0 at ez ne0 sz0 ⊢
 have zi1:z≠i1:=fun e=>Z.z1 (e ▸ Z.m1)
 have zi2:z≠i2:=fun e=>Z.z2 (e ▸ Z.m2)
 have oi1:TO≠i1:=fun e=>Z.o1 (e ▸ Z.m1)
 have oi2:TO≠i2:=fun e=>Z.o2 (e ▸ Z.m2)
 refine D1.item k1 { s with heap:=h0 } _ _ l1 (D1.frame _ _ _ s1 fun c hc o ho=>(ne0 c (fun e=>Z.z1 (e ▸ hc))).trans ho) fun x h1 tk1 px st1 sb1=>Xa ?_
 have o1:h1.get? TO=some { cls:=.type "tuple",data:=.seq #[a,b] }:=(sb1.2 TO oi1).trans ((ne0 TO Z.TOz).trans hTO)
 show wpAny _ _ (seqItems? (Value.ref TO) >>= _) _ _ _
 refine WK (Yk o1 rfl ?_)
 refine WK (Zu o1 rfl ?_ (by show 2<=sizeLine;decide) (by simp;decide))
 refine WK (aaK (Xa ?_))
 have eo:(h1.update TO (Obj.mapSeq fun vs=>vs.setIfInBounds 0 x)).get? TO=some { cls:=.type "tuple",data:=.seq #[x,b] }:=XH _ o1 rfl
 have ne1:∀ c,c≠TO->(h1.update TO (Obj.mapSeq fun vs=>vs.setIfInBounds 0 x)).get? c=h1.get? c:=fun c hc=>Xw _ _ _ _ hc
 have sz1:(h1.update TO (Obj.mapSeq fun vs=>vs.setIfInBounds 0 x)).objs.size=s.heap.objs.size:=(Yh ..).1.trans (sb1.1.trans sz0)
 generalize (h1.update TO (Obj.mapSeq fun vs=>vs.setIfInBounds 0 x))=h2 at eo ne1 sz1 ⊢
 show wpAny _ _ (forIn [((Value.ref i2,1):Value×Nat)] _ _) _ _ _
 rw [Yq]
 refine WK ?_
 refine WK (Zm ?_)
 refine WK ?_
 refine D2.item k2 { s with heap:=h2,toks:=tk1 } _ _ l2 (D2.frame _ _ _ s2 fun c hc o ho=>(ne1 c (fun e=>Z.o2 (e ▸ hc))).trans ((sb1.2 c (fun e=>Z.i12 (e ▸ hc))).trans ((ne0 c (fun e=>Z.z2 (e ▸ hc))).trans ho))) fun y h3 tk2 py st2 sb2=>Xa ?_
 have o2:h3.get? TO=some { cls:=.type "tuple",data:=.seq #[x,b] }:=(sb2.2 TO oi2).trans eo
 show wpAny _ _ (seqItems? (Value.ref TO) >>= _) _ _ _
 refine WK (Yk o2 rfl ?_)
 refine WK (Zu o2 rfl ?_ (by show 2<=sizeLine;decide) (by simp;decide))
 refine WK (aaK (Xa ?_))
 have eo2:(h3.update TO (Obj.mapSeq fun vs=>vs.setIfInBounds 1 y)).get? TO=some { cls:=.type "tuple",data:=.seq #[x,y] }:=XH _ o2 rfl
 have ne2:∀ c,c≠TO->(h3.update TO (Obj.mapSeq fun vs=>vs.setIfInBounds 1 y)).get? c=h3.get? c:=fun c hc=>Xw _ _ _ _ hc
 have sz2:(h3.update TO (Obj.mapSeq fun vs=>vs.setIfInBounds 1 y)).objs.size=s.heap.objs.size:=(Yh ..).1.trans (sb2.1.trans sz1)
 generalize (h3.update TO (Obj.mapSeq fun vs=>vs.setIfInBounds 1 y))=h4 at eo2 ne2 sz2 ⊢
 show wpAny _ _ (pure _) _ _ _
 refine Xa ?_
 show wpAny _ _ (seqItems? (Value.ref TO) >>= _) _ _ _
 refine WK (Yk eo2 rfl ?_)
 show wpAny _ _ (newTuple [x,y] >>= _) _ _ _
 refine WK ?_
 simp only [newTuple]
 refine XB ?_ (by size_fits)
 have ez4:h4.get? z=some { cls:=.type "zip",data:=.fields #[.ellipsis,.bool false,.bool false,.ref TI,.ref TO] }:=(ne2 z Z.TOz.symm).trans ((sb2.2 z zi2).trans ((ne1 z Z.TOz.symm).trans ((sb1.2 z zi1).trans ez)))
 have ez5:=WQ { cls:=.type "tuple",data:=.seq #[x,y] } ez4
 have et5:=Xe h4 (o:={ cls:=.type "tuple",data:=.seq #[x,y] }) rfl
 have kk5:∀ c o,h4.get? c=some o->(h4.push { cls:=.type "tuple",data:=.seq #[x,y] }).get? c=some o:=fun c o=>WQ _
 have sz5:(h4.push { cls:=.type "tuple",data:=.seq #[x,y] }).objs.size=s.heap.objs.size+1:=by rw [Yd,sz2]
 dsimp only
 show wpAny _ _ _ _ _ { s with heap:=h4.push { cls:=.type "tuple",data:=.seq #[x,y] },toks:=tk2 }
 generalize (h4.push { cls:=.type "tuple",data:=.seq #[x,y] })=h5 at ez5 et5 kk5 sz5 ⊢
 rw [sz2] at et5 ⊢
 show wpAny _ _ ((setField (.ref z) 0 (rawInt s.heap.objs.size) >>= fun _=>setField (.ref z) 1 (.bool false)) >>= _) _ _ _
 refine WK (WK (Yj ez5 rfl (by simp) ?_))
 have ez6:(h5.update z (Obj.mapFields fun vs=>vs.setIfInBounds 0 (rawInt s.heap.objs.size))).get? z=some { cls:=.type "zip",data:=.fields #[rawInt s.heap.objs.size,.bool false,.bool false,.ref TI,.ref TO] }:=XH _ ez5 rfl
 have ne6:∀ c,c≠z->(h5.update z (Obj.mapFields fun vs=>vs.setIfInBounds 0 (rawInt s.heap.objs.size))).get? c=h5.get? c:=fun c hc=>Xw _ _ _ _ hc
 have sz6:(h5.update z (Obj.mapFields fun vs=>vs.setIfInBounds 0 (rawInt s.heap.objs.size))).objs.size=s.heap.objs.size+1:=(Yh ..).1.trans sz5
 generalize (h5.update z (Obj.mapFields fun vs=>vs.setIfInBounds 0 (rawInt s.heap.objs.size)))=h6 at ez6 ne6 sz6 ⊢
 refine Yj ez6 rfl (by simp) ?_
 have ez7:(h6.update z (Obj.mapFields fun vs=>vs.setIfInBounds 1 (.bool false))).get? z=some { cls:=.type "zip",data:=.fields #[rawInt s.heap.objs.size,.bool false,.bool false,.ref TI,.ref TO] }:=XH _ ez6 rfl
 have ne7:∀ c,c≠z->(h6.update z (Obj.mapFields fun vs=>vs.setIfInBounds 1 (.bool false))).get? c=h6.get? c:=fun c hc=>Xw _ _ _ _ hc
 have sz7:(h6.update z (Obj.mapFields fun vs=>vs.setIfInBounds 1 (.bool false))).objs.size=s.heap.objs.size+1:=(Yh ..).1.trans sz6
 generalize (h6.update z (Obj.mapFields fun vs=>vs.setIfInBounds 1 (.bool false)))=h7 at ez7 ne7 sz7 ⊢
 have k57:∀ c o,c≠z->h4.get? c=some o->h7.get? c=some o:=fun c o hc ho=>(ne7 c hc).trans ((ne6 c hc).trans (kk5 c o ho))
 have newz:s.heap.objs.size≠z:=Yz (Xb hz)
 refine Xa ⟨_,rfl,hQ x y h7 tk2 px py ez7 (k57 TO _ Z.TOz eo2) ?_ ?_ ((ne7 _ newz).trans ((ne6 _ newz).trans et5)) sz7 fun c o c1 c2 c3 c4 ho=>k57 c o c1 ((ne2 c c2).trans ((sb2.2 c c4).trans ((ne1 c c2).trans ((sb1.2 c c3).trans ((ne0 c c1).trans ho)))))⟩
 ·exact D1.frame _ _ _ st1 fun c hc o ho=>k57 c o (fun e=>Z.z1 (e ▸ hc)) ((ne2 c (fun e=>Z.o1 (e ▸ hc))).trans ((sb2.2 c (fun e=>Z.i21 (e ▸ hc))).trans ((ne1 c (fun e=>Z.o1 (e ▸ hc))).trans ho)))
 ·exact D2.frame _ _ _ st2 fun c hc o ho=>k57 c o (fun e=>Z.z2 (e ▸ hc)) ((ne2 c (fun e=>Z.o2 (e ▸ hc))).trans ho)
def Ht{z TI TO i1 i2:Addr}{fp1 fp2:List Addr}{n1:Nat}{P1:Nat->Value->Prop}{St1:Nat->Heap->Prop}{a b:Value}{Q:Fin->Shared->Prop}
  (Z:Ay z TI TO i1 i2 fp1 fp2) (D1:Draws prog w A i1 fp1 n1 P1 St1) (hz:IsZip s.heap z TI TO .none) (hTI:IsPair s.heap TI (.ref i1) (.ref i2)) (hTO:IsPair s.heap TO a b)
  (s1:St1 n1 s.heap)
  (hE:∀ h' e tk,(∀ c o,c≠z->c≠TO->c≠i1->c≠i2->s.heap.get? c=some o->h'.get? c=some o)->(∃ o,h'.get? e=some o/\o.cls=.type "StopIteration")->E (.ref e) { s with heap:=h',toks:=tk }) :
  wpAny (model prog w) A (Builtin.«zip.__next__» ⟨[.ref z],[]⟩) Q E s:=by
 unfold Builtin.«zip.__next__»
 show wpAny _ _ (field (.ref z) 2 >>= _) _ _ s
 refine WK (XF hz rfl (x:=.bool false) rfl ?_)
 refine WK (XF hz rfl (x:=.ref TI) rfl ?_)
 refine WK (Yk hTI rfl ?_)
 show wpAny _ _ (Builtin.SmallTypes.ownedTupleIsFree (.ref z) >>= _) _ _ s
 refine WK ?_
 unfold Builtin.SmallTypes.ownedTupleIsFree
 refine WK (XF hz rfl (x:=.none) rfl (Xa ?_))
 show wpAny _ _ (rule "zip.__next__.owned-tuple-again" >>= _) _ _ s
 refine WK (Zz ?_)
 refine WK (XF hz rfl (x:=.ref TO) rfl ?_)
 refine WK (Yj hz rfl (by simp) ?_)
 refine WK ?_
 show wpAny _ _ (forIn [((Value.ref i1,0):Value×Nat),(Value.ref i2,1)] _ _) _ _ _
 rw [Yq]
 refine WK ?_
 refine WK (Zm ?_)
 refine WK ?_
 have ez:(s.heap.update z (Obj.mapFields fun vs=>vs.setIfInBounds 0 .ellipsis)).get? z=some { cls:=.type "zip",data:=.fields #[.ellipsis,.bool false,.bool false,.ref TI,.ref TO] }:=XH _ hz rfl
 have ne0:∀ c,c≠z->(s.heap.update z (Obj.mapFields fun vs=>vs.setIfInBounds 0 .ellipsis)).get? c=s.heap.get? c:=fun c hc=>Xw _ _ _ _ hc
 generalize (s.heap.update z (Obj.mapFields fun vs=>vs.setIfInBounds 0 .ellipsis))=h0 at ez ne0 ⊢
 have zi1:z≠i1:=fun e=>Z.z1 (e ▸ Z.m1)
 have zi2:z≠i2:=fun e=>Z.z2 (e ▸ Z.m2)
 have oi1:TO≠i1:=fun e=>Z.o1 (e ▸ Z.m1)
 have oi2:TO≠i2:=fun e=>Z.o2 (e ▸ Z.m2)
 refine D1.done { s with heap:=h0 } _ _ (D1.frame _ _ _ s1 fun c hc o ho=>(ne0 c (fun e=>Z.z1 (e ▸ hc))).trans ho) fun h1 e xb ⟨o,ho,hc⟩=>?_
 have z1:=xb z _ zi1 ez
 refine Yj z1 rfl (by simp) (hE _ e s.toks (fun c o c1 c2 c3 c4 ho=>(Xw _ _ _ _ c1).trans (xb c o c3 ((ne0 c c1).trans ho))) ?_)
 refine⟨o,(Xw _ _ _ _ fun h=>?_).trans ho,hc⟩
 rw [h,z1] at ho;cases ho;exact absurd (show Value.type "zip" = Value.type "StopIteration" from hc) (by decide)
def Hs{z TI TO i1 i2:Addr}{fp1 fp2:List Addr}{n1 n2 k1:Nat}{P1 P2:Nat->Value->Prop}{St1 St2:Nat->Heap->Prop}{a b:Value}{Q:Fin->Shared->Prop}
  (Z:Ay z TI TO i1 i2 fp1 fp2) (D1:Draws prog w A i1 fp1 n1 P1 St1) (D2:Draws prog w A i2 fp2 n2 P2 St2) (hz:IsZip s.heap z TI TO .none) (hTI:IsPair s.heap TI (.ref i1) (.ref i2)) (hTO:IsPair s.heap TO a b)
  (s1:St1 k1 s.heap) (l1:k1<n1) (s2:St2 n2 s.heap)
  (hE:∀ h' e tk,(∀ c o,c≠z->c≠TO->c≠i1->c≠i2->s.heap.get? c=some o->h'.get? c=some o)->(∃ o,h'.get? e=some o/\o.cls=.type "StopIteration")->E (.ref e) { s with heap:=h',toks:=tk }) :
  wpAny (model prog w) A (Builtin.«zip.__next__» ⟨[.ref z],[]⟩) Q E s:=by
 unfold Builtin.«zip.__next__»
 show wpAny _ _ (field (.ref z) 2 >>= _) _ _ s
 refine WK (XF hz rfl (x:=.bool false) rfl ?_)
 refine WK (XF hz rfl (x:=.ref TI) rfl ?_)
 refine WK (Yk hTI rfl ?_)
 show wpAny _ _ (Builtin.SmallTypes.ownedTupleIsFree (.ref z) >>= _) _ _ s
 refine WK ?_
 unfold Builtin.SmallTypes.ownedTupleIsFree
 refine WK (XF hz rfl (x:=.none) rfl (Xa ?_))
 show wpAny _ _ (rule "zip.__next__.owned-tuple-again" >>= _) _ _ s
 refine WK (Zz ?_)
 refine WK (XF hz rfl (x:=.ref TO) rfl ?_)
 refine WK (Yj hz rfl (by simp) ?_)
 refine WK ?_
 show wpAny _ _ (forIn [((Value.ref i1,0):Value×Nat),(Value.ref i2,1)] _ _) _ _ _
 rw [Yq]
 refine WK ?_
 refine WK (Zm ?_)
 refine WK ?_
 have ez:(s.heap.update z (Obj.mapFields fun vs=>vs.setIfInBounds 0 .ellipsis)).get? z=some { cls:=.type "zip",data:=.fields #[.ellipsis,.bool false,.bool false,.ref TI,.ref TO] }:=XH _ hz rfl
 have ne0:∀ c,c≠z->(s.heap.update z (Obj.mapFields fun vs=>vs.setIfInBounds 0 .ellipsis)).get? c=s.heap.get? c:=fun c hc=>Xw _ _ _ _ hc
 generalize (s.heap.update z (Obj.mapFields fun vs=>vs.setIfInBounds 0 .ellipsis))=h0 at ez ne0 ⊢
 have zi1:z≠i1:=fun e=>Z.z1 (e ▸ Z.m1)
 have zi2:z≠i2:=fun e=>Z.z2 (e ▸ Z.m2)
 have oi1:TO≠i1:=fun e=>Z.o1 (e ▸ Z.m1)
 have oi2:TO≠i2:=fun e=>Z.o2 (e ▸ Z.m2)
 refine D1.item k1 { s with heap:=h0 } _ _ l1 (D1.frame _ _ _ s1 fun c hc o ho=>(ne0 c (fun e=>Z.z1 (e ▸ hc))).trans ho) fun x h1 tk1 px st1 sb1=>Xa ?_
 have o1:h1.get? TO=some { cls:=.type "tuple",data:=.seq #[a,b] }:=(sb1.2 TO oi1).trans ((ne0 TO Z.TOz).trans hTO)
 show wpAny _ _ (seqItems? (Value.ref TO) >>= _) _ _ _
 refine WK (Yk o1 rfl ?_)
 refine WK (Zu o1 rfl ?_ (by show 2<=sizeLine;decide) (by simp;decide))
 refine WK (aaK (Xa ?_))
 have ne1:∀ c,c≠TO->(h1.update TO (Obj.mapSeq fun vs=>vs.setIfInBounds 0 x)).get? c=h1.get? c:=fun c hc=>Xw _ _ _ _ hc
 generalize (h1.update TO (Obj.mapSeq fun vs=>vs.setIfInBounds 0 x))=h2 at ne1 ⊢
 show wpAny _ _ (forIn [((Value.ref i2,1):Value×Nat)] _ _) _ _ _
 rw [Yq]
 refine WK ?_
 refine WK (Zm ?_)
 refine WK ?_
 refine D2.done { s with heap:=h2,toks:=tk1 } _ _ (D2.frame _ _ _ s2 fun c hc o ho=>(ne1 c (fun e=>Z.o2 (e ▸ hc))).trans ((sb1.2 c (fun e=>Z.i12 (e ▸ hc))).trans ((ne0 c (fun e=>Z.z2 (e ▸ hc))).trans ho))) fun h3 e xb ⟨o,ho,hc⟩=>?_
 have z1:=xb z _ zi2 ((ne1 z Z.TOz.symm).trans ((sb1.2 z zi1).trans ez))
 refine Yj z1 rfl (by simp) (hE _ e tk1 (fun c o c1 c2 c3 c4 ho=>(Xw _ _ _ _ c1).trans (xb c o c4 ((ne1 c c2).trans ((sb1.2 c c3).trans ((ne0 c c1).trans ho))))) ?_)
 refine⟨o,(Xw _ _ _ _ fun h=>?_).trans ho,hc⟩
 rw [h,z1] at ho;cases ho;exact absurd (show Value.type "zip" = Value.type "StopIteration" from hc) (by decide)
def Bd{z TI TO i1 i2:Addr}{fp1 fp2:List Addr}{n1 n2 k1 k2:Nat}{P1 P2:Nat->Value->Prop}{St1 St2:Nat->Heap->Prop}{a b:Value}{Q:Option Value->Shared->Prop}
  (Z:Ay z TI TO i1 i2 fp1 fp2) (D1:Draws prog w A.in1 i1 fp1 n1 P1 St1) (D2:Draws prog w A.in1 i2 fp2 n2 P2 St2) (hz:IsZip s.heap z TI TO .none) (hTI:IsPair s.heap TI (.ref i1) (.ref i2)) (hTO:IsPair s.heap TO a b)
  (s1:St1 k1 s.heap) (s2:St2 k2 s.heap) (l1:k1<n1) (l2:k2<n2)
  (hQ:∀ x y h' tk,P1 k1 x->P2 k2 y->IsZip h' z TI TO (rawInt s.heap.objs.size)->IsPair h' TO x y->St1 (k1+1) h'->St2 (k2+1) h'->IsPair h' s.heap.objs.size x y->h'.objs.size=s.heap.objs.size+1 ->
   (∀ c o,c≠z->c≠TO->c≠i1->c≠i2->s.heap.get? c=some o->h'.get? c=some o)->Q (some (.ref s.heap.objs.size)) { s with heap:=h',toks:=tk }) :
  wpAny (model prog w) A (pyNext (.ref z)) Q E s:=by
 unfold pyNext
 refine WK (aak ?_)
 refine XU (name:=Str.ofString "__next__") (T:="zip") ?_ YS (Yu YS ?_ ZT (Hr Z D1 D2 hz hTI hTO s1 s2 l1 l2 fun x y h' tk a1 a2 a3 a4 a5 a6 a7 a8 a9=>Xa (hQ x y h' tk a1 a2 a3 a4 a5 a6 a7 a8 a9)) (ZN _)) <;> exact⟨_,hz,rfl⟩
end
end HT
namespace HT
section
variable{prog:Program}{w:World}{A:Around}{E:Value->Shared->Prop}{s:Shared}
def yJ{z TI TO i1 i2:Addr}{fp1 fp2:List Addr}{n1:Nat}{P1:Nat->Value->Prop}{St1:Nat->Heap->Prop}{a b:Value}{Q:Option Value->Shared->Prop}
  (Z:Ay z TI TO i1 i2 fp1 fp2) (D1:Draws prog w A.in1 i1 fp1 n1 P1 St1) (hz:IsZip s.heap z TI TO .none) (hTI:IsPair s.heap TI (.ref i1) (.ref i2)) (hTO:IsPair s.heap TO a b)
  (s1:St1 n1 s.heap) (hQ:∀ h' tk,(∀ c o,c≠z->c≠TO->c≠i1->c≠i2->s.heap.get? c=some o->h'.get? c=some o)->Q none { s with heap:=h',toks:=tk }) :
  wpAny (model prog w) A (pyNext (.ref z)) Q E s:=by
 unfold pyNext
 refine WK (aak ?_)
 refine XU (name:=Str.ofString "__next__") (T:="zip") ⟨_,hz,rfl⟩ YS (Yu YS ⟨_,hz,rfl⟩ ZT (Ht Z D1 hz hTI hTO s1 fun h' e tk kk hc=>?_) (ZN _))
 show wpAny _ _ (isInstance (.ref e) (.type "StopIteration") >>= _) _ _ _
 exact WK (wpAny_isInstance (T:="StopIteration") (b:=true) hc (by first | exact sub_StopIteration | rfl) (Xa (hQ h' tk kk)))
def yI{z TI TO i1 i2:Addr}{fp1 fp2:List Addr}{n1 n2 k1:Nat}{P1 P2:Nat->Value->Prop}{St1 St2:Nat->Heap->Prop}{a b:Value}{Q:Option Value->Shared->Prop}
  (Z:Ay z TI TO i1 i2 fp1 fp2) (D1:Draws prog w A.in1 i1 fp1 n1 P1 St1) (D2:Draws prog w A.in1 i2 fp2 n2 P2 St2) (hz:IsZip s.heap z TI TO .none) (hTI:IsPair s.heap TI (.ref i1) (.ref i2)) (hTO:IsPair s.heap TO a b)
  (s1:St1 k1 s.heap) (l1:k1<n1) (s2:St2 n2 s.heap) (hQ:∀ h' tk,(∀ c o,c≠z->c≠TO->c≠i1->c≠i2->s.heap.get? c=some o->h'.get? c=some o)->Q none { s with heap:=h',toks:=tk }) :
  wpAny (model prog w) A (pyNext (.ref z)) Q E s:=by
 unfold pyNext
 refine WK (aak ?_)
 refine XU (name:=Str.ofString "__next__") (T:="zip") ⟨_,hz,rfl⟩ YS (Yu YS ⟨_,hz,rfl⟩ ZT (Hs Z D1 D2 hz hTI hTO s1 l1 s2 fun h' e tk kk hc=>?_) (ZN _))
 show wpAny _ _ (isInstance (.ref e) (.type "StopIteration") >>= _) _ _ _
 exact WK (wpAny_isInstance (T:="StopIteration") (b:=true) hc (by first | exact sub_StopIteration | rfl) (Xa (hQ h' tk kk)))
end
def Kh(l1 l2:Addr)(xs ys:Array Value) :
  Meets (Builtin.«zip.__new__» ⟨[.type "zip",.ref l1,.ref l2],[]⟩) (fun _ R s=>s.heap.IsTuple l1 xs/\s.heap.IsTuple l2 ys /\
   ∀ h',IsZip h' (s.heap.objs.size+4) (s.heap.objs.size+2) (s.heap.objs.size+3) .none->IsPair h' (s.heap.objs.size+2) (.ref s.heap.objs.size) (.ref (s.heap.objs.size+1))->IsPair h' (s.heap.objs.size+3) .none .none ->
    h'.IsTupleIter s.heap.objs.size l1 0->h'.IsTupleIter (s.heap.objs.size+1) l2 0->h'.objs.size=s.heap.objs.size+5->(∀ c o,s.heap.get? c=some o->h'.get? c=some o)->R (.ok (.ret (.ref (s.heap.objs.size+4)))) { s with heap:=h' }):=
 .of_wp fun prog w A R s h=>by
  obtain⟨hl,hl2,h⟩:=h
  unfold Builtin.«zip.__new__»
  refine WK ?_
  show wpAny _ _ (isType (.type "zip") >>= _) _ _ _
  refine WK (aaI (a:=true) (by first | rfl | simp [isType]) ?_)
  show wpAny _ _ (isSubtype (.type "zip") (.type "zip") >>= _) _ _ _
  refine WK (aaI sub_zip (Xa ?_))
  show wpAny _ _ (Builtin.SmallTypes.iterAll [.ref l1,.ref l2] >>= _) _ _ _
  refine WK ?_
  unfold Builtin.SmallTypes.iterAll
  refine WK ?_
  rw [Yq]
  refine WK (WK (YL (YK hl (Xa ?_))))
  have g1:=Xe s.heap (o:={ cls:=.type "tuple_iterator",data:=.fields #[.ref l1,.int 0 0] }) rfl
  have k1:∀ c o,s.heap.get? c=some o->(s.heap.push { cls:=.type "tuple_iterator",data:=.fields #[.ref l1,.int 0 0] }).get? c=some o:=fun c o=>WQ _
  have z1:(s.heap.push { cls:=.type "tuple_iterator",data:=.fields #[.ref l1,.int 0 0] }).objs.size=s.heap.objs.size+1:=Yd ..
  generalize s.heap.push { cls:=.type "tuple_iterator",data:=.fields #[.ref l1,.int 0 0] } = h1 at g1 k1 z1 ⊢
  have hl2':h1.IsTuple l2 ys:=by obtain⟨o,ho,r⟩:=hl2;exact⟨o,k1 _ _ ho,r⟩
  show wpAny _ _ (forIn [Value.ref l2] _ _) _ _ _
  rw [Yq]
  refine WK (WK (YL (YK hl2' (Xa ?_))))
  dsimp only
  have g2:=Xe h1 (o:={ cls:=.type "tuple_iterator",data:=.fields #[.ref l2,.int 0 0] }) rfl
  have k2:∀ c o,h1.get? c=some o->(h1.push { cls:=.type "tuple_iterator",data:=.fields #[.ref l2,.int 0 0] }).get? c=some o:=fun c o=>WQ _
  have z2:(h1.push { cls:=.type "tuple_iterator",data:=.fields #[.ref l2,.int 0 0] }).objs.size=s.heap.objs.size+2:=by rw [Yd,z1]
  generalize h1.push { cls:=.type "tuple_iterator",data:=.fields #[.ref l2,.int 0 0] } = h2 at g2 k2 z2 ⊢
  rw [z1] at g2 ⊢
  show wpAny _ _ (pure _) _ _ _
  refine Xa (Xa ?_)
  show wpAny _ _ (newTuple [.ref s.heap.objs.size,.ref (s.heap.objs.size+1)] >>= _) _ _ _
  refine WK ?_
  simp only [newTuple]
  refine XB ?_ (by size_fits)
  have g3:=Xe h2 (o:={ cls:=.type "tuple",data:=.seq #[.ref s.heap.objs.size,.ref (s.heap.objs.size+1)] }) rfl
  have k3:∀ c o,h2.get? c=some o->(h2.push { cls:=.type "tuple",data:=.seq #[.ref s.heap.objs.size,.ref (s.heap.objs.size+1)] }).get? c=some o:=fun c o=>WQ _
  have z3:(h2.push { cls:=.type "tuple",data:=.seq #[.ref s.heap.objs.size,.ref (s.heap.objs.size+1)] }).objs.size=s.heap.objs.size+3:=by rw [Yd,z2]
  dsimp only
  show wpAny _ _ _ _ _ { s with heap:=h2.push { cls:=.type "tuple",data:=.seq #[.ref s.heap.objs.size,.ref (s.heap.objs.size+1)] } }
  generalize h2.push { cls:=.type "tuple",data:=.seq #[.ref s.heap.objs.size,.ref (s.heap.objs.size+1)] } = h3 at g3 k3 z3 ⊢
  rw [z2] at g3 ⊢
  refine WK ?_
  show wpAny _ _ (newObj (.type "tuple") (.seq #[.none,.none])) _ _ _
  refine XB ?_ (by size_fits)
  have g4:=Xe h3 (o:={ cls:=.type "tuple",data:=.seq #[.none,.none] }) rfl
  have k4:∀ c o,h3.get? c=some o->(h3.push { cls:=.type "tuple",data:=.seq #[.none,.none] }).get? c=some o:=fun c o=>WQ _
  have z4:(h3.push { cls:=.type "tuple",data:=.seq #[.none,.none] }).objs.size=s.heap.objs.size+4:=by rw [Yd,z3]
  dsimp only
  generalize h3.push { cls:=.type "tuple",data:=.seq #[.none,.none] } = h4 at g4 k4 z4 ⊢
  rw [z3] at g4 ⊢
  refine WK ?_
  show wpAny _ _ (newObj (.type "zip") (.fields #[.none,.bool false,.bool false,.ref (s.heap.objs.size+2),.ref (s.heap.objs.size+3)])) _ _ _
  refine XB ?_ (by size_fits)
  have g5:=Xe h4 (o:={ cls:=.type "zip",data:=.fields #[.none,.bool false,.bool false,.ref (s.heap.objs.size+2),.ref (s.heap.objs.size+3)] }) rfl
  have k5:∀ c o,h4.get? c=some o->(h4.push { cls:=.type "zip",data:=.fields #[.none,.bool false,.bool false,.ref (s.heap.objs.size+2),.ref (s.heap.objs.size+3)] }).get? c=some o:=fun c o=>WQ _
  have z5:(h4.push { cls:=.type "zip",data:=.fields #[.none,.bool false,.bool false,.ref (s.heap.objs.size+2),.ref (s.heap.objs.size+3)] }).objs.size=s.heap.objs.size+5:=by rw [Yd,z4]
  dsimp only
  generalize h4.push { cls:=.type "zip",data:=.fields #[.none,.bool false,.bool false,.ref (s.heap.objs.size+2),.ref (s.heap.objs.size+3)] } = h5 at g5 k5 z5 ⊢
  rw [z4] at g5 ⊢
  refine Xa ⟨_,rfl,h h5 g5 (k5 _ _ (k4 _ _ g3)) (k5 _ _ g4) ⟨_,k5 _ _ (k4 _ _ (k3 _ _ (k2 _ _ g1))),rfl,rfl⟩ ⟨_,k5 _ _ (k4 _ _ (k3 _ _ g2)),rfl,rfl⟩ z5 fun c o e=>k5 _ _ (k4 _ _ (k3 _ _ (k2 _ _ (k1 _ _ e))))⟩
section
variable{prog:Program}{w:World}{A:Around}{E:Value->Shared->Prop}{s:Shared}
def JP{l1 l2:Addr}{xs ys:Array Value}{Q:Value->Shared->Prop}(hL:s.heap.IsTuple l1 xs)(hL2:s.heap.IsTuple l2 ys)
  (h:∀ h':Heap,IsZip h' (s.heap.objs.size+4) (s.heap.objs.size+2) (s.heap.objs.size+3) .none->IsPair h' (s.heap.objs.size+2) (.ref s.heap.objs.size) (.ref (s.heap.objs.size+1))->IsPair h' (s.heap.objs.size+3) .none .none ->
    h'.IsTupleIter s.heap.objs.size l1 0->h'.IsTupleIter (s.heap.objs.size+1) l2 0->h'.objs.size=s.heap.objs.size+5->(∀ c o,s.heap.get? c=some o->h'.get? c=some o)->Q (.ref (s.heap.objs.size+4)) { s with heap:=h' }) :
  wpAny (model prog w) A (call (.type "zip") [.ref l1,.ref l2]) Q E s:=by
 refine callType_new F.called_zip (by decide) (F.typeCall_zip_2 _ _) (F.newCall_zip_2 _ _) (fun obj=>F.args_object_init_3 obj _ _) F.entry_zip_new (Kh l1 l2 xs ys) ⟨hL,hL2,fun h' a b c d e f g=>?_⟩
 exact⟨⟨_,a,rfl⟩,h h' a b c d e f g⟩
end
end HT
namespace L2
section
noncomputable def Itz(K:W.Frag)(a b:Addr):It:=
 ⟨fun i H=>∃ xs ys x y,mE K H a xs/\mE K H b ys/\xs[i]?=some x/\ys[i]?=some y,
 fun i H x H'=>∃ p v u,x=.ref p/\H p=none/\H'=upd H p (.tup [v,u])/\(∀ xs,mE K H a xs->xs[i]?=some v)/\∀ ys,mE K H b ys->ys[i]?=some u,
 fun i H=>∃ xs ys,mE K H a xs/\mE K H b ys/\(xs.length<=i\/ys.length<=i)⟩
def TnZ(z TI TO i1 i2 a b:Addr)(i:Nat)(h:Heap):Prop:=IsZip h z TI TO .none/\IsPair h TI (.ref i1) (.ref i2)/\(∃ u v,IsPair h TO u v)/\h.IsTupleIter i1 a i/\h.IsTupleIter i2 b i
def CZ{prog:Program}{w:World}{A:Around}(hh:A.handled=none)(it a:Addr)(items:Array Value)(i:Nat)(hx:items[i]?=none) :
  Draws prog w A it [it,a] i (fun _ _=>True) (fun j h=>j=i/\h.IsTupleIter it a i/\h.IsTuple a items):=
 {live:=fun _ _ q=>by obtain⟨_,⟨o,ho,_⟩,_⟩:=q;exact⟨o,ho⟩
  frame:=fun _ _ _ q hk=>by
   obtain⟨q0,⟨o,ho,r⟩,⟨o2,ho2,r2⟩⟩:=q
   exact⟨q0,⟨o,hk it (by simp) o ho,r⟩,⟨o2,hk a (by simp) o2 ho2,r2⟩⟩
  item:=fun j _ _ _ hj q _=>absurd q.1 (Xx hj)
  done:=fun s Q E q hE=>HT.rB hh q.2.1 q.2.2 hx hE }
def Kr{P:Program}{w:World}{K:W.Frag}{es:List Expr}{k:Nat}{pos:Pos}(a b z TI TO i1 i2:Addr)(Z:HT.Ay z TI TO i1 i2 [i1,a] [i2,b]):FQ P w K (.Tuple es k pos) (Itz K a b) [z,TI,TO,i1,i2] z (TnZ z TI TO i1 i2 a b) where
 mem:=by simp
 obj:=fun i h st c hc=>by
  obtain⟨hz,hTI,⟨u,v,hTO⟩,⟨o,ho,hc1,hd⟩,⟨o2,ho2,hc2,hd2⟩⟩:=st
  simp only [Xq,Yi,ZA] at hc
  rcases hc with rfl | rfl | rfl | rfl | rfl
  ·exact⟨_,hz,fun v z=>by cases z⟩
  ·exact⟨_,hTI,fun v z=>by cases z⟩
  ·exact⟨_,hTO,fun v z=>by cases z⟩
  ·exact⟨o,ho,fun v z=>by rw [hd] at z;cases z⟩
  ·exact⟨o2,ho2,fun v z=>by rw [hd2] at z;cases z⟩
 keep:=fun i h h' st kk=>by
  obtain⟨hz,hTI,⟨u,v,hTO⟩,⟨o,ho,r⟩,⟨o2,ho2,r2⟩⟩:=st
  exact⟨kk z (by simp) _ hz,kk TI (by simp) _ hTI,⟨u,v,kk TO (by simp) _ hTO⟩,⟨o,kk i1 (by simp) _ ho,r⟩,⟨o2,kk i2 (by simp) _ ho2,r2⟩⟩
 item:=by
  intro X hP hw hK hc i pins s σ H E I hf st hg
  subst hP hw hK
  obtain⟨xs,ys,x,y,hq,hq2,hx,hy⟩:=hg
  obtain⟨its,rv,p,hz0⟩:=I.tuple hq
  obtain⟨its2,rv2,p2,hz2⟩:=I.tuple hq2
  have hT:s.heap.IsTuple a its.toArray:=p
  have hT2:s.heap.IsTuple b its2.toArray:=p2
  have hh:=I.ok.hd hc
  obtain⟨hz,hTI,⟨u0,v0,hTO⟩,hit1,hit2⟩:=st
  have li:i<its.toArray.size:=by rw [WN,<- rv.length];exact(WJ.mp hx).1
  have li2:i<its2.toArray.size:=by rw [WN,<- rv2.length];exact(WJ.mp hy).1
  have nea:a≠i1:=fun e=>by
   obtain⟨o',ho',hc',_⟩:=hit1
   obtain⟨o,ho,hcl,_⟩:=hT
   rw [e,ho'] at ho;cases ho;rw [hc'] at hcl;exact absurd hcl (by decide)
  have neb:b≠i2:=fun e=>by
   obtain⟨o',ho',hc',_⟩:=hit2
   obtain⟨o,ho,hcl,_⟩:=hT2
   rw [e,ho'] at ho;cases ho;rw [hc'] at hcl;exact absurd hcl (by decide)
  have Tn:∀ c,c∈[z,TI,TO,i1,i2]->s.heap.objs.size≠c:=fun c hc=>by
   simp only [Xq,Yi,ZA] at hc
   rcases hc with rfl | rfl | rfl | rfl | rfl
   ·exact Yz (Xb hz)
   ·exact Yz (Xb hTI)
   ·exact Yz (Xb hTO)
   ·obtain⟨o,ho,_⟩:=hit1;exact Yz (Xb ho)
   ·obtain⟨o,ho,_⟩:=hit2;exact Yz (Xb ho)
  refine HT.Bd Z (HT.vw (prog:=X.prog) (w:=X.w) (A:=X.A.in1) hh i1 a nea its.toArray) (HT.vw (prog:=X.prog) (w:=X.w) (A:=X.A.in1) hh i2 b neb its2.toArray) hz hTI hTO ⟨hit1,hT⟩ ⟨hit2,hT2⟩ li li2 fun x' y' h1 tk hx' hy' ez eo st1 st2 hT1 hsz kk=>⟨_,rfl,?_⟩
  refine wpAny_letOwnedTupleGo_zip ez fun h2 ez2 sb=>?_
  generalize hTT:s.heap.objs.size=T at *
  obtain⟨u,hu,ru⟩:=rv.get hx
  obtain⟨u2,hu2,ru2⟩:=rv2.get hy
  have ex:x'=u:=by
   rw [show its.toArray[i]?=its[i]? by simp,hu] at hx'
   exact(Xg hx').symm
  have ey:y'=u2:=by
   rw [show its2.toArray[i]?=its2[i]? by simp,hu2] at hy'
   exact(Xg hy').symm
  subst ex ey
  have kall:∀ c o,c ∉ [z,TI,TO,i1,i2]->s.heap.get? c=some o->h2.get? c=some o:=fun c o hb q=>by
   simp only [Xq,Yi,ZA,not_or] at hb
   exact(sb.2 c hb.1).trans (kk c o hb.1 hb.2.2.1 hb.2.2.2.1 hb.2.2.2.2 q)
  have hTp:IsTupN h2 T #[x',y']:=⟨_,(sb.2 T (Tn z (by simp))).trans hT1,rfl,⟨_,rfl⟩,rfl⟩
  have hTs:s.heap.objs.size<=T:=ZP hTT
  have TIi:TI≠i1/\TI≠i2:=⟨Z.t1,Z.t2⟩
  refine⟨.ref T,upd H T (.tup [x,y]),I.turnLaid kall hf hTs ⟨by show 2<=sizeLine;decide,[x',y'],.cons ru (.cons ru2 .nil),hTp⟩,rfl,⟨T,x,y,rfl,I.hok.fresh hTs,rfl,fun zs hz=>by rw [I.tuple_inj hz hq];exact hx,fun zs hz=>by rw [I.tuple_inj hz hq2];exact hy⟩,⟨ez2,(sb.2 TI Z.TIz).trans (kk TI _ Z.TIz Z.TITO Z.t1 Z.t2 hTI),⟨x',y',(sb.2 TO Z.TOz).trans eo⟩,?_,?_⟩,fun c hc=>?_⟩
  ·obtain⟨⟨o,ho,r⟩,_⟩:=st1
   exact⟨o,(sb.2 i1 (fun e=>Z.z1 (by simp [e]))).trans ho,r⟩
  ·obtain⟨⟨o,ho,r⟩,_⟩:=st2
   exact⟨o,(sb.2 i2 (fun e=>Z.z2 (by simp [e]))).trans ho,r⟩
  ·rw [bn (Tn c hc).symm]
   exact(hf c hc).1
 done:=by
  intro X hP hw hK hc i pins s σ H E I hf st hg
  subst hP hw hK
  obtain⟨xs,ys,hq,hq2,hl⟩:=hg
  obtain⟨its,rv,p,hz0⟩:=I.tuple hq
  obtain⟨its2,rv2,p2,hz2⟩:=I.tuple hq2
  have hT:s.heap.IsTuple a its.toArray:=p
  have hT2:s.heap.IsTuple b its2.toArray:=p2
  have hh:=I.ok.hd hc
  obtain⟨hz,hTI,⟨u0,v0,hTO⟩,hit1,hit2⟩:=st
  have fin:∀ h' tk,(∀ c o,c≠z->c≠TO->c≠i1->c≠i2->s.heap.get? c=some o->h'.get? c=some o)->(none:Option Value)=none/\Inv X pins σ H { s with heap:=h',toks:=tk }:=fun h' tk kk=>⟨rfl,I.turnedL (fp:=[z,TI,TO,i1,i2]) (fun c o hb q=>by
   simp only [Xq,Yi,ZA,not_or] at hb
   exact kk c o hb.1 hb.2.2.1 hb.2.2.2.1 hb.2.2.2.2 q) hf⟩
  by_cases h1:xs.length<=i
  ·exact HT.yJ Z (CZ (prog:=X.prog) (w:=X.w) (A:=X.A.in1) hh i1 a its.toArray i (by simp;have:=rv.length;omega)) hz hTI hTO ⟨rfl,hit1,hT⟩ fin
  ·have h2:ys.length<=i:=hl.resolve_left h1
   have nea:a≠i1:=fun e=>by
    obtain⟨o',ho',hc',_⟩:=hit1
    obtain⟨o,ho,hcl,_⟩:=hT
    rw [e,ho'] at ho;cases ho;rw [hc'] at hcl;exact absurd hcl (by decide)
   exact HT.yI Z (HT.vw (prog:=X.prog) (w:=X.w) (A:=X.A.in1) hh i1 a nea its.toArray) (CZ (prog:=X.prog) (w:=X.w) (A:=X.A.in1) hh i2 b its2.toArray i (by simp;have:=rv2.length;omega)) hz hTI hTO ⟨hit1,hT⟩ (by simp;have:=rv.length;omega) ⟨rfl,hit2,hT2⟩ fin
 self:=fun A i s Q E st h=>wpAny_pyIter_zip st.1 h
def iZip(K:W.Frag)(t:TA):TI:=fun σ H R=>t σ H fun xs H1=>∃ a b,xs=[.ref a,.ref b]/\(∃ ys,mE K H1 a ys)/\(∃ ys,mE K H1 b ys)/\R (Itz K a b) H1
variable{X:Cx}
def Kg{n t t2:Nat}(h1:t<n)(h2:t2<n):HT.Ay (n+4) (n+2) (n+3) n (n+1) [n,t] [n+1,t2]:=by
 constructor <;> simp only [Xq,Yi,ZA,not_or,ne_eq,true_or] <;> (try (show ¬ ((_:Nat)=_))) <;> (try omega)
 all_goals (refine⟨?_,?_⟩ <;> (show ¬ ((_:Nat)=_)) <;> omega)
def OF{n b:Nat}(h:b∈[n+4,n+2,n+3,n,n+1]):n<=b:=by
 simp only [Xq,Yi,ZA] at h
 omega
def TF{a b:Expr}{ta:TA}{es:List Expr}{k:Nat}{tp p pos:Pos}(hg:Gl X "zip")(hm:X.mg "zip" = none)(ha:PA X [a,b] ta)(hs:starEach [a,b] X.env=[(false,eval a X.env),(false,eval b X.env)])(hs2:starEach [b] X.env=[(false,eval b X.env)]) :
  PI X (.Tuple es k tp) (.Call (.Name "zip" p) [a,b] [] pos) (iZip X.K ta):=by
 intro pins s σ H R I h
 refine Call_ (lY I hg hm boot_zip (XG (dE (ha pos pins s σ H _ I h) fun us s1 ⟨vs,H1,I1,r1,q1⟩=>?_) (by rw [hs,hs2]) (by rw [hs2];rfl)))
 obtain⟨t,t2,rfl,⟨ys,hq⟩,⟨ys2,hq2⟩,q⟩:=q1
 obtain⟨u,v,rfl,ru,rv⟩:=r1.two
 cases ru
 cases rv
 obtain⟨its,rv,pt,hz⟩:=I1.tuple hq
 obtain⟨its2,rv2,pt2,hz2⟩:=I1.tuple hq2
 have l1:t<s1.heap.objs.size:=by obtain⟨o,ho,_⟩:=pt;exact Xb ho
 have l2:t2<s1.heap.objs.size:=by obtain⟨o,ho,_⟩:=pt2;exact Xb ho
 refine HT.JP pt pt2 fun h' hz hTI hTO hi1 hi2 hsz kk=>wpAny_pyIter_zip hz ?_
 have Z:HT.Ay (s1.heap.objs.size+4) (s1.heap.objs.size+2) (s1.heap.objs.size+3) s1.heap.objs.size (s1.heap.objs.size+1) [s1.heap.objs.size,t] [s1.heap.objs.size+1,t2]:=Kg l1 l2
 refine⟨s1.heap.objs.size+4,[s1.heap.objs.size+4,s1.heap.objs.size+2,s1.heap.objs.size+3,s1.heap.objs.size,s1.heap.objs.size+1],_,_,H1,rfl,I1.kept (t':=s1.toks) kk,Kr t t2 _ _ _ _ _ Z,⟨hz,hTI,⟨_,_,hTO⟩,hi1,hi2⟩,fun b hb=>?_,q⟩
 have hb':s1.heap.objs.size<=b:=OF hb
 exact I1.fpOk hb' (I1.hok.fresh hb')
end
end L2
namespace M
open L2
section
variable{X:Cx}{K:W.Frag}{μ μ':Fp}{H H':Hp}{S:ac}
noncomputable def jF:List D->List D->List D
 | x::r,y::q=>.tup [x,y]::jF r q
 | _,_=>[]
def AE:∀ (xs ys:List D) (i:Nat),(jF xs ys).length<=i->xs.length<=i\/ys.length<=i
 | [],_,i,_=>.inl (Yy _)
 | _::_,[],i,_=>.inr (Yy _)
 | x::r,y::q,0,h=>by simp [jF] at h
 | x::r,y::q,i+1,h=>by
  rw [jF,WT] at h
  rcases AE r q i (by omega) with h | h
  ·exact .inl (by rw [WT];omega)
  ·exact .inr (by rw [WT];omega)
def AF:∀ (xs ys:List D) (i:Nat) (d:D),(jF xs ys)[i]?=some d->∃ x y,xs[i]?=some x/\ys[i]?=some y/\d=.tup [x,y]
 | [],_,i,d,h=>by simp [jF] at h
 | _::_,[],i,d,h=>by simp [jF] at h
 | x::r,y::q,0,d,h=>by simp [jF] at h;exact⟨x,y,rfl,rfl,h.symm⟩
 | x::r,y::q,i+1,d,h=>by
  rw [jF,Zn] at h
  simpa using AF r q i d h
def Mx{a b:Addr}{xs ys:List D}(r:Rep K μ H (.ref a) (.tup xs))(q:Rep K μ H (.ref b) (.tup ys)):FU K μ H (Itz K a b) (jF xs ys):=fun μ' H' S' e s i=>by
 have r':=r.monoP e
 have q':=q.monoP e
 obtain⟨b1,vs,hb,hq,rs⟩:=r'.sqT
 cases hb
 obtain⟨b2,ws,hb,hq2,qs⟩:=q'.sqT
 cases hb
 refine⟨fun d hd=>?_,fun hl=>⟨vs,ws,hq,hq2,by rw [rs.length,qs.length];exact AE _ _ _ hl⟩⟩
 obtain⟨x,y,hx,hy,rfl⟩:=AF xs ys i d hd
 obtain⟨v,hv,rv⟩:=rs.get hx
 obtain⟨u,hu,ru⟩:=qs.get hy
 refine⟨⟨vs,ws,v,u,hq,hq2,hv,hu⟩,fun y H2 hy=>?_⟩
 obtain⟨p,v',u',rfl,hp,rfl,hw,hw2⟩:=hy
 have ev:v'=v:=by have:=hw vs hq;rw [hv] at this;exact(Xg this).symm
 have eu:u'=u:=by have:=hw2 ws hq2;rw [hu] at this;exact(Xg this).symm
 subst ev eu
 obtain⟨e2,s2⟩:=s.laid (o:=.tup [v',u']) hp
 refine⟨e2,s2,?_⟩
 exact .tup bx (s.notMem hp) (.cons (rv.mono e2) (.cons (ru.mono e2) .nil))
noncomputable def kN(ms:MA):MA:=fun env S=>(ms env S).bind fun p=>match p.1 with | [.tup xs,.tup ys]=>some (jF xs ys,p.2) | _=>none
def VN{a b:Expr}{ms:MA}{es:List Expr}{k:Nat}{tp p pos:Pos}(hm:X.mg "zip" = none)(ha:DA X [a,b] ms)(hg:Gl X "zip")(hs:starEach [a,b] X.env=[(false,eval a X.env),(false,eval b X.env)])(hs2:starEach [b] X.env=[(false,eval b X.env)]) :
  DI X (.Tuple es k tp) (.Call (.Name "zip" p) [a,b] [] pos) (kN ms):=PI.imp (TF hg hm ha hs hs2) fun σ H R ⟨μ,S,env,xs,S',hS,hE,h,post⟩=>by
 obtain⟨⟨ds,S1⟩,h1,h⟩:=WI.mp h
 refine⟨μ,S,env,ds,S1,hS,hE,h1,fun vs H1 μ1 e1 s1 r1=>?_⟩
 dsimp only at h
 split at h
 ·rename_i xs ys
  cases h
  obtain⟨v,u,rfl,rv,ru⟩:=r1.two
  have rv':=rv
  have ru':=ru
  obtain⟨b,ws,rfl,hq,rs⟩:=rv.sqT
  obtain⟨b2,ws2,rfl,hq2,rs2⟩:=ru.sqT
  exact⟨b,b2,rfl,⟨ws,hq⟩,⟨ws2,hq2⟩,post _ H1 μ1 e1 s1 (Mx rv' ru')⟩
 ·cases h
end
section
variable{X:Cx}{K:W.Frag}{μ μ':Fp}{H H':Hp}{S S':ac}
noncomputable def fR:D->Option bG
 | .int i=>some (.inl i)
 | .str x=>some (.inr x)
 | _=>none
def oa{v:V}{d:D}{k:bG}(h:fR d=some k)(r:Rep K μ H v d):v=kV k:=by
 cases d <;> first | cases h | skip
 ·rw [r.int_inv];rfl
 ·rw [r.str_inv];rfl
noncomputable def jG(kvs:List (bG×D))(k:bG):Option D:=match kvs with
 | []=>none
 | p::r=>if p.1=k then some p.2 else jG r k
def Jc(kvs:List (bG×D))(k:bG):Bool:=match kvs with
 | []=>false
 | p::r=>if p.1=k then true else Jc r k
noncomputable def OS(kvs:List (bG×D))(k:bG)(d:D):List (bG×D):=match kvs with
 | []=>[]
 | p::r=>(if p.1=k then (p.1,d) else p)::OS r k d
noncomputable def Lc(kvs:List (bG×D))(k:bG)(d:D):List (bG×D):=if Jc kvs k then OS kvs k d else kvs++[(k,d)]
noncomputable def cP(kvs:List (bG×D)):List (bG×D)->List (bG×D)
 | []=>kvs
 | p::r=>cP (Lc kvs p.1 p.2) r
inductive KR(K:W.Frag)(μ:Fp)(H:Hp):List (bG×V)->List (bG×D)->Prop
 | nil:KR K μ H [] []
 | cons {k:bG} {v:V} {d:D} {vs:List (bG×V)} {ds:List (bG×D)} (h:Rep K μ H v d) (t:KR K μ H vs ds):KR K μ H ((k,v)::vs) ((k,d)::ds)
def KR.keys:∀ {vs ds},KR K μ H vs ds->vs.map (·.1)=ds.map (·.1)
 | _,_,.nil=>rfl
 | _,_,.cons _ t=>by rw [WR,WR,KR.keys t]
def KR.reps:∀ {vs ds},KR K μ H vs ds->Reps K μ H (vs.map (·.2)) (ds.map (·.2))
 | _,_,.nil=>.nil
 | _,_,.cons h t=>.cons h (KR.reps t)
def KR.length:∀ {vs ds},KR K μ H vs ds->vs.length=ds.length
 | _,_,.nil=>rfl
 | _,_,.cons _ t=>by rw [WT,WT,KR.length t]
def KR.less{p:Addr}{cs fb:List Addr}:∀ {vs ds},KR K ⟨cs,p::fb⟩ H vs ds->KR K ⟨cs,fb⟩ H vs ds
 | _,_,.nil=>.nil
 | _,_,.cons h t=>.cons h.less (KR.less t)
def KR.chg{p:Addr}{o:HO}(hp:p ∈ μ.fb):∀ {vs ds},KR K μ H vs ds->KR K μ (upd H p o) vs ds
 | _,_,.nil=>.nil
 | _,_,.cons h t=>.cons (h.chg hp) (KR.chg hp t)
def KR.of:∀ {kvs:List (bG×V)} {ks:List bG} {ds:List D},ks=kvs.map (·.1)->Reps K μ H (kvs.map (·.2)) ds->KR K μ H kvs (ks.zip ds)
 | [],_,_,e,r=>by subst e;cases r;exact .nil
 | p::q,_,_,e,r=>by
  subst e
  rw [WR] at r
  cases r with | cons h t=>exact .cons h (KR.of rfl t)
def KR.val{k:bG}:∀ {vs ds},KR K μ H vs ds->∀ {d},jG ds k=some d->∃ v,tJ vs k=some v/\Rep K μ H v d
 | _,_,.nil,d,h=>by cases h
 | _,_,.cons (k:=k') h t,d,q=>by
  unfold jG at q
  split at q
  ·rename_i e;cases q;exact⟨_,tH e,h⟩
  ·rename_i e
   obtain⟨v,h1,h2⟩:=KR.val t q
   exact⟨v,(tI e).trans h1,h2⟩
def KR.has{k:bG}:∀ {vs ds},KR K μ H vs ds->(vs.any fun kv=>decide (kv.1=k))=Jc ds k
 | _,_,.nil=>rfl
 | _,_,.cons (k:=k') h t=>by
  rw [XD,KR.has t]
  unfold Jc
  by_cases e:k'=k
  ·simp [e]
  ·simp only [WV e,Bool.false_or,if_neg e];cases t <;> rfl
def KR.setv{k:bG}{x:V}{d:D}(r:Rep K μ H x d):∀ {vs ds},KR K μ H vs ds->KR K μ H (vs.map fun kv=>if kv.1=k then (kv.1,x) else kv) (OS ds k d)
 | _,_,.nil=>.nil
 | _,_,.cons (k:=k') h t=>by
  rw [WR]
  unfold OS
  by_cases e:k'=k
  ·simp only [Xc e];exact .cons r (KR.setv r t)
  ·simp only [if_neg e];exact .cons h (KR.setv r t)
def KR.snoc{k:bG}{x:V}{d:D}(r:Rep K μ H x d):∀ {vs ds},KR K μ H vs ds->KR K μ H (vs++[(k,x)]) (ds++[(k,d)])
 | _,_,.nil=>.cons r .nil
 | _,_,.cons h t=>.cons h (KR.snoc r t)
def KR.put{k:bG}{x:V}{d:D}{vs ds}(r:Rep K μ H x d)(t:KR K μ H vs ds):KR K μ H (vV vs k x) (Lc ds k d):=by
 unfold vV Lc
 rw [t.has]
 split
 ·exact t.setv r
 ·exact t.snoc r
def KR.merge:∀ {ws es vs ds},KR K μ H ws es->KR K μ H vs ds->KR K μ H (jJ vs ws) (cP ds es)
 | _,_,_,_,.nil,t=>t
 | _,_,vs,ds,.cons (k:=k) (v:=v) (d:=d) h q,t=>by
  have:=KR.merge q (t.put (k:=k) h)
  exact this
abbrev MP:=bp->ac->Option (List (bG×D)×ac)
noncomputable def kO:List (ME×ME)->MP
 | []=>fun _ S=>some ([],S)
 | (a,b)::r=>fun env S=>(a env S).bind fun p=>(fR p.1).bind fun k=>(b env p.2).bind fun q=>(kO r env q.2).bind fun z=>some ((k,q.1)::z.1,z.2)
def DPs(X:Cx)(pos:Pos)(keys:List (Option Expr))(values:List Expr)(ms:List (ME×ME)):Prop:=PPs X pos keys values (ms.map fun p=>(tM X.K p.1,tM X.K p.2))
def QY{pos:Pos}:DPs X pos [] [] []:=Pn
def NP{pos:Pos}{k v:Expr}{ks:List (Option Expr)}{vs:List Expr}{mk mv:ME}{ms:List (ME×ME)}(hk:DE X k mk)(hv:DE X v mv)(hr:DPs X pos ks vs ms):DPs X pos (some k::ks) (v::vs) ((mk,mv)::ms):=Ll hk hv hr
def qK{σ:L2.St}{env:bp}:∀ {ms:List (ME×ME)} {μ:Fp} {H:Hp} {S S':ac} {kvs:List (bG×D)} {Q:List (V×V)->Hp->Prop},SOk K μ S H->EOk K μ H σ env->kO ms env S=some (kvs,S') ->
  (∀ vs H' μ',Ext μ H μ' H'->SOk K μ' S' H'->KR K μ' H' vs kvs->Q (vs.map fun kv=>(kV kv.1,kv.2)) H')->yn (ms.map fun p=>(tM K p.1,tM K p.2)) σ H Q
 | [],μ,H,S,S',kvs,Q,s,e,h,q=>by cases h;exact q [] H μ s.ext s .nil
 | (a,b)::r,μ,H,S,S',kvs,Q,s,e,h,q=>by
  obtain⟨⟨x,S1⟩,h1,h⟩:=WI.mp h
  obtain⟨k,h2,h⟩:=WI.mp h
  obtain⟨⟨y,S2⟩,h3,h⟩:=WI.mp h
  obtain⟨⟨zs,S3⟩,h4,h⟩:=WI.mp h
  cases h
  refine⟨μ,S,env,x,S1,s,e,h1,fun v H1 μ1 e1 s1 r1=>⟨μ1,S1,env,y,S2,s1,e.mono e1,h3,fun w H2 μ2 e2 s2 r2=>qK s2 ((e.mono e1).mono e2) h4 fun vs H3 μ3 e3 s3 r3=>?_⟩⟩
  have:=q ((k,w)::vs) H3 μ3 ((e1.trans e2).trans e3) s3 (.cons (r2.mono e3) r3)
  rw [WR] at this
  rw [oa h2 r1]
  exact this
def Ext.shut{p:Addr}{o o':HO}{cs fb:List Addr}{μ2:Fp}{H2:Hp}{S2:ac}(hp:H p=none)(hn:p ∉ fb)(e:Ext ⟨cs,p::fb⟩ (upd H p o) μ2 H2)(s:SOk K μ2 S2 H2) :
  Ext ⟨cs,fb⟩ H ⟨μ2.cs,fb⟩ (upd H2 p o')/\SOk K ⟨μ2.cs,fb⟩ S2 (upd H2 p o')/\(⟨μ2.cs,fb⟩:Fp).no p/\(∀ vs ds,KR K μ2 H2 vs ds->KR K ⟨μ2.cs,fb⟩ (upd H2 p o') vs ds)/\H2 p=some o:=by
 have pm:p ∈ μ2.fb:=by rw [e.fb];exact WL
 have ncs:p ∉ μ2.cs:=s.disj p pm
 have ncs0:p ∉ cs:=fun z=>ncs (by obtain⟨l,q,_⟩:=e.pre;rw [q];exact Xu _ z)
 have ef:μ2=⟨μ2.cs,p::fb⟩:=by have:=e.fb;obtain⟨a,b⟩:=μ2;simp only at this;rw [this]
 refine⟨⟨rfl,?_,fun a o2 na ha=>?_,fun a ha=>?_⟩,?_,⟨ncs,?_⟩,fun vs ds r=>?_,e.keep p o ncs0 bx⟩
 ·obtain⟨l,q,hl⟩:=e.pre
  refine⟨l,q,fun a ha=>?_⟩
  have:=hl a ha
  by_cases z:a=p
  ·subst z;exact hp
  ·rwa [bn z] at this
 ·have z:=cx ha hp
  rw [bn z]
  exact e.keep a o2 na ((bn z).trans ha)
 ·have z:a≠p:=fun z=>ncs (z ▸ ha)
  rw [bn z];exact e.dom a ha
 ·have:=(s.chg (o:=o') pm)
  rw [ef] at this
  exact this.less
 ·exact hn
 ·have:=r.chg (o:=o') pm
  rw [ef] at this
  exact this.less
noncomputable def gy(ms:List (ME×ME)):ME:=fun env S=>(kO ms env S).bind fun z=>if z.1.length<=15 then some (.dct ((cP [] z.1).map (·.1)) ((cP [] z.1).map (·.2)),z.2) else none
def Ri{pos:Pos}{keys:List (Option Expr)}{values:List Expr}{ms:List (ME×ME)}(h:DPs X pos keys values ms)(hall:keys.all (·.isSome)=true)(hl:keys.length=values.length)(h0:keys≠[])(h15:keys.length<=15) :
  DE X (.Dict keys values pos) (gy ms):=PE.imp (Gd h hall hl h0 h15) fun σ H Q ⟨μ,S,env,d,S',hS,hE,hm,post⟩=>by
 obtain⟨⟨kvs,S1⟩,h1,hm⟩:=WI.mp hm
 dsimp only at hm
 split at hm
 ·rename_i hl
  cases hm
  intro p hp
  obtain⟨cs,fb⟩:=μ
  refine qK (hS.more hp) (hE.more hp) h1 fun vs H2 μ2 e2 s2 r2=>?_
  obtain⟨eF,sF,nF,rF,hF⟩:=Ext.shut (o':=.dK (jJ [] vs)) hp (hS.notMem hp).2 e2 s2
  refine⟨hF,vs,rfl,by rw [r2.length];exact hl,post _ _ _ eF sF ?_⟩
  have rr:=(rF _ _ r2).merge KR.nil
  have:=Rep.dct (K:=X.K) (bx (H:=H2) (o:=.dK (jJ [] vs))) nF rr.reps
  rw [rr.keys] at this
  exact this
 ·cases hm
noncomputable def AL(S:ac):D->Option (List (bG×D))
 | .dct ks vs=>some (ks.zip vs)
 | .ref r=>match S[r]? with | some (.dct ks vs)=>some (ks.zip vs) | _=>none
 | _=>none
def OL{v:V}{d:D}{kvs:List (bG×D)}(s:SOk K μ S H)(r:Rep K μ H v d)(h:AL S d=some kvs):∃ a vs,v=.ref a/\H a=some (.dK vs)/\KR K μ H vs kvs:=by
 cases r with
 | dct hd n rr=>cases h;exact⟨_,_,rfl,hd,KR.of rfl rr⟩
 | ref hr=>
  rename_i a i
  unfold AL at h
  dsimp only at h
  cases q:S[i]? with
  | none=>rw [q] at h;cases h
  | some c=>
   rw [q] at h
   have ck:=s.cell _ _ _ hr q
   cases c with
   | lst _=>cases h
   | dct ks xs=>cases h;obtain⟨vs,e,hk,rr⟩:=ck;exact⟨a,vs,rfl,e,KR.of hk rr⟩
 | _=>cases h
noncomputable def aw(S:ac)(x y:D):Option D:=match AL S x with
 | some kvs=>(fR y).bind fun k=>jG kvs k
 | none=>fIx S x y
def Qq(hu:X.A.units+1<cLine):IxR X (fun x y H Q=>∃ a v,x=.ref a/\DGet H a y (some v)/\Q v H):=by
 intro value slice pins s σ H x y v u Q I rx ry h hs
 obtain⟨a,z,rfl,g,q⟩:=h
 cases rx
 exact tail_any (Dc I g) F.slot_dict_getitem.lookup (JH hu I g ry fun w' s' I' rw'=>⟨z,H,I',rw',q⟩) hs
def ix_DX(hu:X.A.units+1<cLine):IxR X (oC X.K aw):=IxR.imp ((Qq hu).or ix_D) fun x y H Q ⟨μ,S,dx,dy,dz,hS,h1,h2,h3,post⟩=>by
 unfold aw at h3
 split at h3
 ·rename_i kvs hk
  obtain⟨k,h4,h5⟩:=WI.mp h3
  obtain⟨a,vs,rfl,ha,rr⟩:=OL hS h1 hk
  obtain⟨v,h6,h7⟩:=rr.val h5
  refine .inl ⟨a,v,rfl,?_,post.here hS h7⟩
  rw [oa h4 h2,<- h6]
  exact DGet.k ha
 ·exact .inr ⟨μ,S,dx,dy,dz,hS,h1,h2,h3,post⟩
def VZ{a b:Expr}{ma mb:ME}{pos:Pos}(hu:X.A.units+1<cLine)(ha:DE X a ma)(hb:DE X b mb)(hs:oA b:=by intro _ _;rfl):DE X (.Subscript a b pos) (ar aw ma mb):=
 PE.imp (Lu (ix_DX hu) ha hb hs) fun _ _ _ h=>yo h
end
end M
namespace L2
section
variable{X:Cx}{o e:Expr}{es:List Expr}{to:TE}{t:TA}{name:Str}{apos cpos:Pos}{id:String}{r:V->List V->Hp->VK->Prop}
def tBD(r:V->List V->Hp->VK->Prop)(to:TE)(t:TA):TE:=fun σ H Q=>to σ H fun x H1=>(∃ p,x=.ref p/\IsD H1 p)/\t σ H1 fun xs H2=>r x xs H2 Q
def TX(slot:Slot "dict" name id)(hty:typeOf (.builtin id)=pure (.type "method_descriptor"))(hm:MtR X id r)(ho:PE X o to)(ha:PA X (e::es) t)
  (hbase:attributeBase o name X.env (eval o X.env)=eval o X.env)
  (hfew:((backTo cpos (starEach (e::es) X.env)).all (fun x=>!x.1)&&(backToKw cpos (keywordEach [] X.env)).all (fun x=>x.1.isSome)&&decide ((e::es).length+([]:List Keyword).length+(if ([]:List Keyword).isEmpty then 0 else 1)<30))=true)
  (hline:(apos.endLine == cpos.line)=true) (hs:starEach (e::es) X.env=(false,eval e X.env)::starEach es X.env) (hplain:(backTo cpos (starEach es X.env)).any (·.1)=false) :
  PE X (.Call (.Attribute o name apos) (e::es) [] cpos) (tBD r to t):=by
 intro pins s σ H Q I h
 refine Zr hbase hfew hline rfl (dE (ho pins s σ H _ I h) fun v s1 ⟨x,H1,I1,r1,ty,q1⟩=>?_)
 obtain⟨p,rfl,hq⟩:=ty
 cases r1
 obtain⟨t1,t2,_⟩:=Vd I1 hq
 refine⟨"dict",id,F.plainAttrs_dict,slot,hty,t1,t2,?_⟩
 have hA:=ha cpos pins s1 σ H1 _ I1 q1
 rw [hs] at hA ⊢
 refine Zt (by show (false||(backTo cpos (starEach es X.env)).any (·.1))=false;rw [hplain] <;> rfl) (ZB ?_)
 exact dE hA fun us s2 ⟨vs,H2,I2,r2,q2⟩=>hm pins s2 σ H2 (V.ref p) vs _ us Q I2 (show RelV (V.ref p) (Value.ref p) from rfl) r2 q2
def Et:MtR X "dict.update" (fun x xs H Q=>∃ a b kvs more,x=.ref a/\xs=[.ref b]/\a≠b/\H a=some (.dK kvs)/\H b=some (.dK more)/\kvs.length+more.length<=sizeLine/\Q .non (upd H a (.dK (jJ kvs more)))):=by
 intro pins s σ H x xs v us Q I rx rv h
 obtain⟨a,b,kvs,more,rfl,rfl,ne,ha,hb,hl,q⟩:=h
 cases rx
 obtain⟨u,rfl,ru⟩:=rv.one
 cases ru
 obtain⟨z,hd,vs,r0,dd⟩:=NT I.hok ha
 obtain⟨z2,hd2,vs2,r2,dd2⟩:=NT I.hok hb
 have l1:=r0.length
 have l2:=r2.length
 refine call_meetsIn aaW dd.typeIs F.entry_dict_update (F.args_dict_update_2 _ _) (meets_dict_update (cf X.prog X.w) a b ne hd2) ⟨vs,vs2,dd,dd2,by omega,fun h' dd' _ hs=>?_⟩
 have hz:(jJ kvs more).length<=sizeLine:=by
  have h1:=kP more kvs
  omega
 have he:∃ q,h'.get? a=some q:=let ⟨q,_,_,hq,_⟩:=dd';⟨q,hq⟩
 exact⟨.non,_,He I (by rw [ha];exact True.intro) hs he (NU hz hd (r2.merge r0) dd'),rfl,q⟩
end
end L2
namespace M
open L2
section
variable{X:Cx}{K:W.Frag}{μ μ':Fp}{H H':Hp}{S S':ac}
def SOk.writeD{S:ac}(s:SOk K μ S H){i:Nat}{a:Addr}{kvs kvs':List (bG×V)}{ks:List bG}{ds:List D}(hi:μ.cs[i]?=some a)(h:H a=some (.dK kvs))(hk:ks=kvs'.map (·.1))(r:Reps K μ H (kvs'.map (·.2)) ds) :
  Ext μ H μ (upd H a (.dK kvs'))/\SOk K μ (S.set i (.dct ks ds)) (upd H a (.dK kvs')):=by
 have ha:=Xh hi
 have e:Ext μ H μ (upd H a (.dK kvs')):=⟨rfl,⟨[],by simp,fun _ z=>by simp at z⟩,fun b o' n q=>by rw [bn (by rintro rfl;exact n ha)];exact q,fun b hb=>by
  by_cases z:b=a
  ·subst z;rw [bx];simp
  ·rw [bn z];exact s.dom b hb⟩
 refine⟨e,s.nd,by simp [s.len],fun j b c h1 h2=>?_,fun b hb=>?_,s.disj⟩
 case refine_2=>
  by_cases z:b=a
  ·subst z;rw [bx];simp
  ·rw [bn z];exact s.fdom b hb
 by_cases hj:j=i
 ·subst hj
  rw [hi] at h1;cases h1
  have hl:j<S.length:=by rw [<- s.len];exact(WJ.mp hi).1
  rw [Xn hl] at h2
  cases h2
  exact⟨kvs',bx,hk,r.mono e⟩
 ·rw [Xf (Ne.symm hj)] at h2
  refine(s.cell j b c h1 h2).mono e (bn fun z=>hj ?_)
  subst z
  exact Gk s.nd h1 hi
def Bu{p a:Addr}{cs fb:List Addr}(n:(⟨cs,p::fb⟩:Fp).no a):(⟨cs++[p],fb⟩:Fp).no a:=
 ⟨fun z=>(Xj.mp z).elim n.1 fun z=>n.2 (by rw [Xp.mp z];exact WL),fun z=>n.2 (WO _ z)⟩
def Rep.adopt{p:Addr}{cs fb:List Addr}{v:V}{d:D}(r:Rep K ⟨cs,p::fb⟩ H v d):Rep K ⟨cs++[p],fb⟩ H v d:=r.imp (fun h n=>⟨h,Bu n⟩) fun h=>Av rfl h
def Reps.adopt{p:Addr}{cs fb:List Addr}{v:List V}{d:List D}(r:Reps K ⟨cs,p::fb⟩ H v d):Reps K ⟨cs++[p],fb⟩ H v d:=r.imp (fun h n=>⟨h,Bu n⟩) fun h=>Av rfl h
def KR.adopt{p:Addr}{cs fb:List Addr}:∀ {vs ds},KR K ⟨cs,p::fb⟩ H vs ds->KR K ⟨cs++[p],fb⟩ H vs ds
 | _,_,.nil=>.nil
 | _,_,.cons h t=>.cons h.adopt (KR.adopt t)
def Ext.shutR{p:Addr}{o:HO}{cs fb:List Addr}{μ2:Fp}{H2:Hp}{S2:ac}{vs:List (bG×V)}{kvs:List (bG×D)}(hp:H p=none)(hn:p ∉ fb)(e:Ext ⟨cs,p::fb⟩ (upd H p o) μ2 H2)(s:SOk K μ2 S2 H2)(r:KR K μ2 H2 vs kvs) :
  Ext ⟨cs,fb⟩ H ⟨μ2.cs++[p],fb⟩ (upd H2 p (.dK vs))/\SOk K ⟨μ2.cs++[p],fb⟩ (S2++[.dct (kvs.map (·.1)) (kvs.map (·.2))]) (upd H2 p (.dK vs))/\H2 p=some o:=by
 have pm:p ∈ μ2.fb:=by rw [e.fb];exact WL
 have ncs:p ∉ μ2.cs:=s.disj p pm
 have ncs0:p ∉ cs:=fun z=>ncs (by obtain⟨l,q,_⟩:=e.pre;rw [q];exact Xu _ z)
 have ef:μ2.fb=p::fb:=e.fb
 obtain⟨cs2,fb2⟩:=μ2
 simp only at ef pm ncs
 subst ef
 refine⟨⟨rfl,?_,fun a o2 na ha=>?_,fun a ha=>?_⟩,⟨?_,by simp [s.len],fun i a c h1 h2=>?_,fun a ha=>?_,fun a ha z=>?_⟩,e.keep p o ncs0 bx⟩
 ·obtain⟨l,q,hl⟩:=e.pre
  simp only at q
  refine⟨l++[p],by rw [q,Xm],fun a ha=>?_⟩
  rcases Xj.mp ha with ha | ha
  ·have:=hl a ha
   by_cases z:a=p
   ·subst z;exact hp
   ·rwa [bn z] at this
  ·rw [Xp.mp ha];exact hp
 ·have z:=cx ha hp
  rw [bn z]
  exact e.keep a o2 na ((bn z).trans ha)
 ·by_cases z:a=p
  ·subst z;rw [bx];simp
  ·rw [bn z]
   rcases Xj.mp ha with ha | ha
   ·exact e.dom a ha
   ·exact absurd (Xp.mp ha) z
 ·exact YC.mpr ⟨s.nd,by simp,fun a ha b hb=>by rw [Xp.mp hb];exact fun z=>ncs (z ▸ ha)⟩
 ·have sc:=s.chg (o:=.dK vs) pm
  by_cases hi:i<cs2.length
  ·rw [WZ hi] at h1
   rw [WZ (by rw [<- s.len];exact hi)] at h2
   have ck:=sc.cell i a c h1 h2
   cases c with
   | lst ds=>obtain⟨ws,h,r⟩:=ck;exact⟨ws,h,r.adopt⟩
   | dct ks ds=>obtain⟨ws,h,q,r⟩:=ck;exact⟨ws,h,q,r.adopt⟩
  ·have hi':i=cs2.length:=by
    have:=(WJ.mp h1).1
    simp at this;omega
   subst hi'
   rw [XX (WY _)] at h1
   rw [show cs2.length=S2.length from s.len,XX (WY _)] at h2
   simp at h1 h2
   subst h1 h2
   have rc:=(r.chg (o:=.dK vs) pm).adopt
   exact⟨vs,bx,rc.keys.symm,rc.reps⟩
 ·by_cases z:a=p
  ·subst z;rw [bx];simp
  ·rw [bn z];exact s.fdom a (WO _ ha)
 ·rcases Xj.mp z with z | z
  ·exact s.disj a (WO _ ha) z
  ·exact hn (Xp.mp z ▸ ha)
noncomputable def dZ(ms:List (ME×ME)):ME:=fun env S=>(kO ms env S).bind fun z=>if z.1.length<=15 then some (.ref z.2.length,z.2++[.dct ((cP [] z.1).map (·.1)) ((cP [] z.1).map (·.2))]) else none
def Oc{pos:Pos}{keys:List (Option Expr)}{values:List Expr}{ms:List (ME×ME)}(h:DPs X pos keys values ms)(hall:keys.all (·.isSome)=true)(hl:keys.length=values.length)(h0:keys≠[])(h15:keys.length<=15) :
  DE X (.Dict keys values pos) (dZ ms):=PE.imp (Gd h hall hl h0 h15) fun σ H Q ⟨μ,S,env,d,S',hS,hE,hm,post⟩=>by
 obtain⟨⟨kvs,S1⟩,h1,hm⟩:=WI.mp hm
 dsimp only at hm
 split at hm
 ·rename_i hl
  cases hm
  intro p hp
  obtain⟨cs,fb⟩:=μ
  refine qK (hS.more hp) (hE.more hp) h1 fun vs H2 μ2 e2 s2 r2=>?_
  obtain⟨eF,sF,hF⟩:=Ext.shutR hp (hS.notMem hp).2 e2 s2 (r2.merge KR.nil)
  exact⟨hF,vs,rfl,by rw [r2.length];exact hl,post _ _ _ eF sF (.ref (by rw [<- s2.len];simp))⟩
 ·cases hm
noncomputable def Og(S:ac):D->Bool
 | .dct _ _=>true
 | .ref r=>match S[r]? with | some (.dct _ _)=>true | _=>false
 | _=>false
def Rq{v:V}{d:D}(s:SOk K μ S H)(r:Rep K μ H v d)(h:Og S d=true):∃ a,v=.ref a/\IsD H a:=by
 cases r with
 | dct hd n rr=>exact⟨_,rfl,.inl ⟨_,.inl hd⟩⟩
 | ref hr=>
  rename_i a i
  unfold Og at h
  dsimp only at h
  cases q:S[i]? with
  | none=>rw [q] at h;cases h
  | some c=>
   rw [q] at h
   have ck:=s.cell _ _ _ hr q
   cases c with
   | lst _=>cases h
   | dct ks xs=>obtain⟨vs,e,hk,rr⟩:=ck;exact⟨a,rfl,.inl ⟨_,.inl e⟩⟩
 | _=>cases h
noncomputable def fGetD:MF:=fun o ds S=>(AL S o).bind fun kvs=>match ds with
 | [y]=>(fR y).bind fun k=>some ((jG kvs k).getD .non,S)
 | [y,d]=>(fR y).bind fun k=>some ((jG kvs k).getD d,S)
 | _=>none
noncomputable def vn:MF:=fun o ds S=>match o,ds with
 | .ref r,[.dct ks2 vs2]=>match S[r]? with
  | some (.dct ks vs)=>if ks.length+ks2.length<=sizeLine then some (.non,S.set r (.dct ((cP (ks.zip vs) (ks2.zip vs2)).map (·.1)) ((cP (ks.zip vs) (ks2.zip vs2)).map (·.2)))) else none
  | _=>none
 | _,_=>none
def Qa:MtR X "dict.update" (OB X.K vn):=MtR.imp Et fun x vs H Q ⟨μ,S,dx,ds,d,S',hS,r1,r2,h,post⟩=>by
 unfold vn at h
 split at h
 ·rename_i r ks2 vs2
  cases q:S[r]? with
  | none=>rw [q] at h;cases h
  | some c=>
   rw [q] at h
   cases c with
   | lst _=>cases h
   | dct ks xs=>
    dsimp only at h
    split at h
    ·rename_i hz
     cases h
     obtain⟨v,rfl,rv⟩:=r2.one
     cases r1 with
     | @ref a _ h'=>
      obtain⟨kvs,hw,hk,rw'⟩:=hS.cell r a _ h' q
      cases rv with
      | @dct b more _ hb nb rb=>
       have k1:=KR.of hk rw'
       have k2:=KR.of rfl rb
       have kk:=k2.merge k1
       obtain⟨e,s'⟩:=hS.writeD h' hw (kvs':=jJ kvs more) (ks:=(cP (ks.zip xs) ((more.map (·.1)).zip vs2)).map (·.1)) kk.keys.symm kk.reps
       refine⟨a,b,kvs,more,rfl,rfl,fun z=>nb.1 (z ▸ Xh h'),hw,hb,?_,post _ _ μ e s' .non⟩
       rw [hk,WM,WM] at hz
       exact hz
    ·cases h
 ·cases h
noncomputable def dX(f:MF)(o:ME)(ms:MA):ME:=fun env S=>(o env S).bind fun p=>if Og p.2 p.1=true then (ms env p.2).bind fun q=>f p.1 q.1 q.2 else none
def Oa{o e:Expr}{es:List Expr}{mo:ME}{ms:MA}{f:MF}{name:Str}{id:String}{apos cpos:Pos}(slot:Slot "dict" name id)(hty:typeOf (.builtin id)=pure (.type "method_descriptor"))(hm:MtR X id (OB X.K f))(ho:DE X o mo)(ha:DA X (e::es) ms)
  (hbase:attributeBase o name X.env (eval o X.env)=eval o X.env)
  (hfew:((backTo cpos (starEach (e::es) X.env)).all (fun x=>!x.1)&&(backToKw cpos (keywordEach [] X.env)).all (fun x=>x.1.isSome)&&decide ((e::es).length+([]:List Keyword).length+(if ([]:List Keyword).isEmpty then 0 else 1)<30))=true)
  (hline:(apos.endLine == cpos.line)=true) (hs:starEach (e::es) X.env=(false,eval e X.env)::starEach es X.env) (hpl:(backTo cpos (starEach es X.env)).any (·.1)=false) :
  DE X (.Call (.Attribute o name apos) (e::es) [] cpos) (dX f mo ms):=
 PE.imp (TX slot hty hm ho ha hbase hfew hline hs hpl) fun σ H Q ⟨μ,S,env,d,S',hS,hE,h,post⟩=>by
  obtain⟨⟨x,S1⟩,h1,h⟩:=WI.mp h
  dsimp only at h
  split at h
  ·rename_i hl
   obtain⟨⟨xs,S2⟩,h2,h⟩:=WI.mp h
   refine⟨μ,S,env,x,S1,hS,hE,h1,fun v H1 μ1 e1 s1 r1=>⟨?_,μ1,S1,env,xs,S2,s1,hE.mono e1,h2,fun vs H2 μ2 e2 s2 r2=>⟨μ2,S2,x,xs,d,S',s2,r1.mono e2,r2,h,(post.ext e1).ext e2⟩⟩⟩
   exact Rq s1 r1 hl
  ·cases h
end
end M
namespace L2
section
variable{X:Cx}{a b:Expr}{rest:List Expr}{ta tb:TE}{pos:Pos}
def tAndX(K:W.Frag)(ta tb:TE):TE:=fun σ H Q=>ta σ H fun x H1=>∃ c,JZ K x H1 c/\if c=true then tb σ H1 Q else Q x H1
def tOrX(K:W.Frag)(ta tb:TE):TE:=fun σ H Q=>ta σ H fun x H1=>∃ c,JZ K x H1 c/\if c=true then Q x H1 else tb σ H1 Q
def tNotX(K:W.Frag)(ta:TE):TE:=fun σ H Q=>ta σ H fun x H1=>∃ c,JZ K x H1 c/\Q (.bl (!c)) H1
def Px(ha:PE X a ta)(hb:PE X (.BoolOp .And (b::rest) pos) tb):PE X (.BoolOp .And (a::b::rest) pos) (tAndX X.K ta tb):=by
 intro pins s σ H Q I h
 refine BoolOp_and (dE (ha pins s σ H _ I h) fun v s1 ⟨x,H1,I1,r1,q1⟩=>?_)
 obtain⟨c,tv,q1⟩:=q1
 refine dE (yl pins s1 σ H1 x v (fun k H'=>k=c/\H'=H1) I1 r1 ⟨c,tv,rfl,rfl⟩) fun k s2 z=>?_
 obtain⟨H2,I2,rfl,rfl⟩:=z
 cases k with
 | true=>exact hb pins s2 σ H2 Q I2 q1
 | false=>exact⟨x,H2,I2,r1,q1⟩
def TN(ha:PE X a ta)(hb:PE X (.BoolOp .Or (b::rest) pos) tb):PE X (.BoolOp .Or (a::b::rest) pos) (tOrX X.K ta tb):=by
 intro pins s σ H Q I h
 refine BoolOp_or (dE (ha pins s σ H _ I h) fun v s1 ⟨x,H1,I1,r1,q1⟩=>?_)
 obtain⟨c,tv,q1⟩:=q1
 refine dE (yl pins s1 σ H1 x v (fun k H'=>k=c/\H'=H1) I1 r1 ⟨c,tv,rfl,rfl⟩) fun k s2 z=>?_
 obtain⟨H2,I2,rfl,rfl⟩:=z
 cases k with
 | false=>exact hb pins s2 σ H2 Q I2 q1
 | true=>exact⟨x,H2,I2,r1,q1⟩
def Pt(ha:PE X a ta):PE X (.UnaryOp .Not a pos) (tNotX X.K ta):=by
 intro pins s σ H Q I h
 refine UnaryOp_ (dE (ha pins s σ H _ I h) fun v s1 ⟨x,H1,I1,r1,q1⟩=>?_)
 obtain⟨c,tv,q1⟩:=q1
 refine not_of (dE (yl pins s1 σ H1 x v (fun k H'=>k=c/\H'=H1) I1 r1 ⟨c,tv,rfl,rfl⟩) fun k s2 z=>?_)
 obtain⟨H2,I2,rfl,rfl⟩:=z
 exact⟨.bl (!k),H2,I2,rfl,q1⟩
end
end L2
namespace M
open L2
section
variable{X:Cx}{K:W.Frag}{μ μ':Fp}{H H':Hp}{S S':ac}{a b:Expr}{ma mb:ME}{rest:List Expr}{pos:Pos}
noncomputable def Mf(a b:ME):ME:=fun env S=>(a env S).bind fun p=>(pN p.2 p.1).bind fun k=>if k=true then b env p.2 else some (p.1,p.2)
noncomputable def Ux(a b:ME):ME:=fun env S=>(a env S).bind fun p=>(pN p.2 p.1).bind fun k=>if k=true then some (p.1,p.2) else b env p.2
noncomputable def LX(a:ME):ME:=fun env S=>(a env S).bind fun p=>(pN p.2 p.1).bind fun k=>some (.bl (!k),p.2)
def Ro(ha:DE X a ma)(hb:DE X (.BoolOp .And (b::rest) pos) mb):DE X (.BoolOp .And (a::b::rest) pos) (Mf ma mb):=PE.imp (Px ha hb) fun σ H Q ⟨μ,S,env,d,S',hS,hE,hm,post⟩=>by
 obtain⟨⟨x,S1⟩,h1,hm⟩:=WI.mp hm
 obtain⟨k,h2,hm⟩:=WI.mp hm
 refine⟨μ,S,env,x,S1,hS,hE,h1,fun v H1 μ1 e1 s1 r1=>⟨k,sT s1 r1 h2,?_⟩⟩
 cases k with
 | true=>rw [Xc rfl];exact⟨μ1,S1,env,d,S',s1,hE.mono e1,hm,post.ext e1⟩
 | false=>cases hm;rw [if_neg Bool.false_ne_true];exact post _ H1 μ1 e1 s1 r1
def VW(ha:DE X a ma)(hb:DE X (.BoolOp .Or (b::rest) pos) mb):DE X (.BoolOp .Or (a::b::rest) pos) (Ux ma mb):=PE.imp (TN ha hb) fun σ H Q ⟨μ,S,env,d,S',hS,hE,hm,post⟩=>by
 obtain⟨⟨x,S1⟩,h1,hm⟩:=WI.mp hm
 obtain⟨k,h2,hm⟩:=WI.mp hm
 refine⟨μ,S,env,x,S1,hS,hE,h1,fun v H1 μ1 e1 s1 r1=>⟨k,sT s1 r1 h2,?_⟩⟩
 cases k with
 | false=>rw [if_neg Bool.false_ne_true];exact⟨μ1,S1,env,d,S',s1,hE.mono e1,hm,post.ext e1⟩
 | true=>cases hm;rw [Xc rfl];exact post _ H1 μ1 e1 s1 r1
def Re(ha:DE X a ma):DE X (.UnaryOp .Not a pos) (LX ma):=PE.imp (Pt ha) fun σ H Q ⟨μ,S,env,d,S',hS,hE,hm,post⟩=>by
 obtain⟨⟨x,S1⟩,h1,hm⟩:=WI.mp hm
 obtain⟨k,h2,hm⟩:=WI.mp hm
 cases hm
 exact⟨μ,S,env,x,_,hS,hE,h1,fun v H1 μ1 e1 s1 r1=>⟨k,sT s1 r1 h2,post _ H1 μ1 e1 s1 (.bl _)⟩⟩
end
section
variable{X:Cx}{K:W.Frag}{μ μ':Fp}{H H':Hp}{S S':ac}{tg iter:Expr}{pos:Pos}
noncomputable def fK(g:MG)(body:MS)(r:Nat):Nat->Nat->bp->ac->Option pK
 | 0,_,_,_=>none
 | f+1,i,env,S=>match S[r]? with
  | some (.lst xs)=>match xs[i]? with
   | none=>some (.nx env S)
   | some d=>(g d env S).bind fun p=>(body p.1 p.2).bind fun o=>match o with
    | .nx e s=>fK g body r f (i+1) e s
    | .ct e s=>fK g body r f (i+1) e s
    | .bk e s=>some (.nx e s)
    | .rt d s=>some (.rt d s)
  | _=>none
noncomputable def dI(m:ME)(g:MG)(body:MS):MS:=fun env S=>(m env S).bind fun p=>match p.1 with
 | .ref r=>fK g body r 2000 0 env p.2
 | .lst xs=>cj g body xs env p.2
 | .rol xs=>cj g body xs env p.2
 | .tup xs=>cj g body xs env p.2
 | _=>none
noncomputable def mForX(m:ME)(g:MG)(body:MS):MS:=fun env S=>(m env S).bind fun p=>match p.1 with
 | .ref r=>fK g body r 2000 0 env p.2
 | _=>none
def QV{body:List Stmt}{mi:ME}{g:MG}{mb:MS}(hp:PassesOwn (model X.prog X.w) X.A X.env X.xe)(hc:X.calm=true)(hi:DE X iter mi)(hg:DG X tg g)(hb:wF X body mb)
  (hs:∀ x,foldedSetIterable iter X.env x=pure x):DS X (.For tg iter body [] pos) (mForX mi g mb):=PS.imp (Lj hp hc (yR hi) hg hb hs) fun E σ H ⟨μ,S,env,o,hS,hE,hm,post⟩=>by
 obtain⟨⟨d,S1⟩,h1,hm⟩:=WI.mp hm
 dsimp only at hm
 split at hm
 ·rename_i r
  refine⟨μ,S,env,_,S1,hS,hE,h1,fun v H1 μ1 e1 s1 r1=>?_⟩
  cases r1 with
  | @ref a _ ha=>
   have cell:∀ {μ' H' S' xs},Ext μ1 H1 μ' H'->SOk X.K μ' S' H'->S'[r]?=some (.lst xs)->∃ vs,H' a=some (.lst vs)/\Reps X.K μ' H' vs xs:=fun {μ' H' S' xs} e s q=>by
    obtain⟨l,ql,_⟩:=e.pre
    have ha':μ'.cs[r]?=some a:=by rw [ql,WZ (WJ.mp ha).1];exact ha
    exact s.cell r a _ ha' q
   have hq0:∃ vs,oI X.K H1 a vs:=by
    unfold fK at hm
    split at hm
    ·rename_i xs q
     obtain⟨vs,hv,_⟩:=cell s1.ext s1 q
     exact⟨vs,.inl (.inl hv)⟩
    ·cases hm
   refine⟨a,rfl,hq0,?_⟩
   refine⟨fun i n σ H=>∃ μ' S' env' o',Ext μ1 H1 μ' H/\SOk X.K μ' S' H/\EOk X.K μ' H σ env'/\fK g mb r n i env' S'=some o'/\PostS X.K μ' H o' E,
    ⟨2000,μ1,S1,env,o,s1.ext,s1,hE.mono e1,hm,post.ext e1⟩,?_⟩
   rintro i n σ' H' ⟨μ',S',env',o',e',s',r',hl,post'⟩
   cases n with
   | zero=>cases hl
   | succ n=>
    unfold fK at hl
    split at hl
    ·rename_i xs q
     obtain⟨vs,hv,rv⟩:=cell e' s' q
     have hsq:oI X.K H' a vs:=.inl (.inl hv)
     split at hl
     ·rename_i hx
      cases hl
      refine .inl ⟨⟨vs,hsq,?_⟩,post' σ' H' μ' s'.ext s' r'⟩
      rw [rv.length];simpa using hx
     ·rename_i d hx
      obtain⟨w,hw,rw0⟩:=rv.get hx
      refine .inr ⟨⟨vs,w,hsq,hw⟩,fun σ2 H2=>∃ μ2 S2 env2 o2,Ext μ1 H1 μ2 H2/\SOk X.K μ2 S2 H2/\EOk X.K μ2 H2 σ2 env2/\fK g mb r n (i+1) env2 S2=some o2/\PostS X.K μ2 H2 o2 E,
       fun σ2 H2 ⟨μ2,S2,env2,o2,q1,q2,q3,q4,q5⟩=>⟨n,by omega,μ2,S2,env2,o2,q1,q2,q3,q4,q5⟩,fun x H2 y=>?_⟩
      obtain⟨e2,hy⟩:=y
      subst e2
      have ex:x=w:=by have:=hy vs hsq;rw [hw] at this;exact(Xg this).symm
      subst ex
      obtain⟨⟨env3,S3⟩,h3,hl⟩:=WI.mp hl
      obtain⟨o4,h4,hl⟩:=WI.mp hl
      refine⟨μ',S',env',d,env3,S3,s',r',rw0,h3,fun σ3 H3 μ3 e3 s3 r3=>⟨μ3,S3,env3,o4,s3,r3,h4,?_⟩⟩
      have eT:Ext μ1 H1 μ3 H3:=e'.trans e3
      have pT:PostS X.K μ3 H3 o' E:=post'.ext e3
      cases o4 with
      | nx e5 s5=>exact fun σ6 H6 μ6 e6 s6 r6=>⟨μ6,s5,e5,o',eT.trans e6,s6,r6,hl,pT.ext e6⟩
      | ct e5 s5=>exact fun σ6 H6 μ6 e6 s6 r6=>⟨μ6,s5,e5,o',eT.trans e6,s6,r6,hl,pT.ext e6⟩
      | bk e5 s5=>cases hl;exact pT
      | rt d5 s5=>cases hl;exact pT
    ·cases hl
 ·cases hm
def QW{body:List Stmt}{mi:ME}{g:MG}{mb:MS}(hp:PassesOwn (model X.prog X.w) X.A X.env X.xe)(hc:X.calm=true)(hi:DE X iter mi)(hg:DG X tg g)(hb:wF X body mb)
  (hs:∀ x,foldedSetIterable iter X.env x=pure x):DS X (.For tg iter body [] pos) (dI mi g mb):=by
 have hA:=QV (pos:=pos) hp hc hi hg hb hs
 have hB:=NM (pos:=pos) hp hc (FE (tg:=tg) hi) hg hb hs
 intro pins s σ H E I ⟨μ,S,env,o,hS,hE,h,post⟩
 obtain⟨⟨x,S1⟩,h1,h⟩:=WI.mp h
 cases x with
 | ref r=>exact hA pins s σ H E I ⟨μ,S,env,o,hS,hE,by show (mi env S).bind _=_;rw [h1];exact h,post⟩
 | lst xs=>exact hB pins s σ H E I ⟨μ,S,env,o,hS,hE,by show ((mi env S).bind _).bind _=_;rw [h1];exact h,post⟩
 | rol xs=>exact hB pins s σ H E I ⟨μ,S,env,o,hS,hE,by show ((mi env S).bind _).bind _=_;rw [h1];exact h,post⟩
 | tup xs=>exact hB pins s σ H E I ⟨μ,S,env,o,hS,hE,by show ((mi env S).bind _).bind _=_;rw [h1];exact h,post⟩
 | _=>cases h
end
end M
namespace L2
section
variable{X:Cx}{pos:Pos}
def uX:∀ {ns:List Int} {us:List Value},Vals (ns.map V.int) us->∃ xs:List (Int×Tok),us=xs.map (fun p=>Value.int p.1 p.2)/\xs.map (·.1)=ns
 | [],_,.nil=>⟨[],rfl,rfl⟩
 | n::ns,_,.cons ⟨t,e⟩ r=>by
  subst e
  obtain⟨xs,e1,e2⟩:=uX r
  exact⟨(n,t)::xs,by rw [e1];rfl,by rw [WR,e2]⟩
def JR(hc:X.calm=true):CallR X (.builtin "max") (fun xs H Q=>∃ p ns,xs=[.ref p]/\oI X.K H p (ns.map V.int)/\ns≠[]/\∀ m,m∈ns->(∀ a∈ns,a<=m)->Q (.int m) H):=by
 intro pins s σ H xs us Q I r h
 obtain⟨p,ns,rfl,hq,h0,q⟩:=h
 obtain⟨u,rfl,rx⟩:=rN r
 cases rx
 obtain⟨its,rv,pl,hz⟩:=I.list hq
 obtain⟨ps,e1,e2⟩:=uX rv
 have hl:s.heap.IsList p (intItems ps.toArray):=by
  have:=pl.isList
  rw [e1] at this
  have e:intItems ps.toArray=(ps.map (fun p=>Value.int p.1 p.2)).toArray:=by simp [intItems]
  rw [e];exact this
 have hp:0<ps.toArray.size:=by
  rw [WN]
  cases ps with
  | nil=>exact absurd e2.symm h0
  | cons _ _=>simp
 refine max_intList (I.ok.hd hc) hl hp fun v h' tk hv kk=>?_
 obtain⟨g1,g2⟩:=argBest_gt (numAt ps.toArray) (ps.toArray.size - 1)
 generalize argBest (fun i j=>decide (numAt ps.toArray i>numAt ps.toArray j)) (ps.toArray.size - 1)=b at hv g1 g2
 have hb:b<ps.length:=by rw [WN] at g1 hp;omega
 have nb:∀ j (hj:j<ps.length),numAt ps.toArray j=ps[j].1:=fun j hj=>by
  simp [numAt,hj]
 have ev:v=Value.int ps[b].1 ps[b].2:=by
  simp [intItems,hb] at hv
  exact hv.symm
 subst ev
 refine⟨.int ps[b].1,H,I.kept kk,⟨_,rfl⟩,q _ ?_ fun a ha=>?_⟩
 ·rw [<- e2];exact Xk.mpr ⟨_,ZR hb,rfl⟩
 ·rw [<- e2] at ha
  obtain⟨x,hx,rfl⟩:=Xk.mp ha
  obtain⟨j,hj,rfl⟩:=List.mem_iff_getElem.mp hx
  have:=g2 j (by rw [WN];omega)
  rw [nb j hj,nb b hb] at this
  exact this
def tG:∀ (l:List Value) (lo:Nat),(∀ (j:Nat) (v:Value),l[j]?=some v->∃ t,v=.int ((lo+j:Nat):Int) t)->Vals ((List.range' lo l.length).map fun(i:Nat)=>V.int (i:Int)) l
 | [],_,_=>.nil
 | v::r,lo,h=>by
  rw [WT,List.range'_succ,WR]
  obtain⟨t,e⟩:=h 0 v rfl
  refine .cons ⟨t,by simpa using e⟩ (tG r (lo+1) fun j w hw=>?_)
  obtain⟨t,e⟩:=h (j+1) w (by simpa using hw)
  exact⟨t,by rw [e];congr 2;omega⟩
noncomputable def qN(n:Nat):List V:=(List.range n).map fun(i:Nat)=>V.int (i:Int)
def yS{a:Expr}{ta:TA}{p p2 pos pos2:Pos}(hc:X.calm=true)(hm:X.mg "list" = none)(hm2:X.mg "range" = none)(hg:Gl X "list")(hg2:Gl X "range")(ha:PA X [a] ta)(hs:starEach [a] X.env=[(false,eval a X.env)]) :
  PE X (.Call (.Name "list" p) [.Call (.Name "range" p2) [a] [] pos2] [] pos) (fun σ H Q=>ta σ H fun vs H1=>∃ j:Int,vs=[.int j]/\0<=j/\j<=1000/\∀ q,H1 q=none->Q (.ref q) (upd H1 q (.lst (qN j.toNat)))):=by
 intro pins s σ H Q I h
 refine Call_ (lY I hg hm boot_list (XG (aaX ?_) rfl rfl))
 refine Call_ (lY I hg2 hm2 boot_range (XG (dE (ha pos2 pins s σ H _ I h) fun us s1 ⟨vs,H1,I1,r1,q1⟩=>?_) hs rfl))
 obtain⟨j,rfl,j0,j1,q⟩:=q1
 obtain⟨u,rfl,ru⟩:=r1.one
 obtain⟨t,rfl⟩:=ru
 refine call_range_1 (Calls.spliced_nil ?_)
 have I2:Inv X pins σ H1 { s1 with heap:=s1.heap.push { cls:=.type "range",data:=.fields #[.int 0 s1.toks,.int j t,.int 1 (s1.toks+1)] },toks:=s1.toks+1+1 }:=I1.kept fun b o e=>WQ _ e
 have hz:(s1.heap.push { cls:=.type "range",data:=.fields #[.int 0 s1.toks,.int j t,.int 1 (s1.toks+1)] }).objs.size=s1.heap.objs.size+1:=Yd ..
 refine call_list_range (n:=j.toNat) (I1.ok.hd hc) (IsRange.new ..) (small_one (by decide) (by decide) (by omega) (by omega)) (by rw [rangeSize_one];split <;> omega) (by omega) fun h' tk acc c' kk hn it=>?_
 obtain⟨i1,i2⟩:=it
 have fr:H1 (s1.heap.objs.size+1)=none:=I1.hok.fresh (aaO _)
 dsimp only at hn ⊢
 rw [hz] at hn ⊢
 refine⟨.ref _,_,I2.laid (t':=tk) (a:=s1.heap.objs.size+1) (o:=.lst (qN j.toNat)) kk (by show _<=s1.heap.objs.size+1;rw [hz];exact WY _) ⟨?_,acc.toList,c',?_,?_⟩,rfl,q _ fr⟩
 ·simp [qN];rw [ZX];omega
 ·have:=tG acc.toList 0 (fun j v hv=>by
   obtain⟨t,e⟩:=i2 j v (by simpa using hv)
   exact⟨t,by rw [e];congr 1;omega⟩)
  rw [Zf,i1] at this
  rw [qN,List.range_eq_range']
  exact this
 ·simpa using hn
end
end L2
namespace M
open L2
section
variable{X:Cx}{K:W.Frag}{μ μ':Fp}{H H':Hp}{S S':ac}{pos:Pos}
noncomputable def rV(S:ac):D->Option (List D)
 | .lst xs=>some xs
 | .ref r=>match S[r]? with | some (.lst xs)=>some xs | _=>none
 | _=>none
def xu{v:V}{d:D}{ds:List D}(s:SOk K μ S H)(r:Rep K μ H v d)(h:rV S d=some ds):∃ a vs,v=.ref a/\H a=some (.lst vs)/\Reps K μ H vs ds:=by
 cases r with
 | lst hd n rr=>cases h;exact⟨_,_,rfl,hd,rr⟩
 | ref hr=>
  rename_i a i
  unfold rV at h
  dsimp only at h
  cases q:S[i]? with
  | none=>rw [q] at h;cases h
  | some c=>
   rw [q] at h
   have ck:=s.cell _ _ _ hr q
   cases c with
   | lst xs=>cases h;obtain⟨vs,e,rr⟩:=ck;exact⟨a,vs,rfl,e,rr⟩
   | dct ks xs=>cases h
 | _=>cases h
noncomputable def zT:D->Bool
 | .ref _=>true
 | _=>false
noncomputable def aT(S:ac)(x y:D):Option D:=if zT x||zT y then (rV S x).bind fun xs=>(rV S y).bind fun ys=>if xs.length+ys.length<=sizeLine then some (.lst (xs++ys)) else none else Ni S x y
def PN:OpR X (binaryOp .Add) (oC X.K aT):=OpR.imp (OpR.or LD Ul) fun x y H Q ⟨μ,S,dx,dy,dz,hS,h1,h2,h3,post⟩=>by
 unfold aT at h3
 split at h3
 ·obtain⟨xs,e1,h3⟩:=WI.mp h3
  obtain⟨ys,e2,h3⟩:=WI.mp h3
  split at h3
  ·rename_i hl
   cases h3
   obtain⟨a,vs,rfl,q1,r1⟩:=xu hS h1 e1
   obtain⟨b,ws,rfl,q2,r2⟩:=xu hS h2 e2
   have l1:=r1.length
   have l2:=r2.length
   exact .inl ⟨a,b,vs,ws,rfl,rfl,q1,q2,by omega,fun p hp=>post.lst hS hp (r1.append r2)⟩
  ·cases h3
 ·exact .inr ⟨μ,S,dx,dy,dz,hS,h1,h2,h3,post⟩
noncomputable def kM:List Int->Int
 | []=>0
 | [a]=>a
 | a::r=>max a (kM r)
def qU:∀ {ns:List Int},ns≠[]->kM ns∈ns/\∀ a∈ns,a<=kM ns
 | [a],_=>⟨by simp [kM],fun b hb=>by simp at hb;simp [kM,hb]⟩
 | a::b::r,_=>by
  obtain⟨h1,h2⟩:=qU (ns:=b::r) (by simp)
  show max a (kM (b::r))∈_/\∀ c∈_,c<=max a (kM (b::r))
  generalize kM (b::r)=m at h1 h2
  refine⟨?_,fun c hc=>?_⟩
  ·by_cases h:m<=a
   ·rw [Int.max_eq_left h];exact WL
   ·rw [Int.max_eq_right (by omega)];exact WO _ h1
  ·rcases Xq.mp hc with rfl | hc
   ·exact Int.le_max_left _ _
   ·exact aaB (h2 c hc) (Int.le_max_right _ _)
def BG{ns:List Int}{m:Int}(h0:ns≠[])(h1:m∈ns)(h2:∀ a∈ns,a<=m):m=kM ns:=by
 obtain⟨g1,g2⟩:=qU h0
 have:=h2 _ g1
 have:=g2 _ h1
 omega
noncomputable def oX(S:ac):List D->Option D
 | [d]=>(rY S d).bind fun ns=>if ns.isEmpty then none else some (.int (kM ns))
 | ds=>Sx S ds
def CallR.or{f:Value}{r r':List V->Hp->VK->Prop}(h:CallR X f r)(h':CallR X f r'):CallR X f (fun xs H Q=>r xs H Q\/r' xs H Q):=by
 intro pins s σ H xs us Q I rv q
 rcases q with q | q
 ·exact h pins s σ H xs us Q I rv q
 ·exact h' pins s σ H xs us Q I rv q
def JV(hc:X.calm=true):CallR X (.builtin "max") (Lb X.K (aP oX)):=CallR.imp (CallR.or (JR hc) (JW hc)) fun xs H Q ⟨μ,S,ds,d,S',hS,hr,hm,post⟩=>by
 obtain⟨rfl,hm'⟩:=eZ hm
 match ds,hr,hm,hm' with
 | [d0],hr,hm,hm'=>
  obtain⟨ns,h1,h2⟩:=WI.mp hm'
  split at h2
  ·cases h2
  ·rename_i h0
   cases h2
   have h0:ns≠[]:=fun z=>h0 (by rw [z];rfl)
   obtain⟨v,rfl,rv⟩:=hr.one
   obtain⟨b,rfl,hq,h64⟩:=Fe hS rv h1
   refine .inl ⟨b,ns,rfl,hq,h0,fun m m1 m2=>?_⟩
   rw [BG h0 m1 m2]
   exact post.here hS (.int _)
 | [],hr,hm,hm'=>cases hm'
 | _::_::_,hr,hm,hm'=>exact .inr ⟨μ,_,_,d,_,hS,hr,hm,post⟩
noncomputable def dY(ms:MA):ME:=fun env S=>(ms env S).bind fun p=>match p.1 with | [.int j]=>if 0<=j/\j<=1000 then some (.lst (cD 0 j.toNat),p.2) else none | _=>none
def Ea(n:Nat):Reps K μ H (qN n) (cD 0 n):=by
 unfold qN cD
 generalize List.range n=l
 induction l with
 | nil=>exact .nil
 | cons a r ih=>rw [WR,WR,aaA];exact .cons (.int _) ih
def Ob{a:Expr}{ms:MA}{p p2 pos2:Pos}(hc:X.calm=true)(hm:X.mg "list" = none)(hm2:X.mg "range" = none)(hg:Gl X "list")(hg2:Gl X "range")(ha:DA X [a] ms)(hs:starEach [a] X.env=[(false,eval a X.env)]) :
  DE X (.Call (.Name "list" p) [.Call (.Name "range" p2) [a] [] pos2] [] pos) (dY ms):=PE.imp (yS hc hm hm2 hg hg2 ha hs) fun σ H Q ⟨μ,S,env,d,S',hS,hE,h,post⟩=>by
 obtain⟨⟨ds,S1⟩,h1,h⟩:=WI.mp h
 refine⟨μ,S,env,ds,S1,hS,hE,h1,fun vs H1 μ1 e1 s1 r1=>?_⟩
 dsimp only at h
 split at h
 ·rename_i j
  split at h
  ·rename_i hj
   cases h
   obtain⟨v,rfl,rv⟩:=r1.one
   exact⟨j,by rw [rv.int_inv],hj.1,hj.2,fun q hq=>(post.ext e1).lst s1 hq (Ea _)⟩
  ·cases h
 ·cases h
noncomputable def gL(t:MT)(body:MS):Nat->bp->ac->Option pK
 | 0,_,_=>none
 | f+1,env,S=>(t env S).bind fun p=>if p.1=true then (body env p.2).bind fun o=>match o with
   | .nx e s=>gL t body f e s
   | .ct e s=>gL t body f e s
   | .bk e s=>some (.nx e s)
   | .rt d s=>some (.rt d s)
  else some (.nx env p.2)
noncomputable def dU(t:MT)(body:MS):MS:=gL t body 5000
def NL{c:Expr}{body:List Stmt}{t:MT}{mb:MS}(hp:PassesOwn (model X.prog X.w) X.A X.env X.xe)(hc:DT X c t)(hb:wF X body mb):DS X (.While c body [] pos) (dU t mb):=PS.imp (Lg hp hc hb) fun E σ H ⟨μ,S,env,o,hS,hE,hm,post⟩=>by
 refine⟨fun n σ' H'=>∃ μ' S' env' o',Ext μ H μ' H'/\SOk X.K μ' S' H'/\EOk X.K μ' H' σ' env'/\gL t mb n env' S'=some o'/\PostS X.K μ' H' o' E,⟨5000,μ,S,env,o,hS.ext,hS,hE,hm,post⟩,?_⟩
 rintro n σ' H' ⟨μ',S',env',o',e',s',r',hl,post'⟩
 cases n with
 | zero=>cases hl
 | succ n=>
  obtain⟨⟨b,S1⟩,h1,hl⟩:=WI.mp hl
  refine⟨μ',S',env',b,S1,s',r',h1,fun H2 μ2 e2 s2=>?_⟩
  have eT:Ext μ H μ2 H2:=e'.trans e2
  have pT:PostS X.K μ2 H2 o' E:=post'.ext e2
  cases b with
  | false=>cases hl;dsimp only;rw [if_neg Bool.false_ne_true];exact pT σ' H2 μ2 s2.ext s2 (r'.mono e2)
  | true=>
   dsimp only
   rw [Xc rfl]
   obtain⟨o4,h4,hl⟩:=WI.mp hl
   refine⟨fun σ2 H2=>∃ μ2 S2 env2 o2,Ext μ H μ2 H2/\SOk X.K μ2 S2 H2/\EOk X.K μ2 H2 σ2 env2/\gL t mb n env2 S2=some o2/\PostS X.K μ2 H2 o2 E,fun σ2 H2 ⟨μ2,S2,env2,o2,q1,q2,q3,q4,q5⟩=>⟨n,by omega,μ2,S2,env2,o2,q1,q2,q3,q4,q5⟩,?_⟩
   refine⟨μ2,S1,env',o4,s2,r'.mono e2,h4,?_⟩
   cases o4 with
   | nx e5 s5=>exact fun σ6 H6 μ6 e6 s6 r6=>⟨μ6,s5,e5,o',eT.trans e6,s6,r6,hl,pT.ext e6⟩
   | ct e5 s5=>exact fun σ6 H6 μ6 e6 s6 r6=>⟨μ6,s5,e5,o',eT.trans e6,s6,r6,hl,pT.ext e6⟩
   | bk e5 s5=>cases hl;exact pT
   | rt d5 s5=>cases hl;exact pT
end
inductive TabRel:List (bG×Value)->List (bG×D)->Prop
 | nil:TabRel [] []
 | cons {k:bG} {v:Value} {d:D} {vs:List (bG×Value)} {ds:List (bG×D)} (x:V) (h:RelV x v) (r:∀ K μ H,Rep K μ H x d) (t:TabRel vs ds):TabRel ((k,v)::vs) ((k,d)::ds)
def TabRel.val{k:bG}:∀ {vs ds},TabRel vs ds->∀ {d},jG ds k=some d->∃ v x,valueAt vs k=some v/\RelV x v/\∀ K μ H,Rep K μ H x d
 | _,_,.nil,d,h=>by cases h
 | _,_,.cons (k:=k') (v:=v) x h r t,d,q=>by
  unfold jG at q
  split at q
  ·rename_i e;cases q;refine⟨v,x,?_,h,r⟩;simp only at e;simp [valueAt,e]
  ·rename_i e
   obtain⟨v',x',h1,h2,h3⟩:=TabRel.val t q
   refine⟨v',x',?_,h2,h3⟩
   simp only at e
   rw [<- h1]
   simp [valueAt,e]
structure vJ(w:World)(K:W.Frag)(mg:Str->Option Value)(x:Str)(l:List (bG×D)):Prop where
 ex:∃ (a:Addr) (vs:List (bG×Value)),mg x=some (.ref a)/\(∀ (P:Program) (h:Heap),K.In h->h.DictOf (cf P w) a vs)/\TabRel vs l
section
variable{X:Cx}
def Mw{a:Addr}{vs:List (bG×Value)}(hd:∀ (P:Program) (h:Heap),X.K.In h->h.DictOf (cf P X.w) a vs):IxR X (fun x y H Q=>∃ k v z,x=.ref a/\y=kV k/\valueAt vs k=some v/\RelV z v/\Q z H):=by
 intro value slice pins s σ H x y v u Q I rx ry h hs
 obtain⟨k,v',z,rfl,rfl,hv,rz,q⟩:=h
 cases rx
 have dd:=hd X.prog s.heap I.kIn
 exact tail_any dd.typeIs F.slot_dict_getitem.lookup (wpAny_getItem_of (xy ry) dd.mapOf hv ⟨z,H,I.tok _,rz,q⟩) hs
noncomputable def dq(l:List (bG×D))(mi:ME):ME:=fun env S=>(mi env S).bind fun p=>(fR p.1).bind fun k=>(jG l k).bind fun d=>some (d,p.2)
def NX{x:Str}{l:List (bG×D)}{i:Expr}{mi:ME}{p pos:Pos}(g:vJ X.w X.K X.mg x l)(hg:Gl X x)(hx:(x == ("__debug__":Str))=false)(hi:DE X i mi)(hs:oA i:=by intro _ _;rfl):DE X (.Subscript (.Name x p) i pos) (dq l mi):=by
 obtain⟨a,vs,h1,h2,h3⟩:=g.ex
 refine PE.imp (Lu (Mw h2) (yT (v:=.ref a) hg h1 rfl hx) hi hs) fun σ H Q ⟨μ,S,env,d,S',hS,hE,hm,post⟩=>?_
 obtain⟨⟨y,S1⟩,e1,hm⟩:=WI.mp hm
 obtain⟨k,e2,hm⟩:=WI.mp hm
 obtain⟨d',e3,hm⟩:=WI.mp hm
 cases hm
 obtain⟨v,z,v1,v2,v3⟩:=h3.val e3
 exact⟨μ,S,env,y,_,hS,hE,e1,fun u H1 μ1 ex s1 r1=>⟨k,v,z,rfl,oa e2 r1,v1,v2,post _ H1 μ1 ex s1 (v3 _ _ _)⟩⟩
end
def AJ{w:World}{K:W.Frag}{a:Addr}{es:Array DictEntry}{n:Nat}(hl:K.lookup a=some ⟨.type "dict",none,.dict es n,#[]⟩){vs:List (bG×Value)}(hp:∀ P,Pairs (cf P w) es.toList vs)(hk:∀ P,KeysOf (cf P w) es)(hn:(vs.map (·.1)).Nodup) :
  ∀ (P:Program) (h:Heap),K.In h->h.DictOf (cf P w) a vs:=fun P h KX=>⟨_,es,n,KX a _ hl,⟨rfl,rfl,rfl⟩,rfl,hk P,hp P,hn⟩
inductive TabLit(w:World):List DictEntry->List (bG×Value)->Prop
 | nil:TabLit w [] []
 | cons {x:Str} {t:Tok} {v:Value} {es:List DictEntry} {vs:List (bG×Value)} (h:TabLit w es vs):TabLit w (⟨PyData.keyHash w.params x,.str x t,v⟩::es) ((.inr x,v)::vs)
def TabLit.pairs{w:World}{P:Program}:∀ {es vs},TabLit w es vs->Pairs (cf P w) es vs
 | _,_,.nil=>.nil
 | _,_,.cons (x:=x) (t:=t) h=>.cons (xy (k:=.inr x) (show RelV (V.str x) (Value.str x t) from ⟨t,rfl⟩)) rfl h.pairs
def TabLit.keys{w:World}{P:Program}:∀ {es vs},TabLit w es vs->∀ e∈es,∃ k,(cf P w).is k e.key=true/\e.hash=(cf P w).hash k
 | _,_,.nil,e,h=>by simp at h
 | _,_,.cons (x:=x) (t:=t) h,e,he=>by
  rcases Xq.mp he with rfl | he
  ·exact⟨.inr x,xy (k:=.inr x) (show RelV (V.str x) (Value.str x t) from ⟨t,rfl⟩),rfl⟩
  ·exact h.keys e he
def Kw{w:World}{K:W.Frag}{mg:Str->Option Value}{x:Str}{a:Addr}{es:List DictEntry}{n:Nat}{vs:List (bG×Value)}{l:List (bG×D)}(hg:mg x=some (.ref a))(hl:K.lookup a=some ⟨.type "dict",none,.dict es.toArray n,#[]⟩)(t:TabLit w es vs)(hn:(vs.map (·.1)).Nodup)(r:TabRel vs l):vJ w K mg x l:=
 ⟨a,vs,hg,AJ hl (fun P=>by simpa using t.pairs) (fun P e he=>t.keys e (by simpa using he)) hn,r⟩
section
variable{X:Cx}{K:W.Frag}{μ:Fp}{H:Hp}{S:ac}
noncomputable def nB:MF:=fun o ds S=>match ds with
 | [x]=>if sJ S o=true then (ii S o).bind fun ys=>if cY 40 x=true/\ys.all (cY 39)=true/\ys.length<=sizeLine then (ys.findIdx? fun d=>jm d x).bind fun j=>some (.int (j:Nat),S) else none else none
 | _=>none
def vv{pins:List (Addr×Obj)}{σ:L2.St}{s:Shared}(I:Inv X pins σ H s){x:D}:∀ {vs:List V} {us:List Value} {ds:List D},Vals vs us->Reps X.K μ H vs ds->(∀ d∈ds,cY 39 d=true) ->
  us.map (fh X.K μ H x)=ds.map fun d=>jm d x
 | _,_,_,.nil,.nil,_=>rfl
 | _,_,_,.cons rv tv,.cons r t,ok=>by
  rw [WR,WR,qz I rv r (ok _ WL),vv I tv t fun d m=>ok d (WO _ m)]
def LK(hu:X.A.units+64<cLine):MtR X "list.index" (OB X.K nB):=by
 intro pins s σ H x vs v us Q I rx rv h
 obtain⟨μ,S,dx,ds,d,S',hS,r1,r2,h,post⟩:=h
 unfold nB at h
 split at h
 ·rename_i y
  split at h
  ·rename_i hl
   obtain⟨a,ws,es,rfl,hq,hse,re⟩:=qh hS r1 hl
   rw [hse] at h
   dsimp only [Option.bind_some] at h
   split at h
   ·rename_i hk
    obtain⟨j,hj,h⟩:=WI.mp h
    cases h
    cases rx
    obtain⟨w,rfl,rw0⟩:=r2.one
    obtain⟨u,rfl,ru⟩:=rv.one
    obtain⟨its,rvs,⟨⟨cls,dd,data,sl⟩,n,e,hc,hdd,hd⟩,hz⟩:=I.list hq
    simp only at hc hdd hd
    subst hc hdd hd
    have ok:=Xd.mp hk.2.1
    have em:=vv (x:=y) I rvs re ok
    have ln:its.length=es.length:=by rw [<- re.length,rvs.length]
    obtain⟨hj1,hj2,hj3⟩:=ZE.mp hj
    have at_:∀ (m:Nat) (h1:m<its.length) (h2:m<es.length),fh X.K μ H y its[m]=jm es[m] y:=fun m h1 h2=>by
     have:(its.map (fh X.K μ H y))[m]?=(es.map fun d=>jm d y)[m]?:=by rw [em]
     rw [XS,XS,WS h1,WS h2] at this
     simpa using this
    have sz:sizeLine<2 ^ 63 - 1:=by decide
    refine YJ F.slot_list_index ⟨_,e,rfl⟩ F.entry_list_index (F.args_list_index_2 _ _) (SeqAt.list_indexAt a its.toArray n none sl u (fh X.K μ H y) j (by simpa [ln] using hj1) (by have:=hk.2.2;omega) ?_ ?_) ⟨e,fun w' hw'=>?_,?_⟩
    ·rw [aaG,at_ j (by omega) hj1];exact hj2
    ·intro m hm hmj
     rw [aaG,at_ m (by simpa using hm) (by omega)]
     have:=hj3 m hmj
     simpa using this
    ·exact gx I (by show X.A.units+1+40<cLine;omega) ru rw0 hk.1 rvs re ok w' (by simpa using hw')
    ·exact⟨.int _,H,I.tok _,⟨_,rfl⟩,post.here hS (.int _)⟩
   ·cases h
  ·cases h
 ·cases h
noncomputable def fG:MF:=fun o ds S=>match o,ds with
 | .ref r,[.lst ys]=>(match S[r]? with | some (.lst xs)=>if xs.length+ys.length<=sizeLine then some (.non,S.set r (.lst (xs++ys))) else none | _=>none)
 | .ref r,[.tup ys]=>(match S[r]? with | some (.lst xs)=>if xs.length+ys.length<=sizeLine then some (.non,S.set r (.lst (xs++ys))) else none | _=>none)
 | _,_=>none
def QJ{l b:Addr}{items items2:Array Value}{n n2:Nat}{ob:Obj}(hc:ob.cls=.type "tuple")(hd:ob.data=.seq items2 n2)(h0:¬(!items.isEmpty&&Builtin.List.listTooLong (items.size+items2.size))=true)(h1:items.size<=sizeLine)(h2:(items++items2).size<=sizeLine+1) :
  Meets (Builtin.«list.extend» ⟨[.ref l,.ref b],[]⟩) (fun _ R s=>s.heap.get? l=some { cls:=.type "list",data:=.seq items n }/\s.heap.get? b=some ob/\R (.ok (.ret .none)) { s with heap:=s.heap.update l (Obj.mapSeq (·++items2)) }):=
 .of_wp fun prog w A R s ⟨hl,hb,h⟩=>by
  obtain⟨cls,dict,data,slots⟩:=ob
  simp only at hc hd
  subst hc hd
  have f2:=PyProof.Rows.sub_tuple_tuple
  have f4:=PyProof.Rows.sub_tuple_list
  cases s
  wp_walk using (Zu hl rfl (hz:=h1) (_hz':=h2)),AutoSeq1.wpAny_loadPart' hl,AutoSeq1.wpAny_loadPart' hb
  exact⟨_,rfl,h⟩
def PZ:MtR X "list.extend" (fun x vs H Q=>∃ l b xs zs,x=.ref l/\vs=[.ref b]/\H l=some (.lst xs)/\mE X.K H b zs/\xs.length+zs.length<=sizeLine/\Q .non (upd H l (.lst (xs++zs)))):=by
 intro pins s σ H x vs v us Q I rx rv ⟨l,b,xs,zs,e1,e2,hH,hB,hz,q⟩
 subst e1 e2
 cases rx
 obtain⟨u,rfl,ru⟩:=rv.one
 cases ru
 obtain⟨z,its,n,r,hl,e⟩:=I.lstM hH
 obtain⟨its2,r2,⟨ob,e2,hc,n2,hd⟩,hl2⟩:=I.tuple hB
 have k1:=r.length
 have k2:=r2.length
 have hsz:its.toArray.size+its2.toArray.size<=sizeLine:=by rw [WN,WN];omega
 refine YJ ZG ⟨_,e,rfl⟩ aaP (aaH _ _)
  (QJ hc hd (by rw [ui hsz,Yn];exact Bool.false_ne_true) (by rw [WN];omega) (by rw [Array.size_append];omega)) ⟨e,e2,?_⟩
 refine⟨.non,_,I.lset (its':=its++its2) hH e (by simp) (r.append r2) ?_,rfl,q⟩
 rw [WX]
 omega
def Iu:MtR X "list.extend" (OB X.K fG):=by
 intro pins s σ H x vs v us Q I rx rv ⟨μ,S,dx,ds,d,S',hS,r1,r2,h,post⟩
 have go:∀ r xs ys,dx=.ref r->S[r]?=some (.lst xs)->(if xs.length+ys.length<=sizeLine then some (D.non,S.set r (.lst (xs++ys))) else none)=some (d,S')->∀ b zs,vs=[.ref b]->Reps X.K μ H zs ys->∃ a ws,x=.ref a/\H a=some (.lst ws)/\ws.length+zs.length<=sizeLine/\Q .non (upd H a (.lst (ws++zs))):=fun r xs ys e q h0 b zs ev rz=>by
  subst e
  split at h0
  ·rename_i hz
   cases h0
   cases r1 with
   | @ref a _ h'=>
    obtain⟨ws,hw,rw'⟩:=hS.cell r a _ h' q
    obtain⟨e,s'⟩:=hS.write h' hw (rw'.append rz)
    exact⟨a,ws,rfl,hw,by rw [rw'.length,rz.length];exact hz,post _ _ μ e s' .non⟩
  ·cases h0
 unfold fG at h
 split at h
 ·rename_i r ys
  obtain⟨w,rfl,rw0⟩:=r2.one
  split at h
  ·rename_i xs q
   cases rw0 with
   | @lst b zs _ hb nb rz=>
    obtain⟨a,ws,h1,h2,h3,h4⟩:=go r xs ys rfl q h b zs rfl rz
    exact Ir pins s σ H x _ v us Q I rx rv ⟨a,b,ws,zs,h1,rfl,h2,hb,h3,h4⟩
  ·cases h
 ·rename_i r ys
  obtain⟨w,rfl,rw0⟩:=r2.one
  split at h
  ·rename_i xs q
   obtain⟨b,zs,e,hb,rz⟩:=rw0.sqT
   subst e
   obtain⟨a,ws,h1,h2,h3,h4⟩:=go r xs ys rfl q h b zs rfl rz
   exact PZ pins s σ H x _ v us Q I rx rv ⟨a,b,ws,zs,h1,rfl,h2,hb,h3,h4⟩
  ·cases h
 ·cases h
def vI{o:Expr}{name:Str}{env:Env}{w:Sem Value}(h:(match o with | .Call _ _ _ _=>false | _=>true)=true):attributeBase o name env w=w:=by
 cases o <;> first | rfl | cases h
end
section
variable{X:Cx}{K:W.Frag}{μ μ':Fp}{H H':Hp}{S S':ac}{tg iter:Expr}{pos:Pos}
noncomputable def fF(g:MG)(t:MT)(e:ME)(r:Nat):Nat->Nat->bp->ac->Option (List D×ac)
 | 0,_,_,_=>none
 | f+1,i,env,S=>match S[r]? with
  | some (.lst xs)=>match xs[i]? with
   | none=>some ([],S)
   | some d=>(g d env S).bind fun p=>(t p.1 p.2).bind fun b=>if b.1=true then (e p.1 b.2).bind fun y=>(fF g t e r f (i+1) p.1 y.2).bind fun z=>some (y.1::z.1,z.2) else fF g t e r f (i+1) p.1 b.2
  | _=>none
noncomputable def cR(m:ME)(g:MG)(t:MT)(e:ME)(cap:List (Option Nat)):ME:=fun env S=>(m env S).bind fun p=>match p.1 with
 | .ref r=>(fF g t e r 2000 0 (lD cap env) p.2).bind fun z=>some (.lst z.1,z.2)
 | _=>none
def wL{mi:ME}{g:MG}{t:MT}{e:ME}{cap:List (Option Nat)}{σ:L2.St}{Q:VK}(h:tM K (cR mi g t e cap) σ H Q):FY (Sq K (tM K mi)) (RR K g) (DC K t) (tM K e) cap σ H Q:=by
 obtain⟨μ,S,env,d,S',hS,hE,hm,post⟩:=h
 obtain⟨⟨d0,S1⟩,h1,hm⟩:=WI.mp hm
 dsimp only at hm
 split at hm
 case h_2=>cases hm
 rename_i r
 obtain⟨⟨ys,S2⟩,h2,hm⟩:=WI.mp hm
 cases hm
 refine⟨μ,S,env,_,S1,hS,hE,h1,fun v H1 μ1 e1 s1 r1=>?_⟩
 cases r1 with
 | @ref a _ ha=>
  have hq0:∃ vs,oI K H1 a vs:=by
   unfold fF at h2
   split at h2
   ·rename_i xs q
    obtain⟨vs,hv,_⟩:=s1.cell r a _ ha q
    exact⟨vs,.inl (.inl hv)⟩
   ·cases h2
  refine⟨a,rfl,hq0,fun p hp=>?_⟩
  have hpn:=s1.notMem hp
  refine⟨fun i n σ' H'=>n+i=2000/\∃ (cs:List Addr) (S':ac) (env':bp) (vs:List V) (zs rest:List D),ExtP μ1 H1 ⟨cs,p::μ1.fb⟩ H'/\SOk K ⟨cs,p::μ1.fb⟩ S' H'/\EOk K ⟨cs,p::μ1.fb⟩ H' σ' env'/\H' p=some (.lst vs) /\
    Reps K ⟨cs,p::μ1.fb⟩ H' vs zs/\fF g t e r n i env' S'=some (rest,S2)/\ys=zs++rest/\vs.length<=i,⟨2000,rfl,μ1.cs,S1,lD cap env,[],[],ys,?_,s1.more hp,?_,bx,.nil,h2,rfl,WY _⟩,?_⟩
  ·exact⟨⟨[p],rfl,fun a z=>by rw [Xp.mp z];exact hp⟩,⟨[],by simp,fun _ z=>by simp at z⟩,fun a o' n h=>by rw [bn (cx h hp)];exact h,fun a ha=>by
    by_cases z:a=p
    ·subst z;rw [bx];simp
    ·rw [bn z];exact s1.dom a ha⟩
  ·exact((hE.mono e1).block cap).more hp
  rintro i n σ' H' ⟨hn,cs,S',env',vs,zs,rest,eP,s',r',hpv,rz,hl,rfl,hvl⟩
  have pcs:p ∉ cs:=fun z=>s'.disj p WL z
  cases n with
  | zero=>cases hl
  | succ n=>
   unfold fF at hl
   split at hl
   ·rename_i xs q
    have ha':(⟨cs,p::μ1.fb⟩:Fp).cs[r]?=some a:=eP.ix ha
    obtain⟨ws,hv,rv⟩:=s'.cell r a _ ha' q
    have hsq:oI K H' a ws:=.inl (.inl hv)
    split at hl
    ·rename_i hx
     cases hl
     have eF:Ext μ1 H1 ⟨cs,μ1.fb⟩ H':=⟨rfl,eP.pre,eP.keep,eP.dom⟩
     rw [Xr] at post
     exact .inl ⟨⟨ws,hsq,by rw [rv.length];simpa using hx⟩,post _ H' ⟨cs,μ1.fb⟩ (e1.trans eF) s'.less (.lst hpv ⟨fun z=>s'.disj p WL z,hpn.2⟩ rz.less)⟩
    ·rename_i dd hx
     obtain⟨w,hw,rw0⟩:=rv.get hx
     refine .inr ⟨⟨ws,w,hsq,hw⟩,fun x H2 y=>?_⟩
     obtain⟨e2,hy⟩:=y
     subst e2
     have ex:x=w:=by have:=hy ws hsq;rw [hw] at this;exact(Xg this).symm
     subst ex
     obtain⟨⟨env3,S3⟩,h3,hl⟩:=WI.mp hl
     obtain⟨⟨b,S4⟩,h4,hl⟩:=WI.mp hl
     refine⟨_,S',env',dd,env3,S3,s',r',rw0,h3,fun σ3 H3 μ3 e3 s3 r3=>⟨μ3,S3,env3,b,S4,s3,r3,h4,fun H4 μ4 e4 s4=>?_⟩⟩
     have eA:=e3.trans e4
     cases b with
     | false=>
      rw [if_neg Bool.false_ne_true] at hl
      dsimp only
      rw [if_neg Bool.false_ne_true]
      obtain⟨cs4,fb4⟩:=μ4
      have hfb:fb4=p::μ1.fb:=eA.fb
      subst hfb
      exact⟨n,Nat.lt_succ_self _,by omega,cs4,S4,env3,vs,zs,rest,eP.then eA,s4,r3.mono e4,(eA.keeps hpv pcs).1,rz.mono eA,hl,rfl,by omega⟩
     | true=>
      rw [Xc rfl] at hl
      dsimp only
      rw [Xc rfl]
      obtain⟨⟨dv,S5⟩,h5,hl⟩:=WI.mp hl
      obtain⟨⟨rs,S6⟩,h6,hl⟩:=WI.mp hl
      cases hl
      refine⟨μ4,S4,env3,dv,S5,s4,r3.mono e4,h5,fun v H5 μ5 e5 s5 r5=>?_⟩
      have eB:=eA.trans e5
      obtain⟨cs5,fb5⟩:=μ5
      have hfb:fb5=p::μ1.fb:=eB.fb
      subst hfb
      have sz:2000<sizeLine:=by decide
      exact⟨vs,(eB.keeps hpv pcs).1,by omega,n,Nat.lt_succ_self _,by omega,cs5,S5,env3,vs++[v],zs++[dv],rs,(eP.then eB).chg hp,s5.chg WL,((r3.mono e4).mono e5).chg WL,bx,Reps.chg WL ((rz.mono eB).append (.cons r5 .nil)),h6,by simp,by rw [WX,XQ];omega⟩
   ·cases hl
def Od{elt:Expr}{ifs:List Expr}{scope:Scope}{N':List Str}{cap:List (Option Nat)}{mi:ME}{g:MG}{t:MT}{me:ME}
  (hc:X.calm=true) (B:BlockOk X N' scope cap) (hi:DE X iter mi) (hg:∀ C s H fp,DG (oq X N' scope C s H fp) tg g) (ht:∀ C s H fp,OE (oq X N' scope C s H fp) ifs t) (he:∀ C s H fp,DE (oq X N' scope C s H fp) elt me)
  (hs:∀ x,foldedSetIterable iter X.env x=pure x:=by intro _;rfl):DE X (.ListComp elt [⟨tg,iter,ifs,0⟩] scope pos) (cR mi g t me cap):=
 PE.imp (Ge (g:=RR X.K g) (tt:=DC X.K t) (te:=tM X.K me) hc B (yR hi) hg ht he hs) fun _ _ _ h=>wL h
def CW{elt:Expr}{ifs:List Expr}{scope:Scope}{spos py:Pos}{N':List Str}{cap:List (Option Nat)}{mi:ME}{g:MG}{t:MT}{me:ME}{y:Str}{i:Nat}
  (hN:X.N.Nodup) (hy:X.N[i]?=some y) (hx:Ke X.env.scope y)
  (hc:X.calm=true) (B:BlockOk X N' scope cap) (hi:DE X iter mi) (hg:∀ C s H fp,DG (oq X N' scope C s H fp) tg g) (ht:∀ C s H fp,OE (oq X N' scope C s H fp) ifs t) (he:∀ C s H fp,DE (oq X N' scope C s H fp) elt me)
  (hsw:swapsWith (.ListComp elt [⟨tg,iter,ifs,0⟩] scope pos) (some (.Name y py)) spos.line X.env=pure true:=by rfl)
  (hs:∀ x,foldedSetIterable iter X.env x=pure x:=by intro _;rfl) (hf:X.fn y=true\/X.env.scope.names.lookup y=some .local:=by first | exact .inl rfl | exact .inr rfl | assumption) :
  DS X (.Assign [.Name y py] (.ListComp elt [⟨tg,iter,ifs,0⟩] scope pos) spos) (aI (cR mi g t me cap) (ah i)):=
 PS.imp (tV (g:=RR X.K g) (tt:=DC X.K t) (te:=tM X.K me) hN hy hx hc B (yR hi) hg ht he hsw hs hf) fun E σ H h=>by
  obtain⟨μ,S,env,o,hS,hE,hm,post⟩:=h
  obtain⟨⟨d,S1⟩,h1,hm⟩:=WI.mp hm
  cases hm
  exact wL ⟨μ,S,env,d,S1,hS,hE,h1,fun v H1 μ1 e1 s1 r1=>post _ H1 μ1 e1 s1 ((hE.mono e1).set r1 i)⟩
end
end M
namespace L2
section
variable{X:Cx}
end
end L2
namespace M
open L2
section
variable{X:Cx}{K:W.Frag}{μ μ':Fp}{H H':Hp}{S:ac}
noncomputable def fAddS(S:ac)(x y:D):Option D:=match x,y with
 | .str a,.str b=>if a.length+b.length<=sizeLine then some (.str (a++b)) else none
 | _,_=>none
noncomputable def fStr1(S:ac)(ds:List D):Option D:=match ds with
 | [.int i]=>if i.natAbs.log2<1920 then some (.str (toString i)) else none
 | [.non]=>some (.str "None")
 | _=>none
noncomputable def fmtD:D->Option Str
 | .str y=>if y.length<=sizeLine then some y else none
 | .int i=>if i.natAbs.log2<1920 then some (toString i) else none
 | _=>none
noncomputable def Uy:List ME->Str->ME
 | [],out=>fun _ S=>some (.str out,S)
 | m::r,out=>fun env S=>(m env S).bind fun p=>match p.1 with
  | .str y=>if (out++y).length<=sizeLine then Uy r (out++y) env p.2 else none
  | _=>none
inductive DEs(X:Cx):List Expr->List ME->Prop
 | nil:DEs X [] []
 | cons {e:Expr} {m:ME} {es:List Expr} {ms:List ME} (h:DE X e m) (t:DEs X es ms):DEs X (e::es) (m::ms)
noncomputable def Ga:List D->Option (List Str)
 | []=>some []
 | .str x::r=>(Ga r).bind fun xs=>some (x::xs)
 | _::_=>none
noncomputable def fJoin:MF:=fun o ds S=>match o,ds with
 | .str sep,[y]=>(ii S y).bind fun xs=>(Ga xs).bind fun ys=>if (ys.map (·.length)).sum+ys.length * sep.length<=16777216 then some (.str (Str.join sep ys),S) else none
 | _,_=>none
noncomputable def isStrB:D->Bool
 | .str _=>true
 | _=>false
end
end M
namespace HT
section
variable{prog:Program}{w:World}{A:Around}{E:Value->Shared->Prop}{s:Shared}
end
end HT
namespace L2
section
variable{X:Cx}
end
end L2
namespace M
open L2
section
variable{X:Cx}{K:W.Frag}{μ μ':Fp}{H H':Hp}{S:ac}
end
end M
namespace HT
section
variable{prog:Program}{w:World}{A:Around}{E:Value->Shared->Prop}{s:Shared}
end
end HT
namespace L2
section
variable{X:Cx}
end
end L2
namespace M
open L2
section
variable{X:Cx}{K:W.Frag}{μ:Fp}{H:Hp}{S:ac}
end
end M
namespace HT
open SeqAt
end HT
namespace M
open L2
section
variable{X:Cx}{K:W.Frag}{μ:Fp}{H:Hp}{S:ac}
end
end M
namespace L2
end L2
namespace M
open L2
section
variable{X:Cx}{K:W.Frag}{H:Hp}{pos:Pos}
inductive iMs(K:W.Frag)(m:MA)(σ:L2.St)(H:Hp)(R:It->Hp->Prop):Prop
 | mk (μ:Fp) (S:ac) (env:bp) (xs:List D) (S':ac) (hS:SOk K μ S H) (hE:EOk K μ H σ env) (h:m env S=some (xs,S')) (post:∀ J H' μ',Ext μ H μ' H'->SOk K μ' S' H'->(∀ μ2 H2,FU K μ2 H2 J xs)->R J H')
noncomputable def EL(g:MG)(t:MT)(e:ME):List D->bp->ac->Option (List D×bp×ac)
 | [],env,S=>some ([],env,S)
 | d::ds,env,S=>(g d env S).bind fun p=>(t p.1 p.2).bind fun b=>if b.1=true then (e p.1 b.2).bind fun q=>(EL g t e ds p.1 q.2).bind fun r=>some (q.1::r.1,r.2) else EL g t e ds p.1 b.2
noncomputable def Md(g:MG)(t:MT)(mi2:MA)(g2:MG)(t2:MT)(e:ME):List D->bp->ac->Option (List D×ac)
 | [],_,S=>some ([],S)
 | d::ds,env,S=>(g d env S).bind fun p=>(t p.1 p.2).bind fun b=>if b.1=true then (mi2 p.1 b.2).bind fun q=>(EL g2 t2 e q.1 p.1 q.2).bind fun r=>(Md g t mi2 g2 t2 e ds r.2.1 r.2.2).bind fun z=>some (r.1++z.1,z.2) else Md g t mi2 g2 t2 e ds p.1 b.2
variable{elt tg iter tg2 iter2:Expr}{ifs ifs2:List Expr}{scope:Scope}{spos py:Pos}{N':List Str}{cap:List (Option Nat)}{mi mi2:MA}{g g2:MG}{t t2:MT}{me:ME}{y:Str}{i:Nat}
end
structure RN(P:Program)(w:World)(K:W.Frag)(mg:Str->Option Value)(base:Heap)(k:Nat)(a:Addr)(n:Nat)(f:List D->ac->Option (D×ac)):Prop where
 ex:∃ (fd:FuncData) (ps:List Str),ps.length=n/\FnOk P w K mg base Hq k a fd ps (KG K n f)/\W.keepIn K (.ref a)=true/\Binds K fd ps []
def Fn.at{P:Program}{w:World}{K:W.Frag}{mg:Str->Option Value}{base:Heap}{k n:Nat}{x:Str}{a:Addr}{f:List D->ac->Option (D×ac)}(F:Fn P w K mg base k x n f)(h:mg x=some (.ref a)):RN P w K mg base k a n f:=by
 obtain⟨b,fd,ps,h1,h2,h3,h4,h5⟩:=F.ex
 rw [h] at h3;cases h3
 exact⟨fd,ps,h1,h2,h4,h5⟩
inductive FRel(P:Program)(w:World)(K:W.Frag)(mg:Str->Option Value)(base:Heap)(k:Nat):List (bG×Value)->List (bG×Nat×(List D->ac->Option (D×ac)))->Prop
 | nil:FRel P w K mg base k [] []
 | cons {y:bG} {a:Addr} {n:Nat} {f:List D->ac->Option (D×ac)} {vs:List (bG×Value)} {l:List (bG×Nat×(List D->ac->Option (D×ac)))} (h:RN P w K mg base k a n f) (t:FRel P w K mg base k vs l):FRel P w K mg base k ((y,.ref a)::vs) ((y,n,f)::l)
noncomputable def AH:List (bG×Nat×(List D->ac->Option (D×ac)))->bG->Option (Nat×(List D->ac->Option (D×ac)))
 | [],_=>none
 | (y,p)::l,k=>if y=k then some p else AH l k
section
variable{P:Program}{w:World}{K:W.Frag}{mg:Str->Option Value}{base:Heap}{k:Nat}
def FRel.val{y:bG}{p:Nat×(List D->ac->Option (D×ac))}:∀ {vs l},FRel P w K mg base k vs l->AH l y=some p->∃ a,valueAt vs y=some (.ref a)/\RN P w K mg base k a p.1 p.2
 | _,_,.nil,q=>by cases q
 | _,_,.cons (y:=y') (a:=a) h t,q=>by
  unfold AH at q
  split at q
  ·rename_i e;cases q;exact⟨a,by simp [valueAt,e],h⟩
  ·rename_i e
   obtain⟨b,h1,h2⟩:=FRel.val t q
   refine⟨b,?_,h2⟩
   rw [<- h1]
   simp [valueAt,e]
structure FTab(P:Program)(w:World)(K:W.Frag)(mg:Str->Option Value)(base:Heap)(k:Nat)(x:Str)(l:List (bG×Nat×(List D->ac->Option (D×ac)))):Prop where
 ex:∃ (a:Addr) (vs:List (bG×Value)),mg x=some (.ref a)/\(∀ (P:Program) (h:Heap),K.In h->h.DictOf (cf P w) a vs)/\FRel P w K mg base k vs l
end
def EOk.setN{K:W.Frag}{μ:Fp}{H:Hp}{x:Option V}:∀ {σ:L2.St} {env:bp} (i:Nat),EOk K μ H σ env->EOk K μ H (σ.set i x) (env.set i none)
 | _,_,_,.nil=>.nil
 | _,_,0,.no t=>.no t
 | _,_,0,.yes _ t=>.no t
 | _,_,i+1,.no t=>.no (EOk.setN i t)
 | _,_,i+1,.yes h t=>.yes h (EOk.setN i t)
section
variable{X:Cx}{k i:Nat}{x b:Str}{e ix:Expr}{es:List Expr}{mi:ME}{ms:MA}{p pb pt ps pa pc pr:Pos}{l:List (bG×Nat×(List D->ac->Option (D×ac)))}
def Lz{t:TA}(hN:X.N[i]?=some b)(hv:SI X.env.scope b)(hr:Room k X.A)(ha:PA X (e::es) t)(hd:(b == ("__debug__":Str))=false)(hc:(b == ("__classdict__":Str))=false)
  (he:starEach (e::es) X.env=(false,eval e X.env)::starEach es X.env) (hpl:(backTo pc (starEach es X.env)).any (·.1)=false) :
  PE X (.Call (.Name b p) (e::es) [] pc) (fun σ H Q=>∃ a n f,σ[i]?=some (some (.ref a))/\RN X.prog X.w X.K X.mg X.base k a n f/\FZ (KG X.K n f) [] E0 t σ H Q):=by
 intro pins s σ H Q I ⟨a,n,f,hσ,F,h⟩
 obtain⟨fd,qs,hn,F,hk,hb⟩:=F.ex
 refine YM (dE (Lq hN hv hd hc pins s σ H (fun v H'=>v=.ref a/\H'=H) I ⟨_,hσ,rfl,rfl⟩) fun u s1 ⟨v,H1,I1,r,e1,e2⟩=>?_)
 subst e1 e2
 cases r
 refine W.callWith_K (h₀:=X.base) I1.ok.mod.kin hk (dE (ha pc pins s1 σ H1 _ I1 h) fun us s2 ⟨vs,H2,I2,r2,q⟩=>⟨I2.kIn,?_⟩) he hpl
 exact DZ F hr hb .nil LB I2 r2 q
noncomputable def gN(l:List (bG×Nat×(List D->ac->Option (D×ac))))(i:Nat)(mi:ME)(ms:MA):MS:=fun env S=>(mi env S).bind fun p=>(fR p.1).bind fun k=>(AH l k).bind fun q=>(ms (env.set i none) p.2).bind fun r=>if r.1.length=q.1 then (q.2 r.1 r.2).bind fun z=>some (.rt z.1 z.2) else none
def NJ(g:FTab X.prog X.w X.K X.mg X.base k x l)(hg:Gl X x)(hx:(x == ("__debug__":Str))=false)(hi:DE X ix mi)(hs:oA ix)(hr:Room k X.A)(ha:DA X (e::es) ms)(nd:X.N.Nodup)(hN:X.N[i]?=some b)(hl:Ke X.env.scope b)(hv:SI X.env.scope b)
  (hf:X.fn b=true\/X.env.scope.names.lookup b=some .local) (hd:(b == ("__debug__":Str))=false) (hc:(b == ("__classdict__":Str))=false) (hlen:i<X.N.length)
  (he:starEach (e::es) X.env=(false,eval e X.env)::starEach es X.env) (hpl:(backTo pc (starEach es X.env)).any (·.1)=false) :
  wF X [.Assign [.Name b pb] (.Subscript (.Name x pt) ix ps) pa,.Return (some (.Call (.Name b p) (e::es) [] pc)) pr] (gN l i mi ms):=by
 obtain⟨a,vs,h1,h2,h3⟩:=g.ex
 intro pins s σ H E I h
 have hlσ:i < σ.length:=by
  have:σ.length=X.N.length:=I.len
  omega
 refine Be (Lh (i:=i) nd hN hl (Lu (Mw h2) (yT (v:=.ref a) hg h1 rfl hx) hi hs) rfl hf) (Gc (Li (Lz hN hv hr ha hd hc he hpl))) pins s σ H E I ?_
 obtain⟨μ,S,env,o,hS,hE,hm,post⟩:=h
 obtain⟨⟨y,S1⟩,e1,hm⟩:=WI.mp hm
 obtain⟨z,e2,hm⟩:=WI.mp hm
 obtain⟨q,e3,hm⟩:=WI.mp hm
 obtain⟨fa,v1,F⟩:=h3.val e3
 refine⟨μ,S,env,y,S1,hS,hE,e1,fun u H1 μ1 ex s1 r1=>⟨z,.ref fa,.ref fa,rfl,oa e2 r1,v1,rfl,?_⟩⟩
 obtain⟨⟨ws,S2⟩,e4,hm⟩:=WI.mp hm
 dsimp only at hm
 split at hm
 ·rename_i hn
  obtain⟨⟨d,S3⟩,e5,hm⟩:=WI.mp hm
  cases hm
  refine⟨fa,q.1,q.2,by rw [Xn hlσ],F,AN ⟨μ1,S1,env.set i none,d,S3,s1,(hE.mono ex).setN i,?_,Post.ext ex post⟩⟩
  show (ms (env.set i none) S1).bind _=_
  rw [e4]
  exact(Xc hn).trans e5
 ·cases hm
end
inductive FNs(mg:Str->Option Value):List (bG×Value)->List (Str×Str)->Prop
 | nil:FNs mg [] []
 | cons {x y:Str} {a:Addr} {vs:List (bG×Value)} {l:List (Str×Str)} (h:mg y=some (.ref a)) (t:FNs mg vs l):FNs mg ((.inr x,.ref a)::vs) ((x,y)::l)
structure FNm(w:World)(K:W.Frag)(mg:Str->Option Value)(x:Str)(l:List (Str×Str)):Prop where
 ex:∃ (a:Addr) (vs:List (bG×Value)),mg x=some (.ref a)/\(∀ (P:Program) (h:Heap),K.In h->h.DictOf (cf P w) a vs)/\FNs mg vs l
def Vm{w:World}{K:W.Frag}{mg:Str->Option Value}{x:Str}{a:Addr}{es:List DictEntry}{n:Nat}{vs:List (bG×Value)}{l:List (Str×Str)}(hg:mg x=some (.ref a))(hl:K.lookup a=some ⟨.type "dict",none,.dict es.toArray n,#[]⟩)(t:TabLit w es vs)(hn:(vs.map (·.1)).Nodup)(r:FNs mg vs l):FNm w K mg x l:=
 ⟨a,vs,hg,AJ hl (fun P=>by simpa using t.pairs) (fun P e he=>t.keys e (by simpa using he)) hn,r⟩
section
variable{P:Program}{w:World}{K:W.Frag}{mg:Str->Option Value}{base:Heap}{k:Nat}
def FFs(P:Program)(w:World)(K:W.Frag)(mg:Str->Option Value)(base:Heap)(k:Nat):List (Str×Str)->List (bG×Nat×(List D->ac->Option (D×ac)))->Prop
 | [],[]=>True
 | (x,y)::l,(z,n,f)::r=>z=.inr x/\Fn P w K mg base k y n f/\FFs P w K mg base k l r
 | _,_=>False
def FNs.rel:∀ {vs l r},FNs mg vs l->FFs P w K mg base k l r->FRel P w K mg base k vs r
 | _,_,[],.nil,_=>.nil
 | _,_,(z,n,f)::r,.cons h t,q=>by
  obtain⟨q1,q2,q3⟩:=q
  subst q1
  exact .cons (q2.at h) (t.rel q3)
def Qv{x:Str}{l:List (Str×Str)}{r:List (bG×Nat×(List D->ac->Option (D×ac)))}(T:FNm w K mg x l)(h:FFs P w K mg base k l r):FTab P w K mg base k x r:=by
 obtain⟨a,vs,h1,h2,h3⟩:=T.ex
 exact⟨a,vs,h1,h2,h3.rel h⟩
def FRel.up{k':Nat}(h:k<=k'):∀ {vs l},FRel P w K mg base k vs l->FRel P w K mg base k' vs l
 | _,_,.nil=>.nil
 | _,_,.cons q t=>.cons (by obtain⟨fd,ps,a,b,c⟩:=q.ex;exact⟨fd,ps,a,b.mono h,c⟩) (t.up h)
def FTab.up{k':Nat}{x:Str}{l:List (bG×Nat×(List D->ac->Option (D×ac)))}(T:FTab P w K mg base k x l)(h:k<=k'):FTab P w K mg base k' x l:=by
 obtain⟨a,vs,h1,h2,h3⟩:=T.ex
 exact⟨a,vs,h1,h2,h3.up h⟩
end
section
variable{X:Cx}{e:Expr}{m:ME}{pos:Pos}
noncomputable def Ng(_:ac)(x y:D):Option D:=match x,y with
 | .int i,.int j=>some (.int (i+j))
 | _,_=>none
def VM{i:Nat}{x:Str}{pos':Pos}(hN:X.N.Nodup)(hi:X.N[i]?=some x)(hx:X.env.scope.names.lookup x=some .local)(he:DE X e m) :
  DS X (.AugAssign (.Name x pos') .Add e pos) (aI (ar Ng (ab i) m) (ah i)):=PS.imp (Tx hN hi (.inl hx) he Ve (.inr hx)) fun E σ H h=>by
 obtain⟨μ,S,env,o,hS,hE,hm,post⟩:=h
 obtain⟨⟨d,S1⟩,h1,hm⟩:=WI.mp hm
 cases hm
 obtain⟨⟨a,S2⟩,h2,h1⟩:=WI.mp h1
 obtain⟨⟨b,S3⟩,h3,h1⟩:=WI.mp h1
 obtain⟨a',h4,h2⟩:=WI.mp h2
 cases h2
 obtain⟨d',h5,h1⟩:=WI.mp h1
 cases h1
 dsimp only at h5
 obtain⟨p,q,rfl,rfl,rfl⟩:∃ p q,a=.int p/\b=.int q/\d=.int (p+q):=by
  cases a <;> first | cases h5 | skip
  cases b <;> first | cases h5 | skip
  exact⟨_,_,rfl,rfl,rfl⟩
 obtain⟨v,e1,r⟩:=hE.get (xB h4)
 refine⟨v,e1,μ,S,env,_,_,hS,hE,h3,fun w H1 μ1 e1 s1 r1=>⟨p,q,r.int_inv,r1.int_inv,?_⟩⟩
 exact post _ H1 μ1 e1 s1 ((hE.mono e1).set (.int _) i)
end
end M
namespace MI
open L2 M
@[irreducible] noncomputable def mC(d:D):ME:=M.mC d
def uI{d:D}:mC d=M.mC d:=by unfold mC;rfl
@[irreducible] noncomputable def ab(i:Nat):ME:=M.ab i
def zx{i:Nat}:ab i=M.ab i:=by unfold ab;rfl
@[irreducible] noncomputable def ar(f:ac->D->D->Option D)(a b:ME):ME:=M.ar f a b
def jK{f:ac->D->D->Option D}{a b:ME}:ar f a b=M.ar f a b:=by unfold ar;rfl
@[irreducible] noncomputable def ax(m:ME):MT:=M.ax m
def uD{m:ME}:ax m=M.ax m:=by unfold ax;rfl
@[irreducible] noncomputable def cS(f g:ac->D->D->Option D)(a b c:ME):ME:=M.cS f g a b c
def qX{f g:ac->D->D->Option D}{a b c:ME}:cS f g a b c=M.cS f g a b c:=by unfold cS;rfl
@[irreducible] noncomputable def da(m:ME):MT:=M.da m
def zy{m:ME}:da m=M.da m:=by unfold da;rfl
@[irreducible] noncomputable def cF(a b:MT):MT:=M.cF a b
def uJ{a b:MT}:cF a b=M.cF a b:=by unfold cF;rfl
@[irreducible] noncomputable def eL(a b:MT):MT:=M.eL a b
def zA{a b:MT}:eL a b=M.eL a b:=by unfold eL;rfl
@[irreducible] noncomputable def dH(a:MT):MT:=M.dH a
def BX{a:MT}:dH a=M.dH a:=by unfold dH;rfl
@[irreducible] noncomputable def dG(a b:ME):ME:=M.Mf a b
def GE{a b:ME}:dG a b=M.Mf a b:=by unfold dG;rfl
@[irreducible] noncomputable def tf(a b:ME):ME:=M.Ux a b
def LV{a b:ME}:tf a b=M.Ux a b:=by unfold tf;rfl
@[irreducible] noncomputable def fQ(a:ME):ME:=M.LX a
def BW{a:ME}:fQ a=M.LX a:=by unfold fQ;rfl
@[irreducible] noncomputable def lL(t:MT)(a b:ME):ME:=M.lL t a b
def Mb{t:MT}{a b:ME}:lL t a b=M.lL t a b:=by unfold lL;rfl
@[irreducible] noncomputable def ai:MA:=M.ai 
def zB  : ai  = M.ai  := by unfold ai;rfl
@[irreducible] noncomputable def aa(a:ME)(r:MA):MA:=M.aa a r
def Cf{a:ME}{r:MA}:aa a r=M.aa a r:=by unfold aa;rfl
@[irreducible] noncomputable def aM(ms:MA):ME:=M.aM ms
def Gr{ms:MA}:aM ms=M.aM ms:=by unfold aM;rfl
@[irreducible] noncomputable def eM(ms:MA):ME:=M.eM ms
def Gx{ms:MA}:eM ms=M.eM ms:=by unfold eM;rfl
@[irreducible] noncomputable def dj(ms:MA):ME:=M.dj ms
def BZ{ms:MA}:dj ms=M.dj ms:=by unfold dj;rfl
@[irreducible] noncomputable def xi(f:ac->D->Option D)(a:ME):ME:=M.xi f a
def LU{f:ac->D->Option D}{a:ME}:xi f a=M.xi f a:=by unfold xi;rfl
@[irreducible] noncomputable def bu:MO:=M.bu 
def xn  : bu  = M.bu  := by unfold bu;rfl
@[irreducible] noncomputable def bU(m:ME):MO:=M.bU m
def BV{m:ME}:bU m=M.bU m:=by unfold bU;rfl
@[irreducible] noncomputable def bt(a:ME)(lo hi:MO):ME:=M.bt a lo hi
def xk{a:ME}{lo hi:MO}:bt a lo hi=M.bt a lo hi:=by unfold bt;rfl
@[irreducible] noncomputable def bd(f:List D->ac->Option (D×ac))(ms:MA):ME:=M.bd f ms
def iI{f:List D->ac->Option (D×ac)}{ms:MA}:bd f ms=M.bd f ms:=by unfold bd;rfl
@[irreducible] noncomputable def dN(T:String)(m:ME):ME:=M.dN T m
def Gy{T:String}{m:ME}:dN T m=M.dN T m:=by unfold dN;rfl
@[irreducible] noncomputable def ao(n:Nat)(f:List D->ac->Option (D×ac))(ms:MA):ME:=M.ao n f ms
def qY{n:Nat}{f:List D->ac->Option (D×ac)}{ms:MA}:ao n f ms=M.ao n f ms:=by unfold ao;rfl
@[irreducible] noncomputable def aY:MS:=M.aY 
def qe  : aY  = M.aY  := by unfold aY;rfl
@[irreducible] noncomputable def ay(a b:MS):MS:=M.ay a b
def Gs{a b:MS}:ay a b=M.ay a b:=by unfold ay;rfl
@[irreducible] noncomputable def aV(m:ME):MS:=M.aV m
def Gu{m:ME}:aV m=M.aV m:=by unfold aV;rfl
@[irreducible] noncomputable def db(m:ME):MS:=M.db m
def Cc{m:ME}:db m=M.db m:=by unfold db;rfl
@[irreducible] noncomputable def bC(t:MT)(a b:MS):MS:=M.bC t a b
def Gz{t:MT}{a b:MS}:bC t a b=M.bC t a b:=by unfold bC;rfl
@[irreducible] noncomputable def ah(i:Nat):MG:=M.ah i
def oh{i:Nat}:ah i=M.ah i:=by unfold ah;rfl
@[irreducible] noncomputable def aB:vL:=M.aB 
def CH  : aB  = M.aB  := by unfold aB;rfl
@[irreducible] noncomputable def af(g:MG)(gs:vL):vL:=M.af g gs
def xN{g:MG}{gs:vL}:af g gs=M.af g gs:=by unfold af;rfl
@[irreducible] noncomputable def aE(n:Nat)(gs:vL):MG:=M.aE n gs
def nz{n:Nat}{gs:vL}:aE n gs=M.aE n gs:=by unfold aE;rfl
@[irreducible] noncomputable def eW(o i:ME):MG:=M.eW o i
def CG{o i:ME}:eW o i=M.eW o i:=by unfold eW;rfl
@[irreducible] noncomputable def aI(m:ME)(g:MG):MS:=M.aI m g
def iE{m:ME}{g:MG}:aI m g=M.aI m g:=by unfold aI;rfl
@[irreducible] noncomputable def bZ(ms:MA):MA:=M.bZ ms
def uG{ms:MA}:bZ ms=M.bZ ms:=by unfold bZ;rfl
@[irreducible] noncomputable def dm(ms:MA):MA:=M.dm ms
def uF{ms:MA}:dm ms=M.dm ms:=by unfold dm;rfl
@[irreducible] noncomputable def ia(mi:MA)(g:MG)(body:MS):MS:=M.ia mi g body
def GA{mi:MA}{g:MG}{body:MS}:ia mi g body=M.ia mi g body:=by unfold ia;rfl
@[irreducible] noncomputable def bE(mi:MA)(g:MG)(t:MT)(e:ME)(cap:List (Option Nat)):ME:=M.bE mi g t e cap
def uH{mi:MA}{g:MG}{t:MT}{e:ME}{cap:List (Option Nat)}:bE mi g t e cap=M.bE mi g t e cap:=by unfold bE;rfl
@[irreducible] noncomputable def cZ(m:ME):MA:=M.cZ m
def zC{m:ME}:cZ m=M.cZ m:=by unfold cZ;rfl
@[irreducible] noncomputable def bH:MT:=M.bH 
def BU  : bH  = M.bH  := by unfold bH;rfl
@[irreducible] noncomputable def di(f:MF)(o:ME)(ms:MA):ME:=M.di f o ms
def BY{f:MF}{o:ME}{ms:MA}:di f o ms=M.di f o ms:=by unfold di;rfl
@[irreducible] noncomputable def el(ms:MA):MA:=M.el ms
def Cb{ms:MA}:el ms=M.el ms:=by unfold el;rfl
@[irreducible] noncomputable def lq(i j:Nat)(ms:MA):MS:=M.lq i j ms
def Gv{i j:Nat}{ms:MA}:lq i j ms=M.lq i j ms:=by unfold lq;rfl
@[irreducible] noncomputable def ju(o:ME)(ms:MA):ME:=M.ju o ms
def GD{o:ME}{ms:MA}:ju o ms=M.ju o ms:=by unfold ju;rfl
@[irreducible] noncomputable def kN(ms:MA):MA:=M.kN ms
def Gq{ms:MA}:kN ms=M.kN ms:=by unfold kN;rfl
@[irreducible] noncomputable def gy(ms:List (ME×ME)):ME:=M.gy ms
def Ce{ms:List (ME×ME)}:gy ms=M.gy ms:=by unfold gy;rfl
@[irreducible] noncomputable def dZ(ms:List (ME×ME)):ME:=M.dZ ms
def xq{ms:List (ME×ME)}:dZ ms=M.dZ ms:=by unfold dZ;rfl
@[irreducible] noncomputable def dX(f:MF)(o:ME)(ms:MA):ME:=M.dX f o ms
def xo{f:MF}{o:ME}{ms:MA}:dX f o ms=M.dX f o ms:=by unfold dX;rfl
@[irreducible] noncomputable def dI(m:ME)(g:MG)(body:MS):MS:=M.dI m g body
def Ca{m:ME}{g:MG}{body:MS}:dI m g body=M.dI m g body:=by unfold dI;rfl
@[irreducible] noncomputable def dY(ms:MA):ME:=M.dY ms
def xp{ms:MA}:dY ms=M.dY ms:=by unfold dY;rfl
@[irreducible] noncomputable def dU(t:MT)(body:MS):MS:=M.dU t body
def xh{t:MT}{body:MS}:dU t body=M.dU t body:=by unfold dU;rfl
@[irreducible] noncomputable def dq(l:List (bG×D))(a:ME):ME:=M.dq l a
def xj{l:List (bG×D)}{a:ME}:dq l a=M.dq l a:=by unfold dq;rfl
@[irreducible] noncomputable def cR(m:ME)(g:MG)(t:MT)(e:ME)(cap:List (Option Nat)):ME:=M.cR m g t e cap
def qW{m:ME}{g:MG}{t:MT}{e:ME}{cap:List (Option Nat)}:cR m g t e cap=M.cR m g t e cap:=by unfold cR;rfl
@[irreducible] noncomputable def gN(l:List (bG×Nat×(List D->ac->Option (D×ac))))(i:Nat)(mi:ME)(ms:MA):MS:=M.gN l i mi ms
def Cd{i:Nat}{mi:ME}{ms:MA}:gN l i mi ms=M.gN l i mi ms:=by unfold gN;rfl
def EM{f:List D->ac->Option (D×ac)}:ao 0 f ai=M.ao 0 f M.ai:=by rw [qY,zB]
def EJ{f:ac->D->D->Option D}{a b:ME}:ax (ar f a b)=M.ax (M.ar f a b):=by rw [uD,jK]
def EK{f g:ac->D->D->Option D}{a b c:ME}:ax (cS f g a b c)=M.ax (M.cS f g a b c):=by rw [uD,qX]
def lX{m:ME}{i:Nat}:aI m (ah i)=M.aI m (M.ah i):=by rw [iE,oh]
def Ch{mi:MA}{g:MG}{t:MT}{e:ME}{cap:List (Option Nat)}{i:Nat}:aI (bE mi g t e cap) (ah i)=M.aI (M.bE mi g t e cap) (M.ah i):=by rw [iE,oh,uH]
def zD{mi:ME}{g:MG}{t:MT}{e:ME}{cap:List (Option Nat)}{i:Nat}:aI (cR mi g t e cap) (ah i)=M.aI (M.cR mi g t e cap) (M.ah i):=by rw [iE,oh,qW]
section
variable{X:Cx}{e:Expr}{es:List Expr}{s:Stmt}{ss:List Stmt}
def ci{m m':ME}(h:m=m')(d:DE X e m'):DE X e m:=by rw [h];exact d
def Dk{m m':MT}(h:m=m')(d:DT X e m'):DT X e m:=by rw [h];exact d
def Hi{m m':MT}(h:m=m')(d:DW X e m'):DW X e m:=by rw [h];exact d
def SH{m m':MA}(h:m=m')(d:DA X es m'):DA X es m:=by rw [h];exact d
def SG{o:Option Expr}{m m':MO}(h:m=m')(d:DO X o m'):DO X o m:=by rw [h];exact d
def Hj{m m':MG}(h:m=m')(d:DG X e m'):DG X e m:=by rw [h];exact d
def Oo{m m':vL}(h:m=m')(d:WG X es m'):WG X es m:=by rw [h];exact d
def ya{tg:Expr}{m m':MA}(h:m=m')(d:DI X tg e m'):DI X tg e m:=by rw [h];exact d
def Wi{m m':MT}(h:m=m')(d:OE X es m'):OE X es m:=by rw [h];exact d
def iO{m m':MS}(h:m=m')(d:DS X s m'):DS X s m:=by rw [h];exact d
def FH{m m':MS}(h:m=m')(d:wF X ss m'):wF X ss m:=by rw [h];exact d
end
inductive GI where
 | fn (n:Nat) (f:List D->ac->Option (D×ac))
 | con (d:D)
 | blt
 | tab (l:List (bG×D))
 | ftab (l:List (bG×Nat×(List D->ac->Option (D×ac))))
structure CI where
 N:List Str
 sc:Scope
 all:Bool
 gs:List (Str×GI)
 mt:List Nat
def GOk(X:Cx)(k:Nat)(x:Str):GI->Prop
 | .fn n f=>Fn X.prog X.w X.K X.mg X.base k x n f
 | .con d=>GC X.K X.mg x d
 | .blt=>X.mg x=none
 | .tab l=>vJ X.w X.K X.mg x l
 | .ftab l=>FTab X.prog X.w X.K X.mg X.base k x l
structure ky(k:Nat)(c:CI)(X:Cx):Prop where
 N:X.N=c.N
 nd:c.N.Nodup
 sc:X.env.scope=c.sc
 fk:c.sc.kind=.function
 fn:c.all=true->∀ x,X.fn x=true
 calm:X.calm=true
 room:Room k X.A
 xe:X.xe=fun _ _=>False
 gs:∀ p∈c.gs,GOk X k p.1 p.2
def jj:ME:=fun _ _=>none
def wu:MT:=fun _ _=>none
def jL:MS:=fun _ _=>none
def wv:MA:=fun _ _=>none
def MJ:MG:=fun _ _ _=>none
section
variable{X:Cx}{k:Nat}{c:CI}{e:Expr}{pos:Pos}
def cA:DE X e jj:=fun _ _ _ _ _ _ ⟨_,_,_,_,_,_,_,h,_⟩=>by cases h
def qA:DT X e wu:=fun _ _ _ _ _ _ ⟨_,_,_,_,_,_,_,h,_⟩=>by cases h
def kK{s:Stmt}:DS X s jL:=fun _ _ _ _ _ _ ⟨_,_,_,_,_,_,h,_⟩=>by cases h
def ds_asgNo{s:Stmt}{g:MG}:DS X s (aI jj g):=by
 rw [show aI jj g=jL from by rw [iE];rfl]
 exact kK
def VH{s:List Stmt}:wF X s jL:=fun _ _ _ _ _ _ ⟨_,_,_,_,_,_,h,_⟩=>by cases h
def da_no{es:List Expr}:DA X es wv:=fun _ _ _ _ _ _ _ ⟨_,_,_,_,_,_,_,h,_⟩=>by cases h
def vy{tg:Expr}:DI X tg e wv:=fun _ _ _ _ _ _ ⟨_,_,_,_,_,_,_,h,_⟩=>by cases h
def De:DG X e MJ:=fun _ _ _ _ _ _ _ _ _ ⟨_,_,_,_,_,_,_,_,_,h,_⟩=>by cases h
def oF(x:Str):List Str->Option Nat
 | []=>none
 | y::r=>if x == y then some 0 else (oF x r).map (· + 1)
def cV{x:Str}:∀ {l:List Str} {i:Nat},oF x l=some i->l[i]?=some x
 | y::r,i,h=>by
  unfold oF at h
  split at h
  ·rename_i e;cases h;simp at e;simp [e]
  ·cases q:oF x r with
   | none=>rw [q] at h;cases h
   | some j=>rw [q] at h;cases h;simpa using cV q
def fJ(x:Str):Bool:=!(x == ("__debug__":Str)) && !(x == ("__classdict__":Str)) && !(x == ("__name__":Str))
def dh{x:Str}(h:fJ x=true):(x == ("__debug__":Str))=false:=by
 unfold fJ at h;rw [WP,WP] at h;simpa only [Bool.not_eq_true'] using h.1.1
def Br{x:Str}(h:fJ x=true):(x == ("__classdict__":Str))=false:=by
 unfold fJ at h;rw [WP,WP] at h;simpa only [Bool.not_eq_true'] using h.1.2
def iH{x:Str}(h:fJ x=true):x ≠ "__name__":=by
 unfold fJ at h;rw [WP,WP] at h
 have:=h.2
 rw [Bool.not_eq_true'] at this
 intro z;rw [z] at this;simp at this
def Su(c:CI)(x:Str):Option GI:=match c.sc.names.lookup x with | some .globalImplicit=>if fJ x then c.gs.lookup x else none | _=>none
def jR{g:GI}{x:Str}(C:ky k c X)(h:Su c x=some g):Gl X x/\fJ x=true/\GOk X k x g:=by
 unfold Su at h
 split at h
 ·rename_i e
  split at h
  ·rename_i o
   refine⟨?_,o,C.gs _ (Yr h)⟩
   show X.env.scope.names.lookup x=_
   rw [C.sc,e]
  ·cases h
 ·cases h
def Fo(c:CI)(x:Str):ME:=match c.sc.names.lookup x with
 | some .globalImplicit=>match Su c x with | some (.con d)=>mC d | _=>jj
 | some .local=>match oF x c.N with | some i=>if fJ x then ab i else jj | none=>jj
 | some .cell=>match oF x c.N with | some i=>if fJ x then ab i else jj | none=>jj
 | some .free=>match oF x c.N with | some i=>if fJ x then ab i else jj | none=>jj
 | _=>jj
def pG(C:ky k c X){x:Str}(hv:SI c.sc x):DE X (.Name x pos) (match oF x c.N with | some i=>if fJ x then ab i else jj | none=>jj):=by
 split
 ·rename_i i e
  split
  ·rename_i o
   exact ci zx <| M.VS (by rw [C.N];exact cV e) (by rw [C.sc];exact hv) (dh o) (Br o)
  ·exact cA
 ·exact cA
def Jo(C:ky k c X)(x:Str):DE X (.Name x pos) (Fo c x):=by
 unfold Fo
 split
 ·split
  ·rename_i d e
   obtain⟨g,o,G⟩:=jR C e
   exact ci uI <| M.Rg G g (dh o)
  ·exact cA
 ·rename_i e;exact pG C (.inl e)
 ·rename_i e;exact pG C (.inr (.inl e))
 ·rename_i e;exact pG C (.inr (.inr e))
 ·exact cA
def GX:Const->ME
 | .int i=>mC (.int i)
 | .bool b=>mC (.bl b)
 | .none=>mC .non
 | .str x=>mC (.str x)
 | _=>jj
def Ft(v:Const){j:Nat}:DE X (.Constant v j pos) (GX v):=by
 cases v <;> first | exact ci uI <| M.Wa | exact ci uI <| M.de_bl | exact ci uI <| M.VX | exact ci uI <| M.VU | exact cA
def Nu(z:Bool)(op:Operator)(a b:ME):ME:=match op with
 | .Add=>ar aT a b
 | .Sub=>ar oH a b
 | .Mult=>ar cC a b
 | .Mod=>ar mw a b
 | .FloorDiv=>ar Jl a b
 | .Pow=>ar wz a b
 | _=>jj
def Nt{z:Bool}{op:Operator}{a b:Expr}{ma mb:ME}(ha:DE X a ma)(hb:DE X b mb):DE X (.BinOp a op b pos) (Nu z op ma mb):=by
 cases op <;> first | exact cA | skip
 ·exact ci jK <| M.xW PN ha hb
 ·exact ci jK <| M.xW Ug ha hb
 ·exact ci jK <| M.xW PM ha hb
 ·exact ci jK <| M.xW Uj ha hb
 ·exact ci jK <| M.xW Uh ha hb
 ·exact ci jK <| M.xW Uk ha hb
def evUn(op:UnaryOp)(a:ME):ME:=match op with
 | .Not=>fQ a
 | .USub=>xi Jh a
 | _=>jj
def QK{op:UnaryOp}{a:Expr}{ma:ME}(ha:DE X a ma):DE X (.UnaryOp op a pos) (evUn op ma):=by
 cases op <;> first | exact cA | skip
 ·exact ci BW <| M.Re ha
 ·exact ci LU <| M.de_un OI ha
def FG:CmpOp->Option (ac->D->D->Option D)
 | .Eq=>some bY
 | .NotEq=>some ib
 | .Lt=>some QF
 | .LtE=>some QG
 | .Gt=>some fGt
 | .GtE=>some fGe
 | .In=>some kz
 | .NotIn=>some rp
 | .Is=>some wA
 | .IsNot=>some nA
def ow{op:CmpOp}{f:ac->D->D->Option D}(r:Room k X.A)(h:FG op=some f):OpR X (compareOp op) (oC X.K f):=by
 cases op <;> cases h
 ·exact op_Eq r.units
 ·exact op_Ne r.units
 ·exact op_Lt
 ·exact op_Le
 ·exact op_Gt
 ·exact op_Ge
 ·exact op_Is
 ·exact LG
 ·exact op_In r.units
 ·exact LF r.units
def lT:Expr->Bool
 | .Set _ _ _=>false
 | _=>true
def jp{op:CmpOp}(h:lT e=true):behindInMarks op e=false:=by cases e <;> first | rfl | cases h
def gv(h:lT e=true)(x:Value):foldedSetIterable e X.env x=pure x:=by cases e <;> first | rfl | cases h
def Nr(c:CI)(E:CI->Expr->ME)(a:Expr)(ops:List CmpOp)(bs:List Expr):ME:=match ops,bs with
 | [op],[b]=>if lT b then (match FG op with | some f=>ar f (E c a) (E c b) | none=>jj) else jj
 | [op,op'],[b,d]=>if lT d then (match FG op,FG op' with | some f,some g=>cS f g (E c a) (E c b) (E c d) | _,_=>jj) else jj
 | _,_=>jj
def Fu(c:CI)(E:CI->Expr->ME)(a:Expr)(ops:List CmpOp)(bs:List Expr):MT:=match ops,bs with
 | [op],[b]=>if lT b then (match FG op with | some f=>ax (ar f (E c a) (E c b)) | none=>wu) else wu
 | [op,op'],[b,d]=>if lT d then (match FG op,FG op' with | some f,some g=>ax (cS f g (E c a) (E c b) (E c d)) | _,_=>wu) else wu
 | _,_=>wu
section
variable{E:CI->Expr->ME}{T:CI->Expr->MT}
def Nq(C:ky k c X)(hE:∀ e,DE X e (E c e)){a:Expr}{ops:List CmpOp}{bs:List Expr}:DE X (.Compare a ops bs pos) (Nr c E a ops bs):=by
 unfold Nr
 split
 ·split
  ·rename_i hm
   split
   ·rename_i f h;exact ci jK <| M.Wc (ow C.room h) (hE _) (hE _) (jp hm)
   ·exact cA
  ·exact cA
 ·split
  ·rename_i hm
   split
   ·rename_i f g h1 h2;exact ci qX <| M.Oe (ow C.room h1) (ow C.room h2) (hE _) (hE _) (hE _) (jp hm)
   ·exact cA
  ·exact cA
 ·exact cA
def Jt(C:ky k c X)(hE:∀ e,DE X e (E c e)){a:Expr}{ops:List CmpOp}{bs:List Expr}:DT X (.Compare a ops bs pos) (Fu c E a ops bs):=by
 unfold Fu
 split
 ·split
  ·rename_i hm
   split
   ·rename_i f h;exact Dk EJ <| M.VG (ow C.room h) (hE _) (hE _) (jp hm)
   ·exact qA
  ·exact qA
 ·split
  ·rename_i hm
   split
   ·rename_i f g h1 h2;exact Dk EK <| M.NI (ow C.room h1) (ow C.room h2) (hE _) (hE _) (hE _) (jp hm)
   ·exact qA
  ·exact qA
 ·exact qA
def CM(f:ME->ME->ME):List ME->ME
 | []=>jj
 | [m]=>m
 | m::r=>f m (CM f r)
def vi(f:MT->MT->MT):List MT->MT
 | []=>wu
 | [m]=>m
 | m::r=>f m (vi f r)
def xP{E:Expr->ME}(hE:∀ e,DE X e (E e)):∀ vs:List Expr,DE X (.BoolOp .And vs pos) (CM dG (vs.map E))
 | []=>cA
 | [e]=>NZ (hE e)
 | e::e'::r=>ci GE <| M.Ro (hE e) (xP hE (e'::r))
def CL{E:Expr->ME}(hE:∀ e,DE X e (E e)):∀ vs:List Expr,DE X (.BoolOp .Or vs pos) (CM tf (vs.map E))
 | []=>cA
 | [e]=>NZ (hE e)
 | e::e'::r=>ci LV <| M.VW (hE e) (CL hE (e'::r))
def Je{E:Expr->MT}(hE:∀ e,DT X e (E e)):∀ vs:List Expr,DT X (.BoolOp .And vs pos) (vi cF (vs.map E))
 | []=>qA
 | [e]=>QQ (Ha (hE e))
 | e::e'::r=>QQ (Hi uJ <| M.NF (hE e) (foldT_andW hE (e'::r) (by simp)))
where foldT_andW {E:Expr->MT} (hE:∀ e,DT X e (E e)):∀ vs:List Expr,vs≠[]->DW X (.BoolOp .And vs pos) (vi cF (vs.map E))
 | [],h=>absurd rfl h
 | [e],_=>Ha (hE e)
 | e::e'::r,_=>Hi uJ <| M.NF (hE e) (foldT_andW hE (e'::r) (by simp))
def ML{E:Expr->MT}(hE:∀ e,DT X e (E e)):∀ vs:List Expr,DT X (.BoolOp .Or vs pos) (vi eL (vs.map E))
 | []=>qA
 | [e]=>QQ (NE (hE e))
 | e::e'::r=>QQ (Hi zA <| M.SC (hE e) (foldT_orW hE (e'::r) (by simp)))
where foldT_orW {E:Expr->MT} (hE:∀ e,DT X e (E e)):∀ vs:List Expr,vs≠[]->DW X (.BoolOp .Or vs pos) (vi eL (vs.map E))
 | [],h=>absurd rfl h
 | [e],_=>NE (hE e)
 | e::e'::r,_=>Hi zA <| M.SC (hE e) (foldT_orW hE (e'::r) (by simp))
def cE:Expr->Bool
 | .Starred _ _=>false
 | _=>true
def bV{es:List Expr}(h:cE e=true):starEach (e::es) X.env=(false,eval e X.env)::starEach es X.env:=by cases e <;> first | rfl | cases h
def ig:∀ {es:List Expr},es.all cE=true->(backTo pos (starEach es X.env)).any (·.1)=false
 | [],_=>rfl
 | e::es,h=>by
  rw [Yc,WP] at h
  rw [bV h.1]
  show (false||(backTo pos (starEach es X.env)).any (·.1))=false
  rw [ig h.2];rfl
def xU(E:Expr->ME):List Expr->MA
 | []=>ai
 | e::r=>if cE e then aa (E e) (xU E r) else wv
def fN{E:Expr->ME}(hE:∀ e,DE X e (E e)):∀ es:List Expr,DA X es (xU E es)
 | []=>SH zB <| M.We
 | e::r=>by
  unfold xU
  split
  ·rename_i h;exact SH Cf <| M.Rr (hE e) (fN hE r) (bV h)
  ·exact da_no
def evO(E:Expr->ME):Option Expr->MO
 | none=>bu
 | some e=>bU (E e)
def Nn{E:Expr->ME}(hE:∀ e,DE X e (E e)):∀ o:Option Expr,DO X o (evO E o)
 | none=>SG xn <| M.Ra
 | some e=>SG BV <| M.QZ (hE e)
def AK(c:CI):Expr->Option (List (bG×D))
 | .Name x _=>match Su c x with | some (.tab l)=>some l | _=>none
 | _=>none
def DB{a:Expr}{l:List (bG×D)}(C:ky k c X)(h:AK c a=some l):∃ x p,a=.Name x p/\Gl X x/\fJ x=true/\vJ X.w X.K X.mg x l:=by
 unfold AK at h
 split at h
 ·split at h
  ·rename_i e
   cases h
   obtain⟨g,o,G⟩:=jR C e
   exact⟨_,_,rfl,g,o,G⟩
  ·cases h
 ·cases h
def Sy(c:CI)(E:Expr->ME)(a i:Expr):ME:=match i with
 | .Slice lo hi st _=>match st with | none=>bt (E a) (evO E lo) (evO E hi) | some st=>(match lo,hi with | none,none=>jj | _,_=>jj)
 | i=>match AK c a with | some l=>dq l (E i) | none=>ar aw (E a) (E i)
def Jn(C:ky k c X){E:Expr->ME}(hE:∀ e,DE X e (E e))(a i:Expr)(hs:oA i:=by intro _ _;rfl):DE X (.Subscript a i pos) (match AK c a with | some l=>dq l (E i) | none=>ar aw (E a) (E i)):=by
 cases ht:AK c a with
 | none=>exact ci jK <| M.VZ (by have:=C.room.units;omega) (hE a) (hE _) hs
 | some l=>
  obtain⟨x,p,rfl,g,o,G⟩:=DB C ht
  exact ci xj (M.NX G g (dh o) (hE _) hs)
def Nk(C:ky k c X){E:Expr->ME}(hE:∀ e,DE X e (E e))(a i:Expr):DE X (.Subscript a i pos) (Sy c E a i):=by
 cases i with
 | Slice lo hi st p=>
  cases st with
  | none=>exact ci xk <| M.NY (hE a) (Nn hE lo) (Nn hE hi)
  | some st=>
   cases lo with
   | none=>
    cases hi with
    | none=>exact cA
    | some _=>exact cA
   | some _=>exact cA
 | _=>exact Jn C hE a _
def ul:Expr->Option Str
 | .Name x _=>some x
 | _=>none
def mX{x:Str}(h:ul e=some x):∃ p,e=.Name x p:=by cases e <;> cases h;exact⟨_,rfl⟩
def vD:Expr->Option (Str×List Expr)
 | .Call f es [] _=>(ul f).map fun x=>(x,es)
 | _=>none
def nN{x:Str}{es:List Expr}(h:vD e=some (x,es)):∃ p p2,e=.Call (.Name x p) es [] p2:=by
 cases e with
 | Call f es' ks p2=>
  cases ks with
  | nil=>
   obtain⟨y,h1,h2⟩:=aar.mp h
   cases h2
   obtain⟨p,rfl⟩:=mX h1
   exact⟨p,p2,rfl⟩
  | cons _ _=>cases h
 | _=>cases h
def oQ(c:CI)(x:Str):Bool:=match Su c x with | some .blt=>true | _=>false
def nu{x:Str}(C:ky k c X)(h:oQ c x=true):X.mg x=none/\Gl X x/\fJ x=true:=by
 unfold oQ at h
 split at h
 ·rename_i e;obtain⟨a,b,d⟩:=jR C e;exact⟨d,a,b⟩
 ·cases h
def DM(c:CI)(es:List Expr):Option Expr:=match es with
 | [e1]=>match vD e1 with
  | some (y,[a])=>if y == "set" && oQ c y&&cE a then some a else none
  | _=>none
 | _=>none
def AR{es:List Expr}{a:Expr}(h:DM c es=some a):∃ p p2,es=[.Call (.Name "set" p) [a] [] p2]/\oQ c "set" = true/\cE a=true:=by
 unfold DM at h
 split at h
 ·split at h
  ·rename_i hc
   split at h
   ·rename_i hb
    cases h
    rw [WP,WP] at hb
    obtain⟨p,p2,rfl⟩:=nN hc
    have z:=hb.1.1
    rw [beq_iff_eq] at z;subst z
    exact⟨p,p2,rfl,hb.1.2,hb.2⟩
   ·cases h
  ·cases h
 ·cases h
def tU(c:CI)(es:List Expr):Option Expr:=match es with
 | [e1]=>match vD e1 with
  | some (y,[a])=>if y == "range" && oQ c y&&cE a then some a else none
  | _=>none
 | _=>none
def vU{es:List Expr}{a:Expr}(h:tU c es=some a):∃ p p2,es=[.Call (.Name "range" p) [a] [] p2]/\oQ c "range" = true/\cE a=true:=by
 unfold tU at h
 split at h
 ·split at h
  ·rename_i hc
   split at h
   ·rename_i hb
    cases h
    rw [WP,WP] at hb
    obtain⟨p,p2,rfl⟩:=nN hc
    have z:=hb.1.1
    rw [beq_iff_eq] at z;subst z
    exact⟨p,p2,rfl,hb.1.2,hb.2⟩
   ·cases h
  ·cases h
 ·cases h
def Wn(z:Bool)(x:Str):Option (List D->ac->Option (D×ac)):=
 if x == "len" then some (aP fg) else if x == "int" then some (aP jk) else if x == "max" then some (aP oX) else if x == "min" then some (aP CS)
 else if x == "list" then some (aP (cw .lst)) else if x == "tuple" then some (aP (cw .tup)) else if x == "all" then some (aP Ab) else none
def RA{zz:Bool}{x:Str}{f:List D->ac->Option (D×ac)}{es:List Expr}{ms:MA}{p:Pos}(C:ky k c X)(h:Wn zz x=some f)(hm:X.mg x=none)(hg:Gl X x)(o:fJ x=true)(hs:(e::es).all cE=true)(ha:DA X (e::es) ms) :
  DE X (.Call (.Name x p) (e::es) [] pos) (bd f ms):=by
 rw [Yc,WP] at hs
 have q1:=bV (X:=X) (es:=es) hs.1
 have q2:=ig (X:=X) (pos:=pos) hs.2
 unfold Wn at h
 split at h
 ·rename_i z;cases h;rw [beq_iff_eq] at z;subst z;exact ci iI <| M.qC Op hm boot_len ha hg (iH o) (dh o) q1 q2
 split at h
 ·rename_i z;cases h;rw [beq_iff_eq] at z;subst z;exact ci iI <| M.rE Oq hm boot_int ha hg (iH o) (dh o) q1 q2
 split at h
 ·rename_i z;cases h;rw [beq_iff_eq] at z;subst z;exact ci iI <| M.qC (JV C.calm) hm boot_max ha hg (iH o) (dh o) q1 q2
 split at h
 ·rename_i z;cases h;rw [beq_iff_eq] at z;subst z;exact ci iI <| M.qC (JU C.calm) hm boot_min ha hg (iH o) (dh o) q1 q2
 split at h
 ·rename_i z;cases h;rw [beq_iff_eq] at z;subst z;exact ci iI <| M.rE JX hm boot_list ha hg (iH o) (dh o) q1 q2
 split at h
 ·rename_i z;cases h;rw [beq_iff_eq] at z;subst z;exact ci iI <| M.rE FK hm boot_tuple ha hg (iH o) (dh o) q1 q2
 split at h
 ·rename_i z;cases h;rw [beq_iff_eq] at z;subst z;exact ci iI <| M.qC (Os C.calm) hm boot_all ha hg (iH o) (dh o) q1 q2
 cases h
def SW(x:Str):Option String:=if x == "int" then some "int" else if x == "bool" then some "bool" else if x == "str" then some "str" else if x == "tuple" then some "tuple" else if x == "list" then some "list" else if x == "dict" then some "dict" else none
def FX{x:Str}{T:String}(h:SW x=some T):bootBuiltins x=some (.type T)/\(T = "int"\/T = "bool"\/T = "str"\/T = "tuple"\/T = "list"\/T = "dict"):=by
 unfold SW at h
 split at h
 ·rename_i z;cases h;rw [beq_iff_eq] at z;subst z;exact⟨boot_int,by simp⟩
 split at h
 ·rename_i z;cases h;rw [beq_iff_eq] at z;subst z;exact⟨boot_bool,by simp⟩
 split at h
 ·rename_i z;cases h;rw [beq_iff_eq] at z;subst z;exact⟨boot_str,by simp⟩
 split at h
 ·rename_i z;cases h;rw [beq_iff_eq] at z;subst z;exact⟨boot_tuple,by simp⟩
 split at h
 ·rename_i z;cases h;rw [beq_iff_eq] at z;subst z;exact⟨boot_list,by simp⟩
 split at h
 ·rename_i z;cases h;rw [beq_iff_eq] at z;subst z;exact⟨boot_dict,by simp⟩
 cases h
def Sz(c:CI)(E:Expr->ME):List Expr->ME
 | [a,t]=>match ul t with
  | some y=>match Su c y,SW y with | some .blt,some T=>if cE a then dN T (E a) else jj | _,_=>jj
  | none=>jj
 | _=>jj
def Ae(c:CI)(E:Expr->ME)(x:Str)(es:List Expr):ME:=match Su c x with
 | some (.fn n f)=>match es with
  | []=>if n == 0 then ao 0 f ai else jj
  | e::r=>if (e::r).all cE then ao n f (xU E (e::r)) else jj
 | some .blt=>if x == "isinstance" then Sz c E es else match (if x == "len" then DM c es else none) with
  | some a=>jj
  | none=>match (if x == "list" then tU c es else none) with
  | some a=>dY (xU E [a])
  | none=>match Wn (c.mt.contains 400000) x,es with
   | some f,e::r=>if (e::r).all cE then bd f (xU E (e::r)) else jj
   | _,_=>jj
 | _=>jj
def Ju(C:ky k c X){E:Expr->ME}(hE:∀ e,DE X e (E e)){x:Str}{es:List Expr}{p:Pos}:DE X (.Call (.Name x p) es [] pos) (Ae c E x es):=by
 unfold Ae
 split
 ·rename_i n f hg
  obtain⟨g,o,G⟩:=jR C hg
  split
  ·split
   ·rename_i hn
    have:n=0:=by simpa using hn
    subst this
    exact ci EM <| M.Of G C.room g (dh o)
   ·exact cA
  ·split
   ·rename_i hs
    have hs':=hs
    rw [Yc,WP] at hs
    exact ci qY <| M.Rn G C.room (fN hE _) g (dh o) (bV hs.1) (ig hs.2)
   ·exact cA
 ·rename_i hg
  obtain⟨g,o,G⟩:=jR C hg
  split
  ·rename_i z
   rw [beq_iff_eq] at z;subst z
   unfold Sz
   split
   ·split
    ·rename_i y hy
     obtain⟨p2,rfl⟩:=mX hy
     split
     ·rename_i T h1 h2
      obtain⟨g',o',G'⟩:=jR C h1
      split
      ·rename_i hs
       exact ci Gy <| M.JG G G' (FX h2).1 (hE _) (FX h2).2 g g' (iH o') (dh o') (bV hs) rfl rfl
      ·exact cA
     ·exact cA
    ·exact cA
   ·exact cA
  ·split
   ·rename_i a ha
    split at ha
    ·rename_i z
     rw [beq_iff_eq] at z;subst z
     obtain⟨p3,p4,rfl,hb,hs⟩:=AR ha
     obtain⟨m2,g2,o2⟩:=nu C hb
     exact cA
    ·cases ha
   ·split
    ·rename_i a ha
     split at ha
     ·rename_i z
      rw [beq_iff_eq] at z;subst z
      obtain⟨p3,p4,rfl,hb,hs⟩:=vU ha
      obtain⟨m2,g2,o2⟩:=nu C hb
      exact ci xp (M.Ob C.calm G m2 g g2 (fN hE _) (bV hs))
     ·cases ha
    ·split
     ·rename_i _ f e r hf
      split
      ·rename_i hs
       exact RA C (by assumption) G g o hs (fN hE _)
      ·exact cA
     ·exact cA
 ·exact cA
def FM:Expr->Option (Expr×Str×Pos)
 | .Attribute o nm ap=>some (o,nm,ap)
 | _=>none
def Do{o:Expr}{nm:Str}{ap:Pos}(h:FM e=some (o,nm,ap)):e=.Attribute o nm ap:=by cases e <;> cases h;rfl
def LM(x:Str):Option MF:=if x == "append" then some cX else if x == "count" then some om else if x == "index" then some nB else if x == "extend" then some fG else none
def LL{x:Str}{f:MF}(C:ky k c X)(h:LM x=some f):∃ id,Slot "list" x id/\typeOf (.builtin id)=pure (.type "method_descriptor")/\MtR X id (OB X.K f):=by
 unfold LM at h
 split at h
 ·rename_i z;cases h;rw [beq_iff_eq] at z;subst z;exact⟨_,aaV,F.type_list_append,Iw⟩
 split at h
 ·rename_i z;cases h;rw [beq_iff_eq] at z;subst z;exact⟨_,ZL,F.type_list_count,Bv C.room.units⟩
 split at h
 ·rename_i z;cases h;rw [beq_iff_eq] at z;subst z;exact⟨_,F.slot_list_index,F.type_list_index,LK C.room.units⟩
 split at h
 ·rename_i z;cases h;rw [beq_iff_eq] at z;subst z;exact⟨_,ZG,F.type_list_extend,Iu⟩
 cases h
def Eu(x:Str):Option MF:=if x == "update" then some vn else none
def Ix{x:Str}{f:MF}(C:ky k c X)(h:Eu x=some f):∃ id,Slot "dict" x id/\typeOf (.builtin id)=pure (.type "method_descriptor")/\MtR X id (OB X.K f):=by
 unfold Eu at h
 split at h
 ·rename_i z;cases h;rw [beq_iff_eq] at z;subst z;exact⟨_,aaW,F.type_dict_update,Qa⟩
 cases h
def AO:∀ {es:List Expr},es.all cE=true->(backTo pos (starEach es X.env)).all (fun x=>!x.1)=true
 | [],_=>rfl
 | e::es,h=>by
  rw [Yc,WP] at h
  rw [bV h.1]
  show (true&&(backTo pos (starEach es X.env)).all (fun x=>!x.1))=true
  rw [AO h.2];rfl
def TC(o:Expr):Bool:=match o with | .Call _ _ _ _=>false | _=>true
def Ad(z:Bool)(E:Expr->ME)(o:Expr)(nm:Str)(ap cp:Pos)(es:List Expr):ME:=match TC o,es with
 | true,e::r=>if (e::r).all cE&&(decide ((e::r).length<30)&&ap.endLine == cp.line) then
   (if nm == "count" then ju (E o) (xU E (e::r)) else match Eu nm with | some f=>dX f (E o) (xU E (e::r)) | none=>match LM nm with | some f=>di f (E o) (xU E (e::r)) | none=>jj) else jj
 | _,_=>jj
def Jp{z:Bool}(C:ky k c X){E:Expr->ME}(hE:∀ e,DE X e (E e)){o:Expr}{nm:Str}{ap:Pos}{es:List Expr}:DE X (.Call (.Attribute o nm ap) es [] pos) (Ad z E o nm ap pos es):=by
 unfold Ad
 split
 ·rename_i e r hx
  split
  ·rename_i h
   rw [WP,WP] at h
   have hs:=h.1
   rw [Yc,WP] at hs
   have few:((backTo pos (starEach (e::r) X.env)).all (fun x=>!x.1)&&(backToKw pos (keywordEach [] X.env)).all (fun x=>x.1.isSome)&&decide ((e::r).length+([]:List Keyword).length+(if ([]:List Keyword).isEmpty then 0 else 1)<30))=true:=by
    rw [AO h.1]
    show (true&&decide ((e::r).length+0+0<30))=true
    exact h.2.1
   split
   ·rename_i hc
    rw [beq_iff_eq] at hc;subst hc
    exact ci GD (M.Wb C.room.units (hE _) (fN hE _) (vI hx) few h.2.2 (bV hs.1) (ig hs.2))
   ·split
    ·rename_i f hf
     obtain⟨id,h1,h2,h3⟩:=Ix C hf
     exact ci xo (M.Oa h1 h2 h3 (hE _) (fN hE _) (vI hx) few h.2.2 (bV hs.1) (ig hs.2))
    ·split
     ·rename_i f hf
      obtain⟨id,h1,h2,h3⟩:=LL C hf
      exact ci BY (M.Hd h1 h2 h3 (hE _) (fN hE _) (vI hx) few h.2.2 (bV hs.1) (ig hs.2))
     ·exact cA
  ·exact cA
 ·exact cA
def Bs:Expr->Bool
 | .Slice _ _ _ _=>false
 | _=>true
def Jr(G:Expr->MG):List Expr->vL
 | []=>aB
 | e::r=>af (if cE e then G e else MJ) (Jr G r)
def sP(c:CI)(x:Str):MG:=match c.sc.names.lookup x,oF x c.N with
 | some .local,some i=>ah i
 | some .cell,some i=>if c.all then ah i else MJ
 | _,_=>MJ
def QN(c:CI)(E:Expr->ME):Expr->MG
 | .Name x _=>sP c x
 | .Subscript o i _=>if Bs i then eW (E o) (E i) else MJ
 | _=>MJ
def OC(c:CI)(E:Expr->ME):Expr->MG
 | .Tuple es _ _=>if es.all cE then aE es.length (Jr (fun e=>match e with | .Tuple es _ _=>if es.all cE then aE es.length (Jr (QN c E) es) else MJ | e=>QN c E e) es) else MJ
 | e=>QN c E e
def QL(C:ky k c X)(x:Str):DG X (.Name x pos) (sP c x):=by
 unfold sP
 split
 ·rename_i h1 h2
  exact Hj oh <| M.Hc (by rw [C.N];exact C.nd) (by rw [C.N];exact cV h2) (by rw [C.sc];exact .inl h1) (.inr (by rw [C.sc];exact h1))
 ·rename_i h1 h2
  split
  ·rename_i ha
   exact Hj oh <| M.Hc (by rw [C.N];exact C.nd) (by rw [C.N];exact cV h2) (by rw [C.sc];exact .inr h1) (.inl (C.fn ha x))
  ·exact De
 ·exact De
def QM(C:ky k c X){E:Expr->ME}(hE:∀ e,DE X e (E e))(e:Expr):DG X e (QN c E e):=by
 cases e with
 | Name x p=>exact QL C x
 | Subscript o i p=>
  show DG X _ (if Bs i then eW (E o) (E i) else MJ)
  split
  ·rename_i h
   refine Hj CG (M.VP (hE o) (hE i) ?_)
   cases i <;> first | (intro _;rfl) | cases h
  ·exact De
 | _=>exact De
def rJ{es:List Expr}(h:cE e=true):assignEach (e::es) X.env=(false,assign e X.env)::assignEach es X.env:=by cases e <;> first | rfl | cases h
def Au:∀ {es:List Expr},es.all cE=true->(assignEach es X.env).length=es.length/\(assignEach es X.env).findIdx? (·.1)=none
 | [],_=>⟨rfl,rfl⟩
 | e::es,h=>by
  rw [Yc,WP] at h
  rw [rJ h.1]
  obtain⟨a,b⟩:=Au h.2
  exact⟨by simp [a],by simp [Yw,b]⟩
def GW{G:Expr->MG}(hG:∀ e,DG X e (G e)):∀ es:List Expr,es.all cE=true->WG X es (Jr G es)
 | [],_=>Oo CH <| M.Rc
 | e::r,h=>by
  rw [Yc,WP] at h
  unfold Jr
  rw [Xc h.1]
  exact Oo xN <| M.NV (hG e) (GW hG r h.2) (by rw [rJ h.1];rfl)
def GV(C:ky k c X){G:Expr->MG}(hG:∀ e,DG X e (G e))(es:List Expr)(j:Nat):DG X (.Tuple es j pos) (if es.all cE then aE es.length (Jr G es) else MJ):=by
 split
 ·rename_i h
  exact Hj nz <| M.VO C.calm (GW hG es h) (Au h).1 (Au h).2
 ·exact De
def nD(C:ky k c X){E:Expr->ME}(hE:∀ e,DE X e (E e))(e:Expr):DG X e (OC c E e):=by
 have h1:=QM C hE
 cases e with
 | Tuple es j p=>
  refine GV C (fun e=>?_) es j
  cases e with
  | Tuple es j p=>exact GV C h1 es j
  | _=>exact h1 _
 | _=>exact h1 _
def evI(c:CI)(E:Expr->ME)(tg it:Expr):MA:=match vD it with
 | some (x,es)=>if x == "enumerate" && oQ c x then (match tg,es with
   | .Tuple _ _ _,[a]=>if cE a then el (xU E [a]) else wv
   | _,_=>wv) else if x == "zip" && oQ c x then (match tg,es with
   | .Tuple _ _ tp,[a,b]=>if cE a&&cE b then (kN (xU E [a,b])) else wv
   | _,_=>wv) else if x == "range" && oQ c x then (match es with
   | [a]=>if cE a then bZ (xU E [a]) else wv
   | [a,b]=>if cE a&&cE b then dm (xU E [a,b]) else wv
   | _=>wv) else cZ (E it)
 | none=>cZ (E it)
def Fq(C:ky k c X){E:Expr->ME}(hE:∀ e,DE X e (E e)){tg it:Expr}:DI X tg it (evI c E tg it):=by
 unfold evI
 split
 ·rename_i x es he
  obtain⟨p,p2,rfl⟩:=nN he
  split
  ·rename_i hx
   rw [WP] at hx
   obtain⟨m,g,o⟩:=nu C hx.2
   have z:=hx.1
   rw [beq_iff_eq] at z;subst z
   split
   ·split
    ·rename_i h
     exact ya Cb (M.Rb m (fN hE _) g (bV h))
    ·exact vy
   ·exact vy
  split
  ·rename_i hx
   rw [WP] at hx
   obtain⟨m,g,o⟩:=nu C hx.2
   have z:=hx.1
   rw [beq_iff_eq] at z;subst z
   split
   ·split
    ·rename_i h
     rw [WP] at h
     exact ya Gq (M.VN m (fN hE _) g (by rw [bV h.1,bV h.2];rfl) (bV h.2))
    ·exact vy
   ·exact vy
  split
  ·rename_i hx
   rw [WP] at hx
   obtain⟨m,g,o⟩:=nu C hx.2
   have z:=hx.1
   rw [beq_iff_eq] at z;subst z
   split
   ·split
    ·rename_i h
     exact ya uG <| M.JE m (fN hE _) g (bV h)
    ·exact vy
   ·split
    ·rename_i h
     rw [WP] at h
     exact ya uF <| M.JD m (fN hE _) g (by rw [bV h.1,bV h.2];rfl) (bV h.2)
    ·exact vy
   ·exact vy
  ·exact ya zC <| M.FE (hE _)
 ·exact ya zC <| M.FE (hE _)
def Sn(c:CI)(it:Expr):Bool:=match vD it with | some (x,_)=>(x == "enumerate" || x == "zip" || x == "range")&&oQ c x | none=>false
def mQ(scope sc:Scope):Scope:={ scope with names:=scope.names.map fun x=>match x with | (n,k)=>if (k == NameKind.free&&sc.kind == .function&&sc.names.lookup n == some .cell)=true then (n,.cell) else (n,k) }
def RV(scope:Scope)(env:Env):relabel scope env=mQ scope env.scope:=rfl
def Dn(scope:Scope):List Str:=(scope.names.filter fun x=>x.2 == .local && !(x.1 == (".0":Str))).map (·.1)++(scope.names.filter fun x=>x.2 == .free).map (·.1)
def vG(c:CI)(scope:Scope):List (Option Nat):=(scope.names.filter fun x=>x.2 == .local && !(x.1 == (".0":Str))).map (fun _=>none)++(scope.names.filter fun x=>x.2 == .free).map (fun x=>oF x.1 c.N)
def Wo(c:CI)(scope:Scope):Bool:=
 scope.kind == .function&&(scope.names.all fun x=>x.2 != .cell)&&(scope.names.all fun x=>x.2 != .local||scope.names.lookup x.1 == some .local)
 && (scope.names.all fun x=>x.2 != .free||c.sc.names.lookup x.1 == some .cell||c.sc.names.lookup x.1 == some .free)
 && wC c.N (Dn scope) (fun y=>c.sc.names.lookup y) (fun y=>(mQ scope c.sc).names.lookup y) (vG c scope) (Dn scope)&&decide (Dn scope).Nodup
def Ar(c:CI)(scope:Scope):CI:=⟨Dn scope,mQ scope c.sc,false,c.gs,c.mt⟩
def Hk{scope:Scope}(C:ky k c X)(h:Wo c scope=true):BlockOk X (Dn scope) scope (vG c scope)/\∀ A s H fp,ky k (Ar c scope) (oq X (Dn scope) scope A s H fp):=by
 unfold Wo at h
 simp only [WP,Ye,beq_iff_eq] at h
 obtain⟨⟨⟨⟨⟨h1,h2⟩,h3⟩,h4⟩,h5⟩,h6⟩:=h
 refine⟨blk h6 h1 h2 h3 ?_ ?_,fun A s H fp=>⟨rfl,h6,?_,h1,(fun z=>nomatch z),C.calm,C.room,rfl,C.gs⟩⟩
 ·show (scope.names.all fun x=>x.2 != .free||X.env.scope.names.lookup x.1 == some .cell||X.env.scope.names.lookup x.1 == some .free)=true
  rw [C.sc];exact h4
 ·show wC X.N (Dn scope) (fun y=>X.env.scope.names.lookup y) (fun y=>(mQ scope X.env.scope).names.lookup y) (vG c scope) (Dn scope)=true
  rw [C.sc,C.N];exact h5
 ·show mQ scope X.env.scope=_
  rw [C.sc];rfl
def VB(T:Expr->MT):List Expr->MT
 | []=>bH
 | [e]=>T e
 | _=>wu
def tD{T:Expr->MT}(hT:∀ e,DT X e (T e)):∀ es:List Expr,OE X es (VB T es)
 | []=>Wi BU <| M.NG
 | [e]=>QO (hT e)
 | _::_::_=>fun _ _ _ _ _ _ ⟨_,_,_,_,_,_,_,h,_⟩=>by cases h
def nE(c:CI)(E:CI->Expr->ME)(T:CI->Expr->MT)(elt:Expr)(gens:List Comprehension)(scope:Scope)(line:Nat):ME:=match gens with
 | [⟨tg,it,ifs,a⟩]=>if a == 0&&lT it&&Wo c scope then if c.mt.contains (line+100000) then cR (E c it) (OC (Ar c scope) (E (Ar c scope)) tg) (VB (T (Ar c scope)) ifs) (E (Ar c scope) elt) (vG c scope) else bE (evI c (E c) tg it) (OC (Ar c scope) (E (Ar c scope)) tg) (VB (T (Ar c scope)) ifs) (E (Ar c scope) elt) (vG c scope) else jj
 | _=>jj
def xT(C:ky k c X)(hE:∀ c X,ky k c X->∀ e,DE X e (E c e))(hT:∀ c X,ky k c X->∀ e,DT X e (T c e)){elt:Expr}{gens:List Comprehension}{scope:Scope}{line:Nat}:DE X (.ListComp elt gens scope pos) (nE c E T elt gens scope line):=by
 unfold nE
 split
 ·rename_i tg it ifs a
  split
  ·rename_i h
   simp only [WP,beq_iff_eq] at h
   obtain⟨⟨h0,h1⟩,h2⟩:=h
   subst h0
   obtain⟨B,C'⟩:=Hk C h2
   split
   ·exact ci qW <| M.Od C.calm B (hE _ _ C it) (fun A s H fp=>nD (C' A s H fp) (hE _ _ (C' A s H fp)) tg) (fun A s H fp=>tD (hT _ _ (C' A s H fp)) ifs) (fun A s H fp=>hE _ _ (C' A s H fp) elt) (gv h1)
   ·exact ci uH <| M.Rj C.calm B (Fq C (hE _ _ C)) (fun A s H fp=>nD (C' A s H fp) (hE _ _ (C' A s H fp)) tg) (fun A s H fp=>tD (hT _ _ (C' A s H fp)) ifs) (fun A s H fp=>hE _ _ (C' A s H fp) elt) (gv h1)
  ·exact cA
 ·exact cA
def VC(E:Expr->ME):List (Option Expr)->List Expr->Option (List (ME×ME))
 | [],[]=>some []
 | some k::ks,v::vs=>(VC E ks vs).bind fun r=>some ((E k,E v)::r)
 | _,_=>none
def GT{E:Expr->ME}(hE:∀ e,DE X e (E e)):∀ {ks:List (Option Expr)} {vs:List Expr} {ms:List (ME×ME)},VC E ks vs=some ms->DPs X pos ks vs ms/\ks.all (·.isSome)=true/\ks.length=vs.length
 | [],[],ms,h=>by cases h;exact⟨QY,rfl,rfl⟩
 | some k::ks,v::vs,ms,h=>by
  obtain⟨r,h1,h2⟩:=WI.mp h
  cases h2
  obtain⟨a,b,d⟩:=GT hE h1
  exact⟨NP (hE k) (hE v) a,by rw [Yc,b];rfl,by rw [WT,WT,d]⟩
 | [],_::_,_,h=>by cases h
 | none::_,_,_,h=>by cases h
 | some _::_,[],_,h=>by cases h
def Fs(c:CI)(E:Expr->ME)(ks:List (Option Expr))(vs:List Expr)(line:Nat):ME:=match ks with
 | []=>if vs.isEmpty && !c.mt.contains line then mC (.dct [] []) else jj
 | k::r=>if (k::r).length<=15 then (match VC E (k::r) vs with | some ms=>if c.mt.contains line then dZ ms else gy ms | none=>jj) else jj
def Js{E:Expr->ME}(hE:∀ e,DE X e (E e))(ks:List (Option Expr))(vs:List Expr)(line:Nat):DE X (.Dict ks vs pos) (Fs c E ks vs line):=by
 unfold Fs
 split
 ·split
  ·rename_i h
   rw [WP] at h
   have:vs=[]:=by simpa using h.1
   subst this
   exact ci uI <| M.Rh
  ·exact cA
 ·rename_i k r
  split
  ·rename_i hl
   split
   ·rename_i ms h
    obtain⟨a,b,d⟩:=GT (pos:=pos) hE h
    split
    ·exact ci xq (M.Oc a b d (by simp) hl)
    ·exact ci Ce (M.Ri a b d (by simp) hl)
   ·exact cA
  ·exact cA
def No(E:Expr->ME):List Expr->ME
 | []=>jj
 | _=>jj
def Jq{E:Expr->ME}(hE:∀ e,DE X e (E e)):∀ es:List Expr,DE X (.JoinedStr es pos) (No E es)
 | []=>cA
 | _::_=>cA
def SA(E:Expr->ME)(v:Expr)(cv:Int)(f:Option Expr):ME:=match cv,f with
 | _,_=>jj
def Np{E:Expr->ME}(hE:∀ e,DE X e (E e)){v:Expr}{cv:Int}{f:Option Expr}:DE X (.FormattedValue v cv f pos) (SA E v cv f):=by
 exact cA
def RU(E:CI->Expr->ME)(T:CI->Expr->MT)(c:CI):Expr->ME
 | .Constant v _ _=>GX v
 | .Name x _=>Fo c x
 | .BinOp a op b p=>Nu (c.mt.contains (p.line+200000)) op (E c a) (E c b)
 | .UnaryOp op a _=>evUn op (E c a)
 | .Compare a ops bs _=>Nr c E a ops bs
 | .BoolOp op vs _=>match op with | .And=>CM dG (vs.map (E c)) | .Or=>CM tf (vs.map (E c))
 | .IfExp t a b _=>lL (T c t) (E c a) (E c b)
 | .Tuple es _ _=>aM (xU (E c) es)
 | .List es pos=>if c.mt.contains pos.line then dj (xU (E c) es) else eM (xU (E c) es)
 | .Dict ks vs pos=>Fs c (E c) ks vs pos.line
 | .Subscript a i _=>Sy c (E c) a i
 | .Call f es ks p=>match ul f,FM f,ks with | some x,_,[]=>Ae c (E c) x es | none,some (o,nm,ap),[]=>Ad (c.mt.contains 500000) (E c) o nm ap p es | _,_,_=>jj
 | .ListComp elt gens scope p=>nE c E T elt gens scope p.line
 | .JoinedStr es _=>No (E c) es
 | .FormattedValue v cv f _=>SA (E c) v cv f
 | _=>jj
def RS(E:CI->Expr->ME)(T:CI->Expr->MT)(c:CI):Expr->MT
 | .UnaryOp op a p=>match op with | .Not=>dH (T c a) | op=>da (E c (.UnaryOp op a p))
 | .BoolOp op vs _=>match op with | .And=>vi cF (vs.map (T c)) | .Or=>vi eL (vs.map (T c))
 | .Compare a ops bs _=>Fu c E a ops bs
 | .IfExp _ _ _ _=>wu
 | e=>da (E c e)
def KF(hE:∀ c X,ky k c X->∀ e,DE X e (E c e))(hT:∀ c X,ky k c X->∀ e,DT X e (T c e))(C:ky k c X)(e:Expr):DE X e (RU E T c e):=by
 have h1:=hE c X C
 have h2:=hT c X C
 cases e with
 | Constant v j p=>exact Ft v
 | Name x p=>exact Jo C x
 | BinOp a op b p=>
  show DE X _ (Nu (c.mt.contains (p.line+200000)) op (E c a) (E c b))
  exact Nt (z:=c.mt.contains (p.line+200000)) (h1 a) (h1 b)
 | UnaryOp op a p=>exact QK (h1 a)
 | Compare a ops bs p=>exact Nq C h1
 | BoolOp op vs p=>cases op with | And=>exact xP h1 vs | Or=>exact CL h1 vs
 | IfExp t a b p=>exact ci Mb <| M.de_if (h2 t) (h1 a) (h1 b)
 | Tuple es j p=>exact ci Gr <| M.VT (fN h1 es)
 | List es p=>
  show DE X _ (if c.mt.contains p.line then dj (xU (E c) es) else eM (xU (E c) es))
  split
  ·exact ci BZ <| M.Rf (fN h1 es)
  ·exact ci Gx <| M.VY (fN h1 es)
 | Dict ks vs p=>exact Js h1 ks vs p.line
 | Subscript a i p=>exact Nk C h1 a i
 | Call f es ks p=>
  show DE X _ (match ul f,FM f,ks with | some x,_,[]=>Ae c (E c) x es | none,some (o,nm,ap),[]=>Ad (c.mt.contains 500000) (E c) o nm ap p es | _,_,_=>jj)
  split
  ·rename_i x h
   obtain⟨p2,rfl⟩:=mX h
   exact Ju C h1
  ·rename_i o nm ap _ ha
   have:=Do ha
   subst this
   exact Jp C h1
  ·exact cA
 | ListComp elt gens scope p=>exact xT C hE hT
 | JoinedStr es p=>exact Jq h1 es
 | FormattedValue v cv f p=>exact Np h1
 | _=>exact cA
def KD(hE:∀ c X,ky k c X->∀ e,DE X e (E c e))(hT:∀ c X,ky k c X->∀ e,DT X e (T c e))(C:ky k c X)(e:Expr):DT X e (RS E T c e):=by
 have h1:=hE c X C
 have h2:=hT c X C
 cases e with
 | UnaryOp op a p=>cases op <;> first | exact Dk BX <| M.VF (h2 a) | exact Dk zy <| M.CV (h1 _)
 | BoolOp op vs p=>cases op with | And=>exact Je h2 vs | Or=>exact ML h2 vs
 | Compare a ops bs p=>exact Jt C h1
 | IfExp t a b p=>exact qA
 | _=>exact Dk zy <| M.CV (h1 _)
def ev:Nat->(CI->Expr->ME)×(CI->Expr->MT)
 | 0=>(fun _ _=>jj,fun _ _=>wu)
 | n+1=>(RU (ev n).1 (ev n).2,RS (ev n).1 (ev n).2)
def sx:∀ n:Nat,(∀ c X,ky k c X->∀ e,DE X e ((ev n).1 c e))/\(∀ c X,ky k c X->∀ e,DT X e ((ev n).2 c e))
 | 0=>⟨fun _ _ _ _=>cA,fun _ _ _ _=>qA⟩
 | n+1=>⟨fun _ _ C e=>KF (sx n).1 (sx n).2 C e,fun _ _ C e=>KD (sx n).1 (sx n).2 C e⟩
def lU:Expr->Bool
 | .ListComp _ _ _ _=>false
 | .SetComp _ _ _ _=>false
 | .DictComp _ _ _ _ _=>false
 | _=>true
def iD{t:Option Expr}{l:Nat}(h:lU e=true):swapsWith e t l X.env=pure false:=by cases e <;> first | rfl | cases h
def xG:Expr->Bool
 | .Tuple _ _ _=>true
 | .List _ _=>true
 | _=>false
def El{t:Expr}(h:xG t=false\/xG e=false):swappedStores [t] e X.env=pure none:=by
 rcases h with h | h
 ·cases t <;> first | rfl | cases h
 ·cases t <;> first | rfl | (cases e <;> first | rfl | cases h)
def Nz(c:CI)(E:CI->Expr->ME)(T:CI->Expr->MT)(x:Str)(px:Pos)(e:Expr):MS:=match e with
 | .ListComp elt gens scope p=>if c.all&&(c.sc.names.lookup x == some .local&&px.line == p.line && !(scope.names.any fun y=>y.1 == x&&(y.2 == .local||y.2 == .cell))) then aI (nE c E T elt gens scope p.line) (sP c x) else if c.all&&c.sc.names.lookup x == some .cell then aI (nE c E T elt gens scope p.line) (sP c x) else jL
 | e=>if lU e then aI (E c e) (sP c x) else jL
def TY:Expr->Option (Str×Pos×Str×Pos)
 | .Tuple [.Name x px,.Name y py] _ _=>some (x,px,y,py)
 | _=>none
def Ii{t:Expr}{x y:Str}{px py:Pos}(h:TY t=some (x,px,y,py)):∃ k p,t=.Tuple [.Name x px,.Name y py] k p:=by
 unfold TY at h
 split at h
 ·cases h;exact⟨_,_,rfl⟩
 ·cases h
def SX:Expr->Option (Expr×Expr)
 | .Tuple [a,b] _ _=>some (a,b)
 | _=>none
def HD{t a b:Expr}(h:SX t=some (a,b)):∃ k p,t=.Tuple [a,b] k p:=by
 unfold SX at h
 split at h
 ·cases h;exact⟨_,_,rfl⟩
 ·cases h
def DF{x y:Str}{px py p p2:Pos}{k k2:Nat}{a b:Expr}(h:(X.env.kindOf x == some NameKind.local&&X.env.kindOf y == some NameKind.local)=false):swappedStores [.Tuple [.Name x px,.Name y py] k p] (.Tuple [a,b] k2 p2) X.env=pure none:=by
 unfold swappedStores
 simp only
 split
 ·rfl
 split
 ·rfl
 rw [Xc]
 generalize hg:List.filterMap _ [Expr.Name x px,Expr.Name y py]=L
 have hL:L.length<=1:=by
  rw [<- hg,Yg,Yg]
  cases hx:(X.env.kindOf x == some NameKind.local) with
  | false=>simp only [hx,Ym,XJ,YN];split <;> simp
  | true=>
   have hy:(X.env.kindOf y == some NameKind.local)=false:=by rw [hx,Yt] at h;exact h
   simp only [hy,Ym,XJ,YN];split <;> simp
 have h2:(L.length != [Expr.Name x px,Expr.Name y py].length)=true:=by
  rw [bne_iff_ne];show L.length≠2;omega
 rw [h2];rfl
def Gj(c:CI)(x y:Str):Bool:=!(c.sc.names.lookup x == some .local&&c.sc.names.lookup y == some .local)
def GU(c:CI)(E:CI->Expr->ME)(t e:Expr):Option MS:=match TY t,SX e with
 | some (x,px,y,py),some (a,b)=>if Gj c x y then some (aI (E c e) (OC c (E c) t)) else match oF x c.N,oF y c.N with
  | some i,some j=>if (c.all&&c.sc.names.lookup x == some .local&&c.sc.names.lookup y == some .local && !(x == y)&&py.line == px.line&&tZ a&&tZ b && !(foldedForSure 8 a&&foldedForSure 8 b) && !(constantsAlone 8 a&&constantsAlone 8 b) && !(i == j))=true then some (lq i j (xU (E c) [a,b])) else none
  | _,_=>none
 | _,_=>none
def Nm(C:ky k c X){E:CI->Expr->ME}(hE:∀ e,DE X e (E c e)){t:Expr}{m:MS}(h:GU c E t e=some m):DS X (.Assign [t] e pos) m:=by
 unfold GU at h
 split at h
 ·rename_i x px y py a b h1 h2
  obtain⟨k1,p1,rfl⟩:=Ii h1
  obtain⟨k2,p2,rfl⟩:=HD h2
  split at h
  ·rename_i hn
   cases h
   refine iO iE <| M.NO (hE _) (nD C hE _) rfl (DF ?_) rfl
   unfold Gj at hn
   rw [Bool.not_eq_true'] at hn
   show (X.env.scope.names.lookup x == some NameKind.local&&X.env.scope.names.lookup y == some NameKind.local)=false
   rw [C.sc];exact hn
  split at h
  ·rename_i i j hi hj
   split at h
   ·rename_i hc
    cases h
    simp only [WP,beq_iff_eq,Bool.not_eq_true'] at hc
    obtain⟨⟨⟨⟨⟨⟨⟨⟨⟨_,hx⟩,hy⟩,hne⟩,hl⟩,ha⟩,hb⟩,hf⟩,hcn⟩,hij⟩:=hc
    have hx':X.env.scope.names.lookup x=some .local:=by rw [C.sc];exact hx
    have hy':X.env.scope.names.lookup y=some .local:=by rw [C.sc];exact hy
    have hbk:X.env.blockKind=.function:=by unfold Env.blockKind;rw [C.sc,C.fk];rfl
    exact iO Gv (M.VJ C.calm (by rw [C.N];exact C.nd) (by rw [C.N];exact cV hi) (by rw [C.N];exact cV hj) (by simpa using hij) hx' hy' (fN hE _) (KB hbk hx' hy' hne (by simpa using hl) ha hb hf hcn))
   ·cases h
  ·cases h
 ·cases h
def NA(c:CI)(E:CI->Expr->ME)(T:CI->Expr->MT)(t e:Expr):MS:=match t with
 | .Name x px=>Nz c E T x px e
 | t=>match GU c E t e with
 | some m=>m
 | none=>if lU e&&cE t&&(!xG t || !xG e) then aI (E c e) (OC c (E c) t) else jL
def qg{m:ME}{s:Stmt}:DS X s (aI m MJ):=fun _ _ _ _ _ _ ⟨_,_,_,_,_,_,h,_⟩=>by
 rw [iE] at h
 obtain⟨_,_,h⟩:=WI.mp h
 cases h
def Jv(C:ky k c X)(hE:∀ c X,ky k c X->∀ e,DE X e (E c e))(hT:∀ c X,ky k c X->∀ e,DT X e (T c e)){x:Str}{px:Pos}:DS X (.Assign [.Name x px] e pos) (Nz c E T x px e):=by
 have h1:=hE c X C
 have gen:∀ e,lU e=true->DS X (.Assign [.Name x px] e pos) (aI (E c e) (sP c x)):=fun e hn=>by
  unfold sP
  split
  ·rename_i h1' h2
   exact iO lX <| M.Fw (by rw [C.N];exact C.nd) (by rw [C.N];exact cV h2) (by rw [C.sc];exact .inl h1') (h1 e) (iD hn) (.inr (by rw [C.sc];exact h1'))
  ·rename_i h1' h2
   split
   ·rename_i ha
    exact iO lX <| M.Fw (by rw [C.N];exact C.nd) (by rw [C.N];exact cV h2) (by rw [C.sc];exact .inr h1') (h1 e) (iD hn) (.inl (C.fn ha x))
   ·exact qg
  ·exact qg
 cases e with
 | ListComp elt gens scope p=>
  show DS X _ (if c.all&&(c.sc.names.lookup x == some .local&&px.line == p.line && !(scope.names.any fun y=>y.1 == x&&(y.2 == .local||y.2 == .cell))) then aI (nE c E T elt gens scope p.line) (sP c x) else if c.all&&c.sc.names.lookup x == some .cell then aI (nE c E T elt gens scope p.line) (sP c x) else jL)
  split
  ·rename_i hw
   rw [WP] at hw
   have hw1:=hw.2
   simp only [WP,beq_iff_eq] at hw1
   have hl:=hw1.1.1
   unfold sP
   rw [hl]
   cases hi:oF x c.N with
   | none=>exact qg
   | some i=>
    have sw:(pure (X.env.blockKind == .function&&X.env.scope.names.lookup x == some .local&&px.line == p.line && !(scope.names.any fun y=>y.1 == x&&(y.2 == .local||y.2 == .cell))):Sem Bool)=pure true:=by
     have hb:X.env.blockKind=.function:=by unfold Env.blockKind;rw [C.sc,C.fk];rfl
     rw [hb,C.sc]
     have:=hw.2
     simp only [Bool.and_assoc] at this ⊢
     rw [this];rfl
    unfold nE
    split
    ·rename_i tg it ifs a
     split
     ·rename_i h
      simp only [WP,beq_iff_eq] at h
      obtain⟨⟨h0,h1'⟩,h2⟩:=h
      subst h0
      obtain⟨B,C'⟩:=Hk C h2
      split
      ·exact iO zD <| M.CW (by rw [C.N];exact C.nd) (by rw [C.N];exact cV hi) (by rw [C.sc];exact .inl hl) C.calm B (hE _ _ C it) (fun A s H fp=>nD (C' A s H fp) (hE _ _ (C' A s H fp)) tg) (fun A s H fp=>tD (hT _ _ (C' A s H fp)) ifs) (fun A s H fp=>hE _ _ (C' A s H fp) elt) sw (gv h1') (.inr (by rw [C.sc];exact hl))
      ·exact iO Ch <| M.Fv (by rw [C.N];exact C.nd) (by rw [C.N];exact cV hi) (by rw [C.sc];exact .inl hl) C.calm B (Fq C (hE _ _ C)) (fun A s H fp=>nD (C' A s H fp) (hE _ _ (C' A s H fp)) tg) (fun A s H fp=>tD (hT _ _ (C' A s H fp)) ifs) (fun A s H fp=>hE _ _ (C' A s H fp) elt) sw (gv h1') (.inr (by rw [C.sc];exact hl))
     ·intro _ _ _ _ _ _ ⟨_,_,_,_,_,_,h,_⟩
      rw [iE] at h
      obtain⟨_,z,h⟩:=WI.mp h
      cases z
    ·intro _ _ _ _ _ _ ⟨_,_,_,_,_,_,h,_⟩
     rw [iE] at h
     obtain⟨_,z,h⟩:=WI.mp h
     cases z
  ·split
   ·rename_i hw
    rw [WP,beq_iff_eq] at hw
    unfold sP
    rw [hw.2]
    cases hi:oF x c.N with
    | none=>exact qg
    | some i=>
     dsimp only
     rw [Xc hw.1]
     refine iO lX <| M.Fw (by rw [C.N];exact C.nd) (by rw [C.N];exact cV hi) (by rw [C.sc];exact .inr hw.2) (xT C hE hT) ?_ (.inl (C.fn hw.1 x))
     show (pure (X.env.blockKind == .function&&X.env.scope.names.lookup x == some .local&&px.line == p.line && !(scope.names.any fun y=>y.1 == x&&(y.2 == .local||y.2 == .cell))):Sem Bool)=pure false
     rw [C.sc,hw.2]
     have:((some NameKind.cell:Option NameKind) == some .local)=false:=by decide
     rw [this,Yn];rfl
   ·exact kK
 | SetComp _ _ _ _=>exact kK
 | DictComp _ _ _ _ _=>exact kK
 | _=>exact gen _ rfl
def Ny(C:ky k c X)(hE:∀ c X,ky k c X->∀ e,DE X e (E c e))(hT:∀ c X,ky k c X->∀ e,DT X e (T c e)){t:Expr}:DS X (.Assign [t] e pos) (NA c E T t e):=by
 have gen:∀ t,DS X (.Assign [t] e pos) (match GU c E t e with | some m=>m | none=>if lU e&&cE t&&(!xG t || !xG e) then aI (E c e) (OC c (E c) t) else jL):=fun t=>by
  split
  ·rename_i h
   exact Nm C (hE _ _ C) h
  split
  ·rename_i h
   simp only [WP,Ze,Bool.not_eq_true'] at h
   refine iO iE <| M.NO (hE _ _ C e) (nD C (hE _ _ C) t) (iD h.1.1) (El h.2) ?_
   rw [rJ h.1.2];rfl
  ·exact kK
 cases t with
 | Name x px=>exact Jv C hE hT
 | _=>exact gen _
def vN:List MS->MS
 | []=>aY
 | [m]=>m
 | m::r=>ay m (vN r)
def lN{F:Stmt->MS}(h:∀ s,DS X s (F s)):∀ ss:List Stmt,wF X ss (vN (ss.map F))
 | []=>FH qe <| M.QS
 | [s]=>QR (h s)
 | s::s'::r=>FH Gs <| M.NK (h s) (lN h (s'::r))
def Fc:Expr->Bool
 | .Constant (.str _) _ _=>true
 | _=>false
def Nx(c:CI)(E:Expr->ME)(op:Operator)(e:Expr):Expr->MS
 | .Name x _=>match op,c.sc.names.lookup x,oF x c.N with
  | .Add,some .local,some i=>aI (ar Ng (ab i) (E e)) (ah i)
  | _,_,_=>jL
 | _=>jL
def Nw{E:Expr->ME}(C:ky k c X)(hE:∀ e,DE X e (E e)){op:Operator}(e:Expr)(t:Expr):DS X (.AugAssign t op e pos) (Nx c E op e t):=by
 unfold Nx
 split
 ·split
  ·rename_i h1 h2
   exact iO (by rw [lX,jK,zx]) (M.VM (by rw [C.N];exact C.nd) (by rw [C.N];exact cV h2) (by rw [C.sc];exact h1) (hE e))
  ·exact kK
 ·exact kK
def RT(E:CI->Expr->ME)(T:CI->Expr->MT)(F:CI->Stmt->MS)(c:CI):Stmt->MS
 | .Return o _=>match o with | some e=>aV (E c e) | none=>fun _ S=>some (.rt .non S)
 | .Pass _=>aY
 | .Break _=>fun env S=>some (.bk env S)
 | .Continue _=>fun env S=>some (.ct env S)
 | .Expr e _=>if Fc e then aY else if lU e then db (E c e) else jL
 | .If t a b _=>bC (T c t) (vN (a.map (F c))) (vN (b.map (F c)))
 | .Assign ts e _=>match ts with | [t]=>NA c E T t e | _=>jL
 | .AugAssign t op e _=>Nx c (E c) op e t
 | .While tst body els _=>match els with | []=>dU (T c tst) (vN (body.map (F c))) | _=>jL
 | .For tg it body els _=>match els with | []=>if lT it then (if Sn c it then ia (evI c (E c) tg it) (OC c (E c) tg) (vN (body.map (F c))) else dI (E c it) (OC c (E c) tg) (vN (body.map (F c)))) else jL | _=>jL
 | _=>jL
def KE{F:CI->Stmt->MS}(hE:∀ c X,ky k c X->∀ e,DE X e (E c e))(hT:∀ c X,ky k c X->∀ e,DT X e (T c e))(hF:∀ c X,ky k c X->∀ e,DS X e (F c e))(C:ky k c X)(s:Stmt):DS X s (RT E T F c s):=by
 have h1:=hE c X C
 have h2:=hT c X C
 have h3:=hF c X C
 cases s with
 | Return o p=>cases o with | none=>exact QT | some e=>exact iO Gu <| M.VI (h1 e)
 | Pass p=>exact iO qe <| M.QU
 | Break p=>exact NN
 | Continue p=>exact CY
 | Expr e p=>
  show DS X _ (if Fc e then aY else if lU e then db (E c e) else jL)
  split
  ·rename_i h
   unfold Fc at h
   split at h
   ·exact iO qe <| M.VL
   ·cases h
  ·split
   ·rename_i h;exact iO Cc <| M.QX (h1 e) (iD h)
   ·exact kK
 | If t a b p=>exact iO Gz <| M.ds_if (h2 t) (lN h3 a) (lN h3 b)
 | Assign ts e p=>
  show DS X _ (match ts with | [t]=>NA c E T t e | _=>jL)
  split
  ·exact Ny C hE hT
  ·exact kK
 | AugAssign t op e p=>exact Nw C h1 e t
 | While tst body els p=>
  cases els with
  | nil=>exact iO xh <| M.NL (by rw [C.xe];exact ZZ) (h2 tst) (lN h3 body)
  | cons _ _=>exact kK
 | For tg it body els p=>
  cases els with
  | nil=>
   show DS X _ (if lT it then (if Sn c it then ia (evI c (E c) tg it) (OC c (E c) tg) (vN (body.map (F c))) else dI (E c it) (OC c (E c) tg) (vN (body.map (F c)))) else jL)
   split
   ·rename_i h
    split
    ·exact iO GA <| M.NM (by rw [C.xe];exact ZZ) C.calm (Fq C h1) (nD C h1 tg) (lN h3 body) (gv h)
    ·exact iO Ca <| M.QW (by rw [C.xe];exact ZZ) C.calm (h1 it) (nD C h1 tg) (lN h3 body) (gv h)
   ·exact kK
  | cons _ _=>exact kK
 | _=>exact kK
def evS(n:Nat):Nat->CI->Stmt->MS
 | 0=>fun _ _=>jL
 | m+1=>RT (ev n).1 (ev n).2 (evS n m)
def Nl(n:Nat):∀ m:Nat,∀ c X,ky k c X->∀ s,DS X s (evS n m c s)
 | 0=>fun _ _ _ _=>kK
 | m+1=>fun _ _ C s=>KE (sx n).1 (sx n).2 (Nl n m) C s
def Wg:Stmt->Option (Str×Str×Expr)
 | .Assign [.Name b _] (.Subscript (.Name x _) (.Subscript o q p) _) _=>some (b,x,.Subscript o q p)
 | _=>none
def JJ{s:Stmt}{b x:Str}{ix:Expr}(h:Wg s=some (b,x,ix)):oA ix/\∃ pb pt ps pa,s=.Assign [.Name b pb] (.Subscript (.Name x pt) ix ps) pa:=by
 unfold Wg at h
 split at h
 ·cases h;exact⟨by intro _ _;rfl,_,_,_,_,rfl⟩
 ·cases h
def Wf:Stmt->Option (Str×Expr×List Expr)
 | .Return (some (.Call (.Name b _) (e::es) [] _)) _=>some (b,e,es)
 | _=>none
def JI{s:Stmt}{b:Str}{e:Expr}{es:List Expr}(h:Wf s=some (b,e,es)):∃ p pc pr,s=.Return (some (.Call (.Name b p) (e::es) [] pc)) pr:=by
 unfold Wf at h
 split at h
 ·cases h;exact⟨_,_,_,rfl⟩
 ·cases h
def SD(c:CI)(b x:Str)(ix:Expr)(e:Expr)(es:List Expr):Option MS:=match oF b c.N,Su c x with
 | some i,some (.ftab l)=>if fJ b&&c.sc.names.lookup b == some .local&&(e::es).all cE then some (gN l i ((ev 40).1 c ix) (xU ((ev 40).1 c) (e::es))) else none
 | _,_=>none
def Al(c:CI):List Stmt->Option MS
 | [s,t]=>match Wg s,Wf t with
  | some (b,x,ix),some (b',e,es)=>if b' == b then SD c b x ix e es else none
  | _,_=>none
 | _=>none
def JC(C:ky k c X){body:List Stmt}{m:MS}(h:Al c body=some m):wF X body m:=by
 unfold Al at h
 split at h
 ·rename_i s t
  split at h
  ·rename_i b x ix b' e es h1 h2
   obtain⟨hs,pb,pt,ps,pa,rfl⟩:=JJ h1
   obtain⟨p,pc,pr,rfl⟩:=JI h2
   split at h
   ·rename_i hb
    rw [beq_iff_eq] at hb;subst hb
    unfold SD at h
    split at h
    ·rename_i i l hi hg
     obtain⟨g,o,G⟩:=jR C hg
     split at h
     ·rename_i hc
      simp only [WP,beq_iff_eq] at hc
      obtain⟨⟨o1,h3⟩,h4⟩:=hc
      cases h
      rw [Yc,WP] at h4
      exact FH Cd <| M.NJ G g (dh o) ((sx 40).1 _ _ C ix) hs C.room (fN ((sx 40).1 _ _ C) _) (by rw [C.N];exact C.nd) (by rw [C.N];exact cV hi) (by rw [C.sc];exact .inl h3) (by rw [C.sc];exact .inl h3) (.inr (by rw [C.sc];exact h3)) (dh o1) (Br o1)
       (by rw [C.N];exact(WJ.mp (cV hi)).1) (bV h4.1) (ig h4.2)
     ·cases h
    ·cases h
   ·cases h
  ·cases h
 ·cases h
def gH(c:CI)(body:List Stmt):MS:=match Al c body with
 | some m=>m
 | none=>vN (body.map (evS 40 20 c))
def Nv(C:ky k c X)(body:List Stmt):wF X body (gH c body):=by
 unfold gH
 cases h:Al c body with
 | some m=>exact JC C h
 | none=>exact lN (Nl 40 20 c X C) body
end
end
def ie(N:List Str)(st:Stmt)(gs:List (Str×GI))(mt:List Nat):CI:=⟨N,aA st,true,gs,mt⟩
def GK(P:Program)(w:World)(K:W.Frag)(mg:Str->Option Value)(base:Heap)(k:Nat)(p:Str×GI):Prop:=match p.2 with
 | .fn n f=>Fn P w K mg base k p.1 n f
 | .con d=>GC K mg p.1 d
 | .blt=>mg p.1=none
 | .tab l=>vJ w K mg p.1 l
 | .ftab l=>FTab P w K mg base k p.1 l
def bz{P:Program}{w:World}{K:W.Frag}{mg:Str->Option Value}{base:Heap}{k:Nat}{x:Str}{st:Stmt}{N ps:List Str}{gs:List (Str×GI)}{mt:List Nat}
  (F:bO K mg x st) (Sc:aU N ps (aA st)) (hb:AB x st ps) (hg:∀ p∈gs,GK P w K mg base k p) :
  Fn P w K mg base (k+1) x ps.length (aQ N (gH (ie N st gs mt) (aN st)) ps.length):=
 VQ F Sc hb fun a cdv A outer s H E hr=>Nv (k:=k) ⟨rfl,Sc.nd,rfl,Sc.kind,fun _ _=>rfl,rfl,hr,rfl,fun p hp=>by
  have:=hg p hp
  obtain⟨x,g⟩:=p
  cases g <;> exact this⟩ _
def GKs(P:Program)(w:World)(K:W.Frag)(mg:Str->Option Value)(base:Heap)(k:Nat):List (Str×GI)->Prop
 | []=>True
 | p::r=>GK P w K mg base k p/\GKs P w K mg base k r
def GKs.mem{P:Program}{w:World}{K:W.Frag}{mg:Str->Option Value}{base:Heap}{k:Nat}:∀ {gs:List (Str×GI)},GKs P w K mg base k gs->∀ p∈gs,GK P w K mg base k p
 | q::r,h,p,hp=>by
  rcases Xq.mp hp with rfl | hp
  ·exact h.1
  ·exact GKs.mem h.2 p hp
def UE{P:Program}{w:World}{K:W.Frag}{mg:Str->Option Value}{k:Nat}{st:Stmt}{N:List Str}{gs:List (Str×GI)}{mt:List Nat}{fa:Addr}(F:bO K mg "law" st)(hfa:mg "law" = some (.ref fa))(Sc:aU N ["_law_script"] (aA st))
  (hbt:∀ (kV doc pm:Value) (an:Option Addr) (cdv ct v:Value),bindArgs (W.fnOf "law" "law" (jy st) (aN st) (aA st) .none kV doc pm an cdv ct) ⟨[v],[]⟩=pure [(("_law_script":Str),v)])
  (hg:∀ base,GKs P w K mg base k gs) :
  ∃ fd:FuncData,(∀ (s:Shared) (v:Value),BindsTo s fd ⟨[v],[]⟩ [("_law_script",v)])/\∀ base:Heap,K.In base->base.Ns mainGlobals mg->FnOk P w K mg base Hq (k+1) fa fd ["_law_script"] (KG K 1 (aQ N (gH (ie N st gs mt) (aN st)) 1)):=
 UD F hfa Sc hbt fun base a cdv A outer s H E hr=>Nv (k:=k) ⟨rfl,Sc.nd,rfl,Sc.kind,fun _ _=>rfl,rfl,hr,rfl,fun p hp=>by
  have:=GKs.mem (hg base) p hp
  obtain⟨x,g⟩:=p
  cases g <;> exact this⟩ _
section
variable{P:List Value->Prop}
def iZ(h:P []):∀ us:List Value,us.length=0->P us:=fun us e=>by rw [Ya e];exact h
def cB{n:Nat}(h:∀ a,∀ us:List Value,us.length=n->P (a::us)):∀ us:List Value,us.length=n+1->P us:=fun us e=>by
 cases us with
 | nil=>cases e
 | cons a us=>exact h a us (Nat.succ.inj e)
end
def KY(N:List Str)(st:Stmt)(gs:List (Str×GI))(mt:List Nat)(x:Str)(a:Nat):Nat->List D->ac->Option (D×ac)
 | 0=>fun _ _=>none
 | n+1=>aQ N (gH (ie N st ((x,.fn a (KY N st gs mt x a n))::gs) mt) (aN st)) a
section
variable{P:Program}{w:World}{K:W.Frag}{mg:Str->Option Value}{base:Heap}{k:Nat}{x:Str}{st:Stmt}{N ps:List Str}{gs:List (Str×GI)}{mt:List Nat}
def GK.up{k':Nat}(h:k<=k'):∀ {p:Str×GI},GK P w K mg base k p->GK P w K mg base k' p
 | (_,.fn _ _),g=>Fn.up g h
 | (_,.con _),g=>g
 | (_,.blt),g=>g
 | (_,.tab _),g=>g
 | (_,.ftab _),g=>FTab.up g h
def Qz(F:bO K mg x st)(Sc:aU N ps (aA st))(hb:AB x st ps):Fn P w K mg base (k+1) x ps.length (fun _ _=>none):=by
 obtain⟨a,fd,F,hmg⟩:=F.ex
 exact Sw F Sc hmg (F.binds hb) fun cdv A outer s H E hr=>⟨jL,VH,fun ds S d S' _ _ _ h=>by cases h⟩
def KW(F:bO K mg x st)(Sc:aU N ps (aA st))(hb:AB x st ps)(hg:GKs P w K mg base k gs):∀ n,Fn P w K mg base (k+1+n) x ps.length (KY N st gs mt x ps.length n)
 | 0=>Qz F Sc hb
 | n+1=>bz (k:=k+1+n) F Sc hb fun p hp=>by
  rcases Xq.mp hp with rfl | hp
  ·exact KW F Sc hb hg n
  ·exact GK.up (by omega) (GKs.mem hg p hp)
end
def kE(P:Params)(x:Str)(t:Nat)(v:Value):DictEntry:=⟨PyData.keyHash P x,.str x t,v⟩
def kC(x:Str)(t l n a b:Nat)(u v:Value)(c d:Nat):Obj:=⟨.type "code",none,.fields #[.str x t,.str x (t+1),.str "/claim/cut.py" (t+2),.int l 0,.int n 0,.int 0 0,.int 0 0,.int 3 0,.ref a,.bool true,.int 181 0,.ref b,.none,u,v,.ref c,.int d 0,.int l 0,.str "/claim/cut.py" (d+1)],#[]⟩
def kF(x:Str)(st:Stmt)(m:Str)(t c:Nat):Obj:=⟨.type "function",none,.func (W.fnOf x x (jy st) (aN st) (aA st) .none .none .none (.str m t) none (.ref c) .none),#[]⟩
def cU{K:W.Frag}{h:Heap}{mg:Str->Option Value}(X:K.In h)(G:h.Ns mainGlobals mg){x:Str}{st:Stmt}(m:Str)(f t c:Nat)(e:(W.nsIn K mainGlobals x,K.lookup f,W.codeIn K (.ref c) x,W.keepIn K (.ref f))=(some (some (.ref f)),some (kF x st m t c),true,true)):bO K mg x st:=by
 have e1:=congrArg (·.1) e
 have e2:=congrArg (·.2.1) e
 have e3:=congrArg (·.2.2.1) e
 have e4:=congrArg (·.2.2.2) e
 exact⟨_,_,Vh (st:=st) (show K.lookup f=some ⟨.type "function",none,.func (W.fnOf x x (jy st) (aN st) (aA st) .none .none .none (.str m t) none (.ref c) .none),#[]⟩ from e2) e3 e4,YU X G e1⟩
def jb{N:List Str}{c:CI}{b:List Stmt}{m:MS}{n:Nat}(h:gH c b=m):aQ N (gH c b) n=aQ N m n:=by rw [h]
section
variable{env e:bp}{S S':ac}{x y d:D}{f g:ac->D->D->Option D}{a b c:ME}{ms:MA}{t u:MT}{k l:Bool}{p q:MS}{tg:MG}
@[simp high] theorem ob{α β:Type}{a:α}{f:α->Option β}:(some a).bind f=f a:=id rfl
@[simp high] theorem obn{α β:Type}{f:α->Option β}:(none:Option α).bind f=none:=id rfl
@[simp high] theorem oj{α:Type}{a:Option α}:(some a).join=a:=rfl
@[simp high] theorem bD{α:Type}{a:α}{l:List α}:(a::l)[0]?=some a:=rfl
@[simp high] theorem bJ{α:Type}{a b:α}{l:List α}:(a::b::l)[1]?=some b:=rfl
@[simp high] theorem bI{α:Type}{a:α}{l:List α}{i:Nat}:(a::l)[i+1]?=l[i]?:=rfl
@[simp high] theorem dR{α:Type}{a b:α}{l:List α}:(a::l).set 0 b=b::l:=rfl
@[simp high] theorem ej{α:Type}{a b:α}{l:List α}{i:Nat}:(a::l).set (i+1) b=a::l.set i b:=rfl
def wy(S:ac)(z:D):Option (D×ac):=some (z,S)
@[simp] theorem aj:wy S d=some (d,S):=rfl
@[simp] theorem bf:mC d env S=some (d,S):=by rw [uI];rfl
@[simp] theorem ak{i:Nat}:ab i env S=(env[i]?).join.bind (wy S):=by rw [zx];rfl
def UT(f:ac->D->D->Option D)(x:D)(q:D×ac):Option (D×ac):=(f q.2 x q.1).bind (wy q.2)
def kOp1(f:ac->D->D->Option D)(b:ME)(env:bp)(q:D×ac):Option (D×ac):=(b env q.2).bind (UT f q.1)
@[simp] theorem av:kOp1 f b env (x,S)=(b env S).bind (UT f x):=id rfl
@[simp] theorem au:UT f x (y,S)=(f S x y).bind (wy S):=id rfl
@[simp] theorem aG:ar f a b env S=(a env S).bind (kOp1 f b env):=by rw [jK];rfl
def Sf(q:D×ac):Option (Bool×ac):=match q.1 with | .bl k=>some (k,q.2) | _=>none
@[simp] theorem aF:Sf (.bl k,S)=some (k,S):=id rfl
@[simp] theorem aH:ax a env S=(a env S).bind Sf:=by rw [uD];rfl
def UY(g:ac->D->D->Option D)(y:D)(q:D×ac):Option (D×ac):=(g q.2 y q.1).bind (wy q.2)
def Mu(g:ac->D->D->Option D)(c:ME)(env:bp)(y:D)(S:ac)(z:D):Option (D×ac):=match z with
 | .bl true=>(c env S).bind (UY g y)
 | .bl false=>some (.bl false,S)
 | _=>none
def Qo(f g:ac->D->D->Option D)(c:ME)(env:bp)(x:D)(q:D×ac):Option (D×ac):=(f q.2 x q.1).bind (Mu g c env q.1 q.2)
def UZ(f g:ac->D->D->Option D)(b c:ME)(env:bp)(q:D×ac):Option (D×ac):=(b env q.2).bind (Qo f g c env q.1)
@[simp] theorem kCh1_s:UZ f g b c env (x,S)=(b env S).bind (Qo f g c env x):=id rfl
@[simp] theorem kCh2_s:Qo f g c env x (y,S)=(f S x y).bind (Mu g c env y S):=id rfl
@[simp] theorem kChz_t:Mu g c env y S (.bl true)=(c env S).bind (UY g y):=id rfl
@[simp] theorem kChz_f:Mu g c env y S (.bl false)=some (.bl false,S):=id rfl
@[simp] theorem kCh3_s:UY g y (x,S)=(g S y x).bind (wy S):=id rfl
@[simp] theorem mChain_s:cS f g a b c env S=(a env S).bind (UZ f g b c env):=by
 rw [qX];unfold M.cS UZ Qo Mu
 congr 1
def zO(q:D×ac):Option (Bool×ac):=(pN q.2 q.1).bind fun k=>some (k,q.2)
@[simp] theorem fM:zO (.bl k,S)=some (k,S):=id rfl
@[simp] theorem kTru_n:zO (.non,S)=some (false,S):=id rfl
@[simp] theorem kTru_i{i:Int}:zO (.int i,S)=some (i != 0,S):=id rfl
@[simp] theorem kTru_t{xs:List D}:zO (.tup xs,S)=some (!xs.isEmpty,S):=id rfl
@[simp] theorem kTru_l{xs:List D}:zO (.lst xs,S)=some (!xs.isEmpty,S):=id rfl
@[simp] theorem dW:da a env S=(a env S).bind zO:=by rw [zy];rfl
def GH(u:MT)(env:bp)(q:Bool×ac):Option (Bool×ac):=if q.1=true then u env q.2 else some (false,q.2)
def US(u:MT)(env:bp)(q:Bool×ac):Option (Bool×ac):=if q.1=true then some (true,q.2) else u env q.2
def Si(q:Bool×ac):Option (Bool×ac):=some (!q.1,q.2)
@[simp] theorem jx:GH u env (true,S)=u env S:=id rfl
@[simp] theorem mj:GH u env (false,S)=some (false,S):=id rfl
@[simp] theorem zP:US u env (true,S)=some (true,S):=id rfl
@[simp] theorem mf:US u env (false,S)=u env S:=id rfl
@[simp] theorem jv:Si (k,S)=some (!k,S):=id rfl
@[simp] theorem gO:cF t u env S=(t env S).bind (GH u env):=by rw [uJ];rfl
@[simp] theorem jc:eL t u env S=(t env S).bind (US u env):=by rw [zA];rfl
@[simp] theorem jq:dH t env S=(t env S).bind Si:=by rw [BX];rfl
@[simp] theorem gM:bH env S=some (true,S):=by rw [BU];rfl
def Qp(b:ME)(env:bp)(q:D×ac):Option (D×ac):=(pN q.2 q.1).bind fun k=>if k=true then b env q.2 else some (q.1,q.2)
def Sh(b:ME)(env:bp)(q:D×ac):Option (D×ac):=(pN q.2 q.1).bind fun k=>if k=true then some (q.1,q.2) else b env q.2
@[simp] theorem uU:Qp b env (.bl true,S)=b env S:=id rfl
@[simp] theorem Va:Qp b env (.bl false,S)=some (.bl false,S):=id rfl
@[simp] theorem kOr_t:Sh b env (.bl true,S)=some (.bl true,S):=id rfl
@[simp] theorem kOr_f:Sh b env (.bl false,S)=b env S:=id rfl
@[simp] theorem pz:dG a b env S=(a env S).bind (Qp b env):=by rw [GE];rfl
@[simp] theorem Sb:tf a b env S=(a env S).bind (Sh b env):=by rw [LV];rfl
def Cn(q:D×ac):Option (D×ac):=(pN q.2 q.1).bind fun k=>some (.bl (!k),q.2)
@[simp] theorem Qj{xs:List D}:Cn (.lst xs,S)=some (.bl (!!xs.isEmpty),S):=id rfl
@[simp] theorem kNotV_t{xs:List D}:Cn (.tup xs,S)=some (.bl (!!xs.isEmpty),S):=id rfl
@[simp] theorem kOr_c{d:D}{ds:List D}:Sh b env (.lst (d::ds),S)=some (.lst (d::ds),S):=id rfl
@[simp] theorem kOr_e:Sh b env (.lst [],S)=b env S:=id rfl
@[simp] theorem kNotV_s:Cn (.bl k,S)=some (.bl (!k),S):=id rfl
@[simp] theorem Gw:fQ a env S=(a env S).bind Cn:=by rw [BW];rfl
def kIf(a b:ME)(env:bp)(q:Bool×ac):Option (D×ac):=if q.1=true then a env q.2 else b env q.2
@[simp] theorem xz:kIf a b env (true,S)=a env S:=id rfl
@[simp] theorem Cp:kIf a b env (false,S)=b env S:=id rfl
@[simp] theorem mK:lL t a b env S=(t env S).bind (kIf a b env):=by rw [Mb];rfl
@[simp] theorem az:ai env S=some ([],S):=by rw [zB];rfl
def EY(x:D)(q:List D×ac):Option (List D×ac):=some (x::q.1,q.2)
def Mt(ms:MA)(env:bp)(q:D×ac):Option (List D×ac):=(ms env q.2).bind (EY q.1)
@[simp] theorem al{xs:List D}:EY x (xs,S)=some (x::xs,S):=id rfl
@[simp] theorem am:Mt ms env (x,S)=(ms env S).bind (EY x):=id rfl
@[simp] theorem aq:aa a ms env S=(a env S).bind (Mt ms env):=by rw [Cf];rfl
def ca(q:List D×ac):Option (D×ac):=if q.1.length<=sizeLine then some (.tup q.1,q.2) else none
def oE(q:List D×ac):Option (D×ac):=if q.1.length<=sizeLine then some (.lst q.1,q.2) else none
def qj(q:List D×ac):Option (D×ac):=if q.1.length<=sizeLine then some (.ref q.2.length,q.2++[.lst q.1]) else none
def sz{n:Nat}(h:n<=1000):n<=sizeLine:=Xl h (by decide)
def aR{xs:List D}(h:xs.length<=1000):ca (xs,S)=some (.tup xs,S):=Xc (sz h)
def eO{xs:List D}(h:xs.length<=1000):oE (xs,S)=some (.lst xs,S):=Xc (sz h)
def jN{xs:List D}(h:xs.length<=1000):qj (xs,S)=some (.ref S.length,S++[.lst xs]):=Xc (sz h)
@[simp] theorem be:aM ms env S=(ms env S).bind ca:=by rw [Gr];rfl
@[simp] theorem jM:eM ms env S=(ms env S).bind oE:=by rw [Gx];rfl
@[simp] theorem nX:dj ms env S=(ms env S).bind qj:=by rw [BZ];rfl
def Sl(f:List D->ac->Option (D×ac))(q:List D×ac):Option (D×ac):=f q.1 q.2
@[simp] theorem bT{f:List D->ac->Option (D×ac)}{xs:List D}:Sl f (xs,S)=f xs S:=id rfl
@[simp] theorem bS{f:List D->ac->Option (D×ac)}:bd f ms env S=(ms env S).bind (Sl f):=by rw [iI];rfl
def rm(n:Nat)(f:List D->ac->Option (D×ac))(q:List D×ac):Option (D×ac):=if q.1.length=n then f q.1 q.2 else none
@[simp] theorem kCallN_0{f:List D->ac->Option (D×ac)}:rm 0 f ([],S)=f [] S:=id rfl
@[simp] theorem qm{f:List D->ac->Option (D×ac)}:rm 1 f ([x],S)=f [x] S:=id rfl
@[simp] theorem bj{f:List D->ac->Option (D×ac)}:rm 2 f ([x,y],S)=f [x,y] S:=id rfl
@[simp] theorem bL{f:List D->ac->Option (D×ac)}{z:D}:rm 3 f ([x,y,z],S)=f [x,y,z] S:=id rfl
@[simp] theorem Mv{f:List D->ac->Option (D×ac)}{z w:D}:rm 4 f ([x,y,z,w],S)=f [x,y,z,w] S:=id rfl
@[simp] theorem aK{n:Nat}{f:List D->ac->Option (D×ac)}:ao n f ms env S=(ms env S).bind (rm n f):=by rw [qY];rfl
def kIsI(T:String)(q:D×ac):Option (D×ac):=(lA T q.2 q.1).bind (wy q.2)
@[simp] theorem Mr{T:String}:kIsI T (x,S)=(lA T S x).bind (wy S):=id rfl
@[simp] theorem Ma{T:String}:dN T a env S=(a env S).bind (kIsI T):=by rw [Gy];rfl
def kUn(f:ac->D->Option D)(q:D×ac):Option (D×ac):=(f q.2 q.1).bind (wy q.2)
@[simp] theorem kUn_s{f:ac->D->Option D}:kUn f (x,S)=(f S x).bind (wy S):=id rfl
@[simp] theorem mUn_s{f:ac->D->Option D}:xi f a env S=(a env S).bind (kUn f):=by rw [LU];rfl
@[simp] theorem cQ:bu env S=some (none,S):=by rw [xn];rfl
def Sg(q:D×ac):Option (Option Int×ac):=match q.1 with | .int i=>some (some i,q.2) | _=>none
@[simp] theorem dC{i:Int}:Sg (.int i,S)=some (some i,S):=id rfl
@[simp] theorem dA:bU a env S=(a env S).bind Sg:=by rw [BV];rfl
def jd(x:D)(l:Option Int)(q:Option Int×ac):Option (D×ac):=match x with
 | .tup xs=>some (.tup (fO xs l q.1),q.2)
 | .lst xs=>some (.lst (fO xs l q.1),q.2)
 | .rol xs=>some (.lst (fO xs l q.1),q.2)
 | .ref r=>match q.2[r]? with | some (.lst xs)=>some (.lst (fO xs l q.1),q.2) | _=>none
 | _=>none
def Cm{r:Nat}{xs:List D}{l h:Option Int}(hr:S[r]?=some (.lst xs)):jd (.ref r) l (h,S)=some (.lst (fO xs l h),S):=by
 show (match S[r]? with | some (.lst xs)=>some (D.lst (fO xs l h),S) | _=>none)=_
 rw [hr]
def UN(hi:MO)(env:bp)(x:D)(q:Option Int×ac):Option (D×ac):=(hi env q.2).bind (jd x q.1)
def kSl1(lo hi:MO)(env:bp)(q:D×ac):Option (D×ac):=(lo env q.2).bind (UN hi env q.1)
@[simp] theorem eV{lo hi:MO}:kSl1 lo hi env (x,S)=(lo env S).bind (UN hi env x):=id rfl
@[simp] theorem eU{hi:MO}{l:Option Int}:UN hi env x (l,S)=(hi env S).bind (jd x l):=id rfl
@[simp] theorem nh{xs:List D}{l h:Option Int}:jd (.tup xs) l (h,S)=some (.tup (fO xs l h),S):=id rfl
@[simp] theorem UM{xs:List D}{l h:Option Int}:jd (.lst xs) l (h,S)=some (.lst (fO xs l h),S):=id rfl
@[simp] theorem kSl3_r{xs:List D}{l h:Option Int}:jd (.rol xs) l (h,S)=some (.lst (fO xs l h),S):=id rfl
@[simp] theorem cN{lo hi:MO}:bt a lo hi env S=(a env S).bind (kSl1 lo hi env):=by rw [xk];rfl
@[simp] theorem bw:aY env S=some (.nx env S):=by rw [qe];rfl
def Mp(q:MS):pK->Option pK
 | .nx e S=>q e S
 | .rt d S=>some (.rt d S)
 | .bk e S=>some (.bk e S)
 | .ct e S=>some (.ct e S)
@[simp] theorem aD:Mp q (.nx e S)=q e S:=id rfl
@[simp] theorem bQ:Mp q (.rt d S)=some (.rt d S):=id rfl
@[simp] theorem kSeq_bk:Mp q (.bk e S)=some (.bk e S):=id rfl
@[simp] theorem kSeq_ct:Mp q (.ct e S)=some (.ct e S):=id rfl
@[simp] theorem aS:ay p q env S=(p env S).bind (Mp q):=by rw [Gs];unfold M.ay;congr 1;funext o;cases o <;> rfl
def kRt(q:D×ac):Option pK:=some (.rt q.1 q.2)
@[simp] theorem bq:kRt (d,S)=some (.rt d S):=id rfl
@[simp] theorem aX:aV a env S=(a env S).bind kRt:=by rw [Gu];rfl
def Sj(env:bp)(q:D×ac):Option pK:=some (.nx env q.2)
@[simp] theorem jw:Sj env (d,S)=some (.nx env S):=id rfl
@[simp] theorem jt:db a env S=(a env S).bind (Sj env):=by rw [Cc];rfl
def UV(p q:MS)(env:bp)(r:Bool×ac):Option pK:=if r.1=true then p env r.2 else q env r.2
@[simp] theorem bR:UV p q env (true,S)=p env S:=id rfl
@[simp] theorem bM:UV p q env (false,S)=q env S:=id rfl
@[simp] theorem bm:bC t p q env S=(t env S).bind (UV p q env):=by rw [Gz];rfl
def kNx(q:bp×ac):Option pK:=some (.nx q.1 q.2)
@[simp] theorem bK:kNx (e,S)=some (.nx e S):=id rfl
def kAsg(tg:MG)(env:bp)(q:D×ac):Option pK:=(tg q.1 env q.2).bind kNx
@[simp] theorem bi:kAsg tg env (d,S)=(tg d env S).bind kNx:=id rfl
@[simp] theorem bh:aI a tg env S=(a env S).bind (kAsg tg env):=by rw [iE];rfl
@[simp] theorem aO{i:Nat}:ah i d env S=some (env.set i (some d),S):=by rw [oh];rfl
@[simp] theorem bB:aB [] env S=some (env,S):=by rw [CH];rfl
def kGs(gs:vL)(r:List D)(q:bp×ac):Option (bp×ac):=gs r q.1 q.2
@[simp] theorem cy{gs:vL}{r:List D}:kGs gs r (e,S)=gs r e S:=id rfl
@[simp] theorem bg{gs:vL}{r:List D}:af tg gs (d::r) env S=(tg d env S).bind (kGs gs r):=by rw [xN];rfl
def gTupD_of{n:Nat}{gs:vL}{xs:List D}(h:xs.length=n):aE n gs (.tup xs) env S=gs xs env S:=by rw [nz];exact Xc h
@[simp] theorem bX{gs:vL}:aE 2 gs (.tup [x,y]) env S=gs [x,y] env S:=by rw [nz];rfl
@[simp] theorem mq{gs:vL}{z:D}:aE 3 gs (.tup [x,y,z]) env S=gs [x,y,z] env S:=by rw [nz];rfl
@[simp] theorem tB{gs:vL}{z w:D}:aE 4 gs (.tup [x,y,z,w]) env S=gs [x,y,z,w] env S:=by rw [nz];rfl
def Ck(env:bp)(d:D)(r:Nat)(k:Int)(S:ac):Option (bp×ac):=match S[r]? with
 | some (.lst xs)=>(GL xs.length k).bind fun j=>some (env,S.set r (.lst (xs.set j d)))
 | _=>none
def GF(env:bp)(d o:D)(q:D×ac):Option (bp×ac):=match o,q.1 with
 | .ref r,.int k=>Ck env d r k q.2
 | _,_=>none
def Mo(i:ME)(env:bp)(d:D)(q:D×ac):Option (bp×ac):=(i env q.2).bind (GF env d q.1)
@[simp] theorem kSub1_s:Mo a env d (x,S)=(a env S).bind (GF env d x):=id rfl
@[simp] theorem kSub2_s{r:Nat}{i:Int}:GF env d (.ref r) (.int i,S)=Ck env d r i S:=id rfl
def uM{r:Nat}{i:Int}{xs:List D}{j:Nat}(h:S[r]?=some (.lst xs))(hj:GL xs.length i=some j):Ck env d r i S=some (env,S.set r (.lst (xs.set j d))):=by
 unfold Ck;rw [h];show (GL xs.length i).bind _=_;rw [hj];rfl
@[simp] theorem gSubD_s:eW a b d env S=(a env S).bind (Mo b env d):=by
 rw [CG];unfold M.eW Mo GF Ck;congr 1
def kFor(tg:MG)(p:MS)(env:bp)(q:List D×ac):Option pK:=cj tg p q.1 env q.2
@[simp] theorem rh{xs:List D}:kFor tg p env (xs,S)=cj tg p xs env S:=id rfl
@[simp] theorem qV:ia ms tg p env S=(ms env S).bind (kFor tg p env):=by rw [GA];rfl
def Co(tg:MG)(p:MS)(xs:List D):pK->Option pK
 | .nx e s=>cj tg p xs e s
 | .ct e s=>cj tg p xs e s
 | .bk e s=>some (.nx e s)
 | .rt d s=>some (.rt d s)
def kLp1(tg:MG)(p:MS)(xs:List D)(q:bp×ac):Option pK:=(p q.1 q.2).bind (Co tg p xs)
@[simp] theorem jO{xs:List D}:kLp1 tg p xs (e,S)=(p e S).bind (Co tg p xs):=id rfl
@[simp] theorem iF{xs:List D}:Co tg p xs (.nx e S)=cj tg p xs e S:=id rfl
@[simp] theorem kLp2_ct{xs:List D}:Co tg p xs (.ct e S)=cj tg p xs e S:=id rfl
@[simp] theorem kLp2_bk{xs:List D}:Co tg p xs (.bk e S)=some (.nx e S):=id rfl
@[simp] theorem tq{xs:List D}:Co tg p xs (.rt d S)=some (.rt d S):=id rfl
@[simp] theorem ls:cj tg p [] env S=some (.nx env S):=id rfl
def dk{xs:List D}:cj tg p (d::xs) env S=(tg d env S).bind (kLp1 tg p xs):=by
 show (tg d env S).bind _=_
 first | rfl | (congr 1;funext q;show (p q.1 q.2).bind _=(p q.1 q.2).bind _;congr 1;funext o;cases o <;> rfl)
def EX(q:D×ac):Option (List D×ac):=match q.1 with | .lst xs=>some (xs,q.2) | .rol xs=>some (xs,q.2) | .tup xs=>some (xs,q.2) | _=>none
@[simp] theorem uO{xs:List D}:EX (.lst xs,S)=some (xs,S):=id rfl
@[simp] theorem kItS_r{xs:List D}:EX (.rol xs,S)=some (xs,S):=id rfl
@[simp] theorem EW{xs:List D}:EX (.tup xs,S)=some (xs,S):=id rfl
@[simp] theorem dr:cZ a env S=(a env S).bind EX:=by rw [zC];rfl
def Qh(q:List D×ac):Option (List D×ac):=match q.1 with | [.int j]=>if -(2 ^ 62)<=j/\j<2 ^ 62 then some (cD 0 j.toNat,q.2) else none | _=>none
def pC{j:Int}(h:-1000000<=j)(h':j<=1000000):Qh ([.int j],S)=some (cD 0 j.toNat,S):=Xc ⟨by omega,by omega⟩
@[simp] theorem iw:bZ ms env S=(ms env S).bind Qh:=by rw [uG];rfl
def kR2(q:List D×ac):Option (List D×ac):=match q.1 with | [.int i,.int j]=>if -(2 ^ 62)<=i/\i<2 ^ 62/\-(2 ^ 62)<=j/\j<2 ^ 62 then some (cD i (j - i).toNat,q.2) else none | _=>none
@[simp] theorem mRange2_s:dm ms env S=(ms env S).bind kR2:=by rw [uF];rfl
def rj(q:List D×ac):Option (D×ac):=some (.lst q.1,q.2)
def nk(g:MG)(t:MT)(e:ME)(cap:List (Option Nat))(env:bp)(q:List D×ac):Option (D×ac):=if q.1.length<=sizeLine then (dF g t e q.1 (lD cap env) q.2).bind rj else none
def jP{cap:List (Option Nat)}{xs:List D}(h:xs.length<=1000):nk tg t a cap env (xs,S)=(dF tg t a xs (lD cap env) S).bind rj:=Xc (sz h)
@[simp] theorem fS{xs:List D}:rj (xs,S)=some (.lst xs,S):=id rfl
@[simp] theorem bW{cap:List (Option Nat)}:bE ms tg t a cap env S=(ms env S).bind (nk tg t a cap env):=by rw [uH];rfl
def UW(x:D)(q:List D×ac):Option (List D×ac):=some (x::q.1,q.2)
def UX(g:MG)(t:MT)(e:ME)(xs:List D)(env:bp)(q:D×ac):Option (List D×ac):=(dF g t e xs env q.2).bind (UW q.1)
def Qn(g:MG)(t:MT)(e:ME)(xs:List D)(env:bp)(q:Bool×ac):Option (List D×ac):=if q.1=true then (e env q.2).bind (UX g t e xs env) else dF g t e xs env q.2
def kCl1(g:MG)(t:MT)(e:ME)(xs:List D)(q:bp×ac):Option (List D×ac):=(t q.1 q.2).bind (Qn g t e xs q.1)
@[simp] theorem uT{xs:List D}:kCl1 tg t a xs (e,S)=(t e S).bind (Qn tg t a xs e):=id rfl
@[simp] theorem uS{xs:List D}:Qn tg t a xs e (true,S)=(a e S).bind (UX tg t a xs e):=id rfl
@[simp] theorem EZ{xs:List D}:Qn tg t a xs e (false,S)=dF tg t a xs e S:=id rfl
@[simp] theorem uR{xs:List D}:UX tg t a xs e (d,S)=(dF tg t a xs e S).bind (UW d):=id rfl
@[simp] theorem uQ{xs:List D}:UW d (xs,S)=some (d::xs,S):=id rfl
@[simp] theorem UA:dF tg t a [] env S=some ([],S):=id rfl
def gz{xs:List D}:dF tg t a (d::xs) env S=(tg d env S).bind (kCl1 tg t a xs):=id rfl
section
variable{g2:MG}{t2:MT}{xs:List D}{mi2:MA}
end
def zQ(n:Nat)(f:List D->ac->Option (D×ac))(q:List D×ac):Option pK:=if q.1.length=n then (f q.1 q.2).bind kRt else none
def Sk(l:List (bG×Nat×(List D->ac->Option (D×ac))))(i:Nat)(ms:MA)(env:bp)(q:D×ac):Option pK:=(fR q.1).bind fun k=>(AH l k).bind fun p=>(ms (env.set i none) q.2).bind (zQ p.1 p.2)
def Ms{l:List (bG×Nat×(List D->ac->Option (D×ac)))}{i n:Nat}{f:List D->ac->Option (D×ac)}{k:bG}(h:fR d=some k)(h':AH l k=some (n,f)):Sk l i ms env (d,S)=(ms (env.set i none) S).bind (zQ n f):=by
 show (fR d).bind _=_
 rw [h];show (AH l k).bind _=_;rw [h'];rfl
def IT{n:Nat}{f:List D->ac->Option (D×ac)}{xs:List D}(h:xs.length=n):zQ n f (xs,S)=(f xs S).bind kRt:=Xc h
def Qd{l:List (bG×Nat×(List D->ac->Option (D×ac)))}{i:Nat}:gN l i a ms env S=(a env S).bind (Sk l i ms env):=by rw [Cd];rfl
@[simp] theorem kR{i j:Int}:aT S (.int i) (.int j)=some (.int (i+j)):=id rfl
def gY{xs ys:List D}(h:xs.length+ys.length<=1000):aT S (.tup xs) (.tup ys)=some (.tup (xs++ys)):=Xc (sz h)
def Fj{xs ys:List D}(h:xs.length+ys.length<=1000):aT S (.lst xs) (.lst ys)=some (.lst (xs++ys)):=Xc (sz h)
@[simp] theorem zY{i j:Int}:oH S (.int i) (.int j)=some (.int (i - j)):=id rfl
@[simp] theorem fLt_i{i j:Int}:QF S (.int i) (.int j)=some (.bl (decide (i<j))):=id rfl
@[simp] theorem fLe_i{i j:Int}:QG S (.int i) (.int j)=some (.bl (decide (i<=j))):=id rfl
@[simp] theorem fGt_i{i j:Int}:fGt S (.int i) (.int j)=some (.bl (decide (j<i))):=id rfl
@[simp] theorem fGe_i{i j:Int}:fGe S (.int i) (.int j)=some (.bl (decide (j<=i))):=id rfl
@[simp] theorem fNeg_i{i:Int}:Jh S (.int i)=some (.int (-i)):=id rfl
def jY{i j:Int}(h:0<j):mw S (.int i) (.int j)=some (.int (i % j)):=Xc (WU h)
def Nf{i j:Int}(h:0<j)(h':j<1073741824):Jl S (.int i) (.int j)=some (.int (i / j)):=Xc (by show (decide (0<j)&&decide (j<1073741824))=true;rw [WU h,WU h'];rfl)
def MX{i j:Int}(h:(decide (0<=j)&&decide (j<=1000000)&&decide (i.natAbs<2 ^ 64))=true):wz S (.int i) (.int j)=some (.int (i ^ j.toNat)):=Xc h
def jX{i j:Int}(h:pY i j=true):cC S (.int i) (.int j)=some (.int (i * j)):=Xc h
def qS{i j:Int}(h:-18446744073709551616<i)(h':i<18446744073709551616):pY i j=true:=by
 unfold pY;rw [WU (p:=i.natAbs<18446744073709551616) (by omega)];rfl
def zg{i j:Int}(h:-18446744073709551616<j)(h':j<18446744073709551616):pY i j=true:=by
 unfold pY;rw [WU (p:=j.natAbs<18446744073709551616) (by omega)];simp
@[simp] theorem fIx_t{xs:List D}{i:Int}:aw S (.tup xs) (.int i)=mM xs i:=id rfl
@[simp] theorem fIx_l{xs:List D}{i:Int}:aw S (.lst xs) (.int i)=mM xs i:=id rfl
@[simp] theorem fIx_r{xs:List D}{i:Int}:aw S (.rol xs) (.int i)=mM xs i:=id rfl
def kJ{r:Nat}{xs:List D}{i:Int}(h:S[r]?=some (.lst xs)):aw S (.ref r) (.int i)=mM xs i:=by
 have:ii S (.ref r)=some xs:=by simp only [ii,h]
 have t:AL S (.ref r)=none:=by simp only [AL,h]
 unfold aw;rw [t]
 show (ii S (.ref r)).bind _=_;rw [this];rfl
def As{α:Type}{xs:List α}{i:Int}(h0:0<=i)(h:i<xs.length):mM xs i=some (xs[i.toNat]'(by omega)):=by
 unfold mM GL;rw [Xc h0,Xc h];show xs[i.toNat]?=_;rw [WS]
@[simp] theorem Fi{xs:List D}:aP fg [.tup xs] S=some (.int xs.length,S):=id rfl
@[simp] theorem Vt{xs:List D}:aP fg [.lst xs] S=some (.int xs.length,S):=id rfl
@[simp] theorem Vs{xs:List D}:aP fg [.rol xs] S=some (.int xs.length,S):=id rfl
@[simp] theorem fInt1_i{i:Int}:aP jk [.int i] S=some (.int i,S):=id rfl
@[simp] theorem oi:aP jk [.bl k] S=some (.int (if k then 1 else 0),S):=id rfl
@[simp] theorem fMax2_i{i j:Int}:aP oX [.int i,.int j] S=some (.int (if j>i then j else i),S):=id rfl
@[simp] theorem QD{i j:Int}:aP CS [.int i,.int j] S=some (.int (if j<i then j else i),S):=id rfl
@[simp] theorem fSeq1_t{g:List D->D}{xs:List D}:aP (cw g) [.tup xs] S=some (g xs,S):=id rfl
@[simp] theorem eg{g:List D->D}{xs:List D}:aP (cw g) [.lst xs] S=some (g xs,S):=id rfl
def Nh{xs:List D}{bs:List Bool}(h:mB xs=some bs):aP Ab [.lst xs] S=some (.bl (bs.all id),S):=by
 show ((mB xs).bind _).bind _=_;rw [h];rfl
@[simp] theorem mL:wA S x .non=some (.bl (nq x .non)):=id rfl
@[simp] theorem fIs_b:wA S x (.bl k)=some (.bl (nq x (.bl k))):=id rfl
@[simp] theorem qy:nA S x .non=some (.bl (!nq x .non)):=id rfl
@[simp] theorem fIsNot_b:nA S x (.bl k)=some (.bl (!nq x (.bl k))):=id rfl
def mx(h:cY 40 x=true)(h':cY 40 y=true):bY S x y=some (.bl (jm x y)):=Xc ⟨h,h'⟩
def rA(h:cY 40 x=true)(h':cY 40 y=true):ib S x y=some (.bl (!jm x y)):=Xc ⟨h,h'⟩
@[simp] theorem jf{i j:Int}:bY S (.int i) (.int j)=some (.bl (i == j)):=mx (by simp [cY]) (by simp [cY])
@[simp] theorem MZ{i j:Int}:ib S (.int i) (.int j)=some (.bl (!(i == j))):=rA (by simp [cY]) (by simp [cY])
@[simp] theorem fEq_bb:bY S (.bl k) (.bl l)=some (.bl (k == l)):=mx (by simp [cY]) (by simp [cY])
@[simp] theorem cH{i j:Str}:bY S (.str i) (.str j)=some (.bl (i == j)):=mx (by simp [cY]) (by simp [cY])
@[simp] theorem rq{i j:Str}:ib S (.str i) (.str j)=some (.bl (!(i == j))):=rA (by simp [cY]) (by simp [cY])
def je{ys:List D}(hs:ii S y=some ys)(h:cY 40 x=true)(h':ys.all (cY 39)=true):kz S x y=some (.bl (ys.any fun d=>jm d x)):=by
 unfold kz;rw [hs];exact Xc ⟨h,h'⟩
def Jf{ys:List D}(hs:ii S y=some ys)(h:cY 40 x=true)(h':ys.all (cY 39)=true):rp S x y=some (.bl (!ys.any fun d=>jm d x)):=by
 unfold rp;rw [hs];exact Xc ⟨h,h'⟩
def GP{xs:List D}{k:Int}(h0:0<=k)(h1:k<=100000)(h:xs.length * k.toNat<=1000):cC S (.tup xs) (.int k)=some (.tup (List.replicate k.toNat xs).flatten):=Xc ⟨by omega,by omega,sz h⟩
def dO(f:MF)(x:D)(q:List D×ac):Option (D×ac):=f x q.1 q.2
def nj(f:MF)(ms:MA)(env:bp)(q:D×ac):Option (D×ac):=if sJ q.2 q.1=true then (ms env q.2).bind (dO f q.1) else none
@[simp] theorem js{f:MF}:di f a ms env S=(a env S).bind (nj f ms env):=by rw [BY];rfl
@[simp] theorem kMeth_l{f:MF}{xs:List D}:nj f ms env (.lst xs,S)=(ms env S).bind (dO f (.lst xs)):=id rfl
def oe{f:MF}{r:Nat}{xs:List D}(h:S[r]?=some (.lst xs)):nj f ms env (.ref r,S)=(ms env S).bind (dO f (.ref r)):=by
 unfold nj;exact Xc (by simp only [sJ,h])
@[simp] theorem eC{f:MF}{xs:List D}:dO f x (xs,S)=f x xs S:=id rfl
def on{r:Nat}{xs:List D}(h:S[r]?=some (.lst xs))(hz:xs.length<1000):cX (.ref r) [y] S=some (.non,S.set r (.lst (xs++[y]))):=by
 simp only [cX,h];exact Xc (Xi hz (by decide))
def Cq(q:List D×ac):Option (List D×ac):=match q.1 with | [.tup xs]=>some (eR 0 xs,q.2) | _=>none
@[simp] theorem kEnum_s{xs:List D}:Cq ([.tup xs],S)=some (eR 0 xs,S):=id rfl
@[simp] theorem nY:el ms env S=(ms env S).bind Cq:=by rw [Cb];rfl
def Qs{ns:List Int}(h:ns.length<64):rY S (.lst (ns.map .int))=some ns:=by
 unfold rY
 rw [Xc (show sJ S (.lst (ns.map D.int))=true from rfl)]
 show (pE (ns.map D.int)).bind _=_
 rw [uY];exact Xc h
def kPar(i j:Nat)(env:bp)(q:List D×ac):Option pK:=match q.1 with | [v,w]=>some (.nx ((env.set i (some v)).set j (some w)) q.2) | _=>none
@[simp] theorem Uw{i j:Nat}:lq i j ms env S=(ms env S).bind (kPar i j env):=by rw [Gv];rfl
@[simp] theorem UQ{i j:Nat}:kPar i j env ([x,y],S)=some (.nx ((env.set i (some x)).set j (some y)) S):=id rfl
def Qm(ms:MA)(env:bp)(q:D×ac):Option (D×ac):=if Ks q.1=true then (ms env q.2).bind (dO gd q.1) else if sJ q.2 q.1=true then (ms env q.2).bind (dO om q.1) else none
@[simp] theorem Me:ju a ms env S=(a env S).bind (Qm ms env):=by rw [GD];rfl
@[simp] theorem kCnt_t{xs:List D}:Qm ms env (.tup xs,S)=(ms env S).bind (dO gd (.tup xs)):=id rfl
@[simp] theorem kCnt_l{xs:List D}:Qm ms env (.lst xs,S)=(ms env S).bind (dO om (.lst xs)):=id rfl
def Jm{xs:List D}(h:cY 40 x=true)(h':xs.all (cY 39)=true):gd (.tup xs) [x] S=some (.int (xs.countP fun d=>jm d x),S):=by
 show (if Ks (.tup xs)=true then vt (.tup xs) [x] S else none)=_
 rw [Xc (show Ks (.tup xs)=true from rfl)]
 exact Xc ⟨h,h'⟩
def kZip(q:List D×ac):Option (List D×ac):=match q.1 with | [.tup xs,.tup ys]=>some (jF xs ys,q.2) | _=>none
@[simp] theorem UJ{xs ys:List D}:kZip ([.tup xs,.tup ys],S)=some (jF xs ys,S):=id rfl
@[simp] theorem Uv:kN ms env S=(ms env S).bind kZip:=by rw [Gq];rfl
@[simp] theorem Ds{xs ys:List D}:jF (x::xs) (y::ys)=.tup [x,y]::jF xs ys:=id rfl
@[simp] theorem zipD_nl{xs:List D}:jF [] xs=[]:=by cases xs <;> rfl
@[simp] theorem zipD_nr{xs:List D}:jF xs []=[]:=by cases xs <;> rfl
def UO(k:bG)(d:D)(z:List (bG×D)×ac):Option (List (bG×D)×ac):=some ((k,d)::z.1,z.2)
def Qi(r:List (ME×ME))(env:bp)(k:bG)(q:D×ac):Option (List (bG×D)×ac):=(kO r env q.2).bind (UO k q.1)
def kPr2(b:ME)(r:List (ME×ME))(env:bp)(S:ac)(k:bG):Option (List (bG×D)×ac):=(b env S).bind (Qi r env k)
def UP(b:ME)(r:List (ME×ME))(env:bp)(q:D×ac):Option (List (bG×D)×ac):=(fR q.1).bind (kPr2 b r env q.2)
@[simp] theorem pv:kO [] env S=some ([],S):=id rfl
@[simp] theorem mZ{r:List (ME×ME)}:kO ((a,b)::r) env S=(a env S).bind (UP b r env):=id rfl
@[simp] theorem kPr1_i{i:Int}{r:List (ME×ME)}:UP b r env (.int i,S)=(b env S).bind (Qi r env (.inl i)):=id rfl
@[simp] theorem EU{i:Str}{r:List (ME×ME)}:UP b r env (.str i,S)=(b env S).bind (Qi r env (.inr i)):=id rfl
@[simp] theorem ET{k:bG}{r:List (ME×ME)}:Qi r env k (d,S)=(kO r env S).bind (UO k d):=id rfl
@[simp] theorem ES{k:bG}{z:List (bG×D)}:UO k d (z,S)=some ((k,d)::z,S):=id rfl
def uP(z:List (bG×D)×ac):Option (D×ac):=if z.1.length<=15 then some (.dct ((cP [] z.1).map (·.1)) ((cP [] z.1).map (·.2)),z.2) else none
def zR(z:List (bG×D)×ac):Option (D×ac):=if z.1.length<=15 then some (.ref z.2.length,z.2++[.dct ((cP [] z.1).map (·.1)) ((cP [] z.1).map (·.2))]) else none
@[simp] theorem GB{ps:List (ME×ME)}:gy ps env S=(kO ps env S).bind uP:=by rw [Ce];rfl
@[simp] theorem Mc{ps:List (ME×ME)}:dZ ps env S=(kO ps env S).bind zR:=by rw [xq];rfl
def Cw{k:bG}:∀ {l:List (bG×D)},k ∉ l.map (·.1)->Jc l k=false
 | [],_=>rfl
 | p::r,h=>by
  rw [WR,Xq,not_or] at h
  unfold Jc;rw [if_neg (fun z=>h.1 z.symm)];exact Cw h.2
def pq:∀ {l m:List (bG×D)},((m++l).map (·.1)).Nodup->cP m l=m++l
 | [],m,_=>by rw [Xr];rfl
 | p::r,m,h=>by
  show cP (Lc m p.1 p.2) r=_
  have hn:p.1 ∉ m.map (·.1):=by
   rw [Xy,WR,YC] at h
   intro z;exact h.2.2 _ z _ WL rfl
  unfold Lc;rw [Cw hn,if_neg Bool.false_ne_true]
  rw [pq (by rw [Xm];exact h),Xm];rfl
def qT{l:List (bG×D)}(h:(l.map (·.1)).Nodup):cP [] l=l:=pq (m:=[]) h
def Cr{l:List (bG×D)}(h:(l.map (·.1)).Nodup)(hl:l.length<=15):uP (l,S)=some (.dct (l.map (·.1)) (l.map (·.2)),S):=by
 unfold uP;rw [Xc hl];simp only [qT h]
def IU{l:List (bG×D)}(h:(l.map (·.1)).Nodup)(hl:l.length<=15):zR (l,S)=some (.ref S.length,S++[.dct (l.map (·.1)) (l.map (·.2))]):=by
 unfold zR;rw [Xc hl];simp only [qT h]
def yg{α β:Type}:∀ (l:List (α×β)),(l.map (·.1)).zip (l.map (·.2))=l
 | []=>rfl
 | p::r=>by rw [WR,WR,List.zip_cons_cons,yg r]
@[simp] theorem fIx_dct{ks:List bG}{vs:List D}:aw S (.dct ks vs) y=(fR y).bind (jG (ks.zip vs)):=id rfl
def kDict_nd{l:List (bG×D)}(h:(l.map (·.1)).Nodup)(hl:l.length<=15):uP (l,S)=some (.dct (l.map (·.1)) (l.map (·.2)),S):=by
 unfold uP;rw [Xc hl];simp only [qT h]
def fIx_d{l:List (bG×D)}{k:bG}(h:fR y=some k):aw S (.dct (l.map (·.1)) (l.map (·.2))) y=jG l k:=by
 show (fR y).bind (fun k=>jG ((l.map (·.1)).zip (l.map (·.2))) k)=_
 rw [h,yg];rfl
def Vu{r:Nat}{l:List (bG×D)}{k:bG}(hr:S[r]?=some (.dct (l.map (·.1)) (l.map (·.2))))(h:fR y=some k):aw S (.ref r) y=jG l k:=by
 have:AL S (.ref r)=some l:=by simp only [AL,hr,yg]
 unfold aw;rw [this];show (fR y).bind _=_;rw [h];rfl
def uN(f:MF)(ms:MA)(env:bp)(q:D×ac):Option (D×ac):=if Og q.2 q.1=true then (ms env q.2).bind (dO f q.1) else none
def zS(g:MG)(t:MT)(e:ME)(cap:List (Option Nat))(env:bp)(q:D×ac):Option (D×ac):=match q.1 with
 | .ref r=>(fF g t e r 2000 0 (lD cap env) q.2).bind rj
 | _=>none
def Cg{g:MG}{t:MT}{e:ME}{cap:List (Option Nat)}:cR a g t e cap env S=(a env S).bind (zS g t e cap env):=by rw [qW];rfl
def Cs{g:MG}{t:MT}{e:ME}{cap:List (Option Nat)}{r:Nat}:zS g t e cap env (.ref r,S)=(fF g t e r 2000 0 (lD cap env) S).bind rj:=id rfl
def uL(l:List (bG×D))(q:D×ac):Option (D×ac):=(fR q.1).bind fun k=>(jG l k).bind fun d=>some (d,q.2)
@[simp] theorem uE{l:List (bG×D)}:dq l a env S=(a env S).bind (uL l):=by rw [xj];rfl
@[simp] theorem LY{f:MF}:dX f a ms env S=(a env S).bind (uN f ms env):=by rw [xo];rfl
@[simp] theorem kMethD_d{f:MF}{ks:List bG}{vs:List D}:uN f ms env (.dct ks vs,S)=(ms env S).bind (dO f (.dct ks vs)):=id rfl
def Mq{f:MF}{r:Nat}{ks:List bG}{vs:List D}(h:S[r]?=some (.dct ks vs)):uN f ms env (.ref r,S)=(ms env S).bind (dO f (.ref r)):=by
 unfold uN;exact Xc (by simp only [Og,h])
@[simp] theorem valD_nil{k:bG}:jG [] k=none:=id rfl
@[simp] theorem valD_cons{k k':bG}{l:List (bG×D)}:jG ((k',d)::l) k=if k'=k then some d else jG l k:=id rfl
@[simp] theorem keyOf_i{i:Int}:fR (.int i)=some (.inl i):=id rfl
@[simp] theorem zM{i:Str}:fR (.str i)=some (.inr i):=id rfl
def QC{r:Nat}{l m:List (bG×D)}(hr:S[r]?=some (.dct (l.map (·.1)) (l.map (·.2))))(hl:l.length+m.length<=1000) :
  vn (.ref r) [.dct (m.map (·.1)) (m.map (·.2))] S=some (.non,S.set r (.dct ((cP l m).map (·.1)) ((cP l m).map (·.2)))):=by
 simp only [vn,hr,yg]
 exact Xc (by rw [WM,WM];exact sz hl)
def qk(tg:MG)(p:MS)(env:bp)(q:D×ac):Option pK:=match q.1 with
 | .ref r=>fK tg p r 2000 0 env q.2
 | .lst xs=>cj tg p xs env q.2
 | .rol xs=>cj tg p xs env q.2
 | .tup xs=>cj tg p xs env q.2
 | _=>none
@[simp] theorem lW:dI a tg p env S=(a env S).bind (qk tg p env):=by rw [Ca];rfl
@[simp] theorem GG{xs:List D}:qk tg p env (.lst xs,S)=cj tg p xs env S:=id rfl
@[simp] theorem kForD_o{xs:List D}:qk tg p env (.rol xs,S)=cj tg p xs env S:=id rfl
@[simp] theorem Ql{xs:List D}:qk tg p env (.tup xs,S)=cj tg p xs env S:=id rfl
@[simp] theorem kForD_r{r:Nat}:qk tg p env (.ref r,S)=fK tg p r 2000 0 env S:=id rfl
def IR(tg:MG)(p:MS)(r f i:Nat):pK->Option pK
 | .nx e s=>fK tg p r f i e s
 | .ct e s=>fK tg p r f i e s
 | .bk e s=>some (.nx e s)
 | .rt d s=>some (.rt d s)
def kRl1(tg:MG)(p:MS)(r f i:Nat)(q:bp×ac):Option pK:=(p q.1 q.2).bind (IR tg p r f i)
@[simp] theorem kRl1_s{r f i:Nat}:kRl1 tg p r f i (e,S)=(p e S).bind (IR tg p r f i):=id rfl
@[simp] theorem kRl2_nx{r f i:Nat}:IR tg p r f i (.nx e S)=fK tg p r f i e S:=id rfl
@[simp] theorem kRl2_ct{r f i:Nat}:IR tg p r f i (.ct e S)=fK tg p r f i e S:=id rfl
@[simp] theorem kRl2_bk{r f i:Nat}:IR tg p r f i (.bk e S)=some (.nx e S):=id rfl
@[simp] theorem kRl2_rt{r f i:Nat}:IR tg p r f i (.rt d S)=some (.rt d S):=id rfl
def Uz{r f i:Nat}{xs:List D}(h:S[r]?=some (.lst xs))(hx:xs.length<=i):fK tg p r (f+1) i env S=some (.nx env S):=by
 have hx':xs[i]?=none:=by simpa using hx
 unfold fK;rw [h];simp only [hx']
def EV(q:List D×ac):Option (D×ac):=match q.1 with | [.int j]=>if 0<=j/\j<=1000 then some (.lst (cD 0 j.toNat),q.2) else none | _=>none
@[simp] theorem LZ:dY ms env S=(ms env S).bind EV:=by rw [xp];rfl
def IS{j:Int}(h0:0<=j)(h1:j<=1000):EV ([.int j],S)=some (.lst (cD 0 j.toNat),S):=Xc ⟨h0,h1⟩
def UK(t:MT)(p:MS)(f:Nat):pK->Option pK
 | .nx e s=>gL t p f e s
 | .ct e s=>gL t p f e s
 | .bk e s=>some (.nx e s)
 | .rt d s=>some (.rt d s)
def kWh(t:MT)(p:MS)(f:Nat)(env:bp)(q:Bool×ac):Option pK:=if q.1=true then (p env q.2).bind (UK t p f) else some (.nx env q.2)
@[simp] theorem LS:dU t p env S=gL t p 5000 env S:=by rw [xh];rfl
def IH{f:Nat}:gL t p (f+1) env S=(t env S).bind (kWh t p f env):=by
 show (t env S).bind _=_
 first | rfl | (congr 1;done)
@[simp] theorem kWh_t{f:Nat}:kWh t p f env (true,S)=(p env S).bind (UK t p f):=id rfl
@[simp] theorem kWh_f{f:Nat}:kWh t p f env (false,S)=some (.nx env S):=id rfl
@[simp] theorem Qg{f:Nat}:UK t p f (.nx e S)=gL t p f e S:=id rfl
def QE{ns:List Int}(h:ns.length<64)(h0:ns≠[]):aP oX [.lst (ns.map .int)] S=some (.int (kM ns),S):=by
 show ((oX S [.lst (ns.map D.int)]).bind _)=_
 have:oX S [.lst (ns.map D.int)]=some (.int (kM ns)):=by
  show ((rY S (.lst (ns.map D.int))).bind _)=_
  rw [Qs h]
  show (if ns.isEmpty=true then none else some (D.int (kM ns)))=_
  rw [if_neg (by cases ns with | nil=>exact absurd rfl h0 | cons _ _=>simp)]
 rw [this];rfl
def GR{x y:D}{xs ys:List D}(h:(zT x||zT y)=true)(h1:rV S x=some xs)(h2:rV S y=some ys)(hl:xs.length+ys.length<=1000):aT S x y=some (.lst (xs++ys)):=by
 unfold aT;rw [Xc h,h1,h2];exact Xc (sz hl)
def szM{n:Nat}(h:n<=1000000):n<=sizeLine:=Xl h (by decide)
def HF:∀ ys:List Str,Ga (ys.map .str)=some ys
 | []=>rfl
 | y::r=>by
  have:=HF r
  show (Ga (r.map .str)).bind _=_
  rw [this];rfl
def PC:pK->Option (D×ac)
 | .rt d S'=>some (d,S')
 | .nx _ S'=>some (.non,S')
 | .bk _ _=>none
 | .ct _ _=>none
@[simp] theorem aJ:PC (.rt d S)=some (d,S):=id rfl
@[simp] theorem outM_nx:PC (.nx e S)=some (.non,S):=id rfl
def ba{N:List Str}{m:MS}{n:Nat}{ds:List D}{S:ac}(h:ds.length=n):aQ N m n ds S=(m (aC N ds) S).bind PC:=by
 unfold aQ;rw [Xc h];first | rfl | (congr 1;funext o;cases o <;> rfl)
@[simp] theorem rep0:List.replicate 0 (none:Option D)=[]:=id rfl
end
def tj:MS:=
 ay (bC (ax (ar fGt (ar aw (ab 0) (mC (.int 0))) (mC (.int 0)))) (ay (aI (ar mw (ar aw (ab 0) (mC (.int 0))) (ab 1)) (ah 2)) (ay (aI (ar Jl (ar aw (ab 0) (mC (.int 0))) (ab 1)) (eW (ab 0) (mC (.int 0)))) (aV (ab 2)))) (aY)) (ay (aI (ar aT (ar aw (ab 0) (mC (.int 2))) (mC (.int 1))) (eW (ab 0) (mC (.int 2)))) (ay (aI (ar mw (ar aT (ar aT (ar cC (ar aw (ab 0) (mC (.int 1))) (mC (.int 48271))) (mC (.int 12345))) (ar cC (mC (.int 7)) (ar aw (ab 0) (mC (.int 2))))) (mC (.int 2147483647))) (eW (ab 0) (mC (.int 1)))) (aV (ar mw (ar Jl (ar mw (ar cC (ar aw (ab 0) (mC (.int 1))) (ar aw (ab 0) (mC (.int 1)))) (mC (.int 1999999973))) (mC (.int 64))) (ab 1)))))
def ER:MS:=
 ay (aI (mC (.int 1)) (ah 0)) (ay (ia (bZ (aa (mC (.int 10)) (ai))) (ah 1) (aI (ar cC (ab 0) (ar wz (mC (.int 10)) (mC (.int 60)))) (ah 0))) (aV (ab 0)))
def nZ:MS:=
 ay (bC (ax (ar QF (ab 1) (bd (aP fg) (aa (ab 0) (ai))))) (aV (ar aw (ab 0) (ab 1))) (aY)) (aV (mC (.int 0)))
def tm(cellAt far:List D->ac->Option (D×ac)):MS:=
 ay (aI (ao 2 cellAt (aa (ab 0) (aa (ar mw (ab 1) (bd (aP oX) (aa (mC (.int 1)) (aa (bd (aP fg) (aa (ab 0) (ai))) (ai))))) (ai)))) (ah 2)) (ay (aI (ar mw (ar cC (ar aT (ar aT (ar mw (ab 2) (mC (.int 2147483629))) (ar cC (ar cC (mC (.int 7919)) (ab 1)) (ab 1))) (mC (.int 11))) (mC (.int 48271))) (mC (.int 2147483647))) (ah 3)) (ay (aI (ar mw (ar aT (ar aT (ar cC (ab 3) (mC (.int 39373))) (ar cC (mC (.int 7)) (ab 1))) (mC (.int 1))) (mC (.int 2147483629))) (ah 3)) (ay (bC (ax (ar QF (ab 2) (ar wz (mC (.int 10)) (mC (.int 18))))) (aI (mC (.int 0)) (ah 2)) (aY)) (aV (dj (aa (ar mw (ab 2) (ao 0 far ai)) (aa (ab 3) (aa (mC (.int 0)) (ai)))))))))
def Wt{a b c:D}:mM [a,b,c] 0=some a/\mM [a,b,c] 1=some b/\mM [a,b,c] 2=some c:=⟨rfl,rfl,rfl⟩
def Pk(S:ac)(r:Nat):Prop:=∃ a b c:Int,S[r]?=some (.lst [.int a,.int b,.int c])/\0<=a/\0<=b/\b<2147483647
def p60:Int:=1000000000000000000000000000000000000000000000000000000000000
def Ua:(10:Int) ^ (60:Int).toNat=p60:=by decide +kernel
def TZ:p60.natAbs<=2 ^ (200 * 1):=by decide +kernel
def Py:0<p60:=by decide +kernel
def Pz{i:Int}(h:i.natAbs<2 ^ 4000):pY i p60=true:=by
 unfold pY
 rw [WU h,WU (p:=p60.natAbs<2 ^ 4000) (by decide +kernel)]
 simp
def MW:MS:=aI (ar cC (ab 0) (ar wz (mC (.int 10)) (mC (.int 60)))) (ah 0)
def Vp{S:ac}:wz S (.int 10) (.int 60)=some (.int p60):=by
 have h:=MX (S:=S) (i:=10) (j:=60) (by decide +kernel)
 rw [Ua] at h
 exact h
def MV{S:ac}{a p:Int}{o:Option D}(h1:wz S (.int 10) (.int 60)=some (.int p))(h2:cC S (.int a) (.int p)=some (.int (a * p))):MW [some (.int a),o] S=some (.nx [some (.int (a * p)),o] S):=by
 simp [MW,h1,h2]
def QB{S:ac}{a:Int}{o:Option D}(h:pY a p60=true):MW [some (.int a),o] S=some (.nx [some (.int (a * p60)),o] S):=MV Vp (jX h)
def farL{S:ac}{B:Nat}(hB:∀ i:Int,i.natAbs<B->pY i p60=true)(l:List D):∀ (a:Int) (o:Option D),0<a->a.natAbs * 2 ^ (200 * l.length)<B->∃ q o',cj (ah 1) MW l [some (.int a),o] S=some (.nx [some (.int q),o'] S)/\0<q:=by
 induction l with
 | nil=>exact fun a o h _=>⟨a,o,rfl,h⟩
 | cons d l ih=>
  intro a o h hb
  have h1:a.natAbs<B:=aaS (Nat.le_mul_of_pos_right _ (Nat.pow_pos (by decide))) hb
  obtain⟨q,o',e,hq⟩:=ih (a * p60) (some d) (Int.mul_pos h Py) (by
   rw [Int.natAbs_mul]
   refine aaS ?_ hb
   rw [WT,Nat.mul_add,Nat.pow_add,Nat.mul_assoc]
   refine aaN _ ?_
   rw [ZO]
   exact aaN _ TZ)
  refine⟨q,o',?_,hq⟩
  rw [dk,aO,ob,jO]
  show (MW [some (.int a),some d] S).bind _=_
  rw [QB (hB a h1),ob,iF]
  exact e
def MU{S:ac}{N:List Str}(hN:N.length=2):∃ q:Int,aQ N ER 0 [] S=some (.int q,S)/\0<q:=by
 obtain⟨q,o',e,hq⟩:=farL (S:=S) (fun i h=>Pz h) (cD 0 10) 1 none (by decide) (by decide +kernel)
 refine⟨q,?_,hq⟩
 rw [ba (show ([]:List D).length=0 from rfl)]
 have:aC N []=[none,none]:=by simp [aC,hN,List.replicate]
 rw [this]
 have k1:Qh ([.int 10],S)=some (cD 0 10,S):=pC (by decide) (by decide)
 have e':cj (ah 1) (aI (ar cC (ab 0) (ar wz (mC (.int 10)) (mC (.int 60)))) (ah 0)) (cD 0 10) [some (.int 1),none] S=some (.nx [some (.int q),o'] S):=e
 simp only [ER,aS,bh,bf,ob,bi,aO,dR,bK,aD,qV,iw,aq,am,az,al,k1,rh,e',aX,ak,bD,oj,aj,bq,aJ]
def Ib{S:ac}{r:Nat}{m:Int}{N:List Str}(hN:N.length=3)(h:Pk S r)(h0:0<m)(h1:m<1073741824) :
  ∃ q S',aQ N tj 2 [.ref r,.int m] S=some (.int q,S')/\0<=q/\q<m/\Pk S' r/\(∀ j,j≠r->S'[j]?=S[j]?)/\S'.length=S.length:=by
 obtain⟨a,b,c,h,ha,hb,hb'⟩:=h
 have hr:r<S.length:=(WJ.mp h).1
 have hm:∀ x:Int,0<=x % m/\x % m<m:=fun x=>⟨YR _ (by omega),ZF _ h0⟩
 have hst:aC N [.ref r,.int m]=[some (.ref r),some (.int m),none]:=by simp [aC,hN]
 rw [ba (show [D.ref r,D.int m].length=2 from rfl),hst]
 have hs:∀ c:Cell,(S.set r c)[r]?=some c:=fun c=>Xn hr
 by_cases hp:0<a
 ·refine⟨a % m,S.set r (.lst [.int (a / m),.int b,.int c]),?_,(hm a).1,(hm a).2,⟨a / m,b,c,hs _,Int.ediv_nonneg ha (by omega),hb,hb'⟩,fun j hj=>by rw [Xf (Ne.symm hj)],by simp⟩
  have w:=uM (env:=[some (.ref r),some (.int m),some (.int (a % m))]) (d:=.int (a / m)) h (show GL _ 0=some 0 from rfl)
  simp [tj,kJ h,hp,jY h0,Nf h0 h1,Wt,w]
 ·have hB:∀ x:Int,0<=x % 2147483647/\x % 2147483647<2147483647:=fun x=>⟨YR _ (by decide),ZF _ (by decide)⟩
  let b':=(b * 48271+12345+7 * (c+1)) % 2147483647
  have hb2:=hB (b * 48271+12345+7 * (c+1))
  have m3:pY b' b'=true:=qS (by omega) (by omega)
  have s1:(S.set r (.lst [.int a,.int b,.int (c+1)]))[r]?=some (.lst [.int a,.int b,.int (c+1)]):=hs _
  have s2:((S.set r (.lst [.int a,.int b,.int (c+1)])).set r (.lst [.int a,.int b',.int (c+1)]))[r]?=some (.lst [.int a,.int b',.int (c+1)]):=Xn (by simpa using hr)
  refine⟨b' * b' % 1999999973 / 64 % m,(S.set r (.lst [.int a,.int b,.int (c+1)])).set r (.lst [.int a,.int b',.int (c+1)]),?_,(hm _).1,(hm _).2,⟨a,b',c+1,s2,ha,(hB _).1,(hB _).2⟩,fun j hj=>by rw [Xf (Ne.symm hj),Xf (Ne.symm hj)],by simp⟩
  have e1:cC (S.set r (.lst [.int a,.int b,.int (c+1)])) (.int b) (.int 48271)=some (.int (b * 48271)):=jX (zg (by decide) (by decide))
  have e2:cC (S.set r (.lst [.int a,.int b,.int (c+1)])) (.int 7) (.int (c+1))=some (.int (7 * (c+1))):=jX (qS (by decide) (by decide))
  have e3:∀ S x,mw S (.int x) (.int 2147483647)=some (.int (x % 2147483647)):=fun _ _=>jY (by decide)
  have e4:∀ S x,mw S (.int x) (.int 1999999973)=some (.int (x % 1999999973)):=fun _ _=>jY (by decide)
  have e5:∀ S x,Jl S (.int x) (.int 64)=some (.int (x / 64)):=fun _ _=>Nf (by decide) (by decide)
  have w1:=uM (env:=[some (.ref r),some (.int m),none]) (d:=.int (c+1)) h (show GL _ 2=some 2 from rfl)
  have w2:=uM (env:=[some (.ref r),some (.int m),none]) (d:=.int b') s1 (show GL _ 1=some 1 from rfl)
  simp [tj,kJ h,kJ s1,kJ s2,hp,jY h0,Wt,e1,e2,e3,e4,e5,w1]
  rw [show (b * 48271+12345+7 * (c+1)) % 2147483647=b' from rfl,w2]
  simp [kJ (hs _),Wt,jX m3,e4,e5,jY h0]
def Dj{S:ac}{ns:List Int}{k:Int}{N:List Str}(hN:N.length=2)(h0:0<=k):∃ v,aQ N nZ 2 [.rol (ns.map .int),.int k] S=some (.int v,S):=by
 rw [ba (show [D.rol (ns.map .int),D.int k].length=2 from rfl)]
 have hst:aC N [D.rol (ns.map .int),D.int k]=[some (D.rol (ns.map .int)),some (.int k)]:=by simp [aC,hN]
 rw [hst]
 by_cases h:k<ns.length
 ·have e:mM (ns.map D.int) k=some (.int (ns[k.toNat]'(by omega))):=by
   rw [As h0 (by simpa using h)];simp
  exact⟨ns[k.toNat]'(by omega),by simp [nZ,h,e]⟩
 ·exact⟨0,by simp [nZ,h]⟩
def WD{S:ac}{a b c:Int}(ha:0<=a)(hb:0<=b)(hb':b<2147483647):Pk (S++[.lst [.int a,.int b,.int c]]) S.length:=⟨a,b,c,by simp,ha,hb,hb'⟩
def IK{S:ac}{ns:List Int}{k:Int}{N:List Str}{cellAt far:List D->ac->Option (D×ac)}(hN:N.length=4)(h0:0<=k)(h1:k<=100000)
  (hc:∀ S k,0<=k->∃ v,cellAt [.rol (ns.map .int),.int k] S=some (.int v,S)) (hf:∀ S,∃ q,far [] S=some (.int q,S)/\0<q) :
  ∃ a b,aQ N (tm cellAt far) 2 [.rol (ns.map .int),.int k] S=some (.ref S.length,S++[.lst [.int a,.int b,.int 0]])/\0<=a/\0<=b/\b<2147483647:=by
 rw [ba (show [D.rol (ns.map .int),D.int k].length=2 from rfl)]
 have hst:aC N [D.rol (ns.map .int),D.int k]=[some (D.rol (ns.map .int)),some (.int k),none,none]:=by simp [aC,hN,List.replicate]
 rw [hst]
 have hmx:0<(if (ns.length:Int)>1 then (ns.length:Int) else 1):=by split <;> omega
 obtain⟨v,hv⟩:=hc S (k % (if (ns.length:Int)>1 then (ns.length:Int) else 1)) (YR _ (by omega))
 obtain⟨q,hq,q0⟩:=hf S
 have e1:∀ S x,mw S (.int x) (.int 2147483629)=some (.int (x % 2147483629)):=fun _ _=>jY (by decide)
 have e2:∀ S x,mw S (.int x) (.int 2147483647)=some (.int (x % 2147483647)):=fun _ _=>jY (by decide)
 have e3:∀ S x,mw S (.int x) (.int q)=some (.int (x % q)):=fun _ _=>jY q0
 have p1:∀ S,cC S (.int 7919) (.int k)=some (.int (7919 * k)):=fun _=>jX (qS (by decide) (by decide))
 have p2:∀ S,cC S (.int (7919 * k)) (.int k)=some (.int (7919 * k * k)):=fun _=>jX (zg (by omega) (by omega))
 have p3:∀ S x,cC S (.int x) (.int 48271)=some (.int (x * 48271)):=fun _ _=>jX (zg (by decide) (by decide))
 have p4:∀ S x,cC S (.int x) (.int 39373)=some (.int (x * 39373)):=fun _ _=>jX (zg (by decide) (by decide))
 have p5:∀ S,cC S (.int 7) (.int k)=some (.int (7 * k)):=fun _=>jX (qS (by decide) (by decide))
 have pw:∀ S,wz S (.int 10) (.int 18)=some (.int 1000000000000000000):=fun S=>by
  have h:=MX (S:=S) (i:=10) (j:=18) (by decide +kernel)
  rwa [show (10:Int) ^ (18:Int).toNat=1000000000000000000 by decide +kernel] at h
 have hb:∀ x:Int,0<=x % 2147483629/\x % 2147483629<2147483647:=fun x=>⟨YR _ (by decide),by have:=ZF x (show (0:Int)<2147483629 by decide);omega⟩
 have kl:∀ S x y,qj ([.int x,.int y,.int 0],S)=some (.ref S.length,S++[.lst [.int x,.int y,.int 0]]):=fun _ _ _=>jN (by simp)
 by_cases h:v<1000000000000000000
 ·refine⟨0 % q,(((v % 2147483629+7919 * k * k+11) * 48271 % 2147483647) * 39373+7 * k+1) % 2147483629,?_,YR _ (by omega),(hb _).1,(hb _).2⟩
  simp [-Int.zero_emod,tm,jY hmx,hv,e1,e2,e3,p1,p2,p3,p4,p5,pw,h,hq,kl]
 ·refine⟨v % q,(((v % 2147483629+7919 * k * k+11) * 48271 % 2147483647) * 39373+7 * k+1) % 2147483629,?_,YR _ (by omega),(hb _).1,(hb _).2⟩
  simp [tm,jY hmx,hv,e1,e2,e3,p1,p2,p3,p4,p5,pw,h,hq,kl]
def CK{tg:MG}{p:MS}(I:bp->ac->Prop):∀ (xs:List D),(∀ d∈xs,∀ env S,I env S->∃ env1 S1 env2 S2,tg d env S=some (env1,S1)/\p env1 S1=some (.nx env2 S2)/\I env2 S2) ->
  ∀ env S,I env S->∃ env' S',cj tg p xs env S=some (.nx env' S')/\I env' S'
 | [],_,env,S,h=>⟨env,S,rfl,h⟩
 | d::xs,hs,env,S,h=>by
  obtain⟨env1,S1,env2,S2,e1,e2,h2⟩:=hs d WL env S h
  obtain⟨env',S',e3,h3⟩:=CK I xs (fun d hd=>hs d (WO _ hd)) env2 S2 h2
  exact⟨env',S',by rw [dk,e1,ob,jO,e2,ob,iF,e3],h3⟩
def Ew{lo:Int}{n:Nat}{d:D}(h:d∈cD lo n):∃ i:Nat,i<n/\d=.int (lo+(i:Int)):=by
 obtain⟨i,hi⟩:=YX.mp h
 exact⟨i,tT lo n i d hi⟩
def nr:D->Bool
 | .ref _=>false
 | _=>true
abbrev PF:=List D->ac->Option (D×ac)
def FT(pick:PF):Prop:=∀ (S:ac) (r:Nat) (m:Int),Pk S r->0<m->m<1073741824->∃ q S',pick [.ref r,.int m] S=some (.int q,S')/\0<=q/\q<m/\Pk S' r/\(∀ j,j≠r->S'[j]?=S[j]?)/\S'.length=S.length
def zJ(pick:PF):MS:=
 ay (aI (ar aw (eM (aa (mC (.str "rows")) (aa (mC (.str "readers")) (aa (mC (.str "writers")) (aa (mC (.str "turns")) (aa (mC (.str "passes")) (ai))))))) (ao 2 pick (aa (ab 0) (aa (mC (.int 5)) (ai))))) (ah 1)) (ay (aI (ar aw (eM (aa (mC (.int 0)) (aa (mC (.int 0)) (aa (mC (.int 1)) (aa (mC (.int 2)) (aa (mC (.int 3)) (aa (mC (.int 5)) (ai)))))))) (ao 2 pick (aa (ab 0) (aa (mC (.int 6)) (ai))))) (ah 2)) (ay (aI (ar cC (ar aw (eM (aa (mC (.int 0)) (aa (mC (.int 1)) (aa (mC (.int 2)) (aa (mC (.int 9)) (ai)))))) (ao 2 pick (aa (ab 0) (aa (mC (.int 4)) (ai))))) (bd (aP jk) (aa (ar bY (ab 1) (mC (.str "passes"))) (ai)))) (ah 3)) (aV (aM (aa (ab 1) (aa (ab 2) (aa (ab 3) (aa (ao 2 pick (aa (ab 0) (aa (mC (.int 2)) (ai)))) (ai)))))))))
def RF{q:Int}(h0:0<=q)(h1:q<6):∃ i:Int,mM [D.int 0,D.int 0,D.int 1,D.int 2,D.int 3,D.int 5] q=some (.int i)/\0<=i/\i<=5:=by
 obtain rfl | rfl | rfl | rfl | rfl | rfl:q=0\/q=1\/q=2\/q=3\/q=4\/q=5:=by omega
 all_goals exact⟨_,rfl,by decide,by decide⟩
def Ot{q:Int}(h0:0<=q)(h1:q<4):∃ i:Int,mM [D.int 0,D.int 1,D.int 2,D.int 9] q=some (.int i)/\0<=i/\i<=9:=by
 obtain rfl | rfl | rfl | rfl:q=0\/q=1\/q=2\/q=3:=by omega
 all_goals exact⟨_,rfl,by decide,by decide⟩
def forR{tg:MG}{p:MS}{lo:Int}(I:Nat->bp->ac->Prop)(n:Nat)(step:∀ i,i<n->∀ env S,I i env S->∃ env1 S1 env2 S2,tg (.int (lo+(i:Int))) env S=some (env1,S1)/\p env1 S1=some (.nx env2 S2)/\I (i+1) env2 S2) :
  ∀ env S,I 0 env S->∃ env' S',cj tg p (cD lo n) env S=some (.nx env' S')/\I n env' S':=by
 have gen:∀ (m k:Nat),k+m=n->∀ env S,I k env S->∃ env' S',cj tg p ((List.range' k m).map fun(i:Nat)=>D.int (lo+(i:Int))) env S=some (.nx env' S')/\I n env' S':=by
  intro m
  induction m with
  | zero=>exact fun k hk env S h=>⟨env,S,rfl,by rw [<- hk];exact h⟩
  | succ m ih=>
   intro k hk env S h
   obtain⟨env1,S1,env2,S2,e1,e2,h2⟩:=step k (by omega) env S h
   obtain⟨env',S',e3,h3⟩:=ih (k+1) (by omega) env2 S2 h2
   refine⟨env',S',?_,h3⟩
   rw [List.range'_succ,WR,dk,e1,ob,jO,e2,ob,iF,e3]
 intro env S h
 have:=gen n 0 (by omega) env S h
 unfold cD
 rw [List.range_eq_range']
 exact this
def EntOk(n:Int)(xs:List D)(d:D):Prop:=∃ (g:Int) (w:Str) (m:Int) (t:D),d=.tup [.int g,.str w,.int m,t]/\0<=g/\g<n/\(w = "read"\/w = "write")/\0<=m/\m<=999/\(t=.non\/∃ k,t=.int k/\1<=k/\k<=9)/\mM xs g=some (.str "out")
def EntOk.up{n n':Int}{xs:List D}{d:D}(h:EntOk n xs d)(hn:n<=n'):EntOk n' xs d:=by
 obtain⟨g,w,m,t,e,h0,h1,r⟩:=h
 exact⟨g,w,m,t,e,h0,by omega,r⟩
def CT{S:ac}{q:Nat}{xs:List D}(h:S[q]?=some (.lst xs)):aP fg [.ref q] S=some (.int xs.length,S):=by
 have e:ii S (.ref q)=some xs:=by simp only [ii,h]
 show ((ii S (.ref q)).bind _).bind _=_
 rw [e];rfl
def xS{S:ac}{g:List D->D}{q:Nat}{xs:List D}(h:S[q]?=some (.lst xs)):aP (cw g) [.ref q] S=some (g xs,S):=by
 have e:ii S (.ref q)=some xs:=by simp only [ii,h]
 show ((ii S (.ref q)).bind _).bind _=_
 rw [e];rfl
def Fa(x:Str):Prop:=x = "rows"\/x = "readers"\/x = "writers"\/x = "turns"\/x = "passes"
def RE{q:Int}(h0:0<=q)(h1:q<5):∃ x:Str,mM [D.str "rows",D.str "readers",D.str "writers",D.str "turns",D.str "passes"] q=some (.str x)/\Fa x:=by
 obtain rfl | rfl | rfl | rfl | rfl:q=0\/q=1\/q=2\/q=3\/q=4:=by omega
 ·exact⟨_,rfl,.inl rfl⟩
 ·exact⟨_,rfl,.inr (.inl rfl)⟩
 ·exact⟨_,rfl,.inr (.inr (.inl rfl))⟩
 ·exact⟨_,rfl,.inr (.inr (.inr (.inl rfl)))⟩
 ·exact⟨_,rfl,.inr (.inr (.inr (.inr rfl)))⟩
def Keep(r:Nat)(S S':ac):Prop:=(∀ j,j≠r->S'[j]?=S[j]?)/\S'.length=S.length
def Keep.trans{r:Nat}{S S' S'':ac}(h:Keep r S S')(h':Keep r S' S''):Keep r S S'':=⟨fun j z=>(h'.1 j z).trans (h.1 j z),h'.2.trans h.2⟩
structure WB(x:Str)(a b c:Int):Prop where
 w:Fa x
 a0:0<=a
 a5:a<=5
 b0:0<=b
 b9:b<=9
 c0:0<=c
 c1:c<=1
def HX{pick:PF}(hp:FT pick){S:ac}{r:Nat}{N:List Str}(hN:N.length=4)(h:Pk S r):∃ x a b c S',aQ N (zJ pick) 1 [.ref r] S=some (.tup [.str x,.int a,.int b,.int c],S')/\WB x a b c/\Pk S' r/\Keep r S S':=by
 have hst:aC N [D.ref r]=[some (.ref r),none,none,none]:=by simp [aC,hN,List.replicate]
 rw [ba (show [D.ref r].length=1 from rfl),hst]
 obtain⟨q1,S1,e1,l1,g1,P1,K1⟩:=hp _ _ 5 h (by decide) (by decide)
 obtain⟨q2,S2,e2,l2,g2,P2,K2⟩:=hp _ _ 6 P1 (by decide) (by decide)
 obtain⟨q3,S3,e3,l3,g3,P3,K3⟩:=hp _ _ 4 P2 (by decide) (by decide)
 obtain⟨q4,S4,e4,l4,g4,P4,K4⟩:=hp _ _ 2 P3 (by decide) (by decide)
 obtain⟨x,i1,wx⟩:=RE l1 g1
 obtain⟨a,i2,a0,a5⟩:=RF l2 g2
 obtain⟨b,i3,b0,b9⟩:=Ot l3 g3
 have k1:∀ S,oE ([D.str "rows",D.str "readers",D.str "writers",D.str "turns",D.str "passes"],S)=some (.lst [D.str "rows",D.str "readers",D.str "writers",D.str "turns",D.str "passes"],S):=fun S=>eO (by simp)
 have k2:∀ S,oE ([D.int 0,D.int 0,D.int 1,D.int 2,D.int 3,D.int 5],S)=some (.lst [D.int 0,D.int 0,D.int 1,D.int 2,D.int 3,D.int 5],S):=fun S=>eO (by simp)
 have k3:∀ S,oE ([D.int 0,D.int 1,D.int 2,D.int 9],S)=some (.lst [D.int 0,D.int 1,D.int 2,D.int 9],S):=fun S=>eO (by simp)
 have k4:∀ S (a b c d:D),ca ([a,b,c,d],S)=some (.tup [a,b,c,d],S):=fun S a b c d=>aR (by simp)
 have m1:∀ S (z:Bool),cC S (.int b) (.int (if z=true then 1 else 0))=some (.int (b * (if z=true then 1 else 0))):=fun S z=>jX (qS (by omega) (by omega))
 refine⟨x,a,b * (if (x == ("passes":Str))=true then 1 else 0),q4,S4,?_,⟨wx,a0,a5,by split <;> omega,by split <;> omega,l4,by omega⟩,P4,Keep.trans K1 (Keep.trans K2 (Keep.trans K3 K4))⟩
 simp [-beq_iff_eq,zJ,k1,k2,k3,k4,e1,e2,e3,e4,i1,i2,i3,m1]
def lZ(F:PF):MS:=
 ay (bC (da (dN "dict" (ab 1))) (ay (bC (eL (dH (da (dN "dict" (ab 0)))) (ax (ar ib (bd (aP fg) (aa (ab 0) (ai))) (bd (aP fg) (aa (ab 1) (ai)))))) (aV (mC (.bl false))) (aY)) (ay (aI (jj) (ah 2)) (aV (bd (aP Ab) (aa (bE (cZ (ab 1)) (ah 0) (bH) (dG (ar kz (ab 0) (ab 2)) (dG (ao 2 F (aa (ar aw (ab 3) (ab 0)) (aa (ab 0) (ai)))) (ao 2 F (aa (ar aw (ab 2) (ab 0)) (aa (ar aw (ab 1) (ab 0)) (ai)))))) [none,some 1,some 0,some 2]) (ai)))))) (aY)) (ay (bC (eL (da (dN "list" (ab 1))) (da (dN "tuple" (ab 1)))) (ay (bC (eL (ax (ar ib (dN "list" (ab 0)) (dN "list" (ab 1)))) (ax (ar ib (dN "tuple" (ab 0)) (dN "tuple" (ab 1))))) (aV (mC (.bl false))) (aY)) (aV (dG (ar bY (bd (aP fg) (aa (ab 0) (ai))) (bd (aP fg) (aa (ab 1) (ai)))) (bd (aP Ab) (aa (bE (kN (aa (ab 0) (aa (ab 1) (ai)))) (aE 2 (af (ah 0) (af (ah 1) (aB)))) (bH) (ao 2 F (aa (ab 0) (aa (ab 1) (ai)))) [none,none]) (ai)))))) (aY)) (ay (bC (ax (ar wA (ab 1) (mC .non))) (aV (ar wA (ab 0) (mC .non))) (aY)) (ay (bC (da (dN "str" (ab 1))) (aV (dG (dN "str" (ab 0)) (ar bY (ab 0) (ab 1)))) (aY)) (ay (bC (eL (da (dN "bool" (ab 1))) (da (dN "bool" (ab 0)))) (aV (dG (dN "bool" (ab 0)) (dG (dN "bool" (ab 1)) (ar bY (ab 0) (ab 1))))) (aY)) (aV (dG (dN "int" (ab 0)) (ar bY (ab 0) (ab 1))))))))
def ja:Nat->D->Bool
 | 0,_=>false
 | _+1,.non=>true
 | _+1,.bl _=>true
 | _+1,.int _=>true
 | _+1,.str _=>true
 | j+1,.tup xs=>decide (xs.length<=1000)&&xs.all (ja j)
 | _+1,_=>false
def Vv{S:ac}{d:D}{j:Nat}(h:ja j d=true):lA "dict" S d=some (.bl false)/\lA "list" S d=some (.bl false):=by
 cases j with
 | zero=>cases h
 | succ j=>cases d <;> first | exact⟨rfl,rfl⟩ | (exfalso;simp [ja] at h)
def oJ:∀ xs:List D,(jF xs xs).length=xs.length
 | []=>rfl
 | x::r=>by rw [Ds,WT,WT,oJ r]
def qG:∀ n:Nat,mB (List.replicate n (D.bl true))=some (List.replicate n true)
 | 0=>rfl
 | n+1=>by
  rw [Xo,Xo]
  have:=qG n
  simp only [mB,this];rfl
def Vq{S:ac}{k l:Bool}:ib S (.bl k) (.bl l)=some (.bl (!(k == l))):=rA (by simp [cY]) (by simp [cY])
def KN{F:PF}{S:ac}{t1 t2:Option D}:∀ (xs:List D) (a b:Option D),(∀ d∈xs,F [d,d] S=some (.bl true,S))->dF (aE 2 (af (ah 0) (af (ah 1) (aB)))) (bH) (ao 2 F (aa (ab 0) (aa (ab 1) (ai)))) (jF xs xs) [a,b] S=some (List.replicate xs.length (.bl true),S)
 | [],a,b,_=>by simp
 | x::r,a,b,h=>by
  have h1:=h x (by simp)
  have h2:=KN (t1:=t1) (t2:=t2) r (some x) (some x) fun d hd=>h d (WO _ hd)
  rw [Ds,gz]
  simp [h1,h2,Xo]
def Bb{R:Nat->PF}{N:List Str}(hN:N.length=3)(hR:∀ j,R (j+1)=aQ N (lZ (R j)) 2){S:ac}:∀ (j:Nat) (d:D),ja j d=true->R j [d,d] S=some (.bl true,S)
 | 0,d,h=>by cases d <;> cases h
 | j+1,d,h=>by
  have hst:aC N [d,d]=[some d,some d,none]:=by simp [aC,hN,List.replicate]
  rw [hR,ba (show [d,d].length=2 from rfl),hst]
  obtain⟨i1,i2⟩:=Vv (S:=S) h
  cases d with
  | tup xs=>
   have hx:xs.length<=1000/\xs.all (ja j)=true:=by simpa [ja] using h
   have it:lA "tuple" S (.tup xs)=some (.bl true):=rfl
   have hl:=KN (F:=R j) (S:=S) (t1:=none) (t2:=none) xs none none fun d hd=>Bb hN hR j d (Xd.mp hx.2 d hd)
   have kc:nk (aE 2 (af (ah 0) (af (ah 1) (aB)))) (bH) (ao 2 (R j) (aa (ab 0) (aa (ab 1) (ai)))) [none,none] [some (.tup xs),some (.tup xs),none] (jF xs xs,S)=some (.lst (List.replicate xs.length (.bl true)),S):=by
    rw [jP (by rw [oJ];exact hx.1)]
    show (dF _ _ _ (jF xs xs) [none,none] S).bind _=_
    rw [hl];rfl
   have fa:aP Ab [.lst (List.replicate xs.length (D.bl true))] S=some (.bl true,S):=by
    rw [Nh (qG _)];simp
   simp [lZ,i1,i2,it,Vq,kc,fa]
  | non=>simp [lZ,i1,i2,show lA "tuple" S .non=some (.bl false) from rfl,nq]
  | bl k=>simp [lZ,i1,i2,show lA "tuple" S (.bl k)=some (.bl false) from rfl,show lA "str" S (.bl k)=some (.bl false) from rfl,show lA "bool" S (.bl k)=some (.bl true) from rfl,nq]
  | int i=>simp [lZ,i1,i2,show lA "tuple" S (.int i)=some (.bl false) from rfl,show lA "str" S (.int i)=some (.bl false) from rfl,show lA "bool" S (.int i)=some (.bl false) from rfl,show lA "int" S (.int i)=some (.bl true) from rfl,nq]
  | str x=>simp [lZ,i1,i2,show lA "tuple" S (.str x)=some (.bl false) from rfl,show lA "str" S (.str x)=some (.bl true) from rfl,nq]
  | lst _=>simp [ja] at h
  | rol _=>simp [ja] at h
  | dct _ _=>simp [ja] at h
  | ref _=>simp [ja] at h
def ge{S:ac}{c:Cell}:(S++[c])[S.length]?=some c:=by simp
def Hn{S:ac}{c d:Cell}:(S++[c]).set S.length d=S++[d]:=by
 rw [List.set_append,if_neg (Ys _)];simp
inductive Wd where | out | reads | rising | writes | raised
deriving DecidableEq
def Wd.s:Wd->Str
 | .out=>"out"
 | .reads=>"reads"
 | .rising=>"rising"
 | .writes=>"writes"
 | .raised=>"raised"
def Wd.eq(a b:Wd):(a.s == b.s)=decide (a=b):=by cases a <;> cases b <;> decide +kernel
structure En where
 g:Nat
 wr:Bool
 m:Int
 t:Option Int
def bo(b:Bool):Str:=if b then "write" else "read"
def pM(b:Bool):(bo b == ("write":Str))=b:=by cases b <;> decide +kernel
def sS(b:Bool):(bo b == ("read":Str)) = !b:=by cases b <;> decide +kernel
def bP:Option Int->D
 | none=>.non
 | some k=>.int k
def En.d(e:En):D:=.tup [.int (e.g:Nat),.str (bo e.wr),.int e.m,bP e.t]
abbrev Rm:=List Wd×List En
def Wd.d(w:Wd):D:=.str w.s
def cL(ws:List Wd):D:=.tup (ws.map Wd.d)
def cr(es:List En):D:=.tup (es.map En.d)
def aW(R:Rm):D:=.tup [cL R.1,cr R.2]
inductive Rw where | rows | readers | writers | turns | passes
deriving DecidableEq
def Rw.s:Rw->Str
 | .rows=>"rows"
 | .readers=>"readers"
 | .writers=>"writers"
 | .turns=>"turns"
 | .passes=>"passes"
def Rw.eq(a b:Rw):(a.s == b.s)=decide (a=b):=by cases a <;> cases b <;> decide +kernel
structure Rl where
 w:Rw
 a:Int
 b:Int
 c:Int
def Rl.d(r:Rl):D:=.tup [.str r.w.s,.int r.a,.int r.b,.int r.c]
structure Rl.Ok(r:Rl):Prop where
 a0:0<=r.a
 a5:r.a<=5
 b0:0<=r.b
 b9:r.b<=9
 c0:0<=r.c
 c1:r.c<=1
def IY{x:Str}(h:Fa x):∃ w:Rw,x=w.s:=by
 rcases h with rfl | rfl | rfl | rfl | rfl
 ·exact⟨.rows,rfl⟩
 ·exact⟨.readers,rfl⟩
 ·exact⟨.writers,rfl⟩
 ·exact⟨.turns,rfl⟩
 ·exact⟨.passes,rfl⟩
section
variable{α:Type}{enc:α->D}{p:α->Bool}{f:α->D}{t:MT}{e:ME}{rest:bp}{S:ac}
def Hg:∀ (xs:List α) (a:Option D),(∀ x∈xs,t (some (enc x)::rest) S=some (p x,S))->(∀ x∈xs,p x=true->e (some (enc x)::rest) S=some (f x,S))->dF (ah 0) t e (xs.map enc) (a::rest) S=some ((xs.filter p).map f,S)
 | [],a,_,_=>by simp
 | x::r,a,h,h2=>by
  have ih:=Hg r (some (enc x)) (fun y hy=>h y (WO _ hy)) fun y hy=>h2 y (WO _ hy)
  rw [WR,gz,aO,ob,dR,uT,h x (by simp),ob]
  cases hp:p x with
  | true=>rw [uS,h2 x (by simp) hp,ob,uR,ih,ob,uQ,Zo hp,WR]
  | false=>rw [EZ,ih,Zp (by simp [hp])]
def fL{cap:List (Option Nat)}{env:bp}{a:Option D}{xs:List α}(hc:lD cap env=a::rest)(hl:xs.length<=1000)(h:∀ x∈xs,t (some (enc x)::rest) S=some (p x,S))(h2:∀ x∈xs,p x=true->e (some (enc x)::rest) S=some (f x,S)) :
  nk (ah 0) t e cap env (xs.map enc,S)=some (.lst ((xs.filter p).map f),S):=by
 rw [jP (by rw [WM];exact hl),hc,Hg xs a h h2,ob,fS]
def SF:∀ (xs:List α) (k:Nat) (a b:Option D),(∀ i x,xs[i]?=some x->t (some (.int ((k+i:Nat):Int))::some (enc x)::rest) S=some (p x,S))->dF (aE 2 (af (ah 0) (af (ah 1) (aB)))) t (ab 0) (eR k (xs.map enc)) (a::b::rest) S=some (((xs.zipIdx k).filter fun q=>p q.1).map fun q=>.int (q.2:Int),S)
 | [],k,a,b,_=>by simp [eR]
 | x::r,k,a,b,h=>by
  have ih:=SF r (k+1) (some (.int (k:Int))) (some (enc x)) (fun i y hy=>by
   have:=h (i+1) y (by simpa using hy)
   rw [show k+(i+1)=k+1+i by omega] at this
   exact this)
  have h0:=h 0 x rfl
  rw [aay] at h0
  rw [WR,eR,gz,bX,bg,aO,ob,dR,cy,bg,aO,ob,ej,dR,cy,bB,ob,uT,h0,ob,Yv]
  cases hp:p x with
  | true=>
   rw [uS,ak,bD,oj,ob,aj,ob,uR,ih,ob,uQ,Zo (p:=fun q:α×Nat=>p q.1) (a:=(x,k)) hp,WR]
  | false=>rw [EZ,ih,Zp (p:=fun q:α×Nat=>p q.1) (a:=(x,k)) (by simp [hp])]
def zN{cap:List (Option Nat)}{env:bp}{a b:Option D}{xs:List α}(hc:lD cap env=a::b::rest)(hl:xs.length<=1000)(h:∀ (i:Nat) x,xs[i]?=some x->t (some (.int (i:Int))::some (enc x)::rest) S=some (p x,S)) :
  nk (aE 2 (af (ah 0) (af (ah 1) (aB)))) t (ab 0) cap env (eR 0 (xs.map enc),S)=some (.lst ((xs.zipIdx.filter fun q=>p q.1).map fun q=>.int (q.2:Int)),S):=by
 rw [jP (by rw [oo,WM];exact hl),hc,SF xs 0 a b (fun i x hx=>by rw [Zw];exact h i x hx),ob,fS]
end
def Ou{α:Type}{xs:List α}{i:Nat}{x:α}(h:xs[i]?=some x):mM xs (i:Int)=some x:=by
 have hl:=(WJ.mp h).1
 rw [As (by omega) (by omega)]
 rw [WJ] at h
 obtain⟨_,h⟩:=h
 simpa using h
def at4(x a b c:D):mM [x,a,b,c] 0=some x/\mM [x,a,b,c] 1=some a/\mM [x,a,b,c] 2=some b/\mM [x,a,b,c] 3=some c:=⟨rfl,rfl,rfl,rfl⟩
def at2(x a:D):mM [x,a] 0=some x/\mM [x,a] 1=some a:=⟨rfl,rfl⟩
section
variable{S:ac}{e:En}{r:Rl}{R:Rm}
def En.ix0:aw S e.d (.int 0)=some (.int (e.g:Nat)):=rfl
def En.ix1:aw S e.d (.int 1)=some (.str (bo e.wr)):=rfl
def En.ix2:aw S e.d (.int 2)=some (.int e.m):=rfl
def En.ix3:aw S e.d (.int 3)=some (bP e.t):=rfl
def Rl.ix0:aw S r.d (.int 0)=some (.str r.w.s):=rfl
def Rl.ix1:aw S r.d (.int 1)=some (.int r.a):=rfl
def Rl.ix2:aw S r.d (.int 2)=some (.int r.b):=rfl
def Rl.ix3:aw S r.d (.int 3)=some (.int r.c):=rfl
def Rm.ix0:aw S (aW R) (.int 0)=some (cL R.1):=rfl
def Rm.ix1:aw S (aW R) (.int 1)=some (cr R.2):=rfl
def wG{ws:List Wd}{i:Nat}{w:Wd}(h:ws[i]?=some w):aw S (cL ws) (.int (i:Int))=some w.d:=by
 show mM (ws.map Wd.d) (i:Int)=_
 exact Ou (by rw [XS,h];rfl)
def NC{es:List En}{i:Nat}{e:En}(h:es[i]?=some e):aw S (cr es) (.int (i:Int))=some e.d:=by
 show mM (es.map En.d) (i:Int)=_
 exact Ou (by rw [XS,h];rfl)
end
def KP{n d i:Nat}:HT.ft n d (some (i:Int))=min i n:=by
 show (if (i:Int)<0 then ((i:Int)+(n:Int)).toNat else min (i:Int).toNat n)=_
 rw [if_neg (by omega),Xv]
def KQ{n d:Nat}:HT.ft n d none=d:=rfl
def JK{α:Type}(xs:List α)(i:Nat)(h:i<=xs.length):fO xs none (some (i:Int))=xs.take i:=by
 unfold fO
 rw [KP,KQ,Zx h];simp
def ou{α:Type}(xs:List α)(i:Nat)(h:i<=xs.length):fO xs (some (i:Int)) none=xs.drop i:=by
 unfold fO
 rw [KP,KQ,Zx h,YT (by simp)]
def EQ:MS:=aV (ar aT (ar aT (bt (ab 0) (bu) (bU (ab 1))) (aM (aa (ab 2) (ai)))) (bt (ab 0) (bU (ar aT (ab 1) (mC (.int 1)))) (bu)))
def KI{α:Type}(xs:List α)(i:Nat)(h:i<xs.length)(x:α):xs.take i++[x]++xs.drop (i+1)=xs.set i x:=by
 rw [List.set_eq_take_append_cons_drop,Xc h];simp
def Pe{N:List Str}(hN:N.length=3){S:ac}{ws:List Wd}{i:Nat}{w:Wd}(h:i<ws.length)(hl:ws.length<=100):aQ N EQ 3 [cL ws,.int (i:Int),w.d] S=some (cL (ws.set i w),S):=by
 have hst:aC N [cL ws,D.int (i:Int),w.d]=[some (cL ws),some (.int (i:Int)),some w.d]:=by simp [aC,hN]
 rw [ba (show [cL ws,D.int (i:Int),w.d].length=3 from rfl),hst]
 have k1:ca ([w.d],S)=some (.tup [w.d],S):=aR (by simp)
 have c1:fO (ws.map Wd.d) none (some (i:Int))=(ws.take i).map Wd.d:=by rw [JK _ _ (by rw [WM];omega),YZ]
 have c2:fO (ws.map Wd.d) (some ((i:Int)+1)) none=(ws.drop (i+1)).map Wd.d:=by
  rw [show ((i:Int)+1)=((i+1:Nat):Int) by omega,ou _ _ (by rw [WM];omega),Za]
 have a1:aT S (.tup ((ws.take i).map Wd.d)) (.tup [w.d])=some (.tup ((ws.take i).map Wd.d++[w.d])):=gY (by simp;omega)
 have a2:aT S (.tup ((ws.take i).map Wd.d++[w.d])) (.tup ((ws.drop (i+1)).map Wd.d))=some (.tup ((ws.take i).map Wd.d++[w.d]++(ws.drop (i+1)).map Wd.d)):=gY (by simp;omega)
 have e:(ws.take i).map Wd.d++[w.d]++(ws.drop (i+1)).map Wd.d=(ws.set i w).map Wd.d:=by
  rw [<- KI ws i h w];simp
 rw [e] at a2
 simp only [EQ,cL,aX,aG,cN,ak,bD,bI,bJ,oj,ob,aj,eV,cQ,eU,dA,dC,nh,c1,av,be,aq,am,az,al,k1,au,a1,bf,kR,c2,a2,bq,aJ]
section
variable{S:ac}{ws:List Wd}{es:List En}{ms:MA}{env:bp}
def VD(a b:Wd):jm a.d b.d=decide (a=b):=Wd.eq a b
def Uo{n:Nat}:((ws.map Wd.d).all (cY n))=true:=by
 rw [Xd];intro d hd;obtain⟨w,_,rfl⟩:=Xk.mp hd;cases n <;> rfl
def yi(w:Wd):gd (cL ws) [w.d] S=some (.int (ws.count w:Nat),S):=by
 have h:=Jm (S:=S) (x:=w.d) (xs:=ws.map Wd.d) rfl Uo
 rw [show cL ws=.tup (ws.map Wd.d) from rfl,h]
 congr 4
 rw [List.countP_map]
 apply List.countP_congr
 intro a _
 simp [VD]
def pL:Qm ms env (cL ws,S)=(ms env S).bind (dO gd (cL ws)):=rfl
def yh:aP fg [cL ws] S=some (.int (ws.length:Nat),S):=by
 rw [show cL ws=.tup (ws.map Wd.d) from rfl,Fi,WM]
def NB:aP fg [cr es] S=some (.int (es.length:Nat),S):=by
 rw [show cr es=.tup (es.map En.d) from rfl,Fi,WM]
end
def rf(r:Rl)(ws:List Wd)(wr:Bool):Bool:=
 if ws.count .reads+ws.count .rising+ws.count .out<ws.length then false
 else if wr then decide (ws.count .reads+ws.count .rising=0)
 else decide (ws.count .rising=0)&&(decide (r.a=0)||decide (((ws.count .reads+ws.count .rising:Nat):Int)<r.a))
def zK:MS:=
 ay (aI (ar aT (ju (ab 1) (aa (mC (.str "reads")) (ai))) (ju (ab 1) (aa (mC (.str "rising")) (ai)))) (ah 3)) (ay (bC (ax (ar QF (ar aT (ab 3) (ju (ab 1) (aa (mC (.str "out")) (ai)))) (bd (aP fg) (aa (ab 1) (ai))))) (aV (mC (.bl false))) (aY)) (ay (bC (ax (ar bY (ab 2) (mC (.str "write")))) (aV (ar bY (ab 3) (mC (.int 0)))) (aY)) (aV (dG (ar bY (ju (ab 1) (aa (mC (.str "rising")) (ai))) (mC (.int 0))) (tf (ar bY (ar aw (ab 0) (mC (.int 1))) (mC (.int 0))) (ar QF (ab 3) (ar aw (ab 0) (mC (.int 1)))))))))
def Mg{N:List Str}(hN:N.length=4){S:ac}{r:Rl}{ws:List Wd}{wr:Bool}:aQ N zK 3 [r.d,cL ws,.str (bo wr)] S=some (.bl (rf r ws wr),S):=by
 have hst:aC N [r.d,cL ws,D.str (bo wr)]=[some r.d,some (cL ws),some (.str (bo wr)),none]:=by simp [aC,hN,List.replicate]
 rw [ba (show [r.d,cL ws,D.str (bo wr)].length=3 from rfl),hst]
 have c1:∀ S,gd (cL ws) [.str "reads"] S=some (.int (ws.count .reads:Nat),S):=fun S=>yi .reads
 have c2:∀ S,gd (cL ws) [.str "rising"] S=some (.int (ws.count .rising:Nat),S):=fun S=>yi .rising
 have c3:∀ S,gd (cL ws) [.str "out"] S=some (.int (ws.count .out:Nat),S):=fun S=>yi .out
 unfold rf
 simp only [zK,aS,bh,aG,Me,ak,bD,bJ,bI,oj,ob,aj,pL,aq,bf,am,az,al,eC,c1,c2,c3,av,au,kR,bi,aO,dR,ej,bK,aD,bm,aH,bS,bT,yh,fLt_i,aF]
 by_cases h1:ws.count .reads+ws.count .rising+ws.count .out<ws.length
 ·have:decide (((ws.count Wd.reads:Nat):Int)+((ws.count Wd.rising:Nat):Int)+((ws.count Wd.out:Nat):Int)<((ws.length:Nat):Int))=true:=WU (by omega)
  rw [this,Xc h1];simp
 ·have:decide (((ws.count Wd.reads:Nat):Int)+((ws.count Wd.rising:Nat):Int)+((ws.count Wd.out:Nat):Int)<((ws.length:Nat):Int))=false:=WV (by omega)
  rw [this,if_neg h1]
  cases wr with
  | true=>
   have e:(bo true == ("write":Str))=true:=pM true
   have e2:(((ws.count Wd.reads:Nat):Int)+((ws.count Wd.rising:Nat):Int) == 0)=decide (ws.count Wd.reads+ws.count Wd.rising=0):=by
    rw [Xs];simp;omega
   simp [e,e2]
  | false=>
   have e:(bo false == ("write":Str))=false:=pM false
   have e2:(((ws.count Wd.rising:Nat):Int) == 0)=decide (ws.count Wd.rising=0):=by rw [Xs];simp
   have e3:(r.a == 0)=decide (r.a=0):=rfl
   by_cases h2:ws.count Wd.rising=0
   ·by_cases h3:r.a=0
    ·simp [e,e2,Rl.ix1,h2,h3,pL,c2]
    ·simp [e,e2,Rl.ix1,h2,h3,pL,c2,XY.mpr h3]
   ·simp [e,e2,Rl.ix1,h2,pL,c2]
def mW{α:Type}(xs:List α)(i:Nat):fO xs none (some (i:Int))=xs.take i:=by
 unfold fO
 rw [KP,KQ];simp only [Zj,Nat.sub_zero]
 rcases Nat.le_total i xs.length with h | h
 ·rw [Zx h]
 ·rw [Nat.min_eq_right h,YT (WY _),YT h]
def ni(i:Nat):D:=.int (i:Int)
def nl(l:List Nat):D:=.lst (l.map ni)
def PD(a b:List Nat):List Nat:=if a=[] then b else a
def AC(p:En->Bool)(es:List En):List Nat:=(es.zipIdx.filter fun q=>p q.1).map (·.2)
def pD{p:En->Bool}{es:List En}{i:Nat}(h:i∈AC p es):i<es.length:=by
 unfold AC at h
 obtain⟨q,hq,rfl⟩:=Xk.mp h
 have:=(XM.mp hq).1
 have:=List.snd_lt_of_mem_zipIdx this
 omega
def IV{es:List En}:AC (fun _=>false) es=[]:=by unfold AC;simp
def LI{p:En->Bool}{es:List En}:D.lst ((es.zipIdx.filter fun q=>p q.1).map fun q=>.int (q.2:Int))=nl (AC p es):=by
 unfold nl AC ni;rw [XC];rfl
def UR{b:ME}{env:bp}{S:ac}{l:List Nat}:Sh b env (nl l,S)=if l=[] then b env S else some (nl l,S):=by
 cases l with
 | nil=>rfl
 | cons _ _=>rw [if_neg (by simp)];exact kOr_c
def UL{S:ac}{l:List Nat}{n:Nat}:jd (nl l) none (some (n:Int),S)=some (nl (l.take n),S):=by
 unfold nl;rw [UM,mW,YZ]
def uk(n:Nat):D.lst (cD 0 n)=nl (List.range n):=by
 unfold cD nl ni;congr 1;apply Zb;intro i _;rw [aaA]
def Qk{S:ac}{l:List Nat}:EX (nl l,S)=some (l.map ni,S):=rfl
def CJ(r:Rl)(es:List En):List Nat:=match r.w with
 | .rows=>(List.range es.length).take 1
 | .readers=>(PD (AC (fun e=>!e.wr) es) (AC (fun e=>e.wr) es)).take 1
 | .passes=>(List.range es.length).filter fun i=>decide (kM (0::(es.take i).map fun e=>e.m+1)<=r.b)
 | .turns=>(PD (AC (fun e=>decide (e.m=1)) es) (PD (AC (fun e=>e.wr) es) (AC (fun e=>!e.wr) es))).take 1
 | .writers=>(PD (AC (fun e=>e.wr) es) (AC (fun e=>!e.wr) es)).take 1
def rn{r:Rl}{es:List En}{i:Nat}(h:i∈CJ r es):i<es.length:=by
 have ho:∀ {a b:List Nat},i∈PD a b->i∈a\/i∈b:=fun {a b} h=>by unfold PD at h;split at h <;> simp [h]
 unfold CJ at h
 split at h
 ·exact YV.mp (Yb h)
 ·exact(ho (Yb h)).elim pD pD
 ·exact YV.mp (XM.mp h).1
 ·exact(ho (Yb h)).elim pD fun h=>(ho h).elim pD pD
 ·exact(ho (Yb h)).elim pD pD
def frR:ME:=bE (el (aa (ab 1) (ai))) (aE 2 (af (ah 0) (af (ah 1) (aB)))) (ax (ar bY (ar aw (ab 1) (mC (.int 1))) (mC (.str "read")))) (ab 0) [none,none]
def frW:ME:=bE (el (aa (ab 1) (ai))) (aE 2 (af (ah 0) (af (ah 1) (aB)))) (ax (ar bY (ar aw (ab 1) (mC (.int 1))) (mC (.str "write")))) (ab 0) [none,none]
def frT:ME:=bE (el (aa (ab 1) (ai))) (aE 2 (af (ah 0) (af (ah 1) (aB)))) (cF (ax (ar bY (ar aw (ab 2) (mC (.int 0))) (mC (.str "turns")))) (ax (ar bY (ar aw (ab 1) (mC (.int 2))) (mC (.int 1))))) (ab 0) [none,none,some 0]
def MK:ME:=bE (cZ (bt (ab 2) (bu) (bU (ab 0)))) (ah 0) (bH) (ar aT (ar aw (ab 0) (mC (.int 2))) (mC (.int 1))) [none]
def frP:ME:=bE (bZ (aa (bd (aP fg) (aa (ab 1) (ai))) (ai))) (ah 0) (ax (ar QG (bd (aP oX) (aa (ar aT (eM (aa (mC (.int 0)) (ai))) MK) (ai))) (ar aw (ab 1) (mC (.int 2))))) (ab 0) [none,some 0,some 1]
def rg:MS:=
 ay (aI frR (ah 2)) (ay (aI frW (ah 3)) (ay (bC (ax (ar bY (ar aw (ab 0) (mC (.int 0))) (mC (.str "rows")))) (aV (bt (dY (aa (bd (aP fg) (aa (ab 1) (ai))) (ai))) (bu) (bU (mC (.int 1))))) (aY)) (ay (bC (ax (ar bY (ar aw (ab 0) (mC (.int 0))) (mC (.str "readers")))) (aV (bt (tf (ab 2) (ab 3)) (bu) (bU (mC (.int 1))))) (aY)) (ay (bC (ax (ar bY (ar aw (ab 0) (mC (.int 0))) (mC (.str "passes")))) (aV frP) (aY)) (ay (aI frT (ah 4)) (aV (bt (tf (ab 4) (tf (ab 3) (ab 2))) (bu) (bU (mC (.int 1))))))))))
section
variable{S:ac}{r:Rl}{es:List En}
def Af{ms:MA}{env:bp}:Cq ([cr es],S)=some (eR 0 (es.map En.d),S):=rfl
def Vk{a c d e:Option D}(hl:es.length<=100):frR [a,some (cr es),c,d,e] S=some (nl (AC (fun e=>!e.wr) es),S):=by
 have k:=zN (S:=S) (t:=ax (ar bY (ar aw (ab 1) (mC (.int 1))) (mC (.str "read")))) (cap:=[none,none]) (env:=[a,some (cr es),c,d,e]) (enc:=En.d) (p:=fun e=>!e.wr) (xs:=es) rfl (by omega) (fun i x _=>by simp [En.ix1,-beq_iff_eq,sS])
 rw [LI (p:=fun e=>!e.wr)] at k
 simp only [frR,bW,nY,aq,ak,bD,bJ,bI,oj,ob,aj,am,az,al,Af (ms:=ai) (env:=[]),k]
def Vi{a c d e:Option D}(hl:es.length<=100):frW [a,some (cr es),c,d,e] S=some (nl (AC (fun e=>e.wr) es),S):=by
 have k:=zN (S:=S) (t:=ax (ar bY (ar aw (ab 1) (mC (.int 1))) (mC (.str "write")))) (cap:=[none,none]) (env:=[a,some (cr es),c,d,e]) (enc:=En.d) (p:=fun e=>e.wr) (xs:=es) rfl (by omega) (fun i x _=>by simp [En.ix1,-beq_iff_eq,pM])
 rw [LI] at k
 simp only [frW,bW,nY,aq,ak,bD,bJ,bI,oj,ob,aj,am,az,al,Af (ms:=ai) (env:=[]),k]
def Vj{c d e:Option D}(hl:es.length<=100):frT [some r.d,some (cr es),c,d,e] S=some (nl (AC (fun e=>decide (r.w=.turns)&&decide (e.m=1)) es),S):=by
 have hw:(r.w.s == ("turns":Str))=decide (r.w=.turns):=Rw.eq r.w .turns
 have k:=zN (S:=S) (t:=cF (ax (ar bY (ar aw (ab 2) (mC (.int 0))) (mC (.str "turns")))) (ax (ar bY (ar aw (ab 1) (mC (.int 2))) (mC (.int 1))))) (cap:=[none,none,some 0]) (env:=[some r.d,some (cr es),c,d,e]) (enc:=En.d) (p:=fun e=>decide (r.w=.turns)&&decide (e.m=1)) (xs:=es) rfl (by omega) (fun i x _=>by
  cases h:decide (r.w=.turns) with
  | true=>simp [En.ix2,Rl.ix0,-beq_iff_eq,hw,h];rfl
  | false=>simp [En.ix2,Rl.ix0,-beq_iff_eq,hw,h])
 rw [LI (p:=fun e=>decide (r.w=.turns)&&decide (e.m=1))] at k
 simp only [frT,bW,nY,aq,ak,bD,bJ,bI,oj,ob,aj,am,az,al,Af (ms:=ai) (env:=[]),k]
def Qw{i:Nat}{b:Option D}(hl:es.length<=60):MK [some (.int (i:Int)),b,some (cr es)] S=some (.lst (((es.take i).map fun e=>e.m+1).map .int),S):=by
 have k:=fL (S:=S) (t:=bH) (e:=ar aT (ar aw (ab 0) (mC (.int 2))) (mC (.int 1))) (cap:=[none]) (env:=[some (.int (i:Int)),b,some (cr es)]) (rest:=[]) (a:=none) (enc:=En.d) (p:=fun _=>true) (f:=fun e=>.int (e.m+1)) (xs:=es.take i) rfl (by simp;omega) (fun x _=>gM) (fun x _ _=>by simp [En.ix2])
 have e:jd (cr es) none (some (i:Int),S)=some (.tup ((es.take i).map En.d),S):=by
  rw [show cr es=.tup (es.map En.d) from rfl,nh,mW,YZ]
 rw [XZ.mpr (fun _ _=>rfl)] at k
 simp only [MK,bW,dr,cN,ak,bD,bJ,bI,oj,ob,aj,eV,cQ,eU,dA,dC,e,EW,k,XC]
 rfl
def Vl{c d e:Option D}(hl:es.length<=60):frP [some r.d,some (cr es),c,d,e] S=some (nl ((List.range es.length).filter fun i=>decide (kM (0::(es.take i).map fun e=>e.m+1)<=r.b)),S):=by
 have k:=fL (S:=S) (t:=(ax (ar QG (bd (aP oX) (aa (ar aT (eM (aa (mC (.int 0)) (ai))) MK) (ai))) (ar aw (ab 1) (mC (.int 2)))))) (e:=ab 0) (cap:=[none,some 0,some 1]) (env:=[some r.d,some (cr es),c,d,e]) (rest:=[some r.d,some (cr es)]) (a:=none) (enc:=ni) (p:=fun i=>decide (kM (0::(es.take i).map fun e=>e.m+1)<=r.b)) (f:=ni) (xs:=List.range es.length) rfl (by simp;omega) (fun i _=>by
  have h0:MK [some (ni i),some r.d,some (cr es)] S=some (.lst (((es.take i).map fun e=>e.m+1).map .int),S):=Qw hl
  have h1:oE ([.int 0],S)=some (.lst [.int 0],S):=eO (by simp)
  have h2:aT S (.lst [.int 0]) (.lst (((es.take i).map fun e=>e.m+1).map .int))=some (.lst ((0::(es.take i).map fun e=>e.m+1).map .int)):=Fj (by simp;omega)
  have h3:aP oX [.lst ((0::(es.take i).map fun e=>e.m+1).map .int)] S=some (.int (kM (0::(es.take i).map fun e=>e.m+1)),S):=QE (by simp;omega) (by simp)
  simp only [aH,aG,bS,aq,jM,bf,ob,am,az,al,h1,av,h0,au,h2,aj,bT,h3,ak,bD,bJ,bI,oj,Rl.ix2,fLe_i,aF]) (fun i _ _=>by simp)
 have e1:Qh ([.int (es.length:Nat)],S)=some ((List.range es.length).map ni,S):=by
  rw [pC (by omega) (by omega)]
  have:=uk es.length
  simp only [nl,D.lst.injEq] at this
  rw [Xv,this]
 simp only [frP,bW,iw,aq,bS,ak,bD,bJ,bI,oj,ob,aj,am,az,al,bT,NB,e1,k]
 rfl
def Ff{N:List Str}(hN:N.length=5)(hl:es.length<=60):aQ N rg 2 [r.d,cr es] S=some (nl (CJ r es),S):=by
 have hst:aC N [r.d,cr es]=[some r.d,some (cr es),none,none,none]:=by simp [aC,hN,List.replicate]
 rw [ba (show [r.d,cr es].length=2 from rfl),hst]
 have a:(es.length:Nat)<=100:=by omega
 have w1:(r.w.s == ("rows":Str))=decide (r.w=.rows):=Rw.eq r.w .rows
 have w2:(r.w.s == ("readers":Str))=decide (r.w=.readers):=Rw.eq r.w .readers
 have w3:(r.w.s == ("passes":Str))=decide (r.w=.passes):=Rw.eq r.w .passes
 have lr:EV ([.int (es.length:Nat)],S)=some (nl (List.range es.length),S):=by rw [IS (by omega) (by omega),Xv,uk]
 have s1:∀ l:List Nat,jd (nl l) none (some 1,S)=some (nl (l.take 1),S):=fun l=>UL (n:=1)
 have o1:∀ (b:ME) env (l:List Nat),Sh b env (nl l,S)=if l=[] then b env S else some (nl l,S):=fun b env l=>UR
 simp only [rg,aS,bh,Vk a,Vi a,ob,bi,aO,dR,ej,bK,aD,bm,aH,aG,ak,bD,bJ,bI,oj,aj,bf,av,Rl.ix0,au,cH,aF,w1,w2,w3]
 unfold CJ
 cases hw:r.w <;> rw [hw] at w1 w2 w3 <;> simp [cN,LZ,NB,lr,s1,o1,Vl hl,Vj a,hw,PD,Rl.ix0,w1,w2,w3,-beq_iff_eq]
 ·split <;> simp [s1]
 ·rw [IV,Xc rfl];split <;> simp [s1]
 ·split
  ·split <;> simp [s1]
  ·simp [s1]
end
structure ROk(R:Rm):Prop where
 out:∀ e∈R.2,R.1[e.g]?=some .out
 nd:(R.2.map (·.g)).Nodup
def Er:∀ (n:Nat) (l:List Nat),l.Nodup->(∀ x∈l,x<n)->l.length<=n
 | 0,l,_,h=>by cases l with | nil=>exact WY _ | cons x _=>exact absurd (h x (by simp)) (by omega)
 | n+1,l,hn,h=>by
  by_cases hm:n∈l
  ·have:=Er n (l.erase n) (hn.erase n) fun x hx=>by
    have h1:=h x (List.mem_of_mem_erase hx)
    have h2:x≠n:=fun z=>by rw [z] at hx;exact(List.Nodup.not_mem_erase hn) hx
    omega
   rw [List.length_erase_of_mem hm] at this
   omega
  ·have:=Er n l hn fun x hx=>by
    have h1:=h x hx
    have h2:x≠n:=fun z=>hm (z ▸ hx)
    omega
   omega
def ROk.lt{R:Rm}(h:ROk R){e:En}(he:e∈R.2):e.g<R.1.length:=(WJ.mp (h.out e he)).1
def ROk.len{R:Rm}(h:ROk R):R.2.length<=R.1.length:=by
 have:=Er R.1.length (R.2.map (·.g)) h.nd fun x hx=>by obtain⟨e,he,rfl⟩:=Xk.mp hx;exact h.lt he
 rwa [WM] at this
structure Ev where
 w:Str
 g:Nat
def Ev.d(e:Ev):D:=.tup [.str e.w,.int (e.g:Nat)]
def nO(ws:List Wd):List Nat:=(List.range ws.length).filter fun g=>decide (ws[g]?=some .rising)&&decide (ws.count .out+1=ws.length)
def mH(r:Rl)(ws:List Wd)(es:List En):List Nat:=(CJ r es).filter fun i=>match es[i]? with | some e=>rf r ws e.wr | none=>false
def qF(r:Rl)(e:En):En:={ e with m:=e.m+(if r.w=.passes then 1 else 0) }
def sM(r:Rl)(R:Rm)(i:Nat)(e:En):Rm:=(R.1.set e.g (if e.wr then .writes else .reads),(R.2.take i).map (qF r)++R.2.drop (i+1))
def mG(r:Rl)(R:Rm):Rm×List Ev:=match nO R.1 with
 | g::_=>((R.1.set g .raised,R.2),[⟨"steps",g⟩])
 | []=>match mH r R.1 R.2 with
  | i::_=>match R.2[i]? with
   | some e=>(sM r R i e,[⟨"in",e.g⟩])
   | none=>(R,[])
  | []=>(R,[])
def sU(r:Rl):Nat->Rm->Rm×List Ev
 | 0,R=>(R,[])
 | n+1,R=>let a:=mG r R;let b:=sU r n a.1;(b.1,a.2++b.2)
def EC(r:Rl)(es:List En):(es.map (qF r)).map (·.g)=es.map (·.g):=by rw [XC];rfl
def Qu{r:Rl}{R:Rm}{i:Nat}{e:En}(h:ROk R)(hi:R.2[i]?=some e):ROk (sM r R i e):=by
 obtain⟨ws,es⟩:=R
 have hs:es=es.take i++e::es.drop (i+1):=by
  obtain⟨hl,he⟩:=WJ.mp hi
  rw [<- he,List.getElem_cons_drop,YW]
 have hnd:((es.take i).map (·.g)++e.g::(es.drop (i+1)).map (·.g)).Nodup:=by
  have:=h.nd
  dsimp only at this
  rw [hs] at this
  simpa using this
 rw [YC,YA] at hnd
 obtain⟨n1,⟨n2,n3⟩,n4⟩:=hnd
 refine⟨fun x hx=>?_,?_⟩
 ·show (ws.set e.g _)[x.g]?=_
  have key:∃ y∈es,y.g=x.g/\x.g≠e.g:=by
   rcases Xj.mp hx with hx | hx
   ·obtain⟨y,hy,rfl⟩:=Xk.mp hx
    refine⟨y,Yb hy,rfl,fun z=>?_⟩
    exact n4 _ (Xk.mpr ⟨y,hy,rfl⟩) _ WL z
   ·refine⟨x,aaF hx,rfl,fun z=>n2 ?_⟩
    rw [<- z];exact Xk.mpr ⟨x,hx,rfl⟩
  obtain⟨y,hy,e1,ne⟩:=key
  rw [Xf (Ne.symm ne),<- e1]
  exact h.out y hy
 ·show (((es.take i).map (qF r)++es.drop (i+1)).map (·.g)).Nodup
  rw [Xy,EC,YC]
  exact⟨n1,n3,fun a ha b hb=>n4 a ha b (WO _ hb)⟩
def pJ{ws:List Wd}{g:Nat}(h:g∈nO ws):ws[g]?=some .rising:=by
 have:=(XM.mp h).2
 rw [WP] at this
 exact XO this.1
def DK{r:Rl}{R:Rm}(h:ROk R):ROk (mG r R).1/\(mG r R).1.1.length=R.1.length:=by
 unfold mG
 split
 ·rename_i g l hg
  have hr:R.1[g]?=some .rising:=pJ (by rw [hg];exact WL)
  refine⟨⟨fun e he=>?_,h.nd⟩,by simp⟩
  show (R.1.set g .raised)[e.g]?=_
  have h1:=h.out e he
  rw [Xf (fun z=>by rw [z,h1] at hr;cases hr)]
  exact h1
 ·split
  ·split
   ·rename_i e he
    exact⟨Qu h he,by simp [sM]⟩
   ·exact⟨h,rfl⟩
  ·exact⟨h,rfl⟩
def KL{r:Rl}:∀ (n:Nat) {R:Rm},ROk R->ROk (sU r n R).1/\(sU r n R).1.1.length=R.1.length
 | 0,R,h=>⟨h,rfl⟩
 | n+1,R,h=>by
  obtain⟨h1,h2⟩:=DK (r:=r) h
  obtain⟨h3,h4⟩:=KL n h1
  exact⟨h3,h4.trans h2⟩
def sV:ME:=bE (bZ (aa (bd (aP fg) (aa (ab 2) (ai))) (ai))) (ah 0) (cF (ax (ar bY (ar aw (ab 1) (ab 0)) (mC (.str "rising")))) (ax (ar bY (ju (ab 1) (aa (mC (.str "out")) (ai))) (ar oH (bd (aP fg) (aa (ab 1) (ai))) (mC (.int 1)))))) (ab 0) [none,some 2]
def yt(fronts lets:PF):ME:=bE (cZ (ao 2 fronts (aa (ab 0) (aa (ab 3) (ai))))) (ah 0) (da (ao 3 lets (aa (ab 1) (aa (ab 3) (aa (ar aw (ar aw (ab 2) (ab 0)) (mC (.int 1))) (ai)))))) (ab 0) [none,some 0,some 3,some 2]
def yu:ME:=bE (cZ (bt (ab 3) (bu) (bU (ar aw (ab 7) (mC (.int 0)))))) (ah 0) (bH) (ar aT (ar aT (bt (ab 0) (bu) (bU (mC (.int 2)))) (aM (aa (ar aT (ar aw (ab 0) (mC (.int 2))) (bd (aP jk) (aa (ar bY (ar aw (ab 1) (mC (.int 0))) (mC (.str "passes"))) (ai)))) (ai)))) (bt (ab 0) (bU (mC (.int 3))) (bu))) [none,some 0]
def DN(put:PF):MS:=ay (aI (ao 3 put (aa (ab 2) (aa (ar aw (ab 6) (mC (.int 0))) (aa (mC (.str "raised")) (ai))))) (ah 2)) (db (di cX (ab 4) (aa (aM (aa (mC (.str "steps")) (aa (ar aw (ab 6) (mC (.int 0))) (ai)))) (ai))))
def Tj(put:PF):MS:=ay (aI (ar aw (ab 3) (ar aw (ab 7) (mC (.int 0)))) (aE 4 (af (ah 8) (af (ah 9) (af (ah 10) (af (ah 11) (aB))))))) (ay (aI (ao 3 put (aa (ab 2) (aa (ab 8) (aa (ar aw (eM (aa (mC (.str "reads")) (aa (mC (.str "writes")) (ai)))) (bd (aP jk) (aa (ar bY (ab 9) (mC (.str "write"))) (ai)))) (ai))))) (ah 2)) (ay (aI yu (ah 12)) (ay (aI (ar aT (bd (aP (cw .tup)) (aa (ab 12) (ai))) (bt (ab 3) (bU (ar aT (ar aw (ab 7) (mC (.int 0))) (mC (.int 1)))) (bu))) (ah 3)) (db (di cX (ab 4) (aa (aM (aa (mC (.str "in")) (aa (ab 8) (ai)))) (ai)))))))
def qL(fronts lets put:PF):MS:=ay (aI sV (ah 6)) (ay (aI (yt fronts lets) (ah 7)) (bC (ax (ar ib (ab 6) (eM (ai)))) (DN put) (bC (ax (ar ib (ab 7) (eM (ai)))) (Tj put) (aY))))
def pB(fronts lets put:PF):MS:=
 ay (aI (ab 1) (aE 2 (af (ah 2) (af (ah 3) (aB))))) (ay (aI (dj (ai)) (ah 4)) (ay (ia (bZ (aa (ar cC (mC (.int 2)) (bd (aP fg) (aa (ab 2) (ai)))) (ai))) (ah 5) (qL fronts lets put)) (aV (aM (aa (aM (aa (ab 2) (aa (ab 3) (ai)))) (aa (ab 4) (ai)))))))
structure Ka(fronts lets put:PF):Prop where
 f:∀ (S:ac) (r:Rl) (es:List En),es.length<=60->fronts [r.d,cr es] S=some (nl (CJ r es),S)
 l:∀ (S:ac) (r:Rl) (ws:List Wd) (wr:Bool),lets [r.d,cL ws,.str (bo wr)] S=some (.bl (rf r ws wr),S)
 p:∀ (S:ac) (ws:List Wd) (i:Nat) (w:Wd),i<ws.length->ws.length<=100->put [cL ws,.int (i:Int),w.d] S=some (cL (ws.set i w),S)
section
variable{S:ac}{ws:List Wd}{es:List En}{r:Rl}
def KZ{S:ac}{n:Nat}(h:n<=1000):Qh ([.int (n:Int)],S)=some ((List.range n).map ni,S):=by
 rw [pC (by omega) (by omega)]
 have:=uk n
 simp only [nl,D.lst.injEq] at this
 rw [Xv,this]
def sZ{S:ac}{i:Nat}{l:List Nat}:aw S (nl (i::l)) (.int 0)=some (.int (i:Int)):=by
 show mM ((i::l).map ni) ((0:Nat):Int)=_
 exact Ou rfl
def DP{a0 a1 a3 a4 a5 a6 a7 a8 a9 b0 b1 b2:Option D}(hl:ws.length<=60):sV [a0,a1,some (cL ws),a3,a4,a5,a6,a7,a8,a9,b0,b1,b2] S=some (nl (nO ws),S):=by
 have k:=fL (S:=S) (t:=cF (ax (ar bY (ar aw (ab 1) (ab 0)) (mC (.str "rising")))) (ax (ar bY (ju (ab 1) (aa (mC (.str "out")) (ai))) (ar oH (bd (aP fg) (aa (ab 1) (ai))) (mC (.int 1)))))) (e:=ab 0) (cap:=[none,some 2]) (env:=[a0,a1,some (cL ws),a3,a4,a5,a6,a7,a8,a9,b0,b1,b2]) (rest:=[some (cL ws)]) (a:=none) (enc:=ni) (p:=fun g=>decide (ws[g]?=some .rising)&&decide (ws.count .out+1=ws.length)) (f:=ni) (xs:=List.range ws.length) rfl (by simp;omega) (fun g hg=>by
  have hg:=YV.mp hg
  have e1:ws[g]?=some ws[g]:=WS hg
  have e2:aw S (cL ws) (ni g)=some (ws[g]).d:=wG e1
  have e3:bY S (ws[g]).d (.str "rising")=some (.bl (decide (ws[g]=.rising))):=by
   show bY S (.str (ws[g]).s) (.str "rising")=_
   rw [cH];exact congrArg (fun b=>some (D.bl b)) (Wd.eq ws[g] .rising)
  have e4:∀ S,gd (cL ws) [.str "out"] S=some (.int (ws.count .out:Nat),S):=fun S=>yi .out
  have e5:(((ws.count Wd.out:Nat):Int) == (ws.length:Nat) - 1)=decide (ws.count .out+1=ws.length):=by rw [Xs];simp;omega
  simp only [gO,aH,aG,ak,bD,bJ,bI,oj,ob,aj,av,e2,au,bf,e3,aF,e1,Yf]
  cases hd:decide (ws[g]=.rising) with
  | true=>simp only [jx,Me,ak,bJ,bD,bI,oj,ob,aj,pL,aq,bf,am,az,al,eC,e4,av,aG,bS,bT,yh,au,zY,jf,aF,e5,aH,Yt]
  | false=>simp only [mj,Ym]) (fun g _ _=>by simp)
 simp only [sV,bW,iw,aq,bS,ak,bD,bJ,bI,oj,ob,aj,am,az,al,bT,yh,KZ (show ws.length<=1000 by omega),k]
 rfl
def HL{fronts lets put:PF}(O:Ka fronts lets put){a1 a4 a5 a6 a7 a8 a9 b0 b1 b2:Option D}(hl:es.length<=60):yt fronts lets [some r.d,a1,some (cL ws),some (cr es),a4,a5,a6,a7,a8,a9,b0,b1,b2] S=some (nl (mH r ws es),S):=by
 have hlen:(CJ r es).length<=1000:=by
  have h1:(CJ r es).length<=60\/(CJ r es).length<=es.length:=by
   unfold CJ;split
   ·left;simp;omega
   ·left;simp;omega
   ·right;exact Xl (XR _ _) (by simp)
   ·left;simp;omega
   ·left;simp;omega
  omega
 have k:=fL (S:=S) (t:=da (ao 3 lets (aa (ab 1) (aa (ab 3) (aa (ar aw (ar aw (ab 2) (ab 0)) (mC (.int 1))) (ai)))))) (e:=ab 0) (cap:=[none,some 0,some 3,some 2]) (env:=[some r.d,a1,some (cL ws),some (cr es),a4,a5,a6,a7,a8,a9,b0,b1,b2]) (rest:=[some r.d,some (cr es),some (cL ws)]) (a:=none) (enc:=ni) (p:=fun i=>match es[i]? with | some e=>rf r ws e.wr | none=>false) (f:=ni) (xs:=CJ r es) rfl hlen (fun i hi=>by
  have e1:es[i]?=some (es[i]'(rn hi)):=WS (rn hi)
  have e2:aw S (cr es) (ni i)=some (es[i]'(rn hi)).d:=NC e1
  simp only [dW,aK,aq,ak,bD,bJ,bI,oj,ob,aj,am,aG,av,e2,au,bf,En.ix1,az,al,bL,O.l,fM,e1]) (fun g _ _=>by simp)
 simp only [yt,bW,dr,aK,aq,ak,bD,bJ,bI,oj,ob,aj,am,az,al,bj,O.f S r es hl,Qk,k]
 rfl
def Wm{e:En}{b:Option D}:(ar aT (ar aT (bt (ab 0) (bu) (bU (mC (.int 2)))) (aM (aa (ar aT (ar aw (ab 0) (mC (.int 2))) (bd (aP jk) (aa (ar bY (ar aw (ab 1) (mC (.int 0))) (mC (.str "passes"))) (ai)))) (ai)))) (bt (ab 0) (bU (mC (.int 3))) (bu))) [some e.d,some r.d] S=some ((qF r e).d,S):=by
 have w3:(r.w.s == ("passes":Str))=decide (r.w=.passes):=Rw.eq r.w .passes
 have c1:jd e.d none (some 2,S)=some (.tup [.int (e.g:Nat),.str (bo e.wr)],S):=rfl
 have c2:jd e.d (some 3) (none,S)=some (.tup [bP e.t],S):=rfl
 have k1:∀ x,ca ([x],S)=some (.tup [x],S):=fun x=>aR (by simp)
 have a1:∀ x y z,aT S (.tup [x,y]) (.tup [z])=some (.tup [x,y,z]):=fun x y z=>gY (by simp)
 have a2:∀ x y z w,aT S (.tup [x,y,z]) (.tup [w])=some (.tup [x,y,z,w]):=fun x y z w=>gY (by simp)
 simp only [aG,cN,ak,bD,bJ,bI,oj,ob,aj,eV,cQ,eU,dA,bf,dC,c1,av,be,aq,am,bS,En.ix2,Rl.ix0,au,cH,w3,az,al,bT,oi,kR,k1,a1,c2,a2]
 unfold qF En.d
 by_cases h:r.w=.passes <;> simp [h]
def DQ{i:Nat}{l:List Nat}{a1 a2 a4 a5 a6 a8 a9 b0 b1 b2:Option D}(hl:es.length<=60):yu [some r.d,a1,a2,some (cr es),a4,a5,a6,some (nl (i::l)),a8,a9,b0,b1,b2] S=some (.lst (((es.take i).map (qF r)).map En.d),S):=by
 have k:=fL (S:=S) (t:=bH) (e:=ar aT (ar aT (bt (ab 0) (bu) (bU (mC (.int 2)))) (aM (aa (ar aT (ar aw (ab 0) (mC (.int 2))) (bd (aP jk) (aa (ar bY (ar aw (ab 1) (mC (.int 0))) (mC (.str "passes"))) (ai)))) (ai)))) (bt (ab 0) (bU (mC (.int 3))) (bu))) (cap:=[none,some 0]) (env:=[some r.d,a1,a2,some (cr es),a4,a5,a6,some (nl (i::l)),a8,a9,b0,b1,b2]) (rest:=[some r.d]) (a:=none) (enc:=En.d) (p:=fun _=>true) (f:=fun e=>(qF r e).d) (xs:=es.take i) rfl (by simp;omega) (fun x _=>gM) (fun x _ _=>Wm (b:=none))
 rw [XZ.mpr (fun _ _=>rfl)] at k
 have e:jd (cr es) none (some (i:Int),S)=some (.tup ((es.take i).map En.d),S):=by
  rw [show cr es=.tup (es.map En.d) from rfl,nh,mW,YZ]
 have e0:aw S (nl (i::l)) (.int 0)=some (.int (i:Int)):=sZ
 simp only [yu,bW,dr,cN,aG,ak,bD,bJ,bI,oj,ob,aj,eV,cQ,eU,dA,av,bf,au,e0,dC,e,EW,k,XC]
 rfl
def Fh{l:List Nat}:ib S (nl l) (.lst [])=some (.bl (!decide (l=[]))):=by
 have ok:cY 40 (nl l)=true:=by
  show (l.map ni).all (cY 39)=true
  rw [Xd];intro d hd;obtain⟨i,_,rfl⟩:=Xk.mp hd;rfl
 rw [rA ok rfl]
 cases l with
 | nil=>rfl
 | cons _ _=>rfl
def Fl{evs:List Ev}{v:Ev}(h:evs.length<500):cX (.ref S.length) [v.d] (S++[.lst (evs.map Ev.d)])=some (.non,S++[.lst ((evs++[v]).map Ev.d)]):=by
 rw [on ge (by rw [WM];omega),Hn];simp
def Ac{evs:List Ev}{f:MF}{ms:MA}{env:bp}:nj f ms env (.ref S.length,S++[.lst (evs.map Ev.d)])=(ms env (S++[.lst (evs.map Ev.d)])).bind (dO f (.ref S.length)):=oe ge
def HK{fronts lets put:PF}(O:Ka fronts lets put){g:Nat}{l:List Nat}{evs:List Ev}{a0 a1 a3 a5 a7 a8 a9 b0 b1 b2:Option D}(hg:g<ws.length)(hl:ws.length<=60)(he:evs.length<500) :
  DN put [a0,a1,some (cL ws),a3,some (.ref S.length),a5,some (nl (g::l)),a7,a8,a9,b0,b1,b2] (S++[.lst (evs.map Ev.d)])=some (.nx [a0,a1,some (cL (ws.set g .raised)),a3,some (.ref S.length),a5,some (nl (g::l)),a7,a8,a9,b0,b1,b2] (S++[.lst ((evs++[Ev.mk "steps" g]).map Ev.d)])):=by
 have p1:∀ S,put [cL ws,.int (g:Int),.str "raised"] S=some (cL (ws.set g .raised),S):=fun S=>O.p S ws g .raised hg (by omega)
 have k2:∀ S (x y:D),ca ([x,y],S)=some (.tup [x,y],S):=fun S x y=>aR (by simp)
 have ap:cX (.ref S.length) [.tup [.str "steps",.int (g:Int)]] (S++[.lst (evs.map Ev.d)])=some (.non,S++[.lst ((evs++[Ev.mk "steps" g]).map Ev.d)]):=Fl (v:=⟨"steps",g⟩) he
 simp only [DN,aS,bh,aK,aq,ak,bD,bJ,bI,oj,ob,aj,am,aG,bf,av,au,sZ,az,al,bL,p1,bi,aO,dR,ej,bK,aD,jt,js,Ac,be,k2,eC,ap,jw]
def OT{fronts lets put:PF}(O:Ka fronts lets put){i:Nat}{l:List Nat}{e:En}{evs:List Ev}{a1 a5 a6 a8 a9 b0 b1 b2:Option D}(hi:es[i]?=some e)(hg:e.g<ws.length)(hl:ws.length<=60)(hl2:es.length<=60)(he:evs.length<500) :
  ∃ c8 c9 d0 d1 d2,Tj put [some r.d,a1,some (cL ws),some (cr es),some (.ref S.length),a5,a6,some (nl (i::l)),a8,a9,b0,b1,b2] (S++[.lst (evs.map Ev.d)])=some (.nx [some r.d,a1,some (cL (sM r (ws,es) i e).1),some (cr (sM r (ws,es) i e).2),some (.ref S.length),a5,a6,some (nl (i::l)),c8,c9,d0,d1,d2] (S++[.lst ((evs++[Ev.mk "in" e.g]).map Ev.d)])):=by
 have hlt:=(WJ.mp hi).1
 have p1:∀ S,put [cL ws,.int (e.g:Int),(if e.wr then Wd.writes else Wd.reads).d] S=some (cL (ws.set e.g (if e.wr then .writes else .reads)),S):=fun S=>O.p S ws e.g _ hg (by omega)
 have k2:∀ S (x y:D),ca ([x,y],S)=some (.tup [x,y],S):=fun S x y=>aR (by simp)
 have l2:∀ S (x y:D),oE ([x,y],S)=some (.lst [x,y],S):=fun S x y=>eO (by simp)
 have ap:cX (.ref S.length) [.tup [.str "in",.int (e.g:Int)]] (S++[.lst (evs.map Ev.d)])=some (.non,S++[.lst ((evs++[Ev.mk "in" e.g]).map Ev.d)]):=Fl (v:=⟨"in",e.g⟩) he
 have x1:∀ S,aw S (cr es) (.int (i:Int))=some e.d:=fun S=>NC hi
 have wd:∀ S,aw S (.lst [.str "reads",.str "writes"]) (.int (if e.wr=true then 1 else 0))=some (if e.wr then Wd.writes else Wd.reads).d:=fun S=>by cases e.wr <;> rfl
 have g4:∀ env S,aE 4 (af (ah 8) (af (ah 9) (af (ah 10) (af (ah 11) (aB))))) e.d env S=(af (ah 8) (af (ah 9) (af (ah 10) (af (ah 11) (aB))))) [.int (e.g:Nat),.str (bo e.wr),.int e.m,bP e.t] env S:=fun env S=>tB
 have cd:fO (es.map En.d) (some ((i:Int)+1)) none=(es.drop (i+1)).map En.d:=by
  rw [show ((i:Int)+1)=((i+1:Nat):Int) by omega,ou _ _ (by rw [WM];omega),Za]
 have sd:∀ S,jd (cr es) (some ((i:Int)+1)) (none,S)=some (.tup ((es.drop (i+1)).map En.d),S):=fun S=>by
  rw [show cr es=.tup (es.map En.d) from rfl,nh,cd]
 have ad:∀ S,aT S (.tup (((es.take i).map (qF r)).map En.d)) (.tup ((es.drop (i+1)).map En.d))=some (cr (sM r (ws,es) i e).2):=fun S=>by
  rw [gY (by simp;omega),<- Xy];rfl
 refine⟨some (.int (e.g:Nat)),some (.str (bo e.wr)),some (.int e.m),some (bP e.t),some (.lst (((es.take i).map (qF r)).map En.d)),?_⟩
 ·simp only [Tj,aS,bh,aG,ak,bD,bJ,bI,oj,ob,aj,av,bf,au,sZ,x1,bi,g4,bg,aO,cy,bB,dR,ej,bK,aD,aK,aq,am,jM,az,al,l2,bS,cH,pM,bT,oi,wd,bL,p1,DQ hl2,eg,cN,eV,dA,kR,dC,eU,cQ,sd,ad,jt,js,Ac,be,k2,eC,ap,jw]
  try rfl
def HJ{fronts lets put:PF}(O:Ka fronts lets put){R:Rm}(h:ROk R)(hl:R.1.length<=50){evs:List Ev}{a1 a5 a6 a7 a8 a9 b0 b1 b2:Option D}(he:evs.length<500) :
  ∃ c6 c7 c8 c9 d0 d1 d2,qL fronts lets put [some r.d,a1,some (cL R.1),some (cr R.2),some (.ref S.length),a5,a6,a7,a8,a9,b0,b1,b2] (S++[.lst (evs.map Ev.d)])=some (.nx [some r.d,a1,some (cL (mG r R).1.1),some (cr (mG r R).1.2),some (.ref S.length),a5,c6,c7,c8,c9,d0,d1,d2] (S++[.lst ((evs++(mG r R).2).map Ev.d)])):=by
 obtain⟨ws,es⟩:=R
 have hl2:es.length<=60:=by have:=h.len;simp only at this hl;omega
 have hl1:ws.length<=60:=by simp only at hl;omega
 have k0:∀ S,oE ([],S)=some (.lst [],S):=fun S=>eO (by simp)
 have e1:∀ (T:ac) (a6:Option D),sV [some r.d,a1,some (cL ws),some (cr es),some (.ref S.length),a5,a6,a7,a8,a9,b0,b1,b2] T=some (nl (nO ws),T):=fun T a6=>DP hl1
 have e2:∀ (T:ac) (a6 a7:Option D),yt fronts lets [some r.d,a1,some (cL ws),some (cr es),some (.ref S.length),a5,a6,a7,a8,a9,b0,b1,b2] T=some (nl (mH r ws es),T):=fun T a6 a7=>HL O hl2
 unfold mG
 dsimp only
 cases hA:nO ws with
 | cons g l=>
  have hr:ws[g]?=some .rising:=pJ (by rw [hA];exact WL)
  have hg:g<ws.length:=(WJ.mp hr).1
  rw [hA] at e1
  have e3:=HK O (S:=S) (ws:=ws) (g:=g) (l:=l) (evs:=evs) (a0:=some r.d) (a1:=a1) (a3:=some (cr es)) (a5:=a5) (a7:=some (nl (mH r ws es))) (a8:=a8) (a9:=a9) (b0:=b0) (b1:=b1) (b2:=b2) hg hl1 he
  refine⟨some (nl (g::l)),some (nl (mH r ws es)),a8,a9,b0,b1,b2,?_⟩
  simp only [qL,aS,bh,e1,e2,ob,bi,aO,dR,ej,bK,aD,bm,aH,aG,ak,bD,bJ,bI,oj,aj,av,jM,az,k0,au,Fh,aF,reduceCtorEq,YI,Xz,bR,e3]
 | nil=>
  rw [hA] at e1
  cases hB:mH r ws es with
  | nil=>
   rw [hB] at e2
   refine⟨some (nl []),some (nl []),a8,a9,b0,b1,b2,?_⟩
   simp only [qL,aS,bh,e1,e2,ob,bi,aO,dR,ej,bK,aD,bm,aH,aG,ak,bD,bJ,bI,oj,aj,av,jM,az,k0,au,Fh,aF,Yl,Xt,bM,bw,Xr]
  | cons i l=>
   rw [hB] at e2
   have hi:i∈mH r ws es:=by rw [hB];exact WL
   have hlt:i<es.length:=rn (XM.mp hi).1
   have ei:es[i]?=some es[i]:=WS hlt
   have hg:(es[i]).g<ws.length:=h.lt (R:=(ws,es)) (ZR hlt)
   obtain⟨c8,c9,d0,d1,d2,e3⟩:=OT O (S:=S) (ws:=ws) (es:=es) (r:=r) (i:=i) (l:=l) (evs:=evs) (a1:=a1) (a5:=a5) (a6:=some (nl [])) (a8:=a8) (a9:=a9) (b0:=b0) (b1:=b1) (b2:=b2) ei hg hl1 hl2 he
   dsimp only
   rw [ei]
   refine⟨some (nl []),some (nl (i::l)),c8,c9,d0,d1,d2,?_⟩
   simp only [qL,aS,bh,e1,e2,ob,bi,aO,dR,ej,bK,aD,bm,aH,aG,ak,bD,bJ,bI,oj,aj,av,jM,az,k0,au,Fh,aF,Yl,Xt,bM,reduceCtorEq,YI,Xz,bR,e3]
def Gb{R:Rm}:(mG r R).2.length<=1:=by
 unfold mG
 split
 ·simp
 ·split
  ·split <;> simp
  ·simp
def AQ{fronts lets put:PF}(O:Ka fronts lets put){N:List Str}(hN:N.length=13){R:Rm}(h:ROk R)(hl:R.1.length<=50) :
  aQ N (pB fronts lets put) 2 [r.d,aW R] S=some (.tup [aW (sU r (2 * R.1.length) R).1,.ref S.length],S++[.lst ((sU r (2 * R.1.length) R).2.map Ev.d)]):=by
 have hst:aC N [r.d,aW R]=[some r.d,some (aW R),none,none,none,none,none,none,none,none,none,none,none]:=by simp [aC,hN,List.replicate]
 rw [ba (show [r.d,aW R].length=2 from rfl),hst]
 obtain⟨env',S',e,R',evs',c5,c6,c7,c8,c9,d0,d1,d2,o1,o2,o3,o4,rfl,rfl⟩:=forR (tg:=ah 5) (p:=qL fronts lets put) (lo:=0) (fun i env T=>∃ (R':Rm) (evs':List Ev) (c5 c6 c7 c8 c9 d0 d1 d2:Option D),ROk R'/\R'.1.length=R.1.length/\evs'.length<=i/\(i<=2 * R.1.length->sU r (2 * R.1.length) R=((sU r (2 * R.1.length - i) R').1,evs'++(sU r (2 * R.1.length - i) R').2)) /\
   env=[some r.d,some (aW R),some (cL R'.1),some (cr R'.2),some (.ref S.length),c5,c6,c7,c8,c9,d0,d1,d2]/\T=S++[.lst (evs'.map Ev.d)]) (2 * R.1.length) (fun i hi env T hI=>by
  obtain⟨R',evs',c5,c6,c7,c8,c9,d0,d1,d2,o1,o2,o3,o4,rfl,rfl⟩:=hI
  obtain⟨f6,f7,f8,f9,g0,g1,g2,e⟩:=HJ O (r:=r) (S:=S) (R:=R') o1 (by omega) (evs:=evs') (a1:=some (aW R)) (a5:=some (.int (0+(i:Int)))) (a6:=c6) (a7:=c7) (a8:=c8) (a9:=c9) (b0:=d0) (b1:=d1) (b2:=d2) (by omega)
  obtain⟨q1,q2⟩:=DK (r:=r) o1
  have fw:=Gb (r:=r) (R:=R')
  refine⟨_,_,_,_,aO,e,(mG r R').1,evs'++(mG r R').2,_,f6,f7,f8,f9,g0,g1,g2,q1,q2.trans o2,by rw [WX];omega,fun hn=>?_,rfl,rfl⟩
  rw [o4 (by omega),show 2 * R.1.length - i=(2 * R.1.length - (i+1))+1 by omega]
  simp only [sU,Xm]) [some r.d,some (aW R),some (cL R.1),some (cr R.2),some (.ref S.length),none,none,none,none,none,none,none,none] (S++[.lst []]) ⟨R,[],none,none,none,none,none,none,none,none,h,rfl,WY _,fun _=>by simp,rfl,rfl⟩
 have o5:=o4 (WY _)
 rw [Nat.sub_self] at o5
 simp only [sU,Xr] at o5
 have k0:qj ([],S)=some (.ref S.length,S++[.lst []]):=jN (by simp)
 have k2:∀ S (x y:D),ca ([x,y],S)=some (.tup [x,y],S):=fun S x y=>aR (by simp)
 have mu:∀ S,cC S (.int 2) (.int (R.1.length:Nat))=some (.int (2 * (R.1.length:Nat))):=fun S=>jX (qS (by decide) (by decide))
 have kr:∀ S,Qh ([.int (2 * (R.1.length:Nat))],S)=some (cD 0 (2 * R.1.length),S):=fun S=>by
  rw [pC (by omega) (by omega)];congr 3
 have g2:∀ env S,aE 2 (af (ah 2) (af (ah 3) (aB))) (aW R) env S=(af (ah 2) (af (ah 3) (aB))) [cL R.1,cr R.2] env S:=fun env S=>bX
 rw [o5]
 simp only [pB,aS,bh,ak,bD,bJ,bI,oj,ob,aj,bi,g2,bg,aO,cy,bB,dR,ej,bK,aD,nX,az,k0,qV,iw,aq,aG,bf,av,bS,am,al,bT,yh,au,mu,kr,rh,e,aX,be,k2,bq,aJ]
 rfl
end
inductive Ak where | up | down | leave | stop
deriving DecidableEq
def Ak.s:Ak->Str
 | .up=>"up"
 | .down=>"down"
 | .leave=>"leave"
 | .stop=>"stop"
inductive Dd where
 | ask (wr:Bool) (g:Nat) (t:Option Int)
 | act (k:Ak) (g:Nat)
 | tick
def Dd.d:Dd->D
 | .ask wr g t=>.tup [.str (bo wr),.int (g:Int),bP t]
 | .act k g=>.tup [.str k.s,.int (g:Int)]
 | .tick=>.tup [.str "tick"]
def AA(t:Option Int):Prop:=∀ k,t=some k->0<=k/\k<=9
def Dd.Ok(n:Nat):Dd->Prop
 | .ask _ g t=>g<n/\AA t
 | .act _ g=>g<n
 | .tick=>True
def qi(pick:PF):MS:=
 ay (aI (ao 2 pick (aa (ab 0) (aa (ab 1) (ai)))) (ah 2)) (ay (aI (ao 2 pick (aa (ab 0) (aa (mC (.int 12)) (ai)))) (ah 3)) (ay (bC (ax (ar QF (ab 3) (mC (.int 6)))) (aV (aM (aa (ar aw (eM (aa (mC (.str "read")) (aa (mC (.str "write")) (ai)))) (ar mw (ab 3) (mC (.int 2)))) (aa (ab 2) (aa (ar aw (eM (aa (mC .non) (aa (mC .non) (aa (mC .non) (aa (mC (.int 0)) (aa (mC (.int 1)) (aa (mC (.int 9)) (ai)))))))) (ao 2 pick (aa (ab 0) (aa (mC (.int 6)) (ai))))) (ai)))))) (aY)) (ay (bC (ax (ar bY (ab 3) (mC (.int 11)))) (aV (aM (aa (mC (.str "tick")) (ai)))) (aY)) (aV (aM (aa (ar aw (eM (aa (mC (.str "up")) (aa (mC (.str "down")) (aa (mC (.str "leave")) (aa (mC (.str "leave")) (aa (mC (.str "stop")) (ai))))))) (ar oH (ab 3) (mC (.int 6)))) (aa (ab 2) (ai))))))))
def RH{q:Int}(h0:0<=q)(h1:q<6):∃ t:Option Int,mM [D.non,D.non,D.non,D.int 0,D.int 1,D.int 9] q=some (bP t)/\AA t:=by
 have n:AA none:=fun k h=>by cases h
 have s:∀ j:Int,0<=j->j<=9->AA (some j):=fun j a b k h=>by cases h;exact⟨a,b⟩
 obtain rfl | rfl | rfl | rfl | rfl | rfl:q=0\/q=1\/q=2\/q=3\/q=4\/q=5:=by omega
 ·exact⟨none,rfl,n⟩
 ·exact⟨none,rfl,n⟩
 ·exact⟨none,rfl,n⟩
 ·exact⟨some 0,rfl,s 0 (by decide) (by decide)⟩
 ·exact⟨some 1,rfl,s 1 (by decide) (by decide)⟩
 ·exact⟨some 9,rfl,s 9 (by decide) (by decide)⟩
def Wq{q:Int}(h0:6<=q)(h1:q<11):∃ k:Ak,mM [D.str "up",D.str "down",D.str "leave",D.str "leave",D.str "stop"] (q - 6)=some (.str k.s):=by
 obtain rfl | rfl | rfl | rfl | rfl:q=6\/q=7\/q=8\/q=9\/q=10:=by omega
 ·exact⟨.up,rfl⟩
 ·exact⟨.down,rfl⟩
 ·exact⟨.leave,rfl⟩
 ·exact⟨.leave,rfl⟩
 ·exact⟨.stop,rfl⟩
def at_wr{q:Int}:∃ wr:Bool,mM [D.str "read",D.str "write"] (q % 2)=some (.str (bo wr)):=by
 obtain h | h:q % 2=0\/q % 2=1:=by omega
 ·exact⟨false,by rw [h];rfl⟩
 ·exact⟨true,by rw [h];rfl⟩
def NW{pick:PF}(hp:FT pick){S:ac}{r n:Nat}{N:List Str}(hN:N.length=4)(P:Pk S r)(h1:1<=n)(h9:n<=9):∃ (dd:Dd) (S':ac),aQ N (qi pick) 2 [.ref r,.int (n:Int)] S=some (dd.d,S')/\dd.Ok n/\Pk S' r/\Keep r S S':=by
 have hst:aC N [D.ref r,.int (n:Int)]=[some (.ref r),some (.int (n:Int)),none,none]:=by simp [aC,hN,List.replicate]
 rw [ba (show [D.ref r,D.int (n:Int)].length=2 from rfl),hst]
 obtain⟨g,S1,e1,g0,g1,P1,K1⟩:=hp _ _ (n:Int) P (by omega) (by omega)
 obtain⟨q,S2,e2,q0,q1,P2,K2⟩:=hp _ _ 12 P1 (by decide) (by decide)
 obtain⟨g',rfl⟩:∃ g':Nat,g=(g':Int):=⟨g.toNat,by omega⟩
 have md:∀ S,mw S (.int q) (.int 2)=some (.int (q % 2)):=fun S=>jY (by decide)
 by_cases h6:q<6
 ·obtain⟨l,S3,e3,l0,l1,P3,K3⟩:=hp _ _ 6 P2 (by decide) (by decide)
  obtain⟨t,et,ot⟩:=RH l0 l1
  obtain⟨wr,ew⟩:=at_wr (q:=q)
  have k1:∀ S,oE ([D.str "read",D.str "write"],S)=some (.lst [D.str "read",D.str "write"],S):=fun S=>eO (by simp)
  have k2:∀ S,oE ([D.non,D.non,D.non,D.int 0,D.int 1,D.int 9],S)=some (.lst [D.non,D.non,D.non,D.int 0,D.int 1,D.int 9],S):=fun S=>eO (by simp)
  have k3:∀ S (a b c:D),ca ([a,b,c],S)=some (.tup [a,b,c],S):=fun S a b c=>aR (by simp)
  refine⟨.ask wr g' t,S3,?_,⟨by omega,ot⟩,P3,Keep.trans K1 (Keep.trans K2 K3)⟩
  simp [qi,e1,e2,h6,k1,md,ew,e3,k2,et,k3,Dd.d]
 ·by_cases h11:q=11
  ·subst h11
   have k1:∀ S (a:D),ca ([a],S)=some (.tup [a],S):=fun S a=>aR (by simp)
   refine⟨.tick,S2,?_,trivial,P2,Keep.trans K1 K2⟩
   simp [qi,e1,e2,k1,Dd.d]
  ·obtain⟨k,ek⟩:=Wq (q:=q) (by omega) (by omega)
   have k1:∀ S,oE ([D.str "up",D.str "down",D.str "leave",D.str "leave",D.str "stop"],S)=some (.lst [D.str "up",D.str "down",D.str "leave",D.str "leave",D.str "stop"],S):=fun S=>eO (by simp)
   have k2:∀ S (a b:D),ca ([a,b],S)=some (.tup [a,b],S):=fun S a b=>aR (by simp)
   refine⟨.act k g',S2,?_,(by show g'<n;omega),P2,Keep.trans K1 K2⟩
   simp [qi,e1,e2,h6,XY.mpr h11,k1,ek,k2,Dd.d]
def bA(es:List En)(g:Nat):Bool:=es.any fun e=>decide (e.g=g)
def iB(R:Rm):Dd->Bool
 | .tick=>true
 | .ask _ g _=>decide (R.1[g]?=some .out) && !bA R.2 g
 | .act .up g=>decide (R.1[g]?=some .reads)
 | .act .down g=>decide (R.1[g]?=some .writes)||decide (R.1[g]?=some .raised)
 | .act .leave g=>decide (R.1[g]?≠some .out)
 | .act .stop g=>bA R.2 g||decide (R.1[g]?=some .rising)
def Aq:ME:=ar kz (ar aw (ab 1) (mC (.int 1))) (bE (cZ (ab 3)) (ah 0) (bH) (ar aw (ab 0) (mC (.int 0))) [none])
def Wl:ME:=dZ [(mC (.str "read"),dG (ar bY (ab 4) (mC (.str "out"))) (fQ (ab 5))),(mC (.str "write"),dG (ar bY (ab 4) (mC (.str "out"))) (fQ (ab 5))),(mC (.str "up"),ar bY (ab 4) (mC (.str "reads")))]
def Wk:ME:=gy [(mC (.str "down"),ar kz (ab 4) (aM (aa (mC (.str "writes")) (aa (mC (.str "raised")) (ai))))),(mC (.str "leave"),ar ib (ab 4) (mC (.str "out"))),(mC (.str "stop"),tf (ab 5) (ar bY (ab 4) (mC (.str "rising"))))]
def zL:MS:=
 ay (aI (ab 0) (aE 2 (af (ah 2) (af (ah 3) (aB))))) (ay (bC (ax (ar bY (ab 1) (aM (aa (mC (.str "tick")) (ai))))) (aV (mC (.bl true))) (aY)) (ay (aI (ar aw (ab 2) (ar aw (ab 1) (mC (.int 1)))) (ah 4)) (ay (aI Aq (ah 5)) (ay (aI Wl (ah 6)) (ay (db (dX vn (ab 6) (aa Wk (ai)))) (aV (ar aw (ab 6) (ar aw (ab 1) (mC (.int 0))))))))))
def um(r:Rl)(w:Wd)(es:List En):List En:=if r.w=.turns/\w=.writes then es.map (fun e=>if e.wr then e else { e with m:=1 }) else es
def mkC:ME:=bE (cZ (ab 2)) (ah 0) (bH) (lL (ax (ar bY (ar aw (ab 0) (mC (.int 1))) (mC (.str "read")))) (ar aT (ar aT (bt (ab 0) (bu) (bU (mC (.int 2)))) (aM (aa (mC (.int 1)) (ai)))) (bt (ab 0) (bU (mC (.int 3))) (bu))) (ab 0)) [none]
def lu:MS:=
 ay (bC (eL (ax (ar ib (ar aw (ab 0) (mC (.int 0))) (mC (.str "turns")))) (ax (ar ib (ab 1) (mC (.str "writes"))))) (aV (ab 2)) (aY)) (aV (bd (aP (cw .tup)) (aa mkC (ai))))
section
variable{S:ac}{ws:List Wd}{es:List En}{r:Rl}
def Nd{g:Nat}:kz S (.int (g:Int)) (.lst (es.map fun e=>.int (e.g:Int)))=some (.bl (bA es g)):=by
 rw [je (ys:=es.map fun e=>D.int (e.g:Int)) rfl rfl (by rw [Xd];intro d hd;obtain⟨e,_,rfl⟩:=Xk.mp hd;rfl)]
 unfold bA
 rw [Zi]
 congr 2
 induction es with
 | nil=>rfl
 | cons e l ih=>
  rw [XD,XD,ih]
  congr 1
  show ((e.g:Int) == (g:Int))=_
  rw [Xs];simp;omega
def gsC{b:Option D}{cap:List (Option Nat)}{env:bp}(hc:lD cap env=[b])(hl:es.length<=100):nk (ah 0) bH (ar aw (ab 0) (mC (.int 0))) cap env (es.map En.d,S)=some (.lst (es.map fun e=>.int (e.g:Int)),S):=by
 have k:=fL (S:=S) (t:=bH) (e:=ar aw (ab 0) (mC (.int 0))) (cap:=cap) (env:=env) (rest:=[]) (a:=b) (enc:=En.d) (p:=fun _=>true) (f:=fun e=>.int (e.g:Int)) (xs:=es) hc (by omega) (fun x _=>gM) (fun x _ _=>by simp [En.ix0])
 rw [XZ.mpr (fun _ _=>rfl)] at k
 exact k
def eQ:EX (cr es,S)=some (es.map En.d,S):=rfl
def Fb:Dd->Bool
 | .tick=>true
 | _=>false
def Dd.tick_ne{dd:Dd}:bY S dd.d (.tup [.str "tick"])=some (.bl (Fb dd)):=by
 cases dd with
 | tick=>rw [mx rfl rfl];rfl
 | ask wr g t=>
  rw [mx (by cases t <;> rfl) rfl]
  show some (D.bl (_&&false))=some (D.bl false)
  rw [Yn]
 | act k g=>
  rw [mx rfl rfl]
  show some (D.bl (_&&false))=some (D.bl false)
  rw [Yn]
def nC{a b:Wd}:bY S a.d (.str b.s)=some (.bl (decide (a=b))):=by
 show bY S (.str a.s) (.str b.s)=_
 rw [cH,Wd.eq]
def vq{a b:Wd}:ib S a.d (.str b.s)=some (.bl (!decide (a=b))):=by
 show ib S (.str a.s) (.str b.s)=_
 rw [rq,Wd.eq]
def Nb{a:Wd}:kz S a.d (.tup [.str "writes",.str "raised"])=some (.bl (decide (a=.writes)||decide (a=.raised))):=by
 have h:([D.str "writes",D.str "raised"].any fun d=>jm d a.d)=(decide (a=.writes)||decide (a=.raised)):=by cases a <;> decide +kernel
 rw [je (ys:=[.str "writes",.str "raised"]) rfl rfl rfl,h]
def mz(w:Wd)(s:Bool):List (bG×D):=[(.inr "read",.bl (decide (w=.out) && !s)),(.inr "write",.bl (decide (w=.out) && !s)),(.inr "up",.bl (decide (w=.reads)))]
def my(w:Wd)(s:Bool):List (bG×D):=[(.inr "down",.bl (decide (w=.writes)||decide (w=.raised))),(.inr "leave",.bl (!decide (w=.out))),(.inr "stop",.bl (s||decide (w=.rising)))]
def Rz{w:Wd}{s:Bool}{a0 a1 a2 a3 a6:Option D}:Wl [a0,a1,a2,a3,some w.d,some (.bl s),a6] S=some (.ref S.length,S++[.dct ((mz w s).map (·.1)) ((mz w s).map (·.2))]):=by
 have e1:∀ S,bY S w.d (.str "out")=some (.bl (decide (w=.out))):=fun S=>nC (b:=.out)
 have e2:∀ S,bY S w.d (.str "reads")=some (.bl (decide (w=.reads))):=fun S=>nC (b:=.reads)
 have ka:∀ x:Bool,Qp (fQ (ab 5)) [a0,a1,a2,a3,some w.d,some (.bl s),a6] (.bl x,S)=some (.bl (x && !s),S):=fun x=>by cases x <;> simp
 have kd:zR ([(.inr "read",.bl (decide (w=.out) && !s)),(.inr "write",.bl (decide (w=.out) && !s)),(.inr "up",.bl (decide (w=.reads)))],S)=some (.ref S.length,S++[.dct ((mz w s).map (·.1)) ((mz w s).map (·.2))]):=IU (l:=mz w s) (show [(Sum.inr "read":bG),.inr "write",.inr "up"].Nodup by decide +kernel) (by show 3<=15;decide)
 simp only [Wl,Mc,mZ,bf,ob,EU,pz,aG,ak,bD,bJ,bI,oj,aj,av,au,e1,ka,ET,e2,pv,ES,kd]
def Ry{w:Wd}{s:Bool}{a0 a1 a2 a3 a6:Option D}:Wk [a0,a1,a2,a3,some w.d,some (.bl s),a6] S=some (.dct ((my w s).map (·.1)) ((my w s).map (·.2)),S):=by
 have e1:∀ S,ib S w.d (.str "out")=some (.bl (!decide (w=.out))):=fun S=>vq (b:=.out)
 have e2:∀ S,bY S w.d (.str "rising")=some (.bl (decide (w=.rising))):=fun S=>nC (b:=.rising)
 have k2:∀ S (x y:D),ca ([x,y],S)=some (.tup [x,y],S):=fun S x y=>aR (by simp)
 have ka:Sh (ar bY (ab 4) (mC (.str "rising"))) [a0,a1,a2,a3,some w.d,some (.bl s),a6] (.bl s,S)=some (.bl (s||decide (w=.rising)),S):=by cases s <;> simp [e2]
 have kd:uP ([(.inr "down",.bl (decide (w=.writes)||decide (w=.raised))),(.inr "leave",.bl (!decide (w=.out))),(.inr "stop",.bl (s||decide (w=.rising)))],S)=some (.dct ((my w s).map (·.1)) ((my w s).map (·.2)),S):=Cr (l:=my w s) (show [(Sum.inr "down":bG),.inr "leave",.inr "stop"].Nodup by decide +kernel) (by show 3<=15;decide)
 simp only [Wk,GB,mZ,bf,ob,EU,aG,ak,bD,bJ,bI,oj,aj,av,be,aq,am,az,al,k2,au,Nb,ET,e1,Sb,ka,pv,ES,kd]
def cK:Dd->Str
 | .ask wr _ _=>bo wr
 | .act k _=>k.s
 | .tick=>"tick"
def bb:Dd->Nat
 | .ask _ g _=>g
 | .act _ g=>g
 | .tick=>0
def Wj{w:Wd}{s:Bool}{R:Rm}{dd:Dd}(hs:s=bA R.2 (bb dd))(hw:R.1[bb dd]?=some w)(ht:dd≠.tick):jG (cP (mz w s) (my w s)) (.inr (cK dd))=some (.bl (iB R dd)):=by
 have hm:cP (mz w s) (my w s)=mz w s++my w s:=pq (show [(Sum.inr "read":bG),.inr "write",.inr "up",.inr "down",.inr "leave",.inr "stop"].Nodup by decide +kernel)
 rw [hm]
 cases dd with
 | tick=>exact absurd rfl ht
 | ask wr g t=>
  simp only [bb] at hw hs
  cases wr
  ·simp (decide:=true) [mz,my,jG,cK,bo,iB,hw,hs]
  ·simp (decide:=true) [mz,my,jG,cK,bo,iB,hw,hs]
 | act k g=>
  simp only [bb] at hw hs
  cases k <;> simp (decide:=true) [mz,my,jG,cK,Ak.s,iB,hw,hs]
def Rx{N:List Str}(hN:N.length=7){R:Rm}{dd:Dd}(hl:R.2.length<=60)(hd:dd.Ok R.1.length):∃ T,aQ N zL 2 [aW R,dd.d] S=some (.bl (iB R dd),S++T):=by
 have hst:aC N [aW R,dd.d]=[some (aW R),some dd.d,none,none,none,none,none]:=by simp [aC,hN,List.replicate]
 rw [ba (show [aW R,dd.d].length=2 from rfl),hst]
 obtain⟨ws,es⟩:=R
 have k1:∀ S (x:D),ca ([x],S)=some (.tup [x],S):=fun S x=>aR (by simp)
 have g2:∀ env S,aE 2 (af (ah 2) (af (ah 3) (aB))) (aW (ws,es)) env S=(af (ah 2) (af (ah 3) (aB))) [cL ws,cr es] env S:=fun env S=>bX
 by_cases ht:dd=.tick
 ·subst ht
  refine⟨[],?_⟩
  simp only [zL,aS,bh,ak,bD,bJ,bI,oj,ob,aj,bi,g2,bg,aO,cy,bB,dR,ej,bK,aD,bm,aH,aG,av,be,aq,bf,am,az,al,k1,au,Dd.tick_ne,aF,bR,aX,bq,bQ,aJ,Xr,iB,Fb]
 ·have hf:Fb dd=false:=by cases dd <;> first | rfl | exact absurd rfl ht
  have x1:∀ S,aw S dd.d (.int 1)=some (.int (bb dd:Int)):=fun S=>by cases dd <;> first | rfl | exact absurd rfl ht
  have x0:∀ S,aw S dd.d (.int 0)=some (.str (cK dd)):=fun S=>by cases dd <;> first | rfl | exact absurd rfl ht
  have hg:bb dd<ws.length:=by cases dd with
   | ask _ _ _=>exact hd.1
   | act _ _=>exact hd
   | tick=>exact absurd rfl ht
  have hw:ws[bb dd]?=some ws[bb dd]:=WS hg
  have xw:∀ S,aw S (cL ws) (.int (bb dd:Int))=some (ws[bb dd]).d:=fun S=>wG hw
  have st:∀ (S:ac) (a4 a5 a6:Option D),Aq [some (aW (ws,es)),some dd.d,some (cL ws),some (cr es),a4,a5,a6] S=some (.bl (bA es (bb dd)),S):=fun S a4 a5 a6=>by
   simp only [Aq,aG,ak,bD,bJ,bI,oj,ob,aj,av,bf,au,x1,bW,dr,eQ,gsC (es:=es) (cap:=[none]) (env:=[some (aW (ws,es)),some dd.d,some (cL ws),some (cr es),a4,a5,a6]) rfl (by simp only at hl;omega),Nd]
  have up:vn (.ref S.length) [.dct ((my (ws[bb dd]) (bA es (bb dd))).map (·.1)) ((my (ws[bb dd]) (bA es (bb dd))).map (·.2))] (S++[.dct ((mz (ws[bb dd]) (bA es (bb dd))).map (·.1)) ((mz (ws[bb dd]) (bA es (bb dd))).map (·.2))])=some (.non,S++[.dct ((cP (mz (ws[bb dd]) (bA es (bb dd))) (my (ws[bb dd]) (bA es (bb dd)))).map (·.1)) ((cP (mz (ws[bb dd]) (bA es (bb dd))) (my (ws[bb dd]) (bA es (bb dd)))).map (·.2))]):=by
   rw [QC ge (by show 3+3<=1000;decide),Hn]
  have md:∀ f ms env (c:List bG) (d:List D),uN f ms env (.ref S.length,S++[.dct c d])=(ms env (S++[.dct c d])).bind (dO f (.ref S.length)):=fun f ms env c d=>Mq ge
  have fin:aw (S++[.dct ((cP (mz (ws[bb dd]) (bA es (bb dd))) (my (ws[bb dd]) (bA es (bb dd)))).map (·.1)) ((cP (mz (ws[bb dd]) (bA es (bb dd))) (my (ws[bb dd]) (bA es (bb dd)))).map (·.2))]) (.ref S.length) (.str (cK dd))=some (.bl (iB (ws,es) dd)):=by
   rw [Vu ge zM];exact Wj rfl hw ht
  refine⟨[.dct ((cP (mz (ws[bb dd]) (bA es (bb dd))) (my (ws[bb dd]) (bA es (bb dd)))).map (·.1)) ((cP (mz (ws[bb dd]) (bA es (bb dd))) (my (ws[bb dd]) (bA es (bb dd)))).map (·.2))],?_⟩
  simp only [zL,aS,bh,ak,bD,bJ,bI,oj,ob,aj,bi,g2,bg,aO,cy,bB,dR,ej,bK,aD,bm,aH,aG,av,be,aq,bf,am,az,al,k1,au,Dd.tick_ne,hf,aF,bM,bw,x1,xw,st,Rz,jt,LY,md,Ry,eC,up,jw,aX,x0,fin,bq,aJ]
def mk_d{e:En}:(lL (ax (ar bY (ar aw (ab 0) (mC (.int 1))) (mC (.str "read")))) (ar aT (ar aT (bt (ab 0) (bu) (bU (mC (.int 2)))) (aM (aa (mC (.int 1)) (ai)))) (bt (ab 0) (bU (mC (.int 3))) (bu))) (ab 0)) [some e.d] S=some ((if e.wr then e else { e with m:=1 }:En).d,S):=by
 have c1:jd e.d none (some 2,S)=some (.tup [.int (e.g:Nat),.str (bo e.wr)],S):=rfl
 have c2:jd e.d (some 3) (none,S)=some (.tup [bP e.t],S):=rfl
 have k1:∀ x,ca ([x],S)=some (.tup [x],S):=fun x=>aR (by simp)
 have a1:∀ x y z,aT S (.tup [x,y]) (.tup [z])=some (.tup [x,y,z]):=fun x y z=>gY (by simp)
 have a2:∀ x y z w,aT S (.tup [x,y,z]) (.tup [w])=some (.tup [x,y,z,w]):=fun x y z w=>gY (by simp)
 have wr:(bo e.wr == ("read":Str)) = !e.wr:=sS e.wr
 simp only [mK,aH,aG,ak,bD,oj,ob,aj,av,bf,au,En.ix1,cH,wr,aF]
 cases h:e.wr with
 | true=>simp
 | false=>
  simp only [Xz,xz,aG,cN,ak,bD,oj,ob,aj,eV,cQ,eU,dA,bf,dC,c1,av,be,aq,am,az,al,k1,au,a1,c2,a2]
  unfold En.d
  simp [h]
def EB{N:List Str}(hN:N.length=3){w:Wd}(hl:es.length<=60):aQ N lu 3 [r.d,w.d,cr es] S=some (cr (um r w es),S):=by
 have hst:aC N [r.d,w.d,cr es]=[some r.d,some w.d,some (cr es)]:=by simp [aC,hN]
 rw [ba (show [r.d,w.d,cr es].length=3 from rfl),hst]
 have w1:(r.w.s == ("turns":Str))=decide (r.w=.turns):=Rw.eq r.w .turns
 have e1:ib S (.str r.w.s) (.str "turns")=some (.bl (!decide (r.w=.turns))):=by rw [rq,w1]
 have e2:ib S w.d (.str "writes")=some (.bl (!decide (w=.writes))):=vq (b:=.writes)
 have k:=fL (S:=S) (t:=bH) (e:=lL (ax (ar bY (ar aw (ab 0) (mC (.int 1))) (mC (.str "read")))) (ar aT (ar aT (bt (ab 0) (bu) (bU (mC (.int 2)))) (aM (aa (mC (.int 1)) (ai)))) (bt (ab 0) (bU (mC (.int 3))) (bu))) (ab 0)) (cap:=[none]) (env:=[some r.d,some w.d,some (cr es)]) (rest:=[]) (a:=none) (enc:=En.d) (p:=fun _=>true) (f:=fun e=>(if e.wr then e else { e with m:=1 }:En).d) (xs:=es) rfl (by omega) (fun x _=>gM) (fun x _ _=>mk_d)
 rw [XZ.mpr (fun _ _=>rfl)] at k
 have kc:mkC [some r.d,some w.d,some (cr es)] S=some (.lst (es.map fun e=>(if e.wr then e else { e with m:=1 }:En).d),S):=by
  simp only [mkC,bW,dr,ak,bD,bJ,bI,oj,ob,aj,eQ,k]
 unfold um
 by_cases h1:r.w=.turns
 ·rw [WU h1] at e1
  by_cases h2:w=.writes
  ·rw [Xc ⟨h1,h2⟩]
   rw [WU h2] at e2
   simp only [lu,aS,bm,jc,aH,aG,ak,bD,bJ,bI,oj,ob,aj,av,bf,au,Rl.ix0,e1,Xt,aF,mf,e2,bM,bw,aD,aX,bS,aq,kc,am,az,al,bT,eg,bq,aJ]
   unfold cr;rw [XC];rfl
  ·rw [if_neg (fun z=>h2 z.2)]
   rw [WV h2] at e2
   simp only [lu,aS,bm,jc,aH,aG,ak,bD,bJ,bI,oj,ob,aj,av,bf,au,Rl.ix0,e1,Xt,Xz,aF,mf,e2,bR,aX,bq,bQ,aJ]
 ·rw [if_neg (fun z=>h1 z.1)]
  rw [WV h1] at e1
  simp only [lu,aS,bm,jc,aH,aG,ak,bD,bJ,bI,oj,ob,aj,av,bf,au,Rl.ix0,e1,Xz,aF,zP,bR,aX,bq,bQ,aJ]
end
def cI(l:List Ev):D:=.tup (l.map Ev.d)
def aZ(r:Rl)(R:Rm):Rm×List Ev:=sU r (2 * R.1.length) R
def mD(wr:Bool)(g:Nat)(t:Option Int):En:=⟨g,wr,0,if t=some 0 then some 1 else t⟩
def sR(r:Rl)(R:Rm)(wr:Bool)(g:Nat)(t:Option Int):Rm×List Ev:=
 let a:=aZ r (R.1,R.2++[mD wr g t])
 if bA a.1.2 g=false then a
 else if t=some 0 then ((a.1.1,a.1.2.filter fun e=>decide (e.g≠g)),a.2++[⟨"no",g⟩])
 else (a.1,a.2++[⟨"waits",g⟩])
def gG(e:En):En:={ e with t:=e.t.map (· - 1) }
def oK(r:Rl)(R:Rm):Rm×List Ev:=
 let a:=aZ r (R.1,(R.2.map gG).filter fun e=>decide (e.t≠some 0))
 (a.1,(((R.2.map gG).filter fun e=>decide (e.t=some 0)).map fun e=>⟨"ends",e.g⟩)++a.2)
def gf(k:Ak)(g:Nat):List Ev:=match k with
 | .up=>[]
 | .stop=>[⟨"ends",g⟩]
 | .down=>[⟨"down",g⟩]
 | .leave=>[⟨"out",g⟩]
def gJ(k:Ak)(w:Wd):Wd:=match k with
 | .up=>.rising
 | .down=>.reads
 | .leave=>.out
 | .stop=>if w=.rising then .reads else .out
def rK(r:Rl)(k:Ak)(w:Wd)(g:Nat)(es:List En):List En:=(if k=.down\/k=.leave then um r w es else es).filter fun e=>decide (e.g≠g)
def mN(r:Rl)(R:Rm)(k:Ak)(g:Nat)(w:Wd):Rm×List Ev:=
 let a:=aZ r (R.1.set g (gJ k w),rK r k w g R.2)
 (a.1,gf k g++a.2++(if a.1.1[g]?=some .rising then [⟨"waits",g⟩] else []))
def fI(r:Rl)(R:Rm)(dd:Dd):Option (Rm×List Ev):=
 if iB R dd=false then none else match dd with
 | .tick=>some (oK r R)
 | .ask wr g t=>some (sR r R wr g t)
 | .act k g=>if k=.up/\(r.c=0\/Wd.rising∈R.1) then some (R,[⟨"no",g⟩]) else match R.1[g]? with
  | some w=>some (mN r R k g w)
  | none=>none
def jn{es:List En}{g:Nat}(h:bA es g=false){e:En}(he:e∈es):e.g≠g:=fun z=>by
 have:bA es g=true:=XW.mpr ⟨e,he,by simp [z]⟩
 rw [h] at this;cases this
def ROk.filter{ws:List Wd}{es:List En}(h:ROk (ws,es))(p:En->Bool):ROk (ws,es.filter p):=
 ⟨fun e he=>h.out e (XM.mp he).1,List.Sublist.nodup (List.Sublist.map _ (List.filter_sublist)) h.nd⟩
def ROk.mapE{ws:List Wd}{es:List En}(h:ROk (ws,es))(f:En->En)(hf:∀ e,(f e).g=e.g):ROk (ws,es.map f):=
 ⟨fun e he=>by obtain⟨x,hx,rfl⟩:=Xk.mp he;rw [hf];exact h.out x hx,by
  show ((es.map f).map (·.g)).Nodup
  rw [XC,show ((·.g) ∘ f)=(fun e:En=>e.g) from funext hf];exact h.nd⟩
def ROk.setW{ws:List Wd}{es:List En}(h:ROk (ws,es))(g:Nat)(w:Wd)(hg:∀ e∈es,e.g≠g):ROk (ws.set g w,es):=
 ⟨fun e he=>by show (ws.set g w)[e.g]?=_;rw [Xf (Ne.symm (hg e he))];exact h.out e he,h.nd⟩
def dQ{r:Rl}{R:Rm}(h:ROk R):ROk (aZ r R).1/\(aZ r R).1.1.length=R.1.length:=KL _ h
def At{R:Rm}{wr:Bool}{g:Nat}{t:Option Int}(h:ROk R)(hw:R.1[g]?=some .out)(hs:bA R.2 g=false):ROk (R.1,R.2++[mD wr g t]):=
 ⟨fun e he=>by
  rcases Xj.mp he with he | he
  ·exact h.out e he
  ·rw [Xp.mp he];exact hw,by
  show ((R.2++[mD wr g t]).map (·.g)).Nodup
  rw [Xy,YC]
  refine⟨h.nd,by simp,fun a ha b hb=>?_⟩
  obtain⟨e,he,rfl⟩:=Xk.mp ha
  simp [mD] at hb
  rw [hb];exact jn hs he⟩
def Us{r:Rl}{w:Wd}{ws:List Wd}{es:List En}(h:ROk (ws,es)):ROk (ws,um r w es):=by
 unfold um;split
 ·exact h.mapE _ fun e=>by split <;> rfl
 ·exact h
def Ax{r:Rl}{k:Ak}{w:Wd}{g:Nat}{ws:List Wd}{es:List En}(h:ROk (ws,es))(w':Wd):ROk (ws.set g w',rK r k w g es):=by
 unfold rK
 refine ROk.setW (ROk.filter ?_ _) g w' fun e he=>XO (XM.mp he).2
 split
 ·exact Us h
 ·exact h
def iN{r:Rl}{R:Rm}{dd:Dd}{x:Rm×List Ev}(h:ROk R)(hx:fI r R dd=some x):ROk x.1/\x.1.1.length=R.1.length:=by
 unfold fI at hx
 split at hx
 ·cases hx
 ·rename_i hc
  have hc:iB R dd=true:=by simpa using hc
  cases dd with
  | tick=>
   cases hx
   obtain⟨a,b⟩:=dQ (r:=r) (R:=(R.1,(R.2.map gG).filter fun e=>decide (e.t≠some 0))) (ROk.filter (ROk.mapE h gG fun e=>rfl) _)
   exact⟨a,b⟩
  | ask wr g t=>
   cases hx
   simp only [iB,WP,Ye,Bool.not_eq_true'] at hc
   obtain⟨a,b⟩:=dQ (r:=r) (At (wr:=wr) (t:=t) h hc.1 hc.2)
   unfold sR
   dsimp only
   split
   ·exact⟨a,b⟩
   ·split
    ·exact⟨ROk.filter a _,b⟩
    ·exact⟨a,b⟩
  | act k g=>
   dsimp only at hx
   split at hx
   ·cases hx;exact⟨h,rfl⟩
   ·split at hx
    ·rename_i w hw
     cases hx
     obtain⟨a,b⟩:=dQ (r:=r) (Ax (r:=r) (k:=k) (w:=w) (g:=g) h (gJ k w))
     exact⟨a,b.trans (by simp)⟩
    ·cases hx
def Wv:ME:=bE (cZ (ar aw (ab 1) (mC (.int 1)))) (ah 0) (bH) (ar aw (ab 0) (mC (.int 0))) [none]
def FN:ME:=bE (cZ (ar aw (ab 1) (mC (.int 1)))) (ah 0) (ax (ar ib (ar aw (ab 0) (mC (.int 0))) (ab 1))) (ab 0) [none,some 4]
def uK(settled:PF):MS:=
 ay (aI (ab 2) (aE 3 (af (ah 3) (af (ah 4) (af (ah 5) (aB)))))) (ay (aI (aM (aa (ab 4) (aa (ab 3) (aa (mC (.int 0)) (aa (lL (ax (ar bY (ab 5) (mC (.int 0)))) (mC (.int 1)) (ab 5)) (ai)))))) (ah 6)) (ay (aI (ao 2 settled (aa (ab 0) (aa (aM (aa (ar aw (ab 1) (mC (.int 0))) (aa (ar aT (ar aw (ab 1) (mC (.int 1))) (aM (aa (ab 6) (ai)))) (ai)))) (ai)))) (aE 2 (af (ah 1) (af (ah 7) (aB))))) (ay (bC (ax (ar rp (ab 4) Wv)) (aV (aM (aa (ab 1) (aa (bd (aP (cw .tup)) (aa (ab 7) (ai))) (ai))))) (aY)) (ay (bC (ax (ar bY (ab 5) (mC (.int 0)))) (aV (aM (aa (aM (aa (ar aw (ab 1) (mC (.int 0))) (aa (bd (aP (cw .tup)) (aa FN (ai))) (ai)))) (aa (bd (aP (cw .tup)) (aa (ar aT (ab 7) (eM (aa (aM (aa (mC (.str "no")) (aa (ab 4) (ai)))) (ai)))) (ai))) (ai))))) (aY)) (aV (aM (aa (ab 1) (aa (bd (aP (cw .tup)) (aa (ar aT (ab 7) (eM (aa (aM (aa (mC (.str "waits")) (aa (ab 4) (ai)))) (ai)))) (ai))) (ai)))))))))
def Aj:ME:=bE (cZ (ab 4)) (ah 0) (bH) (ar aT (bt (ab 0) (bu) (bU (mC (.int 3)))) (aM (aa (lL (ax (ar wA (ar aw (ab 0) (mC (.int 3))) (mC .non))) (mC .non) (ar oH (ar aw (ab 0) (mC (.int 3))) (mC (.int 1)))) (ai)))) [none]
def FC:ME:=bE (cZ (ab 5)) (ah 0) (ax (ar bY (ar aw (ab 0) (mC (.int 3))) (mC (.int 0)))) (aM (aa (mC (.str "ends")) (aa (ar aw (ab 0) (mC (.int 0))) (ai)))) [none]
def FA:ME:=bE (cZ (ab 5)) (ah 0) (ax (ar ib (ar aw (ab 0) (mC (.int 3))) (mC (.int 0)))) (ab 0) [none]
def vx(settled:PF):MS:=ay (aI Aj (ah 5)) (ay (aI FC (ah 6)) (ay (aI (ao 2 settled (aa (ab 0) (aa (aM (aa (ab 3) (aa (bd (aP (cw .tup)) (aa FA (ai))) (ai)))) (ai)))) (aE 2 (af (ah 1) (af (ah 7) (aB))))) (aV (aM (aa (ab 1) (aa (bd (aP (cw .tup)) (aa (ar aT (ab 6) (ab 7)) (ai))) (ai)))))))
def Ai:ME:=ar cC (eM (aa (aM (aa (lL (ax (ar bY (ab 8) (mC (.str "stop")))) (mC (.str "ends")) (lL (ax (ar bY (ab 8) (mC (.str "down")))) (mC (.str "down")) (mC (.str "out")))) (aa (ab 9) (ai)))) (ai))) (bd (aP jk) (aa (ar ib (ab 8) (mC (.str "up"))) (ai)))
def Ah:ME:=ar aw (gy [(mC (.str "up"),mC (.str "rising")),(mC (.str "down"),mC (.str "reads")),(mC (.str "leave"),mC (.str "out")),(mC (.str "stop"),ar aw (eM (aa (mC (.str "out")) (aa (mC (.str "reads")) (ai)))) (bd (aP jk) (aa (ar bY (ab 10) (mC (.str "rising"))) (ai))))]) (ab 8)
def Fz:ME:=ar cC (eM (aa (aM (aa (mC (.str "waits")) (aa (ab 9) (ai)))) (ai))) (bd (aP jk) (aa (ar bY (ar aw (ar aw (ab 1) (mC (.int 0))) (ab 9)) (mC (.str "rising"))) (ai)))
def FB:ME:=bE (cZ (ab 4)) (ah 0) (ax (ar ib (ar aw (ab 0) (mC (.int 0))) (ab 1))) (ab 0) [none,some 9]
def NS(settled marked put:PF):MS:=ay (aI (ar aw (ab 3) (ab 9)) (ah 10)) (ay (aI Ai (ah 11)) (ay (bC (ax (ar kz (ab 8) (aM (aa (mC (.str "down")) (aa (mC (.str "leave")) (ai)))))) (aI (ao 3 marked (aa (ab 0) (aa (ab 10) (aa (ab 4) (ai))))) (ah 4)) (aY)) (ay (aI (bd (aP (cw .tup)) (aa FB (ai))) (ah 4)) (ay (aI Ah (ah 12)) (ay (aI (ao 2 settled (aa (ab 0) (aa (aM (aa (ao 3 put (aa (ab 3) (aa (ab 9) (aa (ab 12) (ai))))) (aa (ab 4) (ai)))) (ai)))) (aE 2 (af (ah 1) (af (ah 7) (aB))))) (ay (aI Fz (ah 13)) (aV (aM (aa (ab 1) (aa (bd (aP (cw .tup)) (aa (ar aT (ar aT (ab 11) (ab 7)) (ab 13)) (ai))) (ai)))))))))))
def kG(can asked settled marked put:PF):MS:=
 ay (bC (dH (da (ao 2 can (aa (ab 1) (aa (ab 2) (ai)))))) (aV (mC .non)) (aY)) (ay (aI (ab 1) (aE 2 (af (ah 3) (af (ah 4) (aB))))) (ay (bC (ax (ar bY (ar aw (ab 2) (mC (.int 0))) (mC (.str "tick")))) (vx settled) (aY)) (ay (aI (bt (ab 2) (bu) (bU (mC (.int 2)))) (aE 2 (af (ah 8) (af (ah 9) (aB))))) (ay (bC (ax (ar kz (ab 8) (aM (aa (mC (.str "read")) (aa (mC (.str "write")) (ai)))))) (aV (ao 3 asked (aa (ab 0) (aa (ab 1) (aa (ab 2) (ai)))))) (aY)) (ay (bC (cF (ax (ar bY (ab 8) (mC (.str "up")))) (eL (ax (ar bY (ar aw (ab 0) (mC (.int 3))) (mC (.int 0)))) (ax (ar kz (mC (.str "rising")) (ab 3))))) (aV (aM (aa (ab 1) (aa (aM (aa (aM (aa (mC (.str "no")) (aa (ab 9) (ai)))) (ai))) (ai))))) (aY)) (NS settled marked put))))))
def oz(settled:PF):Prop:=∀ (S:ac) (r:Rl) (R:Rm),ROk R->R.1.length<=50->settled [r.d,aW R] S=some (.tup [aW (aZ r R).1,.ref S.length],S++[.lst ((aZ r R).2.map Ev.d)])
def nV{r:Rl}:∀ (n:Nat) {R:Rm},(sU r n R).2.length<=n
 | 0,R=>WY _
 | n+1,R=>by
  have h1:=Gb (r:=r) (R:=R)
  have h2:=nV (r:=r) n (R:=(mG r R).1)
  show ((mG r R).2++(sU r n (mG r R).1).2).length<=_
  rw [WX];omega
section
variable{S:ac}{ws:List Wd}{es:List En}{r:Rl}{R:Rm}
def jZ{t:Option Int}:bY S (bP t) (.int 0)=some (.bl (decide (t=some 0))):=by
 cases t with
 | none=>exact mx rfl rfl
 | some k=>
  show bY S (.int k) (.int 0)=_
  rw [jf];congr 2;rw [Xs];simp
def CQ{t:Option Int}:ib S (bP t) (.int 0)=some (.bl (!decide (t=some 0))):=by
 cases t with
 | none=>exact rA rfl rfl
 | some k=>
  show ib S (.int k) (.int 0)=_
  rw [MZ];congr 3;rw [Xs];simp
def KU{g:Nat}{b:Option D}{cap:List (Option Nat)}{env:bp}(hc:lD cap env=[b,some (.int (g:Int))])(hl:es.length<=100):nk (ah 0) (ax (ar ib (ar aw (ab 0) (mC (.int 0))) (ab 1))) (ab 0) cap env (es.map En.d,S)=some (.lst ((es.filter fun e=>decide (e.g≠g)).map En.d),S):=by
 exact fL (S:=S) (t:=ax (ar ib (ar aw (ab 0) (mC (.int 0))) (ab 1))) (e:=ab 0) (cap:=cap) (env:=env) (rest:=[some (.int (g:Int))]) (a:=b) (enc:=En.d) (p:=fun e=>decide (e.g≠g)) (f:=En.d) (xs:=es) hc (by omega) (fun x _=>by
  have:(!((x.g:Int) == (g:Int)))=decide (x.g≠g):=by rw [Xs];simp;omega
  simp [En.ix0,-beq_iff_eq,this]) (fun x _ _=>by simp)
def Nj{S:ac}{l:List Ev}:aP (cw .tup) [.ref S.length] (S++[.lst (l.map Ev.d)])=some (cI l,S++[.lst (l.map Ev.d)]):=xS ge
def VA{S:ac}{l:List Ev}{v:Ev}(h:l.length<=500):aT (S++[.lst (l.map Ev.d)]) (.ref S.length) (.lst [v.d])=some (.lst ((l++[v]).map Ev.d)):=by
 rw [GR (xs:=l.map Ev.d) (ys:=[v.d]) rfl (by simp only [rV,ge]) rfl (by simp;omega)];simp
def GS{S:ac}{k l:List Ev}(h:l.length<=500)(h':k.length<=400):aT (S++[.lst (l.map Ev.d)]) (.lst (k.map Ev.d)) (.ref S.length)=some (.lst ((k++l).map Ev.d)):=by
 rw [GR (xs:=k.map Ev.d) (ys:=l.map Ev.d) rfl rfl (by simp only [rV,ge]) (by simp;omega)];simp
def Jg{g:Nat}:rp S (.int (g:Int)) (.lst (es.map fun e=>.int (e.g:Int)))=some (.bl (!bA es g)):=by
 have h:=Nd (S:=S) (es:=es) (g:=g)
 have ok:(es.map fun e=>D.int (e.g:Int)).all (cY 39)=true:=by rw [Xd];intro d hd;obtain⟨e,_,rfl⟩:=Xk.mp hd;rfl
 rw [je (ys:=es.map fun e=>D.int (e.g:Int)) rfl rfl ok] at h
 rw [Jf (ys:=es.map fun e=>D.int (e.g:Int)) rfl rfl ok]
 simp only [Yf,D.bl.injEq] at h
 rw [h]
def JY{settled:PF}(O:oz settled){N:List Str}(hN:N.length=8){wr:Bool}{g:Nat}{t:Option Int}(h:ROk R)(hl:R.1.length<=50)(hw:R.1[g]?=some .out)(hs:bA R.2 g=false) :
  ∃ T,aQ N (uK settled) 3 [r.d,aW R,(Dd.ask wr g t).d] S=some (.tup [aW (sR r R wr g t).1,cI (sR r R wr g t).2],S++T):=by
 have hst:aC N [r.d,aW R,(Dd.ask wr g t).d]=[some r.d,some (aW R),some (Dd.ask wr g t).d,none,none,none,none,none]:=by simp [aC,hN,List.replicate]
 rw [ba (show [r.d,aW R,(Dd.ask wr g t).d].length=3 from rfl),hst]
 have hA:=At (wr:=wr) (t:=t) h hw hs
 have hO:=O S r (R.1,R.2++[mD wr g t]) hA hl
 obtain⟨q1,q2⟩:=dQ (r:=r) hA
 have qf:(aZ r (R.1,R.2++[mD wr g t])).2.length<=100:=Xl (nV _) (by show 2 * R.1.length<=100;omega)
 have ql:(aZ r (R.1,R.2++[mD wr g t])).1.2.length<=50:=Xl q1.len (by rw [q2];exact hl)
 unfold sR
 generalize hE:aZ r (R.1,R.2++[mD wr g t])=A at *
 obtain⟨R',evs⟩:=A
 dsimp only at *
 have k2:∀ S (x y:D),ca ([x,y],S)=some (.tup [x,y],S):=fun S x y=>aR (by simp)
 have k1:∀ S (x:D),ca ([x],S)=some (.tup [x],S):=fun S x=>aR (by simp)
 have l1:∀ S (x:D),oE ([x],S)=some (.lst [x],S):=fun S x=>eO (by simp)
 have k4:∀ S (x y z w:D),ca ([x,y,z,w],S)=some (.tup [x,y,z,w],S):=fun S x y z w=>aR (by simp)
 have g3:∀ env S,aE 3 (af (ah 3) (af (ah 4) (af (ah 5) (aB)))) (Dd.ask wr g t).d env S=(af (ah 3) (af (ah 4) (af (ah 5) (aB)))) [.str (bo wr),.int (g:Int),bP t] env S:=fun env S=>mq
 have kif:∀ env:bp,kIf (mC (.int 1)) (ab 5) [some r.d,some (aW R),some (Dd.ask wr g t).d,some (.str (bo wr)),some (.int (g:Int)),some (bP t),none,none] (decide (t=some 0),S)=some (bP (if t=some 0 then some 1 else t),S):=fun env=>by
  by_cases ht:t=some 0
  ·simp [ht];rfl
  ·simp [ht]
 have ad:∀ S,aT S (cr R.2) (.tup [.tup [.int (g:Int),.str (bo wr),.int 0,bP (if t=some 0 then some 1 else t)]])=some (cr (R.2++[mD wr g t])):=fun S=>by
  have:=h.len
  rw [show cr R.2=.tup (R.2.map En.d) from rfl,gY (by simp;omega)]
  unfold cr;rw [Xy];rfl
 have hO':settled [r.d,.tup [cL R.1,cr (R.2++[mD wr g t])]] S=some (.tup [aW R',.ref S.length],S++[.lst (evs.map Ev.d)]):=hO
 have gs:∀ (T:ac) (a6:Option D),Wv [some r.d,some (aW R'),some (Dd.ask wr g t).d,some (.str (bo wr)),some (.int (g:Int)),some (bP t),a6,some (.ref S.length)] T=some (.lst (R'.2.map fun e=>.int (e.g:Int)),T):=fun T a6=>by
  simp only [Wv,bW,dr,aG,ak,bD,bJ,bI,oj,ob,aj,av,bf,au,Rm.ix1,eQ,gsC (es:=R'.2) (cap:=[none]) (env:=[some r.d,some (aW R'),some (Dd.ask wr g t).d,some (.str (bo wr)),some (.int (g:Int)),some (bP t),a6,some (.ref S.length)]) rfl (by omega)]
 have rs:∀ (T:ac) (a6:Option D),FN [some r.d,some (aW R'),some (Dd.ask wr g t).d,some (.str (bo wr)),some (.int (g:Int)),some (bP t),a6,some (.ref S.length)] T=some (.lst ((R'.2.filter fun e=>decide (e.g≠g)).map En.d),T):=fun T a6=>by
  simp only [FN,bW,dr,aG,ak,bD,bJ,bI,oj,ob,aj,av,bf,au,Rm.ix1,eQ,KU (es:=R'.2) (g:=g) (cap:=[none,some 4]) (env:=[some r.d,some (aW R'),some (Dd.ask wr g t).d,some (.str (bo wr)),some (.int (g:Int)),some (bP t),a6,some (.ref S.length)]) rfl (by omega)]
 have no:∀ w:Str,aT (S++[.lst (evs.map Ev.d)]) (.ref S.length) (.lst [.tup [.str w,.int (g:Int)]])=some (.lst ((evs++[Ev.mk w g]).map Ev.d)):=fun w=>VA (v:=⟨w,g⟩) (by omega)
 refine⟨[.lst (evs.map Ev.d)],?_⟩
 simp only [uK,aS,bh,ak,bD,bJ,bI,oj,ob,aj,bi,g3,bg,aO,cy,bB,dR,ej,bK,aD,be,aq,am,bf,mK,aH,aG,av,au,jZ,aF,kif [],az,al,k4,aK,Rm.ix0,Rm.ix1,k1,ad,k2,bj,hO',bX,bm,gs,Jg]
 cases hb:bA R'.2 g with
 | false=>simp only [Xz,bR,aX,be,aq,ak,bD,bJ,bI,oj,ob,aj,am,bS,az,al,bT,Nj,k2,bq,bQ,aJ,Xc]
 | true=>
  simp only [Xt,bM,bw,ob,aD,reduceCtorEq,if_neg,not_false_eq_true]
  by_cases ht:t=some 0
  ·have fe:∀ S,bY S (bP t) (.int 0)=some (.bl true):=fun S=>by rw [jZ,WU ht]
   simp only [Xc ht,aS,bm,aH,fe,aF,bR,aX,be,aq,ak,bD,bJ,bI,oj,ob,aj,am,aG,av,bf,au,Rm.ix0,bS,rs,az,al,bT,eg,k2,jM,l1,no,bq,bQ,aJ]
   rfl
  ·have fe:∀ S,bY S (bP t) (.int 0)=some (.bl false):=fun S=>by rw [jZ,WV ht]
   simp only [if_neg ht,aS,bm,aH,fe,aF,bM,bw,ob,aD,aX,be,aq,ak,bD,bJ,bI,oj,aj,am,aG,av,bf,au,bS,az,al,bT,eg,k2,jM,l1,no,bq,aJ]
   rfl
end
structure WF(can asked settled marked put:PF):Prop where
 c:∀ (S:ac) (R:Rm) (dd:Dd),R.2.length<=60->dd.Ok R.1.length->∃ T,can [aW R,dd.d] S=some (.bl (iB R dd),S++T)
 a:∀ (S:ac) (r:Rl) (R:Rm) (wr:Bool) (g:Nat) (t:Option Int),ROk R->R.1.length<=50->R.1[g]?=some .out->bA R.2 g=false->∃ T,asked [r.d,aW R,(Dd.ask wr g t).d] S=some (.tup [aW (sR r R wr g t).1,cI (sR r R wr g t).2],S++T)
 s:oz settled
 m:∀ (S:ac) (r:Rl) (w:Wd) (es:List En),es.length<=60->marked [r.d,w.d,cr es] S=some (cr (um r w es),S)
 p:∀ (S:ac) (ws:List Wd) (i:Nat) (w:Wd),i<ws.length->ws.length<=100->put [cL ws,.int (i:Int),w.d] S=some (cL (ws.set i w),S)
section
variable{S:ac}{ws:List Wd}{es:List En}{r:Rl}{R:Rm}
def VR{e:En}:(ar aT (bt (ab 0) (bu) (bU (mC (.int 3)))) (aM (aa (lL (ax (ar wA (ar aw (ab 0) (mC (.int 3))) (mC .non))) (mC .non) (ar oH (ar aw (ab 0) (mC (.int 3))) (mC (.int 1)))) (ai)))) [some e.d] S=some ((gG e).d,S):=by
 have c1:jd e.d none (some 3,S)=some (.tup [.int (e.g:Nat),.str (bo e.wr),.int e.m],S):=rfl
 have k1:∀ x,ca ([x],S)=some (.tup [x],S):=fun x=>aR (by simp)
 have a2:∀ x y z w,aT S (.tup [x,y,z]) (.tup [w])=some (.tup [x,y,z,w]):=fun x y z w=>gY (by simp)
 have cu:∀ a b c d:D,fO [a,b,c,d] none (some 3)=[a,b,c]:=fun _ _ _ _=>rfl
 obtain⟨g,wr,m,t⟩:=e
 cases t with
 | none=>simp [at4,cu,bP,nq,k1,a2,gG,En.d]
 | some k=>simp [at4,cu,bP,nq,k1,a2,gG,En.d]
def Jz{settled:PF}(O:oz settled){a2 a5 a6 a7 a8 a9 b0 b1 b2 b3:Option D}(h:ROk R)(hl:R.1.length<=50) :
  ∃ T,(vx settled [some r.d,some (aW R),a2,some (cL R.1),some (cr R.2),a5,a6,a7,a8,a9,b0,b1,b2,b3] S).bind PC=some (.tup [aW (oK r R).1,cI (oK r R).2],S++T)/\vx settled [some r.d,some (aW R),a2,some (cL R.1),some (cr R.2),a5,a6,a7,a8,a9,b0,b1,b2,b3] S=some (.rt (.tup [aW (oK r R).1,cI (oK r R).2]) (S++T)):=by
 have hle:=h.len
 have f1:Aj [some r.d,some (aW R),a2,some (cL R.1),some (cr R.2),a5,a6,a7,a8,a9,b0,b1,b2,b3] S=some (.lst ((R.2.map gG).map En.d),S):=by
  have k:=fL (S:=S) (t:=bH) (e:=ar aT (bt (ab 0) (bu) (bU (mC (.int 3)))) (aM (aa (lL (ax (ar wA (ar aw (ab 0) (mC (.int 3))) (mC .non))) (mC .non) (ar oH (ar aw (ab 0) (mC (.int 3))) (mC (.int 1)))) (ai)))) (cap:=[none]) (env:=[some r.d,some (aW R),a2,some (cL R.1),some (cr R.2),a5,a6,a7,a8,a9,b0,b1,b2,b3]) (rest:=[]) (a:=none) (enc:=En.d) (p:=fun _=>true) (f:=fun e=>(gG e).d) (xs:=R.2) rfl (by omega) (fun x _=>gM) (fun x _ _=>VR)
  rw [XZ.mpr (fun _ _=>rfl)] at k
  simp only [Aj,bW,dr,ak,bD,bJ,bI,oj,ob,aj,eQ,k,XC]
  rfl
 generalize hF:R.2.map gG=fs at f1
 have hfl:fs.length<=50:=by rw [<- hF,WM];omega
 have k2:∀ S (x y:D),ca ([x,y],S)=some (.tup [x,y],S):=fun S x y=>aR (by simp)
 have f2:FC [some r.d,some (aW R),a2,some (cL R.1),some (cr R.2),some (.lst (fs.map En.d)),a6,a7,a8,a9,b0,b1,b2,b3] S=some (.lst (((fs.filter fun e=>decide (e.t=some 0)).map fun e=>Ev.mk "ends" e.g).map Ev.d),S):=by
  have k:=fL (S:=S) (t:=ax (ar bY (ar aw (ab 0) (mC (.int 3))) (mC (.int 0)))) (e:=aM (aa (mC (.str "ends")) (aa (ar aw (ab 0) (mC (.int 0))) (ai)))) (cap:=[none]) (env:=[some r.d,some (aW R),a2,some (cL R.1),some (cr R.2),some (.lst (fs.map En.d)),a6,a7,a8,a9,b0,b1,b2,b3]) (rest:=[]) (a:=none) (enc:=En.d) (p:=fun e=>decide (e.t=some 0)) (f:=fun e=>(Ev.mk "ends" e.g).d) (xs:=fs) rfl (by omega) (fun x _=>by simp [En.ix3,jZ]) (fun x _ _=>by simp [En.ix0,k2,Ev.d])
  simp only [FC,bW,dr,ak,bD,bJ,bI,oj,ob,aj,uO,k,XC]
  rfl
 have f3:∀ a6,FA [some r.d,some (aW R),a2,some (cL R.1),some (cr R.2),some (.lst (fs.map En.d)),a6,a7,a8,a9,b0,b1,b2,b3] S=some (.lst ((fs.filter fun e=>decide (e.t≠some 0)).map En.d),S):=fun a6=>by
  have k:=fL (S:=S) (t:=ax (ar ib (ar aw (ab 0) (mC (.int 3))) (mC (.int 0)))) (e:=ab 0) (cap:=[none]) (env:=[some r.d,some (aW R),a2,some (cL R.1),some (cr R.2),some (.lst (fs.map En.d)),a6,a7,a8,a9,b0,b1,b2,b3]) (rest:=[]) (a:=none) (enc:=En.d) (p:=fun e=>decide (e.t≠some 0)) (f:=En.d) (xs:=fs) rfl (by omega) (fun x _=>by simp [En.ix3,CQ]) (fun x _ _=>by simp)
  simp only [FA,bW,dr,ak,bD,bJ,bI,oj,ob,aj,uO,k]
 have hA:ROk (R.1,fs.filter fun e=>decide (e.t≠some 0)):=by rw [<- hF];exact ROk.filter (ROk.mapE h gG fun e=>rfl) _
 have hO:=O S r (R.1,fs.filter fun e=>decide (e.t≠some 0)) hA hl
 have qf:(aZ r (R.1,fs.filter fun e=>decide (e.t≠some 0))).2.length<=100:=Xl (nV _) (by show 2 * R.1.length<=100;omega)
 unfold oK
 rw [hF]
 generalize hE:aZ r (R.1,fs.filter fun e=>decide (e.t≠some 0))=A at *
 obtain⟨R',evs⟩:=A
 dsimp only at *
 have hO':settled [r.d,.tup [cL R.1,.tup ((fs.filter fun e=>decide (e.t≠some 0)).map En.d)]] S=some (.tup [aW R',.ref S.length],S++[.lst (evs.map Ev.d)]):=hO
 have ad:=GS (S:=S) (k:=(fs.filter fun e=>decide (e.t=some 0)).map fun e=>Ev.mk "ends" e.g) (l:=evs) (by omega) (by rw [WM];exact Xl (XR _ _) (by omega))
 have key:vx settled [some r.d,some (aW R),a2,some (cL R.1),some (cr R.2),a5,a6,a7,a8,a9,b0,b1,b2,b3] S=some (.rt (.tup [aW R',cI (((fs.filter fun e=>decide (e.t=some 0)).map fun e=>Ev.mk "ends" e.g)++evs)]) (S++[.lst (evs.map Ev.d)])):=by
  simp only [vx,aS,bh,f1,ob,bi,aO,dR,ej,bK,aD,f2,aK,aq,ak,bD,bJ,bI,oj,aj,am,be,bS,f3,az,al,bT,eg,k2,bj,hO',bX,bg,cy,bB,aX,aG,av,au,ad,bq]
  rfl
 exact⟨[.lst (evs.map Ev.d)],by rw [key,ob,aJ],key⟩
def GQ{xs:List D}{k:Int}(h0:0<=k)(h1:k<=100000)(h:xs.length * k.toNat<=1000):cC S (.lst xs) (.int k)=some (.lst (List.replicate k.toNat xs).flatten):=Xc ⟨by omega,by omega,sz h⟩
def Na{x:D}{b:Bool}:cC S (.lst [x]) (.int (if b=true then 1 else 0))=some (.lst (if b=true then [x] else [])):=by
 cases b
 ·exact GQ (by decide) (by decide) (by simp)
 ·exact GQ (by decide) (by decide) (by simp)
def akS(k j:Ak):(k.s == j.s)=decide (k=j):=by cases k <;> cases j <;> decide +kernel
def Aa{k j:Ak}:bY S (.str k.s) (.str j.s)=some (.bl (decide (k=j))):=by rw [cH,akS]
def FD{k:Ak}{g:Nat}{a0 a1 a2 a3 a4 a5 a6 a7 b0 b1 b2 b3:Option D}:Ai [a0,a1,a2,a3,a4,a5,a6,a7,some (.str k.s),some (.int (g:Int)),b0,b1,b2,b3] S=some (.lst ((gf k g).map Ev.d),S):=by
 have e1:bY S (.str k.s) (.str "stop")=some (.bl (decide (k=.stop))):=Aa (j:=.stop)
 have e2:bY S (.str k.s) (.str "down")=some (.bl (decide (k=.down))):=Aa (j:=.down)
 have e3:ib S (.str k.s) (.str "up")=some (.bl (!decide (k=.up))):=by rw [rq];exact congrArg (fun b=>some (D.bl (!b))) (akS k .up)
 have k2:∀ S (x y:D),ca ([x,y],S)=some (.tup [x,y],S):=fun S x y=>aR (by simp)
 have l1:∀ S (x:D),oE ([x],S)=some (.lst [x],S):=fun S x=>eO (by simp)
 cases k <;> simp only [Ai,aG,jM,aq,be,mK,aH,ak,bD,bJ,bI,oj,ob,aj,av,bf,au,e1,e2,e3,aF,reduceCtorEq,YI,Yl,xz,Cp,am,az,al,k2,l1,bS,bT,oi,Na,gf] <;> rfl
def Fy{k:Ak}{w:Wd}{a0 a1 a2 a3 a4 a5 a6 a7 a9 b1 b2 b3:Option D}:Ah [a0,a1,a2,a3,a4,a5,a6,a7,some (.str k.s),a9,some w.d,b1,b2,b3] S=some ((gJ k w).d,S):=by
 have e1:bY S w.d (.str "rising")=some (.bl (decide (w=.rising))):=nC (b:=.rising)
 have l2:∀ S (x y:D),oE ([x,y],S)=some (.lst [x,y],S):=fun S x y=>eO (by simp)
 have ix:aw S (.lst [.str "out",.str "reads"]) (.int (if decide (w=.rising)=true then 1 else 0))=some (if w=.rising then Wd.reads else Wd.out).d:=by by_cases h:w=.rising <;> simp [h] <;> rfl
 have kd:∀ x,uP ([(.inr "up",.str "rising"),(.inr "down",.str "reads"),(.inr "leave",.str "out"),(.inr "stop",x)],S)=some (.dct ([((Sum.inr "up":bG),D.str "rising"),(.inr "down",.str "reads"),(.inr "leave",.str "out"),(.inr "stop",x)].map (·.1)) ([((Sum.inr "up":bG),D.str "rising"),(.inr "down",.str "reads"),(.inr "leave",.str "out"),(.inr "stop",x)].map (·.2)),S):=fun x=>Cr (show [(Sum.inr "up":bG),.inr "down",.inr "leave",.inr "stop"].Nodup by decide +kernel) (by show 4<=15;decide)
 have fx:∀ x,aw S (.dct ([((Sum.inr "up":bG),D.str "rising"),(.inr "down",.str "reads"),(.inr "leave",.str "out"),(.inr "stop",x)].map (·.1)) ([((Sum.inr "up":bG),D.str "rising"),(.inr "down",.str "reads"),(.inr "leave",.str "out"),(.inr "stop",x)].map (·.2))) (.str k.s)=some (match k with | .up=>.str "rising" | .down=>.str "reads" | .leave=>.str "out" | .stop=>x):=fun x=>by
  rw [fIx_d zM];cases k <;> simp (decide:=true) [Ak.s]
 simp only [Ah,aG,GB,mZ,bf,ob,EU,ET,jM,aq,am,az,al,l2,av,bS,ak,bD,bJ,bI,oj,aj,au,e1,bT,oi,ix,pv,ES,kd,fx]
 cases k <;> rfl
def JA{g:Nat}{R':Rm}{w:Wd}{a0 a2 a3 a4 a5 a6 a7 a8 b0 b1 b2 b3:Option D}(hw:R'.1[g]?=some w):Fz [a0,some (aW R'),a2,a3,a4,a5,a6,a7,a8,some (.int (g:Int)),b0,b1,b2,b3] S=some (.lst ((if w=.rising then [Ev.mk "waits" g] else []).map Ev.d),S):=by
 have k2:∀ S (x y:D),ca ([x,y],S)=some (.tup [x,y],S):=fun S x y=>aR (by simp)
 have l1:∀ S (x:D),oE ([x],S)=some (.lst [x],S):=fun S x=>eO (by simp)
 have x1:aw S (cL R'.1) (.int (g:Int))=some w.d:=wG hw
 have e1:bY S w.d (.str "rising")=some (.bl (decide (w=.rising))):=nC (b:=.rising)
 simp only [Fz,aG,jM,aq,be,bf,ob,am,ak,bD,bJ,bI,oj,aj,az,al,k2,l1,av,bS,au,Rm.ix0,x1,e1,bT,oi,Na]
 by_cases h:w=.rising <;> simp [h] <;> rfl
def JB{g:Nat}{a0 a1 a2 a3 a5 a6 a7 a8 b0 b1 b2 b3:Option D}(hl:es.length<=100):FB [a0,a1,a2,a3,some (cr es),a5,a6,a7,a8,some (.int (g:Int)),b0,b1,b2,b3] S=some (.lst ((es.filter fun e=>decide (e.g≠g)).map En.d),S):=by
 simp only [FB,bW,dr,ak,bD,bJ,bI,oj,ob,aj,eQ,KU (es:=es) (g:=g) (cap:=[none,some 9]) (env:=[a0,a1,a2,a3,some (cr es),a5,a6,a7,a8,some (.int (g:Int)),b0,b1,b2,b3]) rfl hl]
def Vz{k:Ak}:kz S (.str k.s) (.tup [.str "down",.str "leave"])=some (.bl (decide (k=.down\/k=.leave))):=by
 have h:([D.str "down",D.str "leave"].any fun d=>jm d (.str k.s))=decide (k=.down\/k=.leave):=by cases k <;> decide +kernel
 rw [je (ys:=[.str "down",.str "leave"]) rfl rfl rfl,h]
def Qb{w:Wd}:(um r w es).length=es.length:=by unfold um;split <;> simp
def NR{can asked settled marked put:PF}(O:WF can asked settled marked put){k:Ak}{g:Nat}{w:Wd}{a2 a5 a6 a7 b0 b1 b2 b3:Option D}(h:ROk R)(hl:R.1.length<=50)(hw:R.1[g]?=some w) :
  ∃ T,NS settled marked put [some r.d,some (aW R),a2,some (cL R.1),some (cr R.2),a5,a6,a7,some (.str k.s),some (.int (g:Int)),b0,b1,b2,b3] S=some (.rt (.tup [aW (mN r R k g w).1,cI (mN r R k g w).2]) (S++T)):=by
 have hle:=h.len
 have hg:g<R.1.length:=(WJ.mp hw).1
 have x1:∀ S,aw S (cL R.1) (.int (g:Int))=some w.d:=fun S=>wG hw
 have k2:∀ S (x y:D),ca ([x,y],S)=some (.tup [x,y],S):=fun S x y=>aR (by simp)
 have mk:∀ env S,env=[some r.d,some (aW R),a2,some (cL R.1),some (cr R.2),a5,a6,a7,some (.str k.s),some (.int (g:Int)),some w.d,some (.lst ((gf k g).map Ev.d)),b2,b3]->bC (ax (ar kz (ab 8) (aM (aa (mC (.str "down")) (aa (mC (.str "leave")) (ai)))))) (aI (ao 3 marked (aa (ab 0) (aa (ab 10) (aa (ab 4) (ai))))) (ah 4)) (aY) env S=some (.nx [some r.d,some (aW R),a2,some (cL R.1),some (cr (if k=.down\/k=.leave then um r w R.2 else R.2)),a5,a6,a7,some (.str k.s),some (.int (g:Int)),some w.d,some (.lst ((gf k g).map Ev.d)),b2,b3] S):=fun env S he=>by
  subst he
  simp only [bm,aH,aG,ak,bD,bJ,bI,oj,ob,aj,av,be,aq,bf,am,az,al,k2,au,Vz,aF]
  by_cases hk:k=.down\/k=.leave
  ·rw [WU hk,Xc hk]
   simp only [bR,bh,aK,aq,ak,bD,bJ,bI,oj,ob,aj,am,az,al,bL,O.m S r w R.2 (by omega),bi,aO,dR,ej,bK]
  ·rw [WV hk,if_neg hk]
   simp only [bM,bw]
 have hel:(if k=.down\/k=.leave then um r w R.2 else R.2).length<=100:=by split <;> (try rw [Qb]) <;> omega
 have hA:=Ax (r:=r) (k:=k) (w:=w) (g:=g) h (gJ k w)
 have hO:=O.s S r (R.1.set g (gJ k w),rK r k w g R.2) hA (by simp;exact hl)
 obtain⟨q1,q2⟩:=dQ (r:=r) hA
 have qf:(aZ r (R.1.set g (gJ k w),rK r k w g R.2)).2.length<=100:=Xl (nV _) (by show 2 * (R.1.set g (gJ k w)).length<=100;rw [Zc];omega)
 have pp:∀ S,put [cL R.1,.int (g:Int),(gJ k w).d] S=some (cL (R.1.set g (gJ k w)),S):=fun S=>O.p S R.1 g _ hg (by omega)
 unfold mN
 generalize hE:aZ r (R.1.set g (gJ k w),rK r k w g R.2)=A at *
 obtain⟨R',evs⟩:=A
 dsimp only at *
 have hg':g<R'.1.length:=by rw [q2,Zc];exact hg
 have hw':R'.1[g]?=some R'.1[g]:=WS hg'
 have hO':settled [r.d,.tup [cL (R.1.set g (gJ k w)),.tup (((if k=.down\/k=.leave then um r w R.2 else R.2).filter fun e=>decide (e.g≠g)).map En.d)]] S=some (.tup [aW R',.ref S.length],S++[.lst (evs.map Ev.d)]):=hO
 have fl:(gf k g).length<=1:=by cases k <;> simp [gf]
 have ad:=GS (S:=S) (k:=gf k g) (l:=evs) (by omega) (by omega)
 have ad2:aT (S++[.lst (evs.map Ev.d)]) (.lst ((gf k g++evs).map Ev.d)) (.lst ((if R'.1[g]=.rising then [Ev.mk "waits" g] else []).map Ev.d))=some (.lst ((gf k g++evs++(if R'.1[g]=.rising then [Ev.mk "waits" g] else [])).map Ev.d)):=by
  rw [Fj (by rw [WM,WM,WX];split <;> simp <;> omega),<- Xy]
 refine⟨[.lst (evs.map Ev.d)],?_⟩
 rw [hw']
 simp only [NS,aS,bh,aG,ak,bD,bJ,bI,oj,ob,aj,av,au,x1,bi,aO,dR,ej,bK,aD,FD,mk _ _ rfl,bS,aq,JB hel,am,az,al,bT,eg,Fy,aK,be,bL,pp,k2,bj,hO',bX,bg,cy,bB,JA hw',aX,ad,ad2,bq,Yf]
 rfl
def wU{S:ac}:kz S (.str "rising") (cL ws)=some (.bl (decide (Wd.rising∈ws))):=by
 rw [je (ys:=ws.map Wd.d) rfl rfl Uo]
 congr 2
 rw [Zi]
 induction ws with
 | nil=>rfl
 | cons a l ih=>
  rw [XD,ih]
  show (jm a.d (Wd.rising).d||_)=_
  rw [VD,Xs]
  simp
  constructor
  ·rintro(h | h)
   ·exact .inl h.symm
   ·exact .inr h
  ·rintro(h | h)
   ·exact .inl h.symm
   ·exact .inr h
def Df{dd:Dd}(h:dd≠.tick):(cK dd == ("tick":Str))=false:=by
 cases dd with
 | tick=>exact absurd rfl h
 | ask wr g t=>show (bo wr == ("tick":Str))=false;cases wr <;> decide +kernel
 | act k g=>show (k.s == ("tick":Str))=false;cases k <;> decide +kernel
def zZ{x:Str}{b:Bool}(hb:([D.str "read",D.str "write"].any fun d=>jm d (.str x))=b):kz S (.str x) (.tup [.str "read",.str "write"])=some (.bl b):=by
 rw [je (ys:=[.str "read",.str "write"]) rfl rfl rfl,hb]
def qB:Option (Rm×List Ev)->D
 | none=>.non
 | some x=>.tup [aW x.1,cI x.2]
def NQ{can asked settled marked put:PF}(O:WF can asked settled marked put){N:List Str}(hN:N.length=14){dd:Dd}(h:ROk R)(hl:R.1.length<=50)(hd:dd.Ok R.1.length) :
  ∃ T,aQ N (kG can asked settled marked put) 3 [r.d,aW R,dd.d] S=some (qB (fI r R dd),S++T):=by
 have hst:aC N [r.d,aW R,dd.d]=[some r.d,some (aW R),some dd.d,none,none,none,none,none,none,none,none,none,none,none]:=by simp [aC,hN,List.replicate]
 rw [ba (show [r.d,aW R,dd.d].length=3 from rfl),hst]
 have hle:=h.len
 obtain⟨T0,hc⟩:=O.c S R dd (by omega) hd
 have g2:∀ env S,aE 2 (af (ah 3) (af (ah 4) (aB))) (aW R) env S=(af (ah 3) (af (ah 4) (aB))) [cL R.1,cr R.2] env S:=fun env S=>bX
 have k2:∀ S (x y:D),ca ([x,y],S)=some (.tup [x,y],S):=fun S x y=>aR (by simp)
 have k1:∀ S (x:D),ca ([x],S)=some (.tup [x],S):=fun S x=>aR (by simp)
 unfold fI
 cases hb:iB R dd with
 | false=>
  rw [hb] at hc
  refine⟨T0,?_⟩
  simp only [kG,aS,bm,jq,dW,aK,aq,ak,bD,bJ,bI,oj,ob,aj,am,az,al,bj,hc,fM,jv,Xz,bR,aX,bf,bq,bQ,aJ,Xc,qB]
 | true=>
  rw [hb] at hc
  rw [if_neg (by decide)]
  by_cases ht:dd=.tick
  ·subst ht
   have xt:∀ S,aw S (Dd.tick).d (.int 0)=some (.str "tick"):=fun S=>rfl
   have et:∀ S,bY S (.str "tick") (.str "tick")=some (.bl true):=fun S=>by rw [cH,beq_self_eq_true]
   obtain⟨T,_,e⟩:=Jz O.s (S:=S++T0) (r:=r) (R:=R) (a2:=some (Dd.tick).d) (a5:=none) (a6:=none) (a7:=none) (a8:=none) (a9:=none) (b0:=none) (b1:=none) (b2:=none) (b3:=none) h hl
   refine⟨T0++T,?_⟩
   simp only [kG,aS,bm,jq,dW,aK,aq,ak,bD,bJ,bI,oj,ob,aj,am,az,al,bj,hc,fM,jv,Xt,bM,bw,aD,bh,bi,g2,bg,aO,cy,bB,dR,ej,bK,aH,aG,av,bf,au,xt,et,aF,bR,e,bQ,aJ,Xm,qB]
  ·have et0:=Df ht
   cases dd with
   | tick=>exact absurd rfl ht
   | ask wr g t=>
    have x0:∀ S,aw S (Dd.ask wr g t).d (.int 0)=some (.str (bo wr)):=fun S=>rfl
    have et:∀ S,bY S (.str (bo wr)) (.str "tick")=some (.bl false):=fun S=>by rw [cH];exact congrArg (fun b=>some (D.bl b)) et0
    have sl:∀ S,jd (Dd.ask wr g t).d none (some 2,S)=some (.tup [.str (bo wr),.int (g:Int)],S):=fun S=>rfl
    simp only [iB,WP,Ye,Bool.not_eq_true'] at hb
    obtain⟨T,e⟩:=O.a (S++T0) r R wr g t h hl hb.1 hb.2
    have fi:∀ S,kz S (.str (bo wr)) (.tup [.str "read",.str "write"])=some (.bl true):=fun S=>zZ (by cases wr <;> decide +kernel)
    refine⟨T0++T,?_⟩
    simp only [kG,aS,bm,jq,dW,aK,aq,ak,bD,bJ,bI,oj,ob,aj,am,az,al,bj,hc,fM,jv,Xt,bM,bw,aD,bh,bi,g2,bg,aO,cy,bB,dR,ej,bK,aH,aG,av,bf,au,x0,et,aF,cN,eV,cQ,eU,dA,dC,sl,bX,be,k2,fi,bR,aX,bL,e,bq,bQ,aJ,Xm,qB]
   | act k g=>
    have x0:∀ S,aw S (Dd.act k g).d (.int 0)=some (.str k.s):=fun S=>rfl
    have et:∀ S,bY S (.str k.s) (.str "tick")=some (.bl false):=fun S=>by rw [cH];exact congrArg (fun b=>some (D.bl b)) et0
    have sl:∀ S,jd (Dd.act k g).d none (some 2,S)=some (.tup [.str k.s,.int (g:Int)],S):=fun S=>rfl
    have fi:∀ S,kz S (.str k.s) (.tup [.str "read",.str "write"])=some (.bl false):=fun S=>zZ (by cases k <;> decide +kernel)
    have fu:∀ S,bY S (.str k.s) (.str "up")=some (.bl (decide (k=.up))):=fun S=>Aa (j:=.up)
    have fc:(r.c == 0)=decide (r.c=0):=rfl
    have hg:g<R.1.length:=hd
    have hw:R.1[g]?=some R.1[g]:=WS hg
    have ev1:D.tup [.tup [.str "no",.int (g:Int)]]=cI [⟨"no",g⟩]:=rfl
    obtain⟨T,e⟩:=NR O (S:=S++T0) (r:=r) (R:=R) (k:=k) (g:=g) (a2:=some (Dd.act k g).d) (a5:=none) (a6:=none) (a7:=none) (b0:=none) (b1:=none) (b2:=none) (b3:=none) h hl hw
    by_cases hu:k=.up/\(r.c=0\/Wd.rising∈R.1)
    ·refine⟨T0,?_⟩
     dsimp only
     rw [Xc hu]
     have hu1:=WU hu.1
     by_cases hz:r.c=0
     ·simp only [kG,aS,bm,jq,dW,aK,aq,ak,bD,bJ,bI,oj,ob,aj,am,az,al,bj,hc,fM,jv,Xt,bM,bw,aD,bh,bi,g2,bg,aO,cy,bB,dR,ej,bK,aH,aG,av,bf,au,x0,et,aF,cN,eV,cQ,eU,dA,dC,sl,bX,be,k2,fi,gO,fu,hu1,jx,jc,Rl.ix3,jf,fc,WU hz,zP,bR,aX,k1,bq,bQ,aJ,qB,ev1]
     ·have hr:Wd.rising∈R.1:=hu.2.resolve_left hz
      simp only [kG,aS,bm,jq,dW,aK,aq,ak,bD,bJ,bI,oj,ob,aj,am,az,al,bj,hc,fM,jv,Xt,bM,bw,aD,bh,bi,g2,bg,aO,cy,bB,dR,ej,bK,aH,aG,av,bf,au,x0,et,aF,cN,eV,cQ,eU,dA,dC,sl,bX,be,k2,fi,gO,fu,hu1,jx,jc,Rl.ix3,jf,fc,WV hz,mf,wU,WU hr,bR,aX,k1,bq,bQ,aJ,qB,ev1]
    ·refine⟨T0++T,?_⟩
     dsimp only
     rw [if_neg hu,hw]
     dsimp only
     have tst:∀ (T:ac) (a5 a6 a7 b0 b1 b2 b3:Option D),cF (ax (ar bY (ab 8) (mC (.str "up")))) (eL (ax (ar bY (ar aw (ab 0) (mC (.int 3))) (mC (.int 0)))) (ax (ar kz (mC (.str "rising")) (ab 3)))) [some r.d,some (aW R),some (Dd.act k g).d,some (cL R.1),some (cr R.2),a5,a6,a7,some (.str k.s),some (.int (g:Int)),b0,b1,b2,b3] T=some (false,T):=fun T a5 a6 a7 b0 b1 b2 b3=>by
      simp only [gO,aH,aG,ak,bD,bJ,bI,oj,ob,aj,av,bf,au,fu,aF]
      by_cases hk:k=.up
      ·have hz:¬ r.c=0:=fun z=>hu ⟨hk,.inl z⟩
       have hr:¬ Wd.rising∈R.1:=fun z=>hu ⟨hk,.inr z⟩
       rw [WU hk]
       simp only [jx,jc,aH,aG,ak,bD,bJ,bI,oj,ob,aj,av,bf,au,Rl.ix3,jf,fc,WV hz,aF,mf,wU,WV hr]
      ·rw [WV hk,mj]
     simp only [kG,aS,bm,jq,dW,aK,aq,ak,bD,bJ,bI,oj,ob,aj,am,az,al,bj,hc,fM,jv,Xt,bM,bw,aD,bh,bi,g2,bg,aO,cy,bB,dR,ej,bK,aH,aG,av,bf,au,x0,et,aF,cN,eV,cQ,eU,dA,dC,sl,bX,be,k2,fi,tst,e,aJ,Xm,qB]
end
def Grow(r:Nat)(S S':ac):Prop:=S.length<=S'.length/\∀ j,j<S.length->j≠r->S'[j]?=S[j]?
def Grow.of{r:Nat}{S S':ac}(h:Keep r S S'):Grow r S S':=⟨ZP h.2.symm,fun j _ hj=>h.1 j hj⟩
def Grow.trans{r:Nat}{S S' S'':ac}(h:Grow r S S')(h':Grow r S' S''):Grow r S S'':=⟨Xl h.1 h'.1,fun j hj hr=>(h'.2 j (Xi hj h.1) hr).trans (h.2 j hj hr)⟩
def Pk.appT{S T:ac}{r:Nat}(h:Pk S r):Pk (S++T) r:=by
 obtain⟨a,b,d,h,z⟩:=h
 exact⟨a,b,d,by rw [WZ (WJ.mp h).1];exact h,z⟩
def Pk.lt{S:ac}{r:Nat}(h:Pk S r):r<S.length:=by
 obtain⟨a,b,d,h,z⟩:=h
 exact(WJ.mp h).1
structure Formed(R:Rm):Prop where
 ok:ROk R
 m0:∀ e∈R.2,0<=e.m/\e.m<=999
 t1:∀ e∈R.2,∀ k,e.t=some k->1<=k/\k<=9
def vk{α:Type}{x:α}:∀ n:Nat,(List.replicate n [x]).flatten=List.replicate n x
 | 0=>rfl
 | n+1=>by rw [Xo,XT,vk n,Xo];rfl
def yH(deed done:PF):MS:=ay (aI (ao 2 deed (aa (ab 0) (aa (ab 2) (ai)))) (ah 7)) (ay (aI (ao 3 done (aa (ab 1) (aa (ab 4) (aa (ab 7) (ai))))) (ah 8)) (bC (ax (ar nA (ab 8) (mC .non))) (ay (db (di cX (ab 5) (aa (ab 7) (ai)))) (aI (ar aw (ab 8) (mC (.int 0))) (ah 4))) (aY)))
def EO(deed done:PF):MS:=
 ay (aI (aM (aa (ar cC (aM (aa (mC (.str "out")) (ai))) (ab 2)) (aa (aM (ai)) (ai)))) (ah 4)) (ay (aI (dj (ai)) (ah 5)) (ay (ia (bZ (aa (ab 3) (ai))) (ah 6) (yH deed done)) (aV (aM (aa (bd (aP (cw .tup)) (aa (ab 5) (ai))) (aa (ab 4) (ai)))))))
structure SL(deed done:PF):Prop where
 de:∀ (S:ac) (r n:Nat),Pk S r->1<=n->n<=5->∃ (dd:Dd) (S':ac),deed [.ref r,.int (n:Int)] S=some (dd.d,S')/\dd.Ok n/\Pk S' r/\Keep r S S'
 dn:∀ (S:ac) (rl:Rl) (R:Rm) (dd:Dd),ROk R->R.1.length<=50->dd.Ok R.1.length->∃ T,done [rl.d,aW R,dd.d] S=some (qB (fI rl R dd),S++T)
def bN(n:Nat):Rm:=(List.replicate n .out,[])
def lB{n:Nat}:ROk (bN n):=⟨fun e h=>by simp [bN] at h,by simp [bN]⟩
inductive Behind(r:Rl)(n:Nat):List Dd->Rm->Prop
 | nil:Behind r n [] (bN n)
 | snoc {l:List Dd} {R:Rm} {d:Dd} {x:Rm×List Ev} (h:Behind r n l R) (hd:d.Ok n) (e:fI r R d=some x):Behind r n (l++[d]) x.1
def Behind.ok{r:Rl}{n:Nat}{l:List Dd}{R:Rm}(h:Behind r n l R):ROk R/\R.1.length=n:=by
 induction h with
 | nil=>exact⟨lB,by simp [bN]⟩
 | snoc h hd e ih=>obtain⟨a,b⟩:=iN ih.1 e;exact⟨a,b.trans ih.2⟩
def OY{deed done:PF}(O:SL deed done){S:ac}{r n m:Nat}{rl:Rl}{N:List Str}(hN:N.length=9)(P:Pk S r)(h1:1<=n)(h5:n<=5)(hm:m<=400) :
  ∃ (l:List Dd) (R:Rm) (S':ac),aQ N (EO deed done) 4 [.ref r,rl.d,.int (n:Int),.int (m:Int)] S=some (.tup [.tup (l.map Dd.d),aW R],S')/\Behind rl n l R/\l.length<=m/\Pk S' r/\Grow r S S':=by
 have hst:aC N [D.ref r,rl.d,D.int (n:Int),D.int (m:Int)]=[some (.ref r),some rl.d,some (.int (n:Int)),some (.int (m:Int)),none,none,none,none,none]:=by simp [aC,hN,List.replicate]
 rw [ba (show [D.ref r,rl.d,D.int (n:Int),D.int (m:Int)].length=4 from rfl),hst]
 have hq:S.length≠r:=fun z=>by have:=P.lt;omega
 have k1:∀ S (x:D),ca ([x],S)=some (.tup [x],S):=fun S x=>aR (by simp)
 have k0:∀ S,ca ([],S)=some (.tup [],S):=fun S=>aR (by simp)
 have k2:∀ S (x y:D),ca ([x,y],S)=some (.tup [x,y],S):=fun S x y=>aR (by simp)
 have kl:qj ([],S)=some (.ref S.length,S++[.lst []]):=jN (by simp)
 have mu:∀ S,cC S (.tup [.str "out"]) (.int (n:Int))=some (cL (bN n).1):=fun S=>by
  rw [GP (by omega) (by omega) (by simp;omega),Xv]
  show some (D.tup _)=some (D.tup ((List.replicate n Wd.out).map Wd.d))
  congr 2
  rw [List.map_replicate,vk];rfl
 have kr:∀ S,Qh ([.int (m:Int)],S)=some (cD 0 m,S):=fun S=>by rw [pC (by omega) (by omega),Xv]
 obtain⟨env',S',e2,R,l,o6,o7,o8,rfl,P3,hc,B,hle,hz,fr⟩:=forR (tg:=ah 6) (p:=yH deed done) (lo:=0) (fun i env T=>∃ (R:Rm) (l:List Dd) (o6 o7 o8:Option D),env=[some (.ref r),some rl.d,some (.int (n:Int)),some (.int (m:Int)),some (aW R),some (.ref S.length),o6,o7,o8]/\Pk T r/\T[S.length]?=some (.lst (l.map Dd.d))/\Behind rl n l R/\l.length<=i/\S.length<=T.length/\∀ j,j≠r->j<S.length->T[j]?=S[j]?) m
  (fun i hi env T hI=>by
   obtain⟨R,l,o6,o7,o8,rfl,P,hc,B,hle,hz,fr⟩:=hI
   obtain⟨ok,hn⟩:=B.ok
   obtain⟨dd,S1,e1,od,P1,K1⟩:=O.de T r n P h1 h5
   obtain⟨T2,e3⟩:=O.dn S1 rl R dd ok (by omega) (by rw [hn];exact od)
   have hql:S.length<T.length:=(WJ.mp hc).1
   have c1:(S1++T2)[S.length]?=some (.lst (l.map Dd.d)):=by
    rw [WZ (by rw [K1.2];exact hql),K1.1 _ hq,hc]
   have fr1:∀ j,j≠r->j<S.length->(S1++T2)[j]?=S[j]?:=fun j jr jl=>by
    rw [WZ (by rw [K1.2];omega),K1.1 j jr,fr j jr jl]
   cases hd:fI rl R dd with
   | none=>
    rw [hd] at e3
    have e3':done [rl.d,aW R,dd.d] S1=some (.non,S1++T2):=e3
    refine⟨_,_,_,_,aO,?_,R,l,some (.int (0+(i:Int))),some dd.d,some .non,rfl,P1.appT,c1,B,by omega,by simp;rw [K1.2];omega,fr1⟩
    simp only [yH,aS,bh,aK,aq,ak,bD,bJ,bI,oj,ob,aj,am,az,al,bj,e1,bi,aO,dR,ej,bK,aD,bL,e3',bm,aH,aG,av,bf,au,qy,nq,Xt,aF,bM,bw]
   | some x=>
    rw [hd] at e3
    have e3':done [rl.d,aW R,dd.d] S1=some (.tup [aW x.1,cI x.2],S1++T2):=e3
    have ap:cX (.ref S.length) [dd.d] (S1++T2)=some (.non,(S1++T2).set S.length (.lst ((l++[dd]).map Dd.d))):=by
     rw [on c1 (by rw [WM];omega)];simp
    have km:∀ f ms env,nj f ms env (.ref S.length,S1++T2)=(ms env (S1++T2)).bind (dO f (.ref S.length)):=fun f ms env=>oe c1
    have hql2:S.length<(S1++T2).length:=(WJ.mp c1).1
    refine⟨_,_,_,_,aO,?_,x.1,l++[dd],some (.int (0+(i:Int))),some dd.d,some (.tup [aW x.1,cI x.2]),rfl,?_,Xn hql2,B.snoc od hd,by simp;omega,by rw [Zc];omega,fun j jr jl=>?_⟩
    ·simp only [yH,aS,bh,aK,aq,ak,bD,bJ,bI,oj,ob,aj,am,az,al,bj,e1,bi,aO,dR,ej,bK,aD,bL,e3',bm,aH,aG,av,bf,au,qy,nq,Xz,aF,bR,jt,js,km,eC,ap,jw,fIx_t,at2]
    ·obtain⟨a,b,c,h,z⟩:=P1.appT (T:=T2)
     exact⟨a,b,c,by rw [Xf hq];exact h,z⟩
    ·rw [Xf (by omega)];exact fr1 j jr jl)
  [some (.ref r),some rl.d,some (.int (n:Int)),some (.int (m:Int)),some (aW (bN n)),some (.ref S.length),none,none,none] (S++[.lst []]) ⟨bN n,[],none,none,none,rfl,P.appT,by simp,.nil,WY _,by simp,fun j _ jl=>WZ jl⟩
 have fe:aP (cw .tup) [.ref S.length] S'=some (.tup (l.map Dd.d),S'):=xS hc
 refine⟨l,R,S',?_,B,hle,P3,⟨hz,fun j jl jr=>fr j jr jl⟩⟩
 have er:∀ S,ca ([cL (bN n).1,.tup []],S)=some (aW (bN n),S):=fun S=>k2 S _ _
 simp only [EO,aS,bh,be,aq,aG,bf,ob,am,az,al,k1,av,ak,bD,bJ,bI,oj,aj,au,mu,k0,er,bi,aO,dR,ej,bK,aD,nX,kl,qV,iw,kr,rh,e2,aX,bS,bT,fe,k2,bq,aJ]
section
variable{α:Type}{enc:α->D}{p:Nat->α->Bool}{f:Nat->α->D}{t:MT}{e:ME}{rest:bp}{S:ac}
def Oi:∀ (xs:List α) (k:Nat) (a b:Option D),(∀ i x,xs[i]?=some x->t (some (.int ((k+i:Nat):Int))::some (enc x)::rest) S=some (p (k+i) x,S))->(∀ i x,xs[i]?=some x->e (some (.int ((k+i:Nat):Int))::some (enc x)::rest) S=some (f (k+i) x,S))->dF (aE 2 (af (ah 0) (af (ah 1) (aB)))) t e (eR k (xs.map enc)) (a::b::rest) S=some (((xs.zipIdx k).filter fun q=>p q.2 q.1).map fun q=>f q.2 q.1,S)
 | [],k,a,b,_,_=>by simp [eR]
 | x::r,k,a,b,h,h2=>by
  have ih:=Oi r (k+1) (some (.int (k:Int))) (some (enc x)) (fun i y hy=>by
   have:=h (i+1) y (by simpa using hy)
   rw [show k+(i+1)=k+1+i by omega] at this
   exact this) (fun i y hy=>by
   have:=h2 (i+1) y (by simpa using hy)
   rw [show k+(i+1)=k+1+i by omega] at this
   exact this)
  have h0:=h 0 x rfl
  have h20:=h2 0 x rfl
  rw [aay] at h0 h20
  rw [WR,eR,gz,bX,bg,aO,ob,dR,cy,bg,aO,ob,ej,dR,cy,bB,ob,uT,h0,ob,Yv]
  cases hp:p k x with
  | true=>
   rw [uS,h20,ob,uR,ih,ob,uQ,Zo (p:=fun q:α×Nat=>p q.2 q.1) (a:=(x,k)) hp,WR]
  | false=>rw [EZ,ih,Zp (p:=fun q:α×Nat=>p q.2 q.1) (a:=(x,k)) (by simp [hp])]
def Qf{cap:List (Option Nat)}{env:bp}{a b:Option D}{xs:List α}(hc:lD cap env=a::b::rest)(hl:xs.length<=1000)(h:∀ (i:Nat) x,xs[i]?=some x->t (some (.int (i:Int))::some (enc x)::rest) S=some (p i x,S))(h2:∀ (i:Nat) x,xs[i]?=some x->e (some (.int (i:Int))::some (enc x)::rest) S=some (f i x,S)) :
  nk (aE 2 (af (ah 0) (af (ah 1) (aB)))) t e cap env (eR 0 (xs.map enc),S)=some (.lst ((xs.zipIdx.filter fun q=>p q.2 q.1).map fun q=>f q.2 q.1),S):=by
 rw [jP (by rw [oo,WM];exact hl),hc,Oi xs 0 a b (fun i x hx=>by rw [Zw];exact h i x hx) (fun i x hx=>by rw [Zw];exact h2 i x hx),ob,fS]
end
def tw(p:Wd->Bool)(ws:List Wd):List Nat:=(ws.zipIdx.filter fun q=>p q.1).map (·.2)
def mem_zi{α:Type}{xs:List α}{x:α}{i:Nat}:(x,i)∈xs.zipIdx↔xs[i]?=some x:=by
 rw [List.mem_zipIdx_iff_getElem?]
def mem_ixW{p:Wd->Bool}{ws:List Wd}{i:Nat}:i∈tw p ws↔∃ w,ws[i]?=some w/\p w=true:=by
 unfold tw
 rw [Xk]
 constructor
 ·rintro⟨⟨w,j⟩,h,rfl⟩
  obtain⟨h1,h2⟩:=XM.mp h
  exact⟨w,mem_zi.mp h1,h2⟩
 ·rintro⟨w,h1,h2⟩
  exact⟨(w,i),XM.mpr ⟨mem_zi.mpr h1,h2⟩,rfl⟩
def nt(l:List Nat):D:=.tup (l.map ni)
def Qr{p:Wd->Bool}{ws:List Wd}:D.lst ((ws.zipIdx.filter fun q=>p q.1).map fun q=>.int (q.2:Int))=nl (tw p ws):=by
 unfold nl tw ni;rw [XC];rfl
def Ee:MS:=aV (bd (aP (cw .tup)) (aa (bE (el (aa (ar aw (ab 0) (mC (.int 0))) (ai))) (aE 2 (af (ah 0) (af (ah 1) (aB)))) (ax (ar kz (ab 1) (ab 2))) (ab 0) [none,none,some 1]) (ai)))
def FV{ws:List Wd}{S:ac}:Cq ([cL ws],S)=some (eR 0 (ws.map Wd.d),S):=rfl
def Vw{S:ac}{w:Wd}{l:List Wd}:kz S w.d (cL l)=some (.bl (decide (w∈l))):=by
 rw [je (ys:=l.map Wd.d) rfl rfl Uo]
 congr 2
 rw [Zi]
 induction l with
 | nil=>rfl
 | cons a l ih=>
  rw [XD,ih]
  show (jm a.d w.d||_)=_
  rw [VD,Xs]
  simp
  constructor
  ·rintro(h | h)
   ·exact .inl h.symm
   ·exact .inr h
  ·rintro(h | h)
   ·exact .inl h.symm
   ·exact .inr h
def Vf{N:List Str}(hN:N.length=2){S:ac}{R:Rm}{l:List Wd}(hl:R.1.length<=100):aQ N Ee 2 [aW R,cL l] S=some (nt (tw (fun w=>decide (w∈l)) R.1),S):=by
 have hst:aC N [aW R,cL l]=[some (aW R),some (cL l)]:=by simp [aC,hN]
 rw [ba (show [aW R,cL l].length=2 from rfl),hst]
 have k:=zN (S:=S) (t:=ax (ar kz (ab 1) (ab 2))) (cap:=[none,none,some 1]) (env:=[some (aW R),some (cL l)]) (rest:=[some (cL l)]) (a:=none) (b:=none) (enc:=Wd.d) (p:=fun w=>decide (w∈l)) (xs:=R.1) rfl (by omega) (fun i x _=>by simp only [aH,aG,ak,bD,bJ,bI,oj,ob,aj,av,au,Vw,aF])
 rw [Qr (p:=fun w=>decide (w∈l))] at k
 have fs:aP (cw .tup) [nl (tw (fun w=>decide (w∈l)) R.1)] S=some (nt (tw (fun w=>decide (w∈l)) R.1),S):=eg
 simp only [Ee,aX,bS,aq,bW,nY,aG,ak,bD,bJ,bI,oj,ob,aj,av,bf,au,Rm.ix0,am,az,al,FV,k,bT,fs,bq,aJ]
def kA(R:Rm)(g:Nat):D:=if R.1[g]?=some .rising then .str "up" else match R.2.find? fun e=>decide (e.g=g) with
 | some e=>.str (bo e.wr)
 | none=>.non
def mO:MS:=bC (ax (ar bY (ar aw (ab 2) (mC (.int 0))) (ab 1))) (aV (ar aw (ab 2) (mC (.int 1)))) (aY)
def mR(gw:PF):MS:=ay (bC (ax (ar kz (ab 1) (ao 2 gw (aa (ab 0) (aa (aM (aa (mC (.str "rising")) (ai))) (ai)))))) (aV (mC (.str "up"))) (aY)) (ay (dI (ar aw (ab 0) (mC (.int 1))) (ah 2) mO) (aV (mC .non)))
def OA(gw:PF):Prop:=∀ (S:ac) (R:Rm) (l:List Wd),R.1.length<=100->gw [aW R,cL l] S=some (nt (tw (fun w=>decide (w∈l)) R.1),S)
def Vx{S:ac}{g:Nat}{l:List Nat}:kz S (.int (g:Int)) (nt l)=some (.bl (decide (g∈l))):=by
 rw [je (ys:=l.map ni) rfl rfl (by rw [Xd];intro d hd;obtain⟨i,_,rfl⟩:=Xk.mp hd;rfl)]
 congr 2
 rw [Zi]
 induction l with
 | nil=>rfl
 | cons a l ih=>
  rw [XD,ih]
  show (((a:Int) == (g:Int))||_)=_
  rw [Xs]
  simp
  constructor
  ·rintro(h | h)
   ·exact .inl (by omega)
   ·exact .inr h
  ·rintro(h | h)
   ·exact .inl (by omega)
   ·exact .inr h
def wH{S:ac}{R:Rm}{g:Nat}:∀ (es:List En) (a:Option D),cj (ah 2) mO (es.map En.d) [some (aW R),some (.int (g:Int)),a] S=(match es.find? fun e=>decide (e.g=g) with | some e=>some (.rt (.str (bo e.wr)) S) | none=>some (.nx [some (aW R),some (.int (g:Int)),match es.getLast? with | some e=>some e.d | none=>a] S))
 | [],a=>by simp
 | e::l,a=>by
  have ih:=wH (S:=S) (R:=R) (g:=g) l (some e.d)
  have c:((e.g:Int) == (g:Int))=decide (e.g=g):=by rw [Xs];simp;omega
  rw [WR,dk,aO,ob,ej,ej,dR,jO]
  simp only [mO,bm,aH,aG,ak,bD,bJ,bI,oj,ob,aj,av,bf,au,En.ix0,jf,c,aF,XN]
  cases hd:decide (e.g=g) with
  | true=>simp only [bR,aX,aG,ak,bD,bJ,bI,oj,ob,aj,av,bf,au,En.ix1,bq,tq]
  | false=>
   rw [bM,bw,ob,iF]
   show cj (ah 2) mO _ _ _=_
   rw [ih]
   cases hf:l.find? fun e=>decide (e.g=g) with
   | some x=>rfl
   | none=>
    dsimp only
    congr 4
    cases l with
    | nil=>rfl
    | cons y l=>rw [List.getLast?_cons_cons];cases hh:(y::l).getLast? with
     | none=>simp at hh
     | some z=>rfl
def Kn{gw:PF}(O:OA gw){N:List Str}(hN:N.length=3){S:ac}{R:Rm}{g:Nat}(hl:R.1.length<=100):aQ N (mR gw) 2 [aW R,.int (g:Int)] S=some (kA R g,S):=by
 have hst:aC N [aW R,.int (g:Int)]=[some (aW R),some (.int (g:Int)),none]:=by simp [aC,hN,List.replicate]
 rw [ba (show [aW R,D.int (g:Int)].length=2 from rfl),hst]
 have o1:gw [aW R,.tup [.str "rising"]] S=some (nt (tw (fun w=>decide (w∈[Wd.rising])) R.1),S):=O S R [.rising] hl
 have k1:ca ([.str "rising"],S)=some (.tup [.str "rising"],S):=aR (by simp)
 have mm:decide (g∈tw (fun w=>decide (w∈[Wd.rising])) R.1)=decide (R.1[g]?=some .rising):=by
  rw [decide_eq_decide,mem_ixW]
  constructor
  ·rintro⟨w,h1,h2⟩;rw [h1];simpa using h2
  ·intro h;exact⟨.rising,h,by simp⟩
 have ek:qk (ah 2) mO [some (aW R),some (.int (g:Int)),none] (cr R.2,S)=cj (ah 2) mO (R.2.map En.d) [some (aW R),some (.int (g:Int)),none] S:=rfl
 simp only [mR,aS,bm,aH,aG,ak,bD,bJ,bI,oj,ob,aj,av,aK,aq,am,be,bf,az,al,k1,bj,o1,au,Vx,mm,aF]
 unfold kA
 by_cases h:R.1[g]?=some .rising
 ·rw [WU h,Xc h];simp
 ·rw [WV h,if_neg h]
  simp only [bM,bw,ob,aD,aS,lW,aG,ak,bD,bJ,bI,oj,aj,av,bf,au,Rm.ix1,ek,wH]
  cases R.2.find? fun e=>decide (e.g=g) with
  | some e=>simp
  | none=>simp
def cM(ws:List Wd)(g:Nat):List Wd:=(ws.zipIdx.filter fun q=>!decide (q.1=.out) && !decide (q.2=g)).map (·.1)
def eh(r:Rl)(R:Rm)(g:Nat):Bool:=
 if R.1[g]?=some .rising then (cM R.1 g).isEmpty else match R.2.find? fun e=>decide (e.g=g) with
 | none=>false
 | some e=>if e.wr then (cM R.1 g).isEmpty else (cM R.1 g).all (fun w=>decide (w=.reads))&&(decide (r.a=0)||decide (((cM R.1 g).length:Int)<r.a))
def vB:ME:=bE (el (aa (ar aw (ab 1) (mC (.int 0))) (ai))) (aE 2 (af (ah 0) (af (ah 1) (aB)))) (cF (ax (ar ib (ab 1) (mC (.str "out")))) (ax (ar ib (ab 0) (ab 2)))) (ab 1) [none,none,some 2]
def Om:ME:=bE (cZ (ab 4)) (ah 0) (bH) (ar bY (ab 0) (mC (.str "reads"))) [none]
def gu(wait:PF):MS:=
 ay (aI (ao 2 wait (aa (ab 1) (aa (ab 2) (ai)))) (ah 3)) (ay (bC (ax (ar wA (ab 3) (mC .non))) (aV (mC (.bl false))) (aY)) (ay (aI vB (ah 4)) (ay (bC (ax (ar ib (ab 3) (mC (.str "read")))) (aV (fQ (ab 4))) (aY)) (ay (aI (ar aw (ab 0) (mC (.int 1))) (ah 5)) (aV (dG (bd (aP Ab) (aa Om (ai))) (tf (ar bY (ab 5) (mC (.int 0))) (ar QF (bd (aP fg) (aa (ab 4) (ai))) (ab 5)))))))))
def rL(wait:PF):Prop:=∀ (S:ac) (R:Rm) (g:Nat),R.1.length<=100->wait [aW R,.int (g:Int)] S=some (kA R g,S)
section
variable{S:ac}{R:Rm}{r:Rl}{g:Nat}
def nM{a0 a3 a4 a5:Option D}(hl:R.1.length<=100):vB [a0,some (aW R),some (.int (g:Int)),a3,a4,a5] S=some (.lst ((cM R.1 g).map Wd.d),S):=by
 have k:=Qf (S:=S) (t:=cF (ax (ar ib (ab 1) (mC (.str "out")))) (ax (ar ib (ab 0) (ab 2)))) (e:=ab 1) (cap:=[none,none,some 2]) (env:=[a0,some (aW R),some (.int (g:Int)),a3,a4,a5]) (rest:=[some (.int (g:Int))]) (a:=none) (b:=none) (enc:=Wd.d) (p:=fun i w=>!decide (w=.out) && !decide (i=g)) (f:=fun _ w=>w.d) (xs:=R.1) rfl (by omega) (fun i w _=>by
  have e1:ib S w.d (.str "out")=some (.bl (!decide (w=.out))):=vq (b:=.out)
  have c:((i:Int) == (g:Int))=decide (i=g):=by rw [Xs];simp;omega
  simp only [gO,aH,aG,ak,bD,bJ,bI,oj,ob,aj,av,bf,au,e1,aF]
  cases hd:decide (w=.out) with
  | true=>simp
  | false=>simp only [Xz,jx,aH,aG,ak,bD,bJ,bI,oj,ob,aj,av,au,MZ,c,aF,Yt]) (fun i w _=>by simp)
 simp only [vB,bW,nY,aq,aG,ak,bD,bJ,bI,oj,ob,aj,av,bf,au,Rm.ix0,am,az,al,FV,k]
 unfold cM
 rw [XC];rfl
def vF{α:Type}{p:α->Bool}:∀ l:List α,mB (l.map fun x=>D.bl (p x))=some (l.map p)
 | []=>rfl
 | x::l=>by
  have:=vF (p:=p) l
  rw [WR,WR]
  simp only [mB,this];rfl
def Ol{l:List Wd}{a0 a1 a2 a3 a5:Option D}(hl:l.length<=100):Om [a0,a1,a2,a3,some (.lst (l.map Wd.d)),a5] S=some (.lst (l.map fun w=>.bl (decide (w=.reads))),S):=by
 have k:=fL (S:=S) (t:=bH) (e:=ar bY (ab 0) (mC (.str "reads"))) (cap:=[none]) (env:=[a0,a1,a2,a3,some (.lst (l.map Wd.d)),a5]) (rest:=[]) (a:=none) (enc:=Wd.d) (p:=fun _=>true) (f:=fun w=>.bl (decide (w=.reads))) (xs:=l) rfl (by omega) (fun x _=>gM) (fun x _ _=>by
  have e1:bY S x.d (.str "reads")=some (.bl (decide (x=.reads))):=nC (b:=.reads)
  simp only [aG,ak,bD,oj,ob,aj,av,bf,au,e1])
 rw [XZ.mpr (fun _ _=>rfl)] at k
 simp only [Om,bW,dr,ak,bD,bJ,bI,oj,ob,aj,uO,k]
def RD:(cM R.1 g).length<=R.1.length:=by
 unfold cM;rw [WM];exact Xl (XR _ _) (by simp)
def JN{wait:PF}(O:rL wait){N:List Str}(hN:N.length=6)(hl:R.1.length<=100):aQ N (gu wait) 3 [r.d,aW R,.int (g:Int)] S=some (.bl (eh r R g),S):=by
 have hst:aC N [r.d,aW R,.int (g:Int)]=[some r.d,some (aW R),some (.int (g:Int)),none,none,none]:=by simp [aC,hN,List.replicate]
 rw [ba (show [r.d,aW R,D.int (g:Int)].length=3 from rfl),hst]
 have bl:=RD (R:=R) (g:=g)
 unfold eh
 have e1:=O S R g hl
 have fa:aP Ab [.lst ((cM R.1 g).map fun w=>.bl (decide (w=.reads)))] S=some (.bl ((cM R.1 g).all fun w=>decide (w=.reads)),S):=by
  rw [Nh (vF _)];congr 3;rw [List.all_map];rfl
 have fl:aP fg [.lst ((cM R.1 g).map Wd.d)] S=some (.int ((cM R.1 g).length:Nat),S):=by rw [Vt,WM]
 have nb:Cn (.lst ((cM R.1 g).map Wd.d),S)=some (.bl (cM R.1 g).isEmpty,S):=by
  rw [Qj];cases cM R.1 g <;> rfl
 unfold kA at e1
 by_cases h:R.1[g]?=some .rising
 ·rw [Xc h] at e1 ⊢
  have ne:ib S (.str "up") (.str "read")=some (.bl true):=by rw [rq];rfl
  simp only [gu,aS,bh,aK,aq,ak,bD,bJ,bI,oj,ob,aj,am,az,al,bj,e1,bi,aO,dR,ej,bK,aD,bm,aH,aG,av,bf,au,mL,nq,aF,bM,bw,nM hl,ne,bR,aX,Gw,nb,bq,bQ,aJ]
 ·rw [if_neg h] at e1 ⊢
  cases hf:R.2.find? fun e=>decide (e.g=g) with
  | none=>
   rw [hf] at e1
   simp only [gu,aS,bh,aK,aq,ak,bD,bJ,bI,oj,ob,aj,am,az,al,bj,e1,bi,aO,dR,ej,bK,aD,bm,aH,aG,av,bf,au,mL,nq,aF,bR,aX,bq,bQ,aJ]
  | some e=>
   rw [hf] at e1
   dsimp only at e1 ⊢
   have ne:ib S (.str (bo e.wr)) (.str "read")=some (.bl e.wr):=by rw [rq,sS,Bool.not_not]
   cases hw:e.wr with
   | true=>
    rw [hw] at e1 ne
    simp only [gu,aS,bh,aK,aq,ak,bD,bJ,bI,oj,ob,aj,am,az,al,bj,e1,bi,aO,dR,ej,bK,aD,bm,aH,aG,av,bf,au,mL,nq,aF,bM,bw,nM hl,ne,bR,aX,Gw,nb,bq,bQ,aJ,Xc]
   | false=>
    rw [hw] at e1 ne
    have e3:(r.a == 0)=decide (r.a=0):=rfl
    simp only [gu,aS,bh,aK,aq,ak,bD,bJ,bI,oj,ob,aj,am,az,al,bj,e1,bi,aO,dR,ej,bK,aD,bm,aH,aG,av,bf,au,mL,nq,aF,bM,bw,nM hl,ne,aX,pz,bS,Ol (show (cM R.1 g).length<=100 by omega),bT,fa,Rl.ix1,XJ,YN]
    cases hA:(cM R.1 g).all fun w=>decide (w=.reads) with
    | false=>simp
    | true=>
     cases hz:decide (r.a=0) with
     | true=>simp [e3,hz]
     | false=>simp [e3,hz,fl,-beq_iff_eq]
end
def zX:List (bG×D):=[(.inr "rows",.non),(.inr "readers",.str "read"),(.inr "writers",.str "write"),(.inr "turns",.str "write")]
def Du:List (bG×D):=[(.inr "read",.str "reads"),(.inr "write",.str "writes")]
def Vo:Rw->D
 | .rows=>.non
 | .readers=>.str "read"
 | _=>.str "write"
def sN(w:Rw)(e:En):Bool:=match w with
 | .rows=>false
 | .readers=>!e.wr
 | _=>e.wr
def Vn{S:ac}{w:Rw}(h:w≠.passes):uL zX (.str w.s,S)=some (Vo w,S):=by
 cases w <;> first | exact absurd rfl h | simp (decide:=true) [uL,fR,jG,zX,Vo,Rw.s]
def Kj{S:ac}{b:Bool}:uL Du (.str (bo b),S)=some ((if b then Wd.writes else Wd.reads).d,S):=by
 cases b <;> simp (decide:=true) [uL,fR,jG,Du,bo,Wd.d,Wd.s]
def QI{S:ac}{w:Rw}{e:En}:bY S (.str (bo e.wr)) (Vo w)=some (.bl (sN w e)):=by
 have h1:bY S (.str (bo e.wr)) (.str "read")=some (.bl (!e.wr)):=by rw [cH,sS]
 have h2:bY S (.str (bo e.wr)) (.str "write")=some (.bl e.wr):=by rw [cH,pM]
 cases w with
 | rows=>exact mx rfl rfl
 | readers=>exact h1
 | _=>exact h2
def kW(w:Rw)(e:En):Bool:=decide (w=.turns)&&decide (e.m=1)
def kH(w:Rw)(es:List En):List Nat:=(es.filter (kW w)).map (·.g)++(es.filter (sN w)).map (·.g)++es.map (·.g)
def oD:Option Nat->D
 | none=>.non
 | some g=>.int (g:Int)
def vj:ME:=bE (cZ (ab 1)) (ah 0) (cF (ax (ar bY (ab 1) (mC (.str "turns")))) (ax (ar bY (ar aw (ab 0) (mC (.int 2))) (mC (.int 1))))) (ar aw (ab 0) (mC (.int 0))) [none,some 0]
def MN:ME:=bE (cZ (ab 1)) (ah 0) (ax (ar bY (ar aw (ab 0) (mC (.int 1))) (dq zX (ab 1)))) (ar aw (ab 0) (mC (.int 0))) [none,some 0]
def MR:ME:=bE (cZ (ab 1)) (ah 0) (bH) (ar aw (ab 0) (mC (.int 0))) [none]
def lR:MS:=ay (aI vj (ah 2)) (ay (aI MN (ah 3)) (ay (aI (ar aT (ar aT (ab 2) (ab 3)) MR) (ah 4)) (aV (lL (da (ab 4)) (ar aw (ab 4) (mC (.int 0))) (mC .non)))))
section
variable{S:ac}{es:List En}{w:Rw}{r:Rl}{R:Rm}
def Em{l:List En}:D.lst (l.map fun e=>.int (e.g:Int))=nl (l.map (·.g)):=by unfold nl;rw [XC];rfl
def CN{a2 a3 a4:Option D}(hl:es.length<=100):vj [some (.str w.s),some (cr es),a2,a3,a4] S=some (nl ((es.filter (kW w)).map (·.g)),S):=by
 have hw:(w.s == ("turns":Str))=decide (w=.turns):=Rw.eq w .turns
 have k:=fL (S:=S) (t:=cF (ax (ar bY (ab 1) (mC (.str "turns")))) (ax (ar bY (ar aw (ab 0) (mC (.int 2))) (mC (.int 1))))) (e:=ar aw (ab 0) (mC (.int 0))) (cap:=[none,some 0]) (env:=[some (.str w.s),some (cr es),a2,a3,a4]) (rest:=[some (.str w.s)]) (a:=none) (enc:=En.d) (p:=kW w) (f:=fun e=>.int (e.g:Int)) (xs:=es) rfl (by omega) (fun x _=>by
  unfold kW
  cases h:decide (w=.turns) with
  | true=>simp [En.ix2,-beq_iff_eq,hw,h];rfl
  | false=>simp [-beq_iff_eq,hw,h]) (fun x _ _=>by simp [En.ix0])
 simp only [vj,bW,dr,ak,bD,bJ,bI,oj,ob,aj,eQ,k,Em]
def MM{a2 a3 a4:Option D}(hw:w≠.passes)(hl:es.length<=100):MN [some (.str w.s),some (cr es),a2,a3,a4] S=some (nl ((es.filter (sN w)).map (·.g)),S):=by
 have k:=fL (S:=S) (t:=ax (ar bY (ar aw (ab 0) (mC (.int 1))) (dq zX (ab 1)))) (e:=ar aw (ab 0) (mC (.int 0))) (cap:=[none,some 0]) (env:=[some (.str w.s),some (cr es),a2,a3,a4]) (rest:=[some (.str w.s)]) (a:=none) (enc:=En.d) (p:=sN w) (f:=fun e=>.int (e.g:Int)) (xs:=es) rfl (by omega) (fun x _=>by
  simp only [aH,aG,ak,bD,bJ,bI,oj,ob,aj,av,bf,au,En.ix1,uE,Vn hw,QI,aF]) (fun x _ _=>by simp [En.ix0])
 simp only [MN,bW,dr,ak,bD,bJ,bI,oj,ob,aj,eQ,k,Em]
def MQ{a0 a2 a3 a4:Option D}(hl:es.length<=100):MR [a0,some (cr es),a2,a3,a4] S=some (nl (es.map (·.g)),S):=by
 have k:=gsC (S:=S) (es:=es) (b:=none) (cap:=[none]) (env:=[a0,some (cr es),a2,a3,a4]) rfl hl
 simp only [MR,bW,dr,ak,bD,bJ,bI,oj,ob,aj,eQ,k,Em]
def LJ{a b:List Nat}(h:a.length+b.length<=1000):aT S (nl a) (nl b)=some (nl (a++b)):=by
 unfold nl;rw [Fj (by simp;omega),<- Xy]
def zW{N:List Str}(hN:N.length=5)(hw:w≠.passes)(hl:es.length<=100):aQ N lR 2 [.str w.s,cr es] S=some (oD (kH w es).head?,S):=by
 have hst:aC N [.str w.s,cr es]=[some (.str w.s),some (cr es),none,none,none]:=by simp [aC,hN,List.replicate]
 rw [ba (show [D.str w.s,cr es].length=2 from rfl),hst]
 have l1:=XR (kW w) es
 have l2:=XR (sN w) es
 have a1:aT S (nl ((es.filter (kW w)).map (·.g))) (nl ((es.filter (sN w)).map (·.g)))=some (nl ((es.filter (kW w)).map (·.g)++(es.filter (sN w)).map (·.g))):=LJ (by simp;omega)
 have a2:aT S (nl ((es.filter (kW w)).map (·.g)++(es.filter (sN w)).map (·.g))) (nl (es.map (·.g)))=some (nl (kH w es)):=LJ (by simp;omega)
 have tr:zO (nl (kH w es),S)=some (!decide (kH w es=[]),S):=by
  cases kH w es <;> rfl
 simp only [lR,aS,bh,CN hl,MM hw hl,ob,bi,aO,dR,ej,bK,aD,aG,ak,bD,bJ,bI,oj,aj,av,au,a1,MQ hl,a2,aX,mK,dW,tr]
 cases hf:kH w es with
 | nil=>simp [oD]
 | cons g l=>simp [oD,sZ]
def mV(r:Rl)(R:Rm):List En->Option Nat
 | []=>none
 | e::l=>if eh r R e.g then some e.g else if r.b<=e.m then none else mV r R l
def rP(r:Rl)(R:Rm):Option Nat:=if r.w=.passes then mV r R R.2 else match (kH r.w R.2).head? with
 | none=>none
 | some g=>if eh r R g then some g else none
def oB(cg:PF):Prop:=(∀ (S:ac) (r:Rl) (R:Rm) (g:Nat),R.1.length<=100->cg [r.d,aW R,.int (g:Int)] S=some (.bl (eh r R g),S))/\(∀ (S:ac) (r:Rl) (ws:List Wd),ws.length<=100->cg [r.d,aW (ws,[]),.non] S=some (.bl false,S))
def uh(cg:PF):MS:=ay (bC (da (ao 3 cg (aa (ab 0) (aa (ab 1) (aa (ab 2) (ai)))))) (aV (ab 2)) (aY)) (bC (ax (ar fGe (ab 4) (ar aw (ab 0) (mC (.int 2))))) (aV (mC .non)) (aY))
def Iq:MG:=aE 4 (af (ah 2) (af (ah 3) (af (ah 4) (af (ah 5) (aB)))))
def lQ(cg:PF):MS:=ay (dI (ar aw (ab 1) (mC (.int 1))) Iq (uh cg)) (aV (mC .non))
def PV{e:En}{a0 a1 a2 a3 a4 a5:Option D}:Iq e.d [a0,a1,a2,a3,a4,a5] S=some ([a0,a1,some (.int (e.g:Int)),some (.str (bo e.wr)),some (.int e.m),some (bP e.t)],S):=by
 have g4:Iq e.d [a0,a1,a2,a3,a4,a5] S=(af (ah 2) (af (ah 3) (af (ah 4) (af (ah 5) (aB))))) [.int (e.g:Nat),.str (bo e.wr),.int e.m,bP e.t] [a0,a1,a2,a3,a4,a5] S:=tB
 rw [g4]
 simp only [bg,aO,ob,cy,bB,dR,ej]
def npEnd:Option Nat->Option D->Option D->Option D->Option D->Option D->Option D->ac->pK->Prop
 | some g,_,_,_,_,_,_,S,o=>o=.rt (.int (g:Int)) S
 | none,a0,a1,_,_,_,_,S,o=>o=.rt .non S\/∃ b2 b3 b4 b5,o=.nx [a0,a1,b2,b3,b4,b5] S
def wY{cg:PF}(O:oB cg)(hl:R.1.length<=100):∀ (es:List En) (a2 a3 a4 a5:Option D),∃ o,cj Iq (uh cg) (es.map En.d) [some r.d,some (aW R),a2,a3,a4,a5] S=some o/\npEnd (mV r R es) (some r.d) (some (aW R)) a2 a3 a4 a5 S o
 | [],a2,a3,a4,a5=>⟨.nx [some r.d,some (aW R),a2,a3,a4,a5] S,by simp,.inr ⟨_,_,_,_,rfl⟩⟩
 | e::l,a2,a3,a4,a5=>by
  obtain⟨o,ih,q⟩:=wY O hl l (some (.int (e.g:Int))) (some (.str (bo e.wr))) (some (.int e.m)) (some (bP e.t))
  have c1:=O.1 S r R e.g hl
  rw [WR,dk,PV,ob,jO]
  simp only [uh,aS,bm,dW,aK,aq,ak,bD,bJ,bI,oj,ob,aj,am,az,al,bL,c1,fM]
  unfold mV
  cases hc:eh r R e.g with
  | true=>exact⟨.rt (.int (e.g:Int)) S,by simp,rfl⟩
  | false=>
   rw [if_neg (by decide)]
   by_cases hb:r.b<=e.m
   ·rw [Xc hb]
    refine⟨.rt .non S,?_,.inl rfl⟩
    simp [Rl.ix2,hb]
   ·rw [if_neg hb]
    refine⟨o,?_,?_⟩
    ·have:¬ (e.m≥r.b):=hb
     simp [Rl.ix2,this,-ge_iff_le]
     exact ih
    ·cases hp:mV r R l with
     | none=>rw [hp] at q;exact q
     | some g=>rw [hp] at q;exact q
def ze{cg:PF}(O:oB cg){N:List Str}(hN:N.length=6)(hl:R.1.length<=100):aQ N (lQ cg) 2 [r.d,aW R] S=some (oD (mV r R R.2),S):=by
 have hst:aC N [r.d,aW R]=[some r.d,some (aW R),none,none,none,none]:=by simp [aC,hN,List.replicate]
 rw [ba (show [r.d,aW R].length=2 from rfl),hst]
 obtain⟨o,e,q⟩:=wY (S:=S) (r:=r) O hl R.2 none none none none
 have ek:qk Iq (uh cg) [some r.d,some (aW R),none,none,none,none] (cr R.2,S)=cj Iq (uh cg) (R.2.map En.d) [some r.d,some (aW R),none,none,none,none] S:=rfl
 simp only [lQ,aS,lW,aG,ak,bD,bJ,bI,oj,ob,aj,av,bf,au,Rm.ix1,ek,e]
 cases hp:mV r R R.2 with
 | none=>
  rw [hp] at q
  rcases q with rfl | ⟨b2,b3,b4,b5,rfl⟩ <;> simp [oD]
 | some g=>
  rw [hp] at q
  have q:o=.rt (.int (g:Int)) S:=q
  subst q;simp [oD]
def pj(np fm cg:PF):MS:=ay (bC (ax (ar bY (ar aw (ab 0) (mC (.int 0))) (mC (.str "passes")))) (aV (ao 2 np (aa (ab 0) (aa (ab 1) (ai))))) (aY)) (ay (aI (ao 2 fm (aa (ar aw (ab 0) (mC (.int 0))) (aa (ar aw (ab 1) (mC (.int 1))) (ai)))) (ah 2)) (aV (lL (da (ao 3 cg (aa (ab 0) (aa (ab 1) (aa (ab 2) (ai)))))) (ab 2) (mC .non))))
def Jd(h:(kH w es).head?=none):es=[]:=by
 have:kH w es=[]:=by simpa using h
 unfold kH at this
 rw [List.append_eq_nil_iff] at this
 simpa using this.2
def Ep{np fm cg:PF}(hp:∀ (S:ac) (r:Rl) (R:Rm),R.1.length<=100->np [r.d,aW R] S=some (oD (mV r R R.2),S))(hf:∀ (S:ac) (w:Rw) (es:List En),w≠.passes->es.length<=100->fm [.str w.s,cr es] S=some (oD (kH w es).head?,S))(hc:oB cg)
  {N:List Str} (hN:N.length=3) (hl:R.1.length<=100) (hl2:R.2.length<=100):aQ N (pj np fm cg) 2 [r.d,aW R] S=some (oD (rP r R),S):=by
 have hst:aC N [r.d,aW R]=[some r.d,some (aW R),none]:=by simp [aC,hN,List.replicate]
 rw [ba (show [r.d,aW R].length=2 from rfl),hst]
 have w3:(r.w.s == ("passes":Str))=decide (r.w=.passes):=Rw.eq r.w .passes
 unfold rP
 simp only [pj,aS,bm,aH,aG,ak,bD,bJ,bI,oj,ob,aj,av,bf,au,Rl.ix0,cH,w3,aF]
 by_cases hw:r.w=.passes
 ·rw [WU hw,Xc hw]
  simp only [bR,aX,aK,aq,ak,bD,bJ,bI,oj,ob,aj,am,az,al,bj,hp S r R hl,bq,bQ,aJ]
 ·rw [WV hw,if_neg hw]
  have f1:=hf S r.w R.2 hw hl2
  simp only [bM,bw,ob,aD,aS,bh,aK,aq,aG,ak,bD,bJ,bI,oj,aj,av,bf,au,Rl.ix0,Rm.ix1,am,az,al,bj,f1,bi,aO,dR,ej,bK,aX,mK,dW,bL]
  cases hh:(kH r.w R.2).head? with
  | none=>
   obtain⟨ws,es⟩:=R
   have:es=[]:=Jd hh
   subst this
   have c2:=hc.2 S r ws hl
   simp only [oD,c2,ob,fM]
   simp
  | some g=>
   have c1:=hc.1 S r R g hl
   simp only [oD,c1,ob,fM]
   cases eh r R g <;> simp [oD]
end
section
variable{ws:List Wd}{es:List En}{r:Rl}{R:Rm}{g:Nat}
def Kb(ws:List Wd):List Wd:=ws.filter fun w=>!decide (w=.out)
def Dt{α:Type}{p:α->Bool}:∀ (xs:List α) (k:Nat),((xs.zipIdx k).filter fun q=>p q.1).map (·.1)=xs.filter p
 | [],_=>rfl
 | x::l,k=>by
  rw [Yv,XI,XI]
  have ih:=Dt (p:=p) l (k+1)
  split
  ·rw [WR,ih]
  ·exact ih
def FL(h:ws[g]?=some .out):cM ws g=Kb ws:=by
 unfold cM Kb
 rw [<- Dt ws 0]
 congr 1
 apply Zk
 intro q hq
 have hq':ws[q.2]?=some q.1:=mem_zi.mp (show (q.1,q.2)∈ws.zipIdx from hq)
 by_cases hg:q.2=g
 ·rw [hg,h] at hq'
  have:=Xg hq'
  simp [<- this]
 ·simp [hg]
def besK{p:Wd->Bool}:∀ (ws:List Wd) (k g:Nat) (w:Wd),ws[g]?=some w->p w=true->((ws.zipIdx k).filter fun q=>p q.1 && !decide (q.2=k+g)).length+1=(ws.filter p).length
 | [],k,g,w,h,_=>by simp at h
 | x::l,k,0,w,h,hp=>by
  simp at h;subst h
  rw [Yv,XI,XI,Xc hp,WT,<- Dt l (k+1),WM]
  simp only [hp,aay,Yl,Xt,Yn,XJ,YN]
  congr 2
  apply Zk
  intro q hq
  have:k+1<=q.2:=(List.mem_zipIdx hq).1
  have hne:q.2≠k:=by omega
  simp [hne]
 | x::l,k,g+1,w,h,hp=>by
  have ih:=besK (p:=p) l (k+1) g w (by simpa using h) hp
  have e:k+(g+1)=(k+1)+g:=by omega
  rw [e,Yv,XI,XI]
  have hne:¬ (k=k+1+g):=by omega
  cases hx:p x with
  | false=>simp only [hx,Ym,XJ,YN];exact ih
  | true=>simp only [hx,hne,YI,Xz,Bool.and_self,YE,WT];omega
def zU:(Kb ws).length+ws.count .out=ws.length:=by
 unfold Kb
 have:=List.length_eq_countP_add_countP (fun w:Wd=>w == .out) (l:=ws)
 rw [List.count,this,ZV,Nat.add_comm]
 congr 1
 rw [ZV]
 congr 1
 apply Zk
 intro w _
 cases w <;> rfl
def Ox(h:ws[g]?=some .rising):(cM ws g).isEmpty=decide (ws.count .out+1=ws.length):=by
 have k:=besK (p:=fun w=>!decide (w=.out)) ws 0 g .rising h rfl
 have l:=zU (ws:=ws)
 unfold Kb at l
 unfold cM
 simp only [Zw] at k
 rw [Xs,Ye,List.isEmpty_iff,List.map_eq_nil_iff]
 constructor
 ·intro e;rw [e] at k;simp only [YQ] at k;omega
 ·intro e;apply Ya;omega
def cnt5:∀ ws:List Wd,ws.count .out+ws.count .reads+ws.count .rising+ws.count .writes+ws.count .raised=ws.length
 | []=>rfl
 | w::l=>by
  have:=cnt5 l
  cases w <;> simp [Zd] <;> omega
def Ja:(Kb ws).all (fun w=>decide (w=.reads))=decide (ws.count .out+ws.count .reads=ws.length):=by
 have l:=zU (ws:=ws)
 have c:(Kb ws).countP (fun w=>decide (w=.reads))=ws.count .reads:=by
  unfold Kb
  rw [List.countP_filter,List.count]
  congr 1
  funext w;cases w <;> rfl
 have d:=List.countP_le_length (p:=fun w:Wd=>decide (w=.reads)) (l:=Kb ws)
 rw [Xs,Ye,Xd]
 have e:=List.countP_eq_length (p:=fun w:Wd=>decide (w=.reads)) (l:=Kb ws)
 constructor
 ·intro h;have:=e.mpr h;omega
 ·intro h;exact e.mp (by omega)
def QA(h:ROk R){e:En}(he:e∈R.2):(R.2.find? fun x=>decide (x.g=e.g))=some e:=by
 have hn:=h.nd
 generalize R.2=es at hn he
 induction es with
 | nil=>cases he
 | cons x l ih=>
  rw [WR,YA] at hn
  rw [XN]
  rcases Xq.mp he with rfl | he
  ·simp
  ·have:x.g≠e.g:=fun z=>hn.1 (by rw [z];exact Xk.mpr ⟨e,he,rfl⟩)
   simp only [this,YI]
   exact ih hn.2 he
def UB(h:ROk R){e:En}(he:e∈R.2):eh r R e.g=rf r R.1 e.wr:=by
 have ho:=h.out e he
 unfold eh rf
 rw [ho,if_neg (by simp),QA h he,FL ho]
 have c:=cnt5 R.1
 have l:=zU (ws:=R.1)
 dsimp only
 cases hw:e.wr with
 | true=>
  simp only [YE]
  by_cases h1:R.1.count .reads+R.1.count .rising+R.1.count .out<R.1.length
  ·rw [Xc h1]
   cases hi:Kb R.1 with
   | nil=>rw [hi] at l;simp at l;omega
   | cons _ _=>rfl
  ·rw [if_neg h1]
   rw [Xs,List.isEmpty_iff,Ye]
   constructor
   ·intro hi;rw [hi] at l;simp at l;omega
   ·intro hi;apply Ya;omega
 | false=>
  simp only [XJ,YN,Ja]
  by_cases h1:R.1.count .reads+R.1.count .rising+R.1.count .out<R.1.length
  ·rw [Xc h1,WV (by omega)];rfl
  ·rw [if_neg h1]
   by_cases h2:R.1.count .rising=0
   ·have:(Kb R.1).length=R.1.count .reads+R.1.count .rising:=by omega
    rw [this,WU (by omega),WU h2]
   ·rw [WV (by omega),WV h2];rfl
def xC{p:Wd->Bool}:∀ (ws:List Wd) (k:Nat),((ws.zipIdx k).filter fun q=>p q.1).map (·.2)=(List.range' k ws.length).filter fun i=>match ws[i - k]? with | some w=>p w | none=>false
 | [],k=>rfl
 | w::l,k=>by
  have ih:=xC (p:=p) l (k+1)
  rw [Yv,WT,List.range'_succ,XI,XI]
  have e:(List.range' (k+1) l.length).filter (fun i=>match (w::l)[i - k]? with | some w=>p w | none=>false)=(List.range' (k+1) l.length).filter fun i=>match l[i - (k+1)]? with | some w=>p w | none=>false:=by
   apply Zk
   intro i hi
   have:k+1<=i:=(List.mem_range'_1.mp hi).1
   rw [show i - k=(i - (k+1))+1 by omega,Zn]
  simp only [Nat.sub_self,aan]
  cases hp:p w with
  | true=>rw [Xc rfl,Xc rfl,WR,ih,e]
  | false=>rw [if_neg (by decide),if_neg (by decide),ih,e]
def vm{α:Type}{p q:α->Bool}:∀ {l:List α},(∀ x∈l,p x=q x)->l.find? p=l.find? q
 | [],_=>rfl
 | x::l,h=>by rw [XN,XN,h x WL,vm fun y hy=>h y (WO _ hy)]
def HY:(tw (fun w=>decide (w=.rising)) R.1).find? (eh r R)=(nO R.1).head?:=by
 have e:tw (fun w=>decide (w=.rising)) R.1=(List.range R.1.length).filter fun i=>match R.1[i]? with | some w=>decide (w=.rising) | none=>false:=by
  have k:=xC (p:=fun w=>decide (w=.rising)) R.1 0
  rw [List.range_eq_range']
  exact k
 rw [e,List.find?_filter]
 unfold nO
 rw [List.head?_filter]
 apply vm
 intro i hi
 by_cases h:R.1[i]?=some .rising
 ·rw [h]
  have:eh r R i=(cM R.1 i).isEmpty:=by unfold eh;rw [Xc h]
  simp only [Yl,Yt]
  rw [this,Ox h]
  simp
 ·rw [WV h,Ym]
  cases hw:R.1[i]? with
  | none=>rfl
  | some w=>
   have:¬ (w=.rising):=fun z=>h (by rw [hw,z])
   simp [this]
def Ct{p:En->Bool}:∀ (es:List En) (k:Nat),(((es.zipIdx k).filter fun q=>p q.1).map (·.2)).head?=(es.findIdx? p).map (· + k)
 | [],_=>rfl
 | e::l,k=>by
  have ih:=Ct (p:=p) l (k+1)
  rw [Yv,XI,Yw]
  cases hp:p e with
  | true=>simp
  | false=>
   simp only [XJ,YN]
   rw [ih]
   cases l.findIdx? p with
   | none=>rfl
   | some i=>simp;omega
def jQ{p:En->Bool}{es:List En}:(AC p es).head?=es.findIdx? p:=by
 unfold AC;rw [Ct];simp
def xQ{p:En->Bool}:∀ es:List En,((es.filter p).map (·.g)).head?=(es.findIdx? p).bind fun i=>es[i]?.map (·.g)
 | []=>rfl
 | e::l=>by
  have ih:=xQ (p:=p) l
  rw [XI,Yw]
  cases hp:p e with
  | true=>simp
  | false=>
   simp only [XJ,YN]
   rw [ih]
   cases l.findIdx? p with
   | none=>rfl
   | some i=>simp
def tz{a b:List Nat}:(PD a b).head?=a.head?.or b.head?:=by
 unfold PD;cases a <;> simp
def Cv{a b:List Nat}:(a++b).head?=a.head?.or b.head?:=by cases a <;> simp
def og{l:List Nat}:(l.take 1).head?=l.head?:=by cases l <;> simp
def kQ{p q:En->Bool}(hpq:∀ e,p e = !q e){es:List En}(h:es.findIdx? p=none):es.findIdx? q=(if es=[] then none else some 0):=by
 cases es with
 | nil=>rfl
 | cons e l=>
  rw [aag] at h
  have:=h e WL
  rw [hpq] at this
  have hq:q e=true:=by simpa using this
  rw [Yw,hq];simp
def AD(es:List En)(o:Option Nat):Option Nat:=o.bind fun i=>es[i]?.map (·.g)
def Oy:(es.map (·.g)).head?=AD es (if es=[] then none else some 0):=by cases es <;> simp [AD]
def GO{p:En->Bool}{i:Nat}(h:es.findIdx? p=some i):i<es.length:=(ZE.mp h).1
def Qy(hw:r.w≠.passes):(kH r.w es).head?=AD es (CJ r es).head?:=by
 have f0:∀ p,((es.filter p).map (·.g)).head?=AD es (es.findIdx? p):=fun p=>xQ es
 have ff:es.findIdx? (fun _=>false)=none:=by rw [aag];intros;rfl
 unfold kH CJ
 rw [Cv,Cv,f0,f0,Oy]
 cases hr:r.w with
 | passes=>exact absurd hr hw
 | rows=>
  have e1:kW .rows=fun _=>false:=rfl
  have e2:sN .rows=fun _=>false:=rfl
  rw [e1,e2,ff,og]
  cases es <;> simp [AD,Zs]
 | readers=>
  have e1:kW .readers=fun _=>false:=rfl
  have e2:sN .readers=fun e=>!e.wr:=rfl
  dsimp only
  rw [e1,e2,ff,og,tz,jQ,jQ]
  show (AD es _).or _=_
  cases hf:es.findIdx? fun e=>!e.wr with
  | none=>rw [kQ (q:=fun e=>e.wr) (fun _=>rfl) hf];rfl
  | some i=>have:=GO hf;simp [AD,WS this]
 | writers=>
  have e1:kW .writers=fun _=>false:=rfl
  have e2:sN .writers=fun e=>e.wr:=rfl
  dsimp only
  rw [e1,e2,ff,og,tz,jQ,jQ]
  show (AD es _).or _=_
  cases hf:es.findIdx? fun e=>e.wr with
  | none=>rw [kQ (q:=fun e=>!e.wr) (fun e=>by simp) hf];rfl
  | some i=>have:=GO hf;simp [AD,WS this]
 | turns=>
  have e1:kW .turns=fun e=>decide (e.m=1):=by funext e;simp [kW]
  have e2:sN .turns=fun e=>e.wr:=rfl
  dsimp only
  rw [e1,e2,og,tz,tz,jQ,jQ,jQ]
  cases hm:es.findIdx? fun e=>decide (e.m=1) with
  | some i=>have:=GO hm;simp [AD,WS this]
  | none=>
   show (AD es _).or _=_
   cases hf:es.findIdx? fun e=>e.wr with
   | none=>rw [kQ (q:=fun e=>!e.wr) (fun e=>by simp) hf];rfl
   | some i=>have:=GO hf;simp [AD,WS this]
def maxL_le{b:Int}{l:List Int}:kM (0::l)<=b↔0<=b/\∀ x∈l,x<=b:=by
 obtain⟨h1,h2⟩:=qU (ns:=0::l) (by simp)
 constructor
 ·intro h
  exact⟨aaB (h2 0 WL) h,fun x hx=>aaB (h2 x (WO _ hx)) h⟩
 ·intro⟨h0,h⟩
  rcases Xq.mp h1 with e | e
  ·rw [e];exact h0
  ·exact h _ e
def Bi(r:Rl)(ws:List Wd)(es:List En)(i:Nat):Bool:=(match es[i]? with | some e=>rf r ws e.wr | none=>false)&&decide (kM (0::(es.take i).map fun e=>e.m+1)<=r.b)
def wW(hb:0<=r.b)(hc:∀ e∈es,eh r R e.g=rf r R.1 e.wr):∀ (l p:List En),es=p++l->(∀ e∈p,e.m+1<=r.b)->mV r R l=AD es ((List.range' p.length l.length).find? (Bi r R.1 es))
 | [],p,_,_=>by simp [mV,AD]
 | e::l,p,he,hp=>by
  have ei:es[p.length]?=some e:=by rw [he];simp
  have et:es.take p.length=p:=by rw [he];simp
  have hm:e∈es:=by rw [he];simp
  have q0:Bi r R.1 es p.length=rf r R.1 e.wr:=by
   unfold Bi
   rw [ei,et]
   have:kM (0::p.map fun e=>e.m+1)<=r.b:=maxL_le.mpr ⟨hb,fun x hx=>by obtain⟨y,hy,rfl⟩:=Xk.mp hx;exact hp y hy⟩
   simp [this]
  rw [WT,List.range'_succ,XN,q0]
  unfold mV
  rw [hc e hm]
  cases hl:rf r R.1 e.wr with
  | true=>simp [AD,ei]
  | false=>
   rw [if_neg (by decide)]
   by_cases hbm:r.b<=e.m
   ·rw [Xc hbm]
    have:(List.range' (p.length+1) l.length).find? (Bi r R.1 es)=none:=by
     rw [List.find?_eq_none]
     intro i hi
     have h1:=(List.mem_range'_1.mp hi).1
     have:¬ (kM (0::(es.take i).map fun e=>e.m+1)<=r.b):=fun z=>by
      have:=(maxL_le.mp z).2 (e.m+1) (Xk.mpr ⟨e,?_,rfl⟩)
      ·omega
      ·rw [List.mem_take_iff_getElem]
       refine⟨p.length,?_,?_⟩
       ·have:=(WJ.mp ei).1;omega
       ·exact(WJ.mp ei).2
     unfold Bi;rw [WV this,Yn];decide
    rw [this];rfl
   ·rw [if_neg hbm]
    have ih:=wW hb hc l (p++[e]) (by rw [he];simp) (fun x hx=>by
     rcases Xj.mp hx with hx | hx
     ·exact hp x hx
     ·have:x=e:=by simpa using hx
      rw [this];omega)
    rw [ih];simp
def Qx(hw:r.w≠.passes):(CJ r es).length<=1:=by
 unfold CJ
 cases hr:r.w <;> first | exact absurd hr hw | (simp only [YH];omega)
def PX(h:ROk R)(hb:0<=r.b):rP r R=AD R.2 (mH r R.1 R.2).head?:=by
 have hc:∀ e∈R.2,eh r R e.g=rf r R.1 e.wr:=fun e he=>UB h he
 unfold rP
 by_cases hw:r.w=.passes
 ·rw [Xc hw,wW hb hc R.2 [] rfl (fun _ z=>by cases z)]
  congr 1
  unfold mH CJ
  rw [hw]
  dsimp only
  rw [List.filter_filter,List.head?_filter,YQ,<- List.range_eq_range']
  rfl
 ·rw [if_neg hw,Qy hw]
  have h1:=Qx (es:=R.2) hw
  unfold mH
  cases hf:CJ r R.2 with
  | nil=>rfl
  | cons i l=>
   rw [hf] at h1
   have:l=[]:=by cases l with | nil=>rfl | cons _ _=>simp at h1
   subst this
   have hi:i<R.2.length:=rn (r:=r) (by rw [hf];exact WL)
   have ei:R.2[i]?=some R.2[i]:=WS hi
   have:=hc R.2[i] (ZR hi)
   simp only [List.head?_cons,AD,Option.bind_some,ei,Option.map_some,XI,this]
   cases rf r R.1 (R.2[i]).wr <;> simp [ei]
def oY(r:Rl)(R:Rm):Option Ev:=match (tw (fun w=>decide (w=.rising)) R.1).find? (eh r R) with
 | some g=>some ⟨"steps",g⟩
 | none=>(rP r R).map fun g=>⟨"in",g⟩
inductive FS(r:Rl)(R:Rm):Option Ev->Rm->List Ev->Prop
 | up (g:Nat) (h:R.1[g]?=some .rising):FS r R (some ⟨"steps",g⟩) (R.1.set g .raised,R.2) [⟨"steps",g⟩]
 | go (i:Nat) (e:En) (h:R.2[i]?=some e):FS r R (some ⟨"in",e.g⟩) (sM r R i e) [⟨"in",e.g⟩]
 | no:FS r R none R []
def xX(h:ROk R)(hb:0<=r.b):FS r R (oY r R) (mG r R).1 (mG r R).2:=by
 unfold oY mG
 rw [HY,PX h hb]
 cases ha:nO R.1 with
 | cons g l=>exact .up g (pJ (by rw [ha];exact WL))
 | nil=>
  dsimp only [List.head?_nil]
  cases hs:mH r R.1 R.2 with
  | nil=>exact .no
  | cons i l=>
   have hi:i<R.2.length:=rn (r:=r) (XM.mp (show i∈mH r R.1 R.2 by rw [hs];exact WL)).1
   have ei:R.2[i]?=some R.2[i]:=WS hi
   simp only [List.head?_cons,AD,Option.bind_some,ei,Option.map_some]
   exact .go i _ ei
def Ur(R:Rm):Nat:=R.2.length+R.1.count .rising
def lC{a b:Wd}:∀ {ws:List Wd} {i:Nat},ws[i]?=some a->a≠b->∀ c,(ws.set i b).count c+(if a=c then 1 else 0)=ws.count c+(if b=c then 1 else 0)
 | [],i,h,_,c=>by simp at h
 | w::l,0,h,hn,c=>by
  simp at h;subst h
  rw [List.set_cons_zero,Zd,Zd]
  by_cases h1:w=c <;> by_cases h2:b=c <;> simp [h1,h2] <;> omega
 | w::l,i+1,h,hn,c=>by
  have:=lC (i:=i) (ws:=l) (by simpa using h) hn c
  rw [List.set_cons_succ,Zd,Zd]
  omega
def HG{o:Option Ev}{R':Rm}{l:List Ev}(h:ROk R)(s:FS r R o R' l):(o=none/\R'=R/\l=[])\/(∃ v,o=some v/\l=[v]/\Ur R'+1=Ur R):=by
 cases s with
 | no=>exact .inl ⟨rfl,rfl,rfl⟩
 | up g hg=>
  refine .inr ⟨_,rfl,rfl,?_⟩
  have:=lC (b:=.raised) hg (by decide) .rising
  simp only [Ur]
  simp at this
  omega
 | go i e hi=>
  refine .inr ⟨_,rfl,rfl,?_⟩
  have ho:=h.out e (Xh hi)
  have hl:=(WJ.mp hi).1
  have hc:(R.1.set e.g (if e.wr then .writes else .reads)).count .rising=R.1.count .rising:=by
   cases e.wr with
   | true=>have:=lC (b:=.writes) ho (by decide) .rising;simpa using this
   | false=>have:=lC (b:=.reads) ho (by decide) .rising;simpa using this
  simp only [Ur,sM,hc,WX,WM,YH,Zq]
  omega
def Uq(h:ROk R):Ur R<=2 * R.1.length:=by
 have:=h.len
 have:=List.count_le_length (a:=Wd.rising) (l:=R.1)
 unfold Ur;omega
def AS(h:oY r R=none)(hk:ROk R)(hb:0<=r.b):∀ n,sU r n R=(R,[])
 | 0=>rfl
 | n+1=>by
  have s:=xX hk hb
  rw [h] at s
  have e:mG r R=(R,[]):=by
   generalize hq:mG r R=q at s
   obtain⟨a,b⟩:=q
   dsimp only at s
   cases s;rfl
  show ((sU r n (mG r R).1).1,(mG r R).2++(sU r n (mG r R).1).2)=_
  rw [e,AS h hk hb n];rfl
end
section
variable{S:ac}{ws:List Wd}{es:List En}{r:Rl}{R:Rm}{g:Nat}
def QH{l:List Nat}:kz S .non (nt l)=some (.bl false):=by
 rw [je (ys:=l.map ni) rfl rfl (by rw [Xd];intro d hd;obtain⟨i,_,rfl⟩:=Xk.mp hd;rfl)]
 congr 2
 rw [ZK]
 intro d hd;obtain⟨i,_,rfl⟩:=Xk.mp hd
 show ¬ (false=true);decide
def Km{gw:PF}(O:OA gw){N:List Str}(hN:N.length=3)(hl:ws.length<=100):aQ N (mR gw) 2 [aW (ws,[]),.non] S=some (.non,S):=by
 have hst:aC N [aW (ws,[]),.non]=[some (aW (ws,[])),some .non,none]:=by simp [aC,hN,List.replicate]
 rw [ba (show [aW (ws,[]),D.non].length=2 from rfl),hst]
 have o1:gw [aW (ws,[]),.tup [.str "rising"]] S=some (nt (tw (fun w=>decide (w∈[Wd.rising])) ws),S):=O S (ws,[]) [.rising] hl
 have k1:ca ([.str "rising"],S)=some (.tup [.str "rising"],S):=aR (by simp)
 have ek:∀ env,qk (ah 2) mO env (cr [],S)=some (.nx env S):=fun env=>by show cj (ah 2) mO [] env S=_;simp
 simp only [mR,aS,bm,aH,aG,ak,bD,bJ,bI,oj,ob,aj,av,aK,aq,am,be,bf,az,al,k1,bj,o1,au,QH,aF,bM,bw,aD,lW,Rm.ix1,ek,aX,bq,aJ]
def JM{wait:PF}(O:∀ S:ac,wait [aW (ws,[]),.non] S=some (.non,S)){N:List Str}(hN:N.length=6):aQ N (gu wait) 3 [r.d,aW (ws,[]),.non] S=some (.bl false,S):=by
 have hst:aC N [r.d,aW (ws,[]),.non]=[some r.d,some (aW (ws,[])),some .non,none,none,none]:=by simp [aC,hN,List.replicate]
 rw [ba (show [r.d,aW (ws,[]),D.non].length=3 from rfl),hst]
 simp only [gu,aS,bh,aK,aq,ak,bD,bJ,bI,oj,ob,aj,am,az,al,bj,O,bi,aO,dR,ej,bK,aD,bm,aH,aG,av,bf,au,mL,nq,aF,bR,aX,bq,bQ,aJ]
def lP:MS:=ay (aI (ab 0) (aE 2 (af (ah 3) (af (ah 4) (aB))))) (aV (aM (aa (ar aT (ar aT (bt (ab 3) (bu) (bU (ab 1))) (aM (aa (ab 2) (ai)))) (bt (ab 3) (bU (ar aT (ab 1) (mC (.int 1)))) (bu))) (aa (ab 4) (ai)))))
def yj{N:List Str}(hN:N.length=5){w:Wd}(h:g<R.1.length)(hl:R.1.length<=100):aQ N lP 3 [aW R,.int (g:Int),w.d] S=some (aW (R.1.set g w,R.2),S):=by
 have hst:aC N [aW R,.int (g:Int),w.d]=[some (aW R),some (.int (g:Int)),some w.d,none,none]:=by simp [aC,hN,List.replicate]
 rw [ba (show [aW R,D.int (g:Int),w.d].length=3 from rfl),hst]
 have g2:∀ env S,aE 2 (af (ah 3) (af (ah 4) (aB))) (aW R) env S=(af (ah 3) (af (ah 4) (aB))) [cL R.1,cr R.2] env S:=fun env S=>bX
 have c1:jd (cL R.1) none (some (g:Int),S)=some (.tup ((R.1.take g).map Wd.d),S):=by
  rw [show cL R.1=.tup (R.1.map Wd.d) from rfl,nh,mW,YZ]
 have c2:jd (cL R.1) (some ((g:Int)+1)) (none,S)=some (.tup ((R.1.drop (g+1)).map Wd.d),S):=by
  rw [show cL R.1=.tup (R.1.map Wd.d) from rfl,nh,show ((g:Int)+1)=((g+1:Nat):Int) by omega,ou _ _ (by rw [WM];omega),Za]
 have k1:∀ x,ca ([x],S)=some (.tup [x],S):=fun x=>aR (by simp)
 have k2:∀ x y,ca ([x,y],S)=some (.tup [x,y],S):=fun x y=>aR (by simp)
 have a1:aT S (.tup ((R.1.take g).map Wd.d)) (.tup [w.d])=some (.tup ((R.1.take g++[w]).map Wd.d)):=by rw [gY (by simp;omega)];simp
 have a2:aT S (.tup ((R.1.take g++[w]).map Wd.d)) (.tup ((R.1.drop (g+1)).map Wd.d))=some (cL (R.1.set g w)):=by
  rw [gY (by simp;omega),<- Xy,KI _ _ h];rfl
 simp only [lP,aS,bh,ak,bD,bJ,bI,oj,ob,aj,bi,g2,bg,aO,cy,bB,dR,ej,bK,aD,aX,be,aq,aG,cN,eV,cQ,eU,dA,dC,c1,av,am,az,al,k1,au,a1,bf,kR,c2,a2,k2,bq,aJ]
 rfl
def Sm:∀ {es:List En} {i:Nat} {e:En},(es.map (·.g)).Nodup->es[i]?=some e->(es.map fun x=>D.int (x.g:Int)).findIdx? (fun d=>jm d (.int (e.g:Int)))=some i
 | [],i,e,_,h=>by simp at h
 | x::l,0,e,_,h=>by
  simp at h;subst h
  rw [WR,Yw]
  have:jm (.int (x.g:Int)) (.int (x.g:Int))=true:=by show ((x.g:Int) == (x.g:Int))=true;simp
  rw [this];rfl
 | x::l,i+1,e,hn,h=>by
  rw [WR,YA] at hn
  have h':l[i]?=some e:=by simpa using h
  have ih:=Sm hn.2 h'
  rw [WR,Yw]
  have:jm (.int (x.g:Int)) (.int (e.g:Int))=false:=by
   show ((x.g:Int) == (e.g:Int))=false
   rw [XY]
   intro z
   have:x.g=e.g:=by omega
   exact hn.1 (by rw [this];exact Xk.mpr ⟨e,Xh h',rfl⟩)
  rw [this,ih];rfl
def UU(hn:(es.map (·.g)).Nodup){i:Nat}{e:En}(h:es[i]?=some e)(hl:es.length<=100):nB (.lst (es.map fun x=>D.int (x.g:Int))) [.int (e.g:Int)] S=some (.int (i:Int),S):=by
 unfold nB
 have h1:sJ S (.lst (es.map fun x=>D.int (x.g:Int)))=true:=rfl
 have h2:ii S (.lst (es.map fun x=>D.int (x.g:Int)))=some (es.map fun x=>D.int (x.g:Int)):=rfl
 have h3:cY 40 (.int (e.g:Int))=true/\(es.map fun x=>D.int (x.g:Int)).all (cY 39)=true/\(es.map fun x=>D.int (x.g:Int)).length<=sizeLine:=by
  refine⟨rfl,?_,sz (by rw [WM];omega)⟩
  rw [Xd];intro d hd;obtain⟨x,_,rfl⟩:=Xk.mp hd;rfl
 dsimp only
 rw [Xc h1,h2]
 show (if _ then _ else none)=_
 rw [Xc h3,Sm hn h];rfl
def zE:ME:=bE (cZ (ab 6)) (aE 4 (af (ah 0) (af (ah 1) (af (ah 2) (af (ah 3) (aB)))))) (bH) (aM (aa (ab 0) (aa (ab 1) (aa (ar aT (ab 2) (mC (.int 1))) (aa (ab 3) (ai)))))) [none,none,none,none]
def liGs:ME:=bE (cZ (ab 4)) (ah 0) (bH) (ar aw (ab 0) (mC (.int 0))) [none]
def qP(ww:PF):MS:=ay (aI (ab 1) (aE 2 (af (ah 3) (af (ah 4) (aB))))) (ay (aI (di nB liGs (aa (ab 2) (ai))) (ah 5)) (ay (aI (bt (ab 4) (bu) (bU (ab 5))) (ah 6)) (ay (bC (ax (ar bY (ar aw (ab 0) (mC (.int 0))) (mC (.str "passes")))) (aI (bd (aP (cw .tup)) (aa zE (ai))) (ah 6)) (aY)) (aV (ao 3 ww (aa (aM (aa (ab 3) (aa (ar aT (ab 6) (bt (ab 4) (bU (ar aT (ab 5) (mC (.int 1)))) (bu))) (ai)))) (aa (ab 2) (aa (dq Du (ar aw (ar aw (ab 4) (ab 5)) (mC (.int 1)))) (ai)))))))))
def Oh{en:MG}{t:ME}{f:En->D}(he:∀ (e:En) (a b c d:Option D),en e.d [a,b,c,d] S=some ([some (.int (e.g:Int)),some (.str (bo e.wr)),some (.int e.m),some (bP e.t)],S))(ht:∀ e:En,t [some (.int (e.g:Int)),some (.str (bo e.wr)),some (.int e.m),some (bP e.t)] S=some (f e,S)) :
  ∀ (es:List En) (a b c d:Option D),dF en bH t (es.map En.d) [a,b,c,d] S=some (es.map f,S)
 | [],a,b,c,d=>by simp
 | e::l,a,b,c,d=>by
  have ih:=Oh he ht l (some (.int (e.g:Int))) (some (.str (bo e.wr))) (some (.int e.m)) (some (bP e.t))
  rw [WR,gz,he,ob,uT,gM,ob,uS,ht,ob,uR,ih,ob,uQ,WR]
def SR(e:En):En:={ e with m:=e.m+1 }
def EN{a0 a1 a2 a3 a4 a5:Option D}(hl:es.length<=100):zE [a0,a1,a2,a3,a4,a5,some (cr es)] S=some (.lst ((es.map SR).map En.d),S):=by
 have k:=Oh (S:=S) (en:=aE 4 (af (ah 0) (af (ah 1) (af (ah 2) (af (ah 3) (aB)))))) (t:=aM (aa (ab 0) (aa (ab 1) (aa (ar aT (ab 2) (mC (.int 1))) (aa (ab 3) (ai)))))) (f:=fun e=>(SR e).d) (fun e a b c d=>by
  have g4:aE 4 (af (ah 0) (af (ah 1) (af (ah 2) (af (ah 3) (aB))))) e.d [a,b,c,d] S=(af (ah 0) (af (ah 1) (af (ah 2) (af (ah 3) (aB))))) [.int (e.g:Nat),.str (bo e.wr),.int e.m,bP e.t] [a,b,c,d] S:=tB
  rw [g4];simp only [bg,aO,ob,cy,bB,dR,ej]) (fun e=>by
  have k4:∀ x y z w,ca ([x,y,z,w],S)=some (.tup [x,y,z,w],S):=fun x y z w=>aR (by simp)
  simp only [be,aq,ak,bD,bJ,bI,oj,ob,aj,am,aG,av,bf,au,kR,az,al,k4]
  rfl) es none none none none
 simp only [zE,bW,dr,ak,bD,bJ,bI,oj,ob,aj,eQ]
 rw [jP (by rw [WM];omega)]
 show (dF _ bH _ (es.map En.d) [none,none,none,none] S).bind _=_
 rw [k,ob,fS,XC];rfl
def IJ{ww:PF}(hw:∀ (S:ac) (R:Rm) (g:Nat) (w:Wd),g<R.1.length->R.1.length<=100->ww [aW R,.int (g:Int),w.d] S=some (aW (R.1.set g w,R.2),S)){N:List Str}(hN:N.length=7)(h:ROk R){i:Nat}{e:En}(hi:R.2[i]?=some e)(hl:R.1.length<=50) :
  aQ N (qP ww) 3 [r.d,aW R,.int (e.g:Int)] S=some (aW (sM r R i e),S):=by
 have hst:aC N [r.d,aW R,.int (e.g:Int)]=[some r.d,some (aW R),some (.int (e.g:Int)),none,none,none,none]:=by simp [aC,hN,List.replicate]
 rw [ba (show [r.d,aW R,D.int (e.g:Int)].length=3 from rfl),hst]
 have hle:=h.len
 have hil:=(WJ.mp hi).1
 have g2:∀ env S,aE 2 (af (ah 3) (af (ah 4) (aB))) (aW R) env S=(af (ah 3) (af (ah 4) (aB))) [cL R.1,cr R.2] env S:=fun env S=>bX
 have gs:∀ env:bp,nk (ah 0) bH (ar aw (ab 0) (mC (.int 0))) [none] env (R.2.map En.d,S)=some (.lst (R.2.map fun e=>.int (e.g:Int)),S):=fun env=>gsC (b:=none) rfl (by omega)
 have km:∀ (ms:MA) env,nj nB ms env (.lst (R.2.map fun e=>.int (e.g:Int)),S)=(ms env S).bind (dO nB (.lst (R.2.map fun e=>.int (e.g:Int)))):=fun ms env=>rfl
 have ki:=UU (S:=S) h.nd hi (by omega)
 have c1:jd (cr R.2) none (some (i:Int),S)=some (cr (R.2.take i),S):=by
  rw [show cr R.2=.tup (R.2.map En.d) from rfl,nh,mW];unfold cr;rw [YZ]
 have c2:jd (cr R.2) (some ((i:Int)+1)) (none,S)=some (cr (R.2.drop (i+1)),S):=by
  rw [show cr R.2=.tup (R.2.map En.d) from rfl,nh,show ((i:Int)+1)=((i+1:Nat):Int) by omega,ou _ _ (by rw [WM];omega)];unfold cr;rw [Za]
 have w3:(r.w.s == ("passes":Str))=decide (r.w=.passes):=Rw.eq r.w .passes
 have x1:aw S (cr R.2) (.int (i:Int))=some e.d:=NC hi
 have k2:∀ x y,ca ([x,y],S)=some (.tup [x,y],S):=fun x y=>aR (by simp)
 have ad:∀ l:List En,l.length<=60->aT S (cr l) (cr (R.2.drop (i+1)))=some (cr (l++R.2.drop (i+1))):=fun l hl'=>by
  unfold cr;rw [gY (by simp;omega),<- Xy]
 have wi:=fun l=>hw S (R.1,l) e.g (if e.wr then .writes else .reads) (h.lt (Xh hi)) (show R.1.length<=100 by omega)
 have wi':∀ l,ww [.tup [cL R.1,cr l],.int (e.g:Int),(if e.wr then Wd.writes else Wd.reads).d] S=some (aW (R.1.set e.g (if e.wr then .writes else .reads),l),S):=wi
 have sq:aP (cw .tup) [.lst (((R.2.take i).map SR).map En.d)] S=some (cr ((R.2.take i).map SR),S):=by rw [eg];rfl
 simp only [qP,liGs,aS,bh,ak,bD,bJ,bI,oj,ob,aj,bi,g2,bg,aO,cy,bB,dR,ej,bK,aD,js,bW,dr,eQ,gs,km,aq,am,az,al,eC,ki,cN,eV,cQ,eU,dA,dC,c1,bm,aH,aG,av,bf,au,Rl.ix0,cH,w3,aF]
 by_cases hp:r.w=.passes
 ·rw [WU hp]
  have e1:(R.2.take i).map (qF r)=(R.2.take i).map SR:=by
   apply Zb;intro x _;simp [qF,SR,hp]
  simp only [bR,bh,bS,aq,EN (es:=R.2.take i) (by simp;omega),ob,am,az,al,bT,sq,bi,aO,dR,ej,bK,aD,aX,aK,be,ak,bD,bJ,bI,oj,aj,aG,av,cN,eV,dA,bf,au,kR,dC,eU,cQ,c2,ad _ (show ((R.2.take i).map SR).length<=60 by simp;omega),k2,uE,x1,En.ix1,Kj,bL,wi',bq,aJ]
  unfold sM;rw [e1]
 ·rw [WV hp]
  have e1:(R.2.take i).map (qF r)=R.2.take i:=by
   have:∀ x:En,qF r x=x:=fun x=>by simp [qF,hp]
   rw [Zb (fun x _=>this x),List.map_id']
  simp only [bM,bw,ob,aD,aX,aK,aq,be,ak,bD,bJ,bI,oj,aj,am,aG,av,cN,eV,dA,bf,au,kR,dC,eU,cQ,c2,ad _ (show (R.2.take i).length<=60 by simp;omega),az,al,k2,uE,x1,En.ix1,Kj,bL,wi',bq,aJ]
  unfold sM;rw [e1]
def sO:Option Ev->D
 | none=>.non
 | some v=>v.d
def vA(cg:PF):MS:=bC (da (ao 3 cg (aa (ab 0) (aa (ab 1) (aa (ab 2) (ai)))))) (aV (aM (aa (mC (.str "steps")) (aa (ab 2) (ai))))) (aY)
def pk(gw cg nx:PF):MS:=ay (dI (ao 2 gw (aa (ab 1) (aa (aM (aa (mC (.str "rising")) (ai))) (ai)))) (ah 2) (vA cg)) (ay (aI (ao 2 nx (aa (ab 0) (aa (ab 1) (ai)))) (ah 2)) (aV (lL (ax (ar wA (ab 2) (mC .non))) (mC .non) (aM (aa (mC (.str "in")) (aa (ab 2) (ai)))))))
def xY{cg:PF}(O:oB cg)(hl:R.1.length<=100):∀ (l:List Nat) (a:Option D),∃ b,cj (ah 2) (vA cg) (l.map ni) [some r.d,some (aW R),a] S=some (match l.find? (eh r R) with | some g=>.rt (Ev.mk "steps" g).d S | none=>.nx [some r.d,some (aW R),b] S)
 | [],a=>⟨a,by simp⟩
 | g::l,a=>by
  obtain⟨b,ih⟩:=xY O hl l (some (ni g))
  refine⟨b,?_⟩
  have c1:cg [r.d,aW R,ni g] S=some (.bl (eh r R g),S):=O.1 S r R g hl
  have k2:∀ x y,ca ([x,y],S)=some (.tup [x,y],S):=fun x y=>aR (by simp)
  rw [WR,dk,aO,ob,ej,ej,dR,jO]
  simp only [vA,bm,dW,aK,aq,ak,bD,bJ,bI,oj,ob,aj,am,az,al,bL,c1,fM,XN]
  cases hc:eh r R g with
  | true=>simp only [bR,aX,be,aq,bf,ob,am,ak,bD,bJ,bI,oj,aj,az,al,k2,bq,tq];rfl
  | false=>
   rw [bM,bw,ob,iF]
   exact ih
def FF{gw cg nx:PF}(hg:OA gw)(O:oB cg)(hn:∀ (S:ac) (r:Rl) (R:Rm),R.1.length<=100->R.2.length<=100->nx [r.d,aW R] S=some (oD (rP r R),S)){N:List Str}(hN:N.length=3)(hl:R.1.length<=100)(hl2:R.2.length<=100) :
  aQ N (pk gw cg nx) 2 [r.d,aW R] S=some (sO (oY r R),S):=by
 have hst:aC N [r.d,aW R]=[some r.d,some (aW R),none]:=by simp [aC,hN,List.replicate]
 rw [ba (show [r.d,aW R].length=2 from rfl),hst]
 have o1:gw [aW R,.tup [.str "rising"]] S=some (nt (tw (fun w=>decide (w∈[Wd.rising])) R.1),S):=hg S R [.rising] hl
 have k1:ca ([.str "rising"],S)=some (.tup [.str "rising"],S):=aR (by simp)
 have k2:∀ x y,ca ([x,y],S)=some (.tup [x,y],S):=fun x y=>aR (by simp)
 obtain⟨b,e⟩:=xY (S:=S) (r:=r) O hl (tw (fun w=>decide (w∈[Wd.rising])) R.1) none
 have ek:qk (ah 2) (vA cg) [some r.d,some (aW R),none] (nt (tw (fun w=>decide (w∈[Wd.rising])) R.1),S)=cj (ah 2) (vA cg) ((tw (fun w=>decide (w∈[Wd.rising])) R.1).map ni) [some r.d,some (aW R),none] S:=rfl
 have ew:(fun w=>decide (w∈[Wd.rising]))=fun w=>decide (w=Wd.rising):=by funext w;simp
 unfold oY
 simp only [pk,aS,lW,aK,aq,ak,bD,bJ,bI,oj,ob,aj,am,be,bf,az,al,k1,bj,o1,ek,e]
 rw [ew]
 cases hf:(tw (fun w=>decide (w=Wd.rising)) R.1).find? (eh r R) with
 | some g=>simp only [bQ,ob,aJ,sO]
 | none=>
  have n1:=hn S r R hl hl2
  simp only [aD,aS,bh,aK,aq,ak,bD,bJ,bI,oj,ob,aj,am,az,al,bj,n1,bi,aO,dR,ej,bK,aX,mK,aH,aG,av,bf,au,mL]
  cases rP r R with
  | none=>simp [oD,nq,sO]
  | some g=>simp [oD,nq,sO,k2,Ev.d]
def mU(ww li:PF):MS:=ay (aI (ab 2) (aE 2 (af (ah 3) (af (ah 4) (aB))))) (ay (bC (ax (ar bY (ab 3) (mC (.str "steps")))) (aV (ao 3 ww (aa (ab 1) (aa (ab 4) (aa (mC (.str "raised")) (ai)))))) (aY)) (aV (ao 3 li (aa (ab 0) (aa (ab 1) (aa (ab 4) (ai)))))))
def Dm{ww li:PF}(hw:∀ (S:ac) (R:Rm) (g:Nat) (w:Wd),g<R.1.length->R.1.length<=100->ww [aW R,.int (g:Int),w.d] S=some (aW (R.1.set g w,R.2),S))
  (hi:∀ (S:ac) (r:Rl) (R:Rm) (i:Nat) (e:En),ROk R->R.2[i]?=some e->R.1.length<=50->li [r.d,aW R,.int (e.g:Int)] S=some (aW (sM r R i e),S)) {N:List Str} (hN:N.length=5) (h:ROk R) (hl:R.1.length<=50) {v:Ev} {R':Rm} {l:List Ev} (s:FS r R (some v) R' l) :
  aQ N (mU ww li) 3 [r.d,aW R,v.d] S=some (aW R',S):=by
 have hst:aC N [r.d,aW R,v.d]=[some r.d,some (aW R),some v.d,none,none]:=by simp [aC,hN,List.replicate]
 rw [ba (show [r.d,aW R,v.d].length=3 from rfl),hst]
 have g2:∀ env S,aE 2 (af (ah 3) (af (ah 4) (aB))) v.d env S=(af (ah 3) (af (ah 4) (aB))) [.str v.w,.int (v.g:Nat)] env S:=fun env S=>bX
 simp only [mU,aS,bh,ak,bD,bJ,bI,oj,ob,aj,bi,g2,bg,aO,cy,bB,dR,ej,bK,aD,bm,aH,aG,av,bf,au,cH]
 cases s with
 | up g hg=>
  have e1:(("steps":Str) == ("steps":Str))=true:=by decide
  have w1:ww [aW R,.int (g:Int),.str "raised"] S=some (aW (R.1.set g .raised,R.2),S):=hw S R g .raised (WJ.mp hg).1 (by omega)
  simp only [e1,aF,bR,aX,aK,aq,ak,bD,bJ,bI,oj,ob,aj,am,bf,az,al,bL,w1,bq,bQ,aJ]
 | go i e he=>
  have e1:(("in":Str) == ("steps":Str))=false:=by decide
  have w1:=hi S r R i e h he hl
  simp only [e1,aF,bM,bw,aD,aX,aK,aq,ak,bD,bJ,bI,oj,ob,aj,am,az,al,bL,w1,bq,aJ]
def DL(br co:PF):MS:=ay (aI (ao 3 br (aa (ab 0) (aa (ab 1) (aa (ab 3) (ai))))) (ah 1)) (ay (db (di cX (ab 2) (aa (ab 3) (ai)))) (aI (ao 2 co (aa (ab 0) (aa (ab 1) (ai)))) (ah 3)))
def DH:MT:=ax (ar nA (ab 3) (mC .non))
def mS(br co:PF):MS:=ay (aI (dj (ai)) (ah 2)) (ay (aI (ao 2 co (aa (ab 0) (aa (ab 1) (ai)))) (ah 3)) (ay (dU DH (DL br co)) (aV (aM (aa (ab 1) (aa (bd (aP (cw .tup)) (aa (ab 2) (ai))) (ai)))))))
structure WA(br co:PF):Prop where
 c:∀ (S:ac) (r:Rl) (R:Rm),R.1.length<=100->R.2.length<=100->co [r.d,aW R] S=some (sO (oY r R),S)
 b:∀ (S:ac) (r:Rl) (R:Rm) (v:Ev) (R':Rm) (l:List Ev),ROk R->R.1.length<=50->FS r R (some v) R' l->br [r.d,aW R,v.d] S=some (aW R',S)
def wO{br co:PF}(O:WA br co)(hb:0<=r.b):∀ (n f:Nat) (R:Rm) (evs:List Ev),ROk R->R.1.length<=50->Ur R<=n->n<f->evs.length+n<=400 ->
  gL DH (DL br co) f [some r.d,some (aW R),some (.ref S.length),some (sO (oY r R))] (S++[.lst (evs.map Ev.d)])=some (.nx [some r.d,some (aW (sU r n R).1),some (.ref S.length),some .non] (S++[.lst ((evs++(sU r n R).2).map Ev.d)]))
 | n,0,R,evs,_,_,_,hf,_=>by omega
 | n,f+1,R,evs,h,hl,hm,hf,he=>by
  have s:=xX (r:=r) h hb
  rw [IH]
  simp only [DH,aH,aG,ak,bD,bJ,bI,oj,ob,aj,av,bf,au,qy]
  rcases HG h s with ⟨h1,h2,h3⟩ | ⟨v,h1,h2,h3⟩
  ·rw [h1,AS h1 h hb n]
   simp only [sO,nq,Xt,aF,ob,kWh_f,Xr]
  ·cases n with
   | zero=>omega
   | succ n=>
    obtain⟨q1,q2⟩:=DK (r:=r) h
    have ih:=wO O hb n f (mG r R).1 (evs++[v]) q1 (by omega) (by omega) (by omega) (by simp;omega)
    rw [h1] at s ⊢
    have b1:∀ S,br [r.d,aW R,v.d] S=some (aW (mG r R).1,S):=fun S=>O.b S r R v _ _ h hl s
    have c1:∀ S,co [r.d,aW (mG r R).1] S=some (sO (oY r (mG r R).1),S):=fun S=>O.c S r _ (by omega) (by have:=q1.len;omega)
    have ap:cX (.ref S.length) [v.d] (S++[.lst (evs.map Ev.d)])=some (.non,S++[.lst ((evs++[v]).map Ev.d)]):=Fl (by omega)
    have nn:nq (sO (some v)) .non=false:=rfl
    have ev:sO (some v)=v.d:=rfl
    rw [nn]
    simp only [Xz,aF,ob,kWh_t,DL,aS,bh,aK,aq,ak,bD,bJ,bI,oj,aj,am,az,al,bL,ev,b1,bi,aO,dR,ej,bK,aD,jt,js,Ac,eC,ap,jw,bj,c1,Qg]
    have e2:sU r (n+1) R=((sU r n (mG r R).1).1,(mG r R).2++(sU r n (mG r R).1).2):=rfl
    rw [e2,h2,<- Xm]
    exact ih
def yK{br co:PF}(O:WA br co)(hb:0<=r.b){N:List Str}(hN:N.length=4)(h:ROk R)(hl:R.1.length<=50) :
  aQ N (mS br co) 2 [r.d,aW R] S=some (.tup [aW (aZ r R).1,cI (aZ r R).2],S++[.lst ((aZ r R).2.map Ev.d)]):=by
 have hst:aC N [r.d,aW R]=[some r.d,some (aW R),none,none]:=by simp [aC,hN,List.replicate]
 rw [ba (show [r.d,aW R].length=2 from rfl),hst]
 have k0:qj ([],S)=some (.ref S.length,S++[.lst []]):=jN (by simp)
 have c1:∀ S,co [r.d,aW R] S=some (sO (oY r R),S):=fun S=>O.c S r _ (by omega) (by have:=h.len;omega)
 have lp:=wO (S:=S) O hb (2 * R.1.length) 5000 R [] h hl (Uq h) (by omega) (by simp;omega)
 simp only [Zh,YO] at lp
 have k2:∀ S x y,ca ([x,y],S)=some (.tup [x,y],S):=fun S x y=>aR (by simp)
 unfold aZ
 simp only [mS,aS,bh,nX,az,ob,k0,bi,aO,dR,ej,bK,aD,aK,aq,ak,bD,bJ,bI,oj,aj,am,al,bj,c1,LS,lp,aX,be,bS,bT,Nj,k2,bq,aJ]
end
section
variable{S:ac}{r:Rl}{R:Rm}
def MY{x:D}(h:cY 40 x=true):ib S x x=some (.bl false):=by
 rw [rA h h,nG 40 x h];rfl
end
section
variable{r:Rl}
structure Calm(ws:List Wd):Prop where
 only:∀ w∈ws,w=.out\/w=.reads
 one:1<=ws.count .reads
def Calm.set{ws:List Wd}(c:Calm ws){g:Nat}(hg:ws[g]?=some .out):Calm (ws.set g .reads)/\(ws.set g .reads).count .reads=ws.count .reads+1:=by
 have h:=lC (b:=.reads) hg (by decide) .reads
 simp at h
 have:=c.one
 refine⟨⟨fun w hw=>?_,by omega⟩,h⟩
 rcases List.mem_or_eq_of_mem_set hw with z | z
 ·exact c.only w z
 ·exact .inr z
end
section
variable{α:Type}{enc:α->D}{p:α->Bool}{f:α->D}{t:MT}{e:ME}{rest:bp}{S:ac}{r:Nat}{xs:List α}
end
section
variable{r:Rl}{es:List En}
end
def HZ{n:Nat}:cD 0 n=(List.range n).map ni:=by
 unfold cD ni
 refine Zb fun i _=>?_
 rw [aaA]
section
variable{α:Type}{enc:α->D}{f:α->Nat->D}{e:ME}{mi:MA}{S:ac}{n:Nat}{c:Option D}
end
section
variable{S:ac}{n:Nat}{a:Option D}
end
def pU(wait:PF):MS:=
 ay (bC (ax (ar bY (ar aw (ab 1) (mC (.int 0))) (mC (.str "tick")))) (aV (mC (.bl true))) (aY)) (ay (aI (bt (ab 1) (bu) (bU (mC (.int 2)))) (aE 2 (af (ah 2) (af (ah 3) (aB))))) (ay (aI (ar aw (ar aw (ab 0) (mC (.int 0))) (ab 3)) (ah 4)) (ay (bC (ax (ar bY (ab 2) (mC (.str "up")))) (aV (ar bY (ab 4) (mC (.str "reads")))) (aY)) (ay (bC (ax (ar bY (ab 2) (mC (.str "down")))) (aV (ar kz (ab 4) (mC (.tup [.str "writes",.str "raised"])))) (aY)) (ay (bC (ax (ar bY (ab 2) (mC (.str "leave")))) (aV (ar ib (ab 4) (mC (.str "out")))) (aY)) (ay (bC (ax (ar bY (ab 2) (mC (.str "stop")))) (aV (ar nA (ao 2 wait (aa (ab 0) (aa (ab 3) (ai)))) (mC .non))) (aY)) (aV (dG (ar bY (ab 4) (mC (.str "out"))) (ar wA (ao 2 wait (aa (ab 0) (aa (ab 3) (ai)))) (mC .non))))))))))
def Fg{es:List En}{g:Nat}:(es.find? fun e=>decide (e.g=g)).isSome=bA es g:=by
 unfold bA;rw [List.isSome_find?]
def lM{R:Rm}{g:Nat}:nq (kA R g) .non = !(decide (R.1[g]?=some .rising)||bA R.2 g):=by
 unfold kA
 rw [<- Fg]
 by_cases h:R.1[g]?=some .rising
 ·rw [Xc h,WU h];rfl
 ·rw [if_neg h,WV h]
  cases R.2.find? fun e=>decide (e.g=g) with
  | none=>rfl
  | some e=>cases e.wr <;> rfl
def JO{wait:PF}(O:rL wait){N:List Str}(hN:N.length=5){S:ac}{R:Rm}{dd:Dd}(hl:R.1.length<=100)(hd:dd.Ok R.1.length)(ht:dd≠.tick):aQ N (pU wait) 2 [aW R,dd.d] S=some (.bl (iB R dd),S):=by
 have hst:aC N [aW R,dd.d]=[some (aW R),some dd.d,none,none,none]:=by simp [aC,hN,List.replicate]
 rw [ba (show [aW R,dd.d].length=2 from rfl),hst]
 have x0:∀ S,aw S dd.d (.int 0)=some (.str (cK dd)):=fun S=>by cases dd <;> first | rfl | exact absurd rfl ht
 have tk:bY S (.str (cK dd)) (.str "tick")=some (.bl false):=by rw [cH,Df ht]
 have hg:bb dd<R.1.length:=by cases dd with
  | ask _ _ _=>exact hd.1
  | act _ _=>exact hd
  | tick=>exact absurd rfl ht
 have hw:R.1[bb dd]?=some R.1[bb dd]:=WS hg
 have xw:∀ S,aw S (cL R.1) (.int (bb dd:Int))=some (R.1[bb dd]).d:=fun S=>wG hw
 have sl:∀ S,jd dd.d none (some 2,S)=some (.tup [.str (cK dd),.int (bb dd:Int)],S):=fun S=>by cases dd <;> first | rfl | exact absurd rfl ht
 have g2:∀ x y env S,aE 2 (af (ah 2) (af (ah 3) (aB))) (.tup [x,y]) env S=(af (ah 2) (af (ah 3) (aB))) [x,y] env S:=fun x y env S=>bX
 have rx:∀ S,aw S (aW R) (.int 0)=some (cL R.1):=fun S=>rfl
 have wt:∀ S,wait [aW R,.int (bb dd:Int)] S=some (kA R (bb dd),S):=fun S=>O S R _ hl
 simp only [pU,aS,bm,aH,aG,ak,bD,bJ,bI,oj,ob,aj,av,bf,au,x0,tk,aF,bM,bw,aD,bh,cN,eV,cQ,eU,dA,dC,sl,bi,g2,bg,aO,cy,bB,dR,ej,bK,rx,xw]
 generalize hv:R.1[bb dd]=w at hw
 have e1:bY S w.d (.str "reads")=some (.bl (decide (w=.reads))):=nC (b:=.reads)
 have e2:ib S w.d (.str "out")=some (.bl (!decide (w=.out))):=vq (b:=.out)
 have e3:bY S w.d (.str "out")=some (.bl (decide (w=.out))):=nC (b:=.out)
 cases dd with
 | tick=>exact absurd rfl ht
 | act k g=>
  simp only [bb] at hw wt ⊢
  have wk:∀ j:Ak,bY S (.str (cK (.act k g))) (.str j.s)=some (.bl (decide (k=j))):=fun j=>Aa
  have w1:=wk .up
  have w2:=wk .down
  have w3:=wk .leave
  have w4:=wk .stop
  simp only [Ak.s] at w1 w2 w3 w4
  cases k with
  | up=>simp only [w1,aF,ob,Yl,bR,aX,aG,ak,bD,bJ,bI,oj,aj,av,bf,au,e1,bq,bQ,aJ,iB,hw,Yf]
  | down=>simp (decide:=true) only [w1,w2,aF,ob,Yl,YI,bM,bw,aD,bR,aS,bm,aH,aX,aG,ak,bD,bJ,bI,oj,aj,av,bf,au,Nb,bq,bQ,aJ,iB,hw,Yf]
  | leave=>simp (decide:=true) only [w1,w2,w3,aF,ob,Yl,YI,bM,bw,aD,bR,aS,bm,aH,aX,aG,ak,bD,bJ,bI,oj,aj,av,bf,au,e2,bq,bQ,aJ,iB,hw,Yf,ne_eq,decide_not]
  | stop=>
   simp (decide:=true) only [w1,w2,w3,w4,aF,ob,Yl,YI,bM,bw,aD,bR,aS,bm,aH,aX,aG,ak,bD,bJ,bI,oj,aj,av,bf,au,aK,aq,am,az,al,bj,wt,qy,lM,bq,bQ,aJ,iB,Bool.not_not,Bool.or_comm]
 | ask wr g t=>
  simp only [bb] at hw wt ⊢
  have w1:bY S (.str (cK (.ask wr g t))) (.str "up")=some (.bl false):=by rw [cH];cases wr <;> rfl
  have w2:bY S (.str (cK (.ask wr g t))) (.str "down")=some (.bl false):=by rw [cH];cases wr <;> rfl
  have w3:bY S (.str (cK (.ask wr g t))) (.str "leave")=some (.bl false):=by rw [cH];cases wr <;> rfl
  have w4:bY S (.str (cK (.ask wr g t))) (.str "stop")=some (.bl false):=by rw [cH];cases wr <;> rfl
  simp only [w1,w2,w3,w4,aF,ob,bM,bw,aD,aS,bm,aH,aX,aG,ak,bD,bJ,bI,oj,aj,av,bf,au,pz,e3]
  by_cases hw':w=.out
  ·subst hw'
   simp only [Yl,uU,aG,aK,aq,ak,bD,bJ,bI,oj,ob,aj,am,az,al,bj,wt,av,bf,au,mL,lM,bq,aJ,iB,hw,Yf]
   simp
  ·simp only [WV hw',Va,ob,bq,aJ,iB,hw,Yf,Ym]
section
variable{r:Rl}{R:Rm}{g:Nat}
def DJ(h:(mG r R).1.1[g]?=some .rising):R.1[g]?=some .rising:=by
 have key:∀ (i:Nat) (w:Wd),w≠.rising->(R.1.set i w)[g]?=some .rising->R.1[g]?=some .rising:=fun i w hw q=>by
  by_cases e:i=g
  ·subst e
   by_cases hl:i<R.1.length
   ·rw [Xn hl] at q;exact absurd (Xg q) hw
   ·rw [List.getElem?_eq_none (by simp;omega)] at q;cases q
  ·rwa [Xf e] at q
 unfold mG at h
 split at h
 ·exact key _ _ (by decide) h
 ·split at h
  ·split at h
   ·rename_i e _
    refine key _ _ ?_ h
    cases e.wr <;> decide
   ·exact h
  ·exact h
def pg:∀ (n:Nat) {R:Rm},(sU r n R).1.1[g]?=some .rising->R.1[g]?=some .rising
 | 0,_,h=>h
 | n+1,R,h=>DJ (pg n (R:=(mG r R).1) h)
def HI(h:bA (mG r R).1.2 g=true):bA R.2 g=true:=by
 obtain⟨e,he,hg⟩:=XW.mp h
 unfold mG at he
 split at he
 ·exact XW.mpr ⟨e,he,hg⟩
 ·split at he
  ·split at he
   ·rcases Xj.mp he with he | he
    ·obtain⟨y,hy,rfl⟩:=Xk.mp he
     exact XW.mpr ⟨y,Yb hy,hg⟩
    ·exact XW.mpr ⟨e,aaF he,hg⟩
   ·exact XW.mpr ⟨e,he,hg⟩
  ·exact XW.mpr ⟨e,he,hg⟩
def wQ:∀ (n:Nat) {R:Rm},bA (sU r n R).1.2 g=true->bA R.2 g=true
 | 0,_,h=>h
 | n+1,R,h=>HI (wQ n (R:=(mG r R).1) h)
def uj(h:ROk R){w:Wd}(hw:R.1[g]?=some w)(ho:w≠.out):bA R.2 g=false:=by
 cases z:bA R.2 g with
 | false=>rfl
 | true=>
  obtain⟨e,he,hg⟩:=XW.mp z
  have:=h.out e he
  rw [XO hg,hw] at this
  exact absurd (Xg this) ho
def CO{es:List En}(h:bA es g=false):(es.filter fun e=>decide (e.g≠g))=es:=by
 rw [XZ]
 intro e he
 exact WU (jn h he)
end
def Ho(settled:PF):Prop:=∀ (S:ac) (r:Rl) (R:Rm),0<=r.b->ROk R->R.1.length<=50->settled [r.d,aW R] S=some (.tup [aW (aZ r R).1,cI (aZ r R).2],S++[.lst ((aZ r R).2.map Ev.d)])
structure DeOk(settled wait gw ww:PF):Prop where
 s:Ho settled
 w:rL wait
 g:OA gw
 ww:∀ (S:ac) (R:Rm) (g:Nat) (w:Wd),g<R.1.length->R.1.length<=100->ww [aW R,.int (g:Int),w.d] S=some (aW (R.1.set g w,R.2),S)
def Fk{S:ac}{k l:List Ev}(h:k.length<=400)(h':l.length<=400):aT S (cI k) (cI l)=some (cI (k++l)):=by
 show aT S (.tup (k.map Ev.d)) (.tup (l.map Ev.d))=_
 rw [gY (by simp;omega),<- Xy];rfl
def yr{r:Rl}{R:Rm}(hl:R.1.length<=50):(aZ r R).2.length<=100:=Xl (nV _) (by omega)
def jo(x:Rm×List Ev):D:=.tup [aW x.1,cI x.2]
def Eb:MS:=ay (aI (ab 0) (aE 2 (af (ah 2) (af (ah 3) (aB))))) (aV (aM (aa (ab 2) (aa (bd (aP (cw .tup)) (aa (bE (cZ (ab 3)) (ah 0) (ax (ar ib (ar aw (ab 0) (mC (.int 0))) (ab 1))) (ab 0) [none,some 1]) (ai))) (ai)))))
section
variable{S:ac}{r:Rl}{R:Rm}{g:Nat}{N:List Str}{settled wait gw ww wo sb tu ol:PF}
def SO(hN:N.length=4)(hl:R.2.length<=100):aQ N Eb 2 [aW R,.int (g:Int)] S=some (aW (R.1,R.2.filter fun e=>decide (e.g≠g)),S):=by
 have hst:aC N [aW R,.int (g:Int)]=[some (aW R),some (.int (g:Int)),none,none]:=by simp [aC,hN,List.replicate]
 rw [ba (show [aW R,D.int (g:Int)].length=2 from rfl),hst]
 have g2:∀ env S,aE 2 (af (ah 2) (af (ah 3) (aB))) (aW R) env S=(af (ah 2) (af (ah 3) (aB))) [cL R.1,cr R.2] env S:=fun env S=>bX
 have k2:∀ x y:D,ca ([x,y],S)=some (.tup [x,y],S):=fun x y=>aR (by simp)
 have k:=KU (S:=S) (es:=R.2) (g:=g) (b:=none) (cap:=[none,some 1]) (env:=[some (aW R),some (.int (g:Int)),some (cL R.1),some (cr R.2)]) rfl hl
 simp only [Eb,aS,bh,ak,bD,bJ,bI,oj,ob,aj,bi,g2,bg,aO,cy,bB,dR,ej,bK,aD,aX,be,aq,bS,bW,dr,eQ,k,am,az,al,bT,eg,k2,bq,aJ]
 rfl
def Ed(settled:PF):MS:=ay (aI (ao 2 settled (aa (ab 0) (aa (ab 1) (ai)))) (aE 2 (af (ah 1) (af (ah 3) (aB))))) (aV (aM (aa (ab 1) (aa (ar aT (ab 2) (ab 3)) (ai)))))
def RK(sb:PF):Prop:=∀ (S:ac) (r:Rl) (R:Rm) (l:List Ev),0<=r.b->ROk R->R.1.length<=50->l.length<=400->∃ T,sb [r.d,aW R,cI l] S=some (jo ((aZ r R).1,l++(aZ r R).2),S++T)
def To(O:Ho settled)(hN:N.length=4){l:List Ev}(hb:0<=r.b)(h:ROk R)(hl:R.1.length<=50)(h4:l.length<=400):∃ T,aQ N (Ed settled) 3 [r.d,aW R,cI l] S=some (jo ((aZ r R).1,l++(aZ r R).2),S++T):=by
 have hst:aC N [r.d,aW R,cI l]=[some r.d,some (aW R),some (cI l),none]:=by simp [aC,hN,List.replicate]
 rw [ba (show [r.d,aW R,cI l].length=3 from rfl),hst]
 have o:=O S r R hb h hl
 have fw:=yr (r:=r) hl
 have g2:∀ (x y:D) env S,aE 2 (af (ah 1) (af (ah 3) (aB))) (.tup [x,y]) env S=(af (ah 1) (af (ah 3) (aB))) [x,y] env S:=fun x y env S=>bX
 have k2:∀ S (x y:D),ca ([x,y],S)=some (.tup [x,y],S):=fun S x y=>aR (by simp)
 have ec:∀ S,aT S (cI l) (cI (aZ r R).2)=some (cI (l++(aZ r R).2)):=fun S=>Fk h4 (by omega)
 refine⟨[.lst ((aZ r R).2.map Ev.d)],?_⟩
 simp only [Ed,aS,bh,aK,aq,ak,bD,bJ,bI,oj,ob,aj,am,az,al,bj,o,bi,g2,bg,aO,cy,bB,dR,ej,bK,aD,aX,be,aG,av,au,ec,k2,bq,aJ,jo]
def tuC:ME:=bE (cZ (ab 4)) (aE 4 (af (ah 0) (af (ah 1) (af (ah 2) (af (ah 3) (aB)))))) (bH) (aM (aa (ab 0) (aa (ab 1) (aa (lL (ax (ar bY (ab 1) (mC (.str "read")))) (mC (.int 1)) (ab 2)) (aa (ab 3) (ai)))))) [none,none,none,none]
def Ec:MS:=ay (aI (ab 1) (aE 2 (af (ah 3) (af (ah 4) (aB))))) (ay (bC (eL (ax (ar ib (ar aw (ab 0) (mC (.int 0))) (mC (.str "turns")))) (ax (ar ib (ar aw (ab 3) (ab 2)) (mC (.str "writes"))))) (aV (ab 1)) (aY)) (aV (aM (aa (ab 3) (aa (bd (aP (cw .tup)) (aa tuC (ai))) (ai))))))
def Mn{e:ME}{f:En->D}{cap:List (Option Nat)}{env:bp}{a b c d:Option D}{es:List En}(hc:lD cap env=[a,b,c,d])(hl:es.length<=1000)(he:∀ x:En,e [some (.int (x.g:Nat)),some (.str (bo x.wr)),some (.int x.m),some (bP x.t)] S=some (f x,S)) :
  nk (aE 4 (af (ah 0) (af (ah 1) (af (ah 2) (af (ah 3) (aB)))))) bH e cap env (es.map En.d,S)=some (.lst (es.map f),S):=by
 rw [jP (by rw [WM];exact hl),hc,Oh (t:=e) (f:=f) (fun x a b c d=>?_) he,ob,fS]
 rw [show x.d=.tup [.int (x.g:Nat),.str (bo x.wr),.int x.m,bP x.t] from rfl,tB]
 simp only [bg,aO,ob,dR,ej,cy,bB]
def Kl{b:Bool}:(bo b == ("read":Str)) = !b:=by cases b <;> decide +kernel
def TuOk(tu:PF):Prop:=∀ (S:ac) (r:Rl) (R:Rm) (g:Nat) (w:Wd),R.1[g]?=some w->R.2.length<=100->tu [r.d,aW R,.int (g:Int)] S=some (aW (R.1,um r w R.2),S)
def SY(hN:N.length=5){w:Wd}(hw:R.1[g]?=some w)(hl:R.2.length<=100):aQ N Ec 3 [r.d,aW R,.int (g:Int)] S=some (aW (R.1,um r w R.2),S):=by
 have hst:aC N [r.d,aW R,.int (g:Int)]=[some r.d,some (aW R),some (.int (g:Int)),none,none]:=by simp [aC,hN,List.replicate]
 rw [ba (show [r.d,aW R,D.int (g:Int)].length=3 from rfl),hst]
 have g2:∀ env S,aE 2 (af (ah 3) (af (ah 4) (aB))) (aW R) env S=(af (ah 3) (af (ah 4) (aB))) [cL R.1,cr R.2] env S:=fun env S=>bX
 have k2:∀ x y:D,ca ([x,y],S)=some (.tup [x,y],S):=fun x y=>aR (by simp)
 have k4:∀ x y z u:D,ca ([x,y,z,u],S)=some (.tup [x,y,z,u],S):=fun x y z u=>aR (by simp)
 have xw:aw S (cL R.1) (.int (g:Int))=some w.d:=wG hw
 have x0:aw S r.d (.int 0)=some (.str r.w.s):=rfl
 have e1:ib S (.str r.w.s) (.str "turns")=some (.bl (!decide (r.w=.turns))):=by
  rw [rq];congr 2;cases r.w <;> decide +kernel
 have e2:ib S w.d (.str "writes")=some (.bl (!decide (w=.writes))):=vq (b:=.writes)
 have k:=Mn (S:=S) (es:=R.2) (cap:=[none,none,none,none]) (env:=[some r.d,some (aW R),some (.int (g:Int)),some (cL R.1),some (cr R.2)]) (a:=none) (b:=none) (c:=none) (d:=none) (e:=aM (aa (ab 0) (aa (ab 1) (aa (lL (ax (ar bY (ab 1) (mC (.str "read")))) (mC (.int 1)) (ab 2)) (aa (ab 3) (ai)))))) (f:=fun x=>(if x.wr then x else { x with m:=1 }).d) rfl (by omega) fun x=>by
  obtain⟨xg,xwr,xm,xt⟩:=x
  cases xwr with
  | true=>
   have:bY S (.str (bo true)) (.str "read")=some (.bl false):=by rw [cH,Kl];rfl
   simp only [be,aq,ak,bD,bJ,bI,oj,ob,aj,am,mK,aH,aG,av,bf,au,this,aF,Cp,az,al,k4]
   rfl
  | false=>
   have:bY S (.str (bo false)) (.str "read")=some (.bl true):=by rw [cH,Kl];rfl
   simp only [be,aq,ak,bD,bJ,bI,oj,ob,aj,am,mK,aH,aG,av,bf,au,this,aF,xz,az,al,k4]
   rfl
 simp only [Ec,aS,bh,ak,bD,bJ,bI,oj,ob,aj,bi,g2,bg,aO,cy,bB,dR,ej,bK,aD,bm,jc,aH,aG,av,bf,au,x0,e1,aF]
 unfold um
 by_cases h1:r.w=.turns
 ·simp only [WU h1,Xt,mf,aH,aG,ak,bD,bJ,bI,oj,ob,aj,av,bf,au,xw,e2,aF]
  by_cases h2:w=.writes
  ·simp only [WU h2,Xt,bM,bw,ob,aD,aX,be,aq,ak,bD,bJ,bI,oj,aj,am,bS,tuC,bW,dr,eQ,k,az,al,bT,eg,k2,bq,aJ]
   rw [Xc ⟨h1,h2⟩]
   simp only [aW,cr,XC]
   rfl
  ·simp only [WV h2,Xz,bR,aX,ak,bD,bJ,bI,oj,ob,aj,bq,bQ,aJ]
   rw [if_neg (fun z=>h2 z.2)]
 ·simp only [WV h1,Xz,zP,ob,bR,aX,ak,bD,bJ,bI,oj,aj,bq,bQ,aJ]
  rw [if_neg (fun z=>h1 z.1)]
def yO(settled wait wo:PF):MS:=ay (aI (ab 2) (aE 3 (af (ah 3) (af (ah 4) (af (ah 5) (aB)))))) (ay (aI (ab 1) (aE 2 (af (ah 6) (af (ah 7) (aB))))) (ay (aI (aM (aa (ab 4) (aa (ab 3) (aa (mC (.int 0)) (aa (lL (ax (ar bY (ab 5) (mC (.int 0)))) (mC (.int 1)) (ab 5)) (ai)))))) (ah 8)) (ay (aI (ao 2 settled (aa (ab 0) (aa (aM (aa (ab 6) (aa (ar aT (ab 7) (aM (aa (ab 8) (ai)))) (ai)))) (ai)))) (aE 2 (af (ah 1) (af (ah 9) (aB))))) (ay (bC (ax (ar wA (ao 2 wait (aa (ab 1) (aa (ab 4) (ai)))) (mC .non))) (aV (aM (aa (ab 1) (aa (ab 9) (ai))))) (aY)) (ay (bC (ax (ar bY (ab 5) (mC (.int 0)))) (aV (aM (aa (ao 2 wo (aa (ab 1) (aa (ab 4) (ai)))) (aa (ar aT (ab 9) (aM (aa (aM (aa (mC (.str "no")) (aa (ab 4) (ai)))) (ai)))) (ai))))) (aY)) (aV (aM (aa (ab 1) (aa (ar aT (ab 9) (aM (aa (aM (aa (mC (.str "waits")) (aa (ab 4) (ai)))) (ai)))) (ai))))))))))
def Wy(wo:PF):Prop:=∀ (S:ac) (R:Rm) (g:Nat),R.2.length<=100->wo [aW R,.int (g:Int)] S=some (aW (R.1,R.2.filter fun e=>decide (e.g≠g)),S)
def RJ(O:Ho settled)(W:rL wait)(V:Wy wo)(hN:N.length=10){wr:Bool}{t:Option Int}(hb:0<=r.b)(h:ROk R)(hl:R.1.length<=50)(hw:R.1[g]?=some .out)(hs:bA R.2 g=false):∃ T,aQ N (yO settled wait wo) 3 [r.d,aW R,(Dd.ask wr g t).d] S=some (jo (sR r R wr g t),S++T):=by
 have hst:aC N [r.d,aW R,(Dd.ask wr g t).d]=[some r.d,some (aW R),some (Dd.ask wr g t).d,none,none,none,none,none,none,none]:=by simp [aC,hN,List.replicate]
 rw [ba (show [r.d,aW R,(Dd.ask wr g t).d].length=3 from rfl),hst]
 have hle:=h.len
 have ok:=At (wr:=wr) (t:=t) h hw hs
 have g3:∀ env S,aE 3 (af (ah 3) (af (ah 4) (af (ah 5) (aB)))) (Dd.ask wr g t).d env S=(af (ah 3) (af (ah 4) (af (ah 5) (aB)))) [.str (bo wr),.int (g:Int),bP t] env S:=fun env S=>mq
 have g2:∀ env S,aE 2 (af (ah 6) (af (ah 7) (aB))) (aW R) env S=(af (ah 6) (af (ah 7) (aB))) [cL R.1,cr R.2] env S:=fun env S=>bX
 have g2':∀ (x y:D) env S,aE 2 (af (ah 1) (af (ah 9) (aB))) (.tup [x,y]) env S=(af (ah 1) (af (ah 9) (aB))) [x,y] env S:=fun x y env S=>bX
 have k1:∀ S (x:D),ca ([x],S)=some (.tup [x],S):=fun S x=>aR (by simp)
 have k2:∀ S (x y:D),ca ([x,y],S)=some (.tup [x,y],S):=fun S x y=>aR (by simp)
 have k4:∀ S (x y z u:D),ca ([x,y,z,u],S)=some (.tup [x,y,z,u],S):=fun S x y z u=>aR (by simp)
 have hi:lL (ax (ar bY (ab 5) (mC (.int 0)))) (mC (.int 1)) (ab 5) [some r.d,some (aW R),some (Dd.ask wr g t).d,some (.str (bo wr)),some (.int (g:Int)),some (bP t),some (cL R.1),some (cr R.2),none,none] S=some (bP (if t=some 0 then some 1 else t),S):=by
  simp only [mK,aH,aG,ak,bD,bJ,bI,oj,ob,aj,av,bf,au,jZ,aF]
  by_cases z:t=some 0
  ·rw [WU z,Xc z];simp only [xz,bf];rfl
  ·rw [WV z,if_neg z];simp only [Cp,ak,bD,bJ,bI,oj,ob,aj]
 have ed:D.tup [.int (g:Int),.str (bo wr),.int 0,bP (if t=some 0 then some 1 else t)]=(mD wr g t).d:=rfl
 have ae:aT S (cr R.2) (.tup [(mD wr g t).d])=some (cr (R.2++[mD wr g t])):=by
  show aT S (.tup (R.2.map En.d)) _=_
  rw [gY (by simp;omega)];simp [cr]
 have so:=O S r (R.1,R.2++[mD wr g t]) hb ok hl
 have so':settled [r.d,.tup [cL R.1,cr (R.2++[mD wr g t])]] S=_:=so
 have fw:=yr (r:=r) (R:=(R.1,R.2++[mD wr g t])) hl
 have lnS:(aZ r (R.1,R.2++[mD wr g t])).1.1.length=R.1.length:=(dQ (r:=r) ok).2
 have okS:=(dQ (r:=r) ok).1
 have ln2:=okS.len
 generalize hA:aZ r (R.1,R.2++[mD wr g t])=A at so' fw lnS okS ln2
 have nr:¬ A.1.1[g]?=some .rising:=fun z=>by
  rw [<- hA] at z
  have:=pg _ z
  rw [hw] at this;cases this
 have wt:∀ S,wait [aW A.1,.int (g:Int)] S=some (kA A.1 g,S):=fun S=>W S A.1 g (by omega)
 have vo:∀ S,wo [aW A.1,.int (g:Int)] S=some (aW (A.1.1,A.1.2.filter fun e=>decide (e.g≠g)),S):=fun S=>V S A.1 g (by omega)
 have e1:∀ S (w:Str),aT S (cI A.2) (.tup [.tup [.str w,.int (g:Int)]])=some (cI (A.2++[⟨w,g⟩])):=fun S w=>Fk (l:=[⟨w,g⟩]) (by omega) (by simp)
 have wb:nq (kA A.1 g) .non = !bA A.1.2 g:=by rw [lM,WV nr,Bool.false_or]
 refine⟨[.lst (A.2.map Ev.d)],?_⟩
 simp only [yO,aS,bh,ak,bD,bJ,bI,oj,ob,aj,bi,g3,bg,aO,cy,bB,dR,ej,bK,aD,g2,be,aq,bf,hi,am,az,al,k4,ed,aK,aG,av,k1,au,ae,k2,bj,so',g2',bm,aH,wt,mL,wb,aF]
 unfold sR
 rw [hA]
 dsimp only
 cases hst:bA A.1.2 g with
 | false=>
  rw [Xc rfl]
  simp only [Xz,bR,aX,be,aq,ak,bD,bJ,bI,oj,ob,aj,am,az,al,k2,bq,bQ,aJ,jo]
 | true=>
  rw [if_neg (by decide)]
  simp only [Xt,bM,bw,ob,aD,aS,bm,aH,aG,ak,bD,bJ,bI,oj,aj,av,bf,au,jZ,aF]
  by_cases z:t=some 0
  ·rw [WU z,Xc z]
   simp only [bR,aX,be,aq,aK,ak,bD,bJ,bI,oj,ob,aj,am,az,al,bj,vo,aG,av,bf,k2,k1,au,e1,bq,bQ,aJ,jo]
  ·rw [WV z,if_neg z]
   simp only [bM,bw,ob,aD,aX,be,aq,ak,bD,bJ,bI,oj,aj,am,az,al,aG,av,bf,k2,k1,au,e1,bq,aJ,jo]
def FP(h:ROk R){k:Ak}{w:Wd}(hs:bA R.2 g=false):rK r k w g R.2=if k=.down\/k=.leave then um r w R.2 else R.2:=by
 unfold rK
 refine CO ?_
 split
 ·unfold um
  split
  ·unfold bA
   rw [Zi]
   refine Eq.trans ?_ hs
   unfold bA
   congr 1
   funext e
   show decide ((if e.wr=true then e else { e with m:=1 }).g=g)=_
   cases e.wr <;> rfl
  ·exact hs
 ·exact hs
def yL(settled wait gw ww:PF):MS:=ay (aI (ar aw (ab 2) (mC (.int 1))) (ah 3)) (ay (bC (eL (ax (ar bY (ar aw (ab 0) (mC (.int 3))) (mC (.int 0)))) (da (ao 2 gw (aa (ab 1) (aa (aM (aa (mC (.str "rising")) (ai))) (ai)))))) (aV (aM (aa (ab 1) (aa (aM (aa (aM (aa (mC (.str "no")) (aa (ab 3) (ai)))) (ai))) (ai))))) (aY)) (ay (aI (ao 2 settled (aa (ab 0) (aa (ao 3 ww (aa (ab 1) (aa (ab 3) (aa (mC (.str "rising")) (ai))))) (ai)))) (aE 2 (af (ah 1) (af (ah 4) (aB))))) (ay (bC (ax (ar wA (ao 2 wait (aa (ab 1) (aa (ab 3) (ai)))) (mC .non))) (aV (aM (aa (ab 1) (aa (ab 4) (ai))))) (aY)) (aV (aM (aa (ab 1) (aa (ar aT (ab 4) (aM (aa (aM (aa (mC (.str "waits")) (aa (ab 3) (ai)))) (ai)))) (ai))))))))
def SQ(O:DeOk settled wait gw ww)(hN:N.length=5)(hb:0<=r.b)(h:ROk R)(hl:R.1.length<=50)(hw:R.1[g]?=some .reads):∃ T,aQ N (yL settled wait gw ww) 3 [r.d,aW R,(Dd.act .up g).d] S=some (jo (if r.c=0\/Wd.rising∈R.1 then (R,[⟨"no",g⟩]) else mN r R .up g .reads),S++T):=by
 have hst:aC N [r.d,aW R,(Dd.act .up g).d]=[some r.d,some (aW R),some (Dd.act .up g).d,none,none]:=by simp [aC,hN,List.replicate]
 rw [ba (show [r.d,aW R,(Dd.act .up g).d].length=3 from rfl),hst]
 have hg:g<R.1.length:=(WJ.mp hw).1
 have x1:aw S (Dd.act .up g).d (.int 1)=some (.int (g:Int)):=rfl
 have x3:aw S r.d (.int 3)=some (.int r.c):=rfl
 have k1:∀ S (x:D),ca ([x],S)=some (.tup [x],S):=fun S x=>aR (by simp)
 have k2:∀ S (x y:D),ca ([x,y],S)=some (.tup [x,y],S):=fun S x y=>aR (by simp)
 have gr:gw [aW R,.tup [.str "rising"]] S=some (nt (tw (fun w=>decide (w∈[Wd.rising])) R.1),S):=O.g S R [.rising] (by omega)
 have tr:zO (nt (tw (fun w=>decide (w∈[Wd.rising])) R.1),S)=some (decide (Wd.rising∈R.1),S):=by
  cases hx:tw (fun w=>decide (w∈[Wd.rising])) R.1 with
  | nil=>
   have:¬ Wd.rising∈R.1:=fun z=>by
    obtain⟨i,hi⟩:=YX.mp z
    have:i∈tw (fun w=>decide (w∈[Wd.rising])) R.1:=mem_ixW.mpr ⟨_,hi,by simp⟩
    rw [hx] at this;cases this
   rw [WV this];rfl
  | cons i l=>
   have:i∈tw (fun w=>decide (w∈[Wd.rising])) R.1:=by rw [hx];exact WL
   obtain⟨w,h1,h2⟩:=mem_ixW.mp this
   have e:w=.rising:=by simpa using h2
   subst e
   rw [WU (Xh h1)];rfl
 have ref:(r.c=0\/Wd.rising∈R.1)->∀ env,env=[some r.d,some (aW R),some (Dd.act .up g).d,some (.int (g:Int)),none]->eL (ax (ar bY (ar aw (ab 0) (mC (.int 3))) (mC (.int 0)))) (da (ao 2 gw (aa (ab 1) (aa (aM (aa (mC (.str "rising")) (ai))) (ai))))) env S=some (true,S):=fun z env he=>by
  subst he
  by_cases hc:r.c=0
  ·have:(r.c == 0)=true:=by rw [hc];rfl
   simp only [jc,aH,aG,ak,bD,bJ,bI,oj,ob,aj,av,bf,au,x3,jf,this,aF,zP]
  ·have q:(r.c == 0)=false:=XY.mpr hc
   simp only [jc,aH,aG,ak,bD,bJ,bI,oj,ob,aj,av,bf,au,x3,jf,q,aF,mf,dW,aK,aq,am,be,az,al,k1,bj,gr,tr,WU (z.resolve_left hc)]
 by_cases z:r.c=0\/Wd.rising∈R.1
 ·rw [Xc z]
  refine⟨[],?_⟩
  simp only [yL,aS,bh,aG,ak,bD,bJ,bI,oj,ob,aj,av,bf,au,x1,bi,aO,dR,ej,bK,aD,bm,ref z _ rfl,bR,aX,be,aq,am,az,al,k2,k1,bq,bQ,aJ,Xr]
  rfl
 ·rw [if_neg z]
  have hc:(r.c == 0)=false:=XY.mpr fun q=>z (.inl q)
  have hr:¬ Wd.rising∈R.1:=fun q=>z (.inr q)
  have hs:=uj h hw (by decide)
  have wwo:ww [aW R,.int (g:Int),.str "rising"] S=some (aW (R.1.set g .rising,R.2),S):=O.ww S R g .rising hg (by omega)
  have ok:ROk (R.1.set g .rising,R.2):=h.setW g .rising fun e he=>jn hs he
  have so:=O.s S r (R.1.set g .rising,R.2) hb ok (by simp;omega)
  have fw:=yr (r:=r) (R:=(R.1.set g .rising,R.2)) (by simp;omega)
  have lnS:(aZ r (R.1.set g .rising,R.2)).1.1.length=R.1.length:=(dQ (r:=r) ok).2.trans (by simp)
  have ns:bA (aZ r (R.1.set g .rising,R.2)).1.2 g=false:=by
   cases q:bA (aZ r (R.1.set g .rising,R.2)).1.2 g with
   | false=>rfl
   | true=>have:=wQ _ q;rw [hs] at this;cases this
  have aL:mN r R .up g .reads=((aZ r (R.1.set g .rising,R.2)).1,(aZ r (R.1.set g .rising,R.2)).2++(if (aZ r (R.1.set g .rising,R.2)).1.1[g]?=some .rising then [⟨"waits",g⟩] else [])):=by
   unfold mN
   rw [FP h hs,if_neg (by decide)]
   rfl
  rw [aL]
  generalize aZ r (R.1.set g .rising,R.2)=A at so fw lnS ns
  have wt:∀ S,wait [aW A.1,.int (g:Int)] S=some (kA A.1 g,S):=fun S=>O.w S A.1 g (by omega)
  have g2:∀ (x y:D) env S,aE 2 (af (ah 1) (af (ah 4) (aB))) (.tup [x,y]) env S=(af (ah 1) (af (ah 4) (aB))) [x,y] env S:=fun x y env S=>bX
  have e1:∀ S (w:Str),aT S (cI A.2) (.tup [.tup [.str w,.int (g:Int)]])=some (cI (A.2++[⟨w,g⟩])):=fun S w=>Fk (l:=[⟨w,g⟩]) (by omega) (by simp)
  have wb:nq (kA A.1 g) .non = !decide (A.1.1[g]?=some .rising):=by rw [lM,ns,aao]
  refine⟨[.lst (A.2.map Ev.d)],?_⟩
  simp only [yL,aS,bh,aG,ak,bD,bJ,bI,oj,ob,aj,av,bf,au,x1,bi,aO,dR,ej,bK,aD,bm,jc,aH,x3,jf,hc,aF,mf,dW,aK,aq,am,be,az,al,k1,bj,gr,tr,WV hr,bM,bw,bL,wwo,so,g2,bg,cy,bB,wt,mL,wb]
  by_cases q:A.1.1[g]?=some .rising
  ·rw [WU q,Xc q]
   simp only [Xt,bM,bw,ob,aD,aX,be,aq,ak,bD,bJ,bI,oj,aj,am,az,al,aG,av,bf,k2,k1,au,e1,bq,aJ,jo]
  ·rw [WV q,if_neg q,Xr]
   simp only [Xz,bR,aX,be,aq,ak,bD,bJ,bI,oj,ob,aj,am,az,al,k2,bq,bQ,aJ,jo]
def pR(sb ww tu:PF)(x y:Str):MS:=ay (aI (ar aw (ab 2) (mC (.int 1))) (ah 3)) (aV (ao 3 sb (aa (ab 0) (aa (ao 3 ww (aa (ao 3 tu (aa (ab 0) (aa (ab 1) (aa (ab 3) (ai))))) (aa (ab 3) (aa (mC (.str x)) (ai))))) (aa (aM (aa (aM (aa (mC (.str y)) (aa (ab 3) (ai)))) (ai))) (ai))))))
def Aw{k:Ak}{w w':Wd}{es:List En}(hg:g<R.1.length)(hk:gJ k w=w')(hr:w'≠.rising)(he:rK r k w g R.2=es):mN r R k g w=((aZ r (R.1.set g w',es)).1,gf k g++(aZ r (R.1.set g w',es)).2):=by
 unfold mN
 rw [hk,he]
 dsimp only
 rw [if_neg,Xr]
 intro z
 have:=pg _ z
 rw [Xn hg] at this
 exact hr (Xg this)
def Da(SB:RK sb)(WW:∀ (S:ac) (R:Rm) (g:Nat) (w:Wd),g<R.1.length->R.1.length<=100->ww [aW R,.int (g:Int),w.d] S=some (aW (R.1.set g w,R.2),S))(TU:TuOk tu)(hN:N.length=4)(hb:0<=r.b)(h:ROk R)(hl:R.1.length<=50){w w':Wd}{k:Ak}{y:Str}(hw:R.1[g]?=some w)(ho:w≠.out)(hk:k=.down\/k=.leave)(ht:gJ k w=w')(hr:w'≠.rising)(hf:gf k g=[⟨y,g⟩]) :
  ∃ T,aQ N (pR sb ww tu w'.s y) 3 [r.d,aW R,(Dd.act k g).d] S=some (jo (mN r R k g w),S++T):=by
 have hst:aC N [r.d,aW R,(Dd.act k g).d]=[some r.d,some (aW R),some (Dd.act k g).d,none]:=by simp [aC,hN,List.replicate]
 rw [ba (show [r.d,aW R,(Dd.act k g).d].length=3 from rfl),hst]
 have hg:g<R.1.length:=(WJ.mp hw).1
 have hle:=h.len
 have hs:=uj h hw ho
 have he:rK r k w g R.2=um r w R.2:=by rw [FP h hs,Xc hk]
 rw [Aw hg ht hr he,hf]
 have x1:aw S (Dd.act k g).d (.int 1)=some (.int (g:Int)):=rfl
 have k1:∀ S (x:D),ca ([x],S)=some (.tup [x],S):=fun S x=>aR (by simp)
 have k2:∀ S (x y:D),ca ([x,y],S)=some (.tup [x,y],S):=fun S x y=>aR (by simp)
 have t1:=TU S r R g w hw (by omega)
 have w1:ww [aW (R.1,um r w R.2),.int (g:Int),.str w'.s] S=some (aW (R.1.set g w',um r w R.2),S):=WW S (R.1,um r w R.2) g w' hg (by show R.1.length<=100;omega)
 have ok:ROk (R.1.set g w',um r w R.2):=by rw [<- he];exact Ax h _
 obtain⟨T,s1⟩:=SB S r (R.1.set g w',um r w R.2) [⟨y,g⟩] hb ok (by simp;omega) (by simp)
 refine⟨T,?_⟩
 have s1':sb [r.d,aW (R.1.set g w',um r w R.2),.tup [.tup [.str y,.int (g:Int)]]] S=_:=s1
 simp only [pR,aS,bh,aG,ak,bD,bJ,bI,oj,ob,aj,av,bf,au,x1,bi,aO,dR,ej,bK,aD,aX,aK,aq,am,az,al,bL,t1,w1,be,k2,k1,s1',bq,aJ]
def pP(sb ww wo wait:PF):MS:=ay (aI (ar aw (ab 2) (mC (.int 1))) (ah 3)) (ay (bC (ax (ar bY (ao 2 wait (aa (ab 1) (aa (ab 3) (ai)))) (mC (.str "up")))) (aI (ao 3 ww (aa (ab 1) (aa (ab 3) (aa (mC (.str "reads")) (ai))))) (ah 4)) (aI (ao 2 wo (aa (ab 1) (aa (ab 3) (ai)))) (ah 4))) (aV (ao 3 sb (aa (ab 0) (aa (ab 4) (aa (aM (aa (aM (aa (mC (.str "ends")) (aa (ab 3) (ai)))) (ai))) (ai)))))))
def FW:bY S (kA R g) (.str "up")=some (.bl (decide (R.1[g]?=some .rising))):=by
 unfold kA
 by_cases h:R.1[g]?=some .rising
 ·rw [Xc h,WU h,cH];rfl
 ·rw [if_neg h,WV h]
  cases R.2.find? fun e=>decide (e.g=g) with
  | none=>rw [mx rfl rfl];rfl
  | some e=>
   show bY S (.str (bo e.wr)) (.str "up")=_
   rw [cH];cases e.wr <;> rfl
def KC(SB:RK sb)(WW:∀ (S:ac) (R:Rm) (g:Nat) (w:Wd),g<R.1.length->R.1.length<=100->ww [aW R,.int (g:Int),w.d] S=some (aW (R.1.set g w,R.2),S))(V:Wy wo)(W:rL wait)(hN:N.length=5)(hb:0<=r.b)(h:ROk R)(hl:R.1.length<=50){w:Wd}(hw:R.1[g]?=some w)(hc:iB R (.act .stop g)=true) :
  ∃ T,aQ N (pP sb ww wo wait) 3 [r.d,aW R,(Dd.act .stop g).d] S=some (jo (mN r R .stop g w),S++T):=by
 have hst:aC N [r.d,aW R,(Dd.act .stop g).d]=[some r.d,some (aW R),some (Dd.act .stop g).d,none,none]:=by simp [aC,hN,List.replicate]
 rw [ba (show [r.d,aW R,(Dd.act .stop g).d].length=3 from rfl),hst]
 have hg:g<R.1.length:=(WJ.mp hw).1
 have hle:=h.len
 have x1:aw S (Dd.act .stop g).d (.int 1)=some (.int (g:Int)):=rfl
 have k1:∀ S (x:D),ca ([x],S)=some (.tup [x],S):=fun S x=>aR (by simp)
 have k2:∀ S (x y:D),ca ([x,y],S)=some (.tup [x,y],S):=fun S x y=>aR (by simp)
 have wt:wait [aW R,.int (g:Int)] S=some (kA R g,S):=W S R g (by omega)
 have fin:∀ R':Rm,ROk R'->R'.1.length=R.1.length->mN r R .stop g w=((aZ r R').1,gf .stop g++(aZ r R').2)->∃ T,sb [r.d,aW R',.tup [.tup [.str "ends",.int (g:Int)]]] S=some (jo (mN r R .stop g w),S++T):=fun R' ok hl' ha=>by
  obtain⟨T,s1⟩:=SB S r R' [⟨"ends",g⟩] hb ok (by omega) (by simp)
  refine⟨T,?_⟩
  rw [ha];exact s1
 by_cases hr:w=.rising
 ·subst hr
  have hs:=uj h hw (by decide)
  have he:rK r .stop .rising g R.2=R.2:=by rw [FP h hs,if_neg (by decide)]
  have w1:ww [aW R,.int (g:Int),.str "reads"] S=some (aW (R.1.set g .reads,R.2),S):=WW S R g .reads hg (by omega)
  obtain⟨T,s1⟩:=fin (R.1.set g .reads,R.2) (h.setW g .reads fun e q=>jn hs q) (by simp) (Aw hg rfl (by decide) he)
  refine⟨T,?_⟩
  simp only [pP,aS,bh,aG,ak,bD,bJ,bI,oj,ob,aj,av,bf,au,x1,bi,aO,dR,ej,bK,aD,bm,aH,aK,aq,am,az,al,bj,wt,FW,WU hw,aF,bR,bL,w1,aX,be,k2,k1,s1,bq,aJ]
 ·have ho:w=.out:=by
   unfold iB at hc
   rw [Ze] at hc
   rcases hc with q | q
   ·obtain⟨e,he,hge⟩:=XW.mp q
    have:=h.out e he
    rw [XO hge,hw] at this
    exact Xg this
   ·have:=XO q;rw [hw] at this;exact absurd (Xg this) hr
  subst ho
  have hn:¬ R.1[g]?=some .rising:=by rw [hw];intro z;cases z
  have v1:wo [aW R,.int (g:Int)] S=some (aW (R.1,R.2.filter fun e=>decide (e.g≠g)),S):=V S R g (by omega)
  have hset:R.1.set g .out=R.1:=by
   obtain⟨q,e⟩:=WJ.mp hw
   rw [<- e];exact List.set_getElem_self q
  have ha:=Aw (r:=r) (R:=R) (g:=g) (k:=.stop) (w:=.out) (w':=.out) (es:=R.2.filter fun e=>decide (e.g≠g)) hg rfl (by decide) (by unfold rK;rw [if_neg (by decide)])
  rw [hset] at ha
  obtain⟨T,s1⟩:=fin (R.1,R.2.filter fun e=>decide (e.g≠g)) (ROk.filter h _) rfl ha
  refine⟨T,?_⟩
  simp only [pP,aS,bh,aG,ak,bD,bJ,bI,oj,ob,aj,av,bf,au,x1,bi,aO,dR,ej,bK,aD,bm,aH,aK,aq,am,az,al,bj,wt,FW,WV hn,aF,bM,v1,aX,be,k2,k1,bL,s1,bq,aJ]
def pQ:MS:=aV (lL (ax (ar wA (ab 0) (mC .non))) (mC .non) (ar oH (ab 0) (mC (.int 1))))
def Mh(hN:N.length=1){t:Option Int}:aQ N pQ 1 [bP t] S=some (bP (t.map (· - 1)),S):=by
 have hst:aC N [bP t]=[some (bP t)]:=by simp [aC,hN]
 rw [ba (show [bP t].length=1 from rfl),hst]
 cases t with
 | none=>
  have i1:nq (bP none) .non=true:=rfl
  simp only [pQ,aX,mK,aH,aG,ak,bD,oj,ob,aj,av,bf,au,mL,i1,aF,xz,bq,aJ];rfl
 | some t=>
  have i1:nq (bP (some t)) .non=false:=rfl
  have s1:oH S (bP (some t)) (.int 1)=some (bP (some (t - 1))):=zY
  simp only [pQ,aX,mK,aH,aG,ak,bD,oj,ob,aj,av,bf,au,mL,i1,aF,Cp,s1,bq,aJ];rfl
def tkA(ol:PF):ME:=bE (cZ (ab 4)) (aE 4 (af (ah 0) (af (ah 1) (af (ah 2) (af (ah 3) (aB)))))) (bH) (aM (aa (ab 0) (aa (ab 1) (aa (ab 2) (aa (ao 1 ol (aa (ab 3) (ai))) (ai)))))) [none,none,none,none]
def tkB:ME:=bE (cZ (ab 5)) (ah 0) (ax (ar bY (ar aw (ab 0) (mC (.int 3))) (mC (.int 0)))) (aM (aa (mC (.str "ends")) (aa (ar aw (ab 0) (mC (.int 0))) (ai)))) [none]
def tkC:ME:=bE (cZ (ab 5)) (ah 0) (ax (ar ib (ar aw (ab 0) (mC (.int 3))) (mC (.int 0)))) (ab 0) [none]
def tY(sb ol:PF):MS:=ay (aI (ab 1) (aE 2 (af (ah 3) (af (ah 4) (aB))))) (ay (aI (tkA ol) (ah 5)) (ay (aI (bd (aP (cw .tup)) (aa tkB (ai))) (ah 6)) (ay (aI (bd (aP (cw .tup)) (aa tkC (ai))) (ah 7)) (aV (ao 3 sb (aa (ab 0) (aa (aM (aa (ab 3) (aa (ab 7) (ai)))) (aa (ab 6) (ai)))))))))
def Kv(SB:RK sb)(L:∀ (S:ac) (t:Option Int),ol [bP t] S=some (bP (t.map (· - 1)),S))(hN:N.length=8)(hb:0<=r.b)(h:ROk R)(hl:R.1.length<=50):∃ T,aQ N (tY sb ol) 3 [r.d,aW R,Dd.tick.d] S=some (jo (oK r R),S++T):=by
 have hst:aC N [r.d,aW R,Dd.tick.d]=[some r.d,some (aW R),some Dd.tick.d,none,none,none,none,none]:=by simp [aC,hN,List.replicate]
 rw [ba (show [r.d,aW R,Dd.tick.d].length=3 from rfl),hst]
 have hle:=h.len
 have g2:∀ env S,aE 2 (af (ah 3) (af (ah 4) (aB))) (aW R) env S=(af (ah 3) (af (ah 4) (aB))) [cL R.1,cr R.2] env S:=fun env S=>bX
 have k2:∀ x y:D,ca ([x,y],S)=some (.tup [x,y],S):=fun x y=>aR (by simp)
 have k4:∀ x y z u:D,ca ([x,y,z,u],S)=some (.tup [x,y,z,u],S):=fun x y z u=>aR (by simp)
 have a:=Mn (S:=S) (es:=R.2) (cap:=[none,none,none,none]) (env:=[some r.d,some (aW R),some Dd.tick.d,some (cL R.1),some (cr R.2),none,none,none]) (a:=none) (b:=none) (c:=none) (d:=none) (e:=aM (aa (ab 0) (aa (ab 1) (aa (ab 2) (aa (ao 1 ol (aa (ab 3) (ai))) (ai)))))) (f:=fun x=>(gG x).d) rfl (by omega) fun x=>by
  simp only [be,aq,ak,bD,bJ,bI,oj,ob,aj,am,aK,az,al,qm,L,k4];rfl
 have b:=fL (S:=S) (t:=ax (ar bY (ar aw (ab 0) (mC (.int 3))) (mC (.int 0)))) (e:=aM (aa (mC (.str "ends")) (aa (ar aw (ab 0) (mC (.int 0))) (ai)))) (cap:=[none]) (env:=[some r.d,some (aW R),some Dd.tick.d,some (cL R.1),some (cr R.2),some (.lst ((R.2.map gG).map En.d)),none,none]) (rest:=[]) (a:=none) (enc:=En.d) (p:=fun e=>decide (e.t=some 0)) (f:=fun e=>Ev.d ⟨"ends",e.g⟩) (xs:=R.2.map gG) rfl (by rw [WM];omega) (fun e _=>by
  have x3:aw S e.d (.int 3)=some (bP e.t):=rfl
  simp only [aH,aG,ak,bD,bJ,bI,oj,ob,aj,av,bf,au,x3,jZ,aF]) (fun e _ _=>by
  simp only [be,aq,bf,ob,am,aG,ak,bD,oj,aj,av,au,En.ix0,az,al,k2];rfl)
 have c:=fL (S:=S) (t:=ax (ar ib (ar aw (ab 0) (mC (.int 3))) (mC (.int 0)))) (e:=ab 0) (cap:=[none]) (env:=[some r.d,some (aW R),some Dd.tick.d,some (cL R.1),some (cr R.2),some (.lst ((R.2.map gG).map En.d)),some (cI (((R.2.map gG).filter fun e=>decide (e.t=some 0)).map fun e=>⟨"ends",e.g⟩)),none]) (rest:=[]) (a:=none) (enc:=En.d) (p:=fun e=>decide (e.t≠some 0)) (f:=En.d) (xs:=R.2.map gG) rfl (by rw [WM];omega) (fun e _=>by
  have x3:aw S e.d (.int 3)=some (bP e.t):=rfl
  simp only [aH,aG,ak,bD,bJ,bI,oj,ob,aj,av,bf,au,x3,CQ,aF,ne_eq,decide_not]) (fun e _ _=>by simp only [ak,bD,oj,ob,aj])
 have ma:(R.2.map fun x=>(gG x).d)=(R.2.map gG).map En.d:=by rw [XC];rfl
 rw [ma] at a
 have it:∀ l:List D,EX (.lst l,S)=some (l,S):=fun l=>uO
 have sb1:aP (cw .tup) [.lst (((R.2.map gG).filter fun e=>decide (e.t=some 0)).map fun e=>Ev.d ⟨"ends",e.g⟩)] S=some (cI (((R.2.map gG).filter fun e=>decide (e.t=some 0)).map fun e=>⟨"ends",e.g⟩),S):=by
  rw [eg];unfold cI;rw [XC];rfl
 have sc1:aP (cw .tup) [.lst (((R.2.map gG).filter fun e=>decide (e.t≠some 0)).map En.d)] S=some (cr ((R.2.map gG).filter fun e=>decide (e.t≠some 0)),S):=eg
 obtain⟨T,s1⟩:=SB S r (R.1,(R.2.map gG).filter fun e=>decide (e.t≠some 0)) (((R.2.map gG).filter fun(e:En)=>decide (e.t=some 0)).map fun(e:En)=>Ev.mk "ends" e.g) hb (ROk.filter (ROk.mapE h gG fun e=>rfl) _) hl (by
  rw [WM];exact Xl (XR _ _) (by rw [WM];omega))
 refine⟨T,?_⟩
 have s1':sb [r.d,.tup [cL R.1,cr ((R.2.map gG).filter fun e=>decide (e.t≠some 0))],cI (((R.2.map gG).filter fun e=>decide (e.t=some 0)).map fun e=>⟨"ends",e.g⟩)] S=some (jo (oK r R),S++T):=s1
 simp only [tY,aS,bh,ak,bD,bJ,bI,oj,ob,aj,bi,g2,bg,aO,cy,bB,dR,ej,bK,aD,tkA,bW,dr,eQ,a,bS,aq,tkB,it,b,am,az,al,bT,sb1,tkC,c,sc1,aX,aK,be,k2,bL,s1',bq,aJ]
structure BrOk(ask up down leave stop tick:PF):Prop where
 a:∀ (S:ac) (r:Rl) (R:Rm) (wr:Bool) (g:Nat) (t:Option Int),0<=r.b->ROk R->R.1.length<=50->R.1[g]?=some .out->bA R.2 g=false->∃ T,ask [r.d,aW R,(Dd.ask wr g t).d] S=some (jo (sR r R wr g t),S++T)
 u:∀ (S:ac) (r:Rl) (R:Rm) (g:Nat),0<=r.b->ROk R->R.1.length<=50->R.1[g]?=some .reads->∃ T,up [r.d,aW R,(Dd.act .up g).d] S=some (jo (if r.c=0\/Wd.rising∈R.1 then (R,[⟨"no",g⟩]) else mN r R .up g .reads),S++T)
 d:∀ (S:ac) (r:Rl) (R:Rm) (g:Nat) (w:Wd),0<=r.b->ROk R->R.1.length<=50->R.1[g]?=some w->w≠.out->∃ T,down [r.d,aW R,(Dd.act .down g).d] S=some (jo (mN r R .down g w),S++T)
 l:∀ (S:ac) (r:Rl) (R:Rm) (g:Nat) (w:Wd),0<=r.b->ROk R->R.1.length<=50->R.1[g]?=some w->w≠.out->∃ T,leave [r.d,aW R,(Dd.act .leave g).d] S=some (jo (mN r R .leave g w),S++T)
 s:∀ (S:ac) (r:Rl) (R:Rm) (g:Nat) (w:Wd),0<=r.b->ROk R->R.1.length<=50->R.1[g]?=some w->iB R (.act .stop g)=true->∃ T,stop [r.d,aW R,(Dd.act .stop g).d] S=some (jo (mN r R .stop g w),S++T)
 t:∀ (S:ac) (r:Rl) (R:Rm),0<=r.b->ROk R->R.1.length<=50->∃ T,tick [r.d,aW R,Dd.tick.d] S=some (jo (oK r R),S++T)
def brL(ask up down leave stop tick:PF):List (bG×Nat×PF):=[(.inr "read",3,ask),(.inr "write",3,ask),(.inr "up",3,up),(.inr "down",3,down),(.inr "leave",3,leave),(.inr "stop",3,stop),(.inr "tick",3,tick)]
def pS(l:List (bG×Nat×PF)):MS:=gN l 3 (ar aw (ab 2) (mC (.int 0))) (aa (ab 0) (aa (ab 1) (aa (ab 2) (ai))))
def kf{l:List (bG×Nat×PF)}{f:PF}{x y z d:D}{w:Str}(hN:N.length=4)(hx:aw S z (.int 0)=some (.str w))(hv:AH l (.inr w)=some (3,f)){S':ac}(hf:f [x,y,z] S=some (d,S')):aQ N (pS l) 3 [x,y,z] S=some (d,S'):=by
 have hst:aC N [x,y,z]=[some x,some y,some z,none]:=by simp [aC,hN,List.replicate]
 rw [ba (show [x,y,z].length=3 from rfl),hst]
 have kd:=fun ms env=>Ms (S:=S) (d:=.str w) (ms:=ms) (env:=env) (i:=3) (l:=l) zM hv
 have k3:zQ 3 f ([x,y,z],S)=(f [x,y,z] S).bind kRt:=IT rfl
 simp only [pS,Qd,aG,ak,bD,bJ,bI,oj,ob,aj,av,bf,au,hx,kd,dR,ej,aq,am,az,al,k3,hf,bq,aJ]
def Ih{ask up down leave stop tick:PF}(B:BrOk ask up down leave stop tick)(hN:N.length=4){dd:Dd}{x:Rm×List Ev}(hb:0<=r.b)(h:ROk R)(hl:R.1.length<=50)(hd:dd.Ok R.1.length)(hx:fI r R dd=some x):∃ T,aQ N (pS (brL ask up down leave stop tick)) 3 [r.d,aW R,dd.d] S=some (jo x,S++T):=by
 unfold fI at hx
 split at hx
 ·cases hx
 rename_i hcan
 rw [Bool.not_eq_false] at hcan
 split at hx
 ·cases hx
  obtain⟨T,e⟩:=B.t S r R hb h hl
  exact⟨T,kf (w:="tick") hN rfl (by rfl) e⟩
 ·rename_i wr g t
  cases hx
  unfold iB at hcan
  rw [WP] at hcan
  obtain⟨T,e⟩:=B.a S r R wr g t hb h hl (XO hcan.1) (by simpa using hcan.2)
  refine⟨T,?_⟩
  cases wr
  ·exact kf (w:="read") hN rfl (by rfl) e
  ·exact kf (w:="write") hN rfl (by rfl) e
 ·rename_i k g
  have hg:g<R.1.length:=hd
  obtain⟨w,hw⟩:∃ w,R.1[g]?=some w:=⟨_,WS hg⟩
  rw [hw] at hx
  dsimp only at hx
  cases k with
  | up=>
   have hr:R.1[g]?=some .reads:=XO hcan
   rw [hw] at hr;cases hr
   obtain⟨T,e⟩:=B.u S r R g hb h hl hw
   refine⟨T,kf (w:="up") hN rfl (by rfl) ?_⟩
   rw [e]
   by_cases z:r.c=0\/Wd.rising∈R.1
   ·rw [Xc ⟨rfl,z⟩] at hx;cases hx;rw [Xc z]
   ·rw [if_neg (fun q=>z q.2)] at hx;cases hx;rw [if_neg z]
  | down=>
   rw [if_neg (fun q=>by cases q.1)] at hx;cases hx
   have ho:w≠.out:=fun z=>by
    subst z
    have hc2:(decide (R.1[g]?=some Wd.writes)||decide (R.1[g]?=some Wd.raised))=true:=hcan
    rw [hw] at hc2;revert hc2;decide
   obtain⟨T,e⟩:=B.d S r R g w hb h hl hw ho
   exact⟨T,kf (w:="down") hN rfl (by rfl) e⟩
  | leave=>
   rw [if_neg (fun q=>by cases q.1)] at hx;cases hx
   have ho:w≠.out:=fun z=>by
    subst z
    exact(XO hcan) hw
   obtain⟨T,e⟩:=B.l S r R g w hb h hl hw ho
   exact⟨T,kf (w:="leave") hN rfl (by rfl) e⟩
  | stop=>
   rw [if_neg (fun q=>by cases q.1)] at hx;cases hx
   obtain⟨T,e⟩:=B.s S r R g w hb h hl hw hcan
   exact⟨T,kf (w:="stop") hN rfl (by rfl) e⟩
end
section
variable{S:ac}{N:List Str}{r:Rl}{R:Rm}{n:Nat}{dd:Dd}
def yM:MS:=aV (dG (dN "tuple" (ab 0)) (ar bY (bd (aP fg) (aa (ab 0) (ai))) (ab 1)))
def SJ(f:PF):Prop:=∀ (S:ac) (xs:List D) (k:Int),f [.tup xs,.int k] S=some (.bl (decide ((xs.length:Int)=k)),S)
def OK(hN:N.length=2){xs:List D}{k:Int}:aQ N yM 2 [.tup xs,.int k] S=some (.bl (decide ((xs.length:Int)=k)),S):=by
 have hst:aC N [D.tup xs,D.int k]=[some (.tup xs),some (.int k)]:=by simp [aC,hN]
 rw [ba (show [D.tup xs,D.int k].length=2 from rfl),hst]
 have it:lA "tuple" S (.tup xs)=some (.bl true):=rfl
 simp only [yM,aX,pz,Ma,ak,bD,bJ,bI,oj,ob,aj,Mr,it,uU,aG,bS,aq,am,az,al,bT,Fi,av,au,jf,bq,aJ]
 rfl
def tW:MS:=aV (dG (dN "str" (ab 0)) (ar kz (ab 0) (ab 1)))
def Oz(f:PF):Prop:=∀ (S:ac) (x:Str) (ys:List Str),x∈ys->f [.str x,.tup (ys.map .str)] S=some (.bl true,S)
def Ki(hN:N.length=2){x:Str}{ys:List Str}(h:x∈ys):aQ N tW 2 [.str x,.tup (ys.map .str)] S=some (.bl true,S):=by
 have hst:aC N [D.str x,D.tup (ys.map .str)]=[some (.str x),some (.tup (ys.map .str))]:=by simp [aC,hN]
 rw [ba (show [D.str x,D.tup (ys.map .str)].length=2 from rfl),hst]
 have it:lA "str" S (.str x)=some (.bl true):=rfl
 have fi:kz S (.str x) (.tup (ys.map .str))=some (.bl true):=by
  rw [je (ys:=ys.map .str) rfl rfl (by rw [Xd];intro d hd;obtain⟨y,_,rfl⟩:=Xk.mp hd;rfl)]
  have:((ys.map D.str).any fun d=>jm d (.str x))=true:=XW.mpr ⟨.str x,Xk.mpr ⟨x,h,rfl⟩,by show (x == x)=true;simp⟩
  rw [this]
 simp only [tW,aX,pz,Ma,ak,bD,bJ,bI,oj,ob,aj,Mr,it,uU,aG,av,au,fi,bq,aJ]
def qO:MS:=aV (dG (dN "int" (ab 0)) (fQ (dN "bool" (ab 0))))
def sW(whole:PF):MS:=aV (dG (ao 1 whole (aa (ab 0) (ai))) (cS QG QG (ab 1) (ab 0) (ab 2)))
def SM(f:PF):Prop:=∀ (S:ac) (i lo hi:Int),f [.int i,.int lo,.int hi] S=some (.bl (decide (lo<=i)&&decide (i<=hi)),S)
def Hv(hN:N.length=1){i:Int}:aQ N qO 1 [.int i] S=some (.bl true,S):=by
 have hst:aC N [D.int i]=[some (.int i)]:=by simp [aC,hN]
 rw [ba (show [D.int i].length=1 from rfl),hst]
 have i1:lA "int" S (.int i)=some (.bl true):=rfl
 have i2:lA "bool" S (.int i)=some (.bl false):=rfl
 simp [qO,i1,i2]
def RC{whole:PF}(W:∀ (S:ac) (i:Int),whole [.int i] S=some (.bl true,S))(hN:N.length=3){i lo hi:Int}:aQ N (sW whole) 3 [.int i,.int lo,.int hi] S=some (.bl (decide (lo<=i)&&decide (i<=hi)),S):=by
 have hst:aC N [D.int i,D.int lo,D.int hi]=[some (.int i),some (.int lo),some (.int hi)]:=by simp [aC,hN]
 rw [ba (show [D.int i,D.int lo,D.int hi].length=3 from rfl),hst]
 by_cases h:lo<=i
 ·simp [sW,W,h]
 ·simp [sW,W,h]
def mT(tof word bet:PF):MS:=ay (bC (da (ao 2 tof (aa (ab 1) (aa (mC (.int 1)) (ai))))) (aV (ao 2 word (aa (ar aw (ab 1) (mC (.int 0))) (aa (aM (aa (mC (.str "tick")) (ai))) (ai))))) (aY)) (ay (bC (da (ao 2 tof (aa (ab 1) (aa (mC (.int 2)) (ai))))) (aV (dG (ao 2 word (aa (ar aw (ab 1) (mC (.int 0))) (aa (mC (.tup [.str "up",.str "down",.str "leave",.str "stop"])) (ai)))) (ao 3 bet (aa (ar aw (ab 1) (mC (.int 1))) (aa (mC (.int 0)) (aa (ar oH (ab 0) (mC (.int 1))) (ai))))))) (aY)) (ay (bC (dH (da (ao 2 tof (aa (ab 1) (aa (mC (.int 3)) (ai)))))) (aV (mC (.bl false))) (aY)) (ay (aI (ab 1) (aE 3 (af (ah 2) (af (ah 3) (af (ah 4) (aB)))))) (aV (dG (ao 2 word (aa (ab 2) (aa (mC (.tup [.str "read",.str "write"])) (ai)))) (dG (ao 3 bet (aa (ab 3) (aa (mC (.int 0)) (aa (ar oH (ab 0) (mC (.int 1))) (ai))))) (tf (ar wA (ab 4) (mC .non)) (ao 3 bet (aa (ab 4) (aa (mC (.int 0)) (aa (mC (.int 9)) (ai))))))))))))
def JF{tof word bet:PF}(T:SJ tof)(W:Oz word)(B:SM bet)(hN:N.length=5)(hd:dd.Ok n):aQ N (mT tof word bet) 2 [.int (n:Int),dd.d] S=some (.bl true,S):=by
 have hst:aC N [D.int (n:Int),dd.d]=[some (.int (n:Int)),some dd.d,none,none,none]:=by simp [aC,hN,List.replicate]
 rw [ba (show [D.int (n:Int),dd.d].length=2 from rfl),hst]
 cases dd with
 | tick=>
  have t1:tof [Dd.tick.d,.int 1] S=some (.bl true,S):=T S [.str "tick"] 1
  have x0:aw S Dd.tick.d (.int 0)=some (.str "tick"):=rfl
  have k1:ca ([.str "tick"],S)=some (.tup [.str "tick"],S):=aR (by simp)
  have w1:word [.str "tick",.tup [.str "tick"]] S=some (.bl true,S):=W S "tick" ["tick"] (by simp)
  simp only [mT,aS,bm,dW,aK,aq,ak,bD,bJ,bI,oj,ob,aj,am,bf,az,al,bj,t1,fM,bR,aX,aG,av,au,x0,be,k1,w1,bq,bQ,aJ]
 | act k g=>
  have hg:g<n:=hd
  have t1:tof [(Dd.act k g).d,.int 1] S=some (.bl false,S):=T S [.str k.s,.int (g:Int)] 1
  have t2:tof [(Dd.act k g).d,.int 2] S=some (.bl true,S):=T S [.str k.s,.int (g:Int)] 2
  have x0:aw S (Dd.act k g).d (.int 0)=some (.str k.s):=rfl
  have x1:aw S (Dd.act k g).d (.int 1)=some (.int (g:Int)):=rfl
  have w1:word [.str k.s,.tup [.str "up",.str "down",.str "leave",.str "stop"]] S=some (.bl true,S):=W S k.s ["up","down","leave","stop"] (by cases k <;> simp [Ak.s])
  have b1:bet [.int (g:Int),.int 0,.int ((n:Int) - 1)] S=some (.bl true,S):=by
   rw [B];congr 3;rw [WU (by omega),WU (by omega)];rfl
  simp only [mT,aS,bm,dW,aK,aq,ak,bD,bJ,bI,oj,ob,aj,am,bf,az,al,bj,t1,fM,bM,bw,aD,t2,bR,aX,pz,aG,av,au,x0,w1,uU,x1,zY,bL,b1,bq,bQ,aJ]
 | ask wr g t=>
  have hg:g<n:=hd.1
  have t1:tof [(Dd.ask wr g t).d,.int 1] S=some (.bl false,S):=T S [.str (bo wr),.int (g:Int),bP t] 1
  have t2:tof [(Dd.ask wr g t).d,.int 2] S=some (.bl false,S):=T S [.str (bo wr),.int (g:Int),bP t] 2
  have t3:tof [(Dd.ask wr g t).d,.int 3] S=some (.bl true,S):=T S [.str (bo wr),.int (g:Int),bP t] 3
  have g3:∀ env S,aE 3 (af (ah 2) (af (ah 3) (af (ah 4) (aB)))) (Dd.ask wr g t).d env S=(af (ah 2) (af (ah 3) (af (ah 4) (aB)))) [.str (bo wr),.int (g:Int),bP t] env S:=fun env S=>mq
  have w1:word [.str (bo wr),.tup [.str "read",.str "write"]] S=some (.bl true,S):=W S (bo wr) ["read","write"] (by cases wr <;> simp [bo])
  have b1:bet [.int (g:Int),.int 0,.int ((n:Int) - 1)] S=some (.bl true,S):=by
   rw [B];congr 3;rw [WU (by omega),WU (by omega)];rfl
  simp only [mT,aS,bm,dW,aK,aq,ak,bD,bJ,bI,oj,ob,aj,am,bf,az,al,bj,t1,fM,bM,bw,aD,t2,jq,t3,jv,Xt,bh,bi,g3,bg,aO,cy,bB,dR,ej,bK,aX,pz,w1,uU,aG,av,au,zY,bL,b1,Sb,mL]
  cases t with
  | none=>
   have i1:nq (bP none) .non=true:=rfl
   simp only [i1,kOr_t,ob,bq,aJ]
  | some t=>
   have i1:nq (bP (some t)) .non=false:=rfl
   obtain⟨l0,l9⟩:=hd.2 t rfl
   have b2:bet [bP (some t),.int 0,.int 9] S=some (.bl true,S):=by
    rw [show bP (some t)=.int t from rfl,B];congr 3;rw [WU l0,WU l9];rfl
   simp only [i1,kOr_f,aK,aq,ak,bD,bJ,bI,oj,ob,aj,am,bf,az,al,bL,b2,bq,aJ]
def Jy{x:Rm×List Ev}(h:fI r R dd=some x):iB R dd=true:=by
 unfold fI at h
 split at h
 ·cases h
 ·rename_i q;rw [Bool.not_eq_false] at q;exact q
def FI{wait:PF}(hN:N.length=5):aQ N (pU wait) 2 [aW R,Dd.tick.d] S=some (.bl true,S):=by
 have hst:aC N [aW R,Dd.tick.d]=[some (aW R),some Dd.tick.d,none,none,none]:=by simp [aC,hN,List.replicate]
 rw [ba (show [aW R,Dd.tick.d].length=2 from rfl),hst]
 have x0:aw S Dd.tick.d (.int 0)=some (.str "tick"):=rfl
 have tk:bY S (.str "tick") (.str "tick")=some (.bl true):=by rw [cH];rfl
 simp only [pU,aS,bm,aH,aG,ak,bD,bJ,bI,oj,ob,aj,av,bf,au,x0,tk,aF,bR,aX,bq,bQ,aJ]
def rC{x:Rm×List Ev}(h:ROk R)(hl:R.1.length<=5)(hx:fI r R dd=some x):x.2.length<=100:=by
 have hle:=h.len
 have sf:∀ R':Rm,R'.1.length=R.1.length->(aZ r R').2.length<=10:=fun R' q=>Xl (nV _) (by omega)
 unfold fI at hx
 split at hx
 ·cases hx
 rename_i hcan
 split at hx
 ·cases hx
  have:=sf (R.1,(R.2.map gG).filter fun e=>decide (e.t≠some 0)) rfl
  have q:((R.2.map gG).filter fun e=>decide (e.t=some 0)).length<=R.2.length:=Xl (XR _ _) (by simp)
  unfold oK
  dsimp only
  rw [WX,WM]
  omega
 ·rename_i wr g t
  cases hx
  have:=sf (R.1,R.2++[mD wr g t]) rfl
  unfold sR
  dsimp only
  split
  ·omega
  ·split
   ·rw [WX,XQ];omega
   ·rw [WX,XQ];omega
 ·rename_i k g
  split at hx
  ·cases hx;simp
  ·split at hx
   ·rename_i w hw
    cases hx
    have:=sf (R.1.set g (gJ k w),rK r k w g R.2) (by simp)
    have f1:(gf k g).length<=1:=by cases k <;> simp [gf]
    unfold mN
    dsimp only
    rw [WX,WX]
    split
    ·rw [XQ];omega
    ·rw [YQ];omega
   ·cases hx
end
abbrev Rs:=List (Rm×List Ev)
inductive Ws(r:Rl):Rm->List Dd->Rs->Prop
 | nil {R:Rm}:Ws r R [] []
 | cons {R:Rm} {d:Dd} {x:Rm×List Ev} {l:List Dd} {xs:Rs} (h:fI r R d=some x) (t:Ws r x.1 l xs):Ws r R (d::l) (x::xs)
def gP:Rm->Rs->Rm
 | R,[]=>R
 | _,x::xs=>gP x.1 xs
def Dz:Rm->Rs->List (Rm×Rm×List Ev)
 | _,[]=>[]
 | R,x::xs=>(R,x.1,x.2)::Dz x.1 xs
def HA(z:Rm×Rm×List Ev):D:=.tup [aW z.1,aW z.2.1,cI z.2.2]
def evL(xs:Rs):List D:=xs.map fun x=>cI x.2
def La(R:Rm)(xs:Rs):D:=.tup [aW (gP R xs),.tup (evL xs)]
section
variable{r:Rl}{R:Rm}{l:List Dd}{xs:Rs}{n:Nat}
def Ws.len(h:Ws r R l xs):xs.length=l.length:=by
 induction h with
 | nil=>rfl
 | cons _ _ ih=>rw [WT,WT,ih]
def Ws.snoc(h:Ws r R l xs){d:Dd}{x:Rm×List Ev}(hx:fI r (gP R xs) d=some x):Ws r R (l++[d]) (xs++[x])/\gP R (xs++[x])=x.1:=by
 induction h with
 | nil=>exact⟨.cons hx .nil,rfl⟩
 | cons q t ih=>exact⟨.cons q (ih hx).1,(ih hx).2⟩
def Ws.take(h:Ws r R l xs):∀ c:Nat,Ws r R (l.take c) (xs.take c):=by
 induction h with
 | nil=>intro c;rw [List.take_nil,List.take_nil];exact .nil
 | cons q t ih=>
  intro c
  cases c with
  | zero=>exact .nil
  | succ c=>exact .cons q (ih c)
def Behind.ws(h:Behind r n l R):(∃ xs,Ws r (bN n) l xs/\gP (bN n) xs=R)/\∀ d∈l,d.Ok n:=by
 induction h with
 | nil=>exact⟨⟨[],.nil,rfl⟩,fun d z=>by cases z⟩
 | snoc h hd e ih=>
  obtain⟨⟨xs,w,q⟩,o⟩:=ih
  rw [<- q] at e
  obtain⟨w',q'⟩:=w.snoc e
  refine⟨⟨_,w',q'⟩,fun d hd'=>?_⟩
  rcases Xj.mp hd' with z | z
  ·exact o d z
  ·rw [Xp.mp z];exact hd
def Ws.ok(h:Ws r R l xs):ROk R->ROk (gP R xs)/\(gP R xs).1.length=R.1.length:=by
 induction h with
 | nil=>exact fun h=>⟨h,rfl⟩
 | cons q t ih=>exact fun h=>⟨(ih (iN h q).1).1,(ih (iN h q).1).2.trans (iN h q).2⟩
def Ws.few(h:Ws r R l xs):ROk R->R.1.length<=5->∀ x∈xs,x.2.length<=100:=by
 induction h with
 | nil=>exact fun _ _ x z=>by cases z
 | cons q t ih=>
  intro h h5 x hx
  rcases Xq.mp hx with rfl | hx
  ·exact rC h h5 q
  ·exact ih (iN h q).1 (by rw [(iN h q).2];exact h5) x hx
end
def qQ:MS:=aV (aM (aa (ar cC (aM (aa (mC (.str "out")) (ai))) (ab 0)) (aa (aM (ai)) (ai))))
def ND{S:ac}{n i:Nat}{env:bp}(h5:n<=5)(hv:ab i env S=some (.int (n:Int),S)):aM (aa (ar cC (aM (aa (mC (.str "out")) (ai))) (ab i)) (aa (aM (ai)) (ai))) env S=some (aW (bN n),S):=by
 have k1:∀ x:D,ca ([x],S)=some (.tup [x],S):=fun x=>aR (by simp)
 have k0:ca ([],S)=some (.tup [],S):=aR (by simp)
 have k2:∀ x y:D,ca ([x,y],S)=some (.tup [x,y],S):=fun x y=>aR (by simp)
 have m:cC S (.tup [.str "out"]) (.int (n:Int))=some (cL (List.replicate n .out)):=by
  rw [GP (by omega) (by omega) (by rw [Xv,XQ];omega),Xv,vk]
  simp [cL,Wd.d,Wd.s]
 simp only [be,aq,aG,bf,ob,am,az,al,k1,av,hv,au,m,aj,k0,k2]
 rfl
def Jx{N:List Str}(hN:N.length=1){S:ac}{n:Nat}(h5:n<=5):aQ N qQ 1 [.int (n:Int)] S=some (aW (bN n),S):=by
 have hst:aC N [D.int (n:Int)]=[some (.int (n:Int))]:=by simp [aC,hN]
 rw [ba (show [D.int (n:Int)].length=1 from rfl),hst]
 have e:=ND (S:=S) (n:=n) (i:=0) (env:=[some (.int (n:Int))]) h5 (by simp only [ak,bD,oj,ob,aj])
 rw [qQ,aX,e]
 simp only [ob,bq,aJ]
def Kp(q:Nat)(S S':ac):Prop:=∀ i,i≠q->i<S.length->S'[i]?=S[i]?/\i<S'.length
def Kp.trans{q:Nat}{S S1 S2:ac}(a:Kp q S S1)(b:Kp q S1 S2):Kp q S S2:=fun i h h'=>⟨(b i h (a i h h').2).1.trans (a i h h').1,(b i h (a i h h').2).2⟩
structure RL(deed can done emp:PF):Prop where
 d:∀ (S:ac) (n:Nat) (dd:Dd),dd.Ok n->deed [.int (n:Int),dd.d] S=some (.bl true,S)
 c:∀ (S:ac) (R:Rm) (dd:Dd),R.1.length<=100->dd.Ok R.1.length->iB R dd=true->can [aW R,dd.d] S=some (.bl true,S)
 o:∀ (S:ac) (r:Rl) (R:Rm) (dd:Dd) (x:Rm×List Ev),0<=r.b->ROk R->R.1.length<=50->dd.Ok R.1.length->fI r R dd=some x->∃ T,done [r.d,aW R,dd.d] S=some (jo x,S++T)
 e:∀ (S:ac) (n:Nat),n<=5->emp [.int (n:Int)] S=some (aW (bN n),S)
def yk(deed can done:PF):MS:=ay (bC (eL (dH (da (ao 2 deed (aa (ab 1) (aa (ab 6) (ai)))))) (dH (da (ao 2 can (aa (ab 3) (aa (ab 6) (ai))))))) (jL) (aY)) (ay (aI (ao 3 done (aa (ab 0) (aa (ab 3) (aa (ab 6) (ai))))) (aE 2 (af (ah 7) (af (ah 8) (aB))))) (ay (db (di cX (ab 4) (aa (aM (aa (ab 3) (aa (ab 7) (aa (ab 8) (ai))))) (ai)))) (aI (ab 7) (ah 3))))
def ph(deed can done emp:PF):MS:=ay (aI (ao 1 emp (aa (ab 1) (ai))) (ah 3)) (ay (aI (dj (ai)) (ah 4)) (ay (ia (el (aa (ab 2) (ai))) (aE 2 (af (ah 5) (af (ah 6) (aB)))) (yk deed can done)) (aV (ab 4))))
section
variable{r:Rl}{n q:Nat}{deed can done emp:PF}
def Hy(O:RL deed can done emp)(hb:0<=r.b){S:ac}{R:Rm}{dd:Dd}{x:Rm×List Ev}{zs:List D}{a2 a5 a7 a8:Option D}(h:ROk R)(hn:R.1.length=n)(h5:n<=5)(hd:dd.Ok n)(hx:fI r R dd=some x)(hq:S[q]?=some (.lst zs))(hz:zs.length<=500) :
  ∃ b8 S',yk deed can done [some r.d,some (.int (n:Int)),a2,some (aW R),some (.ref q),a5,some dd.d,a7,a8] S=some (.nx [some r.d,some (.int (n:Int)),a2,some (aW x.1),some (.ref q),a5,some dd.d,some (aW x.1),b8] S')/\S'[q]?=some (.lst (zs++[HA (R,x.1,x.2)]))/\Kp q S S':=by
 have d1:=O.d S n dd hd
 have c1:=O.c S R dd (by omega) (by rw [hn];exact hd) (Jy hx)
 obtain⟨T,o1⟩:=O.o S r R dd x hb h (by omega) (by rw [hn];exact hd) hx
 have o1':done [r.d,aW R,dd.d] S=some (.tup [aW x.1,cI x.2],S++T):=o1
 have g2:∀ (u v:D) env S,aE 2 (af (ah 7) (af (ah 8) (aB))) (.tup [u,v]) env S=(af (ah 7) (af (ah 8) (aB))) [u,v] env S:=fun u v env S=>bX
 have k3:∀ S (u v w:D),ca ([u,v,w],S)=some (.tup [u,v,w],S):=fun S u v w=>aR (by simp)
 have cq:(S++T)[q]?=some (.lst zs):=by rw [WZ (WJ.mp hq).1];exact hq
 have ap:cX (.ref q) [.tup [aW R,aW x.1,cI x.2]] (S++T)=some (.non,(S++T).set q (.lst (zs++[HA (R,x.1,x.2)]))):=on cq (by omega)
 have km:∀ f ms env,nj f ms env (.ref q,S++T)=(ms env (S++T)).bind (dO f (.ref q)):=fun f ms env=>oe cq
 refine⟨some (cI x.2),(S++T).set q (.lst (zs++[HA (R,x.1,x.2)])),?_,Xn (WJ.mp cq).1,fun i h h'=>⟨by rw [Xf (Ne.symm h),WZ h'],by rw [Zc,WX];omega⟩⟩
 simp only [yk,aS,bm,jc,jq,dW,aK,aq,ak,bD,bJ,bI,oj,ob,aj,am,az,al,bj,d1,fM,jv,Xt,mf,c1,bM,bw,aD,bh,bL,o1',bi,g2,bg,aO,cy,bB,dR,ej,bK,jt,js,km,be,k3,eC,ap,jw]
def Hz(O:RL deed can done emp)(hb:0<=r.b){a2:Option D}(h5:n<=5){R:Rm}{l:List Dd}{xs:Rs}(w:Ws r R l xs):∀ (k:Nat) (S:ac) (zs:List D) (a5 a6 a7 a8:Option D),ROk R->R.1.length=n->(∀ d∈l,d.Ok n)->S[q]?=some (.lst zs)->zs.length+l.length<=400 ->
  ∃ b5 b6 b7 b8 S',cj (aE 2 (af (ah 5) (af (ah 6) (aB)))) (yk deed can done) (eR k (l.map Dd.d)) [some r.d,some (.int (n:Int)),a2,some (aW R),some (.ref q),a5,a6,a7,a8] S=some (.nx [some r.d,some (.int (n:Int)),a2,some (aW (gP R xs)),some (.ref q),b5,b6,b7,b8] S')/\S'[q]?=some (.lst (zs++(Dz R xs).map HA))/\Kp q S S':=by
 induction w with
 | nil=>
  intro k S zs a5 a6 a7 a8 h hn hd hq hz
  exact⟨a5,a6,a7,a8,S,ls,by simp only [Dz,Zh,Xr];exact hq,fun i _ h=>⟨rfl,h⟩⟩
 | @cons R d x l xs hx t ih=>
  intro k S zs a5 a6 a7 a8 h hn hd hq hz
  rw [WT] at hz
  obtain⟨b8,S1,e1,q1,P1⟩:=Hy O hb (a2:=a2) (a5:=some (.int (k:Int))) (a7:=a7) (a8:=a8) h hn h5 (hd d WL) hx hq (by omega)
  obtain⟨h',hl'⟩:=iN h hx
  obtain⟨c5,c6,c7,c8,S2,e2,q2,P2⟩:=ih (k+1) S1 _ (some (.int (k:Int))) (some d.d) (some (aW x.1)) b8 h' (hl'.trans hn) (fun d' z=>hd d' (WO _ z)) q1 (by rw [WX,XQ];omega)
  refine⟨c5,c6,c7,c8,S2,?_,?_,P1.trans P2⟩
  ·rw [WR,eR,dk,bX]
   simp only [bg,aO,ob,dR,ej,cy,bB,jO,e1,iF,e2,gP]
  ·rw [q2,Dz,WR,Xm];rfl
def Dv(O:RL deed can done emp)(hb:0<=r.b){N:List Str}(hN:N.length=9){S:ac}{l:List Dd}{xs:Rs}(h5:n<=5)(w:Ws r (bN n) l xs)(hd:∀ d∈l,d.Ok n)(hl:l.length<=300) :
  ∃ S',aQ N (ph deed can done emp) 3 [r.d,.int (n:Int),.tup (l.map Dd.d)] S=some (.ref S.length,S')/\S'[S.length]?=some (.lst ((Dz (bN n) xs).map HA))/\∀ i,i<S.length->S'[i]?=S[i]?:=by
 have hst:aC N [r.d,.int (n:Int),.tup (l.map Dd.d)]=[some r.d,some (.int (n:Int)),some (.tup (l.map Dd.d)),none,none,none,none,none,none]:=by simp [aC,hN,List.replicate]
 rw [ba (show [r.d,D.int (n:Int),D.tup (l.map Dd.d)].length=3 from rfl),hst]
 have e0:=O.e S n h5
 have kl:qj ([],S)=some (.ref S.length,S++[.lst []]):=jN (by simp)
 obtain⟨b5,b6,b7,b8,S',e,hq,P⟩:=Hz (q:=S.length) O hb (a2:=some (.tup (l.map Dd.d))) h5 w 0 (S++[.lst []]) [] none none none none lB (by simp [bN]) hd ge (by simp;omega)
 refine⟨S',?_,by simpa using hq,fun i h=>(P i (by omega) (by rw [WX];omega)).1.trans (WZ h)⟩
 have ke:∀ S,Cq ([.tup (l.map Dd.d)],S)=some (eR 0 (l.map Dd.d),S):=fun S=>rfl
 simp only [ph,aS,bh,aK,aq,ak,bD,bJ,bI,oj,ob,aj,am,az,al,qm,e0,bi,aO,dR,ej,bK,aD,nX,kl,qV,nY,ke,rh,e,aX,bq,aJ]
def rnC:ME:=cR (ab 3) (aE 3 (af (ah 0) (af (ah 1) (af (ah 2) (aB))))) (bH) (ab 2) [none,none,none]
def rnR(emp:PF):ME:=lL (da (ab 3)) (ar aw (ar aw (ab 3) (xi Jh (mC (.int 1)))) (mC (.int 1))) (ao 1 emp (aa (ab 1) (ai)))
def yN(walked emp:PF):MS:=ay (aI (ao 3 walked (aa (ab 0) (aa (ab 1) (aa (ab 2) (ai))))) (ah 3)) (ay (aI (rnR emp) (ah 4)) (aV (aM (aa (ab 4) (aa (bd (aP (cw .tup)) (aa rnC (ai))) (ai))))))
def SE{S:ac}{zs:List (Rm×Rm×List Ev)}(hr:S[q]?=some (.lst (zs.map HA))) :
  ∀ (k i:Nat) (a b c:Option D),i<=zs.length->zs.length<k+i->fF (aE 3 (af (ah 0) (af (ah 1) (af (ah 2) (aB))))) bH (ab 2) q k i [a,b,c] S=some ((zs.drop i).map fun z=>cI z.2.2,S)
 | 0,i,a,b,c,h0,hl=>by omega
 | k+1,i,a,b,c,h0,hl=>by
  unfold fF
  rw [hr]
  dsimp only
  rw [XS]
  cases hx:zs[i]? with
  | none=>
   have:zs.drop i=[]:=by simpa using hx
   rw [this];rfl
  | some z=>
   have hi:=(WJ.mp hx).1
   have ih:=SE hr k (i+1) (some (aW z.1)) (some (aW z.2.1)) (some (cI z.2.2)) hi (by omega)
   have hd:zs.drop i=z::zs.drop (i+1):=by
    rw [YG hi];congr 1;exact(WJ.mp hx).2
   show (aE 3 (af (ah 0) (af (ah 1) (af (ah 2) (aB)))) (.tup [aW z.1,aW z.2.1,cI z.2.2]) [a,b,c] S).bind _=_
   rw [mq]
   simp only [bg,aO,ob,dR,ej,cy,bB,gM,YE,ak,bD,bJ,bI,oj,aj,ih,hd,WR]
def Kt:∀ (R:Rm) (xs:Rs),((Dz R xs).map fun z=>cI z.2.2)=evL xs
 | _,[]=>rfl
 | R,x::xs=>by rw [Dz,WR,Kt x.1 xs];rfl
def ym:∀ (R:Rm) (xs:Rs),(Dz R xs).length=xs.length
 | _,[]=>rfl
 | R,x::xs=>by rw [Dz,WT,ym x.1 xs,WT]
def AI:∀ (R:Rm) (xs:Rs),xs≠[]->∃ R0 e,(Dz R xs)[xs.length - 1]?=some (R0,gP R xs,e)
 | _,[],h=>absurd rfl h
 | R,[x],_=>⟨R,x.2,rfl⟩
 | R,x::y::xs,_=>by
  obtain⟨R0,e,h⟩:=AI x.1 (y::xs) (by simp)
  exact⟨R0,e,by rw [Dz];simpa [gP] using h⟩
def Tr{S:ac}{xs:Rs}{a0 a2 a4:Option D}(E:∀ (S:ac) (n:Nat),n<=5->emp [.int (n:Int)] S=some (aW (bN n),S))(h5:n<=5)(hq:S[q]?=some (.lst ((Dz (bN n) xs).map HA))):rnR emp [a0,some (.int (n:Int)),a2,some (.ref q),a4] S=some (aW (gP (bN n) xs),S):=by
 have tr:zO (.ref q,S)=some (!xs.isEmpty,S):=by
  have:pN S (.ref q)=some (!xs.isEmpty):=by
   simp only [pN,hq]
   cases xs <;> rfl
  show (pN S (.ref q)).bind _=_
  rw [this];rfl
 simp only [rnR,mK,dW,ak,bD,bJ,bI,oj,ob,aj,tr]
 cases hx:xs with
 | nil=>
  simp only [List.isEmpty_nil,Xt,Cp,aK,aq,ak,bD,bJ,bI,oj,ob,aj,am,az,al,qm,E S n h5,gP]
 | cons x ys=>
  rw [hx] at hq
  obtain⟨R0,e,hl⟩:=AI (bN n) (x::ys) (by simp)
  have at1:mM ((Dz (bN n) (x::ys)).map HA) (-1)=some (HA (R0,gP (bN n) (x::ys),e)):=by
   unfold mM GL
   rw [if_neg (by decide),WM,ym,Xc (by rw [WT];omega)]
   show (some _).bind _=_
   rw [ob,XS]
   have:(-1+(((x::ys).length:Nat):Int)).toNat=(x::ys).length - 1:=by rw [WT];omega
   rw [this,hl];rfl
  have ix1:∀ S,aw S (HA (R0,gP (bN n) (x::ys),e)) (.int 1)=some (aW (gP (bN n) (x::ys))):=fun S=>rfl
  have ng:Jh S (.int 1)=some (.int (-1)):=rfl
  have ir:aw S (.ref q) (.int (-1))=some (HA (R0,gP (bN n) (x::ys),e)):=by rw [kJ hq];exact at1
  simp only [List.isEmpty_cons,Xz,xz,aG,ak,bD,bJ,bI,oj,ob,aj,av,mUn_s,bf,kUn_s,ng,au,ir,ix1]
def OZ{walked:PF}(E:∀ (S:ac) (n:Nat),n<=5->emp [.int (n:Int)] S=some (aW (bN n),S)){N:List Str}(hN:N.length=5){S S1:ac}{l:List Dd}{xs:Rs}(h5:n<=5)(hl:xs.length<=300)(hw:walked [r.d,.int (n:Int),.tup (l.map Dd.d)] S=some (.ref q,S1))(hq:S1[q]?=some (.lst ((Dz (bN n) xs).map HA))) :
  aQ N (yN walked emp) 3 [r.d,.int (n:Int),.tup (l.map Dd.d)] S=some (La (bN n) xs,S1):=by
 have hst:aC N [r.d,.int (n:Int),.tup (l.map Dd.d)]=[some r.d,some (.int (n:Int)),some (.tup (l.map Dd.d)),none,none]:=by simp [aC,hN,List.replicate]
 rw [ba (show [r.d,D.int (n:Int),D.tup (l.map Dd.d)].length=3 from rfl),hst]
 have rr:=Tr (emp:=emp) (a0:=some r.d) (a2:=some (.tup (l.map Dd.d))) (a4:=none) E h5 hq
 have k2:∀ S (x y:D),ca ([x,y],S)=some (.tup [x,y],S):=fun S x y=>aR (by simp)
 have kx:zS (aE 3 (af (ah 0) (af (ah 1) (af (ah 2) (aB))))) bH (ab 2) [none,none,none] [some r.d,some (.int (n:Int)),some (.tup (l.map Dd.d)),some (.ref q),some (aW (gP (bN n) xs))] (.ref q,S1)=some (.lst (evL xs),S1):=by
  rw [Cs,show lD [none,none,none] [some r.d,some (.int (n:Int)),some (.tup (l.map Dd.d)),some (.ref q),some (aW (gP (bN n) xs))]=[none,none,none] from rfl,SE hq 2000 0 none none none (Yy _) (by rw [ym];omega),ob,fS,Zj,Kt]
 simp only [yN,aS,bh,aK,aq,ak,bD,bJ,bI,oj,ob,aj,am,az,al,bL,hw,bi,aO,dR,ej,bK,aD,rr,aX,be,bS,rnC,Cg,kx,bT,eg,k2,bq,aJ,La]
end
def qo(w:Str):Bool:=w == "in" || w == "ends"
def oM(w:Str):Nat:=if (w == ("in":Str))=true then 1 else 0
def gI(g:Nat):Nat->List Ev->Nat×Option Str
 | o,[]=>(o,none)
 | o,e::l=>if (decide (e.g=g)&&qo e.w)=true then (o,some e.w) else gI g (o+oM e.w) l
def wordD:Option Str->D
 | none=>.non
 | some s=>.str s
def mF(g:Nat)(w:Str)(x:Nat×Option Str):D:=.tup [.int (g:Int),.str w,.int (x.1:Int),wordD x.2]
section
variable{S:ac}
def Nc{x:Str}:kz S (.str x) (.tup [.str "in",.str "ends"])=some (.bl (qo x)):=by
 rw [je (ys:=[.str "in",.str "ends"]) rfl rfl rfl]
 have e:∀ a b:Str,jm (.str a) (.str b)=(a == b):=fun a b=>rfl
 have c:∀ a b:Str,(a == b)=(b == a):=fun a b=>by rw [Xs,beq_iff_eq,beq_iff_eq];exact⟨Eq.symm,Eq.symm⟩
 simp only [XD,aaz,aao,e,qo]
 rw [c "in",c "ends"]
def Es(a b:Nat):((a:Int) == (b:Int))=decide (a=b):=by
 rw [Xs,beq_iff_eq,decide_eq_true_iff];omega
def pf:MS:=ay (bC (cF (ax (ar bY (ab 5) (ab 0))) (ax (ar kz (ab 4) (aM (aa (mC (.str "in")) (aa (mC (.str "ends")) (ai))))))) (aV (aM (aa (ab 0) (aa (ab 1) (aa (ab 3) (aa (ab 4) (ai))))))) (aY)) (bC (ax (ar bY (ab 4) (mC (.str "in")))) (aI (ar Ng (ab 3) (mC (.int 1))) (ah 3)) (aY))
def tX:MS:=ay (aI (mC (.int 0)) (ah 3)) (ay (dI (ab 2) (aE 2 (af (ah 4) (af (ah 5) (aB)))) pf) (aV (aM (aa (ab 0) (aa (ab 1) (aa (ab 3) (aa (mC .non) (ai))))))))
def HE{g o:Nat}{w:Str}{a2:Option D}(e:Ev):pf [some (.int (g:Int)),some (.str w),a2,some (.int (o:Int)),some (.str e.w),some (.int (e.g:Int))] S
  = if (decide (e.g=g)&&qo e.w)=true then some (.rt (mF g w (o,some e.w)) S) else some (.nx [some (.int (g:Int)),some (.str w),a2,some (.int ((o+oM e.w:Nat):Int)),some (.str e.w),some (.int (e.g:Int))] S):=by
 have k2:∀ u v:D,ca ([u,v],S)=some (.tup [u,v],S):=fun u v=>aR (by simp)
 have k4:∀ u v x y:D,ca ([u,v,x,y],S)=some (.tup [u,v,x,y],S):=fun u v x y=>aR (by simp)
 have ag:Ng S (.int (o:Int)) (.int 1)=some (.int ((o+1:Nat):Int)):=by show some (D.int ((o:Int)+1))=_;rw [aac];rfl
 simp only [pf,aS,bm,gO,aH,aG,ak,bD,bJ,bI,oj,ob,aj,av,au,jf,Es,aF]
 by_cases h1:e.g=g
 ·simp only [h1,Yl,Yt,jx,aH,aG,ak,be,aq,bf,az,am,al,bD,bJ,bI,oj,ob,aj,av,au,k2,Nc,aF]
  cases h2:qo e.w with
  | true=>simp only [bR,aX,be,aq,ak,az,am,al,bD,bJ,bI,oj,ob,aj,k4,bq,bQ,YE];rfl
  | false=>
   simp only [bM,bw,ob,aD,bm,aH,aG,ak,bf,bD,bJ,bI,oj,aj,av,au,cH,aF]
   unfold oM
   cases h3:(e.w == ("in":Str)) with
   | true=>simp only [bR,bh,aG,ak,bf,bD,bJ,bI,oj,ob,aj,av,au,ag,bi,aO,dR,ej,bK,YE];rfl
   | false=>simp only [bM,bw];rfl
 ·simp only [WV h1,Ym,mj,ob,bM,bw,aD,bm,aH,aG,ak,bf,bD,bJ,bI,oj,aj,av,au,cH,aF]
  unfold oM
  cases h3:(e.w == ("in":Str)) with
  | true=>simp only [bR,bh,aG,ak,bf,bD,bJ,bI,oj,ob,aj,av,au,ag,bi,aO,dR,ej,bK,YE];rfl
  | false=>simp only [bM,bw];rfl
def wK{g:Nat}{w:Str}{a2:Option D}:∀ (l:List Ev) (o:Nat) (a4 a5:Option D),∃ b4 b5,cj (aE 2 (af (ah 4) (af (ah 5) (aB)))) pf (l.map Ev.d) [some (.int (g:Int)),some (.str w),a2,some (.int (o:Int)),a4,a5] S
  = match (gI g o l).2 with | some s=>some (.rt (mF g w (gI g o l)) S) | none=>some (.nx [some (.int (g:Int)),some (.str w),a2,some (.int ((gI g o l).1:Int)),b4,b5] S)
 | [],o,a4,a5=>⟨a4,a5,ls⟩
 | e::l,o,a4,a5=>by
  have st:cj (aE 2 (af (ah 4) (af (ah 5) (aB)))) pf ((e::l).map Ev.d) [some (.int (g:Int)),some (.str w),a2,some (.int (o:Int)),a4,a5] S=(pf [some (.int (g:Int)),some (.str w),a2,some (.int (o:Int)),some (.str e.w),some (.int (e.g:Int))] S).bind (Co (aE 2 (af (ah 4) (af (ah 5) (aB)))) pf (l.map Ev.d)):=by
   rw [WR,dk,show Ev.d e=.tup [.str e.w,.int (e.g:Int)] from rfl,bX]
   simp only [bg,aO,ob,dR,ej,cy,bB,jO]
  rw [st,HE]
  by_cases h:(decide (e.g=g)&&qo e.w)=true
  ·refine⟨none,none,?_⟩
   simp only [h,YE,ob,tq,gI]
  ·obtain⟨b4,b5,ih⟩:=wK (g:=g) (w:=w) (a2:=a2) l (o+oM e.w) (some (.str e.w)) (some (.int (e.g:Int)))
   refine⟨b4,b5,?_⟩
   simp only [if_neg h,ob,iF,gI,ih]
def Ku{N:List Str}(hN:N.length=6){g:Nat}{w:Str}{l:List Ev}:aQ N tX 3 [.int (g:Int),.str w,.lst (l.map Ev.d)] S=some (mF g w (gI g 0 l),S):=by
 have hst:aC N [D.int (g:Int),.str w,.lst (l.map Ev.d)]=[some (.int (g:Int)),some (.str w),some (.lst (l.map Ev.d)),none,none,none]:=by simp [aC,hN,List.replicate]
 have k4:∀ u v x y:D,ca ([u,v,x,y],S)=some (.tup [u,v,x,y],S):=fun u v x y=>aR (by simp)
 rw [ba (show [D.int (g:Int),.str w,.lst (l.map Ev.d)].length=3 from rfl),hst]
 obtain⟨b4,b5,e⟩:=wK (S:=S) (g:=g) (w:=w) (a2:=some (.lst (l.map Ev.d))) l 0 none none
 simp only [tX,aS,bh,bf,ob,bi,aO,dR,ej,bK,aD,lW,ak,bD,bJ,bI,oj,aj,GG]
 rw [show (some (D.int 0):Option D)=some (.int ((0:Nat):Int)) from rfl,e]
 cases h:(gI g 0 l).2 with
 | some s=>simp only [ob,bQ,aJ]
 | none=>
  simp only [ob,aD,aX,be,aq,ak,bf,az,am,al,bD,bJ,bI,oj,aj,k4,bq,aJ]
  rw [mF,h];rfl
abbrev E3:=Str×Ev
def qI(x:E3):D:=.tup [.str x.1,.str x.2.w,.int (x.2.g:Int)]
def pA:MS:=ay (bC (cF (ax (ar bY (ab 8) (ab 4))) (ax (ar kz (ab 7) (aM (aa (mC (.str "in")) (aa (mC (.str "ends")) (ai))))))) (aV (aM (aa (ab 4) (aa (ab 2) (aa (ab 5) (aa (ab 7) (ai))))))) (aY)) (aI (ar aT (ab 5) (bd (aP jk) (aa (ar bY (ab 7) (mC (.str "in"))) (ai)))) (ah 5))
def zI:MS:=ay (aI (ar aw (ab 0) (ab 1)) (aE 3 (af (ah 2) (af (ah 3) (af (ah 4) (aB)))))) (ay (aI (mC (.int 0)) (ah 5)) (ay (dI (bt (ab 0) (bU (ar aT (ab 1) (mC (.int 1)))) (bu)) (aE 3 (af (ah 6) (af (ah 7) (af (ah 8) (aB))))) pA) (aV (aM (aa (ab 4) (aa (ab 2) (aa (ab 5) (aa (mC .non) (ai)))))))))
def II{g o:Nat}{w:Str}{a0 a1 a3 a6:Option D}(e:Ev):pA [a0,a1,some (.str w),a3,some (.int (g:Int)),some (.int (o:Int)),a6,some (.str e.w),some (.int (e.g:Int))] S
  = if (decide (e.g=g)&&qo e.w)=true then some (.rt (mF g w (o,some e.w)) S) else some (.nx [a0,a1,some (.str w),a3,some (.int (g:Int)),some (.int ((o+oM e.w:Nat):Int)),a6,some (.str e.w),some (.int (e.g:Int))] S):=by
 have k2:∀ u v:D,ca ([u,v],S)=some (.tup [u,v],S):=fun u v=>aR (by simp)
 have k4:∀ u v x y:D,ca ([u,v,x,y],S)=some (.tup [u,v,x,y],S):=fun u v x y=>aR (by simp)
 have nx:aI (ar aT (ab 5) (bd (aP jk) (aa (ar bY (ab 7) (mC (.str "in"))) (ai)))) (ah 5) [a0,a1,some (.str w),a3,some (.int (g:Int)),some (.int (o:Int)),a6,some (.str e.w),some (.int (e.g:Int))] S=some (.nx [a0,a1,some (.str w),a3,some (.int (g:Int)),some (.int ((o+oM e.w:Nat):Int)),a6,some (.str e.w),some (.int (e.g:Int))] S):=by
  have ag:aT S (.int (o:Int)) (.int (if (e.w == ("in":Str))=true then 1 else 0))=some (.int ((o+oM e.w:Nat):Int)):=by
   show some (D.int ((o:Int)+_))=_
   unfold oM
   split <;> rw [aac] <;> rfl
  simp only [bh,aG,ak,bf,bD,bJ,bI,oj,ob,aj,av,bS,aq,az,am,al,bT,au,cH,oi,ag,bi,aO,dR,ej,bK]
 simp only [pA,aS,bm,gO,aH,aG,ak,bD,bJ,bI,oj,ob,aj,av,au,jf,Es,aF]
 by_cases h1:e.g=g
 ·simp only [h1,Yl,Yt,jx,aH,aG,ak,be,aq,bf,az,am,al,bD,bJ,bI,oj,ob,aj,av,au,k2,Nc,aF]
  cases h2:qo e.w with
  | true=>simp only [bR,aX,be,aq,ak,az,am,al,bD,bJ,bI,oj,ob,aj,k4,bq,bQ,YE];rfl
  | false=>
   simp only [bM,bw,ob,aD]
   rw [h1] at nx
   rw [nx];rfl
 ·simp only [WV h1,Ym,mj,ob,bM,bw,aD,nx];rfl
def xr{g:Nat}{w:Str}{a0 a1 a3:Option D}:∀ (l:List E3) (o:Nat) (a6 a7 a8:Option D),∃ b6 b7 b8,cj (aE 3 (af (ah 6) (af (ah 7) (af (ah 8) (aB))))) pA (l.map qI) [a0,a1,some (.str w),a3,some (.int (g:Int)),some (.int (o:Int)),a6,a7,a8] S
  = match (gI g o (l.map (·.2))).2 with | some s=>some (.rt (mF g w (gI g o (l.map (·.2)))) S) | none=>some (.nx [a0,a1,some (.str w),a3,some (.int (g:Int)),some (.int ((gI g o (l.map (·.2))).1:Int)),b6,b7,b8] S)
 | [],o,a6,a7,a8=>⟨a6,a7,a8,ls⟩
 | e::l,o,a6,a7,a8=>by
  have st:cj (aE 3 (af (ah 6) (af (ah 7) (af (ah 8) (aB))))) pA ((e::l).map qI) [a0,a1,some (.str w),a3,some (.int (g:Int)),some (.int (o:Int)),a6,a7,a8] S=(pA [a0,a1,some (.str w),a3,some (.int (g:Int)),some (.int (o:Int)),some (.str e.1),some (.str e.2.w),some (.int (e.2.g:Int))] S).bind (Co (aE 3 (af (ah 6) (af (ah 7) (af (ah 8) (aB))))) pA (l.map qI)):=by
   rw [WR,dk,show qI e=.tup [.str e.1,.str e.2.w,.int (e.2.g:Int)] from rfl,mq]
   simp only [bg,aO,ob,dR,ej,cy,bB,jO]
  rw [st,II,WR]
  by_cases h:(decide (e.2.g=g)&&qo e.2.w)=true
  ·refine⟨none,none,none,?_⟩
   simp only [h,YE,ob,tq,gI]
  ·obtain⟨b6,b7,b8,ih⟩:=xr (g:=g) (w:=w) (a0:=a0) (a1:=a1) (a3:=a3) l (o+oM e.2.w) (some (.str e.1)) (some (.str e.2.w)) (some (.int (e.2.g:Int)))
   refine⟨b6,b7,b8,?_⟩
   simp only [if_neg h,ob,iF,gI,ih]
def Dg{xs:List D}{k:Nat}(h:k<=xs.length):fO xs (some (k:Int)) none=xs.drop k:=by
 unfold fO
 rw [HT.OX,HT.KO,Zx h,YT (by rw [Zq];omega)]
def Cj{N:List Str}(hN:N.length=9){q i:Nat}{L:List E3}{x:E3}(hq:S[q]?=some (.lst (L.map qI)))(hx:L[i]?=some x):aQ N zI 2 [.ref q,.int (i:Int)] S=some (mF x.2.g x.1 (gI x.2.g 0 ((L.drop (i+1)).map (·.2))),S):=by
 have hst:aC N [D.ref q,.int (i:Int)]=[some (.ref q),some (.int (i:Int)),none,none,none,none,none,none,none]:=by simp [aC,hN,List.replicate]
 have k4:∀ u v x y:D,ca ([u,v,x,y],S)=some (.tup [u,v,x,y],S):=fun u v x y=>aR (by simp)
 have hi:=(WJ.mp hx).1
 have ix:aw S (.ref q) (.int (i:Int))=some (.tup [.str x.1,.str x.2.w,.int (x.2.g:Int)]):=by
  rw [kJ hq,As (by omega) (by rw [WM];omega)]
  simp only [List.getElem_map,Xv,(WJ.mp hx).2];rfl
 have ad:aT S (.int (i:Int)) (.int 1)=some (.int ((i+1:Nat):Int)):=by show some (D.int ((i:Int)+1))=_;rw [aac];rfl
 have sl:∀ l h,jd (.ref q) l (h,S)=some (.lst (fO (L.map qI) l h),S):=fun l h=>Cm hq
 have ct:fO (L.map qI) (some ((i+1:Nat):Int)) none=(L.drop (i+1)).map qI:=by rw [Dg (by rw [WM];omega),Za]
 rw [ba (show [D.ref q,.int (i:Int)].length=2 from rfl),hst]
 obtain⟨b6,b7,b8,e⟩:=xr (S:=S) (g:=x.2.g) (w:=x.1) (a0:=some (.ref q)) (a1:=some (.int (i:Int))) (a3:=some (.str x.2.w)) (L.drop (i+1)) 0 none none none
 simp only [zI,aS,bh,aG,ak,bD,bJ,bI,oj,aj,av,au,ix,bf,ob,bi,mq,bg,cy,bB,aO,dR,ej,bK,aD,lW,cN,eV,dA,dC,ad,cQ,eU,sl,ct,GG]
 rw [show (some (D.int 0):Option D)=some (.int ((0:Nat):Int)) from rfl,e]
 cases h:(gI x.2.g 0 ((L.drop (i+1)).map (·.2))).2 with
 | some s=>simp only [ob,bQ,aJ]
 | none=>
  simp only [ob,aD,aX,be,aq,ak,bf,az,am,al,bD,bJ,bI,oj,aj,k4,bq,aJ]
  rw [mF,h];rfl
end
def cJ:Str:="waits"
def noW(es:List Ev):Prop:=∀ e∈es,(e.w == cJ)=false
def HH{r:Rl}{R:Rm}:noW (mG r R).2:=by
 intro e he
 unfold mG at he
 split at he
 ·rw [Xp.mp he];exact(show (("steps":Str) == cJ)=false by decide +kernel)
 ·split at he
  ·split at he
   ·rw [Xp.mp he];exact(show (("in":Str) == cJ)=false by decide +kernel)
   ·cases he
  ·cases he
def nU{r:Rl}:∀ (n:Nat) {R:Rm},noW (sU r n R).2
 | 0,R=>fun e he=>by cases he
 | n+1,R=>fun e he=>by
  rcases Xj.mp he with h | h
  ·exact HH e h
  ·exact nU n e h
def Wu(g:Nat)(es:List Ev):Prop:=noW es\/∃ fs,noW fs/\es=fs++[⟨cJ,g⟩]
def Ov{r:Rl}{R:Rm}{wr:Bool}{g:Nat}{t:Option Int}{x:Rm×List Ev}(h:fI r R (.ask wr g t)=some x):Wu g x.2:=by
 unfold fI at h
 split at h
 ·cases h
 ·cases h
  unfold sR aZ
  dsimp only
  split
  ·exact .inl (nU _)
  ·split
   ·refine .inl fun e he=>?_
    rcases Xj.mp he with h | h
    ·exact nU _ e h
    ·rw [Xp.mp h];exact(show (("no":Str) == cJ)=false by decide +kernel)
   ·exact .inr ⟨_,nU _,rfl⟩
def sQ(xs:Rs):List Ev:=xs.flatMap (·.2)
def fW:List Dd->Rs->List E3
 | d::l,x::xs=>x.2.map (fun e=>(cK d,e))++fW l xs
 | _,_=>[]
def Rv{r:Rl}{R:Rm}{l:List Dd}{xs:Rs}(w:Ws r R l xs):(fW l xs).map (·.2)=sQ xs:=by
 induction w with
 | nil=>rfl
 | cons h t ih=>
  rw [fW,Xy,ih,XC,show sQ (_::_)=_++sQ _ from List.flatMap_cons]
  congr 1
  exact List.map_id _
def sL(es:List Ev):Bool:=es.any fun e=>e.w == cJ
def ic:List Dd->Rs->List (Nat×Str×List Ev)
 | .ask wr g _::l,x::xs=>if sL x.2=true then (g,bo wr,sQ xs)::ic l xs else ic l xs
 | _::l,_::xs=>ic l xs
 | _,_=>[]
def fP(b:Nat×Str×List Ev):D:=mF b.1 b.2.1 (gI b.1 0 b.2.2)
def vH:∀ {l:List Dd} {xs:Rs},(ic l xs).length<=l.length
 | [],xs=>by cases xs <;> exact WY _
 | d::l,[]=>by cases d <;> exact Yy _
 | d::l,x::xs=>by
  have ih:=vH (l:=l) (xs:=xs)
  cases d with
  | ask wr g t=>
   simp only [ic,WT]
   split
   ·rw [WT];omega
   ·omega
  | act k g=>simp only [ic,WT];omega
  | tick=>simp only [ic,WT];omega
def mn(w:Str):Bool:=w == "read" || w == "write"
def Wr(x:E3):Bool:=x.2.w == cJ&&mn x.1
def Ln:List E3->List (Nat×Str×List Ev)
 | []=>[]
 | x::t=>if Wr x=true then (x.2.g,x.1,t.map (·.2))::Ln t else Ln t
def yP:∀ {c t:List E3},(∀ x∈c,Wr x=false)->Ln (c++t)=Ln t
 | [],t,_=>rfl
 | x::c,t,h=>by
  rw [List.cons_append,Ln,h x WL,if_neg Bool.false_ne_true]
  exact yP fun y hy=>h y (WO _ hy)
def Go{es:List Ev}(h:noW es):sL es=false:=by
 unfold sL;rw [ZK];intro e he;rw [h e he];exact Bool.false_ne_true
def LH{es:List Ev}{w:Str}(h:noW es):∀ x∈es.map (fun e=>((w,e):E3)),Wr x=false:=fun x hx=>by
 obtain⟨e,he,rfl⟩:=Xk.mp hx
 show (e.w == cJ&&_)=false
 rw [h e he];rfl
def OG(b:Bool):mn (bo b)=true:=by cases b <;> decide +kernel
def Wx(k:Ak):mn k.s=false:=by cases k <;> decide +kernel
def TD{r:Rl}{R:Rm}{l:List Dd}{xs:Rs}(w:Ws r R l xs):Ln (fW l xs)=ic l xs:=by
 induction w with
 | nil=>rfl
 | @cons R d x l xs h t ih=>
  rw [fW]
  have other:mn (cK d)=false->Ln (x.2.map (fun e=>((cK d,e):E3))++fW l xs)=ic l xs:=fun hw=>by
   rw [yP,ih]
   intro y hy
   obtain⟨e,he,rfl⟩:=Xk.mp hy
   show (_&&mn (cK d))=false
   rw [hw,Yn]
  cases d with
  | tick=>exact other (by decide +kernel)
  | act k g=>exact other (Wx k)
  | ask wr g tt=>
   rw [ic]
   rcases Ov h with a | ⟨fs,a,e⟩
   ·rw [Go a,if_neg Bool.false_ne_true,yP (LH a),ih]
   ·have hh:sL x.2=true:=by
     rw [e];unfold sL;rw [aab,XD]
     rw [show ((cJ:Str) == cJ)=true from by decide +kernel,aaC,aaD]
    rw [hh,Xc rfl,e,Xy,Xm,yP (LH a)]
    show Ln ((bo wr,⟨cJ,g⟩)::fW l xs)=_
    rw [Ln,show Wr (bo wr,⟨cJ,g⟩)=true from by
     show ((cJ:Str) == cJ&&mn (bo wr))=true
     rw [OG,show ((cJ:Str) == cJ)=true from by decide +kernel];rfl,Xc rfl,ih,Rv t]
def Eg(L:List E3)(i:Nat):Bool:=match L[i]? with | some x=>Wr x | none=>false
def Tf(L:List E3)(i:Nat):D:=match L[i]? with | some x=>fP (x.2.g,x.1,(L.drop (i+1)).map (·.2)) | none=>.non
def Lm:∀ L:List E3,((List.range L.length).filter (Eg L)).map (Tf L)=(Ln L).map fP
 | []=>rfl
 | x::t=>by
  have ih:=Lm t
  rw [WT,Zs,XI]
  have h0:Eg (x::t) 0=Wr x:=rfl
  have hs:((List.map Nat.succ (List.range t.length)).filter (Eg (x::t))).map (Tf (x::t))=((List.range t.length).filter (Eg t)).map (Tf t):=by
   rw [List.filter_map,XC]
   rfl
  rw [h0,Ln]
  cases h:Wr x with
  | true=>rw [Xc rfl,Xc rfl,WR,WR,hs,ih];rfl
  | false=>rw [if_neg Bool.false_ne_true,if_neg Bool.false_ne_true,hs,ih]
def pI(k:Nat):List Dd->Rs->List (Nat×Str×Nat)
 | .ask wr g _::l,x::xs=>if sL x.2=true then (g,bo wr,k+x.2.length)::pI (k+x.2.length) l xs else pI (k+x.2.length) l xs
 | _::l,x::xs=>pI (k+x.2.length) l xs
 | _,_=>[]
def kS{x:Rm×List Ev}{xs:Rs}:sQ (x::xs)=x.2++sQ xs:=List.flatMap_cons
def rH:∀ (l:List Dd) (xs:Rs) (fs:List Ev),(pI fs.length l xs).map (fun b=>fP (b.1,b.2.1,(fs++sQ xs).drop b.2.2))=(ic l xs).map fP
 | [],xs,fs=>by cases xs <;> rfl
 | d::l,[],fs=>by cases d <;> rfl
 | d::l,x::xs,fs=>by
  have ih:=rH l xs (fs++x.2)
  rw [WX] at ih
  have e:fs++sQ (x::xs)=fs++x.2++sQ xs:=by rw [kS,Xm]
  cases d with
  | tick=>simp only [pI,ic,e];exact ih
  | act k g=>simp only [pI,ic,e];exact ih
  | ask wr g t=>
   simp only [pI,ic,e]
   split
   ·rw [WR,WR,ih]
    congr 2
    rw [<- WX,List.drop_left]
   ·exact ih
def Kd(b:Nat×Str×Nat):D:=.tup [.int (b.1:Int),.str b.2.1,.int (b.2.2:Int)]
def OD(d:Dd)(es:List Ev)(k:Nat):List (Nat×Str×Nat):=match d with
 | .ask wr g _=>if sL es=true then [(g,bo wr,k)] else []
 | _=>[]
def yf{k:Nat}{d:Dd}{l:List Dd}{x:Rm×List Ev}{xs:Rs}:pI k (d::l) (x::xs)=OD d x.2 (k+x.2.length)++pI (k+x.2.length) l xs:=by
 cases d with
 | tick=>rfl
 | act j g=>rfl
 | ask wr g t=>
  simp only [pI,OD]
  split <;> rfl
def RB{d:Dd}{es:List Ev}{k:Nat}:(OD d es k).length<=1:=by
 unfold OD
 split
 ·split <;> simp
 ·simp
def qJ:MT:=cF (ax (ar kz (ar aw (ab 5) (mC (.int 0))) (mC (.tup [.str "read",.str "write"])))) (ax (ar kz (aM (aa (mC (.str "waits")) (aa (ar aw (ab 5) (mC (.int 1))) (ai)))) (ab 6)))
def RP:MS:=db (di cX (ab 4) (aa (aM (aa (ar aw (ab 5) (mC (.int 1))) (aa (ar aw (ab 5) (mC (.int 0))) (aa (bd (aP fg) (aa (ab 3) (ai))) (ai))))) (ai)))
def pe:MS:=ay (db (di fG (ab 3) (aa (ab 6) (ai)))) (bC qJ RP (aY))
def wdC(told:PF):ME:=cR (ab 4) (aE 3 (af (ah 0) (af (ah 1) (af (ah 2) (aB))))) (bH) (ao 3 told (aa (ab 0) (aa (ab 1) (aa (bt (ab 3) (bU (ab 2)) (bu)) (ai))))) [none,none,none,some 3]
def pi(ran told:PF):MS:=ay (aI (dj (ai)) (ah 3)) (ay (aI (dj (ai)) (ah 4)) (ay (ia (kN (aa (ab 2) (aa (ar aw (ao 3 ran (aa (ab 0) (aa (ab 1) (aa (ab 2) (ai))))) (mC (.int 1))) (ai)))) (aE 2 (af (ah 5) (af (ah 6) (aB)))) pe) (aV (bd (aP (cw .tup)) (aa (wdC told) (ai))))))
section
variable{S:ac}
def Vy{g:Nat}{es:List Ev}:kz S (.tup [.str "waits",.int (g:Int)]) (cI es)=some (.bl (es.any fun e=>e.w == cJ&&decide (e.g=g))):=by
 rw [je (ys:=es.map Ev.d) rfl rfl (by rw [Xd];intro d hd;obtain⟨e,_,rfl⟩:=Xk.mp hd;rfl),Zi]
 congr 3
 funext e
 show (e.w == cJ&&(((e.g:Int) == (g:Int))&&true))=_
 rw [aap,Es]
def Ow{g:Nat}{es:List Ev}(h:Wu g es):(es.any fun e=>e.w == cJ&&decide (e.g=g))=sL es:=by
 rcases h with a | ⟨fs,a,e⟩
 ·rw [Go a,ZK];intro e he;rw [a e he];exact Bool.false_ne_true
 ·rw [e];unfold sL
  rw [aab,aab,XD,XD]
  have z:((cJ:Str) == cJ)=true:=by decide +kernel
  show (_||(((cJ:Str) == cJ&&decide (g=g))||_))=(_||(((cJ:Str) == cJ)||_))
  rw [z,WU rfl,Yt,aaC,aaC,aaD,aaD]
def dd0(d:Dd):aw S d.d (.int 0)=some (.str (cK d)):=by cases d <;> rfl
def Rp(d:Dd):kz S (.str (cK d)) (.tup [.str "read",.str "write"])=some (.bl (match d with | .ask _ _ _=>true | _=>false)):=by
 refine zZ ?_
 cases d with
 | tick=>decide +kernel
 | act k g=>show ([D.str "read",D.str "write"].any fun d=>jm d (.str k.s))=false;cases k <;> decide +kernel
 | ask wr g t=>show ([D.str "read",D.str "write"].any fun d=>jm d (.str (bo wr)))=true;cases wr <;> decide +kernel
def Jj{q:Nat}{xs ys:List D}(h:S[q]?=some (.lst xs))(hz:xs.length+ys.length<=1000000):fG (.ref q) [.tup ys] S=some (.non,S.set q (.lst (xs++ys))):=by
 simp only [fG,h]
 exact Xc (Xl hz (by decide))
def Kq(q b:Nat)(S S':ac):Prop:=∀ i,i≠q->i≠b->S'[i]?=S[i]?
def Hw{q b:Nat}{fs:List Ev}{bs:List (Nat×Str×Nat)}{d:Dd}{es:List Ev}{a0 a1 a2:Option D}(hqb:q≠b)(hq:S[q]?=some (.lst (fs.map Ev.d)))(hb:S[b]?=some (.lst (bs.map Kd)))(ha:∀ wr g t,d=.ask wr g t->Wu g es)(h1:fs.length+es.length<=1000000)(h2:bs.length<=500) :
  ∃ S',pe [a0,a1,a2,some (.ref q),some (.ref b),some d.d,some (cI es)] S=some (.nx [a0,a1,a2,some (.ref q),some (.ref b),some d.d,some (cI es)] S')/\S'[q]?=some (.lst ((fs++es).map Ev.d))/\S'[b]?=some (.lst ((bs++OD d es (fs.length+es.length)).map Kd))/\Kq q b S S':=by
 have ex:fG (.ref q) [cI es] S=some (.non,S.set q (.lst ((fs++es).map Ev.d))):=by rw [Xy];exact Jj hq (by rw [WM,WM];exact h1)
 have km:∀ f ms env,nj f ms env (.ref q,S)=(ms env S).bind (dO f (.ref q)):=fun f ms env=>oe hq
 generalize hT:S.set q (.lst ((fs++es).map Ev.d))=T at ex
 have cq:T[q]?=some (.lst ((fs++es).map Ev.d)):=by rw [<- hT];exact Xn (WJ.mp hq).1
 have cb:T[b]?=some (.lst (bs.map Kd)):=by rw [<- hT,Xf hqb];exact hb
 have kT:Kq q b S T:=fun i h _=>by rw [<- hT];exact Xf (Ne.symm h)
 have d0:=fun S=>dd0 (S:=S) d
 have dw:=fun S=>Rp (S:=S) d
 have skip:qJ [a0,a1,a2,some (.ref q),some (.ref b),some d.d,some (cI es)] T=some (false,T)->OD d es (fs.length+es.length)=[]->∃ S',pe [a0,a1,a2,some (.ref q),some (.ref b),some d.d,some (cI es)] S=some (.nx [a0,a1,a2,some (.ref q),some (.ref b),some d.d,some (cI es)] S')/\S'[q]?=some (.lst ((fs++es).map Ev.d))/\S'[b]?=some (.lst ((bs++OD d es (fs.length+es.length)).map Kd))/\Kq q b S S':=fun ht hg=>by
  refine⟨T,?_,cq,by rw [hg,Xr];exact cb,kT⟩
  simp only [pe,aS,jt,js,ak,bD,bJ,bI,oj,ob,aj,km,aq,am,az,al,eC,ex,jw,aD,bm,ht,bM,bw]
 cases d with
 | tick=>
  refine skip ?_ rfl
  simp only [qJ,gO,aH,aG,ak,bD,bJ,bI,oj,ob,aj,av,bf,au,d0,dw,aF,mj]
 | act k g=>
  refine skip ?_ rfl
  simp only [qJ,gO,aH,aG,ak,bD,bJ,bI,oj,ob,aj,av,bf,au,d0,dw,aF,mj]
 | ask wr g t=>
  have k2:∀ S (u v:D),ca ([u,v],S)=some (.tup [u,v],S):=fun S u v=>aR (by simp)
  have k3:∀ S (u v w:D),ca ([u,v,w],S)=some (.tup [u,v,w],S):=fun S u v w=>aR (by simp)
  have d1:∀ S,aw S (Dd.ask wr g t).d (.int 1)=some (.int (g:Int)):=fun S=>rfl
  have fi:∀ S,kz S (.tup [.str "waits",.int (g:Int)]) (cI es)=some (.bl (sL es)):=fun S=>by rw [Vy,Ow (ha wr g t rfl)]
  have te:qJ [a0,a1,a2,some (.ref q),some (.ref b),some (Dd.ask wr g t).d,some (cI es)] T=some (sL es,T):=by
   simp only [qJ,gO,aH,aG,ak,bD,bJ,bI,oj,ob,aj,av,bf,au,d0,dw,aF,jx,be,aq,am,d1,az,al,k2,fi]
  cases hw:sL es with
  | false=>
   rw [hw] at te
   refine skip te ?_
   simp only [OD,hw];rfl
  | true=>
   rw [hw] at te
   have fl:aP fg [.ref q] T=some (.int ((fs.length+es.length:Nat):Int),T):=by rw [CT cq,WM,WX]
   have kb:∀ f ms env,nj f ms env (.ref b,T)=(ms env T).bind (dO f (.ref b)):=fun f ms env=>oe cb
   have ap:cX (.ref b) [.tup [.int (g:Int),.str (bo wr),.int ((fs.length+es.length:Nat):Int)]] T=some (.non,T.set b (.lst (bs.map Kd++[Kd (g,bo wr,fs.length+es.length)]))):=on cb (by rw [WM];omega)
   refine⟨T.set b (.lst (bs.map Kd++[Kd (g,bo wr,fs.length+es.length)])),?_,by rw [Xf (Ne.symm hqb)];exact cq,?_,fun i h h'=>by rw [Xf (Ne.symm h')];exact kT i h h'⟩
   ·have d0':∀ S,aw S (Dd.ask wr g t).d (.int 0)=some (.str (bo wr)):=fun S=>rfl
    simp only [pe,aS,jt,js,ak,bD,bJ,bI,oj,ob,aj,km,aq,am,az,al,eC,ex,jw,aD,bm,te,bR,RP,kb,be,aG,av,bf,au,d1,d0',bS,bT,fl,k3,ap]
   ·rw [Xn (WJ.mp cb).1]
    simp only [OD,hw,YE,Xy,WR,Zh]
def Hx{q b:Nat}{a0 a1 a2:Option D}(hqb:q≠b){r:Rl}{R:Rm}{l:List Dd}{xs:Rs}(w:Ws r R l xs):∀ (S:ac) (fs:List Ev) (bs:List (Nat×Str×Nat)) (a5 a6:Option D),(∀ x∈xs,x.2.length<=100)->S[q]?=some (.lst (fs.map Ev.d))->S[b]?=some (.lst (bs.map Kd))->fs.length+100 * l.length<=1000000->bs.length+l.length<=400 ->
  ∃ b5 b6 S',cj (aE 2 (af (ah 5) (af (ah 6) (aB)))) pe (jF (l.map Dd.d) (evL xs)) [a0,a1,a2,some (.ref q),some (.ref b),a5,a6] S=some (.nx [a0,a1,a2,some (.ref q),some (.ref b),b5,b6] S')/\S'[q]?=some (.lst ((fs++sQ xs).map Ev.d))/\S'[b]?=some (.lst ((bs++pI fs.length l xs).map Kd))/\Kq q b S S':=by
 induction w with
 | nil=>
  intro S fs bs a5 a6 _ hq hb _ _
  exact⟨a5,a6,S,ls,by rw [show sQ ([]:Rs)=[] from rfl,Xr];exact hq,by rw [show pI fs.length [] ([]:Rs)=[] from rfl,Xr];exact hb,fun i _ _=>rfl⟩
 | @cons R d x l xs hx t ih=>
  intro S fs bs a5 a6 few hq hb h1 h2
  rw [WT] at h1 h2
  have fx:=few x WL
  obtain⟨S1,e1,q1,b1,P1⟩:=Hw (a0:=a0) (a1:=a1) (a2:=a2) (d:=d) (es:=x.2) hqb hq hb (fun wr g t' e=>by subst e;exact Ov hx) (by omega) (by omega)
  have lb:=RB (d:=d) (es:=x.2) (k:=fs.length+x.2.length)
  obtain⟨b5,b6,S2,e2,q2,b2,P2⟩:=ih S1 (fs++x.2) _ (some d.d) (some (cI x.2)) (fun y z=>few y (WO _ z)) q1 b1 (by rw [WX];omega) (by rw [WX];omega)
  refine⟨b5,b6,S2,?_,?_,?_,fun i h h'=>(P2 i h h').trans (P1 i h h')⟩
  ·show cj _ pe (jF (d.d::l.map Dd.d) (cI x.2::evL xs)) _ S=_
   rw [Ds,dk,bX]
   simp only [bg,aO,ob,dR,ej,cy,bB,jO,e1,iF,e2]
  ·rw [q2,kS,Xm]
  ·rw [b2,yf,WX,Xm]
def FR(told:PF):Prop:=∀ (S:ac) (g:Nat) (w:Str) (l:List Ev),told [.int (g:Int),.str w,.lst (l.map Ev.d)] S=some (mF g w (gI g 0 l),S)
def Kk{told:PF}(O:FR told){q b:Nat}{fs:List Ev}{bs:List (Nat×Str×Nat)}(hq:S[q]?=some (.lst (fs.map Ev.d)))(hb:S[b]?=some (.lst (bs.map Kd)))(hk:∀ z∈bs,z.2.2<=fs.length) :
  ∀ (k i:Nat) (a c d:Option D),i<=bs.length->bs.length<k+i->fF (aE 3 (af (ah 0) (af (ah 1) (af (ah 2) (aB))))) bH (ao 3 told (aa (ab 0) (aa (ab 1) (aa (bt (ab 3) (bU (ab 2)) (bu)) (ai))))) b k i [a,c,d,some (.ref q)] S=some ((bs.drop i).map fun z=>fP (z.1,z.2.1,fs.drop z.2.2),S)
 | 0,i,a,c,d,h0,hl=>by omega
 | k+1,i,a,c,d,h0,hl=>by
  unfold fF
  rw [hb]
  dsimp only
  rw [XS]
  cases hx:bs[i]? with
  | none=>
   have:bs.drop i=[]:=by simpa using hx
   rw [this];rfl
  | some z=>
   have hi:=(WJ.mp hx).1
   have ih:=Kk O hq hb hk k (i+1) (some (.int (z.1:Int))) (some (.str z.2.1)) (some (.int (z.2.2:Int))) hi (by omega)
   have hd:bs.drop i=z::bs.drop (i+1):=by
    rw [YG hi];congr 1;exact(WJ.mp hx).2
   have sl:∀ l h,jd (.ref q) l (h,S)=some (.lst (fO (fs.map Ev.d) l h),S):=fun l h=>Cm hq
   have ct:fO (fs.map Ev.d) (some (z.2.2:Int)) none=(fs.drop z.2.2).map Ev.d:=by rw [Dg (by rw [WM];exact hk z (Xh hx)),Za]
   show (aE 3 (af (ah 0) (af (ah 1) (af (ah 2) (aB)))) (.tup [.int (z.1:Int),.str z.2.1,.int (z.2.2:Int)]) [a,c,d,some (.ref q)] S).bind _=_
   rw [mq]
   simp only [bg,aO,ob,dR,ej,cy,bB,gM,YE,aK,aq,ak,bD,bJ,bI,oj,aj,am,cN,eV,dA,dC,cQ,eU,sl,ct,az,al,bL,O S,ih,hd,WR]
   rfl
def Hl:∀ (l:List Dd) (xs:Rs) (k:Nat),∀ z∈pI k l xs,z.2.2<=k+(sQ xs).length
 | [],xs,k=>by cases xs <;> exact fun z h=>by cases h
 | d::l,[],k=>by cases d <;> exact fun z h=>by cases h
 | d::l,x::xs,k=>fun z h=>by
  rw [yf] at h
  rw [kS,WX]
  rcases Xj.mp h with h | h
  ·have:z.2.2=k+x.2.length:=by
    unfold OD at h
    split at h
    ·split at h
     ·rw [Xp.mp h]
     ·cases h
    ·cases h
   omega
  ·have:=Hl l xs (k+x.2.length) z h
   omega
def Dw{ran told:PF}(O:FR told){N:List Str}(hN:N.length=7){n:Nat}{r:Rl}{l:List Dd}{xs:Rs}(w:Ws r (bN n) l xs)(few:∀ x∈xs,x.2.length<=100)(hl:l.length<=100)(hr:∀ S,∃ S',ran [r.d,.int (n:Int),.tup (l.map Dd.d)] S=some (La (bN n) xs,S')/\∀ i,i<S.length->S'[i]?=S[i]?) :
  ∃ S',aQ N (pi ran told) 3 [r.d,.int (n:Int),.tup (l.map Dd.d)] S=some (.tup ((ic l xs).map fP),S')/\∀ i,i<S.length->S'[i]?=S[i]?:=by
 have hst:aC N [r.d,.int (n:Int),.tup (l.map Dd.d)]=[some r.d,some (.int (n:Int)),some (.tup (l.map Dd.d)),none,none,none,none]:=by simp [aC,hN,List.replicate]
 rw [ba (show [r.d,D.int (n:Int),D.tup (l.map Dd.d)].length=3 from rfl),hst]
 have kl:∀ S,qj ([],S)=some (.ref S.length,S++[.lst []]):=fun S=>jN (by simp)
 obtain⟨S1,e1,K1⟩:=hr (S++[Cell.lst []]++[Cell.lst []])
 have l2:(S++[Cell.lst []]++[Cell.lst []]).length=S.length+2:=by simp
 have c1:(S++[Cell.lst []]).length=S.length+1:=by simp
 have cq:S1[S.length]?=some (.lst (([]:List Ev).map Ev.d)):=by rw [K1 _ (by omega),WZ (by omega)];exact ge
 have cb:S1[S.length+1]?=some (.lst (([]:List (Nat×Str×Nat)).map Kd)):=by rw [K1 _ (by omega),<- c1];exact ge
 obtain⟨b5,b6,S2,e2,q2,b2,K2⟩:=Hx (a0:=some r.d) (a1:=some (.int (n:Int))) (a2:=some (.tup (l.map Dd.d))) (q:=S.length) (b:=S.length+1) (by omega) w S1 [] [] none none few cq cb (by simp;omega) (by simp;omega)
 rw [YO] at q2 b2
 have le:=Hl l xs 0
 have hbl:(pI 0 l xs).length<=l.length:=by
  have:=congrArg List.length (rH l xs [])
  rw [WM,WM] at this
  have z:=vH (l:=l) (xs:=xs)
  exact this ▸ z
 have cm:=Kk O q2 b2 (fun z h=>by have:=le z h;omega) 2000 0 none none none (Yy _) (by show (pI 0 l xs).length<2000+0;omega)
 have tl:=rH l xs []
 rw [YO] at tl
 have cm':fF (aE 3 (af (ah 0) (af (ah 1) (af (ah 2) (aB))))) bH (ao 3 told (aa (ab 0) (aa (ab 1) (aa (bt (ab 3) (bU (ab 2)) (bu)) (ai))))) (S.length+1) 2000 0 [none,none,none,some (.ref S.length)] S2=some ((ic l xs).map fP,S2):=by rw [cm,Zj];exact congrArg (fun z=>some (z,S2)) tl
 have kx:∀ a5 a6,zS (aE 3 (af (ah 0) (af (ah 1) (af (ah 2) (aB))))) bH (ao 3 told (aa (ab 0) (aa (ab 1) (aa (bt (ab 3) (bU (ab 2)) (bu)) (ai))))) [none,none,none,some 3] [some r.d,some (.int (n:Int)),some (.tup (l.map Dd.d)),some (.ref S.length),some (.ref (S.length+1)),a5,a6] (.ref (S.length+1),S2)=some (.lst ((ic l xs).map fP),S2):=fun a5 a6=>by
  rw [Cs,show lD [none,none,none,some 3] [some r.d,some (.int (n:Int)),some (.tup (l.map Dd.d)),some (.ref S.length),some (.ref (S.length+1)),a5,a6]=[none,none,none,some (.ref S.length)] from rfl,cm',ob,fS]
 have x1:∀ S,aw S (La (bN n) xs) (.int 1)=some (.tup (evL xs)):=fun S=>rfl
 refine⟨S2,?_,fun i h=>(K2 i (by omega) (by omega)).trans ((K1 i (by omega)).trans (by rw [Xm];exact WZ h))⟩
 simp only [pi,aS,bh,nX,az,ob,kl,c1,bi,aO,dR,ej,bK,aD,qV,Uv,aq,ak,bD,bJ,bI,oj,aj,am,aG,aK,al,bL,e1,av,bf,au,x1,UJ,rh,e2,aX,bS,wdC,Cg,kx,bT,eg,bq,aJ]
end
end MI
section
set_option maxHeartbeats 4000000
namespace K20
open L2 MI
open M hiding mC ab ar ax cS da cF eL dH dG tf fQ lL ai aa aM eM dj xi bu bU bt bd dN ao aY ay aV db bC ah aB af aE eW aI bZ dm ia bE cZ bH di el lq ju kN gy dZ dX dI dY dU dq cR gN
def fH(i:Nat):Stmt:=PySem.Challenge.pw_manyreaders_k20_waits_counted.main.body.getD i (.Pass ⟨0,0,0,0⟩)
abbrev dM:Stmt:=fH 49
abbrev iq:Stmt:=fH 51
abbrev gp:Stmt:=fH 50
abbrev gm:Stmt:=fH 52
abbrev gt:Stmt:=fH 54
abbrev ip:Stmt:=fH 58
abbrev eI:Stmt:=fH 56
abbrev gn:Stmt:=fH 57
abbrev dL:Stmt:=fH 59
abbrev iu:Stmt:=fH 60
abbrev fD:Stmt:=fH 63
abbrev eH:Stmt:=fH 61
abbrev gq:Stmt:=fH 62
abbrev io:Stmt:=fH 55
abbrev eJ:Stmt:=fH 65
abbrev gl:Stmt:=fH 53
abbrev gk:Stmt:=fH 66
abbrev cO:Stmt:=fH 64
abbrev nW:Stmt:=fH 9
abbrev eE:Stmt:=fH 10
abbrev il:Stmt:=fH 19
abbrev jz:Stmt:=fH 13
abbrev lj:Stmt:=fH 17
abbrev gi:Stmt:=fH 20
abbrev jB:Stmt:=fH 18
abbrev lh:Stmt:=fH 22
abbrev gg:Stmt:=fH 11
abbrev lg:Stmt:=fH 24
abbrev fz:Stmt:=fH 23
abbrev jA:Stmt:=fH 21
abbrev dJ:Stmt:=fH 12
abbrev gj:Stmt:=fH 33
abbrev im:Stmt:=fH 34
abbrev dg:Stmt:=fH 41
abbrev lf:Stmt:=fH 40
abbrev fC:Stmt:=fH 35
abbrev eG:Stmt:=fH 36
abbrev fB:Stmt:=fH 37
abbrev ij:Stmt:=fH 39
abbrev fA:Stmt:=fH 38
abbrev qM:Stmt:=fH 32
abbrev eD:Stmt:=fH 4
abbrev jC:Stmt:=fH 3
abbrev ik:Stmt:=fH 1
abbrev fv:Stmt:=fH 2
abbrev jD:Stmt:=fH 30
abbrev ll:Stmt:=fH 31
abbrev kZ:Stmt:=fH 45
abbrev wR:Stmt:=fH 44
abbrev gh:Stmt:=fH 47
abbrev la:Stmt:=fH 46
abbrev wS:Stmt:=fH 67
def vE:List (bG×D):=[(.inr "rows",.non),(.inr "readers",(.str "read")),(.inr "writers",(.str "write")),(.inr "turns",(.str "write"))]
def ji:D:=(.int 9)
def kU:D:=(.tup [(.str "up"),(.str "down"),(.str "leave"),(.str "stop")])
def qE:D:=(.tup [(.str "read"),(.str "write")])
def pd:List (bG×D):=[(.inr "read",(.str "reads")),(.inr "write",(.str "writes"))]
def jh:D:=(.tup [(.str "writes"),(.str "raised")])
structure iC(w:World)(K:W.Frag)(mg:Str->Option Value):Prop where
 d__law_cell_at:bO K mg "_law_cell_at" dM
 d__law_far:bO K mg "_law_far" iq
 d__law_left:bO K mg "_law_left" gp
 d__law_pick:bO K mg "_law_pick" gm
 d__law_deed:bO K mg "_law_deed" gt
 d__law_put:bO K mg "_law_put" ip
 d__law_fronts:bO K mg "_law_fronts" eI
 d__law_lets:bO K mg "_law_lets" gn
 d__law_settled:bO K mg "_law_settled" dL
 d__law_can:bO K mg "_law_can" iu
 d__law_asked:bO K mg "_law_asked" fD
 d__law_marked:bO K mg "_law_marked" eH
 d__law_done:bO K mg "_law_done" gq
 d__law_row:bO K mg "_law_row" io
 d__law_events:bO K mg "_law_events" eJ
 d__law_rule:bO K mg "_law_rule" gl
 d__law_wait:bO K mg "_law_wait" gk
 d__law_same:bO K mg "_law_same" cO
 d_empty:bO K mg "empty" nW
 d_guests_with:bO K mg "guests_with" eE
 d_foremost:bO K mg "foremost" il
 d_waiting:bO K mg "waiting" jz
 d_can_go:bO K mg "can_go" lj
 d_next_past:bO K mg "next_past" gi
 d_next_in:bO K mg "next_in" jB
 d_coming:bO K mg "coming" lh
 d_with_word:bO K mg "with_word" gg
 d_let_in:bO K mg "let_in" lg
 d_brought_by:bO K mg "brought_by" fz
 d_settled:bO K mg "settled" jA
 d_without_wait:bO K mg "without_wait" dJ
 d_bring_ask:bO K mg "bring_ask" gj
 d_bring_up:bO K mg "bring_up" im
 d_settled_behind:bO K mg "settled_behind" dg
 d_turned:bO K mg "turned" lf
 d_bring_down:bO K mg "bring_down" fC
 d_bring_leave:bO K mg "bring_leave" eG
 d_bring_stop:bO K mg "bring_stop" fB
 d_one_less:bO K mg "one_less" ij
 d_bring_tick:bO K mg "bring_tick" fA
 d_done:bO K mg "done" qM
 d_is_tuple_of:bO K mg "is_tuple_of" eD
 d_is_word:bO K mg "is_word" jC
 d_is_whole:bO K mg "is_whole" ik
 d_is_between:bO K mg "is_between" fv
 d_is_deed:bO K mg "is_deed" jD
 d_can_do:bO K mg "can_do" ll
 d_walked:bO K mg "walked" kZ
 d_ran:bO K mg "ran" wR
 d_wait_told:bO K mg "wait_told" gh
 d_waited:bO K mg "waited" la
 d_law:bO K mg "law" wS
 z_all:mg "all" = none
 z_bool:mg "bool" = none
 z_dict:mg "dict" = none
 z_enumerate:mg "enumerate" = none
 z_int:mg "int" = none
 z_isinstance:mg "isinstance" = none
 z_len:mg "len" = none
 z_list:mg "list" = none
 z_max:mg "max" = none
 z_min:mg "min" = none
 z_range:mg "range" = none
 z_str:mg "str" = none
 z_tuple:mg "tuple" = none
 z_zip:mg "zip" = none
 g_BRINGS:FNm w K mg "BRINGS" [("read","bring_ask"),("write","bring_ask"),("up","bring_up"),("down","bring_down"),("leave","bring_leave"),("stop","bring_stop"),("tick","bring_tick")]
 g_FAVOURED:vJ w K mg "FAVOURED" vE
 g_GREATEST_LEFT:GC K mg "GREATEST_LEFT" ji
 g_GUEST_WORDS:GC K mg "GUEST_WORDS" kU
 g_WANTS:GC K mg "WANTS" qE
 g_WORD_WITHIN:vJ w K mg "WORD_WITHIN" pd
 g_WRITING_WORDS:GC K mg "WRITING_WORDS" jh
section
variable{P:Program}{w:World}{K:W.Frag}{mg:Str->Option Value}{base:Heap}
def fq:List Str:=["_law_script","_law_k"]
def ny:List (Str×GI):=[("len",.blt)]
def eY:=aQ fq (gH (ie fq dM ny []) (aN dM)) 2
def sD:aU fq ["_law_script","_law_k"] (aA dM):=⟨rfl,rfl,rfl,by decide +kernel,rfl,by decide +kernel,by decide +kernel⟩
def sE(T:iC w K mg):Fn P w K mg base 1 "_law_cell_at" 2 eY:=
 bz T.d__law_cell_at sD (fun _ _ _ _ _ _=>cB fun _=>cB fun _=>iZ rfl) (GKs.mem (gs:=ny) ⟨T.z_len,trivial⟩)
def ku:List Str:=["_law_far_here","_law_k"]
def vg:List (Str×GI):=[("range",.blt)]
def jV:=aQ ku (gH (ie ku iq vg []) (aN iq)) 0
def AZ:aU ku [] (aA iq):=⟨rfl,rfl,rfl,by decide +kernel,rfl,by decide +kernel,by decide +kernel⟩
def Bp(T:iC w K mg):Fn P w K mg base 1 "_law_far" 0 jV:=
 bz T.d__law_far AZ (fun _ _ _ _ _ _=>iZ rfl) (GKs.mem (gs:=vg) ⟨T.z_range,trivial⟩)
def iW:List Str:=["_law_script","_law_k","_law_cell","_law_seed"]
def sn:List (Str×GI):=[("_law_cell_at",.fn 2 eY),("max",.blt),("_law_far",.fn 0 jV),("len",.blt)]
def gF:=aQ iW (gH (ie iW gp sn [211]) (aN gp)) 2
def yE:aU iW ["_law_script","_law_k"] (aA gp):=⟨rfl,rfl,rfl,by decide +kernel,rfl,by decide +kernel,by decide +kernel⟩
def zc(T:iC w K mg):Fn P w K mg base 2 "_law_left" 2 gF:=
 bz T.d__law_left yE (fun _ _ _ _ _ _=>cB fun _=>cB fun _=>iZ rfl) (GKs.mem (gs:=sn) ⟨(sE T).up (by decide),T.z_max,(Bp T).up (by decide),T.z_len,trivial⟩)
def kL:List Str:=["_law_left_here","_law_many","_law_digit"]
def sj:List (Str×GI):=[]
def cz:=aQ kL (gH (ie kL gm sj []) (aN gm)) 2
def yC:aU kL ["_law_left_here","_law_many"] (aA gm):=⟨rfl,rfl,rfl,by decide +kernel,rfl,by decide +kernel,by decide +kernel⟩
def lS(T:iC w K mg):Fn P w K mg base 1 "_law_pick" 2 cz:=
 bz T.d__law_pick yC (fun _ _ _ _ _ _=>cB fun _=>cB fun _=>iZ rfl) (GKs.mem (gs:=sj) trivial)
def iY:List Str:=["_law_left_here","_law_n","_law_guest","_law_way"]
def su:List (Str×GI):=[("_law_pick",.fn 2 cz)]
def iL:=aQ iY (gH (ie iY gt su []) (aN gt)) 2
def yG:aU iY ["_law_left_here","_law_n"] (aA gt):=⟨rfl,rfl,rfl,by decide +kernel,rfl,by decide +kernel,by decide +kernel⟩
def zd(T:iC w K mg):Fn P w K mg base 2 "_law_deed" 2 iL:=
 bz T.d__law_deed yG (fun _ _ _ _ _ _=>cB fun _=>cB fun _=>iZ rfl) (GKs.mem (gs:=su) ⟨(lS T).up (by decide),trivial⟩)
def kq:List Str:=["_law_within","_law_guest","_law_word"]
def vf:List (Str×GI):=[]
def ee:=aQ kq (gH (ie kq ip vf []) (aN ip)) 3
def AY:aU kq ["_law_within","_law_guest","_law_word"] (aA ip):=⟨rfl,rfl,rfl,by decide +kernel,rfl,by decide +kernel,by decide +kernel⟩
def rO(T:iC w K mg):Fn P w K mg base 1 "_law_put" 3 ee:=
 bz T.d__law_put AY (fun _ _ _ _ _ _=>cB fun _=>cB fun _=>cB fun _=>iZ rfl) (GKs.mem (gs:=vf) trivial)
def gb:List Str:=["_law_rule_here","_law_waits","_law_reading","_law_writing","_law_tagged"]
def oV:List (Str×GI):=[("enumerate",.blt),("list",.blt),("range",.blt),("len",.blt),("max",.blt)]
def fV:=aQ gb (gH (ie gb eI oV []) (aN eI)) 2
def tR:aU gb ["_law_rule_here","_law_waits"] (aA eI):=⟨rfl,rfl,rfl,by decide +kernel,rfl,by decide +kernel,by decide +kernel⟩
def ue(T:iC w K mg):Fn P w K mg base 1 "_law_fronts" 2 fV:=
 bz T.d__law_fronts tR (fun _ _ _ _ _ _=>cB fun _=>cB fun _=>iZ rfl) (GKs.mem (gs:=oV) ⟨T.z_enumerate,T.z_list,T.z_range,T.z_len,T.z_max,trivial⟩)
def iV:List Str:=["_law_rule_here","_law_within","_law_want","_law_reading"]
def sk:List (Str×GI):=[("len",.blt)]
def iK:=aQ iV (gH (ie iV gn sk []) (aN gn)) 3
def yD:aU iV ["_law_rule_here","_law_within","_law_want"] (aA gn):=⟨rfl,rfl,rfl,by decide +kernel,rfl,by decide +kernel,by decide +kernel⟩
def zb(T:iC w K mg):Fn P w K mg base 1 "_law_lets" 3 iK:=
 bz T.d__law_lets yD (fun _ _ _ _ _ _=>cB fun _=>cB fun _=>cB fun _=>iZ rfl) (GKs.mem (gs:=sk) ⟨T.z_len,trivial⟩)
def fo:List Str:=["_law_rule_here","_law_room","_law_within","_law_waits","_law_events_here","_law_turn","_law_alone","_law_some","_law_guest","_law_want","_law_mark","_law_rest","_law_ahead"]
def nw:List (Str×GI):=[("range",.blt),("len",.blt),("_law_put",.fn 3 ee),("_law_fronts",.fn 2 fV),("_law_lets",.fn 3 iK),("tuple",.blt),("int",.blt)]
def cT:=aQ fo (gH (ie fo dL nw [270]) (aN dL)) 2
def sC:aU fo ["_law_rule_here","_law_room"] (aA dL):=⟨rfl,rfl,rfl,by decide +kernel,rfl,by decide +kernel,by decide +kernel⟩
def mJ(T:iC w K mg):Fn P w K mg base 2 "_law_settled" 2 cT:=
 bz T.d__law_settled sC (fun _ _ _ _ _ _=>cB fun _=>cB fun _=>iZ rfl) (GKs.mem (gs:=nw) ⟨T.z_range,T.z_len,(rO T).up (by decide),(ue T).up (by decide),(zb T).up (by decide),T.z_tuple,T.z_int,trivial⟩)
def kw:List Str:=["_law_room","_law_deed_here","_law_within","_law_waits","_law_here","_law_stays","_law_fits"]
def vh:List (Str×GI):=[]
def jW:=aQ kw (gH (ie kw iu vh [290]) (aN iu)) 2
def Ba:aU kw ["_law_room","_law_deed_here"] (aA iu):=⟨rfl,rfl,rfl,by decide +kernel,rfl,by decide +kernel,by decide +kernel⟩
def Bq(T:iC w K mg):Fn P w K mg base 1 "_law_can" 2 jW:=
 bz T.d__law_can Ba (fun _ _ _ _ _ _=>cB fun _=>cB fun _=>iZ rfl) (GKs.mem (gs:=vh) trivial)
def hZ:List Str:=["_law_rule_here","_law_room","_law_deed_here","_law_word","_law_guest","_law_rest","_law_entry","_law_events_here"]
def qw:List (Str×GI):=[("_law_settled",.fn 2 cT),("tuple",.blt)]
def gX:=aQ hZ (gH (ie hZ fD qw []) (aN fD)) 3
def vT:aU hZ ["_law_rule_here","_law_room","_law_deed_here"] (aA fD):=⟨rfl,rfl,rfl,by decide +kernel,rfl,by decide +kernel,by decide +kernel⟩
def wc(T:iC w K mg):Fn P w K mg base 3 "_law_asked" 3 gX:=
 bz T.d__law_asked vT (fun _ _ _ _ _ _=>cB fun _=>cB fun _=>cB fun _=>iZ rfl) (GKs.mem (gs:=qw) ⟨(mJ T).up (by decide),T.z_tuple,trivial⟩)
def ga:List Str:=["_law_rule_here","_law_here","_law_waits"]
def oU:List (Str×GI):=[("tuple",.blt)]
def fU:=aQ ga (gH (ie ga eH oU []) (aN eH)) 3
def tQ:aU ga ["_law_rule_here","_law_here","_law_waits"] (aA eH):=⟨rfl,rfl,rfl,by decide +kernel,rfl,by decide +kernel,by decide +kernel⟩
def ud(T:iC w K mg):Fn P w K mg base 1 "_law_marked" 3 fU:=
 bz T.d__law_marked tQ (fun _ _ _ _ _ _=>cB fun _=>cB fun _=>cB fun _=>iZ rfl) (GKs.mem (gs:=oU) ⟨T.z_tuple,trivial⟩)
def iX:List Str:=["_law_rule_here","_law_room","_law_deed_here","_law_within","_law_waits","_law_fewer","_law_gone","_law_events_here","_law_word","_law_guest","_law_here","_law_first","_law_there","_law_more"]
def sr:List (Str×GI):=[("tuple",.blt),("_law_settled",.fn 2 cT),("_law_can",.fn 2 jW),("_law_asked",.fn 3 gX),("int",.blt),("_law_marked",.fn 3 fU),("_law_put",.fn 3 ee)]
def df:=aQ iX (gH (ie iX gq sr []) (aN gq)) 3
def yF:aU iX ["_law_rule_here","_law_room","_law_deed_here"] (aA gq):=⟨rfl,rfl,rfl,by decide +kernel,rfl,by decide +kernel,by decide +kernel⟩
def pX(T:iC w K mg):Fn P w K mg base 4 "_law_done" 3 df:=
 bz T.d__law_done yF (fun _ _ _ _ _ _=>cB fun _=>cB fun _=>cB fun _=>iZ rfl) (GKs.mem (gs:=sr) ⟨T.z_tuple,(mJ T).up (by decide),(Bq T).up (by decide),(wc T).up (by decide),T.z_int,(ud T).up (by decide),(rO T).up (by decide),trivial⟩)
def ko:List Str:=["_law_left_here","_law_rule_here","_law_n","_law_many","_law_room","_law_row_here","_law_turn","_law_deed_here","_law_found"]
def ve:List (Str×GI):=[("range",.blt),("_law_deed",.fn 2 iL),("_law_done",.fn 3 df),("tuple",.blt)]
def iA:=aQ ko (gH (ie ko io ve [240]) (aN io)) 4
def AX:aU ko ["_law_left_here","_law_rule_here","_law_n","_law_many"] (aA io):=⟨rfl,rfl,rfl,by decide +kernel,rfl,by decide +kernel,by decide +kernel⟩
def Bo(T:iC w K mg):Fn P w K mg base 5 "_law_row" 4 iA:=
 bz T.d__law_row AX (fun _ _ _ _ _ _=>cB fun _=>cB fun _=>cB fun _=>cB fun _=>iZ rfl) (GKs.mem (gs:=ve) ⟨T.z_range,(zd T).up (by decide),(pX T).up (by decide),T.z_tuple,trivial⟩)
def gc:List Str:=["_law_rule_here","_law_n","_law_row_here","_law_room","_law_found","_law_deed_here","_law_events_here"]
def oW:List (Str×GI):=[("_law_done",.fn 3 df)]
def eK:=aQ gc (gH (ie gc eJ oW [348]) (aN eJ)) 3
def tS:aU gc ["_law_rule_here","_law_n","_law_row_here"] (aA eJ):=⟨rfl,rfl,rfl,by decide +kernel,rfl,by decide +kernel,by decide +kernel⟩
def uf(T:iC w K mg):Fn P w K mg base 5 "_law_events" 3 eK:=
 bz T.d__law_events tS (fun _ _ _ _ _ _=>cB fun _=>cB fun _=>cB fun _=>iZ rfl) (GKs.mem (gs:=oW) ⟨(pX T).up (by decide),trivial⟩)
def iU:List Str:=["_law_left_here","_law_word","_law_most","_law_times"]
def si:List (Str×GI):=[("_law_pick",.fn 2 cz),("int",.blt)]
def gE:=aQ iU (gH (ie iU gl si []) (aN gl)) 1
def yB:aU iU ["_law_left_here"] (aA gl):=⟨rfl,rfl,rfl,by decide +kernel,rfl,by decide +kernel,by decide +kernel⟩
def za(T:iC w K mg):Fn P w K mg base 2 "_law_rule" 1 gE:=
 bz T.d__law_rule yB (fun _ _ _ _ _ _=>cB fun _=>iZ rfl) (GKs.mem (gs:=si) ⟨(lS T).up (by decide),T.z_int,trivial⟩)
def iT:List Str:=["_law_events_here","_law_at","_law_asked_here","_law_word","_law_guest","_law_others","_law_deed_here","_law_later","_law_who"]
def sh:List (Str×GI):=[("int",.blt)]
def eX:=aQ iT (gH (ie iT gk sh []) (aN gk)) 2
def yz:aU iT ["_law_events_here","_law_at"] (aA gk):=⟨rfl,rfl,rfl,by decide +kernel,rfl,by decide +kernel,by decide +kernel⟩
def yY(T:iC w K mg):Fn P w K mg base 1 "_law_wait" 2 eX:=
 bz T.d__law_wait yz (fun _ _ _ _ _ _=>cB fun _=>cB fun _=>iZ rfl) (GKs.mem (gs:=sh) ⟨T.z_int,trivial⟩)
def N__law_same:List Str:=["_law_found","_law_due","_law_keys"]
def gA:List (Str×GI):=[("isinstance",.blt),("dict",.blt),("str",.blt),("all",.blt),("list",.blt),("tuple",.blt),("bool",.blt),("int",.blt),("len",.blt),("zip",.blt)]
def gK:=KY N__law_same cO gA [] "_law_same" 2
def dS:=gK 8
def zf:N__law_same.Nodup:=by decide +kernel
def yA:aU N__law_same ["_law_found","_law_due"] (aA cO):=⟨rfl,rfl,rfl,zf,rfl,by decide +kernel,by decide +kernel⟩
def yZ(T:iC w K mg):Fn P w K mg base 9 "_law_same" 2 dS:=
 KW (gs:=gA) (k:=0) T.d__law_same yA (fun _ _ _ _ _ _=>cB fun _=>cB fun _=>iZ rfl) ⟨T.z_isinstance,T.z_dict,T.z_str,T.z_all,T.z_list,T.z_tuple,T.z_bool,T.z_int,T.z_len,T.z_zip,trivial⟩ 8
def qH:List Str:=["n"]
def GM:List (Str×GI):=[]
def iG:=aQ qH (gH (ie qH nW GM []) (aN nW)) 1
def KM:aU qH ["n"] (aA nW):=⟨rfl,rfl,rfl,by decide +kernel,rfl,by decide +kernel,by decide +kernel⟩
def Bm(T:iC w K mg):Fn P w K mg base 1 "empty" 1 iG:=
 bz T.d_empty KM (fun _ _ _ _ _ _=>cB fun _=>iZ rfl) (GKs.mem (gs:=GM) trivial)
def fY:List Str:=["room","words"]
def oS:List (Str×GI):=[("tuple",.blt),("enumerate",.blt)]
def cn:=aQ fY (gH (ie fY eE oS []) (aN eE)) 2
def tO:aU fY ["room","words"] (aA eE):=⟨rfl,rfl,rfl,by decide +kernel,rfl,by decide +kernel,by decide +kernel⟩
def jI(T:iC w K mg):Fn P w K mg base 1 "guests_with" 2 cn:=
 bz T.d_guests_with tO (fun _ _ _ _ _ _=>cB fun _=>cB fun _=>iZ rfl) (GKs.mem (gs:=oS) ⟨T.z_tuple,T.z_enumerate,trivial⟩)
def kj:List Str:=["word","waits","turned","favoured","ranked"]
def vc:List (Str×GI):=[("FAVOURED",.tab vE)]
def mr:=aQ kj (gH (ie kj il vc []) (aN il)) 2
def AV:aU kj ["word","waits"] (aA il):=⟨rfl,rfl,rfl,by decide +kernel,rfl,by decide +kernel,by decide +kernel⟩
def Bl(T:iC w K mg):Fn P w K mg base 1 "foremost" 2 mr:=
 bz T.d_foremost AV (fun _ _ _ _ _ _=>cB fun _=>cB fun _=>iZ rfl) (GKs.mem (gs:=vc) ⟨T.g_FAVOURED,trivial⟩)
def jE:List Str:=["room","guest","entry"]
def xI:List (Str×GI):=[("guests_with",.fn 2 cn)]
def ce:=aQ jE (gH (ie jE jz xI []) (aN jz)) 2
def DR:aU jE ["room","guest"] (aA jz):=⟨rfl,rfl,rfl,by decide +kernel,rfl,by decide +kernel,by decide +kernel⟩
def jH(T:iC w K mg):Fn P w K mg base 2 "waiting" 2 ce:=
 bz T.d_waiting DR (fun _ _ _ _ _ _=>cB fun _=>cB fun _=>iZ rfl) (GKs.mem (gs:=xI) ⟨(jI T).up (by decide),trivial⟩)
def lJ:List Str:=["rule","room","guest","want","beside","most"]
def CD:List (Str×GI):=[("waiting",.fn 2 ce),("all",.blt),("enumerate",.blt),("len",.blt)]
def gR:=aQ lJ (gH (ie lJ lj CD []) (aN lj)) 3
def HU:aU lJ ["rule","room","guest"] (aA lj):=⟨rfl,rfl,rfl,by decide +kernel,rfl,by decide +kernel,by decide +kernel⟩
def qR(T:iC w K mg):Fn P w K mg base 3 "can_go" 3 gR:=
 bz T.d_can_go HU (fun _ _ _ _ _ _=>cB fun _=>cB fun _=>cB fun _=>iZ rfl) (GKs.mem (gs:=CD) ⟨(jH T).up (by decide),T.z_all,T.z_enumerate,T.z_len,trivial⟩)
def iR:List Str:=["rule","room","guest","want","mark","left"]
def se:List (Str×GI):=[("can_go",.fn 3 gR)]
def kI:=aQ iR (gH (ie iR gi se []) (aN gi)) 2
def yx:aU iR ["rule","room"] (aA gi):=⟨rfl,rfl,rfl,by decide +kernel,rfl,by decide +kernel,by decide +kernel⟩
def yX(T:iC w K mg):Fn P w K mg base 4 "next_past" 2 kI:=
 bz T.d_next_past yx (fun _ _ _ _ _ _=>cB fun _=>cB fun _=>iZ rfl) (GKs.mem (gs:=se) ⟨(qR T).up (by decide),trivial⟩)
def lG:List Str:=["rule","room","guest"]
def xK:List (Str×GI):=[("foremost",.fn 2 mr),("next_past",.fn 2 kI),("can_go",.fn 3 gR)]
def ly:=aQ lG (gH (ie lG jB xK []) (aN jB)) 2
def DV:aU lG ["rule","room"] (aA jB):=⟨rfl,rfl,rfl,by decide +kernel,rfl,by decide +kernel,by decide +kernel⟩
def Ei(T:iC w K mg):Fn P w K mg base 5 "next_in" 2 ly:=
 bz T.d_next_in DV (fun _ _ _ _ _ _=>cB fun _=>cB fun _=>iZ rfl) (GKs.mem (gs:=xK) ⟨(Bl T).up (by decide),(yX T).up (by decide),(qR T).up (by decide),trivial⟩)
def nT:List Str:=["rule","room","guest"]
def CC:List (Str×GI):=[("guests_with",.fn 2 cn),("next_in",.fn 2 ly),("can_go",.fn 3 gR)]
def lz:=aQ nT (gH (ie nT lh CC []) (aN lh)) 2
def HS:aU nT ["rule","room"] (aA lh):=⟨rfl,rfl,rfl,by decide +kernel,rfl,by decide +kernel,by decide +kernel⟩
def Im(T:iC w K mg):Fn P w K mg base 6 "coming" 2 lz:=
 bz T.d_coming HS (fun _ _ _ _ _ _=>cB fun _=>cB fun _=>iZ rfl) (GKs.mem (gs:=CC) ⟨(jI T).up (by decide),(Ei T).up (by decide),(qR T).up (by decide),trivial⟩)
def iP:List Str:=["room","guest","word","within","waits"]
def rZ:List (Str×GI):=[]
def bF:=aQ iP (gH (ie iP gg rZ []) (aN gg)) 3
def yv:aU iP ["room","guest","word"] (aA gg):=⟨rfl,rfl,rfl,by decide +kernel,rfl,by decide +kernel,by decide +kernel⟩
def fE(T:iC w K mg):Fn P w K mg base 1 "with_word" 3 bF:=
 bz T.d_with_word yv (fun _ _ _ _ _ _=>cB fun _=>cB fun _=>cB fun _=>iZ rfl) (GKs.mem (gs:=rZ) trivial)
def nS:List Str:=["rule","room","guest","within","waits","place","ahead"]
def CB:List (Str×GI):=[("with_word",.fn 3 bF),("tuple",.blt),("WORD_WITHIN",.tab pd)]
def qx:=aQ nS (gH (ie nS lg CB []) (aN lg)) 3
def HR:aU nS ["rule","room","guest"] (aA lg):=⟨rfl,rfl,rfl,by decide +kernel,rfl,by decide +kernel,by decide +kernel⟩
def Il(T:iC w K mg):Fn P w K mg base 2 "let_in" 3 qx:=
 bz T.d_let_in HR (fun _ _ _ _ _ _=>cB fun _=>cB fun _=>cB fun _=>iZ rfl) (GKs.mem (gs:=CB) ⟨(fE T).up (by decide),T.z_tuple,T.g_WORD_WITHIN,trivial⟩)
def hJ:List Str:=["rule","room","event","word","guest"]
def qr:List (Str×GI):=[("let_in",.fn 3 qx),("with_word",.fn 3 bF)]
def gS:=aQ hJ (gH (ie hJ fz qr []) (aN fz)) 3
def vP:aU hJ ["rule","room","event"] (aA fz):=⟨rfl,rfl,rfl,by decide +kernel,rfl,by decide +kernel,by decide +kernel⟩
def vX(T:iC w K mg):Fn P w K mg base 3 "brought_by" 3 gS:=
 bz T.d_brought_by vP (fun _ _ _ _ _ _=>cB fun _=>cB fun _=>cB fun _=>iZ rfl) (GKs.mem (gs:=qr) ⟨(Il T).up (by decide),(fE T).up (by decide),trivial⟩)
def lF:List Str:=["rule","room","events","event"]
def xJ:List (Str×GI):=[("coming",.fn 2 lz),("brought_by",.fn 3 gS),("tuple",.blt)]
def cW:=aQ lF (gH (ie lF jA xJ [61]) (aN jA)) 2
def DU:aU lF ["rule","room"] (aA jA):=⟨rfl,rfl,rfl,by decide +kernel,rfl,by decide +kernel,by decide +kernel⟩
def po(T:iC w K mg):Fn P w K mg base 7 "settled" 2 cW:=
 bz T.d_settled DU (fun _ _ _ _ _ _=>cB fun _=>cB fun _=>iZ rfl) (GKs.mem (gs:=xJ) ⟨(Im T).up (by decide),(vX T).up (by decide),T.z_tuple,trivial⟩)
def fj:List Str:=["room","guest","within","waits"]
def nv:List (Str×GI):=[("tuple",.blt)]
def cG:=aQ fj (gH (ie fj dJ nv []) (aN dJ)) 2
def sB:aU fj ["room","guest"] (aA dJ):=⟨rfl,rfl,rfl,by decide +kernel,rfl,by decide +kernel,by decide +kernel⟩
def mI(T:iC w K mg):Fn P w K mg base 1 "without_wait" 2 cG:=
 bz T.d_without_wait sB (fun _ _ _ _ _ _=>cB fun _=>cB fun _=>iZ rfl) (GKs.mem (gs:=nv) ⟨T.z_tuple,trivial⟩)
def iS:List Str:=["rule","room","deed","want","guest","left","within","waits","entry","events"]
def sg:List (Str×GI):=[("settled",.fn 2 cW),("waiting",.fn 2 ce),("without_wait",.fn 2 cG)]
def gD:=aQ iS (gH (ie iS gj sg []) (aN gj)) 3
def yy:aU iS ["rule","room","deed"] (aA gj):=⟨rfl,rfl,rfl,by decide +kernel,rfl,by decide +kernel,by decide +kernel⟩
def pW(T:iC w K mg):Fn P w K mg base 8 "bring_ask" 3 gD:=
 bz T.d_bring_ask yy (fun _ _ _ _ _ _=>cB fun _=>cB fun _=>cB fun _=>iZ rfl) (GKs.mem (gs:=sg) ⟨(po T).up (by decide),(jH T).up (by decide),(mI T).up (by decide),trivial⟩)
def kn:List Str:=["rule","room","deed","guest","events"]
def vd:List (Str×GI):=[("settled",.fn 2 cW),("guests_with",.fn 2 cn),("with_word",.fn 3 bF),("waiting",.fn 2 ce)]
def jU:=aQ kn (gH (ie kn im vd []) (aN im)) 3
def AW:aU kn ["rule","room","deed"] (aA im):=⟨rfl,rfl,rfl,by decide +kernel,rfl,by decide +kernel,by decide +kernel⟩
def Bn(T:iC w K mg):Fn P w K mg base 8 "bring_up" 3 jU:=
 bz T.d_bring_up AW (fun _ _ _ _ _ _=>cB fun _=>cB fun _=>cB fun _=>iZ rfl) (GKs.mem (gs:=vd) ⟨(po T).up (by decide),(jI T).up (by decide),(fE T).up (by decide),(jH T).up (by decide),trivial⟩)
def dP:List Str:=["rule","room","first","events"]
def lv:List (Str×GI):=[("settled",.fn 2 cW)]
def bv:=aQ dP (gH (ie dP dg lv []) (aN dg)) 3
def pO:aU dP ["rule","room","first"] (aA dg):=⟨rfl,rfl,rfl,by decide +kernel,rfl,by decide +kernel,by decide +kernel⟩
def eN(T:iC w K mg):Fn P w K mg base 8 "settled_behind" 3 bv:=
 bz T.d_settled_behind pO (fun _ _ _ _ _ _=>cB fun _=>cB fun _=>cB fun _=>iZ rfl) (GKs.mem (gs:=lv) ⟨(po T).up (by decide),trivial⟩)
def nR:List Str:=["rule","room","guest","within","waits"]
def CA:List (Str×GI):=[("tuple",.blt)]
def gQ:=aQ nR (gH (ie nR lf CA []) (aN lf)) 3
def HQ:aU nR ["rule","room","guest"] (aA lf):=⟨rfl,rfl,rfl,by decide +kernel,rfl,by decide +kernel,by decide +kernel⟩
def wX(T:iC w K mg):Fn P w K mg base 1 "turned" 3 gQ:=
 bz T.d_turned HQ (fun _ _ _ _ _ _=>cB fun _=>cB fun _=>cB fun _=>iZ rfl) (GKs.mem (gs:=CA) ⟨T.z_tuple,trivial⟩)
def hX:List Str:=["rule","room","deed","guest"]
def qv:List (Str×GI):=[("settled_behind",.fn 3 bv),("with_word",.fn 3 bF),("turned",.fn 3 gQ)]
def gW:=aQ hX (gH (ie hX fC qv []) (aN fC)) 3
def vS:aU hX ["rule","room","deed"] (aA fC):=⟨rfl,rfl,rfl,by decide +kernel,rfl,by decide +kernel,by decide +kernel⟩
def wa(T:iC w K mg):Fn P w K mg base 9 "bring_down" 3 gW:=
 bz T.d_bring_down vS (fun _ _ _ _ _ _=>cB fun _=>cB fun _=>cB fun _=>iZ rfl) (GKs.mem (gs:=qv) ⟨(eN T).up (by decide),(fE T).up (by decide),(wX T).up (by decide),trivial⟩)
def fZ:List Str:=["rule","room","deed","guest"]
def oT:List (Str×GI):=[("settled_behind",.fn 3 bv),("with_word",.fn 3 bF),("turned",.fn 3 gQ)]
def fT:=aQ fZ (gH (ie fZ eG oT []) (aN eG)) 3
def tP:aU fZ ["rule","room","deed"] (aA eG):=⟨rfl,rfl,rfl,by decide +kernel,rfl,by decide +kernel,by decide +kernel⟩
def uc(T:iC w K mg):Fn P w K mg base 9 "bring_leave" 3 fT:=
 bz T.d_bring_leave tP (fun _ _ _ _ _ _=>cB fun _=>cB fun _=>cB fun _=>iZ rfl) (GKs.mem (gs:=oT) ⟨(eN T).up (by decide),(fE T).up (by decide),(wX T).up (by decide),trivial⟩)
def hV:List Str:=["rule","room","deed","guest","calmer"]
def qu:List (Str×GI):=[("settled_behind",.fn 3 bv),("waiting",.fn 2 ce),("with_word",.fn 3 bF),("without_wait",.fn 2 cG)]
def gU:=aQ hV (gH (ie hV fB qu []) (aN fB)) 3
def vR:aU hV ["rule","room","deed"] (aA fB):=⟨rfl,rfl,rfl,by decide +kernel,rfl,by decide +kernel,by decide +kernel⟩
def vZ(T:iC w K mg):Fn P w K mg base 9 "bring_stop" 3 gU:=
 bz T.d_bring_stop vR (fun _ _ _ _ _ _=>cB fun _=>cB fun _=>cB fun _=>iZ rfl) (GKs.mem (gs:=qu) ⟨(eN T).up (by decide),(jH T).up (by decide),(fE T).up (by decide),(mI T).up (by decide),trivial⟩)
def kg:List Str:=["left"]
def uZ:List (Str×GI):=[]
def iy:=aQ kg (gH (ie kg ij uZ []) (aN ij)) 1
def AT:aU kg ["left"] (aA ij):=⟨rfl,rfl,rfl,by decide +kernel,rfl,by decide +kernel,by decide +kernel⟩
def Bj(T:iC w K mg):Fn P w K mg base 1 "one_less" 1 iy:=
 bz T.d_one_less AT (fun _ _ _ _ _ _=>cB fun _=>iZ rfl) (GKs.mem (gs:=uZ) trivial)
def hU:List Str:=["rule","room","deed","within","waits","shorter","ended","kept"]
def qt:List (Str×GI):=[("tuple",.blt),("settled_behind",.fn 3 bv),("one_less",.fn 1 iy)]
def gT:=aQ hU (gH (ie hU fA qt []) (aN fA)) 3
def vQ:aU hU ["rule","room","deed"] (aA fA):=⟨rfl,rfl,rfl,by decide +kernel,rfl,by decide +kernel,by decide +kernel⟩
def vY(T:iC w K mg):Fn P w K mg base 9 "bring_tick" 3 gT:=
 bz T.d_bring_tick vQ (fun _ _ _ _ _ _=>cB fun _=>cB fun _=>cB fun _=>iZ rfl) (GKs.mem (gs:=qt) ⟨T.z_tuple,(eN T).up (by decide),(Bj T).up (by decide),trivial⟩)
def Dl:List (bG×Nat×(List D->ac->Option (D×ac))):=[(.inr "read",3,gD),(.inr "write",3,gD),(.inr "up",3,jU),(.inr "down",3,gW),(.inr "leave",3,fT),(.inr "stop",3,gU),(.inr "tick",3,gT)]
def vK:List Str:=["rule","room","deed","bring"]
def MH:List (Str×GI):=[("BRINGS",.ftab Dl)]
def pF:=aQ vK (gH (ie vK qM MH []) (aN qM)) 3
def OU:aU vK ["rule","room","deed"] (aA qM):=⟨rfl,rfl,rfl,by decide +kernel,rfl,by decide +kernel,by decide +kernel⟩
def PR(T:iC w K mg):Fn P w K mg base 10 "done" 3 pF:=
 bz T.d_done OU (fun _ _ _ _ _ _=>cB fun _=>cB fun _=>cB fun _=>iZ rfl) (GKs.mem (gs:=MH) ⟨Qv T.g_BRINGS ⟨rfl,(pW T).up (by decide),rfl,(pW T).up (by decide),rfl,(Bn T).up (by decide),rfl,(wa T).up (by decide),rfl,(uc T).up (by decide),rfl,(vZ T).up (by decide),rfl,(vY T).up (by decide),trivial⟩,trivial⟩)
def fX:List Str:=["thing","many"]
def oR:List (Str×GI):=[("isinstance",.blt),("tuple",.blt),("len",.blt)]
def dc:=aQ fX (gH (ie fX eD oR []) (aN eD)) 2
def tN:aU fX ["thing","many"] (aA eD):=⟨rfl,rfl,rfl,by decide +kernel,rfl,by decide +kernel,by decide +kernel⟩
def ub(T:iC w K mg):Fn P w K mg base 1 "is_tuple_of" 2 dc:=
 bz T.d_is_tuple_of tN (fun _ _ _ _ _ _=>cB fun _=>cB fun _=>iZ rfl) (GKs.mem (gs:=oR) ⟨T.z_isinstance,T.z_tuple,T.z_len,trivial⟩)
def lH:List Str:=["thing","words"]
def xL:List (Str×GI):=[("isinstance",.blt),("str",.blt)]
def gC:=aQ lH (gH (ie lH jC xL []) (aN jC)) 2
def DX:aU lH ["thing","words"] (aA jC):=⟨rfl,rfl,rfl,by decide +kernel,rfl,by decide +kernel,by decide +kernel⟩
def Ej(T:iC w K mg):Fn P w K mg base 1 "is_word" 2 gC:=
 bz T.d_is_word DX (fun _ _ _ _ _ _=>cB fun _=>cB fun _=>iZ rfl) (GKs.mem (gs:=xL) ⟨T.z_isinstance,T.z_str,trivial⟩)
def kh:List Str:=["thing"]
def vb:List (Str×GI):=[("isinstance",.blt),("int",.blt),("bool",.blt)]
def jS:=aQ kh (gH (ie kh ik vb []) (aN ik)) 1
def AU:aU kh ["thing"] (aA ik):=⟨rfl,rfl,rfl,by decide +kernel,rfl,by decide +kernel,by decide +kernel⟩
def Bk(T:iC w K mg):Fn P w K mg base 1 "is_whole" 1 jS:=
 bz T.d_is_whole AU (fun _ _ _ _ _ _=>cB fun _=>iZ rfl) (GKs.mem (gs:=vb) ⟨T.z_isinstance,T.z_int,T.z_bool,trivial⟩)
def gZ:List Str:=["thing","low","high"]
def qq:List (Str×GI):=[("is_whole",.fn 1 jS)]
def dD:=aQ gZ (gH (ie gZ fv qq []) (aN fv)) 3
def vO:aU gZ ["thing","low","high"] (aA fv):=⟨rfl,rfl,rfl,by decide +kernel,rfl,by decide +kernel,by decide +kernel⟩
def vW(T:iC w K mg):Fn P w K mg base 2 "is_between" 3 dD:=
 bz T.d_is_between vO (fun _ _ _ _ _ _=>cB fun _=>cB fun _=>cB fun _=>iZ rfl) (GKs.mem (gs:=qq) ⟨(Bk T).up (by decide),trivial⟩)
def lI:List Str:=["n","thing","want","guest","left"]
def xM:List (Str×GI):=[("is_tuple_of",.fn 2 dc),("is_word",.fn 2 gC),("WANTS",.con qE),("is_between",.fn 3 dD),("GUEST_WORDS",.con kU),("GREATEST_LEFT",.con ji)]
def iz:=aQ lI (gH (ie lI jD xM []) (aN jD)) 2
def DY:aU lI ["n","thing"] (aA jD):=⟨rfl,rfl,rfl,by decide +kernel,rfl,by decide +kernel,by decide +kernel⟩
def Ek(T:iC w K mg):Fn P w K mg base 3 "is_deed" 2 iz:=
 bz T.d_is_deed DY (fun _ _ _ _ _ _=>cB fun _=>cB fun _=>iZ rfl) (GKs.mem (gs:=xM) ⟨(ub T).up (by decide),(Ej T).up (by decide),T.g_WANTS,(vW T).up (by decide),T.g_GUEST_WORDS,T.g_GREATEST_LEFT,trivial⟩)
def lK:List Str:=["room","deed","word","guest","within"]
def CF:List (Str×GI):=[("WRITING_WORDS",.con jh),("waiting",.fn 2 ce)]
def jT:=aQ lK (gH (ie lK ll CF []) (aN ll)) 2
def HV:aU lK ["room","deed"] (aA ll):=⟨rfl,rfl,rfl,by decide +kernel,rfl,by decide +kernel,by decide +kernel⟩
def Io(T:iC w K mg):Fn P w K mg base 3 "can_do" 2 jT:=
 bz T.d_can_do HV (fun _ _ _ _ _ _=>cB fun _=>cB fun _=>iZ rfl) (GKs.mem (gs:=CF) ⟨T.g_WRITING_WORDS,(jH T).up (by decide),trivial⟩)
def nP:List Str:=["rule","n","row","room","steps","place","deed","behind","events"]
def Cy:List (Str×GI):=[("empty",.fn 1 iG),("enumerate",.blt),("done",.fn 3 pF),("is_deed",.fn 2 iz),("can_do",.fn 2 jT)]
def lx:=aQ nP (gH (ie nP kZ Cy [176]) (aN kZ)) 3
def HN:aU nP ["rule","n","row"] (aA kZ):=⟨rfl,rfl,rfl,by decide +kernel,rfl,by decide +kernel,by decide +kernel⟩
def Ij(T:iC w K mg):Fn P w K mg base 11 "walked" 3 lx:=
 bz T.d_walked HN (fun _ _ _ _ _ _=>cB fun _=>cB fun _=>cB fun _=>iZ rfl) (GKs.mem (gs:=Cy) ⟨(Bm T).up (by decide),T.z_enumerate,(PR T).up (by decide),(Ek T).up (by decide),(Io T).up (by decide),trivial⟩)
def Dq:List Str:=["rule","n","row","steps","room"]
def Sr:List (Str×GI):=[("walked",.fn 3 lx),("empty",.fn 1 iG),("tuple",.blt)]
def xR:=aQ Dq (gH (ie Dq wR Sr [100173]) (aN wR)) 3
def Tk:aU Dq ["rule","n","row"] (aA wR):=⟨rfl,rfl,rfl,by decide +kernel,rfl,by decide +kernel,by decide +kernel⟩
def Um(T:iC w K mg):Fn P w K mg base 12 "ran" 3 xR:=
 bz T.d_ran Tk (fun _ _ _ _ _ _=>cB fun _=>cB fun _=>cB fun _=>iZ rfl) (GKs.mem (gs:=Sr) ⟨(Ij T).up (by decide),(Bm T).up (by decide),T.z_tuple,trivial⟩)
def iQ:List Str:=["guest","want","later","others","word","who"]
def sa:List (Str×GI):=[]
def gB:=aQ iQ (gH (ie iQ gh sa []) (aN gh)) 3
def yw:aU iQ ["guest","want","later"] (aA gh):=⟨rfl,rfl,rfl,by decide +kernel,rfl,by decide +kernel,by decide +kernel⟩
def yW(T:iC w K mg):Fn P w K mg base 1 "wait_told" 3 gB:=
 bz T.d_wait_told yw (fun _ _ _ _ _ _=>cB fun _=>cB fun _=>cB fun _=>iZ rfl) (GKs.mem (gs:=sa) trivial)
def nQ:List Str:=["rule","n","row","events","begun","deed","brought"]
def Cz:List (Str×GI):=[("zip",.blt),("tuple",.blt),("ran",.fn 3 xR),("WANTS",.con qE),("wait_told",.fn 3 gB),("len",.blt)]
def iJ:=aQ nQ (gH (ie nQ la Cz [185,186,100191]) (aN la)) 3
def HP:aU nQ ["rule","n","row"] (aA la):=⟨rfl,rfl,rfl,by decide +kernel,rfl,by decide +kernel,by decide +kernel⟩
def Ik(T:iC w K mg):Fn P w K mg base 13 "waited" 3 iJ:=
 bz T.d_waited HP (fun _ _ _ _ _ _=>cB fun _=>cB fun _=>cB fun _=>iZ rfl) (GKs.mem (gs:=Cz) ⟨T.z_zip,T.z_tuple,(Um T).up (by decide),T.g_WANTS,(yW T).up (by decide),T.z_len,trivial⟩)
def Dr:List Str:=["_law_script","_law_k","_law_left_here","_law_rule_here","_law_n","_law_row_here","_law_room","_law_events_here","_law_some","_law_due"]
def Ss:List (Str×GI):=[("range",.blt),("_law_left",.fn 2 gF),("_law_row",.fn 4 iA),("_law_events",.fn 3 eK),("tuple",.blt),("min",.blt),("_law_rule",.fn 1 gE),("len",.blt),("_law_pick",.fn 2 cz),("_law_wait",.fn 2 eX),("_law_same",.fn 2 dS),("waited",.fn 3 iJ)]
def CP:=aQ Dr (gH (ie Dr wS Ss []) (aN wS)) 1
def Tl:aU Dr ["_law_script"] (aA wS):=⟨rfl,rfl,rfl,by decide +kernel,rfl,by decide +kernel,by decide +kernel⟩
def Vg(T:iC w K mg):GKs P w K mg base 13 Ss:=⟨T.z_range,(zc T).up (by decide),(Bo T).up (by decide),(uf T).up (by decide),T.z_tuple,T.z_min,(za T).up (by decide),T.z_len,(lS T).up (by decide),(yY T).up (by decide),(yZ T).up (by decide),(Ik T).up (by decide),trivial⟩
end
def Ww{l:W.OpenLaw}{w:World}{K:W.Frag}{h:Heap}{mg:Str->Option Value}{fa:Addr}(X:K.In h)(G:h.Ns mainGlobals mg)(hfa:mg "law" = some (.ref fa))(T:iC w K mg) :
  ∃ fd:FuncData,(∀ (s:Shared) (v:Value),BindsTo s fd ⟨[v],[]⟩ [("_law_script",v)])/\∀ base:Heap,K.In base->base.Ns mainGlobals mg->FnOk l.prog w K mg base Hq 14 fa fd ["_law_script"] (KG K 1 CP):=
 UE T.d_law hfa Tl (fun _ _ _ _ _ _ _=>rfl) fun base=>Vg T
def walk{l:W.OpenLaw}{q:Program}{loose:List Str}{XP:(Str->Option Value)->Heap->Prop}{YP:World->Heap->Prop}{d:DefRec}{K:Params->W.Frag}(hn:l.most=some 63)(hdf:d.params.defaults=[])(hnm:d.name = "law")
  (hY:∀ (w:World) (h:Heap),YP w h->(K w.params).In h) (hlaw:∀ ns:List Int,ns.length<=63->∃ S',CP [.rol (ns.map .int)] []=some (.bl true,S'))
  (F:∀ (w:World) (mg:Str->Option Value) (h:Heap),(K w.params).In h->h.Ns mainGlobals mg->iC w (K w.params) mg) :
  W.WalkO q loose XP YP l.row.toRowW d [] (fun f vs=>PySem.call f vs):=
 L2.OH (n:=63) (k:=14) (x:="_law_script") (CX:=fun _=>Hq) (sp:=fun w=>KG (K w.params) 1 CP) hn (by decide) hdf ⟨rfl,by decide,by decide⟩ hY
  (fun w mg fa h KX G hmg=>Ww KX G (hnm ▸ hmg) (F w mg h KX G)) (fun _ _ a ns hl _ hS=>UC hlaw hl hS) fun _ _ _ _ _ z=>z
end K20
end
section
set_option maxHeartbeats 4000000
namespace K20
open L2 MI
open M hiding mC ab ar ax cS da cF eL dH dG tf fQ lL ai aa aM eM dj xi bu bU bt bd dN ao aY ay aV db bC ah aB af aE eW aI bZ dm ia bE cZ bH di el lq ju kN gy dZ dX dI dY dU dq cR gN
def uB:MS:=
 nZ
def sI:eY=aQ fq uB 2:=jb rfl
def EH:MS:=
 ER
def BE:jV=aQ ku EH 0:=jb rfl
def BQ:MS:=
 tm eY jV
def zq:gF=aQ iW BQ 2:=jb rfl
def BO:MS:=
 tj
def zo:cz=aQ kL BO 2:=jb rfl
def BS:MS:=
 qi cz
def zt:iL=aQ iY BS 2:=jb rfl
def EG:MS:=
 EQ
def BD:ee=aQ kq EG 3:=jb rfl
def wq:MS:=
 rg
def uv:fV=aQ gb wq 2:=jb rfl
def BP:MS:=
 zK
def zp:iK=aQ iV BP 3:=jb rfl
def uA:MS:=
 pB fV iK ee
def sH:cT=aQ fo uA 2:=jb rfl
def EI:MS:=
 zL
def BF:jW=aQ kw EI 2:=jb rfl
def zw:MS:=
 uK cT
def wm:gX=aQ hZ zw 3:=jb rfl
def wp:MS:=
 lu
def uu:fU=aQ ga wp 3:=jb rfl
def BR:MS:=
 kG jW gX cT fU ee
def zr:df=aQ iX BR 3:=jb rfl
def EF:MS:=
 EO iL df
def BC:iA=aQ ko EF 4:=jb rfl
def oP:MS:=
 ay (aI (aM (aa (ar cC (aM (aa (mC (.str "out")) (ai))) (ab 1)) (aa (aM (ai)) (ai)))) (ah 3)) (ay (aI (dj (ai)) (ah 4)) (ay (dI (ab 2) (ah 5) (ay (aI (ao 3 df (aa (ab 0) (aa (ab 3) (aa (ab 5) (ai))))) (aE 2 (af (ah 3) (af (ah 6) (aB))))) (db (di fG (ab 4) (aa (bE (cZ (ab 6)) (aE 2 (af (ah 0) (af (ah 1) (aB)))) (bH) (aM (aa (ar aw (ab 2) (mC (.int 0))) (aa (ab 0) (aa (ab 1) (ai))))) [none,none,some 5]) (ai)))))) (aV (ab 4))))
def uw:eK=aQ gc oP 3:=jb rfl
def BN:MS:=
 zJ cz
def zn:gE=aQ iU BN 1:=jb rfl
def rS:MS:=
 ay (aI (ar aw (ab 0) (ab 1)) (aE 3 (af (ah 2) (af (ah 3) (af (ah 4) (aB)))))) (ay (aI (mC (.int 0)) (ah 5)) (ay (dI (bt (ab 0) (bU (ar aT (ab 1) (mC (.int 1)))) (bu)) (aE 3 (af (ah 6) (af (ah 7) (af (ah 8) (aB))))) (ay (bC (cF (ax (ar bY (ab 8) (ab 4))) (ax (ar kz (ab 7) (aM (aa (mC (.str "in")) (aa (mC (.str "ends")) (ai))))))) (aV (aM (aa (ab 4) (aa (ab 2) (aa (ab 5) (aa (ab 7) (ai))))))) (aY)) (aI (ar aT (ab 5) (bd (aP jk) (aa (ar bY (ab 7) (mC (.str "in"))) (ai)))) (ah 5)))) (aV (aM (aa (ab 4) (aa (ab 2) (aa (ab 5) (aa (mC .non) (ai)))))))))
def zl:eX=aQ iT rS 2:=jb rfl
def rT(dS:List D->ac->Option (D×ac)):MS:=
 lZ dS
def zm(j:Nat):gK (j+1)=aQ N__law_same (rT (gK j)) 2:=by
 unfold gK
 show aQ N__law_same (gH (ie N__law_same cO (("_law_same",.fn 2 (KY N__law_same cO gA [] "_law_same" 2 j))::gA) []) (aN cO)) 2=_
 generalize KY N__law_same cO gA [] "_law_same" 2 j=F
 rw [show gH (ie N__law_same cO (("_law_same",.fn 2 F)::gA) []) (aN cO)=rT F from rfl]
def Gp:MS:=
 aV (aM (aa (ar cC (aM (aa (mC (.str "out")) (ai))) (ab 0)) (aa (aM (ai)) (ai))))
def LN:iG=aQ qH Gp 1:=jb rfl
def wn:MS:=
 Ee
def ur:cn=aQ fY wn 2:=jb rfl
def EE:MS:=
 lR
def BA:mr=aQ kj EE 2:=jb rfl
def IE:MS:=
 mR cn
def uo:ce=aQ jE IE 2:=jb rfl
def LR:MS:=
 gu ce
def xa:gR=aQ lJ LR 3:=jb rfl
def BL:MS:=
 lQ gR
def zj:kI=aQ iR BL 2:=jb rfl
def IG:MS:=
 pj kI mr gR
def Ey:ly=aQ lG IG 2:=jb rfl
def LQ:MS:=
 pk cn gR ly
def IC:lz=aQ nT LQ 2:=jb rfl
def BH:MS:=
 lP
def zh:bF=aQ iP BH 3:=jb rfl
def LO:MS:=
 qP bF
def IB:qx=aQ nS LO 3:=jb rfl
def zu:MS:=
 mU bF qx
def wf:gS=aQ hJ zu 3:=jb rfl
def IF:MS:=
 mS gS lz
def Ex:cW=aQ lF IF 2:=jb rfl
def mY:MS:=
 ay (aI (ab 0) (aE 2 (af (ah 2) (af (ah 3) (aB))))) (aV (aM (aa (ab 2) (aa (bd (aP (cw .tup)) (aa (bE (cZ (ab 3)) (ah 0) (ax (ar ib (ar aw (ab 0) (mC (.int 0))) (ab 1))) (ab 0) [none,some 1]) (ai))) (ai)))))
def sG:cG=aQ fj mY 2:=jb rfl
def rR:MS:=
 ay (aI (ab 2) (aE 3 (af (ah 3) (af (ah 4) (af (ah 5) (aB)))))) (ay (aI (ab 1) (aE 2 (af (ah 6) (af (ah 7) (aB))))) (ay (aI (aM (aa (ab 4) (aa (ab 3) (aa (mC (.int 0)) (aa (lL (ax (ar bY (ab 5) (mC (.int 0)))) (mC (.int 1)) (ab 5)) (ai)))))) (ah 8)) (ay (aI (ao 2 cW (aa (ab 0) (aa (aM (aa (ab 6) (aa (ar aT (ab 7) (aM (aa (ab 8) (ai)))) (ai)))) (ai)))) (aE 2 (af (ah 1) (af (ah 9) (aB))))) (ay (bC (ax (ar wA (ao 2 ce (aa (ab 1) (aa (ab 4) (ai)))) (mC .non))) (aV (aM (aa (ab 1) (aa (ab 9) (ai))))) (aY)) (ay (bC (ax (ar bY (ab 5) (mC (.int 0)))) (aV (aM (aa (ao 2 cG (aa (ab 1) (aa (ab 4) (ai)))) (aa (ar aT (ab 9) (aM (aa (aM (aa (mC (.str "no")) (aa (ab 4) (ai)))) (ai)))) (ai))))) (aY)) (aV (aM (aa (ab 1) (aa (ar aT (ab 9) (aM (aa (aM (aa (mC (.str "waits")) (aa (ab 4) (ai)))) (ai)))) (ai))))))))))
def zk:gD=aQ iS rR 3:=jb rfl
def uz:MS:=
 ay (aI (ar aw (ab 2) (mC (.int 1))) (ah 3)) (ay (bC (eL (ax (ar bY (ar aw (ab 0) (mC (.int 3))) (mC (.int 0)))) (da (ao 2 cn (aa (ab 1) (aa (aM (aa (mC (.str "rising")) (ai))) (ai)))))) (aV (aM (aa (ab 1) (aa (aM (aa (aM (aa (mC (.str "no")) (aa (ab 3) (ai)))) (ai))) (ai))))) (aY)) (ay (aI (ao 2 cW (aa (ab 0) (aa (ao 3 bF (aa (ab 1) (aa (ab 3) (aa (mC (.str "rising")) (ai))))) (ai)))) (aE 2 (af (ah 1) (af (ah 4) (aB))))) (ay (bC (ax (ar wA (ao 2 ce (aa (ab 1) (aa (ab 3) (ai)))) (mC .non))) (aV (aM (aa (ab 1) (aa (ab 4) (ai))))) (aY)) (aV (aM (aa (ab 1) (aa (ar aT (ab 4) (aM (aa (aM (aa (mC (.str "waits")) (aa (ab 3) (ai)))) (ai)))) (ai))))))))
def BB:jU=aQ kn uz 3:=jb rfl
def lm:MS:=
 ay (aI (ao 2 cW (aa (ab 0) (aa (ab 1) (ai)))) (aE 2 (af (ah 1) (af (ah 3) (aB))))) (aV (aM (aa (ab 1) (aa (ar aT (ab 2) (ab 3)) (ai)))))
def pZ:bv=aQ dP lm 3:=jb rfl
def BK:MS:=
 ay (aI (ab 1) (aE 2 (af (ah 3) (af (ah 4) (aB))))) (ay (bC (eL (ax (ar ib (ar aw (ab 0) (mC (.int 0))) (mC (.str "turns")))) (ax (ar ib (ar aw (ab 3) (ab 2)) (mC (.str "writes"))))) (aV (ab 1)) (aY)) (aV (aM (aa (ab 3) (aa (bd (aP (cw .tup)) (aa (bE (cZ (ab 4)) (aE 4 (af (ah 0) (af (ah 1) (af (ah 2) (af (ah 3) (aB)))))) (bH) (aM (aa (ab 0) (aa (ab 1) (aa (lL (ax (ar bY (ab 1) (mC (.str "read")))) (mC (.int 1)) (ab 2)) (aa (ab 3) (ai)))))) [none,none,none,none]) (ai))) (ai))))))
def IA:gQ=aQ nR BK 3:=jb rfl
def qd:MS:=
 ay (aI (ar aw (ab 2) (mC (.int 1))) (ah 3)) (aV (ao 3 bv (aa (ab 0) (aa (ao 3 bF (aa (ao 3 gQ (aa (ab 0) (aa (ab 1) (aa (ab 3) (ai))))) (aa (ab 3) (aa (mC (.str "reads")) (ai))))) (aa (aM (aa (aM (aa (mC (.str "down")) (aa (ab 3) (ai)))) (ai))) (ai))))))
def wl:gW=aQ hX qd 3:=jb rfl
def oO:MS:=
 ay (aI (ar aw (ab 2) (mC (.int 1))) (ah 3)) (aV (ao 3 bv (aa (ab 0) (aa (ao 3 bF (aa (ao 3 gQ (aa (ab 0) (aa (ab 1) (aa (ab 3) (ai))))) (aa (ab 3) (aa (mC (.str "out")) (ai))))) (aa (aM (aa (aM (aa (mC (.str "out")) (aa (ab 3) (ai)))) (ai))) (ai))))))
def ut:fT=aQ fZ oO 3:=jb rfl
def qc:MS:=
 ay (aI (ar aw (ab 2) (mC (.int 1))) (ah 3)) (ay (bC (ax (ar bY (ao 2 ce (aa (ab 1) (aa (ab 3) (ai)))) (mC (.str "up")))) (aI (ao 3 bF (aa (ab 1) (aa (ab 3) (aa (mC (.str "reads")) (ai))))) (ah 4)) (aI (ao 2 cG (aa (ab 1) (aa (ab 3) (ai)))) (ah 4))) (aV (ao 3 bv (aa (ab 0) (aa (ab 4) (aa (aM (aa (aM (aa (mC (.str "ends")) (aa (ab 3) (ai)))) (ai))) (ai)))))))
def wj:gU=aQ hV qc 3:=jb rfl
def ux:MS:=
 aV (lL (ax (ar wA (ab 0) (mC .non))) (mC .non) (ar oH (ab 0) (mC (.int 1))))
def By:iy=aQ kg ux 1:=jb rfl
def qb:MS:=
 ay (aI (ab 1) (aE 2 (af (ah 3) (af (ah 4) (aB))))) (ay (aI (bE (cZ (ab 4)) (aE 4 (af (ah 0) (af (ah 1) (af (ah 2) (af (ah 3) (aB)))))) (bH) (aM (aa (ab 0) (aa (ab 1) (aa (ab 2) (aa (ao 1 iy (aa (ab 3) (ai))) (ai)))))) [none,none,none,none]) (ah 5)) (ay (aI (bd (aP (cw .tup)) (aa (bE (cZ (ab 5)) (ah 0) (ax (ar bY (ar aw (ab 0) (mC (.int 3))) (mC (.int 0)))) (aM (aa (mC (.str "ends")) (aa (ar aw (ab 0) (mC (.int 0))) (ai)))) [none]) (ai))) (ah 6)) (ay (aI (bd (aP (cw .tup)) (aa (bE (cZ (ab 5)) (ah 0) (ax (ar ib (ar aw (ab 0) (mC (.int 3))) (mC (.int 0)))) (ab 0) [none]) (ai))) (ah 7)) (aV (ao 3 bv (aa (ab 0) (aa (aM (aa (ab 3) (aa (ab 7) (ai)))) (aa (ab 6) (ai)))))))))
def wg:gT=aQ hU qb 3:=jb rfl
def LP:MS:=
 gN Dl 3 (ar aw (ab 2) (mC (.int 0))) (aa (ab 0) (aa (ab 1) (aa (ab 2) (ai))))
def Qc:pF=aQ vK LP 3:=jb rfl
def oN:MS:=
 aV (dG (dN "tuple" (ab 0)) (ar bY (bd (aP fg) (aa (ab 0) (ai))) (ab 1)))
def uq:dc=aQ fX oN 2:=jb rfl
def xc:MS:=
 aV (dG (dN "str" (ab 0)) (ar kz (ab 0) (ab 1)))
def Ez:gC=aQ lH xc 2:=jb rfl
def uy:MS:=
 aV (dG (dN "int" (ab 0)) (fQ (dN "bool" (ab 0))))
def Bz:jS=aQ kh uy 1:=jb rfl
def qa:MS:=
 aV (dG (ao 1 jS (aa (ab 0) (ai))) (cS QG QG (ab 1) (ab 0) (ab 2)))
def we:dD=aQ gZ qa 3:=jb rfl
def xf:MS:=
 ay (bC (da (ao 2 dc (aa (ab 1) (aa (mC (.int 1)) (ai))))) (aV (ao 2 gC (aa (ar aw (ab 1) (mC (.int 0))) (aa (aM (aa (mC (.str "tick")) (ai))) (ai))))) (aY)) (ay (bC (da (ao 2 dc (aa (ab 1) (aa (mC (.int 2)) (ai))))) (aV (dG (ao 2 gC (aa (ar aw (ab 1) (mC (.int 0))) (aa (mC kU) (ai)))) (ao 3 dD (aa (ar aw (ab 1) (mC (.int 1))) (aa (mC (.int 0)) (aa (ar oH (ab 0) (mC (.int 1))) (ai))))))) (aY)) (ay (bC (dH (da (ao 2 dc (aa (ab 1) (aa (mC (.int 3)) (ai)))))) (aV (mC (.bl false))) (aY)) (ay (aI (ab 1) (aE 3 (af (ah 2) (af (ah 3) (af (ah 4) (aB)))))) (aV (dG (ao 2 gC (aa (ab 2) (aa (mC qE) (ai)))) (dG (ao 3 dD (aa (ab 3) (aa (mC (.int 0)) (aa (ar oH (ab 0) (mC (.int 1))) (ai))))) (tf (ar wA (ab 4) (mC .non)) (ao 3 dD (aa (ab 4) (aa (mC (.int 0)) (aa (mC ji) (ai))))))))))))
def EA:iz=aQ lI xf 2:=jb rfl
def BM:MS:=
 ay (bC (ax (ar bY (ar aw (ab 1) (mC (.int 0))) (mC (.str "tick")))) (aV (mC (.bl true))) (aY)) (ay (aI (bt (ab 1) (bu) (bU (mC (.int 2)))) (aE 2 (af (ah 2) (af (ah 3) (aB))))) (ay (aI (ar aw (ar aw (ab 0) (mC (.int 0))) (ab 3)) (ah 4)) (ay (bC (ax (ar bY (ab 2) (mC (.str "up")))) (aV (ar bY (ab 4) (mC (.str "reads")))) (aY)) (ay (bC (ax (ar bY (ab 2) (mC (.str "down")))) (aV (ar kz (ab 4) (mC jh))) (aY)) (ay (bC (ax (ar bY (ab 2) (mC (.str "leave")))) (aV (ar ib (ab 4) (mC (.str "out")))) (aY)) (ay (bC (ax (ar bY (ab 2) (mC (.str "stop")))) (aV (ar nA (ao 2 ce (aa (ab 0) (aa (ab 3) (ai)))) (mC .non))) (aY)) (aV (dG (ar bY (ab 4) (mC (.str "out"))) (ar wA (ao 2 ce (aa (ab 0) (aa (ab 3) (ai)))) (mC .non))))))))))
def ID:jT=aQ lK BM 2:=jb rfl
def BI:MS:=
 ay (aI (ao 1 iG (aa (ab 1) (ai))) (ah 3)) (ay (aI (dj (ai)) (ah 4)) (ay (ia (el (aa (ab 2) (ai))) (aE 2 (af (ah 5) (af (ah 6) (aB)))) (ay (bC (eL (dH (da (ao 2 iz (aa (ab 1) (aa (ab 6) (ai)))))) (dH (da (ao 2 jT (aa (ab 3) (aa (ab 6) (ai))))))) (jL) (aY)) (ay (aI (ao 3 pF (aa (ab 0) (aa (ab 3) (aa (ab 6) (ai))))) (aE 2 (af (ah 7) (af (ah 8) (aB))))) (ay (db (di cX (ab 4) (aa (aM (aa (ab 3) (aa (ab 7) (aa (ab 8) (ai))))) (ai)))) (aI (ab 7) (ah 3)))))) (aV (ab 4))))
def Iy:lx=aQ nP BI 3:=jb rfl
def RZ:MS:=
 ay (aI (ao 3 lx (aa (ab 0) (aa (ab 1) (aa (ab 2) (ai))))) (ah 3)) (ay (aI (lL (da (ab 3)) (ar aw (ar aw (ab 3) (xi Jh (mC (.int 1)))) (mC (.int 1))) (ao 1 iG (aa (ab 1) (ai)))) (ah 4)) (aV (aM (aa (ab 4) (aa (bd (aP (cw .tup)) (aa (cR (ab 3) (aE 3 (af (ah 0) (af (ah 1) (af (ah 2) (aB))))) (bH) (ab 2) [none,none,none]) (ai))) (ai))))))
def Ut:xR=aQ Dq RZ 3:=jb rfl
def rQ:MS:=
 ay (aI (mC (.int 0)) (ah 3)) (ay (dI (ab 2) (aE 2 (af (ah 4) (af (ah 5) (aB)))) (ay (bC (cF (ax (ar bY (ab 5) (ab 0))) (ax (ar kz (ab 4) (aM (aa (mC (.str "in")) (aa (mC (.str "ends")) (ai))))))) (aV (aM (aa (ab 0) (aa (ab 1) (aa (ab 3) (aa (ab 4) (ai))))))) (aY)) (bC (ax (ar bY (ab 4) (mC (.str "in")))) (aI (ar Ng (ab 3) (mC (.int 1))) (ah 3)) (aY)))) (aV (aM (aa (ab 0) (aa (ab 1) (aa (ab 3) (aa (mC .non) (ai))))))))
def zi:gB=aQ iQ rQ 3:=jb rfl
def BJ:MS:=
 ay (aI (dj (ai)) (ah 3)) (ay (aI (dj (ai)) (ah 4)) (ay (ia (kN (aa (ab 2) (aa (ar aw (ao 3 xR (aa (ab 0) (aa (ab 1) (aa (ab 2) (ai))))) (mC (.int 1))) (ai)))) (aE 2 (af (ah 5) (af (ah 6) (aB)))) (ay (db (di fG (ab 3) (aa (ab 6) (ai)))) (bC (cF (ax (ar kz (ar aw (ab 5) (mC (.int 0))) (mC qE))) (ax (ar kz (aM (aa (mC (.str "waits")) (aa (ar aw (ab 5) (mC (.int 1))) (ai)))) (ab 6)))) (db (di cX (ab 4) (aa (aM (aa (ar aw (ab 5) (mC (.int 1))) (aa (ar aw (ab 5) (mC (.int 0))) (aa (bd (aP fg) (aa (ab 3) (ai))) (ai))))) (ai)))) (aY)))) (aV (bd (aP (cw .tup)) (aa (cR (ab 4) (aE 3 (af (ah 0) (af (ah 1) (af (ah 2) (aB))))) (bH) (ao 3 gB (aa (ab 0) (aa (ab 1) (aa (bt (ab 3) (bU (ab 2)) (bu)) (ai))))) [none,none,none,some 3]) (ai))))))
def Iz:iJ=aQ nQ BJ 3:=jb rfl
def Sa:MS:=
 ay (ia (bZ (aa (ar aT (mC (.int 1)) (bd (aP CS) (aa (mC (.int 6)) (aa (bd (aP fg) (aa (ab 0) (ai))) (ai))))) (ai))) (ah 1) (ay (aI (ao 2 gF (aa (ab 0) (aa (ab 1) (ai)))) (ah 2)) (ay (lq 3 4 (aa (ao 1 gE (aa (ab 2) (ai))) (aa (ar aT (mC (.int 1)) (ao 2 cz (aa (ab 2) (aa (mC (.int 5)) (ai))))) (ai)))) (ay (aI (ao 4 iA (aa (ab 2) (aa (ab 3) (aa (ab 4) (aa (ar aw (eM (aa (mC (.int 0)) (aa (mC (.int 6)) (aa (mC (.int 25)) (aa (mC (.int 60)) (ai)))))) (ao 2 cz (aa (ab 2) (aa (mC (.int 4)) (ai))))) (ai)))))) (aE 2 (af (ah 5) (af (ah 6) (aB))))) (ay (aI (ao 3 eK (aa (ab 3) (aa (ab 4) (aa (ab 5) (ai))))) (ah 7)) (ay (aI (bE (bZ (aa (bd (aP fg) (aa (ab 7) (ai))) (ai))) (ah 0) (cF (ax (ar bY (ar aw (ar aw (ab 1) (ab 0)) (mC (.int 1))) (mC (.str "waits")))) (ax (ar kz (ar aw (ar aw (ab 1) (ab 0)) (mC (.int 0))) (aM (aa (mC (.str "read")) (aa (mC (.str "write")) (ai))))))) (ab 0) [none,some 7]) (ah 8)) (ay (aI (bd (aP (cw .tup)) (aa (bE (cZ (ab 8)) (ah 0) (bH) (ao 2 eX (aa (ab 1) (aa (ab 0) (ai)))) [none,some 7]) (ai))) (ah 9)) (bC (eL (dH (da (ao 2 dS (aa (ao 3 iJ (aa (ab 3) (aa (ab 4) (aa (ab 5) (ai))))) (aa (ab 9) (ai)))))) (ax (ar ib (ao 3 iJ (aa (ab 3) (aa (ab 4) (aa (ab 5) (ai))))) (ab 9)))) (aV (mC (.bl false))) (aY))))))))) (aV (mC (.bl true)))
def Uu:CP=aQ Dr Sa 1:=jb rfl
end K20
end
section
namespace K20
open MI L2
open M hiding mC ab ar ax cS da cF eL dH dG tf fQ lL ai aa aM eM dj xi bu bU bt bd dN ao aY ay aV db bC ah aB af aE eW aI bZ dm ia bE cZ bH di el lq ju kN gy dZ dX dI dY dU dq cR gN
def yQ:FT cz:=fun S r m h h0 h1=>by rw [zo];exact Ib rfl h h0 h1
def left{S:ac}{ns:List Int}{k:Int}(h0:0<=k)(h1:k<=100000):∃ a b,gF [.rol (ns.map .int),.int k] S=some (.ref S.length,S++[.lst [.int a,.int b,.int 0]])/\0<=a/\0<=b/\b<2147483647:=by
 rw [zq]
 exact IK (N:=iW) (cellAt:=eY) (far:=jV) rfl h0 h1 (fun S k h=>by rw [sI];exact Dj (N:=fq) rfl h) (fun S=>by rw [BE];exact MU (N:=ku) rfl)
def RX(S:ac)(ws:List Wd)(i:Nat)(w:Wd)(h:i<ws.length)(hl:ws.length<=100):ee [cL ws,.int (i:Int),w.d] S=some (cL (ws.set i w),S):=by
 rw [BD];exact Pe (N:=kq) rfl h hl
def seOk:Ka fV iK ee:=
 ⟨fun S r es hl=>by rw [uv];exact Ff (N:=gb) rfl hl,fun S r ws wr=>by rw [zp];exact Mg (N:=iV) rfl,RX⟩
def wP:oz cT:=fun S r R h hl=>by
 rw [sH];exact AQ seOk (N:=fo) rfl h hl
def doOk:WF jW gX cT fU ee:=
 ⟨fun S R dd hl hd=>by rw [BF];exact Rx (N:=kw) rfl hl hd,
 fun S r R wr g t h hl hw hs=>by rw [wm];exact JY wP (N:=hZ) rfl h hl hw hs,
 wP,fun S r w es hl=>by rw [uu];exact EB (N:=ga) rfl hl,RX⟩
def rowOk:SL iL df:=
 ⟨fun S r n P h1 h5=>by rw [zt];exact NW yQ (N:=iY) rfl P h1 (by omega),
 fun S rl R dd h hl hd=>by rw [zr];exact NQ doOk (N:=iX) rfl h hl hd⟩
def row{S:ac}{r n m:Nat}{rl:Rl}(P:Pk S r)(h1:1<=n)(h5:n<=5)(hm:m<=400):∃ (l:List Dd) (R:Rm) (S':ac),iA [.ref r,rl.d,.int (n:Int),.int (m:Int)] S=some (.tup [.tup (l.map Dd.d),aW R],S')/\Behind rl n l R/\l.length<=m/\Pk S' r/\Grow r S S':=by
 rw [BC];exact OY rowOk (N:=ko) rfl P h1 h5 hm
def rule{S:ac}{r:Nat}(P:Pk S r):∃ (rl:Rl) (S':ac),gE [.ref r] S=some (rl.d,S')/\rl.Ok/\Pk S' r/\Keep r S S':=by
 rw [zn]
 obtain⟨x,a,b,c,S',e,R,P',K⟩:=HX (pick:=cz) yQ (N:=iU) rfl P
 obtain⟨w,rfl⟩:=IY R.w
 exact⟨⟨w,a,b,c⟩,S',e,⟨R.a0,R.a5,R.b0,R.b9,R.c0,R.c1⟩,P',K⟩
def Qt:OA cn:=fun S R l hl=>by rw [ur];exact Vf (N:=fY) rfl hl
def tF:rL ce:=fun S R g hl=>by rw [uo];exact Kn Qt (N:=jE) rfl hl
def An:oB gR:=⟨fun S r R g hl=>by rw [xa];exact JN tF (N:=lJ) rfl hl,fun S r ws hl=>by rw [xa];exact JM (fun S=>by rw [uo];exact Km Qt (N:=jE) rfl hl) (N:=lJ) rfl⟩
def Up(S:ac)(r:Rl)(R:Rm)(hl:R.1.length<=100)(hl2:R.2.length<=100):ly [r.d,aW R] S=some (oD (rP r R),S):=by
 rw [Ey]
 exact Ep (fun S r R hl=>by rw [zj];exact ze An (N:=iR) rfl hl) (fun S w es hw hl=>by rw [BA];exact zW (N:=kj) rfl hw hl) An (N:=lG) rfl hl hl2
def Oj(S:ac)(r:Rl)(R:Rm)(hl:R.1.length<=100)(hl2:R.2.length<=100):lz [r.d,aW R] S=some (sO (oY r R),S):=by
 rw [IC];exact FF Qt An Up (N:=nT) rfl hl hl2
def Hu(S:ac)(R:Rm)(g:Nat)(w:Wd)(h:g<R.1.length)(hl:R.1.length<=100):bF [aW R,.int (g:Int),w.d] S=some (aW (R.1.set g w,R.2),S):=by
 rw [zh];exact yj (N:=iP) rfl h hl
def stOk:WA gS lz:=⟨Oj,fun S r R v R' l h hl s=>by
 rw [wf]
 exact Dm Hu (fun S r R i e h hi hl=>by rw [IB];exact IJ Hu (N:=nS) rfl h hi hl) (N:=hJ) rfl h hl s⟩
def Lf{S:ac}{r:Rl}{R:Rm}(hb:0<=r.b)(h:ROk R)(hl:R.1.length<=50):cW [r.d,aW R] S=some (.tup [aW (aZ r R).1,cI (aZ r R).2],S++[.lst ((aZ r R).2.map Ev.d)]):=by
 rw [Ex];exact yK stOk hb (N:=lF) rfl h hl
def OW{S:ac}{d:D}(h:ja 8 d=true):dS [d,d] S=some (.bl true,S):=Bb (R:=gK) (N:=N__law_same) rfl zm 8 d h
def KJ:Ho cW:=fun S r R hb h hl=>Lf hb h hl
def woOk:Wy cG:=fun S R g hl=>by rw [sG,show mY=Eb from rfl];exact SO (N:=fj) rfl hl
def OV:RK bv:=fun S r R l hb h hl h4=>by rw [pZ,show lm=Ed cW from rfl];exact To KJ (N:=dP) rfl hb h hl h4
def tuOk:TuOk gQ:=fun S r R g w hw hl=>by rw [IA,show BK=Ec from rfl];exact SY (N:=nR) rfl hw hl
def olOk(S:ac)(t:Option Int):iy [bP t] S=some (bP (t.map (· - 1)),S):=by rw [By,show ux=pQ from rfl];exact Mh (N:=kg) rfl
def deOk:DeOk cW ce cn bF:=⟨KJ,tF,Qt,Hu⟩
def brOk:BrOk gD jU gW fT gU gT:=
 ⟨fun S r R wr g t hb h hl hw hs=>by rw [zk,show rR=yO cW ce cG from rfl];exact RJ KJ tF woOk (N:=iS) rfl hb h hl hw hs,
 fun S r R g hb h hl hw=>by rw [BB,show uz=yL cW ce cn bF from rfl];exact SQ deOk (N:=kn) rfl hb h hl hw,
 fun S r R g w hb h hl hw ho=>by rw [wl,show qd=pR bv bF gQ Wd.reads.s "down" from rfl];exact Da OV Hu tuOk (N:=hX) rfl hb h hl hw ho (.inl rfl) rfl (by decide) rfl,
 fun S r R g w hb h hl hw ho=>by rw [ut,show oO=pR bv bF gQ Wd.out.s "out" from rfl];exact Da OV Hu tuOk (N:=fZ) rfl hb h hl hw ho (.inr rfl) rfl (by decide) rfl,
 fun S r R g w hb h hl hw hc=>by rw [wj,show qc=pP bv bF cG ce from rfl];exact KC OV Hu woOk tF (N:=hV) rfl hb h hl hw hc,
 fun S r R hb h hl=>by rw [wg,show qb=tY bv iy from rfl];exact Kv OV olOk (N:=hU) rfl hb h hl⟩
def pdone{S:ac}{r:Rl}{R:Rm}{dd:Dd}{x:Rm×List Ev}(hb:0<=r.b)(h:ROk R)(hl:R.1.length<=50)(hd:dd.Ok R.1.length)(hx:fI r R dd=some x):∃ T,pF [r.d,aW R,dd.d] S=some (jo x,S++T):=by
 rw [Qc,show LP=pS (brL gD jU gW fT gU gT) from rfl];exact Ih brOk (N:=vK) rfl hb h hl hd hx
def tofOk:SJ dc:=fun S xs k=>by rw [uq,show oN=yM from rfl];exact OK (N:=fX) rfl
def SN:Oz gC:=fun S x ys h=>by rw [Ez,show xc=tW from rfl];exact Ki (N:=lH) rfl h
def betOk:SM dD:=fun S i lo hi=>by rw [we,show qa=sW jS from rfl];exact RC (fun S i=>by rw [Bz,show uy=qO from rfl];exact Hv (N:=kh) rfl) (N:=gZ) rfl
def Vc{S:ac}{n:Nat}{dd:Dd}(hd:dd.Ok n):iz [.int (n:Int),dd.d] S=some (.bl true,S):=by
 rw [EA,show xf=mT dc gC dD from rfl];exact JF tofOk SN betOk (N:=lI) rfl hd
def canDo{S:ac}{R:Rm}{dd:Dd}(hl:R.1.length<=100)(hd:dd.Ok R.1.length)(hc:iB R dd=true):jT [aW R,dd.d] S=some (.bl true,S):=by
 rw [ID,show BM=pU ce from rfl]
 by_cases ht:dd=.tick
 ·subst ht;exact FI (N:=lK) rfl
 ·rw [JO tF (N:=lK) rfl hl hd ht,hc]
def Mk{S:ac}{r:Rl}{R:Rm}{dd:Dd}(h:ROk R)(hl:R.1.length<=50)(hd:dd.Ok R.1.length):∃ T,df [r.d,aW R,dd.d] S=some (qB (fI r R dd),S++T):=rowOk.dn S r R dd h hl hd
def GZ(S:ac)(n:Nat)(h5:n<=5):iG [.int (n:Int)] S=some (aW (bN n),S):=by rw [LN,show Gp=qQ from rfl];exact Jx (N:=qH) rfl h5
def rnOk:RL iz jT pF iG:=⟨fun S n dd hd=>Vc hd,fun S R dd hl hd hc=>canDo hl hd hc,fun S r R dd x hb h hl hd hx=>pdone hb h hl hd hx,GZ⟩
def ranOk{S:ac}{r:Rl}{n:Nat}{l:List Dd}{xs:Rs}(hb:0<=r.b)(h5:n<=5)(w:Ws r (bN n) l xs)(hd:∀ d∈l,d.Ok n)(hl:l.length<=100):∃ S',xR [r.d,.int (n:Int),.tup (l.map Dd.d)] S=some (La (bN n) xs,S')/\∀ i,i<S.length->S'[i]?=S[i]?:=by
 obtain⟨S1,e1,q1,K1⟩:∃ S',lx [r.d,.int (n:Int),.tup (l.map Dd.d)] S=some (.ref S.length,S')/\S'[S.length]?=some (.lst ((Dz (bN n) xs).map HA))/\∀ i,i<S.length->S'[i]?=S[i]?:=by
  rw [Iy,show BI=ph iz jT pF iG from rfl];exact Dv rnOk hb (N:=nP) rfl h5 w hd (by omega)
 refine⟨S1,?_,K1⟩
 rw [Ut,show RZ=yN lx iG from rfl]
 exact OZ GZ (N:=Dq) rfl h5 (by rw [w.len];omega) e1 q1
def SZ:FR gB:=fun S g w l=>by rw [zi,show rQ=tX from rfl];exact Ku (N:=iQ) rfl
def AG{S:ac}{r:Rl}{n:Nat}{l:List Dd}{xs:Rs}(hb:0<=r.b)(h5:n<=5)(w:Ws r (bN n) l xs)(hd:∀ d∈l,d.Ok n)(hl:l.length<=100):∃ S',iJ [r.d,.int (n:Int),.tup (l.map Dd.d)] S=some (.tup ((ic l xs).map fP),S')/\∀ i,i<S.length->S'[i]?=S[i]?:=by
 rw [Iz,show BJ=pi xR gB from rfl]
 exact Dw SZ (N:=nQ) rfl w (w.few lB (by simp [bN];exact h5)) hl fun S=>ranOk hb h5 w hd hl
def WC{S:ac}{r q:Nat}{c:Cell}(P:Pk S r)(h:q≠r):Pk (S.set q c) r:=by
 obtain⟨a,b,d,e,z⟩:=P
 exact⟨a,b,d,by rw [Xf h];exact e,z⟩
def xA{tg:MG}{t:MT}{a:ME}{cap:List (Option Nat)}{env:bp}{S:ac}{xs:List D}(h:xs.length<=1000000):nk tg t a cap env (xs,S)=(dF tg t a xs (lD cap env) S).bind rj:=Xc (Xl h (by decide))
def Jk{S:ac}{q:Nat}{xs ys:List D}(h:S[q]?=some (.lst xs))(hz:xs.length+ys.length<=1000000):fG (.ref q) [.lst ys] S=some (.non,S.set q (.lst (xs++ys))):=by
 simp only [fG,h]
 exact Xc (Xl hz (by decide))
def leC:ME:=bE (cZ (ab 6)) (aE 2 (af (ah 0) (af (ah 1) (aB)))) (bH) (aM (aa (ar aw (ab 2) (mC (.int 0))) (aa (ab 0) (aa (ab 1) (ai))))) [none,none,some 5]
def zG:MS:=ay (aI (ao 3 df (aa (ab 0) (aa (ab 3) (aa (ab 5) (ai))))) (aE 2 (af (ah 3) (af (ah 6) (aB))))) (db (di fG (ab 4) (aa leC (ai))))
def Se:MS:=ay (aI (aM (aa (ar cC (aM (aa (mC (.str "out")) (ai))) (ab 1)) (aa (aM (ai)) (ai)))) (ah 3)) (ay (aI (dj (ai)) (ah 4)) (ay (dI (ab 2) (ah 5) zG) (aV (ab 4))))
def Mi{S:ac}{d:Dd}:∀ (es:List Ev) (a b:Option D),dF (aE 2 (af (ah 0) (af (ah 1) (aB)))) bH (aM (aa (ar aw (ab 2) (mC (.int 0))) (aa (ab 0) (aa (ab 1) (ai))))) (es.map Ev.d) [a,b,some d.d] S=some (es.map (fun e=>qI (cK d,e)),S)
 | [],a,b=>by simp
 | e::l,a,b=>by
  have ih:=Mi (S:=S) (d:=d) l (some (.str e.w)) (some (.int (e.g:Int)))
  have k3:∀ S (u v w:D),ca ([u,v,w],S)=some (.tup [u,v,w],S):=fun S u v w=>aR (by simp)
  have d0:=fun S=>dd0 (S:=S) d
  rw [WR,gz,show Ev.d e=.tup [.str e.w,.int (e.g:Int)] from rfl,bX]
  simp only [bg,aO,ob,dR,ej,cy,bB,uT,gM,uS,be,aq,aG,ak,bD,bJ,bI,oj,aj,av,bf,au,d0,am,az,al,k3,uR,ih,uQ]
  rfl
def IL{S:ac}{p q n:Nat}{r:Rl}{R:Rm}{dd:Dd}{x:Rm×List Ev}{zs:List E3}{a2 a6:Option D}(P:Pk S p)(hp:q≠p)(h:ROk R)(hn:R.1.length=n)(h5:n<=5)(hd:dd.Ok n)(hx:fI r R dd=some x)(hq:S[q]?=some (.lst (zs.map qI)))(hz:zs.length+100<=1000000):∃ b6 S',zG [some r.d,some (.int (n:Int)),a2,some (aW R),some (.ref q),some dd.d,a6] S=some (.nx [some r.d,some (.int (n:Int)),a2,some (aW x.1),some (.ref q),some dd.d,b6] S')/\Pk S' p/\S'[q]?=some (.lst ((zs++x.2.map (fun e=>(cK dd,e))).map qI)):=by
 obtain⟨T,e2⟩:=Mk (S:=S) (r:=r) (R:=R) (dd:=dd) h (by omega) (by rw [hn];exact hd)
 rw [hx] at e2
 have e2':df [r.d,aW R,dd.d] S=some (.tup [aW x.1,cI x.2],S++T):=e2
 have few:=rC h (by omega) hx
 have g2:∀ (u v:D) env S,aE 2 (af (ah 3) (af (ah 6) (aB))) (.tup [u,v]) env S=(af (ah 3) (af (ah 6) (aB))) [u,v] env S:=fun u v env S=>bX
 have cq:(S++T)[q]?=some (.lst (zs.map qI)):=by rw [WZ (WJ.mp hq).1];exact hq
 have lc:leC [some r.d,some (.int (n:Int)),a2,some (aW x.1),some (.ref q),some dd.d,some (cI x.2)] (S++T)=some (.lst (x.2.map (fun e=>qI (cK dd,e))),S++T):=by
  simp only [leC,bW,dr,ak,bD,bJ,bI,oj,ob,aj,cI,EW]
  rw [jP (by rw [WM];omega),show lD [none,none,some 5] [some r.d,some (.int (n:Int)),a2,some (aW x.1),some (.ref q),some dd.d,some (D.tup (x.2.map Ev.d))]=[none,none,some dd.d] from rfl,Mi,ob,fS]
 have ap:fG (.ref q) [.lst (x.2.map (fun e=>qI (cK dd,e)))] (S++T)=some (.non,(S++T).set q (.lst (zs.map qI++x.2.map (fun e=>qI (cK dd,e))))):=Jk cq (by rw [WM,WM];omega)
 have km:∀ f ms env,nj f ms env (.ref q,S++T)=(ms env (S++T)).bind (dO f (.ref q)):=fun f ms env=>oe cq
 refine⟨some (cI x.2),(S++T).set q (.lst (zs.map qI++x.2.map (fun e=>qI (cK dd,e)))),?_,WC (q:=q) (c:=.lst (zs.map qI++x.2.map (fun e=>qI (cK dd,e)))) P.appT hp,?_⟩
 ·simp only [zG,aS,bh,aK,aq,ak,bD,bJ,bI,oj,ob,aj,am,az,al,bL,e2',bi,g2,bg,aO,cy,bB,dR,ej,bK,aD,jt,js,km,lc,eC,ap,jw]
 ·rw [Xn (WJ.mp cq).1,Xy,XC];rfl
def IM{p q n:Nat}{r:Rl}{a2:Option D}(hp:q≠p)(h5:n<=5){R:Rm}{l:List Dd}{xs:Rs}(w:Ws r R l xs):∀ (S:ac) (zs:List E3) (a5 a6:Option D),Pk S p->ROk R->R.1.length=n->(∀ d∈l,d.Ok n)->S[q]?=some (.lst (zs.map qI))->zs.length+100 * l.length<=900000 ->
  ∃ b3 b5 b6 S',cj (ah 5) zG (l.map Dd.d) [some r.d,some (.int (n:Int)),a2,some (aW R),some (.ref q),a5,a6] S=some (.nx [some r.d,some (.int (n:Int)),a2,b3,some (.ref q),b5,b6] S')/\Pk S' p/\S'[q]?=some (.lst ((zs++fW l xs).map qI)):=by
 induction w with
 | @nil R=>
  intro S zs a5 a6 P h hn hd hq hz
  exact⟨some (aW R),a5,a6,S,ls,P,by rw [show fW [] ([]:Rs)=[] from rfl,Xr];exact hq⟩
 | @cons R d x l xs hx t ih=>
  intro S zs a5 a6 P h hn hd hq hz
  rw [WT] at hz
  have few:=rC h (by omega) hx
  obtain⟨b6,S1,e1,P1,q1⟩:=IL (a2:=a2) (a6:=a6) P hp h hn h5 (hd d WL) hx hq (by omega)
  obtain⟨h',hl'⟩:=iN h hx
  obtain⟨c3,c5,c6,S2,e2,P2,q2⟩:=ih S1 _ (some d.d) b6 P1 h' (hl'.trans hn) (fun d' z=>hd d' (WO _ z)) q1 (by rw [WX,WM];omega)
  refine⟨c3,c5,c6,S2,?_,P2,?_⟩
  ·rw [WR,dk]
   simp only [aO,ob,dR,ej,jO,e1,iF,e2]
  ·rw [q2,Xm];rfl
def lawEv{S:ac}{p n:Nat}{r:Rl}{l:List Dd}{xs:Rs}(P:Pk S p)(h5:n<=5)(w:Ws r (bN n) l xs)(hd:∀ d∈l,d.Ok n)(hl:l.length<=100):∃ q S',eK [r.d,.int (n:Int),.tup (l.map Dd.d)] S=some (.ref q,S')/\S'[q]?=some (.lst ((fW l xs).map qI)):=by
 rw [uw,show oP=Se from rfl,ba (show [r.d,D.int (n:Int),D.tup (l.map Dd.d)].length=3 from rfl),show aC gc [r.d,D.int (n:Int),D.tup (l.map Dd.d)]=[some r.d,some (.int (n:Int)),some (.tup (l.map Dd.d)),none,none,none,none] from rfl]
 have e0:=ND (S:=S) (n:=n) (i:=1) (env:=[some r.d,some (.int (n:Int)),some (.tup (l.map Dd.d)),none,none,none,none]) h5 (by simp only [ak,bD,bJ,bI,oj,ob,aj])
 have kl:qj ([],S)=some (.ref S.length,S++[.lst []]):=jN (by simp)
 have hp:S.length≠p:=fun z=>by have:=P.lt;omega
 obtain⟨b3,b5,b6,S',e,P',hq⟩:=IM (a2:=some (.tup (l.map Dd.d))) hp h5 w (S++[.lst []]) [] none none P.appT lB (by simp [bN]) hd ge (by simp;omega)
 rw [YO] at hq
 refine⟨S.length,S',?_,hq⟩
 simp only [Se,aS,bh,e0,ob,bi,aO,dR,ej,bK,aD,nX,az,kl,lW,ak,bD,bJ,bI,oj,aj,Ql,e,aX,bq,aJ]
def IN{S:ac}{q i:Nat}{L:List E3}{x:E3}(hq:S[q]?=some (.lst (L.map qI)))(hx:L[i]?=some x):eX [.ref q,.int (i:Int)] S=some (Tf L i,S):=by
 rw [zl,show rS=zI from rfl,Cj (N:=iT) rfl hq hx]
 unfold Tf;rw [hx];rfl
def RY:ME:=ar aw (eM (aa (mC (.int 0)) (aa (mC (.int 6)) (aa (mC (.int 25)) (aa (mC (.int 60)) (ai)))))) (ao 2 cz (aa (ab 2) (aa (mC (.int 4)) (ai))))
def soT:MT:=cF (ax (ar bY (ar aw (ar aw (ab 1) (ab 0)) (mC (.int 1))) (mC (.str "waits")))) (ax (ar kz (ar aw (ar aw (ab 1) (ab 0)) (mC (.int 0))) (aM (aa (mC (.str "read")) (aa (mC (.str "write")) (ai))))))
def soC:ME:=bE (bZ (aa (bd (aP fg) (aa (ab 7) (ai))) (ai))) (ah 0) soT (ab 0) [none,some 7]
def duC:ME:=bE (cZ (ab 8)) (ah 0) (bH) (ao 2 eX (aa (ab 1) (aa (ab 0) (ai)))) [none,some 7]
def Sd:MS:=bC (eL (dH (da (ao 2 dS (aa (ao 3 iJ (aa (ab 3) (aa (ab 4) (aa (ab 5) (ai))))) (aa (ab 9) (ai)))))) (ax (ar ib (ao 3 iJ (aa (ab 3) (aa (ab 4) (aa (ab 5) (ai))))) (ab 9)))) (aV (mC (.bl false))) (aY)
def turn:MS:=ay (aI (ao 2 gF (aa (ab 0) (aa (ab 1) (ai)))) (ah 2)) (ay (lq 3 4 (aa (ao 1 gE (aa (ab 2) (ai))) (aa (ar aT (mC (.int 1)) (ao 2 cz (aa (ab 2) (aa (mC (.int 5)) (ai))))) (ai)))) (ay (aI (ao 4 iA (aa (ab 2) (aa (ab 3) (aa (ab 4) (aa RY (ai)))))) (aE 2 (af (ah 5) (af (ah 6) (aB))))) (ay (aI (ao 3 eK (aa (ab 3) (aa (ab 4) (aa (ab 5) (ai))))) (ah 7)) (ay (aI soC (ah 8)) (ay (aI (bd (aP (cw .tup)) (aa duC (ai))) (ah 9)) Sd)))))
def RG{q:Int}(h0:0<=q)(h1:q<4):∃ k:Nat,mM [D.int 0,D.int 6,D.int 25,D.int 60] q=some (.int (k:Int))/\k<=60:=by
 have:q=0\/q=1\/q=2\/q=3:=by omega
 rcases this with rfl | rfl | rfl | rfl
 ·exact⟨0,rfl,by decide⟩
 ·exact⟨6,rfl,by decide⟩
 ·exact⟨25,rfl,by decide⟩
 ·exact⟨60,rfl,by decide⟩
def On{r:Rl}{R:Rm}{l:List Dd}{xs:Rs}(w:Ws r R l xs)(few:∀ x∈xs,x.2.length<=100):(fW l xs).length<=100 * l.length:=by
 induction w with
 | nil=>exact Yy _
 | @cons R d x l xs hx t ih=>
  have a:=ih fun y z=>few y (WO _ z)
  have b:=few x WL
  rw [fW,WX,WM,WT];omega
def Tg{S:ac}{q i:Nat}{L:List E3}(hq:S[q]?=some (.lst (L.map qI)))(hi:i<L.length):soT [some (ni i),some (.ref q)] S=some (Eg L i,S):=by
 have hx:L[i]?=some L[i]:=WS hi
 have ix:aw S (.ref q) (ni i)=some (qI L[i]):=by
  show aw S (.ref q) (.int (i:Int))=_
  rw [kJ hq,As (by omega) (by rw [WM];omega)]
  simp only [List.getElem_map,Xv]
 have x0:∀ S,aw S (qI L[i]) (.int 0)=some (.str L[i].1):=fun S=>rfl
 have x1:∀ S,aw S (qI L[i]) (.int 1)=some (.str L[i].2.w):=fun S=>rfl
 have k2:∀ S (u v:D),ca ([u,v],S)=some (.tup [u,v],S):=fun S u v=>aR (by simp)
 have fi:∀ S,kz S (.str L[i].1) (.tup [.str "read",.str "write"])=some (.bl (mn L[i].1)):=fun S=>zZ (by
  have e:∀ a b:Str,jm (.str a) (.str b)=(a == b):=fun a b=>rfl
  have c:∀ a b:Str,(a == b)=(b == a):=fun a b=>by rw [Xs,beq_iff_eq,beq_iff_eq];exact⟨Eq.symm,Eq.symm⟩
  simp only [XD,aaz,aao,e,mn]
  rw [c "read",c "write"])
 have pa:Eg L i=(L[i].2.w == cJ&&mn L[i].1):=by unfold Eg;rw [hx];rfl
 rw [pa]
 simp only [soT,gO,aH,aG,ak,bD,bJ,bI,oj,ob,aj,av,au,ix,bf,x1,cH,aF]
 show (GH _ _ (L[i].2.w == cJ,S))=_
 cases h:(L[i].2.w == cJ) with
 | false=>rw [mj];rfl
 | true=>simp only [jx,aH,aG,ak,bD,bJ,bI,oj,ob,aj,av,au,ix,bf,x0,be,aq,am,az,al,k2,fi,aF,Yt]
def HW{l:List Dd}{xs:Rs}(hl:l.length<=100):ja 8 (.tup ((ic l xs).map fP))=true:=by
 have z:=vH (l:=l) (xs:=xs)
 show (decide (((ic l xs).map fP).length<=1000)&&_)=true
 rw [WU (by rw [WM];omega),Yt,Xd]
 intro d hd
 obtain⟨b,_,rfl⟩:=Xk.mp hd
 unfold fP mF
 generalize gI b.1 0 b.2.2=y
 obtain⟨y1,y2⟩:=y
 cases y2 <;> rfl
def PQ{l:List Dd}{xs:Rs}:cY 40 (.tup ((ic l xs).map fP))=true:=by
 show (((ic l xs).map fP).all (cY 39))=true
 rw [Xd]
 intro d hd
 obtain⟨b,_,rfl⟩:=Xk.mp hd
 unfold fP mF
 generalize gI b.1 0 b.2.2=y
 obtain⟨y1,y2⟩:=y
 cases y2 <;> rfl
def OJ{S:ac}{ns:List Int}{k:Int}{a2 a3 a4 a5 a6 a7 a8 a9:Option D}(h0:0<=k)(h1:k<=100000) :
  ∃ b2 b3 b4 b5 b6 b7 b8 b9 S',turn [some (.rol (ns.map .int)),some (.int k),a2,a3,a4,a5,a6,a7,a8,a9] S=some (.nx [some (.rol (ns.map .int)),some (.int k),b2,b3,b4,b5,b6,b7,b8,b9] S'):=by
 obtain⟨p,q,e1,p0,q0,q1⟩:=left (S:=S) (ns:=ns) h0 h1
 have P1:=WD (S:=S) (c:=0) p0 q0 q1
 obtain⟨r,S2,e2,Rk,P2,K2⟩:=rule P1
 obtain⟨m,S3,e3,m0,m5,P3,K3⟩:=yQ _ _ 5 P2 (by decide) (by decide)
 obtain⟨n,hn⟩:∃ n:Nat,1+m=(n:Int):=⟨(1+m).toNat,by omega⟩
 obtain⟨j,S4,e4,j0,j4,P4,K4⟩:=yQ _ _ 4 P3 (by decide) (by decide)
 obtain⟨c,ec,hc⟩:=RG j0 j4
 have k4:∀ S,oE ([D.int 0,D.int 6,D.int 25,D.int 60],S)=some (.lst [D.int 0,D.int 6,D.int 25,D.int 60],S):=fun S=>eO (by simp)
 have xl:∀ S,aw S (.lst [D.int 0,D.int 6,D.int 25,D.int 60]) (.int j)=some (.int (c:Int)):=fun S=>by rw [fIx_l];exact ec
 obtain⟨l,R,S5,e5,B,hlen,P5,G5⟩:=row (rl:=r) (n:=n) (m:=c) P4 (by omega) (by omega) (by omega)
 obtain⟨⟨xs,w,hR⟩,hd⟩:=B.ws
 obtain⟨v,S6,e6,hv⟩:=lawEv P5 (by omega) w hd (by omega)
 have hL:=On w (w.few lB (by simp [bN];omega))
 have so:∀ a0 a1 a2 a3 a4 a5 a6 a8 a9,soC [a0,a1,a2,a3,a4,a5,a6,some (.ref v),a8,a9] S6=some (.lst (((List.range (fW l xs).length).filter (Eg (fW l xs))).map ni),S6):=fun a0 a1 a2 a3 a4 a5 a6 a8 a9=>by
  have fl:aP fg [.ref v] S6=some (.int ((fW l xs).length:Int),S6):=by rw [CT hv,WM]
  have k1:Qh ([.int ((fW l xs).length:Int)],S6)=some ((List.range (fW l xs).length).map ni,S6):=by rw [pC (by omega) (by omega),Xv,HZ]
  simp only [soC,bW,iw,aq,bS,ak,bD,bJ,bI,oj,ob,aj,am,az,al,bT,fl,k1]
  rw [xA (by rw [WM,List.length_range];omega),show lD [none,some 7] [a0,a1,a2,a3,a4,a5,a6,some (.ref v),a8,a9]=[none,some (.ref v)] from rfl,Hg (p:=Eg (fW l xs)) (f:=ni) _ none (fun i hi=>Tg hv (YV.mp hi)) (fun i hi _=>by simp only [ak,bD,oj,ob,aj]),ob,fS]
 have du:∀ a0 a1 a2 a3 a4 a5 a6 a9,duC [a0,a1,a2,a3,a4,a5,a6,some (.ref v),some (.lst (((List.range (fW l xs).length).filter (Eg (fW l xs))).map ni)),a9] S6=some (.lst ((ic l xs).map fP),S6):=fun a0 a1 a2 a3 a4 a5 a6 a9=>by
  have fl:(((List.range (fW l xs).length).filter (Eg (fW l xs)))).length<=1000000:=Xl (XR _ _) (by rw [List.length_range];omega)
  simp only [duC,bW,dr,ak,bD,bJ,bI,oj,ob,aj,uO]
  rw [xA (by rw [WM];exact fl),show lD [none,some 7] [a0,a1,a2,a3,a4,a5,a6,some (.ref v),some (.lst (((List.range (fW l xs).length).filter (Eg (fW l xs))).map ni)),a9]=[none,some (.ref v)] from rfl,Hg (p:=fun _=>true) (f:=Tf (fW l xs)) _ none (fun i hi=>by rw [gM]) (fun i hi _=>by
   have hi':=YV.mp (XM.mp hi).1
   have lw':=IN hv (WS hi')
   have lw2:eX [.ref v,ni i] S6=some (Tf (fW l xs) i,S6):=lw'
   simp only [aK,aq,ak,bD,bJ,bI,oj,ob,aj,am,az,al,bj,lw2]),ob,fS]
  rw [show (List.filter (fun _=>true) ((List.range (fW l xs).length).filter (Eg (fW l xs))))=(List.range (fW l xs).length).filter (Eg (fW l xs)) from XZ.mpr fun _ _=>rfl,Lm,TD w]
 obtain⟨S7,e7,_⟩:=AG (S:=S6) Rk.b0 (by omega) w hd (by omega)
 obtain⟨S8,e8,_⟩:=AG (S:=S7) Rk.b0 (by omega) w hd (by omega)
 have sm:dS [.tup ((ic l xs).map fP),.tup ((ic l xs).map fP)] S7=some (.bl true,S7):=OW (HW (by omega))
 have n2:∀ S,ib S (.tup ((ic l xs).map fP)) (.tup ((ic l xs).map fP))=some (.bl false):=fun S=>MY PQ
 have g2:∀ (u v:D) env S,aE 2 (af (ah 5) (af (ah 6) (aB))) (.tup [u,v]) env S=(af (ah 5) (af (ah 6) (aB))) [u,v] env S:=fun u v env S=>bX
 refine⟨some (.ref S.length),some r.d,some (.int (n:Int)),some (.tup (l.map Dd.d)),some (aW R),some (.ref v),some (.lst (((List.range (fW l xs).length).filter (Eg (fW l xs))).map ni)),some (.tup ((ic l xs).map fP)),S8,?_⟩
 simp only [turn,aS,bh,aK,aq,ak,bD,bJ,bI,oj,ob,aj,am,az,al,bj,e1,bi,aO,dR,ej,bK,aD,Uw,qm,e2,aG,bf,av,e3,au,kR,hn,UQ,RY,jM,k4,e4,xl,Mv,e5,g2,bg,cy,bB,bL,e6,so,bS,du,bT,eg,Sd,bm,jc,jq,dW,e7,sm,fM,jv,Xt,mf,aH,e8,n2,aF,bM,bw]
def Mj:∀ ns:List Int,ns.length<=63->∃ S',CP [.rol (ns.map .int)] []=some (.bl true,S'):=fun ns hl=>by
 rw [Uu,ba (show [D.rol (ns.map .int)].length=1 from rfl),show aC Dr [D.rol (ns.map .int)]=[some (.rol (ns.map .int)),none,none,none,none,none,none,none,none,none] from rfl]
 have hm:Sa=ay (ia (bZ (aa (ar aT (mC (.int 1)) (bd (aP CS) (aa (mC (.int 6)) (aa (bd (aP fg) (aa (ab 0) (ai))) (ai))))) (ai))) (ah 1) turn) (aV (mC (.bl true))):=rfl
 rw [hm]
 generalize hk:1+(if (ns.length:Int)<6 then (ns.length:Int) else 6)=k
 have hk':0<=k/\k<=26:=by rw [<- hk];split <;> omega
 have k1:Qh ([.int k],[])=some (cD 0 k.toNat,[]):=pC (by omega) (by omega)
 obtain⟨env',S',e,a1,a2,a3,a4,a5,a6,a7,a8,a9,rfl⟩:=CK (tg:=ah 1) (p:=turn) (fun env _=>∃ a1 a2 a3 a4 a5 a6 a7 a8 a9,env=[some (.rol (ns.map .int)),a1,a2,a3,a4,a5,a6,a7,a8,a9]) (cD 0 k.toNat) (fun d hd env S hI=>by
  obtain⟨a1,a2,a3,a4,a5,a6,a7,a8,a9,rfl⟩:=hI
  obtain⟨i,hi,rfl⟩:=Ew hd
  obtain⟨b2,b3,b4,b5,b6,b7,b8,b9,S2,e⟩:=OJ (S:=S) (ns:=ns) (k:=0+(i:Int)) (a2:=a2) (a3:=a3) (a4:=a4) (a5:=a5) (a6:=a6) (a7:=a7) (a8:=a8) (a9:=a9) (by omega) (by omega)
  exact⟨_,_,_,_,aO,e,_,_,_,_,_,_,_,_,_,rfl⟩) [some (.rol (ns.map .int)),none,none,none,none,none,none,none,none,none] [] ⟨_,_,_,_,_,_,_,_,_,rfl⟩
 refine⟨S',?_⟩
 simp only [aS,qV,iw,aq,aG,bf,ob,av,bS,am,ak,bD,oj,aj,az,al,bT,Vs,QD,au,kR,WM,hk,k1,rh,e,aD,aX,bq,aJ]
end K20
end
namespace PySem.W.Fast
def tw3662210250312392111:=0
def tw7189525033908960168:=0
def tw4683747695356569754:=0
def tw7476776651750638314:=0
def tw13804177857586264535:=0
def tw9500629620223400660:=0
def tw10343345206192292353:=0
def tw17311502071549999755:=0
def tw3345462237963309031:=0
def tw10565870902207144500:=0
def tw7728786613356844326:=0
def tw2707804782893917539:=0
def tw7837624579262440199:=0
def tw3557357310782019672:=0
def tw2936044965436439660:=0
def tw15971375956051919662:=0
def tw16117299189178123382:=0
def tw17829747334956524279:=0
def tw9299663802429025229:=0
def tw16298129444654627782:=0
def tw17848882392492900411:=0
def tw9070269082339196250:=0
def tw17833373112270075538:=0
def tw8288413074992754394:=0
def tw7920759416044061464:=0
def tw11504733990366328319:=0
def tw6954448137755143419:=0
def tw760816066542042244:=0
def tw10518695373434488821:=0
def tw16792087538836084212:=0
def tw1340610650706901206:=0
def tw9523060071106770906:=0
def tw17198390458796987797:=0
def tw1626485721080822578:=0
def tw13635491584230148968:=0
def tw8574040844924803372:=0
def tw11738367884764445964:=0
def tw16603315561242452867:=0
def tw12304814578536776951:=0
def tw8539897929485620394:=0
def tw8358200612983337312:=0
def tw239496508519890689:=0
def tw11256315627296113639:=0
def tw1205490960516340099:=0
def tw15088482527704272534:=0
def tw13619665680314435037:=0
def tw2945296290308299251:=0
def tw13268039980108367532:=0
def tw6341866802986081002:=0
def tw1548419124839056523:=0
def tw15251207781286668660:=0
def tw13381912364443137231:=0
def tw9302613709841849058:=0
def tw9664389237012145458:=0
def tw11868035611888789627:=0
def tw14264136435487050237:=0
def tw524906707099063781:=0
def tw7683215367294809540:=0
def tw772898440886565561:=0
def tw4214231126334386662:=0
def tw6729084511284189395:=0
def tw9036684729841739362:=0
def tw1695284323080345171:=0
def tw1144183850199059025:=0
def tw8648780303625908859:=0
def tw9425395057998171025:=0
def tw14356218921327818934:=0
def tw15062883263457908086:=0
def tw16261536985142672193:=0
def tw8735653266596397916:=0
def tw14462733111338844185:=0
def tw5778487856012216634:=0
def tw363610404023333187:=0
def tw7413155564560733749:=0
def tw15082214964873756708:=0
def tw1115080628236169914:=0
def tw1075321043971652200:=0
def tw9395194435274042842:=0
def tw10817256464903338843:=0
def tw9823763132024352251:=0
def tw17860877327951855133:=0
def tw10543532870690008964:=0
def tw4154295618224578654:=0
def tw673013512472645011:=0
def tw16218479129388258760:=0
def tw10591081996929492076:=0
def tw9827155518857955880:=0
def tw4436601363768288033:=0
def tw6960776063581135565:=0
def tw10947672975801933962:=0
def tw16634683981268760798:=0
def tw12195106515496276397:=0
def tw17220235501500190698:=0
def tw10126616757782471089:=0
def tw10805625211437698323:=0
def tw12026203482391725044:=0
def tw4375740393034307592:=0
def tw4944855246759848025:=0
def tw3928824739322759703:=0
def tw9572326574827593750:=0
def tw7388944954164863558:=0
def tw2174755537846306425:=0
def tw474319839915850553:=0
def tw384671353669478118:=0
def tw4765389988366333033:=0
def tw9232622116293447011:=0
def tw7595480764646958295:=0
def tw13447616184858507645:=0
end PySem.W.Fast
def PySem.W.Fast.tw16940092114639361602:PySem.Program:=PySem.Challenge.pw_manyreaders_k20_waits_counted
def PySem.W.Fast.te16940092114639361602:PySem.Challenge.pw_manyreaders_k20_waits_counted=W.Fast.tw16940092114639361602:=rfl
namespace K20
def c0:Stmt:=fH 0
def c5:Stmt:=fH 5
def c6:Stmt:=fH 6
def c7:Stmt:=fH 7
def c8:Stmt:=fH 8
def c14:Stmt:=fH 14
def c15:Stmt:=fH 15
def c16:Stmt:=fH 16
def c25:Stmt:=fH 25
def c26:Stmt:=fH 26
def c27:Stmt:=fH 27
def c28:Stmt:=fH 28
def c29:Stmt:=fH 29
def c42:Stmt:=fH 42
def c43:Stmt:=fH 43
def c48:Stmt:=fH 48
def pw2:Program:={ PySem.Challenge.pw_manyreaders_k20_waits_counted with main:={ PySem.Challenge.pw_manyreaders_k20_waits_counted.main with body:=[c0,ik,fv,jC,eD,c5,c6,c7,c8,nW,eE,gg,dJ,jz,c14,c15,c16,lj,jB,il,gi,jA,lh,fz,lg,c25,c26,c27,c28,c29,jD,ll,qM,gj,im,fC,eG,fB,fA,ij,lf,dg,c42,c43,wR,kZ,la,gh,c48,dM,gp,iq,gm,gl,gt,io,eI,gn,ip,dL,iu,eH,gq,fD,cO,eJ,gk,wS] } }
def lw:W.OpenLaw:={ PySem.Challenge.rw_manyreaders_k20_waits_counted with prog:=pw2 }
def lw_eq:PySem.Challenge.rw_manyreaders_k20_waits_counted=lw:=by kernel_rfl
end K20
namespace K20
open L2 MI M
def kf0(P:Params):W.Frag:=[(3,⟨.type "dict",none,.dict #[kE P "__name__" 165 (.str "law_manyreaders_k20_waits_counted" 587),kE P "__doc__" 166 .none,kE P "__package__" 167 .none,kE P "__loader__" 168 (.builtin "__main__.__loader__#opaque"),kE P "__spec__" 169 .none,kE P "__annotations__" 170 (.ref 6),kE P "__builtins__" 171 (.ref 4),kE P "__file__" 173 (.str "/claim/cut.py" 172),kE P "__cached__" 174 .none,kE P "is_whole" 195 (.ref 21),kE P "is_between" 204 (.ref 28),kE P "is_word" 212 (.ref 35),kE P "is_tuple_of" 220 (.ref 42),kE P "WRITING_WORDS" 225 (.ref 43),kE P "WANTS" 228 (.ref 44),kE P "GREATEST_LEFT" 230 (.int 9 229),kE P "empty" 237 (.ref 51),kE P "guests_with" 243 (.ref 56),kE P "with_word" 254 (.ref 63),kE P "without_wait" 260 (.ref 68),kE P "waiting" 269 (.ref 75),kE P "FAVOURED" 283 (.ref 76),kE P "WORD_WITHIN" 290 (.ref 77),kE P "can_go" 296 (.ref 82),kE P "next_in" 305 (.ref 89),kE P "foremost" 311 (.ref 94),kE P "next_past" 323 (.ref 101),kE P "settled" 333 (.ref 108),kE P "coming" 342 (.ref 115),kE P "brought_by" 353 (.ref 122),kE P "let_in" 359 (.ref 127),kE P "GuestError" 379 (.ref 137),kE P "NoDeed" 404 (.ref 157),kE P "GUEST_WORDS" 411 (.ref 160),kE P "is_deed" 422 (.ref 167),kE P "can_do" 433 (.ref 174),kE P "done" 443 (.ref 181),kE P "bring_ask" 459 (.ref 188),kE P "bring_up" 470 (.ref 195),kE P "bring_down" 480 (.ref 202),kE P "bring_leave" 490 (.ref 209),kE P "bring_stop" 501 (.ref 216),kE P "bring_tick" 507 (.ref 221),kE P "one_less" 514 (.ref 228),kE P "turned" 520 (.ref 233),kE P "settled_behind" 530 (.ref 240),kE P "BRINGS" 545 (.ref 241),kE P "ran" 553 (.ref 246),kE P "walked" 568 (.ref 253),kE P "waited" 574 (.ref 258),kE P "wait_told" 586 (.ref 265),kE P "_law_cell_at" 596 (.ref 272),kE P "_law_left" 606 (.ref 279),kE P "_law_far" 614 (.ref 286),kE P "_law_pick" 623 (.ref 293),kE P "_law_rule" 633 (.ref 300),kE P "_law_deed" 643 (.ref 307),kE P "_law_row" 658 (.ref 314),kE P "_law_fronts" 664 (.ref 319),kE P "_law_lets" 674 (.ref 326),kE P "_law_put" 683 (.ref 333),kE P "_law_settled" 689 (.ref 338),kE P "_law_can" 695 (.ref 343),kE P "_law_marked" 701 (.ref 348),kE P "_law_done" 707 (.ref 353),kE P "_law_asked" 713 (.ref 358),kE P "_law_same" 719 (.ref 363),kE P "_law_events" 725 (.ref 368),kE P "_law_wait" 740 (.ref 375),kE P "law" 746 (.ref 380)] 70,#[]⟩),(20,kC "is_whole" 189 2 1 15 16 (.ref 17) (.ref 18) 19 193),(21,kF "is_whole" ik "manyreaders.kinds" 187 20),(27,kC "is_between" 196 4 3 22 23 (.ref 24) (.ref 25) 26 202),(28,kF "is_between" fv "manyreaders.kinds" 187 27),(34,kC "is_word" 205 6 2 29 30 (.ref 31) (.ref 32) 33 210),(35,kF "is_word" jC "manyreaders.kinds" 187 34),(41,kC "is_tuple_of" 213 8 2 36 37 (.ref 38) (.ref 39) 40 218)]
def kf1(P:Params):W.Frag:=[(42,kF "is_tuple_of" eD "manyreaders.kinds" 187 41),(43,⟨.type "tuple",none,.seq #[.str "writes" 223,.str "raised" 224] 0,#[]⟩),(44,⟨.type "tuple",none,.seq #[.str "read" 226,.str "write" 227] 0,#[]⟩),(50,kC "empty" 231 14 1 45 46 (.ref 47) (.ref 48) 49 235),(51,kF "empty" nW "manyreaders.rooms" 221 50),(55,kC "guests_with" 238 16 2 52 53 .none .none 54 241),(56,kF "guests_with" eE "manyreaders.rooms" 221 55),(62,kC "with_word" 244 18 3 57 58 (.ref 59) (.ref 60) 61 252)]
def kf2(P:Params):W.Frag:=[(63,kF "with_word" gg "manyreaders.rooms" 221 62),(67,kC "without_wait" 255 21 2 64 65 .none .none 66 258),(68,kF "without_wait" dJ "manyreaders.rooms" 221 67),(74,kC "waiting" 261 24 2 69 70 (.ref 71) (.ref 72) 73 267),(75,kF "waiting" jz "manyreaders.rooms" 221 74),(76,⟨.type "dict",none,.dict #[kE P "rows" 272 .none,kE P "readers" 273 (.str "read" 274),kE P "writers" 275 (.str "write" 276),kE P "turns" 277 (.str "write" 278)] 4,#[]⟩),(77,⟨.type "dict",none,.dict #[kE P "read" 284 (.str "reads" 285),kE P "write" 286 (.str "writes" 287)] 2,#[]⟩),(81,kC "can_go" 291 34 3 78 79 .none .none 80 294)]
def kf3(P:Params):W.Frag:=[(82,kF "can_go" lj "manyreaders.doors" 270 81),(88,kC "next_in" 297 43 2 83 84 (.ref 85) (.ref 86) 87 303),(89,kF "next_in" jB "manyreaders.doors" 270 88),(93,kC "foremost" 306 48 2 90 91 .none .none 92 309),(94,kF "foremost" il "manyreaders.doors" 270 93),(100,kC "next_past" 312 53 2 95 96 (.ref 97) (.ref 98) 99 321),(101,kF "next_past" gi "manyreaders.doors" 270 100),(107,kC "settled" 324 60 2 102 103 (.ref 104) (.ref 105) 106 331)]
def kf4(P:Params):W.Frag:=[(108,kF "settled" jA "manyreaders.doors" 270 107),(114,kC "coming" 334 68 2 109 110 (.ref 111) (.ref 112) 113 340),(115,kF "coming" lh "manyreaders.doors" 270 114),(121,kC "brought_by" 343 74 3 116 117 (.ref 118) (.ref 119) 120 351),(122,kF "brought_by" fz "manyreaders.doors" 270 121),(126,kC "let_in" 354 79 3 123 124 .none .none 125 357),(127,kF "let_in" lg "manyreaders.doors" 270 126),(160,⟨.type "tuple",none,.seq #[.str "up" 407,.str "down" 408,.str "leave" 409,.str "stop" 410] 0,#[]⟩)]
def kf5(P:Params):W.Frag:=[(166,kC "is_deed" 412 95 2 161 162 (.ref 163) (.ref 164) 165 420),(167,kF "is_deed" jD "manyreaders.deeds" 405 166),(173,kC "can_do" 423 104 2 168 169 (.ref 170) (.ref 171) 172 431),(174,kF "can_do" ll "manyreaders.deeds" 405 173),(180,kC "done" 434 118 3 175 176 (.ref 177) (.ref 178) 179 441),(181,kF "done" qM "manyreaders.deeds" 405 180),(187,kC "bring_ask" 444 121 3 182 183 (.ref 184) (.ref 185) 186 457),(188,kF "bring_ask" gj "manyreaders.deeds" 405 187)]
def kf6(P:Params):W.Frag:=[(194,kC "bring_up" 460 131 3 189 190 (.ref 191) (.ref 192) 193 468),(195,kF "bring_up" im "manyreaders.deeds" 405 194),(201,kC "bring_down" 471 139 3 196 197 (.ref 198) (.ref 199) 200 478),(202,kF "bring_down" fC "manyreaders.deeds" 405 201),(208,kC "bring_leave" 481 142 3 203 204 (.ref 205) (.ref 206) 207 488),(209,kF "bring_leave" eG "manyreaders.deeds" 405 208),(215,kC "bring_stop" 491 145 3 210 211 (.ref 212) (.ref 213) 214 499),(216,kF "bring_stop" fB "manyreaders.deeds" 405 215)]
def kf7(P:Params):W.Frag:=[(220,kC "bring_tick" 502 152 3 217 218 .none .none 219 505),(221,kF "bring_tick" fA "manyreaders.deeds" 405 220),(227,kC "one_less" 508 158 1 222 223 (.ref 224) (.ref 225) 226 512),(228,kF "one_less" ij "manyreaders.deeds" 405 227),(232,kC "turned" 515 160 3 229 230 .none .none 231 518),(233,kF "turned" lf "manyreaders.deeds" 405 232),(239,kC "settled_behind" 521 165 3 234 235 (.ref 236) (.ref 237) 238 528),(240,kF "settled_behind" dg "manyreaders.deeds" 405 239)]
def kf8(P:Params):W.Frag:=[(241,⟨.type "dict",none,.dict #[kE P "read" 531 (.ref 188),kE P "write" 532 (.ref 188),kE P "up" 533 (.ref 195),kE P "down" 534 (.ref 202),kE P "leave" 535 (.ref 209),kE P "stop" 536 (.ref 216),kE P "tick" 537 (.ref 221)] 7,#[]⟩),(245,kC "ran" 548 170 3 242 243 .none .none 244 551),(246,kF "ran" wR "manyreaders.runs" 546 245),(252,kC "walked" 554 174 3 247 248 (.ref 249) (.ref 250) 251 566),(253,kF "walked" kZ "manyreaders.runs" 546 252),(257,kC "waited" 569 184 3 254 255 .none .none 256 572),(258,kF "waited" la "manyreaders.runs" 546 257),(264,kC "wait_told" 575 192 3 259 260 (.ref 261) (.ref 262) 263 584)]
def kf9(P:Params):W.Frag:=[(265,kF "wait_told" gh "manyreaders.runs" 546 264),(271,kC "_law_cell_at" 589 201 2 266 267 (.ref 268) (.ref 269) 270 594),(272,kF "_law_cell_at" dM "law_manyreaders_k20_waits_counted" 587 271),(278,kC "_law_left" 597 205 2 273 274 (.ref 275) (.ref 276) 277 604),(279,kF "_law_left" gp "law_manyreaders_k20_waits_counted" 587 278),(285,kC "_law_far" 607 212 0 280 281 (.ref 282) (.ref 283) 284 612),(286,kF "_law_far" iq "law_manyreaders_k20_waits_counted" 587 285),(292,kC "_law_pick" 615 217 2 287 288 (.ref 289) (.ref 290) 291 621)]
def kf10(P:Params):W.Frag:=[(293,kF "_law_pick" gm "law_manyreaders_k20_waits_counted" 587 292),(299,kC "_law_rule" 624 225 1 294 295 (.ref 296) (.ref 297) 298 631),(300,kF "_law_rule" gl "law_manyreaders_k20_waits_counted" 587 299),(306,kC "_law_deed" 634 230 2 301 302 (.ref 303) (.ref 304) 305 641),(307,kF "_law_deed" gt "law_manyreaders_k20_waits_counted" 587 306),(313,kC "_law_row" 644 238 4 308 309 (.ref 310) (.ref 311) 312 656),(314,kF "_law_row" io "law_manyreaders_k20_waits_counted" 587 313),(318,kC "_law_fronts" 659 248 2 315 316 .none .none 317 662)]
def kf11(P:Params):W.Frag:=[(319,kF "_law_fronts" eI "law_manyreaders_k20_waits_counted" 587 318),(325,kC "_law_lets" 665 259 3 320 321 (.ref 322) (.ref 323) 324 672),(326,kF "_law_lets" gn "law_manyreaders_k20_waits_counted" 587 325),(332,kC "_law_put" 675 266 3 327 328 (.ref 329) (.ref 330) 331 681),(333,kF "_law_put" ip "law_manyreaders_k20_waits_counted" 587 332),(337,kC "_law_settled" 684 268 2 334 335 .none .none 336 687),(338,kF "_law_settled" dL "law_manyreaders_k20_waits_counted" 587 337),(342,kC "_law_can" 690 284 2 339 340 .none .none 341 693)]
def kf12(P:Params):W.Frag:=[(343,kF "_law_can" iu "law_manyreaders_k20_waits_counted" 587 342),(347,kC "_law_marked" 696 293 3 344 345 .none .none 346 699),(348,kF "_law_marked" eH "law_manyreaders_k20_waits_counted" 587 347),(352,kC "_law_done" 702 297 3 349 350 .none .none 351 705),(353,kF "_law_done" gq "law_manyreaders_k20_waits_counted" 587 352),(357,kC "_law_asked" 708 320 3 354 355 .none .none 356 711),(358,kF "_law_asked" fD "law_manyreaders_k20_waits_counted" 587 357),(362,kC "_law_same" 714 329 2 359 360 .none .none 361 717)]
def kf13(P:Params):W.Frag:=[(363,kF "_law_same" cO "law_manyreaders_k20_waits_counted" 587 362),(367,kC "_law_events" 720 346 3 364 365 .none .none 366 723),(368,kF "_law_events" eJ "law_manyreaders_k20_waits_counted" 587 367),(374,kC "_law_wait" 726 353 2 369 370 (.ref 371) (.ref 372) 373 738),(375,kF "_law_wait" gk "law_manyreaders_k20_waits_counted" 587 374),(379,kC "law" 741 361 1 376 377 .none .none 378 744),(380,kF "law" wS "law_manyreaders_k20_waits_counted" 587 379)]
def eS(P:Params):W.Frag:=(((kf0 P)++((kf1 P)++(kf2 P)))++(((kf3 P)++(kf4 P))++((kf5 P)++(kf6 P))))++(((kf7 P)++((kf8 P)++(kf9 P)))++(((kf10 P)++(kf11 P))++((kf12 P)++(kf13 P))))
def kads:List Addr:=[3,20,21,27,28,34,35,41,42,43,44,50,51,55,56,62,63,67,68,74,75,76,77,81,82,88,89,93,94,100,101,107,108,114,115,121,122,126,127,160,166,167,173,174,180,181,187,188,194,195,201,202,208,209,215,216,220,221,227,228,232,233,239,240,241,245,246,252,253,257,258,264,265,271,272,278,279,285,286,292,293,299,300,306,307,313,314,318,319,325,326,332,333,337,338,342,343,347,348,352,353,357,358,362,363,367,368,374,375,379,380]
def txt{w:World}{h:Heap}{mg:Str->Option Value}(X:(eS w.params).In h)(G:h.Ns mainGlobals mg):iC w (eS w.params) mg:=
 ⟨cU X G "law_manyreaders_k20_waits_counted" 272 587 271 (by kernel_rfl),cU X G "law_manyreaders_k20_waits_counted" 286 587 285 (by kernel_rfl),cU X G "law_manyreaders_k20_waits_counted" 279 587 278 (by kernel_rfl),cU X G "law_manyreaders_k20_waits_counted" 293 587 292 (by kernel_rfl),cU X G "law_manyreaders_k20_waits_counted" 307 587 306 (by kernel_rfl),cU X G "law_manyreaders_k20_waits_counted" 333 587 332 (by kernel_rfl),cU X G "law_manyreaders_k20_waits_counted" 319 587 318 (by kernel_rfl),cU X G "law_manyreaders_k20_waits_counted" 326 587 325 (by kernel_rfl),cU X G "law_manyreaders_k20_waits_counted" 338 587 337 (by kernel_rfl),cU X G "law_manyreaders_k20_waits_counted" 343 587 342 (by kernel_rfl),cU X G "law_manyreaders_k20_waits_counted" 358 587 357 (by kernel_rfl),cU X G "law_manyreaders_k20_waits_counted" 348 587 347 (by kernel_rfl),cU X G "law_manyreaders_k20_waits_counted" 353 587 352 (by kernel_rfl),cU X G "law_manyreaders_k20_waits_counted" 314 587 313 (by kernel_rfl),cU X G "law_manyreaders_k20_waits_counted" 368 587 367 (by kernel_rfl),cU X G "law_manyreaders_k20_waits_counted" 300 587 299 (by kernel_rfl),cU X G "law_manyreaders_k20_waits_counted" 375 587 374 (by kernel_rfl),cU X G "law_manyreaders_k20_waits_counted" 363 587 362 (by kernel_rfl),cU X G "manyreaders.rooms" 51 221 50 (by kernel_rfl),cU X G "manyreaders.rooms" 56 221 55 (by kernel_rfl),cU X G "manyreaders.doors" 94 270 93 (by kernel_rfl),cU X G "manyreaders.rooms" 75 221 74 (by kernel_rfl),cU X G "manyreaders.doors" 82 270 81 (by kernel_rfl),cU X G "manyreaders.doors" 101 270 100 (by kernel_rfl),cU X G "manyreaders.doors" 89 270 88 (by kernel_rfl),cU X G "manyreaders.doors" 115 270 114 (by kernel_rfl),cU X G "manyreaders.rooms" 63 221 62 (by kernel_rfl),cU X G "manyreaders.doors" 127 270 126 (by kernel_rfl),cU X G "manyreaders.doors" 122 270 121 (by kernel_rfl),cU X G "manyreaders.doors" 108 270 107 (by kernel_rfl),cU X G "manyreaders.rooms" 68 221 67 (by kernel_rfl),cU X G "manyreaders.deeds" 188 405 187 (by kernel_rfl),cU X G "manyreaders.deeds" 195 405 194 (by kernel_rfl),cU X G "manyreaders.deeds" 240 405 239 (by kernel_rfl),cU X G "manyreaders.deeds" 233 405 232 (by kernel_rfl),cU X G "manyreaders.deeds" 202 405 201 (by kernel_rfl),cU X G "manyreaders.deeds" 209 405 208 (by kernel_rfl),cU X G "manyreaders.deeds" 216 405 215 (by kernel_rfl),cU X G "manyreaders.deeds" 228 405 227 (by kernel_rfl),cU X G "manyreaders.deeds" 221 405 220 (by kernel_rfl),cU X G "manyreaders.deeds" 181 405 180 (by kernel_rfl),cU X G "manyreaders.kinds" 42 187 41 (by kernel_rfl),cU X G "manyreaders.kinds" 35 187 34 (by kernel_rfl),cU X G "manyreaders.kinds" 21 187 20 (by kernel_rfl),cU X G "manyreaders.kinds" 28 187 27 (by kernel_rfl),cU X G "manyreaders.deeds" 167 405 166 (by kernel_rfl),cU X G "manyreaders.deeds" 174 405 173 (by kernel_rfl),cU X G "manyreaders.runs" 253 546 252 (by kernel_rfl),cU X G "manyreaders.runs" 246 546 245 (by kernel_rfl),cU X G "manyreaders.runs" 265 546 264 (by kernel_rfl),cU X G "manyreaders.runs" 258 546 257 (by kernel_rfl),cU X G "law_manyreaders_k20_waits_counted" 380 587 379 (by kernel_rfl),XV X G (by kernel_rfl),XV X G (by kernel_rfl),XV X G (by kernel_rfl),XV X G (by kernel_rfl),XV X G (by kernel_rfl),XV X G (by kernel_rfl),XV X G (by kernel_rfl),XV X G (by kernel_rfl),XV X G (by kernel_rfl),XV X G (by kernel_rfl),XV X G (by kernel_rfl),XV X G (by kernel_rfl),XV X G (by kernel_rfl),XV X G (by kernel_rfl),Vm (YU X G (show W.nsIn (eS w.params) mainGlobals "BRINGS" = some (some (.ref 241)) by kernel_rfl)) (show (eS w.params).lookup 241=some ⟨.type "dict",none,.dict #[⟨PyData.keyHash w.params "read",.str "read" 531,.ref 188⟩,⟨PyData.keyHash w.params "write",.str "write" 532,.ref 188⟩,⟨PyData.keyHash w.params "up",.str "up" 533,.ref 195⟩,⟨PyData.keyHash w.params "down",.str "down" 534,.ref 202⟩,⟨PyData.keyHash w.params "leave",.str "leave" 535,.ref 209⟩,⟨PyData.keyHash w.params "stop",.str "stop" 536,.ref 216⟩,⟨PyData.keyHash w.params "tick",.str "tick" 537,.ref 221⟩] 7,#[]⟩ by kernel_rfl) (.cons (.cons (.cons (.cons (.cons (.cons (.cons (.nil)))))))) (show List.Nodup ([.inr "read",.inr "write",.inr "up",.inr "down",.inr "leave",.inr "stop",.inr "tick"]:List bG) by decide +kernel) (.cons (YU X G (show W.nsIn (eS w.params) mainGlobals "bring_ask" = some (some (.ref 188)) by kernel_rfl)) (.cons (YU X G (show W.nsIn (eS w.params) mainGlobals "bring_ask" = some (some (.ref 188)) by kernel_rfl)) (.cons (YU X G (show W.nsIn (eS w.params) mainGlobals "bring_up" = some (some (.ref 195)) by kernel_rfl)) (.cons (YU X G (show W.nsIn (eS w.params) mainGlobals "bring_down" = some (some (.ref 202)) by kernel_rfl)) (.cons (YU X G (show W.nsIn (eS w.params) mainGlobals "bring_leave" = some (some (.ref 209)) by kernel_rfl)) (.cons (YU X G (show W.nsIn (eS w.params) mainGlobals "bring_stop" = some (some (.ref 216)) by kernel_rfl)) (.cons (YU X G (show W.nsIn (eS w.params) mainGlobals "bring_tick" = some (some (.ref 221)) by kernel_rfl)) (.nil)))))))),Kw (YU X G (show W.nsIn (eS w.params) mainGlobals "FAVOURED" = some (some (.ref 76)) by kernel_rfl)) (show (eS w.params).lookup 76=some ⟨.type "dict",none,.dict #[⟨PyData.keyHash w.params "rows",.str "rows" 272,.none⟩,⟨PyData.keyHash w.params "readers",.str "readers" 273,.str "read" 274⟩,⟨PyData.keyHash w.params "writers",.str "writers" 275,.str "write" 276⟩,⟨PyData.keyHash w.params "turns",.str "turns" 277,.str "write" 278⟩] 4,#[]⟩ by kernel_rfl) (.cons (.cons (.cons (.cons (.nil))))) (show List.Nodup ([.inr "rows",.inr "readers",.inr "writers",.inr "turns"]:List bG) by decide +kernel) (.cons .non rfl (fun _ _ _=>.non) (.cons (V.str "read") ⟨_,rfl⟩ (fun _ _ _=>.str _) (.cons (V.str "write") ⟨_,rfl⟩ (fun _ _ _=>.str _) (.cons (V.str "write") ⟨_,rfl⟩ (fun _ _ _=>.str _) (.nil))))),⟨_,V.int 9,YU X G (show W.nsIn (eS w.params) mainGlobals "GREATEST_LEFT" = some (some (.int 9 229)) by kernel_rfl),⟨_,rfl⟩,fun μ H=>.int _⟩,⟨_,.ref 160,YU X G (show W.nsIn (eS w.params) mainGlobals "GUEST_WORDS" = some (some (.ref 160)) by kernel_rfl),rfl,fun μ H=>.ktup (vs:=[V.str "up",V.str "down",V.str "leave",V.str "stop"]) ⟨_,_,_,(show (eS w.params).lookup 160=some ⟨.type "tuple",none,.seq #[.str "up" 407,.str "down" 408,.str "leave" 409,.str "stop" 410] 0,#[]⟩ by kernel_rfl),rfl,rfl,rfl,(show 4<=sizeLine by decide),.cons ⟨_,rfl⟩ (.cons ⟨_,rfl⟩ (.cons ⟨_,rfl⟩ (.cons ⟨_,rfl⟩ (.nil))))⟩ (.cons (.str _) (.cons (.str _) (.cons (.str _) (.cons (.str _) (.nil)))))⟩,⟨_,.ref 44,YU X G (show W.nsIn (eS w.params) mainGlobals "WANTS" = some (some (.ref 44)) by kernel_rfl),rfl,fun μ H=>.ktup (vs:=[V.str "read",V.str "write"]) ⟨_,_,_,(show (eS w.params).lookup 44=some ⟨.type "tuple",none,.seq #[.str "read" 226,.str "write" 227] 0,#[]⟩ by kernel_rfl),rfl,rfl,rfl,(show 2<=sizeLine by decide),.cons ⟨_,rfl⟩ (.cons ⟨_,rfl⟩ (.nil))⟩ (.cons (.str _) (.cons (.str _) (.nil)))⟩,Kw (YU X G (show W.nsIn (eS w.params) mainGlobals "WORD_WITHIN" = some (some (.ref 77)) by kernel_rfl)) (show (eS w.params).lookup 77=some ⟨.type "dict",none,.dict #[⟨PyData.keyHash w.params "read",.str "read" 284,.str "reads" 285⟩,⟨PyData.keyHash w.params "write",.str "write" 286,.str "writes" 287⟩] 2,#[]⟩ by kernel_rfl) (.cons (.cons (.nil))) (show List.Nodup ([.inr "read",.inr "write"]:List bG) by decide +kernel) (.cons (V.str "reads") ⟨_,rfl⟩ (fun _ _ _=>.str _) (.cons (V.str "writes") ⟨_,rfl⟩ (fun _ _ _=>.str _) (.nil))),⟨_,.ref 43,YU X G (show W.nsIn (eS w.params) mainGlobals "WRITING_WORDS" = some (some (.ref 43)) by kernel_rfl),rfl,fun μ H=>.ktup (vs:=[V.str "writes",V.str "raised"]) ⟨_,_,_,(show (eS w.params).lookup 43=some ⟨.type "tuple",none,.seq #[.str "writes" 223,.str "raised" 224] 0,#[]⟩ by kernel_rfl),rfl,rfl,rfl,(show 2<=sizeLine by decide),.cons ⟨_,rfl⟩ (.cons ⟨_,rfl⟩ (.nil))⟩ (.cons (.str _) (.cons (.str _) (.nil)))⟩⟩
end K20
open PySem.W
set_option maxRecDepth 100000 in
set_option maxHeartbeats 0 in
theorem PySem.Challenge.cw_manyreaders_k20_waits_counted_holds : PySem.Challenge.rw_manyreaders_k20_waits_counted.Holds := by
 rw [K20.lw_eq];w_on;o_law;o_head (kHook K20.eS K20.kads (fun _=>by kernel_rfl));(case hw=>w_witness2)
 exact K20.walk (l:=K20.lw) rfl rfl rfl (fun w h Y=>PySem.W.kIn_of Y) K20.Mj fun w mg h KX G=>K20.txt KX G

end
