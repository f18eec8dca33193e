import PyProof.Rows.All
import Wide.All
import OpenK.AllK
import Wide.FinOn
import Lean
import PyProof.EqAt
import PyProof.EqKinds
import PyProof.TupleCall
import PyProof.AttrMissHeap
import KE.KDictOf
import PySem.Challenge.RW_manyreaders_k19_pages_numbered
open Option renaming some -> U,none -> Y
local macro_rules|`(tactic|ac_rfl)=>`(tactic|exact⟨rfl,rfl,rfl,by decide +kernel,rfl,by decide +kernel,by decide +kernel⟩)
noncomputable section
set_option Elab.async false
set_option linter.all false
set_option maxRecDepth 100000
open PySem PySem.Spec PyProof.Rows
def KE:=@Option.bind_eq_some_iff
def Wn:=@wpAny_bind
def Wo:=@List.getElem?_eq_some_iff
def Wp:=@Heap.get?_push_of_some
def Wq:=@Bool.and_eq_true
def Wr:=@List.mem_cons_self
def Wt:=@List.size_toArray
def Wu:=@List.mem_cons_of_mem
def Wv:=@List.getElem?_eq_getElem
def Ww:=@List.length_map
def Wx:=@List.map_cons
def Wy:=@Heap.lt_size
def Wz:=@wpAny_pure
def WA:=@decide_eq_true
def WB:=@List.length_append
def WC:=@decide_eq_false
def WD:=@Nat.le_refl
def WE:=@List.getElem?_append_left
def WF:=@Heap.get?_push_size
def WG:=@List.length_cons
def WH:=@Option.some.inj
def WI:=@if_pos
def WJ:=@List.all_eq_true
def WK:=@List.mem_append
def WL:=@List.mem_singleton
def WM:=@List.mem_cons
def WN:=@List.mem_of_getElem?
def WO:=@List.getElem?_set_ne
def WP:=@List.mem_map
def WQ:=@Nat.lt_of_lt_of_le
def WR:=@List.append_assoc
def WS:=@List.append_nil
def WT:=@Nat.le_trans
def WU:=@Nat.ne_of_lt
def WV:=@List.getElem?_set_self
def WX:=@List.replicate_succ
def WY:=@wpAny_newObj_type
def WZ:=@Bool.false_eq_true
def Xa:=@Bool.not_true
def Xb:=@List.mem_append_left
def Xc:=@Bool.eq_iff_iff
def Xd:=@Heap.get?_update_ne
def Xe:=@PyProof.Rows.callWith_type1
def Xf:=@List.mem_append_right
def Xg:=@List.getElem?_append_right
def Xh:=@List.find?_cons
def Xi:=@Heap.size_push
def Xj:=@Bool.not_false
def Xk:=@wpAny_mono
def Xl:=@wpAny_field
def Xm:=@List.mem_filter
def Xn:=@List.map_map
def Xo:=@Heap.get?_update_self
def Xp:=@List.not_mem_nil
def Xq:=@of_decide_eq_true
def Xr:=@Int.toNat_natCast
def Xs:=@List.mem_of_mem_take
def Xt:=@List.map_append
def Xu:=@List.filter_cons
def Xv:=@beq_eq_false_iff_ne
def Xw:=@List.flatten_cons
def Xx:=@wpAny_callSpecial?_slot
def Xy:=@W.mg_none_of
def Xz:=@Nat.ne_of_gt
def XA:=@List.any_eq_true
def XB:=@decide_eq_true_eq
def XC:=@Option.some.injEq
def XD:=@List.filter_eq_self
def XE:=@List.any_cons
def XF:=@List.length_singleton
def XG:=@List.length_filter_le
def XH:=@List.forIn_cons
def XI:=@List.eq_nil_of_length_eq_zero
def XJ:=@wpAny_holding
def XM:=@List.all_cons
def XN:=@wpAny_seqItems
def XO:=@List.filterMap_cons
def XQ:=@Heap.SameBut.update
def XR:=@wpAny_setField
def XS:=@PyProof.Rows.slot_tuple_getitem
def XT:=@Option.isSome_iff_exists
def XU:=@List.nodup_cons
def XV:=@List.getElem?_map
def XW:=@if_false
def XX:=@PySem.mem_of_lookup
def XY:=@Nat.lt_irrefl
def XZ:=@wpAny_call_entry
def Ya:=@List.zipIdx_cons
def Yb:=@List.length_take
def Yc:=@wpAny_pyIter_tuple
def Yd:=@List.findIdx?_cons
def Ye:=@wpAny_passesOwn
def Yf:=@decide_true
def Yg:=@List.length_nil
def Yh:=@wpAny_truthy_bool
def Yi:=@List.nodup_append
def Yj:=@List.map_take
def Yk:=@F.slot_tuple_iterator_next
def Yl:=@W.kia_one
def Ym:=@Bool.false_and
def Yn:=@Bool.and_false
def Yo:=@decide_false
def Yp:=@call_meets
def Yq:=@wpAny_Call_Name_kw
def Yr:=@W.mg_of
def Ys:=@Int.emod_nonneg
def Yt:=@F.slot_zip_next
def Yu:=@wpAny_pyIter_list
def Yv:=@or_false
def Yw:=@List.take_append_drop
def Yx:=@List.mem_iff_getElem?
def Yy:=@List.lookup_cons
def Yz:=@Nat.zero_le
def YA:=@List.nil_append
def YB:=@List.length_set
def YC:=@List.count_cons
def YD:=@F.slot_dict_get
def YE:=@Bool.or_eq_true
def YF:=@Array.length_toList
def YG:=@codeAny_mono
def YH:=@List.map_nil
def YI:=@List.drop_eq_getElem_cons
def YJ:=@wpAny_rule
def YK:=@List.filter_congr
def YL:=@AutoSeq1.sub_tuple_tuple
def YM:=@wpAny_onRaise
def YN:=@if_true
def YO:=@List.getElem?_cons_succ
def YQ:=@List.filter_cons_of_pos
def YR:=@List.filter_cons_of_neg
def YS:=@Bool.true_and
def YT:=@wpAny_pyIter_zip
def YU:=@F.entry_dict_get
def YV:=@wpAny_Call_method_late
def YW:=@List.take_of_length_le
def YX:=@Calls.callWith_builtin
def YY:=@wpAny_typeOf
def YZ:=@wpAny_execs_nil
def Za:=@call_meetsIn
def Zb:=@PassesOwn.never
def Zc:=@Nat.zero_add
def Zd:=@Nat.le_of_eq
def Ze:=@List.any_map
def Zf:=@F.slot_int_rmul
def Zg:=@List.mem_of_mem_drop
def Zh:=@Calls.evalArgs_plain
def Zi:=@List.mem_range
def Zj:=@wpAny_of_eq
def Zk:=@List.map_congr_left
def Zl:=@wpAny_standAt
def Zm:=@tupleKind_room_in1
def Zn:=@assignInOrder_cons
def Zo:=@List.take_nil
def Zp:=@List.map_drop
def Zq:=@List.findIdx?_eq_some_iff_getElem
def Zr:=@Int.emod_lt_of_pos
def Zs:=@F.args_tuple_add_2
def Zt:=@typeIs_int
def Zu:=@List.flatMap_cons
def Zv:=@F.slot_list_count
def Zw:=@F.entry_tuple_add
def Zx:=@F.args_zip_next_1
def Zy:=@Nat.sub_self
def Zz:=@Nat.mul_comm
def ZA:=@Nat.lt_trans
def ZB:=@noFill_tuple_add
def ZC:=@List.length_drop
def ZD:=@List.getElem_mem
def ZE:=@List.drop_length
def ZF:=@F.slot_tuple_add
def ZG:=@F.entry_zip_next
def ZH:=@AutoSeq1.idx_int
def ZI:=@List.countP_eq_length_filter
def ZJ:=@F.args_tuple_iterator_next_1
def ZK:=@wpAny_updateSeq
def ZL:=@sizeLine_eq
def ZM:=@W.kitx_list
def ZN:=@Nat.min_eq_left
def ZO:=@List.of_mem_zip
def ZP:=@List.foldl_cons
def ZQ:=@F.entry_tuple_iterator_next
def ZR:=@Calls.Name_function_global
def ZS:=@wpAny_letOwnedTupleGo_zip
def ZT:=@wpAny_binaryOp_repeat_ref
def ZU:=@List.findIdx?_eq_none_iff
def ZV:=@List.drop_zero
def ZW:=@wpAny_comprehension_free
def ZX:=@intBits_le
def ZY:=@List.getElem?_take_of_lt
def ZZ:=@wpAny_attempt
def aaa:=@seq_tuple_add
def aab:=@Paired.length
def aac:=@List.getElem?_cons_zero
def aad:=@wpAny_pyNext_list_item
def aae:=@subscriptTail_builtinR
def aaf:=@Option.map_eq_some_iff
def aag:=@Nat.le_of_succ_le_succ
def aah:=@List.range_succ_eq_map
def aai:=@Heap.get?_update_other
def aaj:=@wpAny_pyNext_list_end
def aak:=@wpAny_nextOf_list_end
def aal:=@seqIndex_neg
def aam:=@concat_meets
def aan:=@callType_new
def aao:=@Nat.le_of_lt
def aap:=@Nat.add_zero
def aaq:=@List.getElem?_eq_none
def aar:=@Int.le_trans
def aas:=@wpAny_loadName_local
def aat:=@List.getElem_toArray
def aau:=@F.args_object_init_3
def aav:=@Around.under_plainId
def aaw:=@wpAny_loadName_cell
def aax:=@wpAny_letGo
def aay:=@seqIndex_of
def aaz:=@entry_tuple_getitem
def aaA:=@Sum.inl.inj
def aaB:=@Nat.mul_le_mul_left
def aaC:=@Nat.le_succ
def aaD:=@List.take_succ_cons
def aaE:=@not_or
def aaF:=@args_tuple_getitem
def aaG:=@Obj.data_mapFields
def aaH:=@Nat.lt_of_le_of_lt
def aaI:=@List.mem_filterMap
def aaJ:=@List.find?_eq_none
def aaK:=@F.slot_tuple_count
def aaL:=@F.slot_list_append
def aaM:=@F.slot_dict_update
def aaN:=@Calls.spliced_cons
def aaO:=@Calls.Constant_str
namespace L2
abbrev bt:=Sum Int Str
noncomputable def xn:bt->Value->Bool
 | .inl k,v=>Value.isInt k v
 | .inr x,v=>Value.isStrOf x v
noncomputable def keyH(w:World):bt->Int
 | .inl k=>hashInt k
 | .inr x=>hashStr w x
def dk:∀ {k:bt} {v:Value},xn k v=true->(∃ i t,k=Sum.inl i/\v=Value.int i t)\/(∃ x t,k=Sum.inr x/\v=Value.str x t)
 | .inl i,v,h=>by
  obtain⟨t,e⟩:=Value.isInt_shape (k:=i) (v:=v) h
  exact .inl ⟨i,t,rfl,e⟩
 | .inr x,v,h=>by
  obtain⟨t,e⟩:=Value.isStrOf_shape (x:=x) (v:=v) h
  exact .inr ⟨x,t,rfl,e⟩
def Ij(i:Int)(t:Tok):xn (.inl i) (.int i t)=true:=by simp [xn,Value.isInt]
def Ii(x:Str)(t:Tok):xn (.inr x) (.str x t)=true:=by simp [xn,Value.isStrOf]
def Uq(a b:Int):decide ((Sum.inl a:bt)=Sum.inl b)=(a == b):=by
 by_cases e:a=b
 ·subst e;simp
 ·have h:¬ (Sum.inl a:bt)=Sum.inl b:=λq=>e (aaA q)
  rw [WC h]
  exact(Xv.mpr e).symm
def Um(a b:Str):decide ((Sum.inr a:bt)=Sum.inr b)=decide (a=b):=by
 by_cases e:a=b
 ·subst e;simp
 ·have h:¬ (Sum.inr a:bt)=Sum.inr b:=λq=>e (Sum.inr.inj q)
  rw [WC h,WC e]
def Up(a:Int)(b:Str):decide ((Sum.inl a:bt)=Sum.inr b)=false:=WC (λq=>nomatch q)
def Uo(a:Str)(b:Int):decide ((Sum.inr a:bt)=Sum.inl b)=false:=WC (λq=>nomatch q)
noncomputable def bQ(prog:Program)(w:World):PySem.KeyKind prog w bt where
 is:=xn
 hash:=keyH w
 inj:=λv a b ha hb=>by
  rcases dk ha with ⟨i,t,rfl,rfl⟩ | ⟨x,t,rfl,rfl⟩
  ·rcases dk hb with ⟨j,u,rfl,e⟩ | ⟨y,u,rfl,e⟩
   ·injection e with e1 _;rw [e1]
   ·exact nomatch e
  ·rcases dk hb with ⟨j,u,rfl,e⟩ | ⟨y,u,rfl,e⟩
   ·exact nomatch e
   ·injection e with e1 _;rw [e1]
 byValue:=λk v h=>by
  rcases dk h with ⟨i,t,rfl,rfl⟩ | ⟨x,t,rfl,rfl⟩ <;> rfl
 pyHash:=λhv h=>by
  rcases dk hv with ⟨i,t,rfl,rfl⟩ | ⟨x,t,rfl,rfl⟩
  ·exact wpAny_pyHash_int h
  ·exact wpAny_pyHash_str h
 eqBool:=λhu hv h=>by
  rcases dk hu with ⟨i,t,rfl,rfl⟩ | ⟨x,t,rfl,rfl⟩
  ·rcases dk hv with ⟨j,u,rfl,rfl⟩ | ⟨y,u,rfl,rfl⟩
   ·rw [Uq] at h;exact wpAny_eqBool_int h
   ·rw [Up] at h;exact SeqAt.EqAt.int_str i t y u _ _ _ _ h
  ·rcases dk hv with ⟨j,u,rfl,rfl⟩ | ⟨y,u,rfl,rfl⟩
   ·rw [Uo] at h;exact SeqAt.EqAt.str_int x t j u _ _ _ _ h
   ·rw [Um] at h;exact wpAny_eqBool_str h
 «strs»:=λk x t v h=>by
  rcases dk h with ⟨i,u,rfl,e⟩ | ⟨y,u,rfl,e⟩
  ·exact nomatch e
  ·injection e with e1 _
   subst e1
   cases v <;> rfl
def Ba(prog:Program)(w:World)(i:Int)(t:Tok):(bQ prog w).is (.inl i) (.int i t)=true:=Ij i t
def AZ(prog:Program)(w:World)(x:Str)(t:Tok):(bQ prog w).is (.inr x) (.str x t)=true:=Ii x t
inductive V where
 | non | bl (b:Bool) | int (i:Int) | str (x:Str) | byt (b:Array UInt8) | flt (b:UInt64) | ref (a:Addr) | ty (n:String)
 deriving DecidableEq
def RelV:V->Value->Prop
 | .non,u=>u=Value.none
 | .bl b,u=>u=Value.bool b
 | .int i,u=>∃ t,u=Value.int i t
 | .str x,u=>∃ t,u=Value.str x t
 | .byt b,u=>∃ t,u=Value.bytes b t
 | .flt b,u=>∃ t,u=Value.float b t
 | .ref a,u=>u=Value.ref a
 | .ty n,u=>u=Value.type n
abbrev Vals:List V->List Value->Prop:=Paired RelV
theorem Vals.length{xs:List V}{us:List Value}(r:Vals xs us):xs.length=us.length:=aab r
theorem Vals.get:∀ {xs:List V} {us:List Value} {i:Nat} {x:V},Vals xs us->xs[i]?=U x->∃ u,us[i]?=U u/\RelV x u
 | _,_,_,_,.nil,e=>by simp at e
 | _,_,0,_,.cons r _,e=>by simp at e;subst e;exact⟨_,rfl,r⟩
 | _,_,i+1,x,.cons _ t,e=>by
  obtain⟨u,h1,h2⟩:=Vals.get (i:=i) (x:=x) t (by simpa using e)
  exact⟨u,by simpa using h1,h2⟩
theorem Vals.set{x:V}{u:Value}(r:RelV x u):∀ {xs:List V} {us:List Value} (i:Nat),Vals xs us->Vals (xs.set i x) (us.set i u)
 | _,_,_,.nil=>.nil
 | _,_,0,.cons _ t=>.cons r t
 | _,_,i+1,.cons q t=>.cons q (Vals.set r i t)
theorem Vals.append:∀ {xs ys:List V} {us ws:List Value},Vals xs us->Vals ys ws->Vals (xs++ys) (us++ws)
 | _,_,_,_,.nil,s=>s
 | _,_,_,_,.cons r t,s=>.cons r (Vals.append t s)
theorem Vals.take:∀ {xs:List V} {us:List Value} (n:Nat),Vals xs us->Vals (xs.take n) (us.take n)
 | _,_,0,_=>.nil
 | _,_,_+1,.nil=>.nil
 | _,_,n+1,.cons r t=>.cons r (Vals.take n t)
theorem Vals.drop:∀ {xs:List V} {us:List Value} (n:Nat),Vals xs us->Vals (xs.drop n) (us.drop n)
 | _,_,0,r=>r
 | _,_,_+1,.nil=>.nil
 | _,_,n+1,.cons _ t=>Vals.drop n t
def RelO:Option V->Option Value->Prop
 | some v,U u=>RelV v u
 | none,Y=>True
 | _,_=>False
def KV{κ:Type}:List (κ×V)->List (κ×Value)->Prop:=Paired λ(p:κ×V) (q:κ×Value)=>p.1=q.1/\RelV p.2 q.2
noncomputable def kV:bt->V
 | .inl i=>.int i
 | .inr x=>.str x
inductive HO where
 | lst (xs:List V)
 | tup (xs:List V)
 | dK (kvs:List (bt×V)) | dT (kvs:List (List bt×V))
 | set (S:Int->Bool) (n:Nat)
 | ins (C dx:Addr) (fs:List (Str×V))
 | own (x:Addr)
 | xd (fs:List (Str×V))
 | met (f x:Addr)
 | rng (lo hi:Int)
 | frz (o:Obj) (u:HO)
 | tbl (ps:Array Value)
 | ext (φ:Heap->Prop)
abbrev Hp:=Addr->Option HO
noncomputable def upd(H:Hp)(a:Addr)(o:HO):Hp:=λb=>if b=a then U o else H b
def bA{H:Hp}{a:Addr}{o:HO}:upd H a o a=U o:=by unfold upd;rw [WI rfl]
def bm{H:Hp}{a b:Addr}{o:HO}(h:b≠a):upd H a o b=H b:=by unfold upd;rw [if_neg h]
def cA{H:Hp}{a b:Addr}{o:HO}(h:H a=U o)(h':H b=Y):a≠b:=by
 intro e;subst e;rw [h] at h';cases h'
def IsTupN(h:Heap)(a:Addr)(items:Array Value):Prop:=∃ o,h.get? a=U o/\o.cls=.type "tuple"/\(∃ n,o.data=.seq items n)/\o.dict=Y
def IsTupN.up{h:Heap}{a:Addr}{items:Array Value}(x:IsTupN h a items):IsTup h a items:=by
 obtain⟨o,e,c,d,_⟩:=x
 exact⟨o,e,c,d⟩
theorem IsTupN.lt{h:Heap}{a:Addr}{items:Array Value}(x:IsTupN h a items):a<h.objs.size:=x.up.lt
def IsTupN.new(h:Heap)(items:Array Value):IsTupN (h.push { cls:=.type "tuple",data:=.seq items }) h.objs.size items:=⟨_,WF _ rfl,rfl,⟨_,rfl⟩,rfl⟩
section
variable(P:Program)(w:World)
def ObjOk(H:Hp)(h:Heap)(a:Addr):HO->Prop
 | .lst xs=>xs.length<=sizeLine/\∃ (its:List Value) (n:Nat),Vals xs its/\h.get? a=U { cls:=.type "list",data:=.seq its.toArray n }
 | .tup xs=>xs.length<=sizeLine/\∃ its:List Value,Vals xs its/\IsTupN h a its.toArray
 | .dK kvs=>kvs.length<=sizeLine/\(a == sysModules)=false/\∃ vs,KV kvs vs/\h.DictOf (bQ P w) a vs
 | .dT kvs=>kvs.length<=sizeLine/\(a == sysModules)=false/\∃ xs:List (List bt×Addr×Value),
   Paired (λ(p:List bt×V) (q:List bt×Addr×Value)=>p.1=q.1/\H q.2.1=U (.tup (p.1.map kV))/\RelV p.2 q.2.2) kvs xs /\
   ∃ o es ep,h.get? a=U o/\o.ExactDict/\o.data=.dict es ep/\es.toList=xs.map (entryOfKey (tupleKind (bQ P w)))/\(xs.map (·.1)).Nodup
 | .set S n=>h.SetOf (intKind P w) a S n
 | .ins C dx fs=>H dx=U (.own a)/\fs.length<=1000/\dx≠a/\h.get? a=U (W.instObj C dx) /\
   ∃ mA,h.Ns1 dx mA/\(∀ f,RelO (fs.lookup f) (mA f))/\PySem.Within mA (fs.map (·.1))
 | .own _=>∃ o,h.get? a=U o
 | .xd fs=>∃ mA,h.Ns1 a mA/\∀ f,RelO (fs.lookup f) (mA f)
 | .rng lo hi=>∃ t u v,h.get? a=U { cls:=.type "range",data:=.fields #[.int lo t,.int hi u,.int 1 v] }
 | .frz o u=>h.get? a=U o/\ObjOk H h a u
 | .tbl ps=>h.get? a=U { cls:=.none,data:=.fields ps }
 | .met f x=>h.get? a=U (W.methodObj (.ref f) (.ref x))
 | .ext φ=>φ h/\(∃ o,h.get? a=U o)/\∀ h1 h2:Heap,φ h1->(∀ o,h1.get? a=U o->h2.get? a=U o)->φ h2
def HOk(H:Hp)(h:Heap):Prop:=∀ a o,H a=U o->ObjOk P w H h a o
end
section
variable{P:Program}{w:World}{H H':Hp}{h h':Heap}{a:Addr}{o:HO}
theorem ObjOk.lt(x:ObjOk P w H h a o):a<h.objs.size:=by
 cases o with
 | lst xs=>obtain⟨_,_,_,_,e⟩:=x;exact Wy e
 | tup xs=>obtain⟨_,_,_,p⟩:=x;exact p.lt
 | dK kvs=>obtain⟨_,_,_,_,o,_,_,e,_⟩:=x;exact Wy e
 | dT kvs=>obtain⟨_,_,_,_,o,_,_,e,_⟩:=x;exact Wy e
 | set S n=>obtain⟨o,_,_,_,e,_⟩:=x;exact Wy e
 | ins C dx fs=>obtain⟨_,_,_,e,_⟩:=x;exact Wy e
 | own y=>obtain⟨_,e⟩:=x;exact Wy e
 | xd fs=>obtain⟨_,⟨_,_,_,e,_⟩,_⟩:=x;exact Wy e
 | rng lo hi=>obtain⟨_,_,_,e⟩:=x;exact Wy e
 | frz ob u=>obtain⟨e,_⟩:=x;exact Wy e
 | tbl ps=>exact Wy (show h.get? a=U _ from x)
 | met f y=>exact Wy (show h.get? a=U _ from x)
 | ext φ=>obtain⟨_,⟨_,e⟩,_⟩:=x;exact Wy e
theorem Paired.mapP{α β:Type}{F G:α->β->Prop}:∀ {l₁:List α} {l₂:List β},Paired F l₁ l₂->(∀ a b,F a b->G a b)->Paired G l₁ l₂
 | _,_,.nil,_=>.nil
 | _,_,.cons r t,f=>.cons (f _ _ r) (Paired.mapP t f)
def ObjOk.stay(x:ObjOk P w H h a o)(k:∀ b u,(b=a\/H b=U (.own a))->h.get? b=U u->h'.get? b=U u)
  (ho:∀ b,H b=U (.own a)->H' b=U (.own a)) (ht:∀ b xs,H b=U (.tup xs)->H' b=U (.tup xs)):ObjOk P w H' h' a o:=by
 induction o with
 | lst xs=>obtain⟨z,its,n,r,e⟩:=x;exact⟨z,its,n,r,k _ _ (.inl rfl) e⟩
 | tup xs=>obtain⟨z,its,r,ob,e,c⟩:=x;exact⟨z,its,r,ob,k _ _ (.inl rfl) e,c⟩
 | dK kvs=>obtain⟨z,y,vs,r,ob,es,ep,e,c⟩:=x;exact⟨z,y,vs,r,ob,es,ep,k _ _ (.inl rfl) e,c⟩
 | dT kvs=>
  obtain⟨z,y,xs,r,ob,es,ep,e,c⟩:=x
  exact⟨z,y,xs,Paired.mapP r λp q z=>⟨z.1,ht _ _ z.2.1,z.2.2⟩,ob,es,ep,k _ _ (.inl rfl) e,c⟩
 | set S n=>obtain⟨ob,es,ep,t,e,c⟩:=x;exact⟨ob,es,ep,t,k _ _ (.inl rfl) e,c⟩
 | ins C dx fs=>
  obtain⟨d,z,ne,e,mA,⟨od,es,ep,e2,c⟩,r⟩:=x
  exact⟨ho _ d,z,ne,k _ _ (.inl rfl) e,mA,⟨od,es,ep,k _ _ (.inr d) e2,c⟩,r⟩
 | own y=>obtain⟨ob,e⟩:=x;exact⟨ob,k _ _ (.inl rfl) e⟩
 | xd fs=>obtain⟨mA,⟨od,es,ep,e,c⟩,r⟩:=x;exact⟨mA,⟨od,es,ep,k _ _ (.inl rfl) e,c⟩,r⟩
 | rng lo hi=>obtain⟨t,u,v,e⟩:=x;exact⟨t,u,v,k _ _ (.inl rfl) e⟩
 | frz ob u ih=>obtain⟨e,q⟩:=x;exact⟨k _ _ (.inl rfl) e,ih q⟩
 | tbl ps=>
  have e:h.get? a=U { cls:=.none,data:=.fields ps }:=x
  show h'.get? a=U { cls:=.none,data:=.fields ps }
  exact k a _ (.inl rfl) e
 | met f y=>
  have e:h.get? a=U (W.methodObj (.ref f) (.ref y)):=x
  show h'.get? a=U (W.methodObj (.ref f) (.ref y))
  exact k a _ (.inl rfl) e
 | ext φ=>obtain⟨p,⟨o,e⟩,st⟩:=x;exact⟨st _ _ p λo q=>k _ _ (.inl rfl) q,⟨o,k _ _ (.inl rfl) e⟩,st⟩
theorem HOk.lt(x:HOk P w H h)(e:H a=U o):a<h.objs.size:=(x a o e).lt
def HOk.fresh(x:HOk P w H h)(e:h.objs.size<=a):H a=Y:=by
 cases q:H a with
 | none=>rfl
 | some u=>exact absurd (WQ (x.lt q) e) (XY _)
def HOk.kept(x:HOk P w H h)(k:∀ b u,h.get? b=U u->h'.get? b=U u):HOk P w H h':=λa o e=>
 (x a o e).stay (λb u _ q=>k b u q) (λ_ q=>q) λ_ _ q=>q
def HOk.laid(x:HOk P w H h)(k:∀ b u,h.get? b=U u->h'.get? b=U u)(hp:h.objs.size<=a)(new:ObjOk P w (upd H a o) h' a o):HOk P w (upd H a o) h':=λb u e=>by
 have hn:=x.fresh hp
 by_cases hb:b=a
 ·subst hb;rw [bA] at e;cases e;exact new
 ·rw [bm hb] at e
  exact(x b u e).stay (λc v _ q=>k c v q) (λc q=>by rw [bm (cA q hn)];exact q) λc xs q=>by rw [bm (cA q hn)];exact q
end
def Rd(H:Hp)(a:Addr)(u:HO):Prop:=H a=U u\/∃ o,H a=U (.frz o u)
def Rd.ok{P:Program}{w:World}{H:Hp}{h:Heap}{a:Addr}{u:HO}(r:Rd H a u)(x:HOk P w H h):ObjOk P w H h a u:=by
 rcases r with r | ⟨o,r⟩
 ·exact x a u r
 ·obtain⟨_,q⟩:=x a _ r
  exact q
def Mut:Option HO->Prop
 | some (.lst _)=>True
 | some (.dK _)=>True
 | some (.dT _)=>True
 | some (.set _ _)=>True
 | some (.ins _ _ _)=>True
 | some (.ext _)=>True
 | _=>False
section
variable{P:Program}{w:World}{H:Hp}{h h':Heap}{x e:Addr}{o':HO}
def HOk.write(ok:HOk P w H h)(mu:Mut (H x))(he:e=x\/H e=U (.own x))(k:∀ b u,b≠e->h.get? b=U u->h'.get? b=U u)(heo:∃ u,h'.get? e=U u)
  (new:ObjOk P w (upd H x o') h' x o'):HOk P w (upd H x o') h':=λb u q=>by
 have nown:∀ c y,H c=U (.own y)->c≠x:=λc y r z=>by subst z;rw [r] at mu;exact mu
 have ntup:∀ c xs,H c=U (.tup xs)->c≠x:=λc xs r z=>by subst z;rw [r] at mu;exact mu
 by_cases hb:b=x
 ·subst hb;rw [bA] at q;cases q;exact new
 ·rw [bm hb] at q
  by_cases hbe:b=e
  ·have q':H b=U (.own x):=by
    rcases he with z | z
    ·exact absurd (hbe.trans z) hb
    ·rw [hbe];exact z
   rw [q] at q';cases q'
   obtain⟨v,hv⟩:=heo
   exact⟨v,by rw [hbe];exact hv⟩
  ·refine(ok b u q).stay (λc v hc r=>k c v ?_ r) (λc r=>by rw [bm (nown c b r)];exact r) λc xs r=>by rw [bm (ntup c xs r)];exact r
   rcases hc with rfl | hc
   ·exact hbe
   ·rintro rfl
    rcases he with z | z
    ·exact nown c b hc z
    ·rw [hc] at z;cases z;exact hb rfl
end
structure Un(fs ex:List Addr)(H H':Hp)(h h':Heap):Prop where
 keep:∀ b o,h.get? b=U o->H b=Y->b ∉ fs->b ∉ ex->h'.get? b=U o
 slot:∀ b o,h.get? b=U o->H b=Y->b∈fs->b ∉ ex->∃ sl,h'.get? b=U { o with slots:=sl }
 free:∀ b o,h.get? b=U o->H b=Y->b ∉ ex->H' b=Y
 there:∀ b o,h.get? b=U o->b ∉ ex->∃ o',h'.get? b=U o'
 tups:∀ b xs,H b=U (.tup xs)->H' b=U (.tup xs)
 frzs:∀ b o u,H b=U (.frz o u)->H' b=U (.frz o u)
 tbls:∀ b ps,H b=U (.tbl ps)->∃ more,H' b=U (.tbl (ps++more))
section
variable{fs fs' ex ex':List Addr}{H H1 H2:Hp}{h h1 h2 h':Heap}{a x e:Addr}{o:HO}
def Un.any(u:Un fs ex H H1 h h1){b:Addr}{ob:Obj}(q:h.get? b=U ob)(n:H b=Y)(hx:b ∉ ex):∃ sl,h1.get? b=U { ob with slots:=sl }:=by
 by_cases hb:b∈fs
 ·exact u.slot b ob q n hb hx
 ·exact⟨ob.slots,u.keep b ob q n hb hx⟩
def Un.kept(k:∀ b u,h.get? b=U u->h'.get? b=U u):Un fs ex H H h h':=
 ⟨λb ob q _ _ _=>k b ob q,λb ob q _ _ _=>⟨ob.slots,k b ob q⟩,λ_ _ _ n _=>n,λb ob q _=>⟨ob,k b ob q⟩,λ_ _ q=>q,λ_ _ _ q=>q,λ_ ps q=>⟨#[],by rw [q];simp⟩⟩
def Un.refl:Un fs ex H H h h:=Un.kept λ_ _ q=>q
def Un.laid(k:∀ b u,h.get? b=U u->h'.get? b=U u)(hp:h.objs.size<=a)(hn:H a=Y):Un fs ex H (upd H a o) h h' where
 keep:=λb u q _ _ _=>k b u q
 slot:=λb u q _ _ _=>⟨u.slots,k b u q⟩
 free:=λb u q n _=>by rw [bm (WU (WQ (Wy q) hp))];exact n
 there:=λb u q _=>⟨u,k b u q⟩
 tups:=λb xs q=>by rw [bm (cA q hn)];exact q
 frzs:=λb u xs q=>by rw [bm (cA q hn)];exact q
 tbls:=λb ps q=>⟨#[],by rw [bm (cA q hn),q];simp⟩
def Un.write(mu:Mut (H x))(he:e=x\/H e=U (.own x))(k:∀ b u,b≠e->h.get? b=U u->h'.get? b=U u)(heo:∃ u,h'.get? e=U u):Un fs ex H (upd H x o) h h':=by
 have hx:∀ b,H b=Y->b≠x:=λb n z=>by subst z;rw [n] at mu;exact mu
 have hb:∀ b,H b=Y->b≠e:=λb n z=>by
  subst z
  rcases he with r | r
  ·exact hx b n r
  ·rw [n] at r;cases r
 have hm:∀ b u,H b=U u->¬ Mut (U u)->b≠x:=λb u q nm z=>by subst z;rw [q] at mu;exact nm mu
 refine⟨λb u q n _ _=>k b u (hb b n) q,λb u q n _ _=>⟨u.slots,k b u (hb b n) q⟩,λb u q n _=>by rw [bm (hx b n)];exact n,λb u q _=>?_,
  λb xs q=>by rw [bm (hm b _ q λz=>z)];exact q,λb u xs q=>by rw [bm (hm b _ q λz=>z)];exact q,λb ps q=>⟨#[],by rw [bm (hm b _ q λz=>z),q];simp⟩⟩
 by_cases hbe:b=e
 ·subst hbe;exact heo
 ·exact⟨u,k b u hbe q⟩
end
def trk(h:Heap)(H:Hp):List Addr:=(List.range h.objs.size).filter λa=>(H a).isSome
noncomputable def zA(h:Heap)(H:Hp):Heap:=W.hideAll h (trk h H)
def Iy(h:Heap)(H:Hp):(zA h H).objs.size=h.objs.size:=W.hideAll_size _ _
def Mj{h:Heap}{H:Hp}{b:Addr}{o:Obj}(e:h.get? b=U o)(n:H b=Y):(zA h H).get? b=U o:=
 W.hideAll_get _ e λhm=>by
  have q:(H b).isSome=true:=(Xm.mp hm).2
  rw [n] at q;simp at q
def Pp{h:Heap}{H:Hp}{b:Addr}{o:Obj}(e:(zA h H).get? b=U o):h.get? b=U o/\H b=Y:=by
 have e':h.get? b=U o:=W.of_hideAll (trk h H) e
 refine⟨e',?_⟩
 cases q:H b with
 | none=>rfl
 | some x=>
  have hm:b∈trk h H:=Xm.mpr ⟨Zi.mpr (Wy e'),by simp [q]⟩
  have z:(zA h H).get? b=Y:=W.hideAll_none (trk h H) hm
  rw [z] at e;cases e
structure Mod(K:W.Frag)(mg:Str->Option Value)(base:Heap):Prop where
 kin:K.In base
 glob:base.Ns mainGlobals mg
 blt:∃ mb,base.Ns builtinsNs mb/\∀ x:Str,x ≠ "__name__"->mb x=bootBuiltins x
 nolimit:base.NoLimit
structure Cx where
 prog:Program
 w:World
 K:W.Frag
 mg:Str->Option Value
 base:Heap
 A:Around
 N:List Str
 s₀:Shared
 H₀:Hp
 env:Env
 outer:List Env
 stack:List Env
 ex:List Addr
 fn:Str->Bool
 calm:Bool
 pn:List (Addr×Obj)
 xe:Value->Shared->Prop
def JG(l:List Env):List Addr:=l.filterMap (·.frame)
abbrev Cx.fs(X:Cx):List Addr:=JG X.outer
def Ss(sc:Scope)(x:Str):Prop:=sc.names.lookup x=U .local\/sc.names.lookup x=U .cell\/sc.names.lookup x=U .free
def Oe(sc:Scope)(x:Str):Prop:=sc.names.lookup x=U .local\/sc.names.lookup x=U .cell
def Look(env:Env)(h:Heap)(m:Str->Option Value)(x:Str)(u:Value):Prop:=
 (env.kindOf x=U .local/\m x=U u)\/((env.kindOf x=U .cell\/env.kindOf x=U .free)/\∃ c,env.cells.lookup x=U c/\h.IsCell c (U u))
structure Cx.Ok(X:Cx):Prop where
 mod:Mod X.K X.mg X.base
 kind:X.env.scope.kind=.function
 glob:X.env.globals=mainGlobals
 blt:X.env.builtins=builtinsNs
 above:X.s₀.heap.objs.size<=X.env.locals
 inj:∀ x y c,X.env.cells.lookup x=U c->X.env.cells.lookup y=U c->x=y
 has:∀ x,(X.env.kindOf x=U .cell\/X.env.kindOf x=U .free)->∃ c,X.env.cells.lookup x=U c
 cab:∀ x c,X.fn x=true->X.env.cells.lookup x=U c->X.s₀.heap.objs.size<=c
 hd:X.calm=true->X.A.handled=Y
 frames:X.A.frames=U X.stack
 stk:X.stack=X.outer\/(X.stack=X.env::X.outer/\X.env.frame=U X.env.locals)
 exf:∀ b∈X.ex,b≠X.env.locals/\∀ x c,X.env.cells.lookup x=U c->c≠b
 bs:∀ b o,X.base.get? b=U o->X.s₀.heap.get? b=U o/\X.H₀ b=Y
 bsz:X.base.objs.size<=X.s₀.heap.objs.size
 noex:∀ b o,X.base.get? b=U o->b ∉ X.ex
 exfs:∀ b∈X.ex,b ∉ X.fs
 funs:X.s₀.heap.FunFrames X.base X.outer
 frf:∀ b∈X.fs,X.H₀ b=Y
structure Inv(X:Cx)(pins:List (Addr×Obj))(σ:List (Option V))(H:Hp)(s:Shared):Prop where
 ok:X.Ok
 os:s.os=X.s₀.os
 bare:AllBare s.gens
 base:Un X.fs X.ex X.H₀ H X.s₀.heap s.heap
 loc:∃ m,s.heap.Ns X.env.locals m/\∀ (i:Nat) (x:Str) (v:V),X.N[i]?=U x->σ[i]?=U (U v)->Ss X.env.scope x->∃ u,RelV v u/\Look X.env s.heap m x u
 cell:∀ x c,X.env.cells.lookup x=U c->∃ v,s.heap.IsCell c v
 free:H X.env.locals=Y
 freeC:∀ x c,X.env.cells.lookup x=U c->H c=Y
 pin:∀ p∈X.pn++pins,s.heap.get? p.1=U p.2/\H p.1=Y/\p.1≠X.env.locals/\p.1 ∉ X.fs/\∀ v,p.2.data≠.cell v
 hok:HOk X.prog X.w H s.heap
 len:σ.length=X.N.length
section
variable{X:Cx}{pins:List (Addr×Obj)}{σ:List (Option V)}{H H':Hp}{s:Shared}{h':Heap}
def Cx.Ok.nofr(ok:X.Ok){b:Addr}{o:Obj}(e:X.base.get? b=U o):b ∉ X.fs:=λhb=>by
 have:=(ok.funs.mem hb).1
 rw [e] at this;cases this
theorem Inv.bs(I:Inv X pins σ H s):∀ b o,X.base.get? b=U o->s.heap.get? b=U o/\H b=Y:=λb o e=>
 ⟨I.base.keep b o (I.ok.bs b o e).1 (I.ok.bs b o e).2 (I.ok.nofr e) (I.ok.noex b o e),I.base.free b o (I.ok.bs b o e).1 (I.ok.bs b o e).2 (I.ok.noex b o e)⟩
def Inv.bk(I:Inv X pins σ H s):∀ b o,X.base.get? b=U o->s.heap.get? b=U o:=λb o e=>(I.bs b o e).1
theorem Inv.mod(I:Inv X pins σ H s):Mod X.K X.mg X.base:=I.ok.mod
def Inv.kIn(I:Inv X pins σ H s):X.K.In s.heap:=I.ok.mod.kin.keeps I.bk
theorem Inv.lt(I:Inv X pins σ H s):X.env.locals<s.heap.objs.size:=let ⟨_,hn,_⟩:=I.loc;hn.lt
def Inv.sz(I:Inv X pins σ H s):X.s₀.heap.objs.size<=s.heap.objs.size:=WT I.ok.above (aao I.lt)
def Inv.nofs(I:Inv X pins σ H s){a:Addr}(h:s.heap.objs.size<=a):a ∉ X.fs:=λhb=>by
 obtain⟨_,o,ho,_⟩:=I.ok.funs.mem hb
 exact absurd (WQ (Wy ho) (WT I.sz h)) (XY _)
def Inv.cne(I:Inv X pins σ H s):∀ x c,X.env.cells.lookup x=U c->c≠X.env.locals:=λx c e z=>by
 obtain⟨v,o,ho,hd⟩:=I.cell x c e
 obtain⟨m,⟨o',es,ep,ho',hd',_⟩,_⟩:=I.loc
 rw [z,ho'] at ho;cases ho;rw [hd'] at hd;cases hd
theorem Inv.funs(I:Inv X pins σ H s):s.heap.FunFrames X.base X.outer:=by
 have all:∀ (l:List Env),(∀ b∈JG l,b∈X.fs)->X.s₀.heap.FunFrames X.base l->s.heap.FunFrames X.base l:=by
  intro l
  induction l with
  | nil=>intro _ _;trivial
  | cons env r ih=>
   intro hs hl
   obtain⟨hk,⟨L,o,hf,hn,ho,hd⟩,hr⟩:=hl
   have hL:L∈X.fs:=hs L (by unfold JG;rw [XO,hf];exact Wr)
   obtain⟨sl,e⟩:=I.base.slot L o ho (I.ok.frf L hL) hL λz=>I.ok.exfs L z hL
   exact⟨hk,⟨L,_,hf,hn,e,hd⟩,ih (λb hb=>hs b (by unfold JG;rw [XO,hf];exact Wu _ hb)) hr⟩
 exact all X.outer (λ_ hb=>hb) I.ok.funs
theorem Inv.stack(I:Inv X pins σ H s):s.heap.FunFrames X.base X.stack:=by
 rcases I.ok.stk with e | ⟨e,hf⟩
 ·rw [e];exact I.funs
 ·rw [e]
  obtain⟨m,hn,_⟩:=I.loc
  refine .cons (by rw [I.ok.kind];decide) hf hn ?_ I.funs
  exact Heap.get?_none_of_le (WT I.ok.bsz I.ok.above)
def Inv.stkSub(I:Inv X pins σ H s):∀ b∈JG X.stack,b∈X.env.locals::X.fs:=λb hb=>by
 rcases I.ok.stk with e | ⟨e,hf⟩
 ·rw [e] at hb;exact Wu _ hb
 ·rw [e] at hb
  unfold JG at hb
  rw [XO,hf] at hb
  exact hb
def Inv.stkFree(I:Inv X pins σ H s):∀ b∈JG X.stack,H b=Y:=λb hb=>by
 rcases WM.mp (I.stkSub b hb) with e | hb
 ·rw [e];exact I.free
 ·obtain⟨_,o,ho,_⟩:=I.ok.funs.mem hb
  exact I.base.free b o ho (I.ok.frf b hb) λz=>I.ok.exfs b z hb
def Inv.step{g':Array GenState}{t':Nat}{d':Drawn}{ch:List Addr}(I:Inv X pins σ H s)
  (hch:∀ b∈ch,(b∈X.ex\/X.s₀.heap.objs.size<=b)/\b≠X.env.locals/\(∀ x c,X.env.cells.lookup x=U c->c≠b)/\∀ p∈X.pn++pins,p.1≠b)
  (keep:∀ b o,b≠X.env.locals->b ∉ X.fs->b ∉ ch->s.heap.get? b=U o->H b=Y->h'.get? b=U o)
  (slot:∀ b o,b≠X.env.locals->b∈X.fs->b ∉ ch->s.heap.get? b=U o->H b=Y->∃ sl,h'.get? b=U { o with slots:=sl }) (free:∀ b o,b ∉ ch->s.heap.get? b=U o->H b=Y->H' b=Y)
  (there:∀ b o,b ∉ ch->s.heap.get? b=U o->∃ o',h'.get? b=U o')
  (tups:∀ b xs,H b=U (.tup xs)->H' b=U (.tup xs)) (frzs:∀ b o u,H b=U (.frz o u)->H' b=U (.frz o u)) (tbls:∀ b ps,H b=U (.tbl ps)->∃ more,H' b=U (.tbl (ps++more)))
  (ns:∀ m,s.heap.Ns X.env.locals m->h'.Ns X.env.locals m) (hok:HOk X.prog X.w H' h') (hg:AllBare g') :
  Inv X pins σ H' { s with heap:=h',gens:=g',drawn:=d',toks:=t' }:=by
 have neL:∀ b o,X.s₀.heap.get? b=U o->b≠X.env.locals:=λb o e=>WU (WQ (Wy e) I.ok.above)
 have neC:∀ b o,X.s₀.heap.get? b=U o->b ∉ X.ex->b ∉ ch:=λb o e hx hb=>by
  rcases(hch b hb).1 with z | z
  ·exact hx z
  ·exact absurd (WQ (Wy e) z) (XY _)
 have cellK:∀ x c,X.env.cells.lookup x=U c->∀ v,s.heap.IsCell c v->h'.IsCell c v:=λx c e v ⟨o,ho,hd⟩=>by
  have nch:c ∉ ch:=λz=>(hch c z).2.2.1 x c e rfl
  by_cases hc:c∈X.fs
  ·obtain⟨sl,q⟩:=slot c o (I.cne x c e) hc nch ho (I.freeC x c e)
   exact⟨_,q,hd⟩
  ·exact⟨o,keep c o (I.cne x c e) hc nch ho (I.freeC x c e),hd⟩
 refine⟨I.ok,I.os,hg,⟨λb o e n hb hx=>?_,λb o e n hb hx=>?_,λb o e n hx=>?_,λb o e hx=>?_,λb xs e=>tups b xs (I.base.tups b xs e),λb o xs e=>frzs b o xs (I.base.frzs b o xs e),λb ps e=>?_⟩,?_,λx c e=>?_,?_,λx c e=>?_,λp hp=>?_,hok,I.len⟩
 ·exact keep b o (neL b o e) hb (neC b o e hx) (I.base.keep b o e n hb hx) (I.base.free b o e n hx)
 ·obtain⟨sl,e1⟩:=I.base.slot b o e n hb hx
  obtain⟨sl',e2⟩:=slot b _ (neL b o e) hb (neC b o e hx) e1 (I.base.free b o e n hx)
  exact⟨sl',e2⟩
 ·obtain⟨o',e1⟩:=I.base.there b o e hx
  exact free b o' (neC b o e hx) e1 (I.base.free b o e n hx)
 ·obtain⟨o',e1⟩:=I.base.there b o e hx
  exact there b o' (neC b o e hx) e1
 ·obtain⟨m1,e1⟩:=I.base.tbls b ps e
  obtain⟨m2,e2⟩:=tbls b _ e1
  exact⟨m1++m2,by rw [e2,Array.append_assoc]⟩
 ·obtain⟨m,hn,hl⟩:=I.loc
  refine⟨m,ns m hn,λi x v e1 e2 e3=>?_⟩
  obtain⟨u,r,l⟩:=hl i x v e1 e2 e3
  refine⟨u,r,?_⟩
  rcases l with l | ⟨k,c,e,z⟩
  ·exact .inl l
  ·exact .inr ⟨k,c,e,cellK x c e _ z⟩
 ·obtain⟨v,z⟩:=I.cell x c e
  exact⟨v,cellK x c e v z⟩
 ·obtain⟨m,⟨o,_,_,ho,_⟩,_⟩:=I.loc
  exact free _ o (λz=>(hch _ z).2.1 rfl) ho I.free
 ·obtain⟨v,o,ho,hd⟩:=I.cell x c e
  exact free c o (λz=>(hch c z).2.2.1 x c e rfl) ho (I.freeC x c e)
 ·obtain⟨e,n,ne,nf,d⟩:=I.pin p hp
  have nch:p.1 ∉ ch:=λz=>(hch p.1 z).2.2.2 p hp rfl
  exact⟨keep p.1 p.2 ne nf nch e n,free p.1 p.2 nch e n,ne,nf,d⟩
def Inv.un{t':Nat}(I:Inv X pins σ H s)(u:Un X.fs [] H H' s.heap h')(hok:HOk X.prog X.w H' h'):Inv X pins σ H' { s with heap:=h',toks:=t' }:=by
 obtain⟨m,⟨o,es,ep,ho,r⟩,_⟩:=id I.loc
 obtain⟨sl,hL⟩:=u.any ho I.free (by simp)
 exact I.step (g':=s.gens) (d':=s.drawn) (ch:=[]) (λ_ z=>nomatch z) (λb o _ hb _ e n=>u.keep b o e n hb (by simp)) (λb o _ hb _ e n=>u.slot b o e n hb (by simp)) (λb o _ e n=>u.free b o e n (by simp)) (λb o _ e=>u.there b o e (by simp)) u.tups u.frzs u.tbls (λm' hm=>by
  obtain⟨o',es',ep',ho',r'⟩:=hm
  rw [ho] at ho';cases ho'
  exact⟨_,es',ep',hL,r'⟩) hok I.bare
def Inv.call{g':Array GenState}{t':Nat}{d':Drawn}{ch:List Addr}(I:Inv X pins σ H s)(u:Un (JG X.stack) ch H H' s.heap h')(hok:HOk X.prog X.w H' h')(hg:AllBare g')
  (hch:∀ b∈ch,(b∈X.ex\/X.s₀.heap.objs.size<=b)/\b≠X.env.locals/\(∀ x c,X.env.cells.lookup x=U c->c≠b)/\∀ p∈X.pn++pins,p.1≠b) :
  Inv X pins σ H' { s with heap:=h',gens:=g',drawn:=d',toks:=t' }:=by
 obtain⟨m,⟨o,es,ep,ho,r⟩,_⟩:=id I.loc
 obtain⟨sl,hL⟩:=u.any ho I.free λz=>(hch _ z).2.1 rfl
 exact I.step (ch:=ch) hch (λb o hL hb hc e n=>u.keep b o e n (λz=>(WM.mp (I.stkSub b z)).elim hL hb) hc) (λb o _ _ hc e n=>u.any e n hc) (λb o hc e n=>u.free b o e n hc) (λb o hc e=>u.there b o e hc) u.tups u.frzs u.tbls (λm' hm=>by
  obtain⟨o',es',ep',ho',r'⟩:=hm
  rw [ho] at ho';cases ho'
  exact⟨_,es',ep',hL,r'⟩) hok hg
def Inv.turned{t':Nat}{it:Addr}(I:Inv X pins σ H s)(k:∀ b o,b≠it->s.heap.get? b=U o->h'.get? b=U o)(hn:H it=Y)(hL:it≠X.env.locals)
  (h1:it∈X.ex\/X.s₀.heap.objs.size<=it) (h2:∀ x c,X.env.cells.lookup x=U c->c≠it) (h3:∀ p∈X.pn++pins,p.1≠it):Inv X pins σ H { s with heap:=h',toks:=t' }:=by
 have nit:∀ b u,H b=U u->b≠it:=λb u e z=>by rw [z,hn] at e;cases e
 refine I.step (g':=s.gens) (d':=s.drawn) (ch:=[it]) (λb hb=>?_) (λb o _ _ hc e _=>k b o (λz=>hc (by simp [z])) e) (λb o _ _ hc e _=>⟨o.slots,k b o (λz=>hc (by simp [z])) e⟩) (λ_ _ _ _ n=>n)
  (λb o hc e=>⟨o,k b o (λz=>hc (by simp [z])) e⟩) (λ_ _ e=>e) (λ_ _ _ e=>e) (λb ps e=>⟨#[],by rw [e];simp⟩) (λm hm=>?_) (λb u e=>?_) I.bare
 ·have e:b=it:=by simpa using hb
  subst e
  exact⟨h1,hL,h2,h3⟩
 ·obtain⟨o,es,ep,ho,r⟩:=hm
  exact⟨o,es,ep,k _ o (Ne.symm hL) ho,r⟩
 ·refine(I.hok b u e).stay (λc v hc q=>k c v ?_ q) (λ_ q=>q) λ_ _ q=>q
  rcases hc with z | z
  ·rw [z];exact nit b u e
  ·exact nit c _ z
def Inv.tok(I:Inv X pins σ H s)(t:Nat):Inv X pins σ H { s with toks:=t }:=I.un (h':=s.heap) (t':=t) Un.refl I.hok
theorem Inv.kept{t':Nat}(I:Inv X pins σ H s)(k:∀ b u,s.heap.get? b=U u->h'.get? b=U u):Inv X pins σ H { s with heap:=h',toks:=t' }:=I.un (Un.kept k) (I.hok.kept k)
theorem Inv.laid{a:Addr}{o:HO}{t':Nat}(I:Inv X pins σ H s)(k:∀ b u,s.heap.get? b=U u->h'.get? b=U u)(hp:s.heap.objs.size<=a)(new:ObjOk X.prog X.w (upd H a o) h' a o) :
  Inv X pins σ (upd H a o) { s with heap:=h',toks:=t' }:=I.un (Un.laid k hp (I.hok.fresh hp)) (I.hok.laid k hp new)
theorem Inv.write{x e:Addr}{o:HO}{t':Nat}(I:Inv X pins σ H s)(mu:Mut (H x))(he:e=x\/H e=U (.own x))(k:∀ b u,b≠e->s.heap.get? b=U u->h'.get? b=U u)(heo:∃ u,h'.get? e=U u)
  (new:ObjOk X.prog X.w (upd H x o) h' x o):Inv X pins σ (upd H x o) { s with heap:=h',toks:=t' }:=I.un (Un.write mu he k heo) (I.hok.write mu he k heo new)
def Inv.pins_of{pins':List (Addr×Obj)}(I:Inv X pins σ H s)(h:∀ p∈pins',s.heap.get? p.1=U p.2/\H p.1=Y/\p.1≠X.env.locals/\p.1 ∉ X.fs/\∀ v,p.2.data≠.cell v):Inv X pins' σ H s:=
 ⟨I.ok,I.os,I.bare,I.base,I.loc,I.cell,I.free,I.freeC,λp hp=>(WK.mp hp).elim (λz=>I.pin p (Xb _ z)) (h p),I.hok,I.len⟩
def AW{N:List Str}(hN:N.Nodup){i j:Nat}{x:Str}(a:N[i]?=U x)(b:N[j]?=U x):i=j:=by
 obtain⟨h1,e1⟩:=Wo.mp a
 obtain⟨h2,e2⟩:=Wo.mp b
 exact(List.getElem_inj hN).mp (e1.trans e2.symm)
def wJ{M:Model}{A:Around}{E:Value->Shared->Prop}{i:Nat}{x:Str}{v:V}{u:Value}{Q:Unit->Shared->Prop}(I:Inv X pins σ H s)(hN:X.N.Nodup)(hi:X.N[i]?=U x)(hx:Oe X.env.scope x)(r:RelV v u)
  (h:∀ s',Inv X pins (σ.set i (U v)) H s'->(∃ a,Heap.SameBut a s.heap s'.heap/\(a=X.env.locals\/X.env.cells.lookup x=U a))->Q () s') (hf:X.fn x=true\/X.env.scope.names.lookup x=U .local:=by first | exact .inl rfl | exact .inr rfl | assumption):wpAny M A (storeName X.env x u) Q E s:=by
 obtain⟨m,hn,hl⟩:=id I.loc
 have hcls:(X.env.scope.kind == .class||(X.env.scope.kind == .module&&X.env.locals != X.env.globals))=false:=by rw [I.ok.kind];rfl
 have hiσ:i < σ.length:=by rw [I.len];exact(Wo.mp hi).1
 have cne:=I.cne
 have tracked:∀ {a:Addr} {h':Heap},(∃ o,s.heap.get? a=U o/\H a=Y)->Heap.SameBut a s.heap h'->HOk X.prog X.w H h':=λ{a h'} ha hs b ob e=>by
  obtain⟨_,_,hfree⟩:=ha
  refine(I.hok b ob e).stay (λc w' hc q=>(hs.2 c ?_).trans q) (λ_ q=>q) λ_ _ q=>q
  rintro rfl
  rcases hc with rfl | hc
  ·rw [hfree] at e;cases e
  ·rw [hfree] at hc;cases hc
 rcases hx with hk | hk
 ·refine wpAny_storeName_local hk hn (λh' hn' hs=>?_) hcls
  obtain⟨oL,_,_,hoL,_⟩:=id hn
  refine h _ ⟨I.ok,I.os,I.bare,⟨λb o e n hb hx=>?_,λb o e n hb hx=>?_,I.base.free,λb o e hx=>?_,I.base.tups,I.base.frzs,I.base.tbls⟩,⟨_,hn',λj y v' e1 e2 e3=>?_⟩,λy c e=>?_,I.free,I.freeC,λp hp=>?_,tracked ⟨oL,hoL,I.free⟩ hs,by simpa using I.len⟩ ⟨_,hs,.inl rfl⟩
  ·exact(hs.2 b (WU (WQ (Wy e) I.ok.above))).trans (I.base.keep b o e n hb hx)
  ·obtain⟨sl,e1⟩:=I.base.slot b o e n hb hx
   exact⟨sl,(hs.2 b (WU (WQ (Wy e) I.ok.above))).trans e1⟩
  ·obtain⟨o',e1⟩:=I.base.there b o e hx
   exact⟨o',(hs.2 b (WU (WQ (Wy e) I.ok.above))).trans e1⟩
  ·by_cases hj:j=i
   ·subst hj
    rw [hi] at e1;cases e1
    rw [WV hiσ] at e2
    cases e2
    exact⟨u,r,.inl ⟨hk,by simp⟩⟩
   ·rw [WO (Ne.symm hj)] at e2
    obtain⟨u',r',q⟩:=hl j y v' e1 e2 e3
    refine⟨u',r',?_⟩
    rcases q with ⟨k,e⟩ | ⟨k,c,e,z⟩
    ·refine .inl ⟨k,?_⟩
     have:y≠x:=λe=>hj (AW hN e1 (e ▸ hi))
     simp [this,e]
    ·exact .inr ⟨k,c,e,z.sameBut hs (cne y c e)⟩
  ·obtain⟨w',z⟩:=I.cell y c e
   exact⟨w',z.sameBut hs (cne y c e)⟩
  ·obtain⟨e,n,ne,nf,d⟩:=I.pin p hp
   exact⟨(hs.2 p.1 ne).trans e,n,ne,nf,d⟩
 ·have hfn:X.fn x=true:=by
   rcases hf with z | z
   ·exact z
   ·rw [z] at hk;cases hk
  obtain⟨c,hc⟩:=I.ok.has x (.inl hk)
  obtain⟨w',z⟩:=I.cell x c hc
  refine wpAny_storeName_cell I.ok.kind hk hc z (λh' hc' hs=>?_)
  obtain⟨oc,hoc,hocd⟩:=id z
  refine h { s with heap:=h' } ⟨I.ok,I.os,I.bare,⟨λb o e n hb hx=>?_,λb o e n hb hx=>?_,I.base.free,λb o e hx=>?_,I.base.tups,I.base.frzs,I.base.tbls⟩,⟨m,hn.sameBut hs (Ne.symm (cne x c hc)),λj y v' e1 e2 e3=>?_⟩,λy c' e=>?_,I.free,I.freeC,λp hp=>?_,tracked ⟨oc,hoc,I.freeC x c hc⟩ hs,by simpa using I.len⟩ ⟨c,hs,.inr hc⟩
  ·exact(hs.2 b (WU (WQ (Wy e) (I.ok.cab x c hfn hc)))).trans (I.base.keep b o e n hb hx)
  ·obtain⟨sl,e1⟩:=I.base.slot b o e n hb hx
   exact⟨sl,(hs.2 b (WU (WQ (Wy e) (I.ok.cab x c hfn hc)))).trans e1⟩
  ·obtain⟨o',e1⟩:=I.base.there b o e hx
   exact⟨o',(hs.2 b (WU (WQ (Wy e) (I.ok.cab x c hfn hc)))).trans e1⟩
  ·by_cases hj:j=i
   ·subst hj
    rw [hi] at e1;cases e1
    rw [WV hiσ] at e2
    cases e2
    exact⟨u,r,.inr ⟨.inl hk,c,hc,hc'⟩⟩
   ·rw [WO (Ne.symm hj)] at e2
    obtain⟨u',r',q⟩:=hl j y v' e1 e2 e3
    refine⟨u',r',?_⟩
    rcases q with q | ⟨k,c',e,z'⟩
    ·exact .inl q
    ·refine .inr ⟨k,c',e,z'.sameBut hs ?_⟩
     rintro rfl
     exact hj (AW hN e1 (I.ok.inj _ _ _ e hc ▸ hi))
  ·by_cases hcc:c'=c
   ·subst hcc;exact⟨_,hc'⟩
   ·obtain⟨w2,z2⟩:=I.cell y c' e
    exact⟨w2,z2.sameBut hs hcc⟩
  ·obtain⟨e,n,ne,nf,d⟩:=I.pin p hp
   refine⟨(hs.2 p.1 ?_).trans e,n,ne,nf,d⟩
   intro q
   rw [q,hoc] at e
   have q':oc=p.2:=WH e
   exact d w' (by rw [<- q'];exact hocd)
def mG{M:Model}{A:Around}{E:Value->Shared->Prop}{i:Nat}{x:Str}{v:V}{u:Value}{Q:Unit->Shared->Prop}(I:Inv X pins σ H s)(hN:X.N.Nodup)(hi:X.N[i]?=U x)(hx:Oe X.env.scope x)(r:RelV v u)
  (h:∀ s',Inv X pins (σ.set i (U v)) H s'->Q () s') (hf:X.fn x=true\/X.env.scope.names.lookup x=U .local:=by first | exact .inl rfl | exact .inr rfl | assumption):wpAny M A (storeName X.env x u) Q E s:=
 wJ I hN hi hx r (λs' I' _=>h s' I') hf
def Inv.call'{s':Shared}{ch:List Addr}(I:Inv X pins σ H s)(ho:s'.os=s.os)(u:Un (JG X.stack) ch H H' s.heap s'.heap)(hok:HOk X.prog X.w H' s'.heap)(hg:AllBare s'.gens)
  (hch:∀ b∈ch,(b∈X.ex\/X.s₀.heap.objs.size<=b)/\b≠X.env.locals/\(∀ x c,X.env.cells.lookup x=U c->c≠b)/\∀ p∈X.pn++pins,p.1≠b):Inv X pins σ H' s':=by
 obtain⟨h',g',d',t',o'⟩:=s'
 have e:o'=s.os:=ho
 subst e
 exact I.call (g':=g') (t':=t') (d':=d') u hok hg hch
end
abbrev XK:=Value->Option Addr->Hp->Prop
abbrev St:=List (Option V)
abbrev VK:=V->Hp->Prop
abbrev TE:=St->Hp->VK->Prop
abbrev TT:=St->Hp->(Bool->Hp->Prop)->Prop
abbrev TA:=St->Hp->(List V->Hp->Prop)->Prop
structure wD where
 nx:St->Hp->Prop
 rt:VK
 bk:St->Hp->Prop:=λ_ _=>False
 ct:St->Hp->Prop:=λ_ _=>False
abbrev TS:=wD->St->Hp->Prop
def EP(X:Cx)(pins:List (Addr×Obj))(σ:St)(Q:VK)(u:Value)(s':Shared):Prop:=∃ v H',Inv X pins σ H' s'/\RelV v u/\Q v H'
def TP(X:Cx)(pins:List (Addr×Obj))(σ:St)(Q:Bool->Hp->Prop)(b:Bool)(s':Shared):Prop:=∃ H',Inv X pins σ H' s'/\Q b H'
def AP(X:Cx)(pins:List (Addr×Obj))(σ:St)(Q:List V->Hp->Prop)(us:List Value)(s':Shared):Prop:=∃ vs H',Inv X pins σ H' s'/\Vals vs us/\Q vs H'
def SP(X:Cx)(pins:List (Addr×Obj))(D:wD)(f:Flow)(s':Shared):Prop:=
 match f with
 | .next=>∃ σ' H',Inv X pins σ' H' s'/\D.nx σ' H'
 | .brk=>∃ σ' H',Inv X pins σ' H' s'/\D.bk σ' H'
 | .cont=>∃ σ' H',Inv X pins σ' H' s'/\D.ct σ' H'
 | .ret u=>∃ v σ' H',Inv X pins σ' H' s'/\RelV v u/\D.rt v H'
def PE(X:Cx)(e:Expr)(t:TE):Prop:=
 ∀ (pins:List (Addr×Obj)) (s:Shared) (σ:St) (H:Hp) (Q:VK),Inv X pins σ H s->t σ H Q->wpAny (model X.prog X.w) X.A (eval e X.env) (EP X pins σ Q) X.xe s
def PT(X:Cx)(e:Expr)(t:TT):Prop:=
 ∀ (pins:List (Addr×Obj)) (s:Shared) (σ:St) (H:Hp) (Q:Bool->Hp->Prop),Inv X pins σ H s->t σ H Q->wpAny (model X.prog X.w) X.A (isTrue e X.env (eval e X.env)) (TP X pins σ Q) X.xe s
def PW(X:Cx)(e:Expr)(t:TT):Prop:=
 ∀ (whole:Sem Value) (pins:List (Addr×Obj)) (s:Shared) (σ:St) (H:Hp) (Q:Bool->Hp->Prop),Inv X pins σ H s->t σ H Q->wpAny (model X.prog X.w) X.A (isTrue e X.env whole) (TP X pins σ Q) X.xe s
def PW.pt{X:Cx}{e:Expr}{t:TT}(h:PW X e t):PT X e t:=h _
def PA(X:Cx)(es:List Expr)(t:TA):Prop:=
 ∀ (pos:Pos) (pins:List (Addr×Obj)) (s:Shared) (σ:St) (H:Hp) (Q:List V->Hp->Prop),Inv X pins σ H s->t σ H Q->wpAny (model X.prog X.w) X.A (spliced (backTo pos (starEach es X.env))) (AP X pins σ Q) X.xe s
def PS(X:Cx)(st:Stmt)(t:TS):Prop:=
 ∀ (pins:List (Addr×Obj)) (s:Shared) (σ:St) (H:Hp) (D:wD),Inv X pins σ H s->t D σ H->wpAny (model X.prog X.w) X.A (exec st X.env) (SP X pins D) X.xe s
def PSs(X:Cx)(st:List Stmt)(t:TS):Prop:=
 ∀ (pins:List (Addr×Obj)) (s:Shared) (σ:St) (H:Hp) (D:wD),Inv X pins σ H s->t D σ H->wpAny (model X.prog X.w) X.A (execs st X.env) (SP X pins D) X.xe s
def dh{α:Type}{t:Sem α}{Q Q':α->Shared->Prop}{M:Model}{A:Around}{E:Value->Shared->Prop}{s:Shared}(h:wpAny M A t Q E s)(hQ:∀ a s,Q a s->Q' a s):wpAny M A t Q' E s:=Xk h hQ λ_ _ x=>x
section
variable{X:Cx}
def bin{a b:Expr}{ta tb:TE}(ha:PE X a ta)(hb:PE X b tb){pins:List (Addr×Obj)}{s:Shared}{σ:St}{H:Hp}{R:V->V->Hp->Prop}(I:Inv X pins σ H s)(h:ta σ H λx H1=>tb σ H1 λy H2=>R x y H2)
  {α:Type} {Q:α->Shared->Prop} {f:Value->Value->Sem α}
  (hf:∀ v u s2 x y H2,Inv X pins σ H2 s2->RelV x v->RelV y u->R x y H2->wpAny (model X.prog X.w) X.A (f v u) Q X.xe s2) :
  wpAny (model X.prog X.w) X.A (eval a X.env) (λv s₁=>wpAny (model X.prog X.w) X.A (eval b X.env) (λu s₂=>wpAny (model X.prog X.w) X.A (f v u) Q X.xe s₂) X.xe s₁) X.xe s:=by
 refine dh (ha pins s σ H _ I h) λv s1 ⟨x,H1,I1,r1,q1⟩=>?_
 refine dh (hb pins s1 σ H1 _ I1 q1) λu s2 ⟨y,H2,I2,r2,q2⟩=>?_
 exact hf v u s2 x y H2 I2 r1 r2 q2
def tVar(i:Nat):TE:=λσ H Q=>∃ v,σ[i]?=U (U v)/\Q v H
def tC(v:V):TE:=λ_ H Q=>Q v H
def KP{i:Nat}{x:Str}{pos:Pos}(hN:X.N[i]?=U x)(hv:Ss X.env.scope x)(hd:(x == ("__debug__":Str))=false:=by decide)(hcd:(x == ("__classdict__":Str))=false:=by decide):PE X (.Name x pos) (tVar i):=by
 intro pins s σ H Q I h
 obtain⟨v,e,h⟩:=h
 obtain⟨m,hn,hl⟩:=I.loc
 obtain⟨u,r,l⟩:=hl i x v hN e hv
 have fin:EP X pins σ Q u s:=⟨v,H,I,r,h⟩
 rcases l with ⟨hk,hm⟩ | ⟨hk,c,hc,hcell⟩
 ·exact wpAny_Name (aas I.ok.kind hk hn hm fin) hd
 ·rcases hk with hk | hk
  ·exact wpAny_Name (aaw I.ok.kind hk hc hcell fin) hd
  ·exact wpAny_Name (wpAny_loadName_free I.ok.kind hk hc hcell fin hcd) hd
def Tv{i j pos}:PE X (.Constant (.int i) j pos) (tC (.int i)):=λ_ _ _ H _ I h=>wpAny_Constant_int ⟨.int i,H,I.tok _,⟨_,rfl⟩,h⟩
def pe_bl{b j pos}:PE X (.Constant (.bool b) j pos) (tC (.bl b)):=λ_ _ _ H _ I h=>Constant_bool ⟨.bl b,H,I,rfl,h⟩
def Tu{j pos}:PE X (.Constant .none j pos) (tC .non):=λ_ _ _ H _ I h=>Constant_none ⟨.non,H,I,rfl,h⟩
def Tr{x j pos}:PE X (.Constant (.str x) j pos) (tC (.str x)):=λ_ _ _ H _ I h=>aaO ⟨.str x,H,I.tok _,⟨_,rfl⟩,h⟩
def Gl(X:Cx)(x:Str):Prop:=X.env.kindOf x=U .globalImplicit
def ze{E:Value->Shared->Prop}{pins:List (Addr×Obj)}{s:Shared}{σ:St}{H:Hp}{x:Str}{u:Value}{pos:Pos}{Q:Value->Shared->Prop}(I:Inv X pins σ H s)(hg:Gl X x)(hm:X.mg x=U u)(h:Q u s)
  (hd:(x == ("__debug__":Str))=false:=by decide):wpAny (model X.prog X.w) X.A (eval (.Name x pos) X.env) Q E s:=
 ZR I.ok.kind hg (Calls.loadGlobal_global (by rw [I.ok.glob];exact I.mod.glob.keeps I.bk) hm h) hd
def kH{E:Value->Shared->Prop}{pins:List (Addr×Obj)}{s:Shared}{σ:St}{H:Hp}{x:Str}{u:Value}{pos:Pos}{Q:Value->Shared->Prop}(I:Inv X pins σ H s)(hg:Gl X x)(hm:X.mg x=Y)(hv:bootBuiltins x=U u)(h:Q u s)
  (hn:x ≠ "__name__":=by decide) (hd:(x == ("__debug__":Str))=false:=by decide):wpAny (model X.prog X.w) X.A (eval (.Name x pos) X.env) Q E s:=by
 obtain⟨mb,h1,h2⟩:=I.mod.blt
 exact ZR I.ok.kind hg (Calls.loadGlobal_builtin (by rw [I.ok.glob];exact I.mod.glob.keeps I.bk) hm (by rw [I.ok.blt];exact h1.keeps I.bk) ((h2 x hn).trans hv) h) hd
def yy{x:Str}{v:V}{u:Value}{pos:Pos}(hg:Gl X x)(hm:X.mg x=U u)(r:RelV v u)(hd:(x == ("__debug__":Str))=false:=by decide):PE X (.Name x pos) (tC v):=
 λ_ _ _ H _ I h=>ze I hg hm ⟨v,H,I,r,h⟩ hd
def Pa{x:Str}{v:V}{u:Value}{pos:Pos}(hg:Gl X x)(hm:X.mg x=Y)(hv:bootBuiltins x=U u)(r:RelV v u)(hn:x ≠ "__name__":=by decide)(hd:(x == ("__debug__":Str))=false:=by decide):PE X (.Name x pos) (tC v):=
 λ_ _ _ H _ I h=>kH I hg hm hv ⟨v,H,I,r,h⟩ hn hd
variable{a b:Expr}{ta tb:TE}{pos:Pos}
variable{tA tB':TT}{rest:List Expr}
def tAnd(t u:TT):TT:=λσ H Q=>t σ H λc H1=>if c=true then u σ H1 Q else Q false H1
def tOr(t u:TT):TT:=λσ H Q=>t σ H λc H1=>if c=true then Q true H1 else u σ H1 Q
def tNot(t:TT):TT:=λσ H Q=>t σ H λc H1=>Q (!c) H1
def OE(ha:PT X a tA):PW X (.BoolOp .And [a] pos) tA:=by
 intro wh pins s σ H Q I h
 refine isTrue_and (dh (ha pins s σ H Q I h) λc s1 e=>?_)
 cases c with
 | true=>exact isTrue_and_nil e
 | false=>exact e
def SZ(ha:PT X a tA):PW X (.BoolOp .Or [a] pos) tA:=by
 intro wh pins s σ H Q I h
 refine isTrue_or (dh (ha pins s σ H Q I h) λc s1 e=>?_)
 cases c with
 | false=>exact isTrue_or_nil e
 | true=>exact e
def Ta(ha:PT X a tA)(hb:PW X (.BoolOp .And (b::rest) pos) tB'):PW X (.BoolOp .And (a::b::rest) pos) (tAnd tA tB'):=by
 intro wh pins s σ H Q I h
 refine isTrue_and (dh (ha pins s σ H _ I h) λc s1 ⟨H1,I1,q1⟩=>?_)
 cases c with
 | true=>exact hb wh pins s1 σ H1 Q I1 q1
 | false=>exact⟨H1,I1,q1⟩
def pw_or(ha:PT X a tA)(hb:PW X (.BoolOp .Or (b::rest) pos) tB'):PW X (.BoolOp .Or (a::b::rest) pos) (tOr tA tB'):=by
 intro wh pins s σ H Q I h
 refine isTrue_or (dh (ha pins s σ H _ I h) λc s1 ⟨H1,I1,q1⟩=>?_)
 cases c with
 | true=>exact⟨H1,I1,q1⟩
 | false=>exact hb wh pins s1 σ H1 Q I1 q1
def Tb(ha:PT X a tA):PT X (.UnaryOp .Not a pos) (tNot tA):=by
 intro pins s σ H Q I h
 exact isTrue_not (ha pins s σ H (λc H1=>Q (!c) H1) I h)
def Tt{op}{t:TE}(h:PE X a t):PE X (.BoolOp op [a] pos) t:=λpins s σ H Q I hw=>BoolOp_one (h pins s σ H Q I hw)
def tIf(t:TT)(ta tb:TE):TE:=λσ H Q=>t σ H λc H1=>if c=true then ta σ H1 Q else tb σ H1 Q
def KW{c:Expr}(hc:PT X c tA)(ha:PE X a ta)(hb:PE X b tb):PE X (.IfExp c a b pos) (tIf tA ta tb):=by
 intro pins s σ H Q I h
 refine wpAny_IfExp (dh (hc pins s σ H _ I h) λd s1 ⟨H1,I1,q1⟩=>?_)
 cases d with
 | true=>exact ha pins s1 σ H1 Q I1 q1
 | false=>exact hb pins s1 σ H1 Q I1 q1
end
def my(K:W.Frag)(H:Hp)(a:Addr)(xs:List V):Prop:=
 Rd H a (.lst xs) \/
  ∃ (o:Obj) (its:Array Value) (n:Nat),K.lookup a=U o/\o.cls=.type "list"/\o.dict=Y/\o.data=.seq its n/\its.size<=sizeLine/\Vals xs its.toList
def kQ(K:W.Frag)(H:Hp)(a:Addr)(xs:List V):Prop:=
 Rd H a (.tup xs) \/
  ∃ (o:Obj) (its:Array Value) (n:Nat),K.lookup a=U o/\o.cls=.type "tuple"/\o.dict=Y/\o.data=.seq its n/\its.size<=sizeLine/\Vals xs its.toList
noncomputable def absV:Value->Option V
 | .none=>U .non
 | .bool b=>U (.bl b)
 | .int i _=>U (.int i)
 | .str x _=>U (.str x)
 | .bytes b _=>U (.byt b)
 | .float b _=>U (.flt b)
 | .ref a=>U (.ref a)
 | .type n=>U (.ty n)
 | _=>Y
def RelV.abs{x:V}{u:Value}(r:RelV x u):absV u=U x:=by
 cases x with
 | non=>cases r;rfl
 | bl _=>cases r;rfl
 | int _=>obtain⟨t,rfl⟩:=r;rfl
 | str _=>obtain⟨t,rfl⟩:=r;rfl
 | byt _=>obtain⟨t,rfl⟩:=r;rfl
 | flt _=>obtain⟨t,rfl⟩:=r;rfl
 | ref _=>cases r;rfl
 | ty _=>cases r;rfl
theorem RelV.inj{x y:V}{u:Value}(r:RelV x u)(q:RelV y u):x=y:=WH (r.abs.symm.trans q.abs)
theorem Vals.inj:∀ {xs ys:List V} {us:List Value},Vals xs us->Vals ys us->xs=ys
 | _,_,_,.nil,.nil=>rfl
 | _,_,_,.cons r t,.cons r' t'=>by rw [r.inj r',Vals.inj t t']
section
variable{X:Cx}{pins:List (Addr×Obj)}{σ:St}{H:Hp}{s:Shared}{a:Addr}{xs ys:List V}
def Inv.list(I:Inv X pins σ H s)(h:my X.K H a xs):∃ its:List Value,Vals xs its/\PlainL s.heap a its.toArray/\xs.length<=sizeLine:=by
 rcases h with h | ⟨o,its,n,hk,hc,hd,hs,hz,r⟩
 ·obtain⟨z,its,n,r,e⟩:=h.ok I.hok
  exact⟨its,r,⟨_,n,e,rfl,rfl,rfl⟩,z⟩
 ·refine⟨its.toList,r,⟨o,n,I.kIn a o hk,hc,hd,by simpa using hs⟩,?_⟩
  have e:=r.length
  simp only [YF] at e
  omega
def Inv.tuple(I:Inv X pins σ H s)(h:kQ X.K H a xs):∃ its:List Value,Vals xs its/\IsTup s.heap a its.toArray/\xs.length<=sizeLine:=by
 rcases h with h | ⟨o,its,n,hk,hc,hdn,hs,hz,r⟩
 ·obtain⟨z,its,r,p⟩:=h.ok I.hok
  exact⟨its,r,p.up,z⟩
 ·refine⟨its.toList,r,⟨o,I.kIn a o hk,hc,n,by simpa using hs⟩,?_⟩
  have e:=r.length
  simp only [YF] at e
  omega
def Inv.list_inj(I:Inv X pins σ H s)(h:my X.K H a xs)(h':my X.K H a ys):xs=ys:=by
 obtain⟨its,r,⟨o,n,e,_,_,d⟩,_⟩:=I.list h
 obtain⟨its',r',⟨o',n',e',_,_,d'⟩,_⟩:=I.list h'
 rw [e] at e';cases e'
 rw [d] at d'
 injection d' with d1 _
 have:its=its':=by simpa using congrArg Array.toList d1
 subst this
 exact r.inj r'
def Inv.tuple_inj(I:Inv X pins σ H s)(h:kQ X.K H a xs)(h':kQ X.K H a ys):xs=ys:=by
 obtain⟨its,r,⟨o,e,_,n,d⟩,_⟩:=I.tuple h
 obtain⟨its',r',⟨o',e',_,n',d'⟩,_⟩:=I.tuple h'
 rw [e] at e';cases e'
 rw [d] at d'
 injection d' with d1 _
 have:its=its':=by simpa using congrArg Array.toList d1
 subst this
 exact r.inj r'
end
noncomputable abbrev Cx.wish(X:Cx)(E:Value->Shared->Prop):Cx:={ X with xe:=E }
noncomputable abbrev Cx.nox(X:Cx):Cx:=X.wish λ_ _=>False
theorem Cx.Ok.wish{X:Cx}(ok:X.Ok)(E:Value->Shared->Prop):(X.wish E).Ok:=
 ⟨ok.mod,ok.kind,ok.glob,ok.blt,ok.above,ok.inj,ok.has,ok.cab,ok.hd,ok.frames,ok.stk,ok.exf,ok.bs,ok.bsz,ok.noex,ok.exfs,ok.funs,ok.frf⟩
def Cx.Ok.unwish{X:Cx}{E:Value->Shared->Prop}(ok:(X.wish E).Ok):X.Ok:=
 ⟨ok.mod,ok.kind,ok.glob,ok.blt,ok.above,ok.inj,ok.has,ok.cab,ok.hd,ok.frames,ok.stk,ok.exf,ok.bs,ok.bsz,ok.noex,ok.exfs,ok.funs,ok.frf⟩
section
variable{X:Cx}{pins:List (Addr×Obj)}{σ:St}{H:Hp}{s:Shared}{E:Value->Shared->Prop}
theorem Inv.wish(I:Inv X pins σ H s)(E:Value->Shared->Prop):Inv (X.wish E) pins σ H s:=⟨I.ok.wish E,I.os,I.bare,I.base,I.loc,I.cell,I.free,I.freeC,I.pin,I.hok,I.len⟩
theorem Inv.unwish(I:Inv (X.wish E) pins σ H s):Inv X pins σ H s:=⟨I.ok.unwish,I.os,I.bare,I.base,I.loc,I.cell,I.free,I.freeC,I.pin,I.hok,I.len⟩
theorem SP.unwish{D:wD}{f:Flow}{s':Shared}(h:SP (X.wish E) pins D f s'):SP X pins D f s':=by
 cases f with
 | next=>obtain⟨σ',H',I,q⟩:=h;exact⟨σ',H',I.unwish,q⟩
 | brk=>obtain⟨σ',H',I,q⟩:=h;exact⟨σ',H',I.unwish,q⟩
 | cont=>obtain⟨σ',H',I,q⟩:=h;exact⟨σ',H',I.unwish,q⟩
 | ret u=>obtain⟨v,σ',H',I,r,q⟩:=h;exact⟨v,σ',H',I.unwish,r,q⟩
theorem PSs.nox{st:List Stmt}{t:TS}(h:PSs X.nox st t):PSs X st t:=λpins s σ H D I hw=>
 Xk (h pins s σ H D (I.wish _) hw) (λ_ _ q=>q.unwish) λ_ _ z=>False.elim z
end
section
variable{X:Cx}{st:Stmt}{rest:List Stmt}{t u:TS}{e:Expr}{te:TE}{pos:Pos}
def JZ:TS:=λD σ H=>D.nx σ H
def tSeq(t u:TS):TS:=λD σ H=>t { D with nx:=u D } σ H
def OJ:PSs X [] JZ:=λ_ _ σ H _ I h=>YZ ⟨σ,H,I,h⟩
def AE(h1:PS X st t)(h2:PSs X rest u):PSs X (st::rest) (tSeq t u):=by
 intro pins s σ H D I h
 refine wpAny_execs_cons (dh (h1 pins s σ H { D with nx:=u D } I h) λf s1 q=>?_)
 cases f with
 | next=>
  obtain⟨σ',H',I',q⟩:=q
  exact h2 pins s1 σ' H' D I' q
 | ret v=>exact q
 | brk=>exact q
 | cont=>exact q
def FD(h1:PS X st t):PSs X [st] t:=by
 intro pins s σ H D I h
 refine wpAny_execs_cons (dh (h1 pins s σ H D I h) λf s1 q=>?_)
 cases f with
 | next=>exact YZ q
 | ret v=>exact q
 | brk=>exact q
 | cont=>exact q
def SO:TS:=λD σ H=>D.bk σ H
def tCont:TS:=λD σ H=>D.ct σ H
def OL:PS X (.Pass pos) JZ:=λ_ _ σ H _ I h=>wpAny_Pass ⟨σ,H,I,h⟩
def KJ:PS X (.Break pos) SO:=λ_ _ σ H _ I h=>wpAny_Break ⟨σ,H,I,h⟩
def AG:PS X (.Continue pos) tCont:=λ_ _ σ H _ I h=>wpAny_Continue ⟨σ,H,I,h⟩
def Inv.quiet{pins:List (Addr×Obj)}{σ:St}{H:Hp}{s:Shared}(I:Inv X pins σ H s):interactive X.env=false:=by simp [interactive,I.ok.kind]
def Td{x j pos pos'}:PS X (.Expr (.Constant (.str x) j pos) pos') JZ:=λ_ s σ H _ I h=>wpAny_Expr (aaO (show SP X _ _ .next { s with toks:=s.toks+1 } from ⟨σ,H,I.tok _,h⟩)) I.quiet
def tDrop(te:TE):TS:=λD σ H=>te σ H λ_ H1=>D.nx σ H1
def OM(he:PE X e te)(hs:swapsWith e Y pos.line X.env=pure false:=by rfl):PS X (.Expr e pos) (tDrop te):=by
 intro pins s σ H D I h
 exact wpAny_Expr_any (dh (he pins s σ H _ I h) λv s1 ⟨x,H1,I1,r1,q1⟩=>⟨σ,H1,I1,q1⟩) I.quiet hs
def tRet(te:TE):TS:=λD σ H=>te σ H D.rt
def KI(he:PE X e te):PS X (.Return (U e) pos) (tRet te):=by
 intro pins s σ H D I h
 exact wpAny_Return_some (dh (he pins s σ H _ I h) λv s1 ⟨x,H1,I1,r1,q1⟩=>⟨x,σ,H1,I1,r1,q1⟩)
def tRetN:TS:=λD _ H=>D.rt .non H
def OK:PS X (.Return Y pos) tRetN:=λ_ _ σ H _ I h=>wpAny_Return_none ⟨.non,σ,H,I,rfl,h⟩
def tIfS(c:TT)(t u:TS):TS:=λD σ H=>c σ H λb H1=>if b=true then t D σ H1 else u D σ H1
def ps_if{c:Expr}{a b:List Stmt}{tc:TT}(hc:PT X c tc)(ha:PSs X a t)(hb:PSs X b u):PS X (.If c a b pos) (tIfS tc t u):=by
 intro pins s σ H D I h
 refine wpAny_If (dh (hc pins s σ H _ I h) λd s1 ⟨H1,I1,q1⟩=>?_)
 cases d with
 | true=>exact ha pins s1 σ H1 D I1 q1
 | false=>exact hb pins s1 σ H1 D I1 q1
end
abbrev TG:=V->St->Hp->(St->Hp->Prop)->Prop
abbrev Sv:=List V->St->Hp->(St->Hp->Prop)->Prop
def PG(X:Cx)(target:Expr)(t:TG):Prop:=
 ∀ (pins:List (Addr×Obj)) (s:Shared) (σ:St) (H:Hp) (v:V) (u:Value) (Q:St->Hp->Prop),Inv X pins σ H s->RelV v u->t v σ H Q ->
  wpAny (model X.prog X.w) X.A (assign target X.env u) (λ_ s'=>∃ σ' H',Inv X pins σ' H' s'/\Q σ' H') X.xe s
def PGs(X:Cx)(ts:List Expr)(t:Sv):Prop:=
 ∀ (pins:List (Addr×Obj)) (s:Shared) (σ:St) (H:Hp) (vs:List V) (us:List Value) (Q:St->Hp->Prop),Inv X pins σ H s->Vals vs us->t vs σ H Q ->
  wpAny (model X.prog X.w) X.A (assignInOrder ((assignEach ts X.env).map (·.2)) us) (λ_ s'=>∃ σ' H',Inv X pins σ' H' s'/\Q σ' H') X.xe s
abbrev Wf:=V->V->V->Hp->(Hp->Prop)->Prop
def PSet(X:Cx)(t:Wf):Prop:=
 ∀ (pins:List (Addr×Obj)) (s:Shared) (σ:St) (H:Hp) (o i v:V) (ov iv u:Value) (Q:Hp->Prop),Inv X pins σ H s->RelV o ov->RelV i iv->RelV v u->t o i v H Q ->
  wpAny (model X.prog X.w) X.A (setItem ov iv u) (λ_ s'=>∃ H',Inv X pins σ H' s'/\Q H') X.xe s
abbrev TIp:=V->V->Hp->VK->Prop
def PIp(X:Cx)(op:Operator)(t:TIp):Prop:=
 ∀ (pins:List (Addr×Obj)) (s:Shared) (σ:St) (H:Hp) (x y:V) (v u:Value) (Q:VK),Inv X pins σ H s->RelV x v->RelV y u->t x y H Q ->
  wpAny (model X.prog X.w) X.A (inplaceOp op v u) (EP X pins σ Q) X.xe s
section
variable{X:Cx}{pos:Pos}
def Gk(i:Nat):TG:=λv σ H Q=>Q (σ.set i (U v)) H
def OU{i:Nat}{x:Str}(hN:X.N.Nodup)(hi:X.N[i]?=U x)(hx:Oe X.env.scope x)(hf:X.fn x=true\/X.env.scope.names.lookup x=U .local:=by first | exact .inl rfl | exact .inr rfl | assumption):PG X (.Name x pos) (Gk i):=by
 intro pins s σ H v u Q I r h
 exact wpAny_assign_Name (mG I hN hi hx r (λs' I'=>⟨_,H,I',h⟩) hf)
noncomputable def gNil:Sv:=λvs σ H Q=>vs=[]/\Q σ H
noncomputable def gCons(t:TG)(u:Sv):Sv:=λvs σ H Q=>∃ v r,vs=v::r/\t v σ H λσ' H'=>u r σ' H' Q
def OT:PGs X [] gNil:=by
 intro pins s σ H vs us Q I r h
 obtain⟨e,h⟩:=h
 subst e
 cases r
 exact assignInOrder_nil ⟨σ,H,I,h⟩
def KN{e:Expr}{es:List Expr}{t:TG}{u:Sv}(h1:PG X e t)(h2:PGs X es u)
  (hs:(assignEach (e::es) X.env).map (·.2)=assign e X.env::(assignEach es X.env).map (·.2):=by rfl):PGs X (e::es) (gCons t u):=by
 intro pins s σ H vs us Q I r h
 obtain⟨v,vr,e1,h⟩:=h
 subst e1
 cases r with
 | cons r rr=>
  rw [hs]
  refine Zn (dh (h1 pins s σ H _ _ _ I r h) λ_ s1 ⟨σ1,H1,I1,q1⟩=>?_)
  exact h2 pins s1 σ1 H1 _ _ Q I1 rr q1
def gTup(K:W.Frag)(n:Nat)(t:Sv):TG:=λv σ H Q=>∃ a xs,v=.ref a/\kQ K H a xs/\xs.length=n/\t xs σ H Q
def To{es:List Expr}{k:Nat}{t:Sv}{n:Nat}(hc:X.calm=true)(h:PGs X es t)
  (hn:(assignEach es X.env).length=n:=by rfl) (hst:(assignEach es X.env).findIdx? (·.1)=Y:=by rfl):PG X (.Tuple es k pos) (gTup X.K n t):=by
 intro pins s σ H v u Q I r hw
 obtain⟨a,xs,e1,hq,hl,hw⟩:=hw
 subst e1
 cases r
 obtain⟨its,rv,ht,hz⟩:=I.tuple hq
 refine assign_Tuple_tuple (I.ok.hd hc) ht (by simp [hn,<- hl,rv.length]) hst λh' hx=>?_
 have I1:Inv X pins σ H { s with heap:=h' }:=I.kept (t':=s.toks) λb o e=>hx b o (WU (Wy e)) e
 exact h pins _ σ H xs _ Q I1 (by simpa using rv) hw
def gSub(to ti:TE)(t:Wf):TG:=λv σ H Q=>to σ H λo H1=>ti σ H1 λi H2=>t o i v H2 λH3=>Q σ H3
def Tp{o i:Expr}{to ti:TE}{t:Wf}(ho:PE X o to)(hi:PE X i ti)(hs:PSet X t)
  (ha:∀ v,assign (.Subscript o i pos) X.env v=(do
   let ov <- holding [v] (eval o X.env)
   let iv <- holding [v,ov] (eval i X.env)
   standAt pos
   holding [v,ov,iv] (setItem ov iv v)
   release [v,ov,iv] []):=by intro _;rfl):PG X (.Subscript o i pos) (gSub to ti t):=by
 intro pins s σ H v u Q I r h
 rw [ha]
 refine Wn (XJ (dh (ho pins s σ H _ I h) λov s1 ⟨x,H1,I1,r1,q1⟩=>?_))
 refine Wn (XJ (dh (hi pins s1 σ H1 _ I1 q1) λiv s2 ⟨y,H2,I2,r2,q2⟩=>?_))
 refine Wn (Zl (Wn (XJ (dh (hs pins s2 σ H2 x y v ov iv u _ I2 r1 r2 r q2) λ_ s3 ⟨H3,I3,q3⟩=>?_))))
 exact wpAny_release ⟨σ,H3,I3,q3⟩
def Kd(te:TE)(g:TG):TS:=λD σ H=>te σ H λx H1=>g x σ H1 D.nx
def Tg{tg e:Expr}{te:TE}{g:TG}(he:PE X e te)(hg:PG X tg g)(hs:swapsWithSole [tg] e pos.line X.env=pure false:=by rfl)(hw:swappedStores [tg] e X.env=pure Y:=by rfl)
  (h1:(assignEach [tg] X.env).map (·.2)=[assign tg X.env]:=by rfl):PS X (.Assign [tg] e pos) (Kd te g):=by
 intro pins s σ H D I h
 refine wpAny_Assign_stores (dh (he pins s σ H _ I h) λv s1 ⟨x,H1,I1,r1,q1⟩=>?_) hs hw
 rw [h1]
 exact dh (hg pins s1 σ H1 x v _ I1 r1 q1) λ_ s2 q=>q
def KH{i:Nat}{x:Str}{e:Expr}{te:TE}{pos':Pos}(hN:X.N.Nodup)(hi:X.N[i]?=U x)(hx:Oe X.env.scope x)(he:PE X e te)(hs:swapsWith e (U (.Name x pos')) pos.line X.env=pure false:=by rfl)(hf:X.fn x=true\/X.env.scope.names.lookup x=U .local:=by first | exact .inl rfl | exact .inr rfl | assumption) :
  PS X (.Assign [.Name x pos'] e pos) (Kd te (Gk i)):=by
 intro pins s σ H D I h
 refine wpAny_Assign_Name (dh (he pins s σ H _ I h) λv s1 ⟨y,H1,I1,r1,q1⟩=>?_) hs
 exact mG I1 hN hi hx r1 (λs2 I2=>⟨_,H1,I2,q1⟩) hf
def tPar(i j:Nat)(ta:TA):TS:=λD σ H=>ta σ H λvs H1=>∃ v w,vs=[v,w]/\D.nx ((σ.set i (U v)).set j (U w)) H1
def Tc{i j:Nat}{x y:Str}{a b:Expr}{ta:TA}{px py pt:Pos}{kt k2 pt2}(hc:X.calm=true)(hN:X.N.Nodup)(hi:X.N[i]?=U x)(hj:X.N[j]?=U y)(hij:i≠j)
  (hx:X.env.scope.names.lookup x=U .local) (hy:X.env.scope.names.lookup y=U .local) (ha:PA X [a,b] ta)
  (hw:swappedStores [.Tuple [.Name x px,.Name y py] kt pt] (.Tuple [a,b] k2 pt2) X.env=pure (U [x,y]))
  (hs:swapsWithSole [.Tuple [.Name x px,.Name y py] kt pt] (.Tuple [a,b] k2 pt2) pos.line X.env=pure false:=by rfl) :
  PS X (.Assign [.Tuple [.Name x px,.Name y py] kt pt] (.Tuple [a,b] k2 pt2) pos) (tPar i j ta):=by
 intro pins s σ H D I h
 rw [exec_Assign_arm]
 refine Wn (Zl ?_)
 rw [hs]
 refine Wn (Wz ?_)
 rw [if_neg (by decide)]
 refine Wn (Tuple_ (dh (ha _ pins s σ H _ I h) λus s1 ⟨vs,H1,I1,r1,q1⟩=>?_))
 obtain⟨v,w,e1,q1⟩:=q1
 subst e1
 obtain⟨u1,u2,rfl,rv,rw'⟩:∃ u1 u2,us=[u1,u2]/\RelV v u1/\RelV w u2:=by
  cases r1 with
  | cons p q=>
   cases q with
   | cons p' q'=>
    cases q'
    exact⟨_,_,rfl,p,p'⟩
 refine WY ?_ (by show 2<=sizeLine;decide)
 have I2:Inv X pins σ H1 { s1 with heap:=s1.heap.push { cls:=.type "tuple",data:=.seq [u1,u2].toArray } }:=I1.kept (t':=s1.toks) λb o e=>Wp _ e
 rw [hw]
 refine Wn (Wz ?_)
 show wpAny (model X.prog X.w) X.A (do rule "assign.swapped-stores";let items <- unpackItems (.ref s1.heap.objs.size) 2 Y;assignInOrder [λv=>bindName X.env y v,λv=>bindName X.env x v] items.reverse;pure Flow.next) _ _ _
 refine Wn (YJ (Wn (unpackItems_tuple (items:=#[u1,u2]) (I.ok.hd hc) (IsTup.new s1.heap _) λh' hx'=>?_)))
 have I3:=I2.kept (h':=h') (t':=s1.toks) λb o e=>hx' b o (WU (Wy e)) e
 show wpAny _ _ (assignInOrder [λv=>bindName X.env y v,λv=>bindName X.env x v] [u2,u1] >>= λ_=>pure Flow.next) _ _ _
 refine Wn (Zn (wpAny_bindName (mG I3 hN hj (.inl hy) rw' (λs2 I4=>?_) (.inr hy))))
 refine Zn (wpAny_bindName (mG I4 hN hi (.inl hx) rv (λs3 I5=>assignInOrder_nil (Wz ?_)) (.inr hx)))
 rw [List.set_comm _ _ (Ne.symm hij)] at I5
 exact⟨_,H1,I5,q1⟩
def tAug(i:Nat)(te:TE)(ti:TIp):TS:=λD σ H=>∃ x,σ[i]?=U (U x)/\te σ H λy H1=>ti x y H1 λz H2=>D.nx (σ.set i (U z)) H2
def Tf{i:Nat}{x:Str}{e:Expr}{te:TE}{op:Operator}{ti:TIp}{pos':Pos}(hN:X.N.Nodup)(hi:X.N[i]?=U x)(hx:Oe X.env.scope x)(he:PE X e te)(ho:PIp X op ti)(hf:X.fn x=true\/X.env.scope.names.lookup x=U .local:=by first | exact .inl rfl | exact .inr rfl | assumption) :
  PS X (.AugAssign (.Name x pos') op e pos) (tAug i te ti):=by
 intro pins s σ H D I h
 obtain⟨v,e1,h⟩:=h
 obtain⟨m,hn,hl⟩:=I.loc
 have vis:Ss X.env.scope x:=by rcases hx with k | k;exact .inl k;exact .inr (.inl k)
 obtain⟨u,r,l⟩:=hl i x v hi e1 vis
 refine wpAny_AugAssign_Name ?_
 have go:wpAny (model X.prog X.w) X.A (eval e X.env) (λw s₂=>wpAny (model X.prog X.w) X.A (inplaceOp op u w) (λr s₃=>wpAny (model X.prog X.w) X.A (storeName X.env x r) (λ_=>SP X pins D .next) X.xe s₃) X.xe s₂) X.xe s:=by
  refine dh (he pins s σ H _ I h) λw s1 ⟨y,H1,I1,r1,q1⟩=>?_
  refine dh (ho pins s1 σ H1 v y u w _ I1 r r1 q1) λz s2 ⟨zv,H2,I2,r2,q2⟩=>?_
  exact mG I2 hN hi hx r2 (λs3 I3=>⟨_,H2,I3,q2⟩) hf
 rcases l with ⟨hk,hm⟩ | ⟨hk,c,hc,hcell⟩
 ·exact aas I.ok.kind hk hn hm go
 ·rcases hk with hk | hk
  ·exact aaw I.ok.kind hk hc hcell go
  ·rcases hx with k | k
   ·have:X.env.scope.names.lookup x=U .free:=hk
    rw [k] at this;cases this
   ·have:X.env.scope.names.lookup x=U .free:=hk
    rw [k] at this;cases this
noncomputable def ipI(f:Int->Int->Int):TIp:=λx y H Q=>∃ i j,x=.int i/\y=.int j/\Q (.int (f i j)) H
def UL:PIp X .Add (ipI λi j=>i+j):=by
 intro pins s σ H x y v u Q I r1 r2 h
 obtain⟨i,j,e1,e2,q⟩:=h
 subst e1;subst e2
 obtain⟨t,rfl⟩:=r1
 obtain⟨t',rfl⟩:=r2
 exact iadd_int ⟨.int _,H,I.tok _,⟨_,rfl⟩,q⟩
end
section
variable{X:Cx}{pos:Pos}
def SL(c:TT)(tb:TS):TS:=λD σ H=>∃ W:Nat->St->Hp->Prop,(∃ m,W m σ H)/\∀ m σ H,W m σ H ->
 c σ H λb H1=>if b=true then ∃ N:St->Hp->Prop,(∀ σ' H',N σ' H'->∃ m',m'<m/\W m' σ' H')/\tb { D with nx:=N,ct:=N,bk:=D.nx } σ H1 else D.nx σ H1
def KG{c:Expr}{body:List Stmt}{tc:TT}{tb:TS}(hp:PassesOwn (model X.prog X.w) X.A X.env X.xe)(hc:PT X c tc)(hb:PSs X body tb):PS X (.While c body [] pos) (SL tc tb):=by
 intro pins s σ H D I h
 obtain⟨W,⟨m0,w0⟩,turn⟩:=h
 refine wpAny_While (codeAny_whileLoop (λn s'=>∃ σ' H',Inv X pins σ' H' s'/\W n σ' H') ?_ m0 ⟨σ,H,I,w0⟩)
 rintro n s1 ⟨σ1,H1,I1,w1⟩
 refine Ye hp (dh (hc pins s1 σ1 H1 _ I1 (turn n σ1 H1 w1)) λb s2 ⟨H2,I2,q2⟩=>?_)
 cases b with
 | true=>
  obtain⟨N,hN,q2⟩:=q2
  rw [WI rfl]
  refine Ye hp (dh (hb pins s2 σ1 H2 _ I2 q2) λf s3 q3=>?_)
  cases f with
  | next=>
   obtain⟨σ3,H3,I3,n3⟩:=q3
   obtain⟨m',hm,w3⟩:=hN σ3 H3 n3
   exact⟨m',hm,σ3,H3,I3,w3⟩
  | cont=>
   obtain⟨σ3,H3,I3,n3⟩:=q3
   obtain⟨m',hm,w3⟩:=hN σ3 H3 n3
   exact⟨m',hm,σ3,H3,I3,w3⟩
  | brk=>exact q3
  | ret v=>exact q3
 | false=>
  rw [if_neg Bool.false_ne_true]
  exact YZ ⟨σ1,H2,I2,q2⟩
end
structure It where
 go:Nat->Hp->Prop
 yld:Nat->Hp->V->Hp->Prop
 stop:Nat->Hp->Prop
def rC(X:Cx)(pins:List (Addr×Obj))(H:Hp)(b:Addr):Prop:=
 H b=Y/\b≠X.env.locals/\b ∉ X.fs/\(b∈X.ex\/X.s₀.heap.objs.size<=b)/\(∀ x c,X.env.cells.lookup x=U c->c≠b)/\∀ p∈X.pn++pins,p.1≠b
def Inv.fpOk{X:Cx}{pins:List (Addr×Obj)}{σ:St}{H H':Hp}{s:Shared}{b:Addr}(I:Inv X pins σ H s)(hb:s.heap.objs.size<=b)(hn:H' b=Y):rC X pins H' b:=by
 refine⟨hn,Xz (WQ I.lt hb),I.nofs hb,.inr (WT I.sz hb),λx c e z=>?_,λp hp z=>?_⟩
 ·obtain⟨v,q⟩:=I.cell x c e
  exact absurd (WQ q.lt (by rw [z];exact hb)) (XY _)
 ·exact absurd (WQ (Wy (I.pin p hp).1) (by rw [z];exact hb)) (XY _)
structure CK(P:Program)(w:World)(K:W.Frag)(tg:Expr)(J:It)(fp:List Addr)(it:Addr)(tn:Nat->Heap->Prop):Prop where
 mem:it∈fp
 obj:∀ i h,tn i h->∀ b∈fp,∃ o,h.get? b=U o/\∀ v,o.data≠.cell v
 keep:∀ i h h',tn i h->(∀ b∈fp,∀ o,h.get? b=U o->h'.get? b=U o)->tn i h'
 item:∀ (X:Cx),X.prog=P->X.w=w->X.K=K->X.calm=true->∀ (i:Nat) (pins:List (Addr×Obj)) (s:Shared) (σ:St) (H:Hp) (E:Value->Shared->Prop),Inv X pins σ H s->(∀ b∈fp,rC X pins H b)->tn i s.heap->J.go i H ->
  wpAny (model P w) X.A (pyNext (.ref it)) (λr s1=>∃ u,r=U u /\
   wpAny (model P w) X.A (letOwnedTupleGo tg (.ref it) u) (λ_ s2=>∃ x H',Inv X pins σ H' s2/\RelV x u/\J.yld i H x H'/\tn (i+1) s2.heap/\∀ b∈fp,H' b=Y) E s1) E s
 done:∀ (X:Cx),X.prog=P->X.w=w->X.K=K->X.calm=true->∀ (i:Nat) (pins:List (Addr×Obj)) (s:Shared) (σ:St) (H:Hp) (E:Value->Shared->Prop),Inv X pins σ H s->(∀ b∈fp,rC X pins H b)->tn i s.heap->J.stop i H ->
  wpAny (model P w) X.A (pyNext (.ref it)) (λr s1=>r=Y/\Inv X pins σ H s1) E s
 self:∀ (A:Around) (i:Nat) (s:Shared) (Q:Value->Shared->Prop) (E:Value->Shared->Prop),tn i s.heap->Q (.ref it) s->wpAny (model P w) A (pyIter (.ref it)) Q E s
abbrev TI:=St->Hp->(It->Hp->Prop)->Prop
def PIE(X:Cx)(pins:List (Addr×Obj))(σ:St)(tg:Expr)(R:It->Hp->Prop)(itv:Value)(s2:Shared):Prop:=
 ∃ (it:Addr) (fp:List Addr) (tn:Nat->Heap->Prop) (J:It) (H':Hp),itv=.ref it/\Inv X pins σ H' s2/\CK X.prog X.w X.K tg J fp it tn/\tn 0 s2.heap/\(∀ b∈fp,rC X pins H' b)/\R J H'
def PI(X:Cx)(tg iter:Expr)(wi:TI):Prop:=
 ∀ (pins:List (Addr×Obj)) (s:Shared) (σ:St) (H:Hp) (R:It->Hp->Prop),Inv X pins σ H s->wi σ H R ->
  wpAny (model X.prog X.w) X.A (eval iter X.env) (λv s1=>wpAny (model X.prog X.w) X.A (pyIter v) (PIE X pins σ tg R) X.xe s1) X.xe s
def Mk{M:Model}{A:Around}{E:Value->Shared->Prop}{s:Shared}{tg:Expr}{it:Addr}{u:Value}{o:Obj}{n:String}{vs:Array Value}{Q:Unit->Shared->Prop}(ho:s.heap.get? it=U o)(hc:o.cls=.type n)(hd:o.data=.fields vs)
  (hn:["enumerate","zip","dict_itemiterator","dict_reverseitemiterator","odict_iterator","itertools.zip_longest","itertools.pairwise"].contains n=false) (hQ:Q () s):wpAny M A (letOwnedTupleGo tg (.ref it) u) Q E s:=by
 unfold letOwnedTupleGo
 cases tg <;> first
  | exact Wz hQ
  | (cases u <;> first
    | exact Wz hQ
    | (refine Wn (wpAny_load ho ?_); rw [hc,hd]; show wpAny M A (if (["enumerate","zip","dict_itemiterator","dict_reverseitemiterator","odict_iterator","itertools.zip_longest","itertools.pairwise"].contains n&&vs[0]? == U (rawInt _))=true then _ else _) Q E s; rw [if_neg (by intro h;rw [hn,Ym] at h;cases h)]; exact Wz hQ))
noncomputable def Itl(K:W.Frag)(a:Addr):It:=
 ⟨λi H=>∃ xs x,my K H a xs/\xs[i]?=U x,λi H x H'=>H'=H/\∀ xs,my K H a xs->xs[i]?=U x,λi H=>∃ xs,my K H a xs/\xs.length<=i⟩
noncomputable def Itt(K:W.Frag)(a:Addr):It:=
 ⟨λi H=>∃ xs x,kQ K H a xs/\xs[i]?=U x,λi H x H'=>H'=H/\∀ xs,kQ K H a xs->xs[i]?=U x,λi H=>∃ xs,kQ K H a xs/\xs.length<=i⟩
noncomputable def Itr(lo:Int)(n:Nat):It:=⟨λi _=>i<n,λi H x H'=>H'=H/\x=.int (lo+i),λi _=>n<=i⟩
def wH{P:Program}{w:World}{K:W.Frag}{tg:Expr}(a it:Addr):CK P w K tg (Itl K a) [it] it (λi h=>h.IsListIter it a i) where
 mem:=by simp
 obj:=λi h st b hb=>by
  have e:b=it:=by simpa using hb
  subst e
  obtain⟨o,e,c,d⟩:=st
  exact⟨o,e,λv z=>by rw [d] at z;cases z⟩
 keep:=λi h h' st k=>st.at λo e=>k it (by simp) o e
 item:=by
  intro X hP hw hK hc i pins s σ H E I hf st hg
  subst hP hw hK
  obtain⟨xs,x,hq,hx⟩:=hg
  obtain⟨its,rv,p,hz⟩:=I.list hq
  obtain⟨u,hu,ru⟩:=rv.get hx
  obtain⟨f0,f1,f2,f3,f4,f5⟩:=hf it (by simp)
  refine aad st p.isList (x:=u) (by simpa using hu) λh' st' sb=>?_
  have I1:Inv X pins σ H { s with heap:=h' }:=I.turned (t':=s.toks) (λb o hb e=>(sb.2 b hb).trans e) f0 f1 f3 f4 f5
  obtain⟨o,e,c,d⟩:=id st'
  exact⟨u,rfl,Mk (s:={ s with heap:=h' }) e c d (by decide) ⟨x,H,I1,ru,⟨rfl,λys hy=>by rw [I.list_inj hy hq];exact hx⟩,st',λb hb=>(hf b hb).1⟩⟩
 done:=by
  intro X hP hw hK hc i pins s σ H E I hf st hg
  subst hP hw hK
  obtain⟨xs,hq,hx⟩:=hg
  obtain⟨its,rv,p,hz⟩:=I.list hq
  obtain⟨f0,f1,f2,f3,f4,f5⟩:=hf it (by simp)
  have hl:=rv.length
  exact aaj (I.ok.hd hc) st p.isList (by simp;omega) λh' eb=>⟨rfl,I.turned (t':=s.toks) (λb o hb e=>eb b o hb e) f0 f1 f3 f4 f5⟩
 self:=λ_ _ _ _ _ st h=>wpAny_pyIter_listiter st h
def CQ{P:Program}{w:World}{K:W.Frag}{tg:Expr}(a it:Addr):CK P w K tg (Itt K a) [it] it (λi h=>h.IsTupleIter it a i) where
 mem:=by simp
 obj:=λi h st b hb=>by
  have e:b=it:=by simpa using hb
  subst e
  obtain⟨o,e,c,d⟩:=st
  exact⟨o,e,λv z=>by rw [d] at z;cases z⟩
 keep:=λi h h' st k=>st.at λo e=>k it (by simp) o e
 item:=by
  intro X hP hw hK hc i pins s σ H E I hf st hg
  subst hP hw hK
  obtain⟨xs,x,hq,hx⟩:=hg
  obtain⟨its,rv,p,hz⟩:=I.tuple hq
  obtain⟨u,hu,ru⟩:=rv.get hx
  obtain⟨f0,f1,f2,f3,f4,f5⟩:=hf it (by simp)
  refine wpAny_pyNext_tuple_item st (show s.heap.IsTuple a its.toArray from p) (x:=u) (by simpa using hu) λh' st' sb=>?_
  have I1:Inv X pins σ H { s with heap:=h' }:=I.turned (t':=s.toks) (λb o hb e=>(sb.2 b hb).trans e) f0 f1 f3 f4 f5
  obtain⟨o,e,c,d⟩:=id st'
  exact⟨u,rfl,Mk (s:={ s with heap:=h' }) e c d (by decide) ⟨x,H,I1,ru,⟨rfl,λys hy=>by rw [I.tuple_inj hy hq];exact hx⟩,st',λb hb=>(hf b hb).1⟩⟩
 done:=by
  intro X hP hw hK hc i pins s σ H E I hf st hg
  subst hP hw hK
  obtain⟨xs,hq,hx⟩:=hg
  obtain⟨its,rv,p,hz⟩:=I.tuple hq
  obtain⟨f0,f1,f2,f3,f4,f5⟩:=hf it (by simp)
  have hl:=rv.length
  exact wpAny_pyNext_tuple_end (I.ok.hd hc) st (show s.heap.IsTuple a its.toArray from p) (by simp;omega) λh' eb=>⟨rfl,I.turned (t':=s.toks) (λb o hb e=>eb b o hb e) f0 f1 f3 f4 f5⟩
 self:=λ_ _ _ _ _ st h=>wpAny_pyIter_tupleiter st h
def CS{P:Program}{w:World}{K:W.Frag}{tg:Expr}(it:Addr)(lo:Int)(n:Nat):CK P w K tg (Itr lo n) [it] it (λi h=>IsRangeIter h it (lo+(i:Nat) * 1) ((n:Int) - (i:Nat)) 1) where
 mem:=by simp
 obj:=λi h st b hb=>by
  have e:b=it:=by simpa using hb
  subst e
  exact⟨_,st,λv z=>by
   have z':Data.fields _=Data.cell v:=z
   cases z'⟩
 keep:=λi h h' st k=>k it (by simp) _ st
 item:=by
  intro X hP hw hK hc i pins s σ H E I hf st hg
  subst hP hw hK
  obtain⟨f0,f1,f2,f3,f4,f5⟩:=hf it (by simp)
  have W:=Walks.range (prog:=X.prog) (w:=X.w) (I.ok.hd hc) it lo 1 n
  refine W.item i s _ _ hg st λv h' tk hv st' kk=>?_
  obtain⟨t,rfl⟩:=hv
  have I1:Inv X pins σ H { s with heap:=h',toks:=tk }:=I.turned (λb o hb e=>kk b o (by simpa using hb) e) f0 f1 f3 f4 f5
  refine⟨_,rfl,Mk (s:={ s with heap:=h',toks:=tk }) (n:="range_iterator") st' rfl rfl (by decide) ⟨.int (lo+i),H,I1,⟨t,?_⟩,⟨rfl,rfl⟩,st',λb hb=>(hf b hb).1⟩⟩
  rw [Int.mul_one]
 done:=by
  intro X hP hw hK hc i pins s σ H E I hf st hg
  subst hP hw hK
  obtain⟨f0,f1,f2,f3,f4,f5⟩:=hf it (by simp)
  exact wpAny_pyNext_range_end (I.ok.hd hc) st (by have:n<=i:=hg;omega) λh' eb=>⟨rfl,I.turned (t':=s.toks) (λb o hb e=>eb b o hb e) f0 f1 f3 f4 f5⟩
 self:=λ_ _ _ _ _ st h=>wpAny_pyIter_rangeiter st h
section
variable{X:Cx}{tg:Expr}
def iList(K:W.Frag)(tl:TE):TI:=λσ H R=>tl σ H λx H1=>∃ a,x=.ref a/\(∃ xs,my K H1 a xs)/\R (Itl K a) H1
def OR{l:Expr}{tl:TE}(hl:PE X l tl):PI X tg l (iList X.K tl):=by
 intro pins s σ H R I h
 refine dh (hl pins s σ H _ I h) λv s1 ⟨x,H1,I1,r1,q1⟩=>?_
 obtain⟨a,e,⟨xs,hq⟩,q⟩:=q1
 subst e
 cases r1
 obtain⟨its,rv,p,hz⟩:=I1.list hq
 refine Yu p.isList ?_
 refine⟨s1.heap.objs.size,[s1.heap.objs.size],_,_,H1,rfl,I1.kept (t':=s1.toks) λb o e=>Wp _ e,wH a _,⟨_,WF _ rfl,rfl,rfl⟩,λb hb=>?_,q⟩
 have e:b=s1.heap.objs.size:=by simpa using hb
 subst e
 exact I1.fpOk (WD _) (I1.hok.fresh (WD _))
def AD{pins:List (Addr×Obj)}{σ:St}{H:Hp}{s:Shared}{R:It->Hp->Prop}{E:Value->Shared->Prop}{lo hi:Int}{t u v:Tok}{tk:Nat}(I:Inv X pins σ H s)(h1:-(2 ^ 62)<=lo)(h2:lo<2 ^ 62)(h3:-(2 ^ 62)<=hi)(h4:hi<2 ^ 62)
  (q:R (Itr lo (hi - lo).toNat) H):wpAny (model X.prog X.w) X.A (pyIter (.ref s.heap.objs.size)) (PIE X pins σ tg R) E { s with heap:=s.heap.push { cls:=.type "range",data:=.fields #[.int lo t,.int hi u,.int 1 v] },toks:=tk }:=by
 refine wpAny_pyIter_range (IsRange.new ..) (small_one h1 h2 h3 h4) ?_
 have I1:Inv X pins σ H { s with heap:=s.heap.push { cls:=.type "range",data:=.fields #[.int lo t,.int hi u,.int 1 v] },toks:=tk }:=I.kept λb o e=>Wp _ e
 refine⟨(s.heap.push { cls:=.type "range",data:=.fields #[.int lo t,.int hi u,.int 1 v] }).objs.size,[(s.heap.push { cls:=.type "range",data:=.fields #[.int lo t,.int hi u,.int 1 v] }).objs.size],_,_,H,rfl,
  I1.kept (t':=tk) λb o e=>Wp _ e,CS _ lo (hi - lo).toNat,?_,λb hb=>?_,q⟩
 ·have e1:lo+((0:Nat):Int) * 1=lo:=by simp
  have e2:(((hi - lo).toNat:Nat):Int) - ((0:Nat):Int)=Builtin.Range.rangeSize lo hi 1:=by rw [rangeSize_one];split <;> omega
  show IsRangeIter _ _ (lo+((0:Nat):Int) * 1) ((((hi - lo).toNat:Nat):Int) - ((0:Nat):Int)) 1
  rw [e1,e2]
  exact WF _ rfl
 ·have e:b=(s.heap.push { cls:=.type "range",data:=.fields #[.int lo t,.int hi u,.int 1 v] }).objs.size:=by simpa using hb
  subst e
  exact I1.fpOk (WD _) (I1.hok.fresh (WD _))
def iRng1(ta:TA):TI:=λσ H R=>ta σ H λvs H1=>∃ j:Int,vs=[.int j]/\-(2 ^ 62)<=j/\j<2 ^ 62/\R (Itr 0 j.toNat) H1
def iRng2(ta:TA):TI:=λσ H R=>ta σ H λvs H1=>∃ i j:Int,vs=[.int i,.int j]/\(-(2 ^ 62)<=i/\i<2 ^ 62/\-(2 ^ 62)<=j/\j<2 ^ 62)/\R (Itr i (j - i).toNat) H1
def Hw{a:Expr}{ta:TA}{p pos:Pos}(hg:Gl X "range")(hm:X.mg "range" = Y)(ha:PA X [a] ta)(hs:starEach [a] X.env=[(false,eval a X.env)]:=by rfl):PI X tg (.Call (.Name "range" p) [a] [] pos) (iRng1 ta):=by
 intro pins s σ H R I h
 refine Call_ (kH I hg hm boot_range (Xe (dh (ha pos pins s σ H _ I h) λus s1 ⟨vs,H1,I1,r1,q1⟩=>?_) hs rfl))
 obtain⟨j,e,q1,q2,q⟩:=q1
 subst e
 cases r1 with
 | cons r rr=>
  cases rr
  obtain⟨t,rfl⟩:=r
  exact call_range_1 (AD I1 (by omega) (by omega) q1 q2 (by simpa using q))
def Hv{a b:Expr}{ta:TA}{p pos:Pos}(hg:Gl X "range")(hm:X.mg "range" = Y)(ha:PA X [a,b] ta)(hs:starEach [a,b] X.env=[(false,eval a X.env),(false,eval b X.env)]:=by rfl)(hs2:starEach [b] X.env=[(false,eval b X.env)]:=by rfl) :
  PI X tg (.Call (.Name "range" p) [a,b] [] pos) (iRng2 ta):=by
 intro pins s σ H R I h
 refine Call_ (kH I hg hm boot_range (Xe (dh (ha pos pins s σ H _ I h) λus s1 ⟨vs,H1,I1,r1,q1⟩=>?_) (by rw [hs,hs2]) (by rw [hs2];rfl)))
 obtain⟨i,j,e,⟨q1,q2,q3,q4⟩,q⟩:=q1
 subst e
 cases r1 with
 | cons r rr=>
  cases rr with
  | cons r' rr=>
   cases rr
   obtain⟨t,rfl⟩:=r
   obtain⟨t',rfl⟩:=r'
   exact call_range_2 (AD I1 q1 q2 q3 q4 q)
def tFor(wi:TI)(g:TG)(tb:TS):TS:=λD σ H=>wi σ H λJ H1=>∃ W:Nat->Nat->St->Hp->Prop,(∃ m,W 0 m σ H1)/\∀ i m σ H,W i m σ H ->
 (J.stop i H/\D.nx σ H)\/(J.go i H/\∃ N:St->Hp->Prop,(∀ σ' H',N σ' H'->∃ m',m'<m/\W (i+1) m' σ' H')/\∀ x H',J.yld i H x H'->g x σ H' λσ2 H2=>tb { D with nx:=N,ct:=N,bk:=D.nx } σ2 H2)
noncomputable def ua(fp:List Addr)(h:Heap):List (Addr×Obj):=fp.filterMap λb=>(h.get? b).map λo=>(b,o)
def lO{fp:List Addr}{h:Heap}{b:Addr}{o:Obj}(hb:b∈fp)(e:h.get? b=U o):(b,o)∈ua fp h:=aaI.mpr ⟨b,hb,by rw [e];rfl⟩
def HJ{fp:List Addr}{h:Heap}{p:Addr×Obj}(hp:p∈ua fp h):p.1∈fp/\h.get? p.1=U p.2:=by
 obtain⟨b,hb,e⟩:=aaI.mp hp
 cases q:h.get? b with
 | none=>rw [q] at e;cases e
 | some o=>
  rw [q] at e
  have e':(b,o)=p:=WH e
  subst e'
  exact⟨hb,q⟩
def Inv.pinned{pins:List (Addr×Obj)}{σ:St}{H:Hp}{s:Shared}{fp:List Addr}(I:Inv X pins σ H s)(hf:∀ b∈fp,rC X pins H b)(ho:∀ b∈fp,∃ o,s.heap.get? b=U o/\∀ v,o.data≠.cell v):Inv X (pins++ua fp s.heap) σ H s:=
 I.pins_of λp hp=>(WK.mp hp).elim (λz=>I.pin p (Xf _ z)) λz=>by
  obtain⟨hb,e⟩:=HJ z
  obtain⟨f0,f1,f2,_⟩:=hf p.1 hb
  obtain⟨o,e',d⟩:=ho p.1 hb
  rw [e] at e';cases e'
  exact⟨e,f0,f1,f2,d⟩
def Inv.unpinned{pins pl:List (Addr×Obj)}{σ:St}{H:Hp}{s:Shared}(I:Inv X (pins++pl) σ H s):Inv X pins σ H s:=I.pins_of λp hp=>I.pin p (Xf _ (Xb _ hp))
def Dq{iter:Expr}{body:List Stmt}{wi:TI}{g:TG}{tb:TS}{pos:Pos}(hp:PassesOwn (model X.prog X.w) X.A X.env X.xe)(hc:X.calm=true)(hi:PI X tg iter wi)(hg:PG X tg g)(hb:PSs X body tb)
  (hs:∀ x,foldedSetIterable iter X.env x=pure x:=by intro _;rfl):PS X (.For tg iter body [] pos) (tFor wi g tb):=by
 intro pins s σ H D I h
 refine wpAny_For (dh (hi pins s σ H _ I h) λv s1 h1=>dh h1 λitv s2 h2=>?_) hs
 obtain⟨it,fp,tn,J,H2,e,I2,T,st2,f2,W,⟨m0,w0⟩,turn⟩:=h2
 subst e
 have stat:∀ {H':Hp},(∀ b∈fp,H' b=Y)->∀ b∈fp,rC X pins H' b:=λhn b hb=>⟨hn b hb,(f2 b hb).2⟩
 refine codeAny_forLoop_any (λn s'=>∃ i σ' H',Inv X pins σ' H' s'/\tn i s'.heap/\(∀ b∈fp,H' b=Y)/\W i n σ' H') ?_ m0 ⟨0,σ,H2,I2,st2,λb hb=>(f2 b hb).1,w0⟩
 rintro n s3 ⟨i,σ3,H3,I3,st3,fr3,w3⟩
 rcases turn i n σ3 H3 w3 with ⟨stop,qn⟩ | ⟨go,N,hN,step⟩
 ·refine Ye hp (dh (T.done X rfl rfl rfl hc i pins s3 σ3 H3 X.xe I3 (stat fr3) st3 stop) λr s4 ⟨hr,I4⟩=>?_)
  subst hr
  exact YZ ⟨σ3,H3,I4,qn⟩
 ·refine Ye hp (dh (T.item X rfl rfl rfl hc i pins s3 σ3 H3 X.xe I3 (stat fr3) st3 go) λr s4 ⟨u,hr,h4⟩=>?_)
  subst hr
  refine Ye hp (dh h4 λ_ s5 ⟨x,H5,I5,r5,y5,st5,fr5⟩=>?_)
  have I5':=I5.pinned (stat fr5) (T.obj _ _ st5)
  refine Ye hp (dh (hg _ s5 σ3 H5 x u _ I5' r5 (step x H5 y5)) λ_ s6 ⟨σ6,H6,I6,q6⟩=>?_)
  refine Ye hp (dh (hb _ s6 σ6 H6 _ I6 q6) λf s7 q7=>?_)
  have again:∀ {σ7:St} {H7:Hp},Inv X (pins++ua fp s5.heap) σ7 H7 s7->N σ7 H7->∃ m,m<n/\∃ i σ' H',Inv X pins σ' H' s7/\tn i s7.heap/\(∀ b∈fp,H' b=Y)/\W i m σ' H':=λ{σ7 H7} I7 n7=>by
   obtain⟨m',hm,w7⟩:=hN σ7 H7 n7
   refine⟨m',hm,i+1,σ7,H7,I7.unpinned,T.keep _ _ _ st5 λb hb o e=>(I7.pin (b,o) (Xf _ (Xf _ (lO hb e)))).1,λb hb=>?_,w7⟩
   obtain⟨o,e,d⟩:=T.obj _ _ st5 b hb
   exact(I7.pin (b,o) (Xf _ (Xf _ (lO hb e)))).2.1
  cases f with
  | next=>obtain⟨σ7,H7,I7,n7⟩:=q7;exact again I7 n7
  | cont=>obtain⟨σ7,H7,I7,n7⟩:=q7;exact again I7 n7
  | brk=>obtain⟨σ7,H7,I7,q7⟩:=q7;exact⟨σ7,H7,I7.unpinned,q7⟩
  | ret v=>obtain⟨x7,σ7,H7,I7,r7,q7⟩:=q7;exact⟨x7,σ7,H7,I7.unpinned,r7,q7⟩
end
abbrev R2:=V->V->Hp->VK->Prop
def OpR(X:Cx)(f:Value->Value->Sem Value)(r:R2):Prop:=
 ∀ (pins:List (Addr×Obj)) (s:Shared) (σ:St) (H:Hp) (x y:V) (v u:Value) (Q:VK),Inv X pins σ H s->RelV x v->RelV y u->r x y H Q ->
  wpAny (model X.prog X.w) X.A (f v u) (EP X pins σ Q) X.xe s
def UnR(X:Cx)(f:Value->Sem Value)(r:V->Hp->VK->Prop):Prop:=
 ∀ (pins:List (Addr×Obj)) (s:Shared) (σ:St) (H:Hp) (x:V) (v:Value) (Q:VK),Inv X pins σ H s->RelV x v->r x H Q ->
  wpAny (model X.prog X.w) X.A (f v) (EP X pins σ Q) X.xe s
def CallR(X:Cx)(f:Value)(r:List V->Hp->VK->Prop):Prop:=
 ∀ (pins:List (Addr×Obj)) (s:Shared) (σ:St) (H:Hp) (xs:List V) (us:List Value) (Q:VK),Inv X pins σ H s->Vals xs us->r xs H Q ->
  wpAny (model X.prog X.w) X.A (call f us) (EP X pins σ Q) X.xe s
def TruR(X:Cx)(r:V->Hp->(Bool->Hp->Prop)->Prop):Prop:=
 ∀ (pins:List (Addr×Obj)) (s:Shared) (σ:St) (H:Hp) (x:V) (v:Value) (Q:Bool->Hp->Prop),Inv X pins σ H s->RelV x v->r x H Q ->
  wpAny (model X.prog X.w) X.A (truthy v) (TP X pins σ Q) X.xe s
def tOp(r:R2)(ta tb:TE):TE:=λσ H Q=>ta σ H λx H1=>tb σ H1 λy H2=>r x y H2 Q
def tUn(r:V->Hp->VK->Prop)(ta:TE):TE:=λσ H Q=>ta σ H λx H1=>r x H1 Q
noncomputable def rI(C:Int->Int->Prop)(g:Int->Int->V):R2:=λx y H Q=>∃ i j,x=.int i/\y=.int j/\C i j/\Q (g i j) H
noncomputable def OB(g:Int->Int->V):R2:=λx y H Q=>∃ i j,x=.int i/\y=.int j/\Q (g i j) H
def rU(g:Int->V):V->Hp->VK->Prop:=λx H Q=>∃ i,x=.int i/\Q (g i) H
section
variable{X:Cx}{a b c:Expr}{ta tb tc:TE}{pos:Pos}
def VY(ha:PE X a ta)(hb:PE X b tb){pins:List (Addr×Obj)}{s:Shared}{σ:St}{H:Hp}{R:V->V->Hp->Prop}(I:Inv X pins σ H s)
  (h:ta σ H λx H1=>tb σ H1 λy H2=>R x y H2) {Q:Value->Shared->Prop} {f:Value->Value->Sem Value}
  (hf:∀ v u s2 x y H2,Inv X pins σ H2 s2->RelV x v->RelV y u->R x y H2->wpAny (model X.prog X.w) X.A (f v u) Q X.xe s2) :
  wpAny (model X.prog X.w) X.A (eval a X.env) (λv s₁=>wpAny (model X.prog X.w) X.A (eval b X.env) (λu s₂=>wpAny (model X.prog X.w) X.A (f v u) Q X.xe s₂) X.xe s₁) X.xe s:=by
 refine dh (ha pins s σ H _ I h) λv s1 ⟨x,H1,I1,r1,q1⟩=>?_
 refine dh (hb pins s1 σ H1 _ I1 q1) λu s2 ⟨y,H2,I2,r2,q2⟩=>?_
 exact hf v u s2 x y H2 I2 r1 r2 q2
def pe_op{op:Operator}{r:R2}(ho:OpR X (binaryOp op) r)(ha:PE X a ta)(hb:PE X b tb):PE X (.BinOp a op b pos) (tOp r ta tb):=by
 intro pins s σ H Q I h
 exact wpAny_BinOp (VY ha hb I h λv u s2 x y H2 I2 rx ry q=>ho pins s2 σ H2 x y v u Q I2 rx ry q)
def pe_un{op:UnaryOp}{r:V->Hp->VK->Prop}(ho:UnR X (unaryOp op) r)(ha:PE X a ta):PE X (.UnaryOp op a pos) (tUn r ta):=by
 intro pins s σ H Q I h
 exact UnaryOp_ (dh (ha pins s σ H _ I h) λv s1 ⟨x,H1,I1,r1,q1⟩=>ho pins s1 σ H1 x v Q I1 r1 q1)
def opI{f:Value->Value->Sem Value}{C:Int->Int->Prop}{g:Int->Int->Int}
  (rule:∀ (i j:Int) (t u:Tok) (s:Shared) (Q:Value->Shared->Prop) (E:Value->Shared->Prop),C i j->Q (.int (g i j) s.toks) { s with toks:=s.toks+1 }->wpAny (model X.prog X.w) X.A (f (.int i t) (.int j u)) Q E s) :
  OpR X f (rI C λi j=>.int (g i j)):=by
 intro pins s σ H x y v u Q I rx ry h
 obtain⟨i,j,rfl,rfl,hc,q⟩:=h
 obtain⟨t,rfl⟩:=rx
 obtain⟨t',rfl⟩:=ry
 exact rule i j t t' s _ _ hc ⟨.int (g i j),H,I.tok _,⟨_,rfl⟩,q⟩
def opI0{f:Value->Value->Sem Value}{g:Int->Int->Int}
  (rule:∀ (i j:Int) (t u:Tok) (s:Shared) (Q:Value->Shared->Prop) (E:Value->Shared->Prop),Q (.int (g i j) s.toks) { s with toks:=s.toks+1 }->wpAny (model X.prog X.w) X.A (f (.int i t) (.int j u)) Q E s) :
  OpR X f (OB λi j=>.int (g i j)):=by
 intro pins s σ H x y v u Q I rx ry h
 obtain⟨i,j,rfl,rfl,q⟩:=h
 obtain⟨t,rfl⟩:=rx
 obtain⟨t',rfl⟩:=ry
 exact rule i j t t' s _ _ ⟨.int (g i j),H,I.tok _,⟨_,rfl⟩,q⟩
def Pn{f:Value->Value->Sem Value}{g:Int->Int->Bool}
  (rule:∀ (i j:Int) (t u:Tok) (s:Shared) (Q:Value->Shared->Prop) (E:Value->Shared->Prop),Q (.bool (g i j)) s->wpAny (model X.prog X.w) X.A (f (.int i t) (.int j u)) Q E s) :
  OpR X f (OB λi j=>.bl (g i j)):=by
 intro pins s σ H x y v u Q I rx ry h
 obtain⟨i,j,rfl,rfl,q⟩:=h
 obtain⟨t,rfl⟩:=rx
 obtain⟨t',rfl⟩:=ry
 exact rule i j t t' s _ _ ⟨.bl (g i j),H,I,rfl,q⟩
def CDiv(i j:Int):Prop:=0<j/\j<1073741824
def CPow(i j:Int):Prop:=0<=j/\j<=1000000/\i.natAbs<2 ^ 64
def TL:OpR X (binaryOp .Add) (OB λi j=>.int (i+j)):=opI0 λ_ _ _ _ _ _ _ q=>add_int q
def TF:OpR X (binaryOp .Sub) (OB λi j=>.int (i - j)):=opI0 λ_ _ _ _ _ _ _ q=>sub_int q
def Pi:OpR X (binaryOp .FloorDiv) (rI CDiv λi j=>.int (i / j)):=opI λi j _ _ _ _ _ hc q=>by
 have h1:(0:Int)<j:=hc.1
 have h2:j<1073741824:=hc.2
 exact floordiv_int (by omega) (by rw [Int.fdiv_eq_ediv_of_nonneg i (by omega)];exact q) (.inl (PyProof.noPylong_small (by omega)))
def TK:OpR X (binaryOp .Mod) (rI (λ_ j=>0<j) λi j=>.int (i % j)):=opI λi j _ _ _ _ _ hc q=>by
 have h1:(0:Int)<j:=hc
 exact mod_int' (by omega) (by rw [Int.fmod_eq_emod_of_nonneg i (by omega)];exact q)
def TJ:OpR X (binaryOp .Pow) (rI CPow λi j=>.int (i ^ j.toNat)):=opI λ_ _ _ _ _ _ _ hc q=>pow_int_small hc.1 hc.2.1 hc.2.2 q
def unI{f:Value->Sem Value}{g:Int->Int}
  (rule:∀ (i:Int) (t:Tok) (s:Shared) (Q:Value->Shared->Prop) (E:Value->Shared->Prop),Q (.int (g i) s.toks) { s with toks:=s.toks+1 }->wpAny (model X.prog X.w) X.A (f (.int i t)) Q E s) :
  UnR X f (rU λi=>.int (g i)):=by
 intro pins s σ H x v Q I rx h
 obtain⟨i,rfl,q⟩:=h
 obtain⟨t,rfl⟩:=rx
 exact rule i t s _ _ ⟨.int (g i),H,I.tok _,⟨_,rfl⟩,q⟩
def SF:UnR X (unaryOp .USub) (rU λi=>.int (-i)):=unI λ_ _ _ _ _ q=>neg_int q
end
section
variable{X:Cx}{a b c:Expr}{ta tb tc:TE}{pos:Pos}
def op_lt:OpR X (compareOp .Lt) (OB λi j=>.bl (decide (i<j))):=Pn λ_ _ _ _ _ _ _ q=>lt_int q
def op_le:OpR X (compareOp .LtE) (OB λi j=>.bl (decide (i<=j))):=Pn λ_ _ _ _ _ _ _ q=>le_int q
def op_gt:OpR X (compareOp .Gt) (OB λi j=>.bl (decide (j<i))):=Pn λ_ _ _ _ _ _ _ q=>gt_int q
def op_ge:OpR X (compareOp .GtE) (OB λi j=>.bl (decide (j<=i))):=Pn λ_ _ _ _ _ _ _ q=>ge_int q
def OpR.or{f:Value->Value->Sem Value}{r r':R2}(h:OpR X f r)(h':OpR X f r'):OpR X f (λx y H Q=>r x y H Q\/r' x y H Q):=by
 intro pins s σ H x y v u Q I rx ry q
 rcases q with q | q
 ·exact h pins s σ H x y v u Q I rx ry q
 ·exact h' pins s σ H x y v u Q I rx ry q
def OY{op:CmpOp}{r:R2}(ho:OpR X (compareOp op) r)(ha:PE X a ta)(hb:PE X b tb)(hm:behindInMarks op b=false):PE X (.Compare a [op] [b] pos) (tOp r ta tb):=by
 intro pins s σ H Q I h
 exact wpAny_Compare1 (VY ha hb I h λv u s2 x y H2 I2 rx ry q=>ho pins s2 σ H2 x y v u Q I2 rx ry q) hm
def RC(t:TE):TT:=λσ H Q=>t σ H λx H'=>∃ k,x=.bl k/\Q k H'
def OI{op:CmpOp}{r:R2}(ho:OpR X (compareOp op) r)(ha:PE X a ta)(hb:PE X b tb)(hm:behindInMarks op b=false):PT X (.Compare a [op] [b] pos) (RC (tOp r ta tb)):=by
 intro pins s σ H Q I h
 refine wpAny_isTrue_Compare1 (dh (ha pins s σ H _ I h) λv s1 ⟨x,H1,I1,r1,q1⟩=>dh (hb pins s1 σ H1 _ I1 q1) λu s2 ⟨y,H2,I2,r2,q2⟩=>
  dh (ho pins s2 σ H2 x y v u _ I2 r1 r2 q2) λc s3 ⟨z,H3,I3,r3,k,e,q3⟩=>?_) hm
 subst e
 cases r3
 exact Yh ⟨H3,I3,q3⟩
def CV(r r':R2)(ta tb tc:TE):TE:=λσ H Q=>ta σ H λx H1=>tb σ H1 λy H2=>r x y H2 λz H3=>∃ k,z=.bl k /\
 (if k=true then tc σ H3 λw' H4=>r' y w' H4 Q else Q (.bl false) H3)
def La{op op':CmpOp}{r r':R2}(ho:OpR X (compareOp op) r)(ho':OpR X (compareOp op') r')(ha:PE X a ta)(hb:PE X b tb)(hc:PE X c tc)
  (hm:lastMarks [op,op'] [b,c]=false:=by with_unfolding_all rfl):PE X (.Compare a [op,op'] [b,c] pos) (CV r r' ta tb tc):=by
 intro pins s σ H Q I h
 refine Compare_chain (dh (ha pins s σ H _ I h) λv s1 ⟨x,H1,I1,r1,q1⟩=>chain_link (dh (hb pins s1 σ H1 _ I1 q1) λu s2 ⟨y,H2,I2,r2,q2⟩=>
  dh (ho pins s2 σ H2 x y v u _ I2 r1 r2 q2) λd s3 ⟨z,H3,I3,r3,k,e,q3⟩=>?_)) hm
 subst e
 cases r3
 refine Yh ?_
 cases k with
 | false=>exact ite_ff ⟨.bl false,H3,I3,rfl,q3⟩
 | true=>exact ite_tt (chain_last (dh (hc pins s3 σ H3 _ I3 q3) λw' s4 ⟨z',H4,I4,r4,q4⟩=>ho' pins s4 σ H4 y z' u w' Q I4 r2 r4 q4))
def KD{op op':CmpOp}{r r':R2}(ho:OpR X (compareOp op) r)(ho':OpR X (compareOp op') r')(ha:PE X a ta)(hb:PE X b tb)(hc:PE X c tc)
  (hm:lastMarks [op,op'] [b,c]=false:=by with_unfolding_all rfl):PT X (.Compare a [op,op'] [b,c] pos) (RC (CV r r' ta tb tc)):=by
 intro pins s σ H Q I h
 refine isTrue_chain (dh (ha pins s σ H _ I h) λv s1 ⟨x,H1,I1,r1,q1⟩=>test_link (dh (hb pins s1 σ H1 _ I1 q1) λu s2 ⟨y,H2,I2,r2,q2⟩=>
  dh (ho pins s2 σ H2 x y v u _ I2 r1 r2 q2) λd s3 ⟨z,H3,I3,r3,k,e,q3⟩=>?_)) hm
 subst e
 cases r3
 refine Yh ?_
 cases k with
 | false=>
  obtain⟨k',e',q'⟩:=q3
  cases e'
  exact ite_ff ⟨H3,I3,q'⟩
 | true=>
  refine ite_tt (test_last (dh (hc pins s3 σ H3 _ I3 q3) λw' s4 ⟨z',H4,I4,r4,q4⟩=>dh (ho' pins s4 σ H4 y z' u w' _ I4 r2 r4 q4) λd' s5 ⟨z2,H5,I5,r5,k2,e2,q5⟩=>?_))
  subst e2
  cases r5
  exact Yh ⟨H5,I5,q5⟩
def Jy(K:W.Frag)(x:V)(H:Hp)(k:Bool):Prop:=
 match x with
 | .non=>k=false
 | .bl b=>k=b
 | .int i=>k=(i != 0)
 | .str y=>y.length<=sizeLine/\k=((y.length:Int) != 0)
 | .byt y=>y.size<=sizeLine/\k=((y.size:Int) != 0)
 | .ref p=>(∃ xs,my K H p xs/\k = !xs.isEmpty)\/(∃ xs,kQ K H p xs/\k = !xs.isEmpty)\/∃ kvs,H p=U (.dK kvs)/\k = !kvs.isEmpty
 | _=>False
def Ez{κ:Type}{kvs:List (κ×V)}{vs:List (κ×Value)}(r:KV kvs vs):(!vs.isEmpty) = !kvs.isEmpty:=by
 cases r <;> rfl
def uQ{xs:List V}{its:List Value}(r:Vals xs its):(!its.toArray.isEmpty) = !xs.isEmpty:=by
 cases r <;> simp
def qS:(sizeLine:Nat)<2 ^ 63:=by rw [ZL];decide
def xY:TruR X (λx H Q=>∃ k,Jy X.K x H k/\Q k H):=by
 intro pins s σ H x v Q I rx h
 obtain⟨k,e,q⟩:=h
 have hl:=qS
 have hs:sizeLine=16777216:=ZL
 cases x with
 | non=>
  cases rx
  have e':k=false:=e
  subst e'
  exact truthy_none ⟨H,I,q⟩
 | bl b=>
  cases rx
  have e':k=b:=e
  subst e'
  exact Yh ⟨H,I,q⟩
 | int i=>
  obtain⟨t,rfl⟩:=rx
  have e':k=(i != 0):=e
  subst e'
  exact PySem.P.truthy_int ⟨H,I,q⟩
 | str y=>
  obtain⟨t,rfl⟩:=rx
  obtain⟨hy,e'⟩:y.length<=sizeLine/\k=((y.length:Int) != 0):=e
  subst e'
  exact PySem.P.truthy_str (by omega) ⟨H,I.tok _,q⟩
 | byt y=>
  obtain⟨t,rfl⟩:=rx
  obtain⟨hy,e'⟩:y.size<=sizeLine/\k=((y.size:Int) != 0):=e
  subst e'
  exact W.truthy_bytes (by omega) ⟨H,I.tok _,q⟩
 | ref p=>
  cases rx
  have e':(∃ xs,my X.K H p xs/\k = !xs.isEmpty)\/(∃ xs,kQ X.K H p xs/\k = !xs.isEmpty)\/∃ kvs,H p=U (.dK kvs)/\k = !kvs.isEmpty:=e
  rcases e' with ⟨xs,hx,e'⟩ | ⟨xs,hx,e'⟩ | ⟨kvs,hx,e'⟩
  ·subst e'
   obtain⟨its,r,pl,hz⟩:=I.list hx
   have hlen:=r.length
   exact wpAny_truthy_list pl.isList (by simp only [Wt];omega) ⟨H,I.tok _,by rw [uQ r];exact q⟩
  ·subst e'
   obtain⟨its,r,pl,hz⟩:=I.tuple hx
   have hlen:=r.length
   exact truthy_tuple pl (by simp only [Wt];omega) ⟨H,I.tok _,by rw [uQ r];exact q⟩
  ·subst e'
   obtain⟨hz,hS,vs,r,m⟩:kvs.length<=sizeLine/\(p == sysModules)=false/\∃ vs,KV kvs vs/\s.heap.DictOf (bQ X.prog X.w) p vs:=I.hok p _ hx
   have hlen:kvs.length=vs.length:=aab r
   exact wpAny_truthy_dict hS m (by omega) ⟨H,I.tok _,by rw [Ez r];exact q⟩
 | _=>exact(show False from e).elim
def KC(ha:PE X a ta)(he:∀ whole,isTrue a X.env whole=(do let v <- whole;standAt a.pos;holding [v] (truthy v))) :
  PT X a (λσ H Q=>ta σ H λx H'=>∃ k,Jy X.K x H' k/\Q k H'):=by
 intro pins s σ H Q I h
 exact isTrue_plain (dh (ha pins s σ H _ I h) λv s1 ⟨x,H1,I1,r1,q1⟩=>xY pins s1 σ H1 x v Q I1 r1 q1) (he _)
def Dw:OpR X (binaryOp .Add) (λx y H Q=>∃ i j,x=.str i/\y=.str j/\i.length+j.length<=sizeLine/\Q (.str (i++j)) H):=by
 intro pins s σ H x y v u Q I rx ry h
 obtain⟨i,j,rfl,rfl,hz,q⟩:=h
 obtain⟨t,rfl⟩:=rx
 obtain⟨t',rfl⟩:=ry
 exact add_str (λt' tk=>⟨.str (i++j),H,I.tok _,⟨_,rfl⟩,q⟩) hz
def pq{x:V}{us:List Value}(r:Vals [x] us):∃ u,us=[u]/\RelV x u:=by
 cases r with
 | cons r1 r2=>cases r2;exact⟨_,rfl,r1⟩
def JS{x y:V}{us:List Value}(r:Vals [x,y] us):∃ u w',us=[u,w']/\RelV x u/\RelV y w':=by
 cases r with
 | cons r1 r2=>
  cases r2 with
  | cons r3 r4=>cases r4;exact⟨_,_,rfl,r1,r3⟩
def Jr(hc:X.calm=true):CallR X (.builtin "max") (λxs H Q=>∃ i j,xs=[.int i,.int j]/\Q (.int (if j>i then j else i)) H):=by
 intro pins s σ H xs us Q I r h
 obtain⟨i,j,rfl,q⟩:=h
 obtain⟨u,w',rfl,⟨t,rfl⟩,⟨t',rfl⟩⟩:=JS r
 refine max_two_ints (I.ok.hd hc) λh' tk k=>⟨_,H,I.kept k,?_,q⟩
 by_cases hj:j>i
 ·rw [WI hj,WI hj];exact⟨_,rfl⟩
 ·rw [if_neg hj,if_neg hj];exact⟨_,rfl⟩
def Jp(hc:X.calm=true):CallR X (.builtin "min") (λxs H Q=>∃ i j,xs=[.int i,.int j]/\Q (.int (if j<i then j else i)) H):=by
 intro pins s σ H xs us Q I r h
 obtain⟨i,j,rfl,q⟩:=h
 obtain⟨u,w',rfl,⟨t,rfl⟩,⟨t',rfl⟩⟩:=JS r
 refine min_two_ints (I.ok.hd hc) λh' tk k=>⟨_,H,I.kept k,?_,q⟩
 by_cases hj:j<i
 ·rw [WI hj,WI hj];exact⟨_,rfl⟩
 ·rw [if_neg hj,if_neg hj];exact⟨_,rfl⟩
def Js:CallR X (.type "int") (λxs H Q=>(∃ i,xs=[.int i]/\Q (.int i) H)\/∃ k,xs=[.bl k]/\Q (.int (if k then 1 else 0)) H):=by
 intro pins s σ H xs us Q I r h
 rcases h with ⟨i,rfl,q⟩ | ⟨k,rfl,q⟩
 ·obtain⟨u,rfl,t,rfl⟩:=pq r
  exact call_int_int ⟨.int i,H,I,⟨_,rfl⟩,q⟩
 ·obtain⟨u,rfl,r1⟩:=pq r
  cases r1
  exact call_int_bool ⟨.int (if k then 1 else 0),H,I.tok _,⟨_,rfl⟩,q⟩
end
section
variable{prog:Program}{w:World}{A:Around}{E:Value->Shared->Prop}{s:Shared}{K:W.Frag}{x dx C f:Addr}{mA:Str->Option Value}{name:Str}{v:Value}
end
def RelO.some_of{v:V}{o:Option Value}(r:RelO (U v) o):∃ u,o=U u/\RelV v u:=by
 cases o with
 | none=>exact(show False from r).elim
 | some u=>exact⟨u,rfl,r⟩
section
variable{P:Program}{w:World}{H H':Hp}{h h':Heap}{a C dx:Addr}{fs fs':List (Str×V)}
end
section
variable{X:Cx}{pins:List (Addr×Obj)}{σ:St}{H:Hp}{s:Shared}{a C dx:Addr}{fs:List (Str×V)}{f:Str}{v:V}{A:Around}{E:Value->Shared->Prop}
end
section
variable{X:Cx}{o e value:Expr}{f:Str}{pos pos' tpos:Pos}{ta tv:TE}
end
section
variable{X:Cx}{pins:List (Addr×Obj)}{σ:St}{H:Hp}{s:Shared}{A:Around}{E:Value->Shared->Prop}{Q:Value->Shared->Prop}{c:Value}{b:Bool}
end
structure Room(k:Nat)(A:Around):Prop where
 hd:A.handled=Y
 dp:A.depth+3 * k+5<recursionLimit
 un:A.units+16 * k+200<cLine
def Room.mono{j k:Nat}{A:Around}(r:Room k A)(h:j<=k):Room j A:=⟨r.hd,by have:=r.dp;omega,by have:=r.un;omega⟩
theorem Room.deeper{k:Nat}{A:Around}(r:Room (k+1) A)(env:Env):Room k (A.deeper env):=
 ⟨r.hd,by have:=r.dp;show A.depth+1+3 * k+5<_;omega,by have:=r.un;show A.units+3+16 * k+200<_;omega⟩
theorem Room.depth{k:Nat}{A:Around}(r:Room k A):A.depth<recursionLimit:=by have:=r.dp;omega
theorem Room.units{k:Nat}{A:Around}(r:Room k A):A.units+64<cLine:=by have:=r.un;omega
def tNil:TA:=λ_ H Q=>Q [] H
def tCons(ta:TE)(tr:TA):TA:=λσ H Q=>ta σ H λx H1=>tr σ H1 λxs H2=>Q (x::xs) H2
section
variable{X:Cx}{e:Expr}{es:List Expr}{te:TE}{t:TA}{pos:Pos}
def Le:PA X [] tNil:=λ_ _ _ _ H Q I h=>Calls.spliced_nil ⟨[],H,I,.nil,h⟩
def yA(ha:PE X e te)(hr:PA X es t)(hs:starEach (e::es) X.env=(false,eval e X.env)::starEach es X.env:=by rfl):PA X (e::es) (tCons te t):=by
 intro pos pins s σ H Q I h
 rw [hs]
 show wpAny _ _ (spliced ((false,eval e X.env)::backTo pos (starEach es X.env))) _ _ s
 refine aaN (dh (ha pins s σ H _ I h) λu s1 ⟨x,H1,I1,r1,q1⟩=>?_)
 exact dh (hr pos pins s1 σ H1 _ I1 q1) λus s2 ⟨xs,H2,I2,r2,q2⟩=>⟨x::xs,H2,I2,.cons r1 r2,q2⟩
def tTup(t:TA):TE:=λσ H Q=>t σ H λxs H1=>xs.length<=sizeLine/\∀ p,H1 p=Y->Q (.ref p) (upd H1 p (.tup xs))
def tLst(t:TA):TE:=λσ H Q=>t σ H λxs H1=>xs.length<=sizeLine/\∀ p,H1 p=Y->Q (.ref p) (upd H1 p (.lst xs))
def Tq{x1}(h:PA X es t):PE X (.Tuple es x1 pos) (tTup t):=by
 intro pins s σ H Q I hq
 refine wpAny_Tuple_spliced (dh (h pos pins s σ H _ I hq) λus s1 ⟨xs,H1,I1,r,z,q⟩=>⟨by rw [<- r.length];exact z,?_⟩)
 have hf:H1 s1.heap.objs.size=Y:=I1.hok.fresh (WD _)
 refine⟨.ref s1.heap.objs.size,upd H1 s1.heap.objs.size (.tup xs),I1.laid (t':=s1.toks) (λb u e=>Wp _ e) (WD _) ?_,rfl,q _ hf⟩
 exact⟨z,us,r,⟨_,WF _ rfl,rfl,⟨_,rfl⟩,rfl⟩⟩
def KS(h:PA X es t):PE X (.List es pos) (tLst t):=by
 intro pins s σ H Q I hq
 refine wpAny_List_spliced (dh (h pos pins s σ H _ I hq) λus s1 ⟨xs,H1,I1,r,z,q⟩=>⟨by rw [<- r.length];exact z,?_⟩)
 have hf:H1 s1.heap.objs.size=Y:=I1.hok.fresh (WD _)
 refine⟨.ref s1.heap.objs.size,upd H1 s1.heap.objs.size (.lst xs),I1.laid (t':=s1.toks) (λb u e=>Wp _ e) (WD _) ?_,rfl,q _ hf⟩
 exact⟨z,us,0,r,WF _ rfl⟩
end
abbrev Sp:=List V->Hp->VK->XK->Prop
abbrev JH:=List Env->Hp->Shared->XK->Value->Shared->Prop
structure RB(P:Program)(w:World)(K:W.Frag)(mg:Str->Option Value)(base:Heap)(A:Around)(outer:List Env)(s:Shared)(H:Hp):Prop where
 frames:A.frames=U outer
 mod:Mod K mg base
 bs:∀ b o,base.get? b=U o->s.heap.get? b=U o/\H b=Y
 bsz:base.objs.size<=s.heap.objs.size
 funs:s.heap.FunFrames base outer
 frf:∀ b∈JG outer,H b=Y
 hok:HOk P w H s.heap
 bare:AllBare s.gens
def CE(outer:List Env)(P:Program)(w:World)(H:Hp)(s:Shared)(Q:VK)(u:Value)(s':Shared):Prop:=
 ∃ v H',s'.os=s.os/\AllBare s'.gens/\Un (JG outer) [] H H' s.heap s'.heap/\HOk P w H' s'.heap/\RelV v u/\Q v H'
def CR(CX:JH)(outer:List Env)(P:Program)(w:World)(H:Hp)(s:Shared)(Q:VK)(E:XK)(r:Result)(s':Shared):Prop:=
 match r with
 | .ok (.ret u)=>CE outer P w H s Q u s'
 | .ok _=>False
 | .error e=>CX outer H s E e s'
structure FnOk(P:Program)(w:World)(K:W.Frag)(mg:Str->Option Value)(base:Heap)(CX:JH)(k:Nat)(f:Addr)(fd:FuncData)(ps:List Str)(sp:Sp):Prop where
 len:∀ vs H Q E,sp vs H Q E->vs.length=ps.length
 run:∀ (A:Around) (outer:List Env) (s:Shared) (H:Hp) (args:Args) (us:List Value) (vs:List V) (Q:VK) (E:XK),Room k A->RB P w K mg base A outer s H->BindsTo s fd args (ps.zip us)->Vals vs us->sp vs H Q E ->
  codeAny (model P w) A (.call (.ref f) args) (CR CX outer P w H s Q E) s
theorem FnOk.mono{P:Program}{w:World}{K:W.Frag}{mg:Str->Option Value}{base:Heap}{CX:JH}{j k:Nat}{f:Addr}{fd:FuncData}{ps:List Str}{sp:Sp}(F:FnOk P w K mg base CX j f fd ps sp)(h:j<=k) :
  FnOk P w K mg base CX k f fd ps sp:=⟨F.len,λA outer s H args us vs Q E hr=>F.run A outer s H args us vs Q E (hr.mono h)⟩
section
variable{X:Cx}{pins:List (Addr×Obj)}{σ:St}{H:Hp}{s s':Shared}
def Inv.env0(I:Inv X pins σ H s):RB X.prog X.w X.K X.mg X.base X.A X.stack s H:=
 ⟨I.ok.frames,I.ok.mod,I.bs,WT I.ok.bsz I.sz,I.stack,I.stkFree,I.hok,I.bare⟩
def Inv.after{Q:VK}{u:Value}(I:Inv X pins σ H s)(h:CE X.stack X.prog X.w H s Q u s'):EP X pins σ Q u s':=by
 obtain⟨v,H',os,bare,un,hok,r,q⟩:=h
 obtain⟨hh,g,d,t,os'⟩:=s'
 obtain rfl:os'=s.os:=os
 exact⟨v,H',I.call (h':=hh) (g':=g) (d':=d) (t':=t) (ch:=[]) un hok bare (λb z=>absurd z (by simp)),r,q⟩
end
def Fy(sp:Sp)(dvs:List V)(E:XK)(t:TA):TE:=λσ H Q=>t σ H λvs H1=>sp (vs++dvs) H1 Q E
def Binds(K:W.Frag)(fd:FuncData)(ps:List Str)(ds:List Value):Prop:=
 ∀ (s:Shared) (us:List Value),K.In s.heap->(us++ds).length=ps.length->BindsTo s fd ⟨us,[]⟩ (ps.zip (us++ds))
def Binds.all{K:W.Frag}{fd:FuncData}{ps:List Str}(h:∀ us:List Value,us.length=ps.length->bindArgs fd ⟨us,[]⟩=pure (ps.zip us)):Binds K fd ps []:=λs us _ hl=>by
 rw [WS] at hl ⊢
 exact .of_eq (h us hl)
def zZ(CX:JH)(X:Cx)(E:XK):Prop:=∀ (pins:List (Addr×Obj)) (σ:St) (H:Hp) (s:Shared) (e:Value) (s':Shared),Inv X pins σ H s->CX X.stack H s E e s'->X.xe e s'
section
variable{X:Cx}{CX:JH}{k:Nat}{f C:Addr}{fd:FuncData}{ps:List Str}{sp:Sp}{dvs:List V}{ds:List Value}{E:XK}{x m:Str}{p pos apos:Pos}{e o:Expr}{es:List Expr}{ta:TE}{t:TA}
def Dn{pins:List (Addr×Obj)}{σ:St}{H:Hp}{s:Shared}{Q:VK}{us:List Value}{vs:List V}(F:FnOk X.prog X.w X.K X.mg X.base CX k f fd ps sp)(hr:Room k X.A)(hb:Binds X.K fd ps ds)(hd:Vals dvs ds)(hx:zZ CX X E)
  (I:Inv X pins σ H s) (r:Vals vs us) (h:sp (vs++dvs) H Q E):wpAny (model X.prog X.w) X.A (call (.ref f) us) (EP X pins σ Q) X.xe s:=by
 have r2:Vals (vs++dvs) (us++ds):=r.append hd
 have hl:(us++ds).length=ps.length:=by rw [<- r2.length];exact F.len _ _ _ _ h
 refine wpAny_call (YG (F.run X.A X.stack s H ⟨us,[]⟩ (us++ds) (vs++dvs) Q E hr I.env0 (hb s us I.kIn hl) r2 h) λr s' hq=>?_)
 cases r with
 | error e=>exact hx pins σ H s e s' I hq
 | ok fl=>
  cases fl with
  | ret u=>exact I.after hq
  | next=>exact False.elim hq
  | brk=>exact False.elim hq
  | cont=>exact False.elim hq
def OZ(F:FnOk X.prog X.w X.K X.mg X.base CX k f fd ps sp)(hr:Room k X.A)(hg:Gl X x)(hm:X.mg x=U (.ref f))(hk:W.keepIn X.K (.ref f)=true)(hb:Binds X.K fd ps ds)(hd:Vals dvs ds)(hx:zZ CX X E)
  (ha:PA X (e::es) t) (hdb:(x == ("__debug__":Str))=false:=by decide) (he:starEach (e::es) X.env=(false,eval e X.env)::starEach es X.env:=by rfl) (hpl:(backTo pos (starEach es X.env)).any (·.1)=false:=by rfl) :
  PE X (.Call (.Name x p) (e::es) [] pos) (Fy sp dvs E t):=by
 intro pins s σ H Q I h
 refine Yq (ze I hg hm ?_ hdb)
 refine W.callWith_K (h₀:=X.base) I.ok.mod.kin hk (dh (ha pos pins s σ H _ I h) λus s1 ⟨vs,H1,I1,r,q⟩=>⟨I1.kIn,?_⟩) he hpl
 exact Dn F hr hb hd hx I1 r q
def Lc(F:FnOk X.prog X.w X.K X.mg X.base CX k f fd ps sp)(hr:Room k X.A)(hg:Gl X x)(hm:X.mg x=U (.ref f))(hk:W.keepIn X.K (.ref f)=true)(hb:Binds X.K fd ps ds)(hd:Vals dvs ds)(hx:zZ CX X E)
  (hdb:(x == ("__debug__":Str))=false:=by decide):PE X (.Call (.Name x p) [] [] pos) (Fy sp dvs E tNil):=by
 intro pins s σ H Q I h
 refine Yq (ze I hg hm ?_ hdb)
 exact W.callWith_K0 I.kIn hk (Dn (us:=[]) F hr hb hd hx I .nil h)
end
section
variable{X:Cx}{CX:JH}{k:Nat}{f C:Addr}{fd:FuncData}{ps ks:List Str}{sp:Sp}{E:XK}{x m:Str}{p pos apos kpos:Pos}{e o:Expr}{es:List Expr}{kws:List Keyword}{te ta:TE}{t tk:TA}{nm:Option Str}
variable{g:List Value->List Value->List Value}{gV:List V->List V->List V}
end
structure aV(N P:List Str)(sc:Scope):Prop where
 kind:sc.kind=.function
 co:sc.isCoroutine=false
 gen:sc.isGenerator=false
 nd:N.Nodup
 pre:N.take P.length=P
 par:∀ x∈P,sc.names.lookup x=U .local\/sc.names.lookup x=U .cell
 nofree:∀ y∈sc.names,y.2≠.free
theorem xQ{kindOf:Str->Option NameKind}{x:Str}:∀ {binds:List (Str×Value)} {m:Str->Option Value},(∀ v,(x,v) ∉ binds)->bindL kindOf binds m x=m x
 | [],_,_=>rfl
 | (n,v)::r,m,h=>by
  unfold bindL
  rw [xQ λw hw=>h w (Wu _ hw)]
  split
  ·have:x≠n:=by rintro rfl;exact h v Wr
   simp [this]
  ·rfl
theorem xS{kindOf:Str->Option NameKind}{x:Str}:∀ {binds:List (Str×Value)} {m:Str->Option Value},(∀ v,(x,v) ∉ binds)->bindC kindOf binds m x=m x
 | [],_,_=>rfl
 | (n,v)::r,m,h=>by
  unfold bindC
  rw [xS λw hw=>h w (Wu _ hw)]
  split
  ·rfl
  ·have:x≠n:=by rintro rfl;exact h v Wr
   simp [this]
theorem xR{kindOf:Str->Option NameKind}{x:Str}{v:Value}:∀ {P:List Str} {vs:List Value} {i:Nat} {m:Str->Option Value},P.Nodup->P[i]?=U x->vs[i]?=U v->kindOf x=U .local ->
  bindL kindOf (P.zip vs) m x=U v
 | [],_,_,_,_,h,_,_=>by simp at h
 | _::_,[],_,_,_,_,h,_=>by simp at h
 | p::P,w::vs,0,m,nd,h1,h2,hk=>by
  simp at h1 h2;subst h1;subst h2
  show bindL kindOf ((p,w)::P.zip vs) m p=_
  unfold bindL
  rw [xQ λv hv=>(XU.mp nd).1 (ZO hv).1,WI hk]
  simp
 | p::P,w::vs,i+1,m,nd,h1,h2,hk=>by
  show bindL kindOf ((p,w)::P.zip vs) m x=_
  unfold bindL
  exact xR (i:=i) (XU.mp nd).2 (by simpa using h1) (by simpa using h2) hk
theorem xT{kindOf:Str->Option NameKind}{x:Str}{v:Value}:∀ {P:List Str} {vs:List Value} {i:Nat} {m:Str->Option Value},P.Nodup->P[i]?=U x->vs[i]?=U v->kindOf x≠U .local ->
  bindC kindOf (P.zip vs) m x=U v
 | [],_,_,_,_,h,_,_=>by simp at h
 | _::_,[],_,_,_,_,h,_=>by simp at h
 | p::P,w::vs,0,m,nd,h1,h2,hk=>by
  simp at h1 h2;subst h1;subst h2
  show bindC kindOf ((p,w)::P.zip vs) m p=_
  unfold bindC
  rw [xS λv hv=>(XU.mp nd).1 (ZO hv).1,if_neg hk]
  simp
 | p::P,w::vs,i+1,m,nd,h1,h2,hk=>by
  show bindC kindOf ((p,w)::P.zip vs) m x=_
  unfold bindC
  exact xT (i:=i) (XU.mp nd).2 (by simpa using h1) (by simpa using h2) hk
noncomputable def start(N:List Str)(vs:List V):St:=vs.map U++List.replicate (N.length - vs.length) Y
noncomputable def wz(CX:JH)(P:Program)(w:World)(K:W.Frag)(mg:Str->Option Value)(base:Heap)(N:List Str)(qual:Str)(scope:Scope)(f:Addr)(cd:Value)(A:Around)(outer:List Env)(s:Shared)(H:Hp)(E:XK):Cx where
 prog:=P
 w:=w
 K:=K
 mg:=mg
 base:=base
 A:=A.deeper (envOfC qual scope s.heap.objs.size f cd)
 N:=N
 s₀:=s
 H₀:=H
 env:=envOfC qual scope s.heap.objs.size f cd
 outer:=outer
 stack:=envOfC qual scope s.heap.objs.size f cd::outer
 ex:=[]
 calm:=true
 fn:=λ_=>true
 pn:=[]
 xe:=λe s'=>wpAny (model P w) (A.deeper (envOfC qual scope s.heap.objs.size f cd)) (leaving (envOfC qual scope s.heap.objs.size f cd) e) (λ_ s''=>CX outer H s E e s'') (λe' s''=>CX outer H s E e' s'') s'
def CA{sc:Scope}{n:Nat}{x:Str}(h:sc.names.lookup x=U .cell):∃ c,(cellsFrom n sc.names []).lookup x=U c:=by
 have q:=W.cellsFrom_some sc.names n [] (.inl h)
 exact XT.mp q
def Iw{CX:JH}{P:Program}{w:World}{K:W.Frag}{mg:Str->Option Value}{base:Heap}{N ps:List Str}{qual:Str}{scope:Scope}{f:Addr}{cd:Value}{A:Around}{outer:List Env}{s s1:Shared}{H:Hp}{E:XK}{us:List Value}{vs:List V}
  (S:aV N ps scope) (hd:A.handled=Y) (e0:RB P w K mg base A outer s H) (hl:vs.length=ps.length) (r:Vals vs us)
  (x:InCallC s s.heap.objs.size (bindL (envOfC qual scope s.heap.objs.size f cd).kindOf (ps.zip us) λ_=>Y) (cellsFrom (s.heap.objs.size+1) scope.names []) (bindC (envOfC qual scope s.heap.objs.size f cd).kindOf (ps.zip us) λ_=>Y) s1) :
  Inv (wz CX P w K mg base N qual scope f cd A outer s H E) [] (start N vs) H s1:=by
 have hpl:ps.length<=N.length:=by have:=congrArg List.length S.pre;rw [Yb] at this;omega
 obtain⟨h1,tk,rfl,hk⟩:=x.done
 have noA:∀ b:Addr,b ∉ (wz CX P w K mg base N qual scope f cd A outer s H E).ex:=λb z=>absurd (show b∈([]:List Addr) from z) (by simp)
 refine⟨⟨e0.mod,S.kind,rfl,rfl,WD _,λy z c h1 h2=>?_,λy hy=>?_,λy c _ h=>?_,λ_=>hd,Around.frames_deeper e0.frames,.inr ⟨rfl,rfl⟩,λb z=>absurd z (noA b),e0.bs,e0.bsz,λb _ _=>noA b,λb z=>absurd z (noA b),e0.funs,e0.frf⟩,
  rfl,e0.bare,Un.kept hk,⟨_,x.toInCall.ns,λi y v h1 h2 h3=>?_⟩,λy c h=>⟨_,x.cell y c h⟩,e0.hok.fresh (WD _),λy c h=>?_,λp hp=>absurd (show p∈([]:List (Addr×Obj)) from hp) (by simp),e0.hok.kept hk,?_⟩
 ·exact name_of_addr x.apart (XX h1) (XX h2)
 ·have hy:scope.names.lookup y=U .cell\/scope.names.lookup y=U .free:=hy
  rcases hy with hy | hy
  ·exact CA hy
  ·exact absurd rfl (S.nofree _ (XX hy))
 ·exact aao (x.above y c (XX h))
 ·have hi:i<vs.length:=by
   unfold start at h2
   by_cases hi:i<vs.length
   ·exact hi
   ·rw [Xg (by simpa using hi)] at h2
    rw [List.getElem?_replicate] at h2
    split at h2 <;> cases h2
  have ha:vs[i]?=U v:=by
   unfold start at h2
   rw [WE (by simpa using hi),XV] at h2
   cases e:vs[i]? with
   | none=>rw [e] at h2;cases h2
   | some a=>rw [e] at h2;cases h2;rfl
  obtain⟨u,hu,rv⟩:=r.get ha
  have hp:ps[i]?=U y:=by
   rw [<- S.pre,ZY (by omega)];exact h1
  have ndP:ps.Nodup:=by rw [<- S.pre];exact S.nd.sublist (List.take_sublist _ _)
  refine⟨u,rv,?_⟩
  rcases S.par y (WN hp) with k | k
  ·exact .inl ⟨k,xR ndP hp hu k⟩
  ·obtain⟨c,e⟩:=CA (n:=s.heap.objs.size+1) k
   refine .inr ⟨.inl k,c,e,?_⟩
   have q:=x.cell y c e
   rw [xT ndP hp hu (by show scope.names.lookup y≠_;rw [k];decide)] at q
   exact q
 ·exact e0.hok.fresh (aao (x.above y c (XX h)))
 ·unfold start
  show _=N.length
  rw [WB,Ww,List.length_replicate]
  omega
def fn_of{CX:JH}{P:Program}{w:World}{K:W.Frag}{mg:Str->Option Value}{base:Heap}{k:Nat}{f:Addr}{name qual:Str}{params:Arguments}{body:List Stmt}{scope:Scope}{dV kV doc pm cdv ct oc:Value}{an od:Option Addr}
  {osl:Array (Option Value)} {N ps:List Str} {sp:Sp} (lk:K.lookup f=U ⟨oc,od,.func (W.fnOf name qual params body scope dV kV doc pm an cdv ct),osl⟩) (hcd:W.codeIn K cdv qual=true) (S:aV N ps scope)
  (len:∀ vs H Q E,sp vs H Q E->vs.length=ps.length)
  (hbody:∀ (A:Around) (outer:List Env) (s:Shared) (H:Hp) (vs:List V) (Q:VK) (E:XK),Room k (A.deeper (envOfC qual scope s.heap.objs.size f cdv))->sp vs H Q E ->
   ∃ t,PSs (wz CX P w K mg base N qual scope f cdv A outer s H E) body t/\t { nx:=λ_ H'=>Q .non H',rt:=Q } (start N vs) H) :
  FnOk P w K mg base CX (k+1) f (W.fnOf name qual params body scope dV kV doc pm an cdv ct) ps sp:=by
 refine⟨len,λA outer s H args us vs Q E hr e0 hb r hsp=>?_⟩
 have hl:=len _ _ _ _ hsp
 have KX:K.In s.heap:=e0.mod.kin.keeps λb o e=>(e0.bs b o e).1
 have lim:s.heap.NoLimit:=e0.mod.nolimit.keeps λb o e=>(e0.bs b o e).1
 have hkind:∀ y∈ps.zip us,scope.names.lookup y.1=U .local\/(scope.names.lookup y.1=U .cell/\((cellsFrom (s.heap.objs.size+1) scope.names []).lookup y.1).isSome=true):=λ⟨n,v⟩ hy=>by
  rcases S.par n (ZO hy).1 with q | q
  ·exact .inl q
  ·exact .inr ⟨q,W.cellsFrom_some _ _ _ (.inl q)⟩
 refine codeAny_call_function hr.depth (KX _ _ lk) rfl S.co S.gen rfl (W.codeRec_of KX hcd) (hb _ _ _ _ ?_)
 refine wpAny_newFunctionEnv_cells S.kind hkind λenv he s1 x=>?_
 subst he
 refine⟨lim.keeps x.toInCall.keep,codeAny_func ?_⟩
 obtain⟨t,ht,hq⟩:=hbody A outer s H vs Q E (hr.deeper _) hsp
 have I:Inv (wz CX P w K mg base N qual scope f cdv A outer s H E) [] (start N vs) H s1:=Iw S hr.hd e0 hl r x
 refine Xk (ht [] s1 (start N vs) H _ I hq) (λfl s' hs=>?_) λe s' hs=>hs
 have fin:∀ {σ':St} {H':Hp} {v:V} {u:Value},Inv (wz CX P w K mg base N qual scope f cdv A outer s H E) [] σ' H' s'->RelV v u->Q v H'->CE outer P w H s Q u s':=
  λ{σ' H' v u} J rv q=>⟨v,H',J.os,J.bare,J.base,J.hok,rv,q⟩
 cases fl with
 | ret u=>
  obtain⟨v,σ',H',J,rv,q⟩:=hs
  exact fin J rv q
 | next=>
  obtain⟨σ',H',J,q⟩:=hs
  exact fin (v:=V.non) (u:=Value.none) J rfl q
 | brk=>
  obtain⟨_,_,_,q⟩:=hs
  exact False.elim q
 | cont=>
  obtain⟨_,_,_,q⟩:=hs
  exact False.elim q
section
variable{X:Cx}{x:Str}{p pos:Pos}{e:Expr}{es:List Expr}{t:TA}{id T:String}{r:List V->Hp->VK->Prop}
def tCB(r:List V->Hp->VK->Prop)(t:TA):TE:=λσ H Q=>t σ H λvs H1=>r vs H1 Q
def AI(hc:CallR X (.builtin id) r)(hg:Gl X x)(hm:X.mg x=Y)(hv:bootBuiltins x=U (.builtin id))(ha:PA X (e::es) t)(hn:x ≠ "__name__":=by decide)(hdb:(x == ("__debug__":Str))=false:=by decide)
  (he:starEach (e::es) X.env=(false,eval e X.env)::starEach es X.env:=by rfl) (hpl:(backTo pos (starEach es X.env)).any (·.1)=false:=by rfl):PE X (.Call (.Name x p) (e::es) [] pos) (tCB r t):=by
 intro pins s σ H Q I h
 refine Yq (kH I hg hm hv ?_ hn hdb)
 exact PyProof.Rows.callWith_builtin1 (dh (ha pos pins s σ H _ I h) λus s1 ⟨vs,H1,I1,r1,q1⟩=>hc pins s1 σ H1 vs us Q I1 r1 q1) he hpl
def HA(hc:CallR X (.type T) r)(hg:Gl X x)(hm:X.mg x=Y)(hv:bootBuiltins x=U (.type T))(ha:PA X (e::es) t)(hn:x ≠ "__name__":=by decide)(hdb:(x == ("__debug__":Str))=false:=by decide)
  (he:starEach (e::es) X.env=(false,eval e X.env)::starEach es X.env:=by rfl) (hpl:(backTo pos (starEach es X.env)).any (·.1)=false:=by rfl):PE X (.Call (.Name x p) (e::es) [] pos) (tCB r t):=by
 intro pins s σ H Q I h
 refine Yq (kH I hg hm hv ?_ hn hdb)
 exact Xe (dh (ha pos pins s σ H _ I h) λus s1 ⟨vs,H1,I1,r1,q1⟩=>hc pins s1 σ H1 vs us Q I1 r1 q1) he hpl
end
end L2
namespace HT
section
open PySem.SeqAt
open PySem.AutoSeq1 (wpAny_loadPart')
open PySem.MeetsSeq PySem.MeetsSeq2 PySem.MeetsSeq3
end
section
variable{prog:Program}{w:World}{A:Around}{E:Value->Shared->Prop}{s:Shared}
def Re{t b:Addr}{vs ws:List Value}{Q:Value->Shared->Prop}(ht:IsTup s.heap t vs.toArray)(hb:IsTup s.heap b ws.toArray)(hv:vs≠[])
  (h1:ws=[]->Q (.ref t) s) (h2:ws≠[]->Q (.ref s.heap.objs.size) { s with heap:=s.heap.push { cls:=.type "tuple",data:=.seq (vs++ws).toArray } })
  (hsz:vs.length+ws.length<=sizeLine):wpAny (model prog w) A (binaryOp .Add (.ref t) (.ref b)) Q E s:=by
 obtain⟨⟨cls,dd,data,sl⟩,ho,hc,n,hd⟩:=id ht
 obtain⟨⟨cls2,dd2,data2,sl2⟩,ho2,hc2,n2,hd2⟩:=id hb
 simp only at hc hd hc2 hd2
 subst hc hd hc2 hd2
 have e:vs.toArray++ws.toArray=(vs++ws).toArray:=by simp
 by_cases hw:ws=[]
 ·exact aam ⟨_,ho,rfl⟩ ⟨_,ho2,rfl⟩ ZB aaa ZF Zw (Zs _ _)
   (tuple_addW1 t b vs.toArray ws.toArray n n2 dd dd2 sl sl2 (by simpa using hv) (by simp [hw])) ⟨ho,ho2,h1 hw⟩
 ·refine aam ⟨_,ho,rfl⟩ ⟨_,ho2,rfl⟩ ZB aaa ZF Zw (Zs _ _)
   (tuple_addW2 t b vs.toArray ws.toArray n n2 dd dd2 sl sl2 (by simpa using hv) (by simpa using hw) (by rw [Wt,Wt];exact hsz)) ⟨ho,ho2,?_⟩
  rw [e]
  exact h2 hw
noncomputable def fH(n d:Nat):Option Int->Nat
 | none=>d
 | some v=>if v<0 then (v+(n:Int)).toNat else min v.toNat n
def sIx_nat(n d k:Nat):fH n d (U (k:Int))=min k n:=by
 show (if (k:Int)<0 then ((k:Int)+(n:Int)).toNat else min (k:Int).toNat n)=min k n
 rw [if_neg (by omega),Xr]
def SX(n d:Nat)(hd:d<=n)(o:Option Int):fH n d o<=n:=by
 cases o with
 | none=>exact hd
 | some v=>
  show (if v<0 then (v+(n:Int)).toNat else min v.toNat n)<=n
  by_cases hv:v<0
  ·rw [WI hv];omega
  ·rw [if_neg hv];exact Nat.min_le_right _ _
def GF(v:Int)(n d:Nat):(if v<0 then max (v+(n:Int)) 0 else min v (n:Int))=((fH n d (U v):Nat):Int):=by
 show (if v<0 then max (v+(n:Int)) 0 else min v (n:Int))=(((if v<0 then (v+(n:Int)).toNat else min v.toNat n):Nat):Int)
 by_cases hv:v<0
 ·simp only [WI hv];omega
 ·simp only [if_neg hv];omega
def Fj(lo hi:Option Int)(n:Nat):Builtin.Slice.sliceAdjust lo hi 1 (n:Int)=(((fH n 0 lo:Nat):Int),((fH n n hi:Nat):Int)):=by
 have h1:¬ ((1:Int)<0):=by omega
 unfold Builtin.Slice.sliceAdjust
 simp only [h1,XW]
 refine Prod.ext ?_ ?_
 ·cases lo with
  | none=>rfl
  | some v=>exact GF v n 0
 ·cases hi with
  | none=>rfl
  | some v=>exact GF v n n
def Dv(i j:Nat):Builtin.Slice.slicePlaces (i:Int) (j:Int) 1=j - i:=by
 unfold Builtin.Slice.slicePlaces
 have h1:(1:Int)>0:=by omega
 simp only [h1,YN,Int.ediv_one]
 split <;> omega
def tP{v:Value}{o:Option Int}{Q:Option Int->Shared->Prop}(p:IsPart v o)(h:Q o s):wpAny (model prog w) A (Builtin.Slice.slicePartIndex v) Q E s:=by
 cases p with
 | none=>exact slicePart_none h
 | int i t=>exact slicePart_int h
def kU{sl:Addr}{vl vu:Value}{lo hi:Option Int}{n:Nat}{Q:Int×Int×Nat->Shared->Prop}(hs:s.heap.IsSliceOf sl vl vu .none)(pl:IsPart vl lo)(pu:IsPart vu hi)
  (h:Q (((fH n 0 lo:Nat):Int),1,fH n n hi - fH n 0 lo) s):wpAny (model prog w) A (Builtin.Slice.sliceApplied (.ref sl) (pure (n:Int))) Q E s:=by
 obtain⟨os,hos,hcs,hds⟩:=id hs
 unfold Builtin.Slice.sliceApplied Builtin.Slice.sliceFields
 refine Wn (Wn (Xl hos hds (x:=vl) rfl (Wn (Xl hos hds (x:=vu) rfl (Wn (Xl hos hds (x:=.none) rfl (Wz ?_)))))))
 refine Wn (slicePart_none ?_)
 show wpAny _ _ (if ((1:Int) == 0)=true then _ else _) _ _ s
 rw [if_neg (by decide)]
 refine Wn (tP pl (Wn (tP pu (Wn (Wz ?_)))))
 show wpAny _ _ (match Builtin.Slice.sliceAdjust lo hi 1 (n:Int) with | (lo,hi)=>pure (lo,(1:Int),Builtin.Slice.slicePlaces lo hi 1)) _ _ s
 rw [Fj lo hi n]
 show wpAny _ _ (pure (((fH n 0 lo:Nat):Int),(1:Int),Builtin.Slice.slicePlaces ((fH n 0 lo:Nat):Int) ((fH n n hi:Nat):Int) 1)) _ _ s
 rw [Dv]
 exact Wz h
def KM(xs:Array Value)(i k:Nat):((List.range k).filterMap λ(m:Nat)=>xs[((i:Int)+(m:Int) * 1).toNat]?).toArray=((xs.toList.drop i).take k).toArray:=by
 have e:(λ(m:Nat)=>xs[((i:Int)+(m:Int) * 1).toNat]?)=λm=>xs[i+m]?:=by
  funext m
  have:((i:Int)+(m:Int) * 1).toNat=i+m:=by omega
  rw [this]
 rw [e]
 have:=pick_run xs i k
 rw [List.filterMap_map] at this
 have e2:((λx=>xs[x]?) ∘ λx=>i+x)=λm=>xs[i+m]?:=rfl
 rw [e2] at this
 rw [this]
def qb{t sl:Addr}{items:Array Value}{vl vu:Value}{lo hi:Option Int}{Q:Value->Shared->Prop}(ht:IsTup s.heap t items)(hs:s.heap.IsSliceOf sl vl vu .none)(pl:IsPart vl lo)(pu:IsPart vu hi)
  (hw:¬ (fH items.size 0 lo=0/\fH items.size items.size hi=items.size))
  (h:Q (.ref s.heap.objs.size) { s with heap:=s.heap.push { cls:=.type "tuple",data:=.seq ((items.toList.drop (fH items.size 0 lo)).take (fH items.size items.size hi - fH items.size 0 lo)).toArray } })
  (hsz:items.size<=sizeLine):wpAny (model prog w) A (getItem (.ref t) (.ref sl)) Q E s:=by
 have htake:sizeOk (.seq ((items.toList.drop (fH items.size 0 lo)).take (fH items.size items.size hi - fH items.size 0 lo)).toArray):=by
  show ((items.toList.drop (fH items.size 0 lo)).take (fH items.size items.size hi - fH items.size 0 lo)).toArray.size<=sizeLine
  rw [Wt,Yb,ZC,YF]
  omega
 have hj:fH items.size items.size hi<=items.size:=SX _ _ (WD _) hi
 obtain⟨os,hos,hcs,hds⟩:=id hs
 have hTs:s.TypeIs (.ref sl) "slice":=⟨os,hos,hcs⟩
 unfold getItem
 try with_reducible refine XJ ?_
 first | refine Wn (Wz ?_) | skip
 refine Wn (wpAny_sequenceKey ht.typeIs (by decide) ?_)
 refine Wn (Xx (name:=Str.ofString "__getitem__") ht.typeIs XS
  (XZ XS ht.typeIs aaz ?_ (aaF _ _)))
 show wpAny _ _ (Builtin.Tuple.tupleItemsOf (.ref t) >>= _) _ _ s
 refine Wn (tupleItemsOf_ ht ?_)
 refine Wn (YY hTs ?_)
 rw [WI (by decide)]
 refine Wn (kU hs pl pu ?_)
 have hno:¬ ((((fH items.size 0 lo:Nat):Int) == 0&&(1:Int) == 1&&(fH items.size items.size hi - fH items.size 0 lo) == items.size)=true):=by
  intro q
  rw [Wq,Wq] at q
  have q1:((fH items.size 0 lo:Nat):Int)=0:=eq_of_beq q.1.1
  have q2:fH items.size items.size hi - fH items.size 0 lo=items.size:=eq_of_beq q.2
  exact hw ⟨by omega,by omega⟩
 show wpAny _ _ (if (((fH items.size 0 lo:Nat):Int) == 0&&(1:Int) == 1&&(fH items.size items.size hi - fH items.size 0 lo) == items.size)=true then _ else _) _ _ s
 rw [if_neg hno,KM]
 first
  | exact Wn (m:=Builtin.Tuple.tupleExact _) (WY (Wz ⟨_,rfl,Wz h⟩) htake)
  | exact Wn (m:=Builtin.Tuple.tupleExact _) (WY (Wn (Wz (Wz ⟨_,rfl,Wz h⟩))) htake)
  | exact Wn (Wn (m:=Builtin.Tuple.tupleExact _) (WY (Wz (Wz ⟨_,rfl,Wz h⟩)) htake))
  | exact Wn (Wn (m:=Builtin.Tuple.tupleExact _) (WY (Wz ⟨_,rfl,Wz h⟩) htake))
end
end HT
namespace L2
abbrev TO:=St->Hp->(Option Int->Hp->Prop)->Prop
def PO(X:Cx)(e:Option Expr)(t:TO):Prop:=
 ∀ (pins:List (Addr×Obj)) (s:Shared) (σ:St) (H:Hp) (Q:Option Int->Hp->Prop),Inv X pins σ H s->t σ H Q ->
  wpAny (model X.prog X.w) X.A (evalPart e X.env) (λu s'=>∃ o H',Inv X pins σ H' s'/\IsPart u o/\Q o H') X.xe s
noncomputable def Op:TO:=λ_ H Q=>Q Y H
noncomputable def tPart(t:TE):TO:=λσ H Q=>t σ H λx H1=>∃ i,x=.int i/\Q (U i) H1
section
variable{X:Cx}{e:Expr}{te:TE}{lo hi:Option Expr}{tl th:TO}{pos p2:Pos}
def OP:PO X Y Op:=by
 intro pins s σ H Q I h
 rw [evalPart_none]
 exact Wz ⟨Y,H,I,.none,h⟩
def OO(h:PE X e te):PO X (U e) (tPart te):=by
 intro pins s σ H Q I hw
 rw [evalPart_some]
 refine dh (h pins s σ H _ I hw) λu s1 ⟨x,H1,I1,r1,q1⟩=>?_
 obtain⟨i,rfl,q⟩:=q1
 obtain⟨t,rfl⟩:=r1
 exact⟨U i,H1,I1,.int i t,q⟩
def SlR(X:Cx)(r:V->Option Int->Option Int->Hp->VK->Prop):Prop:=
 ∀ (pins:List (Addr×Obj)) (s:Shared) (σ:St) (H:Hp) (x:V) (v vl vu:Value) (lo hi:Option Int) (sl:Addr) (Q:VK),Inv X pins σ H s->RelV x v->s.heap.IsSliceOf sl vl vu .none->IsPart vl lo->IsPart vu hi->r x lo hi H Q ->
  ∃ T id,typeLookup (.type T) "__getitem__" = pure (U (.builtin id))/\s.TypeIs v T/\wpAny (model X.prog X.w) X.A (getItem v (.ref sl)) (EP X pins σ Q) X.xe s
def SlR.or{r r':V->Option Int->Option Int->Hp->VK->Prop}(h:SlR X r)(h':SlR X r'):SlR X (λx lo hi H Q=>r x lo hi H Q\/r' x lo hi H Q):=by
 intro pins s σ H x v vl vu lo hi sl Q I rx hs pl pu q
 rcases q with q | q
 ·exact h pins s σ H x v vl vu lo hi sl Q I rx hs pl pu q
 ·exact h' pins s σ H x v vl vu lo hi sl Q I rx hs pl pu q
def tSl(r:V->Option Int->Option Int->Hp->VK->Prop)(te:TE)(tl th:TO):TE:=λσ H Q=>te σ H λx H1=>tl σ H1 λl H2=>th σ H2 λu H3=>r x l u H3 Q
def KQ{r:V->Option Int->Option Int->Hp->VK->Prop}(hr:SlR X r)(he:PE X e te)(hl:PO X lo tl)(hu:PO X hi th):PE X (.Subscript e (.Slice lo hi Y p2) pos) (tSl r te tl th):=by
 intro pins s σ H Q I h
 refine Subscript_ (dh (he pins s σ H _ I h) λv s1 ⟨x,H1,I1,r1,q1⟩=>?_)
 refine wpAny_Slice (dh (hl pins s1 σ H1 _ I1 q1) λvl s2 ⟨l,H2,I2,pl,q2⟩=>dh (hu pins s2 σ H2 _ I2 q2) λvu s3 ⟨u,H3,I3,pu,q3⟩=>?_)
 rw [evalPart_none]
 refine Wz ?_
 have I4:Inv X pins σ H3 { s3 with heap:=s3.heap.push { cls:=.type "slice",data:=.fields #[vl,vu,.none] } }:=I3.kept (t':=s3.toks) λb ob q=>Wp _ q
 obtain⟨T,id,hT,ht,hg⟩:=hr pins { s3 with heap:=s3.heap.push { cls:=.type "slice",data:=.fields #[vl,vu,.none] } } σ H3 x v vl vu l u s3.heap.objs.size Q I4 r1 (Heap.IsSliceOf.new ..) pl pu q3
 show wpAny (model X.prog X.w) X.A (subscriptTail e (.Slice lo hi Y p2) v (.ref s3.heap.objs.size)) (EP X pins σ Q) X.xe { s3 with heap:=s3.heap.push { cls:=.type "slice",data:=.fields #[vl,vu,.none] } }
 exact tail_any (ops:=[.ref s3.heap.objs.size,v]) ht hT hg (by with_unfolding_all rfl)
noncomputable def Cz(xs:List V)(lo hi:Option Int):List V:=(xs.drop (HT.fH xs.length 0 lo)).take (HT.fH xs.length xs.length hi - HT.fH xs.length 0 lo)
def sm(xs:List V)(lo hi:Option Int):(Cz xs lo hi).length<=xs.length:=by
 unfold Cz
 rw [Yb,ZC]
 omega
def rSlT(K:W.Frag):V->Option Int->Option Int->Hp->VK->Prop:=λx lo hi H Q=>∃ a xs,x=.ref a/\kQ K H a xs /\
 ¬ (HT.fH xs.length 0 lo=0/\HT.fH xs.length xs.length hi=xs.length)/\∀ p,H p=Y->Q (.ref p) (upd H p (.tup (Cz xs lo hi)))
def SS:SlR X (rSlT X.K):=by
 intro pins s σ H x v vl vu lo hi sl Q I rx hs pl pu h
 obtain⟨a,xs,rfl,hx,hw,q⟩:=h
 cases rx
 obtain⟨its,r,ht,hz⟩:=I.tuple hx
 have hlen:its.toArray.size=xs.length:=by rw [Wt];exact r.length.symm
 refine⟨"tuple",_,PyProof.Rows.slot_tuple_getitem.lookup,ht.typeIs,?_⟩
 refine HT.qb ht hs pl pu (by rw [hlen];exact hw) ?_ (by rw [hlen];exact hz)
 rw [hlen]
 refine⟨.ref s.heap.objs.size,_,I.laid (t':=s.toks) (o:=.tup (Cz xs lo hi)) (λb ob q=>Wp _ q) (WD _) ?_,rfl,q _ (I.hok.fresh (WD _))⟩
 exact⟨WT (sm xs lo hi) hz,_,(r.drop (HT.fH xs.length 0 lo)).take (HT.fH xs.length xs.length hi - HT.fH xs.length 0 lo),IsTupN.new _ _⟩
noncomputable def rCatT(K:W.Frag):R2:=λx y H Q=>∃ a b xs ys,x=.ref a/\y=.ref b/\kQ K H a xs/\kQ K H b ys/\xs≠[]/\xs.length+ys.length<=sizeLine /\
 (ys=[]->Q (.ref a) H)/\(ys≠[]->∀ p,H p=Y->Q (.ref p) (upd H p (.tup (xs++ys))))
def Vals.nil_iff{xs:List V}{us:List Value}(r:Vals xs us):us=[]↔xs=[]:=by
 cases r with
 | nil=>simp
 | cons _ _=>simp
def Pj:OpR X (binaryOp .Add) (rCatT X.K):=by
 intro pins s σ H x y v u Q I rx ry h
 obtain⟨a,b,xs,ys,rfl,rfl,ha,hb,hx,hz,q1,q2⟩:=h
 cases rx
 cases ry
 obtain⟨its,r1,p1,_⟩:=I.tuple ha
 obtain⟨its2,r2,p2,_⟩:=I.tuple hb
 refine HT.Re p1 p2 (λz=>hx (r1.nil_iff.mp z)) (λz=>⟨.ref a,H,I,rfl,q1 (r2.nil_iff.mp z)⟩) (λz=>?_) (by rw [<- r1.length,<- r2.length];exact hz)
 refine⟨.ref s.heap.objs.size,_,I.laid (t':=s.toks) (o:=.tup (xs++ys)) (λb ob q=>Wp _ q) (WD _) ?_,rfl,q2 (λw=>z (r2.nil_iff.mpr w)) _ (I.hok.fresh (WD _))⟩
 exact⟨by rw [WB];exact hz,_,r1.append r2,IsTupN.new _ _⟩
end
def Iq(n:Nat)(i:Int):Option Nat:=if 0<=i then (if i<n then U i.toNat else Y) else if -(n:Int)<=i then U (i+n).toNat else Y
noncomputable def mE{α:Type}(xs:List α)(i:Int):Option α:=(Iq xs.length i).bind λj=>xs[j]?
def Gh{n:Nat}{i:Int}{j:Nat}(h:Iq n i=U j):seqIndex? i n=U j/\j<n/\-(n:Int)<=i/\i<n:=by
 unfold Iq at h
 by_cases h0:0<=i
 ·rw [WI h0] at h
  by_cases h1:i<n
  ·rw [WI h1] at h
   have e:i.toNat=j:=WH h
   exact⟨by rw [aay h0 h1,e],by omega,by omega,h1⟩
  ·rw [if_neg h1] at h;cases h
 ·rw [if_neg h0] at h
  by_cases h1:-(n:Int)<=i
  ·rw [WI h1] at h
   have e:(i+n).toNat=j:=WH h
   exact⟨by rw [aal (by omega) h1,e],by omega,h1,by omega⟩
  ·rw [if_neg h1] at h;cases h
def GL{α:Type}{xs:List α}{i:Int}{v:α}(h:mE xs i=U v):∃ j,seqIndex? i xs.length=U j/\xs[j]?=U v/\j<xs.length/\-(xs.length:Int)<=i/\i<xs.length:=by
 unfold mE at h
 cases e:Iq xs.length i with
 | none=>rw [e] at h;cases h
 | some j=>
  rw [e] at h
  obtain⟨h1,h2,h3,h4⟩:=Gh e
  exact⟨j,h1,h,h2,h3,h4⟩
def oi(b:Expr):Prop:=∀ o i,subscripted b false o i=operate [o,i] (getItem o i)
def IxR(X:Cx)(r:R2):Prop:=
 ∀ (value slice:Expr) (pins:List (Addr×Obj)) (s:Shared) (σ:St) (H:Hp) (x y:V) (v u:Value) (Q:VK),Inv X pins σ H s->RelV x v->RelV y u->r x y H Q ->
  subscripted slice false v u=operate [v,u] (getItem v u)->wpAny (model X.prog X.w) X.A (subscriptTail value slice v u) (EP X pins σ Q) X.xe s
def MtR(X:Cx)(id:String)(r:V->List V->Hp->VK->Prop):Prop:=
 ∀ (pins:List (Addr×Obj)) (s:Shared) (σ:St) (H:Hp) (x:V) (xs:List V) (v:Value) (us:List Value) (Q:VK),Inv X pins σ H s->RelV x v->Vals xs us->r x xs H Q ->
  wpAny (model X.prog X.w) X.A (call (.builtin id) (v::us)) (EP X pins σ Q) X.xe s
section
variable{X:Cx}{a b:Expr}{ta tb:TE}{pos:Pos}
def IxR.or{r r':R2}(h:IxR X r)(h':IxR X r'):IxR X (λx y H Q=>r x y H Q\/r' x y H Q):=by
 intro value slice pins s σ H x y v u Q I rx ry q hs
 rcases q with q | q
 ·exact h value slice pins s σ H x y v u Q I rx ry q hs
 ·exact h' value slice pins s σ H x y v u Q I rx ry q hs
def KU{r:R2}(hr:IxR X r)(ha:PE X a ta)(hb:PE X b tb)(hs:oi b):PE X (.Subscript a b pos) (tOp r ta tb):=by
 intro pins s σ H Q I h
 exact Subscript_ (VY ha hb I h λv u s2 x y H2 I2 rx ry q=>hr a b pins s2 σ H2 x y v u Q I2 rx ry q (hs _ _))
noncomputable def rIxL(K:W.Frag):R2:=λx y H Q=>∃ p xs i v,x=.ref p/\y=.int i/\my K H p xs/\mE xs i=U v/\Q v H
noncomputable def rIxT(K:W.Frag):R2:=λx y H Q=>∃ p xs i v,x=.ref p/\y=.int i/\kQ K H p xs/\mE xs i=U v/\Q v H
def ix_list:IxR X (rIxL X.K):=by
 intro value slice pins s σ H x y v u Q I rx ry h hs
 obtain⟨p,xs,i,z,rfl,rfl,hq,he,q⟩:=h
 cases rx
 obtain⟨t,rfl⟩:=ry
 obtain⟨its,r,pl,hz⟩:=I.list hq
 obtain⟨j,h1,h2,h3,h4,h5⟩:=GL he
 obtain⟨w,ew,rw'⟩:=r.get h2
 have hl:=r.length
 have hn:=qS
 have fin:EP X pins σ Q w s:=⟨z,H,I,rw',q⟩
 by_cases h0:0<=i
 ·have hj:i.toNat=j:=by
   rw [aay h0 h5] at h1
   exact WH h1
  exact item_listR pl.isList h0 (by omega) (by rw [hj];simpa using ew) fin hs
 ·have hj:(i+(its.toArray.size:Int)).toNat=j:=by
   rw [aal (by omega) h4] at h1
   rw [Wt,<- hl]
   exact WH h1
  exact aae (x:=w) pl.isList.typeIs slot_list_getitem.lookup
   (wpAny_getItem_list_neg (Q:=λr s'=>r=w/\EP X pins σ Q r s') pl.isList (by omega) (by rw [Wt] <;> omega) (by omega) (by rw [hj];simpa using ew) ⟨rfl,fin⟩) hs
def UI:IxR X (rIxT X.K):=by
 intro value slice pins s σ H x y v u Q I rx ry h hs
 obtain⟨p,xs,i,z,rfl,rfl,hq,he,q⟩:=h
 cases rx
 obtain⟨t,rfl⟩:=ry
 obtain⟨its,r,pl,hz⟩:=I.tuple hq
 obtain⟨j,h1,h2,h3,h4,h5⟩:=GL he
 obtain⟨w,ew,rw'⟩:=r.get h2
 have hl:=r.length
 have hn:=qS
 have fin:EP X pins σ Q w s:=⟨z,H,I,rw',q⟩
 exact aae (x:=w) pl.typeIs slot_tuple_getitem.lookup
  (getItem_tuple (j:=j) (Q:=λr s'=>r=w/\EP X pins σ Q r s') pl (by omega) (by omega) (by rw [Wt,<- hl];exact h1) (by simpa using ew) ⟨rfl,fin⟩) hs
def DV(its:List Value)(n j:Nat)(u:Value):Obj.mapSeq (·.setIfInBounds j u) { cls:=.type "list",data:=.seq its.toArray n } = { cls:=.type "list",data:=.seq (its.set j u).toArray n }:=by
 simp [Obj.mapSeq]
theorem Inv.lst{pins:List (Addr×Obj)}{σ:St}{H:Hp}{s:Shared}{p:Addr}{xs:List V}(I:Inv X pins σ H s)(h:H p=U (.lst xs)) :
  ∃ (its:List Value) (n:Nat),Vals xs its/\s.heap.get? p=U { cls:=.type "list",data:=.seq its.toArray n }/\xs.length<=sizeLine:=by
 obtain⟨z,its,n,r,e⟩:=I.hok p _ h
 exact⟨its,n,r,e,z⟩
def Inv.lstUpd{pins:List (Addr×Obj)}{σ:St}{H:Hp}{s:Shared}{p:Addr}{xs ys:List V}{its its':List Value}{n n':Nat}{f:Obj->Obj}(I:Inv X pins σ H s)(h:H p=U (.lst xs))
  (ho:s.heap.get? p=U { cls:=.type "list",data:=.seq its.toArray n }) (hf:f { cls:=.type "list",data:=.seq its.toArray n } = { cls:=.type "list",data:=.seq its'.toArray n' }) (r:Vals ys its') (hz:ys.length<=sizeLine) (t:Nat) :
  Inv X pins σ (upd H p (.lst ys)) { s with heap:=s.heap.update p f,toks:=t }:=by
 have e:(s.heap.update p f).get? p=U { cls:=.type "list",data:=.seq its'.toArray n' }:=by
  rw [Xo f ho (by rw [hf] <;> rfl),hf]
 refine I.write (x:=p) (e:=p) (by rw [h];trivial) (.inl rfl) (λb u hb q=>(aai _ _ (Ne.symm hb)).trans q) ⟨_,e⟩ ?_
 exact⟨hz,its',n',r,e⟩
def rSetL:V->V->V->Hp->(Hp->Prop)->Prop:=λo i v H Q=>∃ p xs k j,o=.ref p/\i=.int k/\H p=U (.lst xs)/\Iq xs.length k=U j/\Q (upd H p (.lst (xs.set j v)))
def Kl:PSet X rSetL:=by
 intro pins s σ H o i v ov iv u Q I ro ri rv h
 obtain⟨p,xs,k,j,rfl,rfl,hp,hj,q⟩:=h
 cases ro
 obtain⟨t,rfl⟩:=ri
 obtain⟨its,n,r,ho,hz⟩:=I.lst hp
 obtain⟨h1,h2,h3,h4⟩:=Gh hj
 have hl:=r.length
 have hn:=qS
 have I':Inv X pins σ (upd H p (.lst (xs.set j v))) { s with heap:=s.heap.update p (Obj.mapSeq (·.setIfInBounds j u)) }:=
  I.lstUpd hp ho (DV its n j u) (r.set rv j) (by rw [YB];exact hz) s.toks
 by_cases h0:0<=k
 ·have hk:k.toNat=j:=by
   rw [aay h0 h4] at h1
   exact WH h1
  exact W.ki_setAt ho h0 (by omega) (by rw [Wt,<- hl];exact h4) (by rw [hk];exact⟨_,I',q⟩)
 ·have hk:(k+(its.toArray.size:Int)).toNat=j:=by
   rw [aal (by omega) h3] at h1
   rw [Wt,<- hl]
   exact WH h1
  exact W.ki_setBack ho (by omega) (by rw [Wt,<- hl];exact h3) (by omega) (by rw [hk];exact⟨_,I',q⟩)
def yc(lo hi:Option Int)(n:Nat):(sliceBounds lo hi Y n).1=((HT.fH n 0 lo:Nat):Int)/\(sliceBounds lo hi Y n).2.1=((HT.fH n n hi:Nat):Int)/\(sliceBounds lo hi Y n).2.2=1:=by
 refine⟨?_,?_,rfl⟩
 ·cases lo with
  | none=>simp [sliceBounds,HT.fH]
  | some i=>
   simp only [sliceBounds,HT.fH,Option.getD_none,show (1:Int)>0 by decide,YN]
   by_cases h:i<0
   ·simp only [h,YN] <;> omega
   ·simp only [h,XW] <;> omega
 ·cases hi with
  | none=>simp [sliceBounds,HT.fH]
  | some i=>
   simp only [sliceBounds,HT.fH,Option.getD_none,show (1:Int)>0 by decide,YN]
   by_cases h:i<0
   ·simp only [h,YN] <;> omega
   ·simp only [h,XW] <;> omega
def vI(its:List Value)(lo hi:Option Int):slicePick its.toArray lo hi Y=((its.drop (HT.fH its.length 0 lo)).take (HT.fH its.length its.length hi - HT.fH its.length 0 lo)).toArray:=by
 obtain⟨h1,h2,h3⟩:=yc lo hi its.toArray.size
 unfold slicePick
 rw [h1,h2,h3]
 simp only [sliceRange_one,pick_run,Wt] <;> rfl
def rSlL(K:W.Frag):V->Option Int->Option Int->Hp->VK->Prop:=λx lo hi H Q=>∃ a xs,x=.ref a/\my K H a xs/\∀ p,H p=Y->Q (.ref p) (upd H p (.lst (Cz xs lo hi)))
def Ov:SlR X (rSlL X.K):=by
 intro pins s σ H x v vl vu lo hi sl Q I rx hs pl pu h
 obtain⟨a,xs,rfl,hx,q⟩:=h
 cases rx
 obtain⟨its,r,ht,hz⟩:=I.list hx
 have hlen:=r.length
 refine⟨"list",_,slot_list_getitem.lookup,ht.isList.typeIs,?_⟩
 refine wpAny_getItem_list_slice ht.isList hs pl pu .none (by simp) ?_ (by rw [Wt] <;> omega)
 rw [vI,<- hlen]
 refine⟨.ref s.heap.objs.size,_,I.laid (t':=s.toks) (o:=.lst (Cz xs lo hi)) (λb ob q=>Wp _ q) (WD _) ?_,rfl,q _ (I.hok.fresh (WD _))⟩
 exact⟨WT (sm xs lo hi) hz,_,0,(r.drop (HT.fH xs.length 0 lo)).take (HT.fH xs.length xs.length hi - HT.fH xs.length 0 lo),WF _ rfl⟩
def call_len_seq:CallR X (.builtin "len") (λxs H Q=>∃ p ys,xs=[.ref p]/\(my X.K H p ys\/kQ X.K H p ys)/\Q (.int ys.length) H):=by
 intro pins s σ H xs us Q I r h
 obtain⟨p,ys,rfl,hq,q⟩:=h
 obtain⟨u,rfl,rx⟩:=pq r
 cases rx
 have hn:=qS
 rcases hq with hq | hq
 ·obtain⟨its,r',pl,hz⟩:=I.list hq
  have hlen:=r'.length
  exact Calls.call_len_list pl.isList (by simp only [Wt] <;> omega) ⟨.int ys.length,H,I.tok _,⟨s.toks+1,by rw [Wt,hlen]⟩,q⟩
 ·obtain⟨its,r',pl,hz⟩:=I.tuple hq
  have hlen:=r'.length
  exact len_tuple pl (by simp only [Wt] <;> omega) ⟨.int ys.length,H,I.tok _,⟨s.toks+1,by rw [Wt,hlen]⟩,q⟩
def zS:CallR X (.builtin "len") (λxs H Q=>∃ z,xs=[.str z]/\z.length<=sizeLine/\Q (.int z.length) H):=by
 intro pins s σ H xs us Q I r h
 obtain⟨z,rfl,hz,q⟩:=h
 obtain⟨u,rfl,t,rfl⟩:=pq r
 have hn:=qS
 exact len_str (by omega) ⟨.int z.length,H,I.tok _,⟨_,rfl⟩,q⟩
def CallR.or{f:Value}{r r':List V->Hp->VK->Prop}(h:CallR X f r)(h':CallR X f r'):CallR X f (λxs H Q=>r xs H Q\/r' xs H Q):=by
 intro pins s σ H xs us Q I rs q
 rcases q with q | q
 ·exact h pins s σ H xs us Q I rs q
 ·exact h' pins s σ H xs us Q I rs q
def zR:CallR X (.type "list") (λxs H Q=>∃ p ys,xs=[.ref p]/\(my X.K H p ys\/kQ X.K H p ys)/\∀ l,H l=Y->Q (.ref l) (upd H l (.lst ys))):=by
 intro pins s σ H xs us Q I r h
 obtain⟨p,ys,rfl,hq,q⟩:=h
 obtain⟨u,rfl,rx⟩:=pq r
 cases rx
 have fin:∀ (its:List Value),Vals ys its->ys.length<=sizeLine->∀ (h':Heap) (c':Nat),(∀ b o',s.heap.get? b=U o'->h'.get? b=U o') ->
   h'.get? s.heap.objs.size=U { cls:=.type "list",dict:=Y,data:=.seq its.toArray c',slots:=#[] }->EP X pins σ Q (.ref s.heap.objs.size) { s with heap:=h' }:=λits r' hz h' c' kp e=>
  ⟨.ref s.heap.objs.size,_,I.laid (t':=s.toks) kp (WD _) (show ObjOk X.prog X.w _ h' _ (.lst ys) from ⟨hz,its,c',r',e⟩),rfl,q _ (I.hok.fresh (WD _))⟩
 rcases hq with hq | hq
 ·obtain⟨its,r',pl,hz⟩:=I.list hq
  have hlen:=r'.length
  obtain⟨o,ho,hc,n,hd⟩:=pl.isList
  exact call_list_seq p (.inl rfl) ho hc hd (λh' c' kp e=>fin its r' hz h' c' kp e) (by simp only [Wt] <;> omega)
 ·obtain⟨its,r',pl,hz⟩:=I.tuple hq
  have hlen:=r'.length
  obtain⟨o,ho,hc,n,hd⟩:=pl
  exact call_list_seq p (.inr rfl) ho hc hd (λh' c' kp e=>fin its r' hz h' c' kp e) (by simp only [Wt] <;> omega)
def wC:CallR X (.type "tuple") (λxs H Q=>∃ p ys,xs=[.ref p]/\((my X.K H p ys/\∀ l,H l=Y->Q (.ref l) (upd H l (.tup ys)))\/(kQ X.K H p ys/\Q (.ref p) H))):=by
 intro pins s σ H xs us Q I r h
 obtain⟨p,ys,rfl,h⟩:=h
 obtain⟨u,rfl,rx⟩:=pq r
 cases rx
 rcases h with ⟨hq,q⟩ | ⟨hq,q⟩
 ·obtain⟨its,r',pl,hz⟩:=I.list hq
  have hlen:=r'.length
  refine call_tuple_list pl.isList (λh' kp=>?_) (by simp only [Wt] <;> omega)
  have I1:Inv X pins σ H { s with heap:=h' }:=I.kept (t':=s.toks) kp
  have I2:Inv X pins σ (upd H h'.objs.size (.tup ys)) { s with heap:=h'.push { cls:=.type "tuple",data:=.seq its.toArray } }:=
   I1.laid (t':=s.toks) (λb o e=>Wp _ e) (WD _) (show ObjOk X.prog X.w _ _ _ (.tup ys) from ⟨hz,its,r',IsTupN.new _ _⟩)
  exact⟨.ref h'.objs.size,_,I2,rfl,q _ (I1.hok.fresh (WD _))⟩
 ·obtain⟨its,r',pl,hz⟩:=I.tuple hq
  exact call_tuple_same pl ⟨.ref p,H,I,rfl,q⟩
def tyV(K:W.Frag)(T:String)(x:V)(H:Hp):Prop:=match x with
 | .str _=>T = "str"
 | .int _=>T = "int"
 | .ref p=>(T = "list"/\∃ xs,my K H p xs)\/(T = "tuple"/\∃ o,K.lookup p=U o/\o.cls=.type "tuple"/\o.dict=Y) \/
   (T = "dict"/\((∃ kvs,H p=U (.dK kvs))\/∃ kvs,H p=U (.dT kvs)))\/(T = "set"/\∃ S n,H p=U (.set S n))
 | _=>False
def SH{pins:List (Addr×Obj)}{σ:St}{H:Hp}{s:Shared}{T:String}{x:V}{v:Value}(I:Inv X pins σ H s)(r:RelV x v)(ty:tyV X.K T x H) :
  s.TypeIs v T/\∀ a,v=.ref a->∃ ob,s.heap.get? a=U ob/\ob.dict=Y:=by
 cases x with
 | str z=>
  obtain⟨t,rfl⟩:=r
  cases (show T = "str" from ty)
  exact⟨typeIs_str s z t,λ_ e=>nomatch e⟩
 | int i=>
  obtain⟨t,rfl⟩:=r
  cases (show T = "int" from ty)
  exact⟨Zt s i t,λ_ e=>nomatch e⟩
 | ref p=>
  cases r
  rcases ty with ⟨rfl,xs,hq⟩ | ⟨rfl,o,hk,hc,hd⟩ | ⟨rfl,hk⟩ | ⟨rfl,S,n,hk⟩
  ·obtain⟨its,_,pl,_⟩:=I.list hq
   refine⟨pl.isList.typeIs,λa e=>?_⟩
   cases e
   obtain⟨o,n,e,c,hd,_⟩:=pl
   exact⟨o,e,hd⟩
  ·refine⟨⟨o,I.kIn p o hk,hc⟩,λa e=>?_⟩
   cases e
   exact⟨o,I.kIn _ o hk,hd⟩
  ·have z:∃ o,s.heap.get? p=U o/\o.ExactDict:=by
    rcases hk with ⟨kvs,hk⟩ | ⟨kvs,hk⟩
    ·obtain⟨_,_,_,_,o,_,_,e,ex,_⟩:=I.hok p _ hk
     exact⟨o,e,ex⟩
    ·obtain⟨_,_,_,_,o,_,_,e,ex,_⟩:=I.hok p _ hk
     exact⟨o,e,ex⟩
   obtain⟨o,e,ex⟩:=z
   refine⟨⟨o,e,ex.1⟩,λa e2=>?_⟩
   cases e2
   exact⟨o,e,ex.2.1⟩
  ·obtain⟨o,_,_,_,e,ex,_⟩:=I.hok p _ hk
   refine⟨⟨o,e,ex.1⟩,λa e2=>?_⟩
   cases e2
   exact⟨o,e,ex.2.1⟩
 | _=>exact False.elim ty
def tBM(K:W.Frag)(T:String)(r:V->List V->Hp->VK->Prop)(to:TE)(t:TA):TE:=λσ H Q=>to σ H λx H1=>tyV K T x H1/\t σ H1 λxs H2=>r x xs H2 Q
variable{o e:Expr}{es:List Expr}{to:TE}{t:TA}{name:Str}{apos cpos:Pos}{T id:String}{r:V->List V->Hp->VK->Prop}
def pe_bm(pa:PlainAttrs T)(slot:Slot T name id)(hty:typeOf (.builtin id)=pure (.type "method_descriptor"))(hm:MtR X id r)(ho:PE X o to)(ha:PA X (e::es) t)
  (hbase:attributeBase o name X.env (eval o X.env)=eval o X.env:=by rfl)
  (hfew:((backTo cpos (starEach (e::es) X.env)).all (λx=>!x.1)&&(backToKw cpos (keywordEach [] X.env)).all (λx=>x.1.isSome)
   && decide ((e::es).length+([]:List Keyword).length+(if ([]:List Keyword).isEmpty then 0 else 1)<30))=true:=by rfl)
  (hline:(apos.endLine == cpos.line)=true:=by rfl) (hs:starEach (e::es) X.env=(false,eval e X.env)::starEach es X.env:=by rfl) (hplain:(backTo cpos (starEach es X.env)).any (·.1)=false:=by rfl) :
  PE X (.Call (.Attribute o name apos) (e::es) [] cpos) (tBM X.K T r to t):=by
 intro pins s σ H Q I h
 refine YV hbase hfew hline rfl (dh (ho pins s σ H _ I h) λv s1 ⟨x,H1,I1,r1,ty,q1⟩=>?_)
 obtain⟨h1,h2⟩:=SH I1 r1 ty
 refine⟨T,id,pa,slot,hty,h1,h2,?_⟩
 have hA:=ha cpos pins s1 σ H1 _ I1 q1
 rw [hs] at hA ⊢
 refine YX (by show (false||(backTo cpos (starEach es X.env)).any (·.1))=false;rw [hplain] <;> rfl) (Zh ?_)
 exact dh hA λus s2 ⟨vs,H2,I2,r2,q2⟩=>hm pins s2 σ H2 x vs v us Q I2 r1 r2 q2
end
def MtM(X:Cx)(id:String)(r:V->List V->Hp->VK->Prop):Prop:=
 ∀ (pins:List (Addr×Obj)) (s:Shared) (σ:St) (H:Hp) (x:V) (xs:List V) (v:Value) (us:List Value) (Q:VK),Inv X pins σ H s->RelV x v->Vals xs us->r x xs H Q ->
  wpAny (model X.prog X.w) X.A (call (.builtin id) (v::us)) (EP X pins σ Q) X.xe s
def Vals.one:∀ {x:V} {us:List Value},Vals [x] us->∃ u,us=[u]/\RelV x u
 | _,_,.cons r .nil=>⟨_,rfl,r⟩
def Vals.two:∀ {x y:V} {us:List Value},Vals [x,y] us->∃ u v,us=[u,v]/\RelV x u/\RelV y v
 | _,_,_,.cons r (.cons q .nil)=>⟨_,_,rfl,r,q⟩
theorem Vals.rep{xs:List V}{us:List Value}(h:Vals xs us):∀ k:Nat,Vals (List.replicate k xs).flatten (List.replicate k us).flatten
 | 0=>.nil
 | k+1=>by
  rw [WX,WX,Xw,Xw]
  exact Vals.append h (Vals.rep h k)
theorem xF(its:List Value):∀ (k:Nat) (acc:List Value),
  List.foldl (λx1 x2=>x1++x2) acc.toArray (List.replicate k its.toArray)=(acc++(List.replicate k its).flatten).toArray
 | 0,acc=>by simp
 | k+1,acc=>by
  have e:acc.toArray++its.toArray=(acc++its).toArray:=by simp
  have e2:(acc++its)++(List.replicate k its).flatten=acc++(List.replicate (k+1) its).flatten:=by
   rw [WX,Xw,WR]
  rw [<- e2,<- xF its k (acc++its),<- e,WX,ZP]
section
variable{X:Cx}{pins:List (Addr×Obj)}{σ:St}{H:Hp}{s:Shared}{l b:Addr}{xs ys zs:List V}
def Inv.lset{its its':List Value}{n:Nat}{f:Array Value->Array Value}{t':Nat}(I:Inv X pins σ H s)(hH:H l=U (.lst xs))
  (e:s.heap.get? l=U { cls:=.type "list",data:=.seq its.toArray n }) (hf:f its.toArray=its'.toArray) (hv:Vals ys its') (hz:ys.length<=sizeLine) :
  Inv X pins σ (upd H l (.lst ys)) { s with heap:=s.heap.update l (Obj.mapSeq f),toks:=t' }:=by
 have q:=PySem.IsL.update e f
 rw [hf] at q
 refine I.write (x:=l) (e:=l) (by rw [hH];exact trivial) (.inl rfl) (λb' u hb hu=>(aai s.heap (Obj.mapSeq f) (Ne.symm hb)).trans hu) ⟨_,q⟩ ?_
 exact⟨hz,its',_,hv,q⟩
def Inv.lnew{its:List Value}{t':Nat}(I:Inv X pins σ H s)(hv:Vals ys its)(hz:ys.length<=sizeLine) :
  Inv X pins σ (upd H s.heap.objs.size (.lst ys)) { s with heap:=s.heap.push { cls:=.type "list",data:=.seq its.toArray },toks:=t' }:=
 I.laid (λ_ _ q=>Wp _ q) (WD _) ⟨hz,its,0,hv,WF _ rfl⟩
theorem Inv.fresh(I:Inv X pins σ H s):H s.heap.objs.size=Y:=I.hok.fresh (WD _)
def Inv.lstM(I:Inv X pins σ H s)(hH:H l=U (.lst xs)):xs.length<=sizeLine/\∃ (its:List Value) (n:Nat),Vals xs its/\xs.length=its.length/\s.heap.get? l=U { cls:=.type "list",data:=.seq its.toArray n }:=by
 obtain⟨z,its,n,r,e⟩:=I.hok l _ hH
 exact⟨z,its,n,r,r.length,e⟩
def AV{n:Nat}(h:n<=sizeLine):Builtin.List.listTooLong n=false:=by
 unfold Builtin.List.listTooLong
 exact WC (by omega)
end
section
variable{X:Cx}
def OD:V->List V->Hp->VK->Prop:=λx vs H Q=>∃ l xs y,x=.ref l/\vs=[y]/\H l=U (.lst xs)/\xs.length<sizeLine/\Q .non (upd H l (.lst (xs++[y])))
def wV:MtM X "list.append" OD:=by
 intro pins s σ H x vs v us Q I rx rv h
 obtain⟨l,xs,y,rfl,rfl,hH,hz,q⟩:=h
 cases rx
 obtain⟨u,rfl,ru⟩:=rv.one
 obtain⟨z,its,n,r,hl,e⟩:=I.lstM hH
 refine Yp aaL ⟨_,e,rfl⟩ F.entry_list_append (F.args_list_append_2 _ _) (PySem.list_append l its.toArray n u (by rw [Wt];omega)) ⟨e,?_⟩
 refine⟨.non,_,I.lset (its':=its++[u]) hH e (by simp) (r.append (.cons ru .nil)) ?_,rfl,q⟩
 rw [WB,XF]
 omega
def OC:V->List V->Hp->VK->Prop:=λx vs H Q=>∃ l b xs zs,x=.ref l/\vs=[.ref b]/\H l=U (.lst xs)/\H b=U (.lst zs)/\xs.length+zs.length<=sizeLine/\Q .non (upd H l (.lst (xs++zs)))
def mt_extend:MtM X "list.extend" OC:=by
 intro pins s σ H x vs v us Q I rx rv h
 obtain⟨l,b,xs,zs,rfl,rfl,hH,hB,hz,q⟩:=h
 cases rx
 obtain⟨u,rfl,ru⟩:=rv.one
 cases ru
 obtain⟨z,its,n,r,hl,e⟩:=I.lstM hH
 obtain⟨z2,its2,n2,r2,hl2,e2⟩:=I.lstM hB
 have hsz:its.toArray.size+its2.toArray.size<=sizeLine:=by rw [Wt,Wt];omega
 have hlong:¬ (!its.toArray.isEmpty&&Builtin.List.listTooLong (its.toArray.size+its2.toArray.size))=true:=by
  rw [AV hsz,Yn]
  exact Bool.false_ne_true
 refine Yp F.slot_list_extend ⟨_,e,rfl⟩ F.entry_list_extend (F.args_list_extend_2 _ _)
  (AutoSeq1.list_extend_list_list_0 l its.toArray n b its2.toArray n2 hlong (by rw [Wt];omega) (by omega)) ⟨e,e2,?_⟩
 refine⟨.non,_,I.lset (its':=its++its2) hH e (by simp) (r.append r2) ?_,rfl,q⟩
 rw [WB]
 omega
noncomputable def rCat:R2:=λx y H Q=>∃ l b xs zs,x=.ref l/\y=.ref b/\H l=U (.lst xs)/\H b=U (.lst zs)/\xs.length+zs.length<=sizeLine/\∀ p,H p=Y->Q (.ref p) (upd H p (.lst (xs++zs)))
def Lf:OpR X (binaryOp .Add) rCat:=by
 intro pins s σ H x y v u Q I rx ry h
 obtain⟨l,b,xs,zs,rfl,rfl,hH,hB,hz,q⟩:=h
 cases rx
 cases ry
 obtain⟨z,its,n,r,hl,e⟩:=I.lstM hH
 obtain⟨z2,its2,n2,r2,hl2,e2⟩:=I.lstM hB
 refine PySem.P.add_list e e2 ?_ (by rw [Wt,Wt];omega)
 have ea:its.toArray++its2.toArray=(its++its2).toArray:=by simp
 rw [ea]
 exact⟨.ref _,_,I.lnew (t':=s.toks) (r.append r2) (by rw [WB];omega),rfl,q _ I.fresh⟩
noncomputable def rRep:R2:=λx y H Q=>∃ l k xs,x=.ref l/\y=.int k/\H l=U (.lst xs)/\-(2 ^ 63)<=k/\k<2 ^ 63/\xs.length * k.toNat<=sizeLine /\
 ∀ p,H p=Y->Q (.ref p) (upd H p (.lst (List.replicate k.toNat xs).flatten))
def zd{α:Type}(xs:List α)(k:Nat):(List.replicate k xs).flatten.length=k * xs.length:=by
 induction k with
 | zero=>simp
 | succ k ih=>rw [WX,Xw,WB,ih,Nat.succ_mul,Nat.add_comm]
def TH:OpR X (binaryOp .Mult) rRep:=by
 intro pins s σ H x y v u Q I rx ry h
 obtain⟨l,k,xs,rfl,rfl,hH,h1,h2,hz,q⟩:=h
 cases rx
 obtain⟨t,rfl⟩:=ry
 obtain⟨z,its,n,r,hl,e⟩:=I.lstM hH
 have hlen:its.toArray.size * k.toNat<=sizeLine:=by rw [Wt,<- hl];exact hz
 have hcap:¬ its.toArray.size * k.toNat>(2 ^ 63 - 1) / 8:=by
  have:(sizeLine:Nat)<=(2 ^ 63 - 1) / 8:=by decide
  omega
 have hfit:¬ (!Builtin.List.listFitsIndex k)=true:=by
  rw [fitsIndex_both h1 h2]
  exact Bool.false_ne_true
 have hlong:¬ Builtin.List.listTooLong (its.toArray.size * k.toNat)=true:=by
  rw [AV hlen]
  exact Bool.false_ne_true
 have hnew:List.foldl (λx1 x2=>x1++x2) #[] (List.replicate (if its.toArray.isEmpty=true then 0 else k.toNat) its.toArray)=(List.replicate k.toNat its).flatten.toArray:=by
  have f0:∀ m:Nat,List.foldl (λx1 x2=>x1++x2) #[] (List.replicate m its.toArray)=(List.replicate m its).flatten.toArray:=λm=>by
   have:=xF its m []
   rw [YA] at this
   exact this
  rw [f0]
  cases its with
  | nil=>simp
  | cons a r'=>rw [if_neg (by simp)]
 refine ZT (T:="list") (U:="int") (by decide) ⟨_,e,rfl⟩ (λs'=>Zt s' k t) noFill_list_mul F.fills_int_mul Zf repeat_list F.slot_int_index.lookup
  (Yp Zf (Zt s k t) F.entry_int_rmul (F.args_int_rmul_2 _ _) (int___rmul___int_list k t l its.toArray n)
   ⟨e,rfl,⟨_,e,rfl⟩,Yp F.slot_list_mul ⟨_,e,rfl⟩ F.entry_list_mul (F.args_list_mul_2 _ _) (AutoListH.list___mul___list_int_3 l its.toArray n k t hfit hcap hlong) ⟨e,?_⟩⟩)
 rw [hnew]
 exact⟨.ref _,_,I.lnew (t':=s.toks) (r.rep k.toNat) (by rw [zd,Zz];exact hz),rfl,q _ I.fresh⟩
end
section
variable{prog:Program}{w:World}{A:Around}{E:Value->Shared->Prop}{s:Shared}
end
section
variable{X:Cx}
end
section
variable{κ:Type}[DecidableEq κ]
noncomputable def qD(kvs:List (κ×V))(k:κ):Option V:=(kvs.find? λkv=>decide (kv.1=k)).map (·.2)
noncomputable def sD(kvs:List (κ×V))(k:κ)(v:V):List (κ×V):=
 if (kvs.any λkv=>decide (kv.1=k))=true then kvs.map (λkv=>if kv.1=k then (kv.1,v) else kv) else kvs++[(k,v)]
def tL{p:κ×V}{r:List (κ×V)}{k:κ}(e:p.1=k):qD (p::r) k=U p.2:=by simp [qD,Xh,e]
def pz{p:κ×V}{r:List (κ×V)}{k:κ}(e:¬ p.1=k):qD (p::r) k=qD r k:=by simp [qD,Xh,e]
def rO(kvs:List (κ×V))(k:κ)(v:V):(sD kvs k v).length<=kvs.length+1:=by
 unfold sD
 split
 ·rw [Ww];omega
 ·rw [WB,WG,Yg];omega
theorem RelO.getD{o:Option V}{u:Option Value}{d:V}{d':Value}(r:RelO o u)(rd:RelV d d'):RelV (o.getD d) (u.getD d'):=by
 cases o with
 | none=>cases u with
  | none=>exact rd
  | some _=>exact(show False from r).elim
 | some _=>cases u with
  | none=>exact(show False from r).elim
  | some _=>exact r
def KV.val{kvs:List (κ×V)}{vs:List (κ×Value)}(r:KV kvs vs)(k:κ):RelO (qD kvs k) (valueAt vs k):=by
 unfold KV at r
 induction r with
 | nil=>exact True.intro
 | @cons p q ps qs h t ih=>
  obtain⟨h1,h2⟩:=h
  by_cases e:p.1=k
  ·have e':q.1=k:=h1.symm.trans e
   have b:valueAt (q::qs) k=U q.2:=by simp [valueAt,Xh,e']
   rw [tL e,b];exact h2
  ·have e':¬ q.1=k:=λz=>e (h1.trans z)
   have b:valueAt (q::qs) k=valueAt qs k:=by simp [valueAt,Xh,e']
   rw [pz e,b];exact ih
theorem KV.any{kvs:List (κ×V)}{vs:List (κ×Value)}(r:KV kvs vs)(k:κ):(kvs.any λkv=>decide (kv.1=k))=vs.any λkv=>decide (kv.1=k):=by
 unfold KV at r
 induction r with
 | nil=>rfl
 | cons h t ih=>rw [XE,XE,ih,h.1]
def KV.repl{kvs:List (κ×V)}{vs:List (κ×Value)}(r:KV kvs vs)(k:κ){y:V}{u:Value}(ry:RelV y u) :
  KV (kvs.map λkv=>if kv.1=k then (kv.1,y) else kv) (vs.map λkv=>if kv.1=k then (kv.1,u) else kv):=by
 unfold KV at r ⊢
 induction r with
 | nil=>exact .nil
 | @cons p q ps qs h t ih=>
  rw [Wx,Wx]
  refine .cons ?_ ih
  obtain⟨h1,h2⟩:=h
  by_cases e:p.1=k
  ·rw [WI e,WI (h1.symm.trans e)];exact⟨h1,ry⟩
  ·rw [if_neg e,if_neg (λz=>e (h1.trans z))];exact⟨h1,h2⟩
def KV.put{kvs:List (κ×V)}{vs:List (κ×Value)}(r:KV kvs vs)(k:κ){y:V}{u:Value}(ry:RelV y u):KV (sD kvs k y) (stored vs k u):=by
 unfold sD stored
 rw [r.any k]
 by_cases e:(vs.any λkv=>decide (kv.1=k))=true
 ·rw [WI e,WI e];exact r.repl k ry
 ·rw [if_neg e,if_neg e];exact Paired.snoc r ⟨rfl,ry⟩
theorem KV.length{kvs:List (κ×V)}{vs:List (κ×Value)}(r:KV kvs vs):kvs.length=vs.length:=aab r
end
def pY{P:Program}{w:World}{k:bt}{u:Value}(r:RelV (kV k) u):(bQ P w).is k u=true:=by
 cases k with
 | inl i=>obtain⟨t,e⟩:=(show ∃ t,u=Value.int i t from r);subst e;exact Ba P w i t
 | inr x=>obtain⟨t,e⟩:=(show ∃ t,u=Value.str x t from r);subst e;exact AZ P w x t
theorem xq{P:Program}{w:World}:∀ {ks:List bt} {us:List Value},Vals (ks.map kV) us->ItemsAre (bQ P w) ks us
 | [],_,r=>by rw [YH] at r;cases r;exact .nil
 | k::ks,_,r=>by
  rw [Wx] at r
  cases r with
  | cons h t=>exact .cons (pY h) (xq t)
abbrev KT(H:Hp):List (List bt×V)->List (List bt×Addr×Value)->Prop:=Paired λp q=>p.1=q.1/\H q.2.1=U (.tup (p.1.map kV))/\RelV p.2 q.2.2
def KT.val{H:Hp}{kvs:List (List bt×V)}{xs:List (List bt×Addr×Value)}(r:KT H kvs xs)(k:List bt):RelO (qD kvs k) ((atKey xs k).map (·.2)):=by
 induction r with
 | nil=>exact True.intro
 | @cons p q ps qs h t ih=>
  obtain⟨h1,_,h2⟩:=h
  by_cases e:p.1=k
  ·have e':q.1=k:=h1.symm.trans e
   have b:atKey (q::qs) k=U q.2:=by simp [atKey,Xh,e']
   rw [tL e,b];exact h2
  ·have e':¬ q.1=k:=λz=>e (h1.trans z)
   have b:atKey (q::qs) k=atKey qs k:=by simp [atKey,Xh,e']
   rw [pz e,b];exact ih
section
variable{P:Program}{w:World}{H:Hp}{h:Heap}{a:Addr}
def RH{u:HO}(ok:HOk P w H h)(e:Rd H a u):ObjOk P w H h a u:=e.ok ok
def xK{kvs:List (bt×V)}(ok:HOk P w H h)(e:Rd H a (.dK kvs)):kvs.length<=sizeLine/\(a == sysModules)=false/\∃ vs,KV kvs vs/\h.DictOf (bQ P w) a vs:=
 show ObjOk P w H h a (.dK kvs) from RH ok e
def NB{kvs:List (bt×V)}(ok:HOk P w H h)(e:H a=U (.dK kvs)):kvs.length<=sizeLine/\(a == sysModules)=false/\∃ vs,KV kvs vs/\h.DictOf (bQ P w) a vs:=xK ok (.inl e)
def zi{ks:List bt}(ok:HOk P w H h)(e:H a=U (.tup (ks.map kV))):(tupleKind (bQ P w)).is h ks a:=by
 obtain⟨_,its,r,o,h1,h2,⟨n,h3⟩,_⟩:=(show ObjOk P w H h a (.tup (ks.map kV)) from ok a _ e)
 exact⟨o,its.toArray,n,h1,h2,h3,by simpa using xq r⟩
def Cr{kvs:List (List bt×V)}(ok:HOk P w H h)(e:Rd H a (.dT kvs)):kvs.length<=sizeLine/\(a == sysModules)=false /\
  ∃ xs,KT H kvs xs/\h.DictOfH (tupleKind (bQ P w)) a xs:=by
 obtain⟨z,y,xs,r,o,es,ep,h1,h2,h3,h4,h5⟩:=(show ObjOk P w H h a (.dT kvs) from RH ok e)
 refine⟨z,y,xs,r,o,es,ep,h1,h2,h3,h4,λx hx=>?_,h5⟩
 have all:∀ {l:List (List bt×V)} {m:List (List bt×Addr×Value)},KT H l m->∀ x∈m,(tupleKind (bQ P w)).is h x.1 x.2.1:=by
  intro l m q
  induction q with
  | nil=>intro x hx;exact nomatch hx
  | @cons p q ps qs hq t ih=>
   intro x hx
   rcases WM.mp hx with e | hx
   ·subst e
    exact zi ok (by rw [<- hq.1];exact hq.2.1)
   ·exact ih x hx
 exact all r x hx
end
def DGet(H:Hp)(a:Addr)(y:V)(r:Option V):Prop:=
 (∃ kvs k,Rd H a (.dK kvs)/\y=kV k/\r=qD kvs k)\/∃ kvs k b,Rd H a (.dT kvs)/\y=.ref b/\H b=U (.tup (k.map kV))/\r=qD kvs k
theorem DGet.k{H:Hp}{a:Addr}{kvs:List (bt×V)}{k:bt}(e:H a=U (.dK kvs)):DGet H a (kV k) (qD kvs k):=.inl ⟨kvs,k,.inl e,rfl,rfl⟩
section
variable{X:Cx}{pins:List (Addr×Obj)}{σ:St}{H:Hp}{s:Shared}{a:Addr}{y v:V}{u r:Value}{o:Option V}{A:Around}{E:Value->Shared->Prop}
def Inv.big(I:Inv X pins σ H s):sysModules<s.heap.objs.size:=by
 have h:mainGlobals<s.heap.objs.size:=(I.mod.glob.keeps I.bk).lt
 exact ZA (by decide) h
def Jf{Q:Value->Shared->Prop}(hu:A.units+1<cLine)(I:Inv X pins σ H s)(g:DGet H a y (U v))(ry:RelV y u)(h:∀ w' s',Inv X pins σ H s'->RelV v w'->Q w' s') :
  wpAny (model X.prog X.w) A (getItem (.ref a) u) Q E s:=by
 rcases g with ⟨kvs,k,e,ey,l⟩ | ⟨kvs,k,b,e,ey,eb,l⟩
 ·subst ey
  obtain⟨z,hd,vs,rel,dd⟩:=xK I.hok e
  obtain⟨w',hw,rw'⟩:=RelO.some_of (v:=v) (o:=valueAt vs k) (by rw [l];exact rel.val k)
  exact wpAny_getItem_of (pY ry) dd.mapOf hw (h w' _ (I.tok _) rw')
 ·subst ey
  cases (show u=Value.ref b from ry)
  obtain⟨z,hd,xs,rel,dd⟩:=Cr I.hok e
  obtain⟨w',hw,rw'⟩:=RelO.some_of (v:=v) (o:=(atKey xs k).map (·.2)) (by rw [l];exact rel.val k)
  obtain⟨p,hp,hp2⟩:=aaf.mp hw
  refine wpAny_getItem_heap (Zm hu) (zi I.hok eb) dd hp ?_
  rw [hp2]
  exact h w' _ (I.tok _) rw'
def GE{h':Heap}{t':Nat}{ob:HO}(I:Inv X pins σ H s)(mu:Mut (H a))(hs:Heap.SameBut a s.heap h')(he:∃ q,h'.get? a=U q)(new:ObjOk X.prog X.w (upd H a ob) h' a ob) :
  Inv X pins σ (upd H a ob) { s with heap:=h',toks:=t' }:=
 I.write (x:=a) (e:=a) mu (.inl rfl) (λb q hb z=>(hs.2 b hb).trans z) he new
def NC{P:Program}{w:World}{H':Hp}{h':Heap}{kvs:List (bt×V)}{vs:List (bt×Value)}(z:kvs.length<=sizeLine)(hd:(a == sysModules)=false)(rel:KV kvs vs)(dd:h'.DictOf (bQ P w) a vs) :
  ObjOk P w H' h' a (.dK kvs):=⟨z,hd,vs,rel,dd⟩
end
section
variable{X:Cx}{pins:List (Addr×Obj)}{σ:St}{H:Hp}{s:Shared}{a:Addr}{kvs:List (bt×V)}{k:bt}{u:Value}{A:Around}{E:Value->Shared->Prop}
end
def Cv{X:Cx}{pins:List (Addr×Obj)}{σ:St}{H:Hp}{s:Shared}{a:Addr}{y:V}{o:Option V}(I:Inv X pins σ H s)(g:DGet H a y o):s.TypeIs (.ref a) "dict":=by
 rcases g with ⟨kvs,k,e,_,_⟩ | ⟨kvs,k,b,e,_,_,_⟩
 ·obtain⟨_,_,vs,_,dd⟩:=xK I.hok e
  exact dd.typeIs
 ·obtain⟨_,_,xs,_,dd⟩:=Cr I.hok e
  exact dd.typeIs
section
variable{X:Cx}{o i e value:Expr}{pos pos' tpos:Pos}{td ty tv:TE}
end
def Cu{P:Program}{w:World}{H:Hp}(h:Heap)(hb:sysModules<h.objs.size):ObjOk P w H (h.push { cls:=.type "dict",data:=.dict #[] }) h.objs.size (.dK []):=
 ⟨Yz _,Xv.mpr (Ne.symm (WU hb)),[],.nil,Heap.DictOf.new h⟩
def SN:TE:=λ_ H Q=>∀ p,H p=Y->Q (.ref p) (upd H p (.dK []))
section
variable{X:Cx}{pos:Pos}
def KY:PE X (.Dict [] [] pos) SN:=λpins s σ H Q I h=>
 wpAny_Dict_empty ⟨.ref s.heap.objs.size,_,I.laid (a:=s.heap.objs.size) (o:=.dK []) (t':=s.toks) (λ_ _ q=>Wp _ q) (WD _) (Cu s.heap I.big),rfl,h _ (I.hok.fresh (WD _))⟩
end
def xZ:List (TE×TE)->St->Hp->(List (V×V)->Hp->Prop)->Prop
 | [],_,H,Q=>Q [] H
 | (tk,tv)::r,σ,H,Q=>tk σ H λx H1=>tv σ H1 λy H2=>xZ r σ H2 λps H3=>Q ((x,y)::ps) H3
abbrev VV:List (V×V)->List (Value×Value)->Prop:=Paired λp q=>RelV p.1 q.1/\RelV p.2 q.2
def PPs(X:Cx)(pos:Pos)(keys:List (Option Expr))(values:List Expr)(trs:List (TE×TE)):Prop:=
 ∀ (pins:List (Addr×Obj)) (s:Shared) (σ:St) (H:Hp) (Q:List (V×V)->Hp->Prop),Inv X pins σ H s->xZ trs σ H Q ->
  wpAny (model X.prog X.w) X.A (evalPairs (pairTrees keys values X.env pos)) (λvs s'=>∃ ps H',Inv X pins σ H' s'/\VV ps vs/\Q ps H') X.xe s
def ON{X:Cx}{pos:Pos}:PPs X pos [] [] []:=λpins s σ H Q I h=>pairTrees_nil_walk ⟨[],H,I,.nil,h⟩
def KL{X:Cx}{pos:Pos}{k v:Expr}{ks:List (Option Expr)}{vs:List Expr}{tk tv:TE}{trs:List (TE×TE)}(hk:PE X k tk)(hv:PE X v tv)(hr:PPs X pos ks vs trs) :
  PPs X pos (U k::ks) (v::vs) ((tk,tv)::trs):=λpins s σ H Q I h=>
 pairTrees_cons_walk (dh (hk pins s σ H _ I h) λu s1 ⟨x,H1,I1,rx,q1⟩=>dh (hv pins s1 σ H1 _ I1 q1) λw2 s2 ⟨y,H2,I2,ry,q2⟩=>
  dh (hr pins s2 σ H2 _ I2 q2) λws s3 ⟨ps,H3,I3,rel,q3⟩=>⟨(x,y)::ps,H3,I3,.cons ⟨rx,ry⟩ rel,q3⟩)
noncomputable def dH(kvs more:List (bt×V)):List (bt×V):=more.foldl (λacc kv=>sD acc kv.1 kv.2) kvs
def KV.merge:∀ {more:List (bt×V)} {rs:List (bt×Value)} {kvs:List (bt×V)} {vs:List (bt×Value)},KV more rs->KV kvs vs->KV (dH kvs more) (merged vs rs):=by
 intro more rs kvs vs r
 unfold KV at r
 induction r generalizing kvs vs with
 | nil=>intro q;exact q
 | @cons p q ps qs h t ih=>
  intro r0
  have e:KV (sD kvs p.1 p.2) (stored vs q.1 q.2):=by
   have:=r0.put p.1 h.2
   rw [<- h.1];exact this
  exact ih e
theorem kG:∀ (more kvs:List (bt×V)),(dH kvs more).length<=kvs.length+more.length
 | [],kvs=>by show kvs.length<=kvs.length+0;omega
 | p::r,kvs=>by
  have h1:=kG r (sD kvs p.1 p.2)
  have h2:=rO kvs p.1 p.2
  show (dH (sD kvs p.1 p.2) r).length<=_
  rw [WG];omega
theorem vx{P:Program}{w:World}:∀ {kvs:List (bt×V)} {ws:List (Value×Value)},VV (kvs.map λkv=>(kV kv.1,kv.2)) ws->∃ rs,Carries (bQ P w) ws rs/\KV kvs rs
 | [],_,r=>by rw [YH] at r;cases r;exact⟨[],True.intro,.nil⟩
 | p::kvs,_,r=>by
  rw [Wx] at r
  cases r with
  | @cons a b as bs h t=>
   obtain⟨rs,c,q⟩:=vx (P:=P) (w:=w) t
   obtain⟨b1,b2⟩:=b
   exact⟨(p.1,b2)::rs,⟨pY h.1,rfl,c⟩,.cons ⟨rfl,h.2⟩ q⟩
def tDisp(trs:List (TE×TE)):TE:=λσ H Q=>∀ p,H p=Y->xZ trs σ (upd H p (.dK [])) λps H2=>H2 p=U (.dK [])/\∃ kvs:List (bt×V),ps=kvs.map (λkv=>(kV kv.1,kv.2))/\kvs.length<=15/\Q (.ref p) (upd H2 p (.dK (dH [] kvs)))
def FF{X:Cx}{pos:Pos}{keys:List (Option Expr)}{values:List Expr}{trs:List (TE×TE)}(h:PPs X pos keys values trs)(hall:keys.all (·.isSome)=true)(hl:keys.length=values.length)(h0:keys≠[])
  (h15:keys.length<=15):PE X (.Dict keys values pos) (tDisp trs):=by
 intro pins s σ H Q I q
 have hn:=I.hok.fresh (WD s.heap.objs.size)
 have I1:=I.laid (a:=s.heap.objs.size) (o:=.dK []) (h':=s.heap.push { cls:=.type "dict",data:=.dict #[] }) (t':=s.toks) (λ_ _ q=>Wp _ q) (WD _) (Cu s.heap I.big)
 refine wpAny_Dict_walk (knd:=bQ X.prog X.w) hall hl h0 h15 (dh (h pins _ σ _ _ I1 (q _ hn)) λws s2 ⟨ps,H2,I2,rel,e,kvs,ep,lk,q2⟩=>?_)
 subst ep
 obtain⟨rs,c,rk⟩:=vx (P:=X.prog) (w:=X.w) rel
 obtain⟨z,hd,vs0,r0,dd⟩:=NB I2.hok e
 cases r0
 refine⟨rs,c,dd,λh' dd' hs=>⟨.ref s.heap.objs.size,_,?_,rfl,q2⟩⟩
 have hz:(dH [] kvs).length<=sizeLine:=by
  have h1:=kG kvs []
  rw [Yg] at h1
  rw [ZL];omega
 have he:∃ q,h'.get? s.heap.objs.size=U q:=let ⟨q,_,_,hq,_⟩:=dd';⟨q,hq⟩
 exact GE I2 (by rw [e];exact True.intro) hs he (NC hz hd (rk.merge .nil) dd')
def IsD(H:Hp)(a:Addr):Prop:=(∃ kvs,Rd H a (.dK kvs))\/∃ kvs,Rd H a (.dT kvs)
def UK{X:Cx}{pins:List (Addr×Obj)}{σ:St}{H:Hp}{s:Shared}{a:Addr}(I:Inv X pins σ H s)(d:IsD H a) :
  s.TypeIs (.ref a) "dict"/\(∀ b,Value.ref a=.ref b->∃ ob,s.heap.get? b=U ob/\ob.dict=Y)/\(a == sysModules)=false:=by
 rcases d with ⟨kvs,e⟩ | ⟨kvs,e⟩
 ·obtain⟨_,hd,vs,_,dd⟩:=xK I.hok e
  refine⟨dd.typeIs,λb q=>?_,hd⟩
  cases q
  obtain⟨ob,_,_,h1,h2,_⟩:=dd
  exact⟨ob,h1,h2.2.1⟩
 ·obtain⟨_,hd,xs,_,dd⟩:=Cr I.hok e
  refine⟨dd.typeIs,λb q=>?_,hd⟩
  cases q
  obtain⟨ob,_,_,h1,h2,_⟩:=dd
  exact⟨ob,h1,h2.2.1⟩
section
variable{X:Cx}{pins:List (Addr×Obj)}{σ:St}{H:Hp}{s:Shared}{a:Addr}{y d:V}{u r:Value}{o:Option V}{A:Around}{E:Value->Shared->Prop}
def VM{Q:Value->Shared->Prop}(hu:A.units+1<cLine)(I:Inv X pins σ H s)(g:DGet H a y o)(ry:RelV y u)(h:∀ w' s',Inv X pins σ H s'->RelV (o.getD .non) w'->Q w' s') :
  wpAny (model X.prog X.w) A (call (.builtin "dict.get") [.ref a,u]) Q E s:=by
 rcases g with ⟨kvs,k,e,ey,l⟩ | ⟨kvs,k,b,e,ey,eb,l⟩
 ·subst ey
  obtain⟨z,hd,vs,rel,dd⟩:=xK I.hok e
  refine Za YD dd.typeIs YU (F.args_dict_get_2 _ _) (meets_dict_get (bQ X.prog X.w) a (pY ry) hd) ⟨_,dd.mapOf,h _ _ (I.tok _) ?_⟩
  rw [l]
  exact(rel.val k).getD rfl
 ·subst ey
  cases (show u=Value.ref b from ry)
  obtain⟨z,hd,xs,rel,dd⟩:=Cr I.hok e
  refine Za YD dd.typeIs YU (F.args_dict_get_2 _ _) (meetsH_dict_get (tupleKind (bQ X.prog X.w)) a b hd) ⟨Zm hu,k,xs,zi I.hok eb,dd,h _ _ (I.tok _) ?_⟩
  rw [l]
  exact(rel.val k).getD rfl
def VL{Q:Value->Shared->Prop}(hu:A.units+1<cLine)(I:Inv X pins σ H s)(g:DGet H a y o)(ry:RelV y u)(rd:RelV d r)(h:∀ w' s',Inv X pins σ H s'->RelV (o.getD d) w'->Q w' s') :
  wpAny (model X.prog X.w) A (call (.builtin "dict.get") [.ref a,u,r]) Q E s:=by
 rcases g with ⟨kvs,k,e,ey,l⟩ | ⟨kvs,k,b,e,ey,eb,l⟩
 ·subst ey
  obtain⟨z,hd,vs,rel,dd⟩:=xK I.hok e
  refine Za YD dd.typeIs YU (F.args_dict_get_3 _ _ _) (meets_dict_get_default (bQ X.prog X.w) a (pY ry) hd r) ⟨_,dd.mapOf,h _ _ (I.tok _) ?_⟩
  rw [l]
  exact(rel.val k).getD rd
 ·subst ey
  cases (show u=Value.ref b from ry)
  obtain⟨z,hd,xs,rel,dd⟩:=Cr I.hok e
  refine Za YD dd.typeIs YU (F.args_dict_get_3 _ _ _) (meetsH_dict_get_default (tupleKind (bQ X.prog X.w)) a b hd r) ⟨Zm hu,k,xs,zi I.hok eb,dd,h _ _ (I.tok _) ?_⟩
  rw [l]
  exact(rel.val k).getD rd
end
section
variable{X:Cx}{o e f:Expr}{apos cpos:Pos}{td ty tx:TE}
end
section
variable{X:Cx}{pins:List (Addr×Obj)}{σ:St}{H:Hp}{s:Shared}{a:Addr}{kvs:List (bt×V)}{A:Around}{E:Value->Shared->Prop}
end
section
variable{X:Cx}{pins:List (Addr×Obj)}{σ:St}{H:Hp}{s:Shared}{a:Addr}{y:V}{u:Value}{A:Around}{E:Value->Shared->Prop}
end
end L2
namespace Att
open PySem.W PySem.Calls
def sN{P:Params}{h:Heap}:∀ (ns:List Int) (vs:List Value),WellAll P h vs (ns.map WData.int)->IntsAre vs ns:=by
 intro ns
 induction ns with
 | nil=>
  intro vs w
  rw [YH] at w
  cases w
  exact .nil
 | cons n ns ih=>
  intro vs w
  rw [Wx] at w
  cases w with
  | cons a b=>
   cases a
   exact .cons _ _ (ih _ b)
def Hj{l:OpenLaw}{n:Nat}(hn:l.most=U n){P:Params}{h:Heap}{args:List WData}{vals:List Value}
  (hpre:l.row.toRowW.claim.pre args=true) (hwl:WellAll P h vals args) :
  ∃ a vs ns,vals=[Value.ref a]/\args=[WData.list (ns.map WData.int)]/\h.get? a=U { cls:=.type "list",data:=.seq vs.toArray }/\IntsAre vs ns/\ns.length<=n:=by
 have hsh:WShape.hasAll [] args [.list .int]=true:=(pre_splitW hpre).1
 have hc:l.pre.holds [] { args:=args } = true:=(pre_splitW hpre).2
 obtain⟨d,r,rfl,h1,h2⟩:=hasAllW_cons hsh
 obtain rfl:=hasAllW_nil h2
 obtain⟨xs,rfl,h3⟩:=hasW_list h1
 obtain⟨ns,rfl⟩:=items_int h3
 have hlen:ns.length<=n:=by
  unfold OpenLaw.pre at hc
  have h4:(WTm.not (.lt (.lit (.int (n:Int))) (.len (.arg 0)))).holds [] { args:=[.list (ns.map .int)] } = true:=by
   have h4:=(holds_andW hc).1
   rw [hn] at h4
   exact h4
  have h5:=condW_of h4 (w_not (w_lt w_lit (w_len_list (w_arg rfl))))
  rw [Ww] at h5
  refine Nat.le_of_not_lt λq=>?_
  have q':(n:Int)<((ns.length:Nat):Int):=by omega
  first
   | (rw [WA q'] at h5;exact absurd h5 (by decide))
   | (simp at h5;omega)
 cases hwl with
 | cons w1 w2=>
  cases w2
  cases w1 with
  | list ho hall=>exact⟨_,_,ns,rfl,rfl,ho,sN ns _ hall,hlen⟩
def Ht(l:OpenLaw)(args:List WData):l.row.toRowW.claim.post args (.bool true) args=true:=
 postW_of (r:=l.row.toRowW) (X:=(true == true))
  (show WShape.has [] (.bool true) .bool=true by first | rfl | decide | simp [WShape.has,WShape.arms,WShape.armsAll])
  (show (WTm.eq .res (.lit (.bool true))).value [] { args:=args,res:=U (.bool true),after:=args } = U (.bool (true == true)) from w_eq_bool (w_res rfl) w_lit) rfl
def CJ{l:OpenLaw}{n:Nat}{q:Program}{loose:List Str}{XP:(Str->Option Value)->Heap->Prop}{YP:World->Heap->Prop}{d:DefRec}
  (hn:l.most=U n) (hdf:d.params.defaults=[])
  (call:∀ (w:World) (s₀ s₁:Shared) (mg mb:Str->Option Value) (fa:Addr) (o:Obj) (pm cd doc:Value) (a:Addr) (vs:List Value) (ns:List Int),
   Ground q loose [] XP w s₀ mg mb s₁.heap->YP w s₁.heap ->
   s₁.heap.get? fa=U o->o.data=.func (docDef d.name d.params d.body d.scope pm cd doc)->s₁.heap.CodeRec cd d.name->mg d.name=U (.ref fa) ->
   s₁.heap.get? a=U { cls:=.type "list",data:=.seq vs.toArray }->IntsAre vs ns->ns.length<=n->s₁.gens = #[] ->
   codeAny (model l.prog w) callerA (.call (.ref fa) ⟨[.ref a],[]⟩) (λr s'=>r=.ok (.ret (.bool true))/\OldK s₁.heap s'.heap/\s'.os=s₁.os/\AllBare s'.gens) s₁) :
  WalkO q loose XP YP l.row.toRowW d [] (λf vs=>PySem.call f vs):=by
 intro w s₀ s₁ mg mb G Y0 fa o pm cd doc dV kV ho hd hcd hD hmg hg args vals as hpre hlay hrd hwl hlo
 obtain rfl:dV=.none:=Dflts.none hD hdf
 obtain rfl:kV=.none:=Dflts.noKw hD
 obtain⟨a,vs,ns,rfl,rfl,hobj,hints,hlen⟩:=Hj hn hpre hwl
 refine enter_call (YG (call w s₀ s₁ mg mb fa o pm cd doc a vs ns G Y0 ho (fd_plain hd) hcd hmg hobj hints hlen hg) λr s' hq=>?_)
 obtain⟨rfl,h2,h3,h4⟩:=hq
 exact⟨.inl ⟨.bool true,.bool true,[],rfl,λ_=>rfl,.bool true,Ht l _,λ_=>⟨List.Pairwise.nil,λ_ hm=>(nomatch hm)⟩⟩,h2,h3,h4⟩
section
variable{prog:Program}{w:World}{A:Around}{E:Value->Shared->Prop}{s:Shared}{K:Frag}
end
end Att
namespace L2
theorem wG:∀ {vs:List Value} {ns:List Int},IntsAre vs ns->Vals (ns.map V.int) vs
 | _,_,.nil=>.nil
 | _,_,.cons n t h=>.cons ⟨t,rfl⟩ (wG h)
def Wj(H:Hp):Prop:=∀ b,H b=Y\/∃ o xs,H b=U (.frz o (.lst xs))
def LP{P:Program}{w:World}{K:W.Frag}{mg mb:Str->Option Value}{CX:JH}{k:Nat}{fa a:Addr}{fd:FuncData}{x:Str}{sp:Sp}{s₁:Shared}{vs:List Value}{ns:List Int}
  (KX:K.In s₁.heap) (hns:s₁.heap.Ns mainGlobals mg) (hb:s₁.heap.Ns builtinsNs mb) (hbb:∀ x:Str,x ≠ "__name__"->mb x=bootBuiltins x) (hlim:s₁.heap.NoLimit) (hg:s₁.gens = #[])
  (ha:s₁.heap.get? a=U { cls:=.type "list",data:=.seq vs.toArray }) (hi:IntsAre vs ns) (hl:ns.length<=sizeLine) (hr:Room k callerA)
  (F:∀ base:Heap,K.In base->base.Ns mainGlobals mg->FnOk P w K mg base CX k fa fd [x] sp) (hbind:∀ (s:Shared) (u:Value),BindsTo s fd ⟨[u],[]⟩ [(x,u)])
  (hsp:∀ H:Hp,Wj H->my K H a (ns.map V.int)->sp [.ref a] H (λv _=>v=.bl true) λ_ _ _=>False)
  (hCX:∀ H e s',CX [] H s₁ (λ_ _ _=>False) e s'->False) :
  codeAny (model P w) callerA (.call (.ref fa) ⟨[.ref a],[]⟩) (λr s'=>r=.ok (.ret (.bool true))/\OldK s₁.heap s'.heap/\s'.os=s₁.os/\AllBare s'.gens) s₁:=by
 have rv:=wG hi
 have lenV:=hi.length
 have core:∀ H:Hp,Wj H->my K H a (ns.map V.int)->HOk P w H s₁.heap->(∀ b,H b≠Y->b=a)->(H a≠Y->K.lookup a=Y) ->
   codeAny (model P w) callerA (.call (.ref fa) ⟨[.ref a],[]⟩) (λr s'=>r=.ok (.ret (.bool true))/\OldK s₁.heap s'.heap/\s'.os=s₁.os/\AllBare s'.gens) s₁:=by
  intro H hO hS hok hA hK
  have base_of:∀ {b:Addr} {o:Obj},s₁.heap.get? b=U o->H b=Y->(zA s₁.heap H).get? b=U o:=λe n=>Mj e n
  have noA:∀ {b:Addr} {o:Obj} {es:Array DictEntry} {ep:Nat},s₁.heap.get? b=U o->o.data=.dict es ep->H b=Y:=λ{b o es ep} e d=>by
   cases q:H b with
   | none=>rfl
   | some u=>
    have e':b=a:=hA b (by rw [q];simp)
    subst e'
    rw [ha] at e;cases e
    have d':Data.seq vs.toArray _=Data.dict es ep:=d
    cases d'
  have nsK:∀ {b:Addr} {m:Str->Option Value},s₁.heap.Ns b m->(zA s₁.heap H).Ns b m:=λ{b m} ⟨o,es,ep,e,d,r⟩=>⟨o,es,ep,base_of e (noA e d),d,r⟩
  have hKb:K.In (zA s₁.heap H):=λb o e=>base_of (KX b o e) (by
   cases q:H b with
   | none=>rfl
   | some u=>
    have e':b=a:=hA b (by rw [q];simp)
    subst e'
    rw [hK (by rw [q];simp)] at e;cases e)
  have hM:Mod K mg (zA s₁.heap H):=⟨hKb,nsK hns,⟨mb,nsK hb,hbb⟩,let ⟨mc,h1,h2⟩:=hlim;⟨mc,nsK h1,h2⟩⟩
  have e0:RB P w K mg (zA s₁.heap H) callerA [] s₁ H:=⟨rfl,hM,λb o e=>Pp e,Zd (Iy _ _),trivial,λb hb=>absurd (show b∈([]:List Addr) from hb) (by simp),hok,.of_eq hg⟩
  refine YG ((F _ hKb (nsK hns)).run callerA [] s₁ H ⟨[.ref a],[]⟩ [.ref a] [.ref a] _ _ hr e0 (hbind s₁ (.ref a)) (.cons rfl .nil) (hsp H hO hS)) λr s' h=>?_
  cases r with
  | error e=>exact(hCX H e s' h).elim
  | ok fl=>
   cases fl with
   | next=>exact False.elim h
   | brk=>exact False.elim h
   | cont=>exact False.elim h
   | ret u=>
    obtain⟨v,H',os,bare,un,hok',r',q⟩:=h
    have q':v=.bl true:=q
    subst q'
    obtain rfl:u=Value.bool true:=r'
    refine⟨rfl,OldK.of_keep λb o e=>?_,os,bare⟩
    cases q:H b with
    | none=>exact un.keep b o e q (by intro z;exact absurd (show b∈([]:List Addr) from z) (by simp)) (by simp)
    | some u=>
     rcases hO b with z | ⟨ob,xs,z⟩
     ·rw [q] at z;cases z
     ·have z2:=un.frzs b ob _ z
      obtain⟨e1,_⟩:=hok b _ z
      obtain⟨e2,_⟩:=hok' b _ z2
      rw [e] at e1;cases e1
      exact e2
 cases hk:K.lookup a with
 | some o=>
  have e:=KX a o hk
  rw [ha] at e
  cases e
  refine core (λ_=>Y) (λ_=>.inl rfl) (.inr ⟨_,vs.toArray,_,hk,rfl,rfl,rfl,by rw [Wt,lenV];exact hl,by simpa using rv⟩) (λb u z=>by have z':(Y:Option HO)=U u:=z;cases z') (λb z=>absurd rfl z) λz=>absurd rfl z
 | none=>
  refine core (λb=>if b=a then U (.frz { cls:=.type "list",data:=.seq vs.toArray } (.lst (ns.map V.int))) else Y) (λb=>?_) (.inl (.inr ⟨{ cls:=.type "list",data:=.seq vs.toArray },WI rfl⟩)) (λb u z=>?_) (λb z=>?_) λ_=>hk
  ·by_cases hb:b=a
   ·exact .inr ⟨_,_,WI hb⟩
   ·exact .inl (if_neg hb)
  ·by_cases hb:b=a
   ·have z':=(WI hb).symm.trans z
    cases z'
    subst hb
    exact⟨ha,by rw [Ww];exact hl,vs,_,rv,ha⟩
   ·have z':=(if_neg hb).symm.trans z
    cases z'
  ·by_cases hb:b=a
   ·exact hb
   ·exact absurd (if_neg hb) z
def Oj{l:W.OpenLaw}{n k:Nat}{q:Program}{loose:List Str}{XP:(Str->Option Value)->Heap->Prop}{YP:World->Heap->Prop}{d:DefRec}{K:Params->W.Frag}{CX:World->JH}{sp:World->Sp}{x:Str}
  (hn:l.most=U n) (hn2:n<=sizeLine) (hdf:d.params.defaults=[]) (hr:Room k callerA)
  (hY:∀ (w:World) (h:Heap),YP w h->(K w.params).In h)
  (F:∀ (w:World) (mg:Str->Option Value) (fa:Addr) (h:Heap),(K w.params).In h->h.Ns mainGlobals mg->mg d.name=U (.ref fa) ->
   ∃ fd:FuncData,(∀ (s:Shared) (u:Value),BindsTo s fd ⟨[u],[]⟩ [(x,u)]) /\
    ∀ base:Heap,(K w.params).In base->base.Ns mainGlobals mg->FnOk l.prog w (K w.params) mg base (CX w) k fa fd [x] (sp w))
  (hsp:∀ (w:World) (H:Hp) (a:Addr) (ns:List Int),ns.length<=n->Wj H->my (K w.params) H a (ns.map V.int)->sp w [.ref a] H (λv _=>v=.bl true) λ_ _ _=>False)
  (hCX:∀ (w:World) (H:Hp) (s:Shared) (e:Value) (s':Shared),CX w [] H s (λ_ _ _=>False) e s'->False) :
  W.WalkO q loose XP YP l.row.toRowW d [] (λf vs=>PySem.call f vs):=by
 refine Att.CJ hn hdf λw s₀ s₁ mg mb fa o pm cd doc a vs ns G Y0 ho hd hcd hmg hobj hints hlen hg=>?_
 have KX:=hY w _ Y0
 obtain⟨fd,hb,hF⟩:=F w mg fa _ KX G.T.g hmg
 exact LP KX G.T.g G.T.b G.T.builtins G.T.nolimit hg hobj hints (WT hlen hn2) hr hF hb (λH hO hS=>hsp w H a ns hlen hO hS) λH e s'=>hCX w H s₁ e s'
noncomputable def je(s:Stmt):Arguments:=match s with
 | .FunctionDef _ a _ _ _ _ _ _ _ _=>a
 | _=>{ posonlyargs:=[],args:=[],vararg:=Y,kwonlyargs:=[],kw_defaults:=[],kwarg:=Y,defaults:=[] }
noncomputable def aN(s:Stmt):List Stmt:=match s with
 | .FunctionDef _ _ b _ _ _ _ _ _ _=>b
 | _=>[]
noncomputable def az(s:Stmt):Scope:=match s with
 | .FunctionDef _ _ _ _ _ _ sc _ _ _=>sc
 | _=>{ kind:=.function,names:=[],isGenerator:=false,isCoroutine:=false }
noncomputable abbrev GO:JH:=λ_ _ _ _ _ _=>False
noncomputable abbrev E0:XK:=λ_ _ _=>False
def Ld{X:Cx}:zZ GO X E0:=λ_ _ _ _ _ _ _ h=>h.elim
structure Fun(K:W.Frag)(x qual:Str)(st:Stmt)(f:Addr)(fd:FuncData):Prop where
 ex:∃ (oc:Value) (od:Option Addr) (kV doc pm:Value) (an:Option Addr) (cdv ct:Value) (osl:Array (Option Value)),
  fd=W.fnOf x qual (je st) (aN st) (az st) .none kV doc pm an cdv ct/\K.lookup f=U ⟨oc,od,.func fd,osl⟩/\W.codeIn K cdv qual=true
 kp:W.keepIn K (.ref f)=true
section
variable{P:Program}{w:World}{K:W.Frag}{mg:Str->Option Value}{base:Heap}
def Fun.ok{x qual:Str}{st:Stmt}{f:Addr}{fd:FuncData}{N ps:List Str}{k:Nat}{sp:Sp}(F:Fun K x qual st f fd)(S:aV N ps (az st))(len:∀ vs H Q E,sp vs H Q E->vs.length=ps.length)
  (hbody:∀ (cdv:Value) (A:Around) (outer:List Env) (s:Shared) (H:Hp) (vs:List V) (Q:VK) (E:XK),Room k (A.deeper (envOfC qual (az st) s.heap.objs.size f cdv))->sp vs H Q E ->
   ∃ t,PSs (wz GO P w K mg base N qual (az st) f cdv A outer s H E).nox (aN st) t/\t { nx:=λ_ H'=>Q .non H',rt:=Q } (start N vs) H):FnOk P w K mg base GO (k+1) f fd ps sp:=by
 obtain⟨oc,od,kV,doc,pm,an,cdv,ct,osl,rfl,lk,hcd⟩:=F.ex
 refine fn_of lk hcd S len λA outer s H vs Q E hr hsp=>?_
 obtain⟨t,h,q⟩:=hbody cdv A outer s H vs Q E hr hsp
 exact⟨t,h.nox,q⟩
def Fun.binds{x qual:Str}{st:Stmt}{f:Addr}{fd:FuncData}{ps:List Str}(F:Fun K x qual st f fd)
  (h:∀ (kV doc pm:Value) (an:Option Addr) (cdv ct:Value) (us:List Value),us.length=ps.length->bindArgs (W.fnOf x qual (je st) (aN st) (az st) .none kV doc pm an cdv ct) ⟨us,[]⟩=pure (ps.zip us)):Binds K fd ps []:=by
 obtain⟨oc,od,kV,doc,pm,an,cdv,ct,osl,rfl,lk,hcd⟩:=F.ex
 exact .all (h kV doc pm an cdv ct)
def UO{x qual:Str}{st:Stmt}{f:Addr}{oc:Value}{od an:Option Addr}{osl:Array (Option Value)}{kV doc pm cdv ct:Value}(l:K.lookup f=U ⟨oc,od,.func (W.fnOf x qual (je st) (aN st) (az st) .none kV doc pm an cdv ct),osl⟩)
  (c:W.codeIn K cdv qual=true) (k:W.keepIn K (.ref f)=true):Fun K x qual st f (W.fnOf x qual (je st) (aN st) (az st) .none kV doc pm an cdv ct):=⟨⟨oc,od,kV,doc,pm,an,cdv,ct,osl,rfl,l,c⟩,k⟩
end
section
variable{X:Cx}
end
section
variable{κ:Type}[DecidableEq κ]
end
noncomputable def nD(cells:List (Str×Addr)):List (Str×NameKind)->List (Str×Addr)->List (Str×Addr)
 | [],acc=>acc
 | (n,k)::r,acc=>if k == .free then nD cells r ((n,(cells.lookup n).getD 0)::acc) else nD cells r acc
theorem iR{env:Env}:∀ (names:List (Str×NameKind)) (acc:List (Str×Addr)),(∀ x∈names,x.2=.free->(env.cells.lookup x.1).isSome=true) ->
  (forIn names acc λ(x:Str×NameKind) (r:List (Str×Addr))=>(do
   if x.2 == .free then do let c <- cellOf env x.1;pure (ForInStep.yield ((x.1,c)::r)) else pure (ForInStep.yield r):Sem (ForInStep (List (Str×Addr)))))=pure (nD env.cells names acc)
 | [],acc,_=>rfl
 | (n,k)::r,acc,h=>by
  rw [XH]
  cases hk:k == NameKind.free with
  | true=>
   have e:k=.free:=by simpa using hk
   have hs:=h (n,k) Wr e
   obtain⟨c,hc⟩:=XT.mp hs
   have hc':env.cells.lookup n=U c:=hc
   have hce:cellOf env n=pure c:=by unfold cellOf;rw [hc']
   simp only [YN,hce,hc',Option.getD_some,pure_bind,nD,hk]
   rw [iR r _ λx hx=>h x (Wu _ hx)]
  | false=>
   simp only [WZ,XW,pure_bind,nD,hk]
   exact iR r _ λx hx=>h x (Wu _ hx)
def oN{scope:Scope}{env:Env}(h:∀ x∈scope.names,x.2=.free->(env.cells.lookup x.1).isSome=true):closureFor scope env=pure (nD env.cells scope.names []):=by
 have q:=iR (env:=env) scope.names [] h
 unfold closureFor
 refine Eq.trans ?_ (Eq.trans (congrArg (λ(m:Sem (List (Str×Addr)))=>m >>= λcs=>pure cs) q) ?_)
 ·rfl
 ·rfl
theorem rn(cells:List (Str×Addr)):∀ (names:List (Str×NameKind)) (acc:List (Str×Addr)),(∀ x∈names,x.2=.free->(cells.lookup x.1).isSome=true)->(∀ y c,acc.lookup y=U c->cells.lookup y=U c) ->
  ∀ y c,(nD cells names acc).lookup y=U c->cells.lookup y=U c
 | [],_,_,ha=>ha
 | (n,k)::r,acc,h,ha=>by
  unfold nD
  split
  ·rename_i hk
   refine rn cells r _ (λx hx=>h x (Wu _ hx)) λy c e=>?_
   rw [Yy] at e
   split at e
   ·rename_i hy
    have hy':y=n:=by simpa using hy
    subst hy'
    obtain⟨c',hc'⟩:=XT.mp (h (y,k) Wr (by simpa using hk))
    have hc'':cells.lookup y=U c':=hc'
    rw [hc''] at e ⊢
    exact e
   ·exact ha y c e
  ·exact rn cells r _ (λx hx=>h x (Wu _ hx)) ha
theorem pj(cells:List (Str×Addr)):∀ (names:List (Str×NameKind)) (acc:List (Str×Addr)) (y:Str),(acc.lookup y).isSome=true->((nD cells names acc).lookup y).isSome=true
 | [],_,_,h=>h
 | (n,k)::r,acc,y,h=>by
  unfold nD
  split
  ·refine pj cells r _ y ?_
   rw [Yy]
   split
   ·rfl
   ·exact h
  ·exact pj cells r _ y h
theorem qx(cells:List (Str×Addr)):∀ (names:List (Str×NameKind)) (acc:List (Str×Addr)) (y:Str),(y,NameKind.free)∈names->((nD cells names acc).lookup y).isSome=true
 | [],_,_,h=>by simp at h
 | (n,k)::r,acc,y,h=>by
  unfold nD
  rcases WM.mp h with e | h
  ·cases e
   rw [WI (by rfl)]
   exact pj cells r _ _ (by rw [Yy];simp)
  ·split
   ·exact qx cells r _ y h
   ·exact qx cells r _ y h
theorem lH{scope:Scope}{env:Env}{y:Str}:∀ {names:List (Str×NameKind)},
  ((names.map λ(n,k)=>if (k == NameKind.free&&env.scope.kind == .function&&env.kindOf n == U .cell) then (n,NameKind.cell) else (n,k)).lookup y=U .cell \/
  (names.map λ(n,k)=>if (k == NameKind.free&&env.scope.kind == .function&&env.kindOf n == U .cell) then (n,NameKind.cell) else (n,k)).lookup y=U .free) ->
  (∀ x∈names,x.2≠.cell)->(y,NameKind.free)∈names
 | [],h,_=>by simp at h
 | (n,k)::r,h,hc=>by
  have ih:=@lH scope env y r
  have hr:∀ x∈r,x.2≠.cell:=λx hx=>hc x (Wu _ hx)
  rw [Wx] at h
  by_cases hq:(k == NameKind.free&&env.scope.kind == .function&&env.kindOf n == U .cell)=true
  ·have hk:k=.free:=by
    have:=hq
    simp only [Wq] at this
    simpa using this.1.1
   simp only [hq,YN] at h
   simp only [Yy] at h
   cases hy:y == n with
   | true=>
    have e:y=n:=by simpa using hy
    rw [e,hk]
    exact Wr
   | false=>
    simp only [hy] at h
    exact Wu _ (ih h hr)
  ·simp only [hq,WZ,XW] at h
   simp only [Yy] at h
   cases hy:y == n with
   | true=>
    simp only [hy] at h
    have e:y=n:=by simpa using hy
    rcases h with h | h
    ·exact absurd (WH h) (hc (n,k) Wr)
    ·rw [e,<- WH h]
     exact Wr
   | false=>
    simp only [hy] at h
    exact Wu _ (ih h hr)
noncomputable def qC(X:Cx)(N':List Str)(scope:Scope)(C:Addr)(s:Shared)(H:Hp)(fp:List Addr):Cx:=
 {X with N:=N',s₀:=s,H₀:=H,env:=compEnvC scope (nD X.env.cells scope.names []) C X.env,outer:=X.stack,ex:=fp,fn:=λ_=>false,pn:=[],xe:=λ_ _=>False }
def Rz(X:Cx)(ifs:List Expr)(t:TT):Prop:=
 ∀ (pins:List (Addr×Obj)) (s:Shared) (σ:St) (H:Hp) (Q:Bool->Hp->Prop),Inv X pins σ H s->t σ H Q->wpAny (model X.prog X.w) X.A (forIn ifs true λc r=>if r=true then do let ok <- isTrue c X.env (eval c X.env);pure (ForInStep.yield ok) else pure (ForInStep.yield r)) (TP X pins σ Q) X.xe s
def OH{X:Cx}:Rz X [] (λ_ H Q=>Q true H):=λ_ _ _ H _ I h=>wpAny_tests_nil ⟨H,I,h⟩
def OG{X:Cx}{c:Expr}{t:TT}(h:PT X c t):Rz X [c] t:=λpins s σ H Q I q=>wpAny_tests_one (h pins s σ H Q I q)
noncomputable def tN(e tg:Expr)(p0:Pos)(ifs:List Expr)(d:Nat)(it acc:Value)(env:Env)(bc:Sem Unit):Sem Fin:=do
 standAt p0
 let r <- pyNext it
 match r with
 | none=>pure (Fin.done Flow.next)
 | some v=>do
  letOwnedTupleGo tg it v
  assign tg env v
  let ok <- forIn ifs true λc r=>if r=true then do let ok <- isTrue c env (eval c env);pure (ForInStep.yield ok) else pure (ForInStep.yield r)
  if ok=true then do bc;again (.compLoop e d it acc env) else again (.compLoop e d it acc env)
noncomputable def Vl(elt:Expr)(acc:Value)(env:Env):Sem Unit:=do
 let x <- eval elt env
 let _ <- call (.builtin "list.append") [acc,x]
 pure ()
section
variable{prog:Program}{w:World}{A:Around}{R:Result->Shared->Prop}{s:Shared}
def nB{e elt tg:Expr}{gens:List Comprehension}{scope:Scope}{pos p0:Pos}{ifs:List Expr}{d:Nat}{it acc:Value}{env:Env}{bc:Sem Unit}(he:e=.ListComp elt gens scope pos)(htn:compTurn e d it acc env=tN e tg p0 ifs d it acc env bc)(I:Nat->Shared->Prop)
  (turn:∀ n s,I n s->wpAny (model prog w) A (pyNext it) (λr s₁=>match r with
   | none=>R (.ok .next) s₁
   | some v=>wpAny (model prog w) A (letOwnedTupleGo tg it v) (λ_ s₁'=>wpAny (model prog w) A (assign tg env v) (λ_ s₂=>
     wpAny (model prog w) A (forIn ifs true λc r=>if r=true then do let ok <- isTrue c env (eval c env);pure (ForInStep.yield ok) else pure (ForInStep.yield r)) (λok s₃=>
      if ok=true then wpAny (model prog w) A bc (λ_ s₅=>∃ m,m<n/\I m s₅) (λ_ _=>False) s₃
      else ∃ m,m<n/\I m s₃) (λ_ _=>False) s₂) (λ_ _=>False) s₁') (λ_ _=>False) s₁) (λ_ _=>False) s)
  (n:Nat) (h:I n s) :
  codeAny (model prog w) A (.compLoop e d it acc env) R s:=by
 refine codeAny_loop rfl I (λn s hI=>?_) n h
 subst he
 show wpAny _ A ((compTurn (.ListComp elt gens scope pos) d it acc env).onRaise (λx=>do noteFrame x env;theTreesLotGoes x)) _ _ s
 refine wpAny_noted ?_
 rw [htn]
 refine Wn (Zl (Wn (Xk (turn n s hI) (λr s₁ h₁=>?_) λ_ _ h'=>h'.elim)))
 cases r with
 | none=>exact Wz h₁
 | some v=>
  refine Wn (Xk h₁ (λ_ s₁' h₁'=>?_) λ_ _ h'=>h'.elim)
  refine Wn (Xk h₁' (λ_ s₂ h₂=>Wn (Xk h₂ (λok s₃ h₃=>?_) λ_ _ h'=>h'.elim)) λ_ _ h'=>h'.elim)
  cases ok with
  | false=>exact Wz ⟨rfl,h₃⟩
  | true=>exact Wn (Xk h₃ (λ_ s₅ h₅=>Wz ⟨rfl,h₅⟩) λ_ _ h'=>h'.elim)
end
abbrev TB:=St->Hp->(St->Hp->Prop)->Prop
def PB(X:Cx)(m:Sem Unit)(tb:TB):Prop:=
 ∀ (pins:List (Addr×Obj)) (s:Shared) (σ:St) (H:Hp) (Q:St->Hp->Prop),Inv X pins σ H s->tb σ H Q->wpAny (model X.prog X.w) X.A m (λ_ s'=>∃ σ' H',Inv X pins σ' H' s'/\Q σ' H') X.xe s
def tEm(te:TE)(p:Addr):TB:=λσ H Q=>te σ H λy H5=>∃ ys,H5 p=U (.lst ys)/\ys.length<sizeLine/\Q σ (upd H5 p (.lst (ys++[y])))
def FG{X:Cx}{elt:Expr}{te:TE}{p:Addr}(he:PE X elt te):PB X (Vl elt (.ref p) X.env) (tEm te p):=λpins s σ H Q I h=>by
 refine Wn (dh (he pins s σ H _ I h) λxv s8 ⟨y,H8,J8,r8,q8⟩=>?_)
 obtain⟨ys,hy,hz,q9⟩:=q8
 refine Wn (dh (wV _ s8 σ H8 (.ref p) [y] (.ref p) [xv] (λ_ H9=>H9=upd H8 p (.lst (ys++[y]))) J8 rfl (.cons r8 .nil) ⟨_,ys,y,rfl,rfl,hy,hz,rfl⟩) λ_ s9 ⟨_,H9,J9,_,e9⟩=>?_)
 subst e9
 exact Wz ⟨_,_,J9,q9⟩
def Ka(J:It)(g:TG)(tt:TT)(tb:TB)(σ:St)(H:Hp)(Q:St->Hp->Prop):Prop:=∃ W:Nat->Nat->St->Hp->Prop,(∃ m,W 0 m σ H)/\∀ i m σ' H',W i m σ' H' ->
 (J.stop i H'/\Q σ' H')\/(J.go i H'/\∀ x H2,J.yld i H' x H2->g x σ' H2 λσ2 H3=>tt σ2 H3 λok H4=>
  if ok=true then tb σ2 H4 λσ3 H5=>∃ m',m'<m/\W (i+1) m' σ3 H5 else ∃ m',m'<m/\W (i+1) m' σ2 H4)
def Jj{X:Cx}{e elt tg:Expr}{gens:List Comprehension}{scope:Scope}{pos p0:Pos}{ifs:List Expr}{d:Nat}{acc:Value}{bc:Sem Unit}{g:TG}{tt:TT}{tb:TB}{it:Addr}{fp:List Addr}{tn:Nat->Heap->Prop}{J:It}
  (hc:X.calm=true) (hx:∀ e s,X.xe e s->False) (hl:e=.ListComp elt gens scope pos) (htn:compTurn e d (.ref it) acc X.env=tN e tg p0 ifs d (.ref it) acc X.env bc) (hg:PG X tg g) (ht:Rz X ifs tt) (hb:PB X bc tb) (T:CK X.prog X.w X.K tg J fp it tn)
  {pins:List (Addr×Obj)} {s:Shared} {σ:St} {H:Hp} {Q:St->Hp->Prop} (I:Inv X pins σ H s) (st:tn 0 s.heap) (f2:∀ b∈fp,rC X pins H b) (h:Ka J g tt tb σ H Q) :
  codeAny (model X.prog X.w) X.A (.compLoop e d (.ref it) acc X.env) (λr s'=>∃ σ' H',r=.ok .next/\Inv X pins σ' H' s'/\Q σ' H') s:=by
 obtain⟨W,⟨m0,w0⟩,turn⟩:=h
 have no:∀ e s,X.xe e s->(λ(_:Value) (_:Shared)=>False) e s:=hx
 have stat:∀ {H':Hp},(∀ b∈fp,H' b=Y)->∀ b∈fp,rC X pins H' b:=λhn b hb=>⟨hn b hb,(f2 b hb).2⟩
 refine nB hl htn (λn s'=>∃ i σ' H',Inv X pins σ' H' s'/\tn i s'.heap/\(∀ b∈fp,H' b=Y)/\W i n σ' H') ?_ m0 ⟨0,_,_,I,st,λb hb=>(f2 b hb).1,w0⟩
 rintro n s3 ⟨i,σ3,H3,J3,st3,fr3,w3⟩
 rcases turn i n σ3 H3 w3 with ⟨stop,qn⟩ | ⟨go,step⟩
 ·refine dh (T.done X rfl rfl rfl hc i pins s3 σ3 H3 _ J3 (stat fr3) st3 stop) λr s4 ⟨hr,J4⟩=>?_
  subst hr
  exact⟨σ3,H3,rfl,J4,qn⟩
 ·refine dh (T.item X rfl rfl rfl hc i pins s3 σ3 H3 _ J3 (stat fr3) st3 go) λr s4 ⟨u,hr,h4⟩=>?_
  subst hr
  refine dh h4 λ_ s5 ⟨x,H5,J5,r5,y5,st5,fr5⟩=>?_
  have J5':=J5.pinned (stat fr5) (T.obj _ _ st5)
  refine Xk (hg _ s5 σ3 H5 x u _ J5' r5 (step x H5 y5)) (λ_ s6 ⟨σ6,H6,J6,q6⟩=>?_) no
  refine Xk (ht _ s6 σ6 H6 _ J6 q6) (λok s7 ⟨H7,J7,q7⟩=>?_) no
  have again:∀ {s':Shared} {σ7:St} {H7:Hp},Inv X (pins++ua fp s5.heap) σ7 H7 s'->(∃ m',m'<n/\W (i+1) m' σ7 H7)->∃ m,m<n/\∃ i σ' H',Inv X pins σ' H' s'/\tn i s'.heap/\(∀ b∈fp,H' b=Y)/\W i m σ' H':=λ{s' σ7 H7} J7 n7=>by
   obtain⟨m',hm,w7⟩:=n7
   refine⟨m',hm,i+1,σ7,H7,J7.unpinned,T.keep _ _ _ st5 λb hb o e=>(J7.pin (b,o) (Xf _ (Xf _ (lO hb e)))).1,λb hb=>?_,w7⟩
   obtain⟨o,e,d⟩:=T.obj _ _ st5 b hb
   exact(J7.pin (b,o) (Xf _ (Xf _ (lO hb e)))).2.1
  cases ok with
  | false=>
   rw [if_neg Bool.false_ne_true] at q7 ⊢
   exact again J7 q7
  | true=>
   rw [WI rfl] at q7 ⊢
   exact Xk (hb _ s7 σ6 H7 _ J7 q7) (λ_ s9 ⟨σ9,H9,J9,q9⟩=>again J9 q9) no
structure BlockOk(X:Cx)(N':List Str)(scope:Scope)(cap:List (Option Nat)):Prop where
 kind:scope.kind=.function
 nocell:∀ x∈scope.names,x.2≠.cell
 names:∀ x∈scope.names,x.2=.local->scope.names.lookup x.1=U .local
 free:∀ x∈scope.names,x.2=.free->(X.env.kindOf x.1=U .cell\/X.env.kindOf x.1=U .free)
 nd:N'.Nodup
 len:cap.length=N'.length
 cap:∀ (j i:Nat),cap[j]?=U (U i)->∃ y,N'[j]?=U y/\X.N[i]?=U y/\Ss X.env.scope y/\(X.env.kindOf y=U .cell\/X.env.kindOf y=U .free)/\((relabel scope X.env).names.lookup y=U .cell\/(relabel scope X.env).names.lookup y=U .free)
noncomputable def σB(cap:List (Option Nat))(σ:St):St:=cap.map λo=>o.bind λi=>(σ[i]?).join
section
variable{X:Cx}{pins:List (Addr×Obj)}{σ:St}{H:Hp}{s:Shared}{N':List Str}{scope:Scope}{cap:List (Option Nat)}{C:Addr}{fp:List Addr}
theorem BlockOk.cells(B:BlockOk X N' scope cap)(ok:X.Ok):∀ x∈scope.names,x.2=.free->(X.env.cells.lookup x.1).isSome=true:=λx hx hf=>by
 obtain⟨c,e⟩:=ok.has x.1 (B.free x hx hf)
 rw [e];rfl
def BlockOk.cl(B:BlockOk X N' scope cap)(ok:X.Ok):∀ y c,(nD X.env.cells scope.names []).lookup y=U c->X.env.cells.lookup y=U c:=
 rn _ _ _ (B.cells ok) λy c e=>by simp at e
def Inv.notStk(I:Inv X pins σ H s){b:Addr}(h1:b≠X.env.locals)(h2:b ∉ X.fs):b ∉ JG X.stack:=λz=>(WM.mp (I.stkSub b z)).elim h1 h2
def Inv.block{h4:Heap}{tk:Nat}{m0:Str->Option Value}(I:Inv X pins σ H s)(B:BlockOk X N' scope cap)(hfp:∀ b∈fp,rC X pins H b/\b<s.heap.objs.size)(hC:s.heap.objs.size<=C)
  (hk:∀ b o,s.heap.get? b=U o->h4.get? b=U o) (hn:h4.Ns C m0):Inv (qC X N' scope C s H fp) [] (σB cap σ) H { s with heap:=h4,toks:=tk }:=by
 have okX:=I.ok
 have hcl:=B.cl okX
 have cellC:∀ x c,(nD X.env.cells scope.names []).lookup x=U c->∃ v,s.heap.IsCell c v:=λx c e=>I.cell x c (hcl x c e)
 have neC:∀ b o,s.heap.get? b=U o->b≠C:=λb o e=>WU (WQ (Wy e) hC)
 refine⟨⟨okX.mod,B.kind,okX.glob,okX.blt,hC,λx y c e1 e2=>okX.inj x y c (hcl x c e1) (hcl y c e2),λx hx=>?_,λx c e _=>(by cases e),okX.hd,okX.frames,.inl rfl,λb hb=>⟨λz=>?_,λx c e z=>?_⟩,λb o e=>I.bs b o e,WT okX.bsz I.sz,λb o e hb=>?_,λb hb z=>?_,I.stack,I.stkFree⟩,
  rfl,I.bare,Un.kept hk,⟨m0,hn,λj y v e1 e2 e3=>?_⟩,λx c e=>?_,I.hok.fresh hC,λx c e=>I.freeC x c (hcl x c e),λp hp=>absurd (show p∈([]:List (Addr×Obj)) from hp) (by simp),I.hok.kept hk,?_⟩
 ·have q:=lH (scope:=scope) (env:=X.env) (y:=x) (names:=scope.names) hx B.nocell
  exact XT.mp (qx _ _ _ _ q)
 ·have z':b=C:=z
  exact absurd (hfp b hb).2 (by rw [z'];exact Nat.not_lt.mpr hC)
 ·exact(hfp b hb).1.2.2.2.2.1 x c (hcl x c e) z
 ·obtain⟨h0,h1,h2,h3,h4',h5⟩:=(hfp b hb).1
  rcases h3 with h3 | h3
  ·exact okX.noex b o e h3
  ·have:=(okX.bs b o e).1
   exact absurd (WQ (Wy this) h3) (XY _)
 ·obtain⟨h0,h1,h2,h3,h4',h5⟩:=(hfp b hb).1
  exact I.notStk h1 h2 z
 ·have e1':N'[j]?=U y:=e1
  unfold σB at e2
  rw [XV] at e2
  cases ec:cap[j]? with
  | none=>rw [ec] at e2;cases e2
  | some o=>
   rw [ec] at e2
   cases o with
   | none=>cases e2
   | some i=>
    obtain⟨y',n1,n2,vis,kx,kb⟩:=B.cap j i ec
    rw [e1'] at n1;cases n1
    have e2':(σ[i]?).join=U v:=WH e2
    have e2'':σ[i]?=U (U v):=by
     cases q:σ[i]? with
     | none=>rw [q] at e2';cases e2'
     | some z=>rw [q] at e2';exact congrArg U e2'
    obtain⟨m,hm,hl⟩:=I.loc
    obtain⟨u,ru,lk⟩:=hl i y v n2 e2'' vis
    refine⟨u,ru,.inr ⟨kb,?_⟩⟩
    rcases lk with ⟨k,_⟩ | ⟨k,c,ec',z⟩
    ·rcases kx with kx | kx
     ·rw [kx] at k;cases k
     ·rw [kx] at k;cases k
    ·have q:=lH (scope:=scope) (env:=X.env) (y:=y) (names:=scope.names) kb B.nocell
     obtain⟨c',hc'⟩:=XT.mp (qx X.env.cells scope.names [] y q)
     have:=hcl y c' hc'
     rw [ec'] at this;cases this
     exact⟨c,hc',z.keeps hk⟩
 ·obtain⟨v,z⟩:=cellC x c e
  exact⟨v,z.keeps hk⟩
 ·show (σB cap σ).length=N'.length
  unfold σB
  rw [Ww,B.len]
def Inv.unblock{Hf:Hp}{s':Shared}{σ':St}{pins':List (Addr×Obj)}(I:Inv X pins σ H s)(hfp:∀ b∈fp,rC X pins H b)(J:Inv (qC X N' scope C s H fp) pins' σ' Hf s'):Inv X pins σ Hf s':=
 I.call' (ch:=fp) J.os J.base J.hok J.bare λb hb=>by
  obtain⟨h0,h1,h2,h3,h4,h5⟩:=hfp b hb
  exact⟨h3,h1,h4,h5⟩
end
def yb(wi:TI)(g:TG)(tt:TT)(tb:Addr->TB)(cap:List (Option Nat)):TE:=λσ H Q=>wi σ H λJ H1=>∀ p,H1 p=Y->Ka J g tt (tb p) (σB cap σ) (upd H1 p (.lst [])) λ_ H'=>Q (.ref p) H'
def Kb(wi:TI)(g:TG)(tt:TT)(te:TE)(cap:List (Option Nat)):TE:=yb wi g tt (tEm te) cap
def Behind(X:Cx)(pins:List (Addr×Obj))(σ:St)(Q:VK)(acc:Value)(C:Addr)(r:Result)(s':Shared):Prop:=
 ∃ p Hf m,r=.ok .next/\acc=.ref p/\Inv X pins σ Hf s'/\Q (.ref p) Hf/\s'.heap.Ns C m/\Hf C=Y/\C≠X.env.locals/\X.s₀.heap.objs.size<=C/\(∀ x c,X.env.cells.lookup x=U c->c≠C)/\(∀ q∈X.pn++pins,q.1≠C)
def vt{X:Cx}{elt iter tg:Expr}{ifs:List Expr}{rest:List Comprehension}{scope:Scope}{pos:Pos}{N':List Str}{cap:List (Option Nat)}{wi:TI}{g:TG}{tt:TT}{tb:Addr->TB}{bc:Value->Env->Sem Unit}
  (hc:X.calm=true) (B:BlockOk X N' scope cap) (hi:PI X tg iter wi) (hg:∀ C s H fp,PG (qC X N' scope C s H fp) tg g) (ht:∀ C s H fp,Rz (qC X N' scope C s H fp) ifs tt)
  (htn:∀ it acc env,compTurn (.ListComp elt (⟨tg,iter,ifs,0⟩::rest) scope pos) 0 it acc env=tN (.ListComp elt (⟨tg,iter,ifs,0⟩::rest) scope pos) tg iter.pos ifs 0 it acc env (bc acc env))
  (hb:∀ C s H fp p,PB (qC X N' scope C s H fp) (bc (.ref p) (qC X N' scope C s H fp).env) (tb p))
  {pins:List (Addr×Obj)} {s:Shared} {σ:St} {H:Hp} {Q:VK} (I:Inv X pins σ H s) (h:yb wi g tt tb cap σ H Q) {E:Value->Shared->Prop} (hE:∀ e s,X.xe e s->E e s) :
  wpAny (model X.prog X.w) X.A (eval iter X.env) (λx s₁=>wpAny (model X.prog X.w) X.A (pyIter x) (λit s₂=>wpAny (model X.prog X.w) X.A (newList []) (λacc s₃=>
   wpAny (model X.prog X.w) X.A (newFunctionEnv scope X.env.globals (nD X.env.cells scope.names []) [] X.env.qual Y .none (U X.env)) (λcenv s₄=>
    codeAny (model X.prog X.w) X.A (.compStart (.ListComp elt (⟨tg,iter,ifs,0⟩::rest) scope pos) 0 it acc { cenv with scope:=relabel scope X.env }) (Behind X pins σ Q acc cenv.locals) s₄) E s₃) E s₂) E s₁) E s:=by
 refine Xk (hi pins s σ H _ I h) (λv s1 h1=>Xk h1 (λitv s2 h2=>?_) hE) hE
 obtain⟨it,fp,tn,J,H1,e,I2,T,st2,f2,hW⟩:=h2
 subst e
 refine WY (wpAny_newFunctionEnv B.nocell (by intro y hy;simp at hy) (λh₁ hns₁ hsb₁=>?_) B.kind)
 dsimp only at hns₁ hsb₁ ⊢
 have hp1:H1 s2.heap.objs.size=Y:=I2.hok.fresh (WD _)
 have hL:=hW s2.heap.objs.size hp1
 have I3:Inv X pins σ (upd H1 s2.heap.objs.size (.lst [])) { s2 with heap:=s2.heap.push { cls:=.type "list",dict:=Y,data:=.seq ([]:List Value).toArray },toks:=s2.toks }:=
  I2.laid (λb o e=>Wp _ e) (WD _) ⟨Yz _,[],_,.nil,WF _ rfl⟩
 generalize hH2:s2.heap.push { cls:=.type "list",dict:=Y,data:=.seq ([]:List Value).toArray } = H2 at hns₁ hsb₁ I3 ⊢
 have hC:H2.objs.size=s2.heap.objs.size+1:=by rw [<- hH2,Xi]
 have ltfp:∀ b∈fp,b<s2.heap.objs.size:=λb hb=>by
  obtain⟨o,e,_⟩:=T.obj _ _ st2 b hb
  exact Wy e
 have hf3:∀ b∈fp,rC X pins (upd H1 s2.heap.objs.size (.lst [])) b/\b<H2.objs.size:=λb hb=>by
  obtain⟨a0,a⟩:=f2 b hb
  refine⟨⟨?_,a⟩,by rw [hC];exact Nat.lt_succ_of_lt (ltfp b hb)⟩
  rw [bm (WU (ltfp b hb))];exact a0
 have up:∀ b o,H2.get? b=U o->h₁.get? b=U o:=λb o e=>hsb₁.extBut b o (WU (Wy e)) (Wp _ e)
 have I4:=I3.block (C:=H2.objs.size) (fp:=fp) (h4:=h₁) (tk:=s2.toks+([]:List (Str×Value)).length) B hf3 (WD _) up hns₁
 have st4:tn 0 h₁:=T.keep _ _ _ st2 λb hb o e=>up b o (by rw [<- hH2];exact Wp _ e)
 have loop:codeAny (model X.prog X.w) X.A (.compLoop (.ListComp elt (⟨tg,iter,ifs,0⟩::rest) scope pos) 0 (.ref it) (.ref s2.heap.objs.size) (compEnvC scope (nD X.env.cells scope.names []) H2.objs.size X.env))
    (Behind X pins σ Q (.ref s2.heap.objs.size) H2.objs.size) { s2 with heap:=h₁,toks:=s2.toks+([]:List (Str×Value)).length }:=by
  refine YG (Jj (X:=qC X N' scope H2.objs.size { s2 with heap:=H2,toks:=s2.toks } (upd H1 s2.heap.objs.size (.lst [])) fp) hc (λ_ _ z=>z) rfl (htn _ _ _) (hg _ _ _ _) (ht _ _ _ _) (hb _ _ _ _ _) T I4 st4 (λb hb=>?_) hL) λr s4 ⟨σ4,H4,hr,J4,qn⟩=>?_
  ·obtain⟨h0,h1,h2,h3,h4',h5⟩:=(hf3 b hb).1
   exact⟨h0,WU (hf3 b hb).2,I3.notStk h1 h2,.inl hb,λx c e=>h4' x c (B.cl I3.ok x c e),λp hp=>absurd (show p∈([]:List (Addr×Obj)) from hp) (by simp)⟩
  ·obtain⟨m,hm,_⟩:=J4.loc
   have IX:=I3.unblock (λb hb=>(hf3 b hb).1) J4
   refine⟨_,H4,m,hr,rfl,IX,qn,hm,J4.free,?_,?_,λx c e z=>?_,λq hq z=>?_⟩
   ·exact Ne.symm (WU I3.lt)
   ·exact I3.sz
   ·obtain⟨v,q⟩:=I3.cell x c e
    exact absurd q.lt (by rw [z];exact XY _)
   ·exact absurd (Wy (I3.pin q hq).1) (by rw [z];exact XY _)
 exact codeAny_compStart_list loop (T.self _ 0 _ _ _ st4 loop)
def KZ{X:Cx}{elt iter tg:Expr}{ifs:List Expr}{rest:List Comprehension}{scope:Scope}{pos:Pos}{N':List Str}{cap:List (Option Nat)}{wi:TI}{g:TG}{tt:TT}{tb:Addr->TB}{bc:Value->Env->Sem Unit}
  (hc:X.calm=true) (B:BlockOk X N' scope cap) (hi:PI X tg iter wi) (hg:∀ C s H fp,PG (qC X N' scope C s H fp) tg g) (ht:∀ C s H fp,Rz (qC X N' scope C s H fp) ifs tt) (htn:∀ it acc env,compTurn (.ListComp elt (⟨tg,iter,ifs,0⟩::rest) scope pos) 0 it acc env=tN (.ListComp elt (⟨tg,iter,ifs,0⟩::rest) scope pos) tg iter.pos ifs 0 it acc env (bc acc env))
  (hb:∀ C s H fp p,PB (qC X N' scope C s H fp) (bc (.ref p) (qC X N' scope C s H fp).env) (tb p))
  (hs:∀ x,foldedSetIterable iter X.env x=pure x:=by intro _;rfl):PE X (.ListComp elt (⟨tg,iter,ifs,0⟩::rest) scope pos) (yb wi g tt tb cap):=by
 intro pins s σ H Q I h
 rw [eval_ListComp]
 refine ZW (use:=Y) rfl hs (oN (B.cells I.ok)) B.kind B.names ?_
 refine Xk (vt hc B hi hg ht htn hb I h λ_ _ x=>x) (λx s1 h1=>Xk h1 (λit s2 h2=>Xk h2 (λacc s3 h3=>Xk h3 (λcenv s4 h4=>YG h4 λr s' hr=>?_) λ_ _ x=>x) λ_ _ x=>x) λ_ _ x=>x) λ_ _ x=>x
 obtain⟨p,Hf,m,rfl,rfl,J,q,hn,c1,c2,c3,c4,c5⟩:=hr
 exact⟨m,hn,λh' sb=>⟨_,Hf,J.turned (t':=s'.toks) (λb o hb e=>(sb.2 b hb).trans e) c1 c2 (.inr c3) c4 c5,(show RelV (.ref p) (.ref p) from rfl),q⟩⟩
def AF{X:Cx}{elt iter tg:Expr}{ifs:List Expr}{rest:List Comprehension}{scope:Scope}{pos spos py:Pos}{N':List Str}{cap:List (Option Nat)}{wi:TI}{g:TG}{tt:TT}{tb:Addr->TB}{bc:Value->Env->Sem Unit}{y:Str}{i:Nat}
  (hN:X.N.Nodup) (hy:X.N[i]?=U y) (hx:Oe X.env.scope y)
  (hc:X.calm=true) (B:BlockOk X N' scope cap) (hi:PI X tg iter wi) (hg:∀ C s H fp,PG (qC X N' scope C s H fp) tg g) (ht:∀ C s H fp,Rz (qC X N' scope C s H fp) ifs tt) (htn:∀ it acc env,compTurn (.ListComp elt (⟨tg,iter,ifs,0⟩::rest) scope pos) 0 it acc env=tN (.ListComp elt (⟨tg,iter,ifs,0⟩::rest) scope pos) tg iter.pos ifs 0 it acc env (bc acc env))
  (hb:∀ C s H fp p,PB (qC X N' scope C s H fp) (bc (.ref p) (qC X N' scope C s H fp).env) (tb p))
  (hsw:swapsWith (.ListComp elt (⟨tg,iter,ifs,0⟩::rest) scope pos) (U (.Name y py)) spos.line X.env=pure true:=by rfl)
  (hs:∀ x,foldedSetIterable iter X.env x=pure x:=by intro _;rfl) (hf:X.fn y=true\/X.env.scope.names.lookup y=U .local:=by first | exact .inl rfl | exact .inr rfl | assumption) :
  PS X (.Assign [.Name y py] (.ListComp elt (⟨tg,iter,ifs,0⟩::rest) scope pos) spos) (Kd (yb wi g tt tb cap) (Gk i)):=by
 intro pins s σ H D I h
 rw [exec_Assign_Name_used _ _ _ _ hsw]
 refine Wn (Zl (Wn ?_))
 show wpAny _ _ (do let _ <- comprehension (.ListComp elt (⟨tg,iter,ifs,0⟩::rest) scope pos) scope X.env _ (newList []) false (eval iter X.env) (U (assign (.Name y py) X.env))) _ _ s
 refine Wn (Xk (ZW (use:=U (assign (.Name y py) X.env)) (Q:=λ_ s'=>SP X pins D .next s') rfl hs (oN (B.cells I.ok)) B.kind B.names
  (Xk (vt hc B hi hg ht htn hb I h λ_ _ x=>x) (λx s1 h1=>Xk h1 (λit s2 h2=>Xk h2 (λacc s3 h3=>Xk h3 (λcenv s4 h4=>YG h4 λr s' hr=>?_) λ_ _ x=>x) λ_ _ x=>x) λ_ _ x=>x) λ_ _ x=>x))
  (λ_ s' hq=>Wz (Wz hq)) λ_ _ e=>e)
 obtain⟨p,Hf,m,rfl,rfl,J,q,hn,c1,c2,c3,c4,c5⟩:=hr
 refine wpAny_assign_Name (wJ J hN hy hx (v:=.ref p) rfl (λs2 J2 ⟨a,sb,ha⟩=>?_) hf)
 refine⟨m,hn.sameBut sb ?_,λh' sb2=>⟨_,Hf,J2.turned (t':=s2.toks) (λb o hb e=>(sb2.2 b hb).trans e) c1 c2 (.inr c3) c4 c5,q⟩⟩
 rcases ha with rfl | ha
 ·exact c2
 ·exact Ne.symm (c4 _ _ ha)
def OX{X:Cx}{elt iter tg:Expr}{ifs:List Expr}{scope:Scope}{pos:Pos}{N':List Str}{cap:List (Option Nat)}{wi:TI}{g:TG}{tt:TT}{te:TE}
  (hc:X.calm=true) (B:BlockOk X N' scope cap) (hi:PI X tg iter wi) (hg:∀ C s H fp,PG (qC X N' scope C s H fp) tg g) (ht:∀ C s H fp,Rz (qC X N' scope C s H fp) ifs tt) (he:∀ C s H fp,PE (qC X N' scope C s H fp) elt te)
  (hs:∀ x,foldedSetIterable iter X.env x=pure x:=by intro _;rfl):PE X (.ListComp elt [⟨tg,iter,ifs,0⟩] scope pos) (Kb wi g tt te cap):=
 KZ hc B hi hg ht (λ_ _ _=>compTurn_list ..) (λC s H fp p=>FG (he C s H fp)) hs
def Dp{X:Cx}{elt iter tg:Expr}{ifs:List Expr}{scope:Scope}{pos spos py:Pos}{N':List Str}{cap:List (Option Nat)}{wi:TI}{g:TG}{tt:TT}{te:TE}{y:Str}{i:Nat}
  (hN:X.N.Nodup) (hy:X.N[i]?=U y) (hx:Oe X.env.scope y)
  (hc:X.calm=true) (B:BlockOk X N' scope cap) (hi:PI X tg iter wi) (hg:∀ C s H fp,PG (qC X N' scope C s H fp) tg g) (ht:∀ C s H fp,Rz (qC X N' scope C s H fp) ifs tt) (he:∀ C s H fp,PE (qC X N' scope C s H fp) elt te)
  (hsw:swapsWith (.ListComp elt [⟨tg,iter,ifs,0⟩] scope pos) (U (.Name y py)) spos.line X.env=pure true:=by rfl)
  (hs:∀ x,foldedSetIterable iter X.env x=pure x:=by intro _;rfl) (hf:X.fn y=true\/X.env.scope.names.lookup y=U .local:=by first | exact .inl rfl | exact .inr rfl | assumption) :
  PS X (.Assign [.Name y py] (.ListComp elt [⟨tg,iter,ifs,0⟩] scope pos) spos) (Kd (Kb wi g tt te cap) (Gk i)):=
 AF hN hy hx hc B hi hg ht (λ_ _ _=>compTurn_list ..) (λC s H fp p=>FG (he C s H fp)) hsw hs hf
end L2
namespace M
open L2
inductive D where
 | non
 | bl (b:Bool)
 | int (i:Int)
 | str (x:Str)
 | tup (xs:List D)
 | lst (xs:List D)
 | rol (xs:List D)
 | dct (ks:List bt) (vs:List D)
 | ref (r:Nat)
inductive Cell where
 | lst (xs:List D)
 | dct (ks:List bt) (vs:List D)
abbrev ac:=List Cell
structure Fp where
 cs:List Addr
 fb:List Addr
def Fp.no(μ:Fp)(a:Addr):Prop:=a ∉ μ.cs/\a ∉ μ.fb
abbrev bj:=List (Option D)
def FL{α:Type}{N:List α}(hN:N.Nodup){i j:Nat}{x:α}(a:N[i]?=U x)(b:N[j]?=U x):i=j:=by
 obtain⟨h1,e1⟩:=Wo.mp a
 obtain⟨h2,e2⟩:=Wo.mp b
 exact(List.getElem_inj hN).mp (e1.trans e2.symm)
def KList(K:W.Frag)(a:Addr)(xs:List V):Prop:=∃ (o:Obj) (its:Array Value) (n:Nat),K.lookup a=U o/\o.cls=.type "list"/\o.dict=Y/\o.data=.seq its n/\its.size<=sizeLine/\Vals xs its.toList
def KTup(K:W.Frag)(a:Addr)(xs:List V):Prop:=∃ (o:Obj) (its:Array Value) (n:Nat),K.lookup a=U o/\o.cls=.type "tuple"/\o.dict=Y/\o.data=.seq its n/\its.size<=sizeLine/\Vals xs its.toList
mutual
inductive Rep(K:W.Frag)(μ:Fp)(H:Hp):V->D->Prop
 | non:Rep K μ H .non .non
 | bl (b:Bool):Rep K μ H (.bl b) (.bl b)
 | int (i:Int):Rep K μ H (.int i) (.int i)
 | str (x:Str):Rep K μ H (.str x) (.str x)
 | tup {a:Addr} {vs:List V} {ds:List D} (h:H a=U (.tup vs)) (n:μ.no a) (r:Reps K μ H vs ds):Rep K μ H (.ref a) (.tup ds)
 | ktup {a:Addr} {vs:List V} {ds:List D} (h:KTup K a vs) (r:Reps K μ H vs ds):Rep K μ H (.ref a) (.tup ds)
 | lst {a:Addr} {vs:List V} {ds:List D} (h:H a=U (.lst vs)) (n:μ.no a) (r:Reps K μ H vs ds):Rep K μ H (.ref a) (.lst ds)
 | rol {a:Addr} {vs:List V} {ds:List D} (h:Rd H a (.lst vs)) (n:μ.no a) (r:Reps K μ H vs ds):Rep K μ H (.ref a) (.rol ds)
 | krol {a:Addr} {vs:List V} {ds:List D} (h:KList K a vs) (r:Reps K μ H vs ds):Rep K μ H (.ref a) (.rol ds)
 | dct {a:Addr} {kvs:List (bt×V)} {ds:List D} (h:H a=U (.dK kvs)) (n:μ.no a) (r:Reps K μ H (kvs.map (·.2)) ds):Rep K μ H (.ref a) (.dct (kvs.map (·.1)) ds)
 | ref {a:Addr} {r:Nat} (h:μ.cs[r]?=U a):Rep K μ H (.ref a) (.ref r)
inductive Reps(K:W.Frag)(μ:Fp)(H:Hp):List V->List D->Prop
 | nil:Reps K μ H [] []
 | cons {v:V} {d:D} {vs:List V} {ds:List D} (h:Rep K μ H v d) (t:Reps K μ H vs ds):Reps K μ H (v::vs) (d::ds)
end
structure Ext(μ:Fp)(H:Hp)(μ':Fp)(H':Hp):Prop where
 fb:μ'.fb = μ.fb
 pre:∃ l,μ'.cs = μ.cs++l/\∀ a∈l,H a=Y
 keep:∀ a o,a ∉ μ.cs->H a=U o->H' a=U o
 dom:∀ a ∈ μ'.cs,H' a≠Y
section
variable{K:W.Frag}{μ μ' μ'':Fp}{H H' H'':Hp}
def Ext.stays(e:Ext μ H μ' H'){a:Addr}{o:HO}(h:H a=U o)(n:μ.no a):H' a=U o/\μ'.no a:=by
 refine⟨e.keep a o n.1 h,λz=>?_,by rw [e.fb];exact n.2⟩
 obtain⟨l,q,hl⟩:=e.pre
 rw [q] at z
 rcases WK.mp z with z | z
 ·exact n.1 z
 ·rw [hl a z] at h;cases h
def Ext.keeps(e:Ext μ H μ' H'){a:Addr}{o:HO}(h:H a=U o)(n:a ∉ μ.cs):H' a=U o/\a ∉ μ'.cs:=by
 refine⟨e.keep a o n h,λz=>?_⟩
 obtain⟨l,q,hl⟩:=e.pre
 rw [q] at z
 rcases WK.mp z with z | z
 ·exact n z
 ·rw [hl a z] at h;cases h
theorem Ext.trans(e:Ext μ H μ' H')(f:Ext μ' H' μ'' H''):Ext μ H μ'' H'':=by
 obtain⟨l,q,hl⟩:=e.pre
 obtain⟨l',q',hl'⟩:=f.pre
 refine⟨f.fb.trans e.fb,⟨l++l',by rw [q',q,WR],λa ha=>?_⟩,λa o n h=>?_,f.dom⟩
 ·rcases WK.mp ha with ha | ha
  ·exact hl a ha
  ·have h1:=hl' a ha
   cases q2:H a with
   | none=>rfl
   | some o=>
    by_cases hm:a ∈ μ.cs
    ·exact absurd h1 (e.dom a (by rw [q];exact Xb _ hm))
    ·rw [e.keep a o hm q2] at h1;cases h1
 ·have:=e.keeps h n
  exact f.keep a o this.2 this.1
def Ext.refl(h:∀ a ∈ μ.cs,H a≠Y):Ext μ H μ H:=⟨rfl,⟨[],by simp,λ_ z=>by simp at z⟩,λ_ _ _ h=>h,h⟩
mutual
theorem Rep.imp(hk:∀ {a:Addr} {o:HO},H a=U o->μ.no a->H' a=U o/\μ'.no a)(hr:∀ {r:Nat} {a:Addr},μ.cs[r]?=U a->μ'.cs[r]?=U a):∀ {v:V} {d:D},Rep K μ H v d->Rep K μ' H' v d
 | _,_,.non=>.non
 | _,_,.bl b=>.bl b
 | _,_,.int i=>.int i
 | _,_,.str x=>.str x
 | _,_,.tup h n r=>.tup (hk h n).1 (hk h n).2 (Reps.imp hk hr r)
 | _,_,.ktup h r=>.ktup h (Reps.imp hk hr r)
 | _,_,.lst h n r=>.lst (hk h n).1 (hk h n).2 (Reps.imp hk hr r)
 | _,_,.rol (.inl h) n r=>.rol (.inl (hk h n).1) (hk h n).2 (Reps.imp hk hr r)
 | _,_,.rol (.inr ⟨o,h⟩) n r=>.rol (.inr ⟨o,(hk h n).1⟩) (hk h n).2 (Reps.imp hk hr r)
 | _,_,.krol h r=>.krol h (Reps.imp hk hr r)
 | _,_,.dct h n r=>.dct (hk h n).1 (hk h n).2 (Reps.imp hk hr r)
 | _,_,.ref h=>.ref (hr h)
theorem Reps.imp(hk:∀ {a:Addr} {o:HO},H a=U o->μ.no a->H' a=U o/\μ'.no a)(hr:∀ {r:Nat} {a:Addr},μ.cs[r]?=U a->μ'.cs[r]?=U a):∀ {vs:List V} {ds:List D},Reps K μ H vs ds->Reps K μ' H' vs ds
 | _,_,.nil=>.nil
 | _,_,.cons h t=>.cons (Rep.imp hk hr h) (Reps.imp hk hr t)
end
def zX{l m:List Addr}{k:List Addr}(q:k=l++m){r:Nat}{a:Addr}(h:l[r]?=U a):k[r]?=U a:=by
 rw [q,WE (Wo.mp h).1];exact h
def Ext.ix(e:Ext μ H μ' H'){r:Nat}{a:Addr}(h:μ.cs[r]?=U a):μ'.cs[r]?=U a:=by
 obtain⟨l,q,_⟩:=e.pre
 exact zX q h
def Rep.mono(e:Ext μ H μ' H'){v:V}{d:D}(r:Rep K μ H v d):Rep K μ' H' v d:=r.imp e.stays e.ix
def Reps.mono(e:Ext μ H μ' H'){vs:List V}{ds:List D}(r:Reps K μ H vs ds):Reps K μ' H' vs ds:=r.imp e.stays e.ix
theorem Reps.length:∀ {vs:List V} {ds:List D},Reps K μ H vs ds->vs.length=ds.length
 | _,_,.nil=>rfl
 | _,_,.cons _ t=>by simp [Reps.length t]
theorem Reps.get:∀ {vs:List V} {ds:List D} {i:Nat} {d:D},Reps K μ H vs ds->ds[i]?=U d->∃ v,vs[i]?=U v/\Rep K μ H v d
 | _,_,_,_,.nil,e=>by simp at e
 | _,_,0,_,.cons h _,e=>by simp at e;subst e;exact⟨_,rfl,h⟩
 | _,_,i+1,d,.cons _ t,e=>by
  obtain⟨u,h1,h2⟩:=Reps.get (i:=i) (d:=d) t (by simpa using e)
  exact⟨u,by simpa using h1,h2⟩
theorem Reps.append:∀ {vs ws:List V} {ds es:List D},Reps K μ H vs ds->Reps K μ H ws es->Reps K μ H (vs++ws) (ds++es)
 | _,_,_,_,.nil,s=>s
 | _,_,_,_,.cons r t,s=>.cons r (Reps.append t s)
theorem Reps.take:∀ {vs:List V} {ds:List D} (n:Nat),Reps K μ H vs ds->Reps K μ H (vs.take n) (ds.take n)
 | _,_,0,_=>.nil
 | _,_,_+1,.nil=>.nil
 | _,_,n+1,.cons r t=>.cons r (Reps.take n t)
theorem Reps.drop:∀ {vs:List V} {ds:List D} (n:Nat),Reps K μ H vs ds->Reps K μ H (vs.drop n) (ds.drop n)
 | _,_,0,r=>r
 | _,_,_+1,.nil=>.nil
 | _,_,n+1,.cons _ t=>Reps.drop n t
theorem Reps.set{x:V}{d:D}(r:Rep K μ H x d):∀ {vs:List V} {ds:List D} (i:Nat),Reps K μ H vs ds->Reps K μ H (vs.set i x) (ds.set i d)
 | _,_,_,.nil=>.nil
 | _,_,0,.cons _ t=>.cons r t
 | _,_,i+1,.cons q t=>.cons q (Reps.set r i t)
theorem Reps.flat{xs:List V}:∀ (k:Nat) {ds:List D},Reps K μ H xs ds->Reps K μ H (List.replicate k xs).flatten (List.replicate k ds).flatten
 | 0,_,_=>.nil
 | k+1,_,r=>by rw [WX,WX,Xw,Xw];exact r.append (Reps.flat k r)
def CellOk(K:W.Frag)(μ:Fp)(H:Hp)(a:Addr):Cell->Prop
 | .lst ds=>∃ vs,H a=U (.lst vs)/\Reps K μ H vs ds
 | .dct ks ds=>∃ kvs,H a=U (.dK kvs)/\ks=kvs.map (·.1)/\Reps K μ H (kvs.map (·.2)) ds
structure SOk(K:W.Frag)(μ:Fp)(S:ac)(H:Hp):Prop where
 nd:μ.cs.Nodup
 len:μ.cs.length=S.length
 cell:∀ (r:Nat) (a:Addr) (c:Cell),μ.cs[r]?=U a->S[r]?=U c->CellOk K μ H a c
 fdom:∀ a ∈ μ.fb,H a≠Y
 disj:∀ a ∈ μ.fb,a ∉ μ.cs
def CellOk.ne_none{a:Addr}{c:Cell}(h:CellOk K μ H a c):H a≠Y:=by
 cases c with
 | lst ds=>obtain⟨vs,h,_⟩:=h;rw [h];simp
 | dct ks ds=>obtain⟨vs,h,_⟩:=h;rw [h];simp
theorem CellOk.mono(e:Ext μ H μ' H'){a:Addr}{c:Cell}(he:H' a=H a)(h:CellOk K μ H a c):CellOk K μ' H' a c:=by
 cases c with
 | lst ds=>obtain⟨vs,h,r⟩:=h;exact⟨vs,he.trans h,r.mono e⟩
 | dct ks ds=>obtain⟨vs,h,q,r⟩:=h;exact⟨vs,he.trans h,q,r.mono e⟩
def SOk.dom{S:ac}(s:SOk K μ S H):∀ a ∈ μ.cs,H a≠Y:=λa ha=>by
 obtain⟨r,hr⟩:=Yx.mp ha
 have hl:=(Wo.mp hr).1
 rw [s.len] at hl
 exact(s.cell r a S[r] hr (by simp [hl])).ne_none
def SOk.ext{S:ac}(s:SOk K μ S H):Ext μ H μ H:=.refl s.dom
def SOk.notMem{S:ac}(s:SOk K μ S H){p:Addr}(h:H p=Y):μ.no p:=⟨λz=>s.dom p z h,λz=>s.fdom p z h⟩
def SOk.laid{S:ac}(s:SOk K μ S H){p:Addr}{o:HO}(h:H p=Y):Ext μ H μ (upd H p o)/\SOk K μ S (upd H p o):=by
 have e:Ext μ H μ (upd H p o):=⟨rfl,⟨[],by simp,λ_ z=>by simp at z⟩,λa o' _ q=>by rw [bm (cA q h)];exact q,λa ha=>by
  by_cases z:a=p
  ·subst z;rw [bA];simp
  ·rw [bm z];exact s.dom a ha⟩
 refine⟨e,s.nd,s.len,λr a c h1 h2=>(s.cell r a c h1 h2).mono e ?_,λa ha=>?_,s.disj⟩
 case refine_2=>
  by_cases z:a=p
  ·subst z;rw [bA];simp
  ·rw [bm z];exact s.fdom a ha
 have:=(s.cell r a c h1 h2).ne_none
 refine bm λz=>?_
 rw [z] at this
 exact this h
def SOk.alloc{S:ac}(s:SOk K μ S H){p:Addr}{vs:List V}{ds:List D}(h:H p=Y)(r:Reps K μ H vs ds):Ext μ H ⟨μ.cs++[p],μ.fb⟩ (upd H p (.lst vs))/\SOk K ⟨μ.cs++[p],μ.fb⟩ (S++[.lst ds]) (upd H p (.lst vs)):=by
 have hp:=s.notMem h
 have e:Ext μ H ⟨μ.cs++[p],μ.fb⟩ (upd H p (.lst vs)):=⟨rfl,⟨[p],rfl,λa z=>by rw [WL.mp z];exact h⟩,λa o' _ q=>by rw [bm (cA q h)];exact q,λa ha=>by
  by_cases z:a=p
  ·subst z;rw [bA];simp
  ·rw [bm z]
   rcases WK.mp ha with q | q
   ·exact s.dom a q
   ·exact absurd (WL.mp q) z⟩
 refine⟨e,?_,by simp [s.len],λi a c h1 h2=>?_,λa ha=>?_,λa ha z=>?_⟩
 case refine_3=>
  by_cases z:a=p
  ·subst z;rw [bA];simp
  ·rw [bm z];exact s.fdom a ha
 case refine_4=>
  rcases WK.mp z with q | q
  ·exact s.disj a ha q
  ·rw [WL.mp q] at ha;exact hp.2 ha
 ·show (μ.cs++[p]).Nodup
  rw [Yi]
  exact⟨s.nd,by simp,λa ha b hb=>by rw [WL.mp hb];rintro rfl;exact hp.1 ha⟩
 ·have h1:(μ.cs++[p])[i]?=U a:=h1
  by_cases hi:i < μ.cs.length
  ·rw [WE hi] at h1
   rw [WE (by rw [<- s.len];exact hi)] at h2
   have q:=s.cell i a c h1 h2
   refine q.mono e (bm λz=>?_)
   exact hp.1 (z ▸ WN h1)
  ·have hl:i = μ.cs.length:=by
    have:=(Wo.mp h1).1
    simp at this;omega
   subst hl
   rw [Xg (WD _)] at h1
   rw [s.len,Xg (WD _)] at h2
   simp at h1 h2
   subst h1 h2
   exact⟨vs,bA,r.mono e⟩
def SOk.write{S:ac}(s:SOk K μ S H){i:Nat}{a:Addr}{vs vs':List V}{ds:List D}(hi:μ.cs[i]?=U a)(h:H a=U (.lst vs))(r:Reps K μ H vs' ds):Ext μ H μ (upd H a (.lst vs'))/\SOk K μ (S.set i (.lst ds)) (upd H a (.lst vs')):=by
 have ha:=WN hi
 have e:Ext μ H μ (upd H a (.lst vs')):=⟨rfl,⟨[],by simp,λ_ z=>by simp at z⟩,λb o' n q=>by rw [bm (by rintro rfl;exact n ha)];exact q,λb hb=>by
  by_cases z:b=a
  ·subst z;rw [bA];simp
  ·rw [bm z];exact s.dom b hb⟩
 refine⟨e,s.nd,by simp [s.len],λj b c h1 h2=>?_,λb hb=>?_,s.disj⟩
 case refine_2=>
  by_cases z:b=a
  ·subst z;rw [bA];simp
  ·rw [bm z];exact s.fdom b hb
 by_cases hj:j=i
 ·subst hj
  rw [hi] at h1;cases h1
  have hl:j<S.length:=by rw [<- s.len];exact(Wo.mp hi).1
  rw [WV hl] at h2
  cases h2
  exact⟨vs',bA,r.mono e⟩
 ·rw [WO (Ne.symm hj)] at h2
  refine(s.cell j b c h1 h2).mono e (bm λz=>hj ?_)
  subst z
  exact FL s.nd h1 hi
inductive EOk(K:W.Frag)(μ:Fp)(H:Hp):L2.St->bj->Prop
 | nil:EOk K μ H [] []
 | no {x:Option V} {σ:L2.St} {env:bj} (t:EOk K μ H σ env):EOk K μ H (x::σ) (Y::env)
 | yes {v:V} {d:D} {σ:L2.St} {env:bj} (h:Rep K μ H v d) (t:EOk K μ H σ env):EOk K μ H (U v::σ) (U d::env)
theorem EOk.mono(e:Ext μ H μ' H'):∀ {σ:L2.St} {env:bj},EOk K μ H σ env->EOk K μ' H' σ env
 | _,_,.nil=>.nil
 | _,_,.no t=>.no (EOk.mono e t)
 | _,_,.yes h t=>.yes (h.mono e) (EOk.mono e t)
theorem EOk.get:∀ {σ:L2.St} {env:bj} {i:Nat} {d:D},EOk K μ H σ env->env[i]?=U (U d)->∃ v,σ[i]?=U (U v)/\Rep K μ H v d
 | _,_,_,_,.nil,h=>by simp at h
 | _,_,0,_,.no _,h=>by simp at h
 | _,_,0,_,.yes h _,q=>by simp at q;subst q;exact⟨_,rfl,h⟩
 | _,_,i+1,d,.no t,h=>by
  obtain⟨v,h1,h2⟩:=EOk.get (i:=i) (d:=d) t (by simpa using h)
  exact⟨v,by simpa using h1,h2⟩
 | _,_,i+1,d,.yes _ t,h=>by
  obtain⟨v,h1,h2⟩:=EOk.get (i:=i) (d:=d) t (by simpa using h)
  exact⟨v,by simpa using h1,h2⟩
theorem EOk.set{v:V}{d:D}(r:Rep K μ H v d):∀ {σ:L2.St} {env:bj} (i:Nat),EOk K μ H σ env->EOk K μ H (σ.set i (Option.some v)) (env.set i (Option.some d))
 | _,_,_,.nil=>.nil
 | _,_,0,.no t=>.yes r t
 | _,_,0,.yes _ t=>.yes r t
 | _,_,i+1,.no t=>.no (EOk.set r i t)
 | _,_,i+1,.yes h t=>.yes h (EOk.set r i t)
theorem EOk.start{N:Nat}:∀ {vs:List V} {ds:List D},Reps K μ H vs ds->EOk K μ H (vs.map Option.some++List.replicate N Option.none) (ds.map Option.some++List.replicate N Option.none)
 | _,_,.nil=>by
  induction N with
  | zero=>exact .nil
  | succ n ih=>exact .no ih
 | _,_,.cons h t=>.yes h (EOk.start t)
theorem EOk.block{σ:L2.St}{env:bj}(h:EOk K μ H σ env):∀ (cap:List (Option Nat)),EOk K μ H (σB cap σ) (cap.map λo=>o.bind λi=>(env[i]?).join)
 | []=>.nil
 | Option.none::r=>.no (EOk.block h r)
 | Option.some i::r=>by
  show EOk K μ H ((σ[i]?).join::σB r σ) ((env[i]?).join::_)
  cases q:(env[i]?).join with
  | none=>exact .no (EOk.block h r)
  | some d=>
   have q':env[i]?=Option.some (Option.some d):=by
    cases z:env[i]? with
    | none=>rw [z] at q;cases q
    | some y=>rw [z] at q;exact congrArg Option.some q
   obtain⟨v,h1,h2⟩:=h.get q'
   rw [h1]
   exact .yes h2 (EOk.block h r)
def FN{p a:Addr}{cs fb:List Addr}(n:(⟨cs,p::fb⟩:Fp).no a):(⟨cs,fb⟩:Fp).no a:=⟨n.1,λz=>n.2 (Wu _ z)⟩
def Rep.less{p:Addr}{cs fb:List Addr}{v:V}{d:D}(r:Rep K ⟨cs,p::fb⟩ H v d):Rep K ⟨cs,fb⟩ H v d:=r.imp (λh n=>⟨h,FN n⟩) λh=>h
def Reps.less{p:Addr}{cs fb:List Addr}{v:List V}{d:List D}(r:Reps K ⟨cs,p::fb⟩ H v d):Reps K ⟨cs,fb⟩ H v d:=r.imp (λh n=>⟨h,FN n⟩) λh=>h
def FM{p:Addr}{o:HO}{cs fb:List Addr}(hp:H p=Y){a:Addr}{o':HO}(h:H a=U o')(n:(⟨cs,fb⟩:Fp).no a):upd H p o a=U o'/\(⟨cs,p::fb⟩:Fp).no a:=⟨(bm (cA h hp)).trans h,n.1,λz=>(WM.mp z).elim (cA h hp) n.2⟩
def Rep.more{p:Addr}{o:HO}{cs fb:List Addr}(hp:H p=Y){v:V}{d:D}(r:Rep K ⟨cs,fb⟩ H v d):Rep K ⟨cs,p::fb⟩ (upd H p o) v d:=r.imp (FM hp) λh=>h
def Reps.more{p:Addr}{o:HO}{cs fb:List Addr}(hp:H p=Y){v:List V}{d:List D}(r:Reps K ⟨cs,fb⟩ H v d):Reps K ⟨cs,p::fb⟩ (upd H p o) v d:=r.imp (FM hp) λh=>h
def Fp.no.ne{μ:Fp}{a p:Addr}(n:μ.no a)(hp:p ∈ μ.fb):a≠p:=λz=>n.2 (by rw [z];exact hp)
def Rep.chg{p:Addr}{o:HO}(hp:p ∈ μ.fb){v:V}{d:D}(r:Rep K μ H v d):Rep K μ (upd H p o) v d:=r.imp (λh n=>⟨(bm (n.ne hp)).trans h,n⟩) λh=>h
def Reps.chg{p:Addr}{o:HO}(hp:p ∈ μ.fb){v:List V}{d:List D}(r:Reps K μ H v d):Reps K μ (upd H p o) v d:=r.imp (λh n=>⟨(bm (n.ne hp)).trans h,n⟩) λh=>h
theorem EOk.more{p:Addr}{o:HO}{cs fb:List Addr}(hp:H p=Y):∀ {σ:L2.St} {env:bj},EOk K ⟨cs,fb⟩ H σ env->EOk K ⟨cs,p::fb⟩ (upd H p o) σ env
 | _,_,.nil=>.nil
 | _,_,.no t=>.no (EOk.more hp t)
 | _,_,.yes h t=>.yes (h.more hp) (EOk.more hp t)
theorem EOk.chg{p:Addr}{o:HO}(hp:p ∈ μ.fb):∀ {σ:L2.St} {env:bj},EOk K μ H σ env->EOk K μ (upd H p o) σ env
 | _,_,.nil=>.nil
 | _,_,.no t=>.no (EOk.chg hp t)
 | _,_,.yes h t=>.yes (h.chg hp) (EOk.chg hp t)
theorem CellOk.upd{p a:Addr}{o:HO}{c:Cell}(μ':Fp)(hpa:a≠p)(h:CellOk K μ H a c)(f:∀ vs ds,Reps K μ H vs ds->Reps K μ' (upd H p o) vs ds):CellOk K μ' (upd H p o) a c:=by
 cases c with
 | lst ds=>obtain⟨vs,h,r⟩:=h;exact⟨vs,(bm hpa).trans h,f _ _ r⟩
 | dct ks ds=>obtain⟨vs,h,q,r⟩:=h;exact⟨vs,(bm hpa).trans h,q,f _ _ r⟩
theorem SOk.less{S:ac}{p:Addr}{cs fb:List Addr}(s:SOk K ⟨cs,p::fb⟩ S H):SOk K ⟨cs,fb⟩ S H:=
 ⟨s.nd,s.len,λr a c h1 h2=>by
  have:=s.cell r a c h1 h2
  cases c with
  | lst ds=>obtain⟨vs,h,r⟩:=this;exact⟨vs,h,r.less⟩
  | dct ks ds=>obtain⟨vs,h,q,r⟩:=this;exact⟨vs,h,q,r.less⟩,λa ha=>s.fdom a (Wu _ ha),λa ha=>s.disj a (Wu _ ha)⟩
theorem SOk.more{S:ac}{p:Addr}{o:HO}{cs fb:List Addr}(s:SOk K ⟨cs,fb⟩ S H)(hp:H p=Y):SOk K ⟨cs,p::fb⟩ S (upd H p o):=by
 have hn:=s.notMem hp
 refine⟨s.nd,s.len,λr a c h1 h2=>(s.cell r a c h1 h2).upd _ (λz=>?_) λvs ds r=>r.more hp,λa ha=>?_,λa ha z=>?_⟩
 ·exact hn.1 (z ▸ WN h1)
 ·by_cases z:a=p
  ·subst z;rw [bA];simp
  ·rw [bm z];exact s.fdom a ((WM.mp ha).resolve_left z)
 ·rcases WM.mp ha with rfl | ha
  ·exact hn.1 z
  ·exact s.disj a ha z
theorem SOk.chg{S:ac}{p:Addr}{o:HO}(s:SOk K μ S H)(hp:p ∈ μ.fb):SOk K μ S (upd H p o):=by
 refine⟨s.nd,s.len,λr a c h1 h2=>(s.cell r a c h1 h2).upd _ (λz=>?_) λvs ds r=>r.chg hp,λa ha=>?_,s.disj⟩
 ·exact s.disj p hp (z ▸ WN h1)
 ·by_cases z:a=p
  ·subst z;rw [bA];simp
  ·rw [bm z];exact s.fdom a ha
end
abbrev ME:=bj->ac->Option (D×ac)
abbrev MT:=bj->ac->Option (Bool×ac)
abbrev MA:=bj->ac->Option (List D×ac)
inductive nH where
 | nx (env:bj) (S:ac)
 | rt (d:D) (S:ac)
 | bk (env:bj) (S:ac)
 | ct (env:bj) (S:ac)
abbrev MS:=bj->ac->Option nH
def Post(K:W.Frag)(μ:Fp)(H:Hp)(S':ac)(d:D)(Q:VK):Prop:=∀ v H' μ',Ext μ H μ' H'->SOk K μ' S' H'->Rep K μ' H' v d->Q v H'
def PostT(K:W.Frag)(μ:Fp)(H:Hp)(S':ac)(b:Bool)(Q:Bool->Hp->Prop):Prop:=∀ H' μ',Ext μ H μ' H'->SOk K μ' S' H'->Q b H'
def PostA(K:W.Frag)(μ:Fp)(H:Hp)(S':ac)(ds:List D)(Q:List V->Hp->Prop):Prop:=∀ vs H' μ',Ext μ H μ' H'->SOk K μ' S' H'->Reps K μ' H' vs ds->Q vs H'
def PostN(K:W.Frag)(μ:Fp)(H:Hp)(S':ac)(env':bj)(Q:L2.St->Hp->Prop):Prop:=∀ σ' H' μ',Ext μ H μ' H'->SOk K μ' S' H'->EOk K μ' H' σ' env'->Q σ' H'
def PostS(K:W.Frag)(μ:Fp)(H:Hp)(o:nH)(E:wD):Prop:=match o with
 | .nx env' S'=>PostN K μ H S' env' E.nx
 | .rt d S'=>Post K μ H S' d E.rt
 | .bk env' S'=>PostN K μ H S' env' E.bk
 | .ct env' S'=>PostN K μ H S' env' E.ct
inductive tM(K:W.Frag)(m:ME)(σ:L2.St)(H:Hp)(Q:VK):Prop
 | mk (μ:Fp) (S:ac) (env:bj) (d:D) (S':ac) (hS:SOk K μ S H) (hE:EOk K μ H σ env) (h:m env S=U (d,S')) (post:Post K μ H S' d Q)
inductive JA(K:W.Frag)(m:MT)(σ:L2.St)(H:Hp)(Q:Bool->Hp->Prop):Prop
 | mk (μ:Fp) (S:ac) (env:bj) (b:Bool) (S':ac) (hS:SOk K μ S H) (hE:EOk K μ H σ env) (h:m env S=U (b,S')) (post:PostT K μ H S' b Q)
inductive tMA(K:W.Frag)(m:MA)(σ:L2.St)(H:Hp)(Q:List V->Hp->Prop):Prop
 | mk (μ:Fp) (S:ac) (env:bj) (ds:List D) (S':ac) (hS:SOk K μ S H) (hE:EOk K μ H σ env) (h:m env S=U (ds,S')) (post:PostA K μ H S' ds Q)
inductive tMS(K:W.Frag)(m:MS)(E:wD)(σ:L2.St)(H:Hp):Prop
 | mk (μ:Fp) (S:ac) (env:bj) (o:nH) (hS:SOk K μ S H) (hE:EOk K μ H σ env) (h:m env S=U o) (post:PostS K μ H o E)
inductive on(K:W.Frag)(f:ac->D->D->Option D)(x y:V)(H:Hp)(Q:VK):Prop
 | mk (μ:Fp) (S:ac) (dx dy dz:D) (hS:SOk K μ S H) (h1:Rep K μ H x dx) (h2:Rep K μ H y dy) (h3:f S dx dy=U dz) (post:Post K μ H S dz Q)
inductive rM1(K:W.Frag)(f:ac->D->Option D)(x:V)(H:Hp)(Q:VK):Prop
 | mk (μ:Fp) (S:ac) (dx dz:D) (hS:SOk K μ S H) (h1:Rep K μ H x dx) (h3:f S dx=U dz) (post:Post K μ H S dz Q)
inductive JB(K:W.Frag)(f:List D->ac->Option (D×ac))(vs:List V)(H:Hp)(Q:VK):Prop
 | mk (μ:Fp) (S:ac) (ds:List D) (d:D) (S':ac) (hS:SOk K μ S H) (h1:Reps K μ H vs ds) (h3:f ds S=U (d,S')) (post:Post K μ H S' d Q)
def DE(X:Cx)(e:Expr)(m:ME):Prop:=PE X e (tM X.K m)
def DT(X:Cx)(e:Expr)(m:MT):Prop:=PT X e (JA X.K m)
def DW(X:Cx)(e:Expr)(m:MT):Prop:=PW X e (JA X.K m)
def DA(X:Cx)(es:List Expr)(m:MA):Prop:=PA X es (tMA X.K m)
def DS(X:Cx)(st:Stmt)(m:MS):Prop:=PS X st (tMS X.K m)
def vH(X:Cx)(st:List Stmt)(m:MS):Prop:=PSs X st (tMS X.K m)
section
variable{X:Cx}{K:W.Frag}{μ μ':Fp}{H H':Hp}{S S':ac}
def Post.ext{d:D}{Q:VK}(e:Ext μ H μ' H')(p:Post K μ H S' d Q):Post K μ' H' S' d Q:=λv H2 μ2 e2 s r=>p v H2 μ2 (e.trans e2) s r
def Post.here{d:D}{Q:VK}{v:V}(p:Post K μ H S d Q)(s:SOk K μ S H)(r:Rep K μ H v d):Q v H:=p v H μ s.ext s r
def PE.imp{e:Expr}{t t':TE}(h:PE X e t)(i:∀ σ H Q,t' σ H Q->t σ H Q):PE X e t':=λpins s σ H Q I q=>h pins s σ H Q I (i σ H Q q)
def PT.imp{e:Expr}{t t':TT}(h:PT X e t)(i:∀ σ H Q,t' σ H Q->t σ H Q):PT X e t':=λpins s σ H Q I q=>h pins s σ H Q I (i σ H Q q)
def PW.imp{e:Expr}{t t':TT}(h:PW X e t)(i:∀ σ H Q,t' σ H Q->t σ H Q):PW X e t':=λw pins s σ H Q I q=>h w pins s σ H Q I (i σ H Q q)
def PA.imp{e:List Expr}{t t':TA}(h:PA X e t)(i:∀ σ H Q,t' σ H Q->t σ H Q):PA X e t':=λpos pins s σ H Q I q=>h pos pins s σ H Q I (i σ H Q q)
def PS.imp{e:Stmt}{t t':TS}(h:PS X e t)(i:∀ E σ H,t' E σ H->t E σ H):PS X e t':=λpins s σ H E I q=>h pins s σ H E I (i E σ H q)
def PSs.imp{e:List Stmt}{t t':TS}(h:PSs X e t)(i:∀ E σ H,t' E σ H->t E σ H):PSs X e t':=λpins s σ H E I q=>h pins s σ H E I (i E σ H q)
def OpR.imp{f:Value->Value->Sem Value}{r r':R2}(h:OpR X f r)(i:∀ x y H Q,r' x y H Q->r x y H Q):OpR X f r':=λpins s σ H x y v u Q I rx ry q=>h pins s σ H x y v u Q I rx ry (i x y H Q q)
def UnR.imp{f:Value->Sem Value}{r r':V->Hp->VK->Prop}(h:UnR X f r)(i:∀ x H Q,r' x H Q->r x H Q):UnR X f r':=λpins s σ H x v Q I rx q=>h pins s σ H x v Q I rx (i x H Q q)
def CallR.imp{f:Value}{r r':List V->Hp->VK->Prop}(h:CallR X f r)(i:∀ x H Q,r' x H Q->r x H Q):CallR X f r':=λpins s σ H x v Q I rx q=>h pins s σ H x v Q I rx (i x H Q q)
def IxR.imp{r r':R2}(h:IxR X r)(i:∀ x y H Q,r' x y H Q->r x y H Q):IxR X r':=λva sl pins s σ H x y v u Q I rx ry q=>h va sl pins s σ H x y v u Q I rx ry (i x y H Q q)
noncomputable def ab(i:Nat):ME:=λenv S=>(env[i]?).join.bind λd=>U (d,S)
noncomputable def mC(d:D):ME:=λ_ S=>U (d,S)
def xo{α:Type}{o:Option (Option α)}{a:α}(h:o.join=U a):o=U (U a):=by
 cases o with
 | none=>cases h
 | some o=>exact congrArg U h
def Vz{i:Nat}{x:Str}{pos:Pos}(hN:X.N[i]?=U x)(hv:Ss X.env.scope x)(hd:(x == ("__debug__":Str))=false:=by decide)(hcd:(x == ("__classdict__":Str))=false:=by decide):DE X (.Name x pos) (ab i):=
 PE.imp (KP hN hv hd hcd) λσ H Q ⟨μ,S,env,d,S',hS,hE,hm,post⟩=>by
  obtain⟨d',h1,h2⟩:=KE.mp hm
  cases h2
  obtain⟨v,e,r⟩:=hE.get (xo h1)
  exact⟨v,e,post.here hS r⟩
def nz{e:Expr}{v:V}{d:D}(h:PE X e (tC v))(r:∀ μ H,Rep X.K μ H v d):DE X e (mC d):=
 PE.imp h λσ H Q ⟨μ,S,env,d',S',hS,hE,hm,post⟩=>by cases hm;exact post.here hS (r μ H)
def VG{i:Int}{j pos}:DE X (.Constant (.int i) j pos) (mC (.int i)):=nz Tv λ_ _=>.int i
def de_bl{b j pos}:DE X (.Constant (.bool b) j pos) (mC (.bl b)):=nz pe_bl λ_ _=>.bl b
def VD{j pos}:DE X (.Constant .none j pos) (mC .non):=nz Tu λ_ _=>.non
def VB{x j pos}:DE X (.Constant (.str x) j pos) (mC (.str x)):=nz Tr λ_ _=>.str x
structure GC(K:W.Frag)(mg:Str->Option Value)(x:Str)(d:D):Prop where
 ex:∃ u v,mg x=U u/\RelV v u/\∀ μ H,Rep K μ H v d
def QU{x:Str}{d:D}{pos:Pos}(g:GC X.K X.mg x d)(hg:Gl X x:=by rfl)(hd:(x == ("__debug__":Str))=false:=by decide):DE X (.Name x pos) (mC d):=by
 obtain⟨u,v,h1,h2,h3⟩:=g.ex
 exact nz (yy hg h1 h2 hd) h3
noncomputable def ar(f:ac->D->D->Option D)(a b:ME):ME:=λenv S=>(a env S).bind λp=>(b env p.2).bind λq=>(f q.2 p.1 q.1).bind λz=>U (z,q.2)
def Lz{f:ac->D->D->Option D}{a b:ME}{env:bj}{S S':ac}{d:D}(h:ar f a b env S=U (d,S')):∃ x S1 y,a env S=U (x,S1)/\b env S1=U (y,S')/\f S' x y=U d:=by
 obtain⟨⟨x,S1⟩,h1,h⟩:=KE.mp h
 obtain⟨⟨y,S2⟩,h2,h⟩:=KE.mp h
 obtain⟨z,h3,h⟩:=KE.mp h
 cases h
 exact⟨x,S1,y,h1,h2,h3⟩
def ya{f:ac->D->D->Option D}{ma mb:ME}{σ:L2.St}{Q:VK}(h:tM K (ar f ma mb) σ H Q):tOp (on K f) (tM K ma) (tM K mb) σ H Q:=by
 obtain⟨μ,S,env,d,S',hS,hE,hm,post⟩:=h
 obtain⟨x,S1,y,h1,h2,h3⟩:=Lz hm
 exact⟨μ,S,env,x,S1,hS,hE,h1,λv H1 μ1 e1 s1 r1=>⟨μ1,S1,env,y,S',s1,hE.mono e1,h2,λw H2 μ2 e2 s2 r2=>⟨μ2,S',x,y,d,s2,r1.mono e2,r2,h3,(post.ext e1).ext e2⟩⟩⟩
section
variable{a b c:Expr}{ma mb mc:ME}{pos:Pos}
def xL{op:Operator}{f:ac->D->D->Option D}(ho:OpR X (binaryOp op) (on X.K f))(ha:DE X a ma)(hb:DE X b mb):DE X (.BinOp a op b pos) (ar f ma mb):=
 PE.imp (pe_op ho ha hb) λ_ _ _ h=>ya h
def VI{op:CmpOp}{f:ac->D->D->Option D}(ho:OpR X (compareOp op) (on X.K f))(ha:DE X a ma)(hb:DE X b mb)(hm:behindInMarks op b=false):DE X (.Compare a [op] [b] pos) (ar f ma mb):=
 PE.imp (OY ho ha hb hm) λ_ _ _ h=>ya h
noncomputable def ax(m:ME):MT:=λenv S=>(m env S).bind λp=>match p.1 with | .bl k=>U (k,p.2) | _=>Y
def uB{m:ME}{env:bj}{S S':ac}{k:Bool}(h:ax m env S=U (k,S')):m env S=U (.bl k,S'):=by
 obtain⟨⟨x,S1⟩,h1,h⟩:=KE.mp h
 cases x <;> first | (cases h;exact h1) | cases h
def Rep.bl_inv{v:V}{k:Bool}(h:Rep K μ H v (.bl k)):v=.bl k:=by cases h;rfl
def Rep.int_inv{v:V}{k:Int}(h:Rep K μ H v (.int k)):v=.int k:=by cases h;rfl
def Rep.str_inv{v:V}{k:Str}(h:Rep K μ H v (.str k)):v=.str k:=by cases h;rfl
def Vn{op:CmpOp}{f:ac->D->D->Option D}(ho:OpR X (compareOp op) (on X.K f))(ha:DE X a ma)(hb:DE X b mb)(hm:behindInMarks op b=false):DT X (.Compare a [op] [b] pos) (ax (ar f ma mb)):=
 PT.imp (OI ho ha hb hm) λσ H Q ⟨μ,S,env,k,S',hS,hE,hm,post⟩=>by
  have h:=uB hm
  refine ya ⟨μ,S,env,_,S',hS,hE,h,λv H' μ' e s r=>?_⟩
  exact⟨k,r.bl_inv,post H' μ' e s⟩
noncomputable def cT(f g:ac->D->D->Option D)(a b c:ME):ME:=λenv S=>(a env S).bind λp=>(b env p.2).bind λq=>(f q.2 p.1 q.1).bind λz=>match z with
 | .bl true=>(c env q.2).bind λr=>(g r.2 q.1 r.1).bind λz=>U (z,r.2)
 | .bl false=>U (.bl false,q.2)
 | _=>Y
def wI{f g:ac->D->D->Option D}{σ:L2.St}{Q:VK}(h:tM K (cT f g ma mb mc) σ H Q):CV (on K f) (on K g) (tM K ma) (tM K mb) (tM K mc) σ H Q:=by
 obtain⟨μ,S,env,d,S',hS,hE,hm,post⟩:=h
 obtain⟨⟨x,S1⟩,h1,hm⟩:=KE.mp hm
 obtain⟨⟨y,S2⟩,h2,hm⟩:=KE.mp hm
 obtain⟨z,h3,hm⟩:=KE.mp hm
 refine⟨μ,S,env,x,S1,hS,hE,h1,λv H1 μ1 e1 s1 r1=>⟨μ1,S1,env,y,S2,s1,hE.mono e1,h2,λw H2 μ2 e2 s2 r2=>⟨μ2,S2,x,y,z,s2,r1.mono e2,r2,h3,λu H3 μ3 e3 s3 r3=>?_⟩⟩⟩
 cases z with
 | bl k=>
  refine⟨k,r3.bl_inv,?_⟩
  cases k with
  | false=>cases hm;rw [if_neg Bool.false_ne_true];exact post _ H3 μ3 ((e1.trans e2).trans e3) s3 (.bl false)
  | true=>
   obtain⟨⟨t,S4⟩,h4,hm⟩:=KE.mp hm
   obtain⟨z,h5,hm⟩:=KE.mp hm
   cases hm
   rw [WI rfl]
   exact⟨μ3,S2,env,t,S4,s3,hE.mono ((e1.trans e2).trans e3),h4,λu' H4 μ4 e4 s4 r4=>⟨μ4,_,y,t,_,s4,(r2.mono e3).mono e4,r4,h5,post.ext (((e1.trans e2).trans e3).trans e4)⟩⟩
 | _=>cases hm
def NL{op op':CmpOp}{f g:ac->D->D->Option D}(ho:OpR X (compareOp op) (on X.K f))(ho':OpR X (compareOp op') (on X.K g))(ha:DE X a ma)(hb:DE X b mb)(hc:DE X c mc)
  (hm:lastMarks [op,op'] [b,c]=false:=by with_unfolding_all rfl):DE X (.Compare a [op,op'] [b,c] pos) (cT f g ma mb mc):=
 PE.imp (La ho ho' ha hb hc hm) λ_ _ _ h=>wI h
def No{op op':CmpOp}{f g:ac->D->D->Option D}(ho:OpR X (compareOp op) (on X.K f))(ho':OpR X (compareOp op') (on X.K g))(ha:DE X a ma)(hb:DE X b mb)(hc:DE X c mc)
  (hm:lastMarks [op,op'] [b,c]=false:=by with_unfolding_all rfl):DT X (.Compare a [op,op'] [b,c] pos) (ax (cT f g ma mb mc)):=
 PT.imp (KD ho ho' ha hb hc hm) λσ H Q ⟨μ,S,env,k,S',hS,hE,hm,post⟩=>by
  have h:=uB hm
  refine wI ⟨μ,S,env,_,S',hS,hE,h,λv H' μ' e s r=>?_⟩
  exact⟨k,r.bl_inv,post H' μ' e s⟩
noncomputable def tO(S:ac):D->Option Bool
 | .non=>U false
 | .bl b=>U b
 | .int i=>U (i != 0)
 | .str y=>if y.length<=sizeLine then U ((y.length:Int) != 0) else Y
 | .tup xs=>U (!xs.isEmpty)
 | .lst xs=>U (!xs.isEmpty)
 | .rol xs=>U (!xs.isEmpty)
 | .dct ks _=>U (!ks.isEmpty)
 | .ref r=>match S[r]? with
  | some (.lst xs)=>U (!xs.isEmpty)
  | some (.dct ks _)=>U (!ks.isEmpty)
  | none=>Y
theorem Reps.isEmpty{vs:List V}{ds:List D}(r:Reps K μ H vs ds):(!ds.isEmpty) = !vs.isEmpty:=by cases r <;> rfl
def rR{α β:Type}(f:α->β)(l:List α):(!(l.map f).isEmpty) = !l.isEmpty:=by cases l <;> rfl
def sV{x:V}{d:D}{k:Bool}(s:SOk K μ S H)(r:Rep K μ H x d)(h:tO S d=U k):Jy K x H k:=by
 cases r with
 | non=>cases h;rfl
 | bl b=>cases h;rfl
 | int i=>cases h;rfl
 | str y=>
  simp only [tO] at h
  split at h
  ·rename_i hy;cases h;exact⟨hy,rfl⟩
  ·cases h
 | @tup a vs ds h' n r=>cases h;exact .inr (.inl ⟨vs,.inl (.inl h'),r.isEmpty⟩)
 | @ktup a vs ds h' r=>cases h;exact .inr (.inl ⟨vs,.inr h',r.isEmpty⟩)
 | @lst a vs ds h' n r=>cases h;exact .inl ⟨vs,.inl (.inl h'),r.isEmpty⟩
 | @rol a vs ds h' n r=>cases h;exact .inl ⟨vs,.inl h',r.isEmpty⟩
 | @krol a vs ds h' r=>cases h;exact .inl ⟨vs,.inr h',r.isEmpty⟩
 | @dct a kvs ds h' n r=>cases h;exact .inr (.inr ⟨kvs,h',rR _ _⟩)
 | @ref a i h'=>
  simp only [tO] at h
  cases q:S[i]? with
  | none=>rw [q] at h;cases h
  | some c=>
   rw [q] at h
   have ck:=s.cell i a c h' q
   cases c with
   | lst xs=>cases h;obtain⟨vs,e,r⟩:=ck;exact .inl ⟨vs,.inl (.inl e),r.isEmpty⟩
   | dct ks xs=>cases h;obtain⟨kvs,e,rfl,r⟩:=ck;exact .inr (.inr ⟨kvs,e,rR _ _⟩)
noncomputable def cQ(m:ME):MT:=λenv S=>(m env S).bind λp=>(tO p.2 p.1).bind λk=>U (k,p.2)
def Cq(ha:DE X a ma)(he:∀ whole,isTrue a X.env whole=(do let v <- whole;standAt a.pos;holding [v] (truthy v)):=by intro _;rfl):DT X a (cQ ma):=
 PT.imp (KC ha he) λσ H Q ⟨μ,S,env,k,S',hS,hE,hm,post⟩=>by
  obtain⟨⟨x,S1⟩,h1,hm⟩:=KE.mp hm
  obtain⟨k',h2,hm⟩:=KE.mp hm
  cases hm
  exact⟨μ,S,env,x,S1,hS,hE,h1,λv H' μ' e s r=>⟨k,sV s r h2,post H' μ' e s⟩⟩
variable{ta tb tc:MT}{rest:List Expr}
noncomputable def dc(a b:MT):MT:=λenv S=>(a env S).bind λp=>if p.1=true then b env p.2 else U (false,p.2)
noncomputable def eG(a b:MT):MT:=λenv S=>(a env S).bind λp=>if p.1=true then U (true,p.2) else b env p.2
noncomputable def dB(a:MT):MT:=λenv S=>(a env S).bind λp=>U (!p.1,p.2)
def Os{σ:L2.St}{Q:Bool->Hp->Prop}(h:JA K (dc ta tb) σ H Q):tAnd (JA K ta) (JA K tb) σ H Q:=by
 obtain⟨μ,S,env,k,S',hS,hE,hm,post⟩:=h
 obtain⟨⟨x,S1⟩,h1,hm⟩:=KE.mp hm
 refine⟨μ,S,env,x,S1,hS,hE,h1,λH1 μ1 e1 s1=>?_⟩
 cases x with
 | true=>rw [WI rfl] at hm ⊢;exact⟨μ1,S1,env,k,S',s1,hE.mono e1,hm,λH2 μ2 e2 s2=>post H2 μ2 (e1.trans e2) s2⟩
 | false=>rw [if_neg Bool.false_ne_true] at hm ⊢;cases hm;exact post H1 μ1 e1 s1
def SM{σ:L2.St}{Q:Bool->Hp->Prop}(h:JA K (eG ta tb) σ H Q):tOr (JA K ta) (JA K tb) σ H Q:=by
 obtain⟨μ,S,env,k,S',hS,hE,hm,post⟩:=h
 obtain⟨⟨x,S1⟩,h1,hm⟩:=KE.mp hm
 refine⟨μ,S,env,x,S1,hS,hE,h1,λH1 μ1 e1 s1=>?_⟩
 cases x with
 | false=>rw [if_neg Bool.false_ne_true] at hm ⊢;exact⟨μ1,S1,env,k,S',s1,hE.mono e1,hm,λH2 μ2 e2 s2=>post H2 μ2 (e1.trans e2) s2⟩
 | true=>rw [WI rfl] at hm ⊢;cases hm;exact post H1 μ1 e1 s1
def GA(ha:DT X a ta):DW X (.BoolOp .And [a] pos) ta:=OE ha
def Nl(ha:DT X a ta):DW X (.BoolOp .Or [a] pos) ta:=SZ ha
def Nm(ha:DT X a ta)(hb:DW X (.BoolOp .And (b::rest) pos) tb):DW X (.BoolOp .And (a::b::rest) pos) (dc ta tb):=PW.imp (Ta ha hb) λ_ _ _ h=>Os h
def Sl(ha:DT X a ta)(hb:DW X (.BoolOp .Or (b::rest) pos) tb):DW X (.BoolOp .Or (a::b::rest) pos) (eG ta tb):=PW.imp (pw_or ha hb) λ_ _ _ h=>SM h
def QC(h:DW X a ta):DT X a ta:=PW.pt h
def Vm(ha:DT X a ta):DT X (.UnaryOp .Not a pos) (dB ta):=PT.imp (Tb ha) λσ H Q ⟨μ,S,env,k,S',hS,hE,hm,post⟩=>by
 obtain⟨⟨x,S1⟩,h1,hm⟩:=KE.mp hm
 cases hm
 exact⟨μ,S,env,x,S1,hS,hE,h1,λH1 μ1 e1 s1=>post H1 μ1 e1 s1⟩
noncomputable def dA(a b:ME):ME:=λenv S=>(a env S).bind λp=>match p.1 with | .bl true=>b env p.2 | .bl false=>U (.bl false,p.2) | _=>Y
noncomputable def vE(a b:ME):ME:=λenv S=>(a env S).bind λp=>match p.1 with | .bl false=>b env p.2 | .bl true=>U (.bl true,p.2) | _=>Y
def NH{op}(h:DE X a ma):DE X (.BoolOp op [a] pos) ma:=Tt h
noncomputable def gF(a:ME):ME:=λenv S=>(a env S).bind λp=>match p.1 with | .bl k=>U (.bl (!k),p.2) | _=>Y
noncomputable def mD(t:MT)(a b:ME):ME:=λenv S=>(t env S).bind λp=>if p.1=true then a env p.2 else b env p.2
def de_if(hc:DT X c tc)(ha:DE X a ma)(hb:DE X b mb):DE X (.IfExp c a b pos) (mD tc ma mb):=PE.imp (KW hc ha hb) λσ H Q ⟨μ,S,env,d,S',hS,hE,hm,post⟩=>by
 obtain⟨⟨x,S1⟩,h1,hm⟩:=KE.mp hm
 refine⟨μ,S,env,x,S1,hS,hE,h1,λH1 μ1 e1 s1=>?_⟩
 cases x with
 | true=>rw [WI rfl] at hm ⊢;exact⟨μ1,S1,env,d,S',s1,hE.mono e1,hm,post.ext e1⟩
 | false=>rw [if_neg Bool.false_ne_true] at hm ⊢;exact⟨μ1,S1,env,d,S',s1,hE.mono e1,hm,post.ext e1⟩
variable{es:List Expr}{ms:MA}
noncomputable def ai:MA:=λ_ S=>U ([],S)
noncomputable def aa(a:ME)(r:MA):MA:=λenv S=>(a env S).bind λp=>(r env p.2).bind λq=>U (p.1::q.1,q.2)
def VJ:DA X [] ai:=PA.imp Le λσ H Q ⟨μ,S,env,d,S',hS,hE,hm,post⟩=>by cases hm;exact post [] H μ hS.ext hS .nil
def Rc(ha:DE X a ma)(hr:DA X es ms)(hs:starEach (a::es) X.env=(false,eval a X.env)::starEach es X.env:=by rfl):DA X (a::es) (aa ma ms):=PA.imp (yA ha hr hs) λσ H Q ⟨μ,S,env,ds,S',hS,hE,hm,post⟩=>by
 obtain⟨⟨x,S1⟩,h1,hm⟩:=KE.mp hm
 obtain⟨⟨xs,S2⟩,h2,hm⟩:=KE.mp hm
 cases hm
 exact⟨μ,S,env,x,S1,hS,hE,h1,λv H1 μ1 e1 s1 r1=>⟨μ1,S1,env,xs,S2,s1,hE.mono e1,h2,λvs H2 μ2 e2 s2 r2=>post (v::vs) H2 μ2 (e1.trans e2) s2 (.cons (r1.mono e2) r2)⟩⟩
noncomputable def aO(ms:MA):ME:=λenv S=>(ms env S).bind λp=>if p.1.length<=sizeLine then U (.tup p.1,p.2) else Y
noncomputable def eQ(ms:MA):ME:=λenv S=>(ms env S).bind λp=>if p.1.length<=sizeLine then U (.lst p.1,p.2) else Y
noncomputable def dI(ms:MA):ME:=λenv S=>(ms env S).bind λp=>if p.1.length<=sizeLine then U (.ref p.2.length,p.2++[.lst p.1]) else Y
theorem Post.tup{vs:List V}{ds:List D}{Q:VK}{p:Addr}(post:Post K μ H S (.tup ds) Q)(s:SOk K μ S H)(hp:H p=Y)(r:Reps K μ H vs ds):Q (.ref p) (upd H p (.tup vs)):=by
 obtain⟨e,s'⟩:=s.laid (o:=.tup vs) hp
 exact post _ _ _ e s' (.tup bA (s.notMem hp) (r.mono e))
theorem Post.lst{vs:List V}{ds:List D}{Q:VK}{p:Addr}(post:Post K μ H S (.lst ds) Q)(s:SOk K μ S H)(hp:H p=Y)(r:Reps K μ H vs ds):Q (.ref p) (upd H p (.lst vs)):=by
 obtain⟨e,s'⟩:=s.laid (o:=.lst vs) hp
 exact post _ _ _ e s' (.lst bA (s.notMem hp) (r.mono e))
def Post.lstR{vs:List V}{ds:List D}{Q:VK}{p:Addr}(post:Post K μ H (S++[.lst ds]) (.ref S.length) Q)(s:SOk K μ S H)(hp:H p=Y)(r:Reps K μ H vs ds):Q (.ref p) (upd H p (.lst vs)):=by
 obtain⟨e,s'⟩:=s.alloc hp r
 exact post _ _ _ e s' (.ref (by rw [<- s.len,Xg (WD _)];simp))
def VA{k}(h:DA X es ms):DE X (.Tuple es k pos) (aO ms):=PE.imp (Tq h) λσ H Q ⟨μ,S,env,d,S',hS,hE,hm,post⟩=>by
 obtain⟨⟨xs,S1⟩,h1,hm⟩:=KE.mp hm
 dsimp only at hm
 split at hm
 ·rename_i hl
  cases hm
  exact⟨μ,S,env,_,_,hS,hE,h1,λvs H1 μ1 e1 s1 r1=>⟨by rw [r1.length];exact hl,λp hp=>(post.ext e1).tup s1 hp r1⟩⟩
 ·cases hm
def VE(h:DA X es ms):DE X (.List es pos) (eQ ms):=PE.imp (KS h) λσ H Q ⟨μ,S,env,d,S',hS,hE,hm,post⟩=>by
 obtain⟨⟨xs,S1⟩,h1,hm⟩:=KE.mp hm
 dsimp only at hm
 split at hm
 ·rename_i hl
  cases hm
  exact⟨μ,S,env,_,_,hS,hE,h1,λvs H1 μ1 e1 s1 r1=>⟨by rw [r1.length];exact hl,λp hp=>(post.ext e1).lst s1 hp r1⟩⟩
 ·cases hm
def QT(h:DA X es ms):DE X (.List es pos) (dI ms):=PE.imp (KS h) λσ H Q ⟨μ,S,env,d,S',hS,hE,hm,post⟩=>by
 obtain⟨⟨xs,S1⟩,h1,hm⟩:=KE.mp hm
 dsimp only at hm
 split at hm
 ·rename_i hl
  cases hm
  exact⟨μ,S,env,_,_,hS,hE,h1,λvs H1 μ1 e1 s1 r1=>⟨by rw [r1.length];exact hl,λp hp=>(post.ext e1).lstR s1 hp r1⟩⟩
 ·cases hm
def QV:DE X (.Dict [] [] pos) (mC (.dct [] [])):=PE.imp KY λσ H Q ⟨μ,S,env,d,S',hS,hE,hm,post⟩=>by
 cases hm
 intro p hp
 obtain⟨e,s'⟩:=hS.laid (o:=.dK []) hp
 exact post _ _ _ e s' (.dct (kvs:=[]) bA (hS.notMem hp) .nil)
end
end
mutual
noncomputable def jJ:D->D->Bool
 | .non,.non=>true
 | .bl a,.bl b=>a == b
 | .bl a,.int b=>(if a then 1 else 0) == b
 | .int a,.bl b=>a == (if b then 1 else 0)
 | .int a,.int b=>a == b
 | .str a,.str b=>a == b
 | .tup xs,.tup ys=>eqDs xs ys
 | .lst xs,.lst ys=>eqDs xs ys
 | _,_=>false
noncomputable def eqDs:List D->List D->Bool
 | [],[]=>true
 | x::xs,y::ys=>jJ x y&&eqDs xs ys
 | _,_=>false
end
noncomputable def cP:Nat->D->Bool
 | _,.non=>true
 | _,.bl _=>true
 | _,.int _=>true
 | _,.str _=>true
 | n+1,.tup xs=>xs.all (cP n)
 | n+1,.lst xs=>xs.all (cP n)
 | _,_=>false
theorem ui:∀ {n m:Nat} {d:D},n<=m->cP n d=true->cP m d=true
 | n,m,.non,_,_=>by simp [cP]
 | n,m,.bl _,_,_=>by simp [cP]
 | n,m,.int _,_,_=>by simp [cP]
 | n,m,.str _,_,_=>by simp [cP]
 | 0,m,.tup _,_,h=>by simp [cP] at h
 | 0,m,.lst _,_,h=>by simp [cP] at h
 | n+1,m+1,.tup xs,hl,h=>by
  simp only [cP,WJ] at h ⊢
  exact λd hd=>ui (aag hl) (h d hd)
 | n+1,m+1,.lst xs,hl,h=>by
  simp only [cP,WJ] at h ⊢
  exact λd hd=>ui (aag hl) (h d hd)
 | n+1,0,.tup _,hl,_=>absurd hl (by omega)
 | n+1,0,.lst _,hl,_=>absurd hl (by omega)
 | n,m,.rol _,_,h=>by cases n <;> simp [cP] at h
 | n,m,.dct _ _,_,h=>by cases n <;> simp [cP] at h
 | n,m,.ref _,_,h=>by cases n <;> simp [cP] at h
theorem zK:∀ (xs ys:List D),eqDs xs ys=((List.range (min xs.length ys.length)).all (λj=>match xs[j]?,ys[j]? with | some a,U b=>jJ a b | _,_=>true)&&xs.length == ys.length)
 | [],[]=>rfl
 | [],y::ys=>by simp [eqDs]
 | x::xs,[]=>by simp [eqDs]
 | x::xs,y::ys=>by
  have ih:=zK xs ys
  rw [eqDs,ih]
  have hm:min (x::xs).length (y::ys).length=min xs.length ys.length+1:=by simp only [WG];omega
  rw [hm,aah,XM,List.all_map]
  simp only [aac,WG,Bool.and_assoc]
  congr 1
  congr 1
  rw [Xc];simp
section
variable{X:Cx}{pins:List (Addr×Obj)}{σ:L2.St}{H:Hp}{s:Shared}{μ:Fp}{A:Around}
def Rep.sqT{K:W.Frag}{v:V}{ds:List D}(r:Rep K μ H v (.tup ds)):∃ a vs,v=.ref a/\kQ K H a vs/\Reps K μ H vs ds:=by
 cases r with
 | tup h n r=>exact⟨_,_,rfl,.inl (.inl h),r⟩
 | ktup h r=>exact⟨_,_,rfl,.inr h,r⟩
def Rep.sqL{K:W.Frag}{v:V}{ds:List D}(r:Rep K μ H v (.lst ds)):∃ a vs,v=.ref a/\H a=U (.lst vs)/\μ.no a/\Reps K μ H vs ds:=by
 cases r with
 | lst h n r=>exact⟨_,_,rfl,h,n,r⟩
def Rep.sqR{K:W.Frag}{v:V}{ds:List D}(r:Rep K μ H v (.rol ds)):∃ a vs,v=.ref a/\my K H a vs/\Reps K μ H vs ds:=by
 cases r with
 | rol h n r=>exact⟨_,_,rfl,.inl h,r⟩
 | krol h r=>exact⟨_,_,rfl,.inr h,r⟩
def ntl(I:Inv X pins σ H s){a:Addr}{xs ys:List V}(h:kQ X.K H a xs)(h':my X.K H a ys):False:=by
 obtain⟨its,_,⟨o,e,c,_⟩,_⟩:=I.tuple h
 obtain⟨its',_,⟨o',n',e',c',_⟩,_⟩:=I.list h'
 rw [e] at e';cases e'
 rw [c] at c'
 exact absurd c' (by simp)
def Rep.non_inv{K:W.Frag}{v:V}(h:Rep K μ H v .non):v=.non:=by cases h;rfl
def FH{n:Nat}{xs:List D}:cP n (.rol xs)=false:=by cases n <;> rfl
def FJ{n:Nat}{ks:List bt}{xs:List D}:cP n (.dct ks xs)=false:=by cases n <;> rfl
def FI{n:Nat}{r:Nat}:cP n (.ref r)=false:=by cases n <;> rfl
def sZ{n:Nat}{xs:List D}(h:cP n (.tup xs)=true):∃ m,m+1=n/\∀ x∈xs,cP m x=true:=by
 cases n with
 | zero=>cases h
 | succ n=>exact⟨n,rfl,WJ.mp h⟩
def tf{n:Nat}{xs:List D}(h:cP n (.lst xs)=true):∃ m,m+1=n/\∀ x∈xs,cP m x=true:=by
 cases n with
 | zero=>cases h
 | succ n=>exact⟨n,rfl,WJ.mp h⟩
inductive Fm(K:W.Frag)(μ:Fp)(H:Hp):D->V->Prop
 | non:Fm K μ H .non .non
 | bl (b:Bool):Fm K μ H (.bl b) (.bl b)
 | int (i:Int):Fm K μ H (.int i) (.int i)
 | str (x:Str):Fm K μ H (.str x) (.str x)
 | tup {xs:List D} {l:Addr} {vs:List V} (q:kQ K H l vs) (r:Reps K μ H vs xs):Fm K μ H (.tup xs) (.ref l)
 | lst {xs:List D} {l:Addr} {vs:List V} (q:my K H l vs) (r:Reps K μ H vs xs):Fm K μ H (.lst xs) (.ref l)
def si{K:W.Frag}{n:Nat}{x:D}{a:V}(hx:cP n x=true)(r:Rep K μ H a x):Fm K μ H x a:=by
 cases x with
 | non=>rw [r.non_inv];exact .non
 | bl b=>rw [r.bl_inv];exact .bl b
 | int b=>rw [r.int_inv];exact .int b
 | str b=>rw [r.str_inv];exact .str b
 | tup xs=>obtain⟨l,vs,rfl,q,r⟩:=r.sqT;exact .tup q r
 | lst xs=>obtain⟨l,vs,rfl,q,_,r⟩:=r.sqL;exact .lst (.inl (.inl q)) r
 | rol _=>rw [FH] at hx;cases hx
 | dct _ _=>rw [FJ] at hx;cases hx
 | ref _=>rw [FI] at hx;cases hx
theorem Reps.injN{K:W.Frag}{n:Nat}(ih:∀ {v:V} {x y:D},cP n x=true->cP n y=true->Rep K μ H v x->Rep K μ H v y->x=y):∀ {vs:List V} {xs ys:List D},(∀ x∈xs,cP n x=true)->(∀ y∈ys,cP n y=true)->Reps K μ H vs xs->Reps K μ H vs ys->xs=ys
 | _,_,_,_,_,.nil,.nil=>rfl
 | _,_,_,hx,hy,.cons h t,.cons h' t'=>by
  rw [ih (hx _ Wr) (hy _ Wr) h h',Reps.injN ih (λx m=>hx x (Wu _ m)) (λx m=>hy x (Wu _ m)) t t']
def BS(I:Inv X pins σ H s)(n:Nat)(ih:∀ m,m+1=n->∀ {v:V} {x y:D},cP m x=true->cP m y=true->Rep X.K μ H v x->Rep X.K μ H v y->x=y){v:V}{x y:D}(hx:cP n x=true)(hy:cP n y=true)(rx:Rep X.K μ H v x)(ry:Rep X.K μ H v y):x=y:=by
 have fy:=si hy ry
 cases x with
 | tup xs=>
  obtain⟨a,vs,rfl,q,r⟩:=rx.sqT
  obtain⟨m,hm,ox⟩:=sZ hx
  cases fy with
  | tup q' r'=>
   cases I.tuple_inj q' q
   obtain⟨m',hm',oy⟩:=sZ hy
   have:m'=m:=by omega
   subst this
   rw [Reps.injN (ih m' hm) ox oy r r']
  | lst q' _=>exact(ntl I q q').elim
 | lst xs=>
  obtain⟨a,vs,rfl,q,_,r⟩:=rx.sqL
  obtain⟨m,hm,ox⟩:=tf hx
  cases y with
  | lst ys=>
   obtain⟨m',hm',oy⟩:=tf hy
   have:m'=m:=by omega
   subst this
   obtain⟨a',vs',e,q',_,r'⟩:=ry.sqL
   cases e
   rw [q] at q';cases q'
   rw [Reps.injN (ih m' hm) ox oy r r']
  | _=>cases fy <;> exact(ntl I (by assumption) (.inl (.inl q))).elim
 | non=>rw [rx.non_inv] at fy;cases fy;rfl
 | bl b=>rw [rx.bl_inv] at fy;cases fy;rfl
 | int b=>rw [rx.int_inv] at fy;cases fy;rfl
 | str b=>rw [rx.str_inv] at fy;cases fy;rfl
 | rol _=>rw [FH] at hx;cases hx
 | dct _ _=>rw [FJ] at hx;cases hx
 | ref _=>rw [FI] at hx;cases hx
def Rep.inj(I:Inv X pins σ H s)(n:Nat):∀ {v:V} {x y:D},cP n x=true->cP n y=true->Rep X.K μ H v x->Rep X.K μ H v y->x=y:=by
 induction n with
 | zero=>exact λhx hy rx ry=>BS I 0 (λm h=>absurd h (Nat.succ_ne_zero m)) hx hy rx ry
 | succ n ih=>exact λhx hy rx ry=>BS I (n+1) (λm h=>by cases h;exact ih) hx hy rx ry
theorem nw:∀ (n:Nat) (x:D),cP n x=true->jJ x x=true
 | n,.non,_=>rfl
 | n,.bl _,_=>by simp [jJ]
 | n,.int _,_=>by simp [jJ]
 | n,.str _,_=>by simp [jJ]
 | 0,.tup _,h=>by simp [cP] at h
 | 0,.lst _,h=>by simp [cP] at h
 | n+1,.tup xs,h=>by
  simp only [cP,WJ] at h
  rw [jJ]
  induction xs with
  | nil=>rfl
  | cons x xs ih=>rw [eqDs,nw n x (h x Wr),ih λy m=>h y (Wu _ m)];rfl
 | n+1,.lst xs,h=>by
  simp only [cP,WJ] at h
  rw [jJ]
  induction xs with
  | nil=>rfl
  | cons x xs ih=>rw [eqDs,nw n x (h x Wr),ih λy m=>h y (Wu _ m)];rfl
 | n,.rol _,h=>by cases n <;> simp [cP] at h
 | n,.dct _ _,h=>by cases n <;> simp [cP] at h
 | n,.ref _,h=>by cases n <;> simp [cP] at h
open PySem.SeqAt
def xy(A:Around):A.in1.units=A.units+1:=rfl
def xr{its its2:List Value}{vs ws:List V}{xs ys:List D}{P:Value->Value->Bool->Prop}(r1:Vals vs its)(q1:Reps X.K μ H vs xs)(r2:Vals ws its2)(q2:Reps X.K μ H ws ys)
  (h:∀ (j:Nat) (v w:V) (u u':Value) (x y:D),xs[j]?=U x->ys[j]?=U y->Rep X.K μ H v x->Rep X.K μ H w y->RelV v u->RelV w u'->P u u' (jJ x y)) :
  ∀ j (h1:j<its.toArray.size) (h2:j<its2.toArray.size),P its.toArray[j] its2.toArray[j] (match xs[j]?,ys[j]? with | some a,U b=>jJ a b | _,_=>true):=λj h1 h2=>by
 have l1:=r1.length
 have l2:=r2.length
 have m1:=q1.length
 have m2:=q2.length
 have h1':j<its.length:=by simpa using h1
 have h2':j<its2.length:=by simpa using h2
 have hx:xs[j]?=U xs[j]:=Wv (by omega)
 have hy:ys[j]?=U ys[j]:=Wv (by omega)
 obtain⟨v,e1,p1⟩:=q1.get hx
 obtain⟨w,e2,p2⟩:=q2.get hy
 obtain⟨u,f1,g1⟩:=r1.get e1
 obtain⟨u',f2,g2⟩:=r2.get e2
 rw [hx,hy]
 have:=h j v w u u' _ _ hx hy p1 p2 g1 g2
 have f1':its.toArray[j]=u:=by simpa [Wv h1'] using f1
 have f2':its2.toArray[j]=u':=by simpa [Wv h2'] using f2
 rw [f1',f2']
 exact this
structure Wm(A:Around)(s:Shared)(u v:Value)(b:Bool):Prop where
 eq:EqAt A s u v b
 rc:RcAt A s u v b
 ne:RcNeAt A s u v (!b)
def Gz(I:Inv X pins σ H s)(n:Nat)(ih:∀ m,m+1=n->∀ (A:Around) {a b:V} {u v:Value} {x y:D},A.units+m<cLine->cP m x=true->cP m y=true->Rep X.K μ H a x->Rep X.K μ H b y->RelV a u->RelV b v->Wm A s u v (jJ x y))
  (A:Around) {a b:V} {u v:Value} {x y:D} (hn:A.units+n<cLine) (hx:cP n x=true) (hy:cP n y=true) (rx:Rep X.K μ H a x) (ry:Rep X.K μ H b y) (ra:RelV a u) (rb:RelV b v):Wm A s u v (jJ x y):=by
 have hu:A.units<cLine:=by omega
 cases si hx rx with
 | non=>
  cases ra
  cases si hy ry with
  | non=>cases rb;exact⟨EqAt.same _,RcAt.none_none,RcNeAt.none_none⟩
  | bl b=>cases rb;exact⟨EqAt.none_bool b,RcAt.none_bool b,RcNeAt.none_bool b⟩
  | int b=>obtain⟨t,rfl⟩:=rb;exact⟨EqAt.none_int b t,RcAt.none_int b t,RcNeAt.none_int b t⟩
  | str b=>obtain⟨t,rfl⟩:=rb;exact⟨EqAt.none_str b t,RcAt.none_str b t,RcNeAt.none_str b t⟩
  | tup q r=>cases rb;obtain⟨its,rv,p,_⟩:=I.tuple q;exact⟨EqAt.none_tuple p hu,RcAt.none_tuple p hu,RcNeAt.none_tuple p hu⟩
  | lst q r=>cases rb;obtain⟨its,rv,p,_⟩:=I.list q;exact⟨EqAt.none_list p.isList hu,RcAt.none_list p.isList hu,RcNeAt.none_list p.isList hu⟩
 | bl a=>
  cases ra
  cases si hy ry with
  | non=>cases rb;exact⟨EqAt.bool_none a,RcAt.bool_none a,RcNeAt.bool_none a⟩
  | bl b=>cases rb;exact⟨EqAt.bool_bool a b,RcAt.bool_bool a b,RcNeAt.bool_bool a b⟩
  | int b=>obtain⟨t,rfl⟩:=rb;exact⟨EqAt.bool_int a b t,RcAt.bool_int a b t,RcNeAt.bool_int a b t⟩
  | str b=>obtain⟨t,rfl⟩:=rb;exact⟨EqAt.bool_str a b t,RcAt.bool_str a b t,RcNeAt.bool_str a b t⟩
  | tup q r=>cases rb;obtain⟨its,rv,p,_⟩:=I.tuple q;exact⟨EqAt.bool_tuple a p hu,RcAt.bool_tuple a p hu,RcNeAt.bool_tuple a p hu⟩
  | lst q r=>cases rb;obtain⟨its,rv,p,_⟩:=I.list q;exact⟨EqAt.bool_list a p.isList hu,RcAt.bool_list a p.isList hu,RcNeAt.bool_list a p.isList hu⟩
 | int a=>
  obtain⟨t',rfl⟩:=ra
  cases si hy ry with
  | non=>cases rb;exact⟨EqAt.int_none a t',RcAt.int_none a t',RcNeAt.int_none a t'⟩
  | bl b=>cases rb;exact⟨EqAt.int_bool a t' b,RcAt.int_bool a t' b,RcNeAt.int_bool a t' b⟩
  | int b=>obtain⟨t,rfl⟩:=rb;exact⟨EqAt.int_int a t' b t,RcAt.int_int a t' b t,RcNeAt.int_int a t' b t⟩
  | str b=>obtain⟨t,rfl⟩:=rb;exact⟨EqAt.int_str a t' b t,RcAt.int_str a t' b t,RcNeAt.int_str a t' b t⟩
  | tup q r=>cases rb;obtain⟨its,rv,p,_⟩:=I.tuple q;exact⟨EqAt.int_tuple a t' p hu,RcAt.int_tuple a t' p hu,RcNeAt.int_tuple a t' p hu⟩
  | lst q r=>cases rb;obtain⟨its,rv,p,_⟩:=I.list q;exact⟨EqAt.int_list a t' p.isList hu,RcAt.int_list a t' p.isList hu,RcNeAt.int_list a t' p.isList hu⟩
 | str a=>
  obtain⟨t',rfl⟩:=ra
  cases si hy ry with
  | non=>cases rb;exact⟨EqAt.str_none a t',RcAt.str_none a t',RcNeAt.str_none a t'⟩
  | bl b=>cases rb;exact⟨EqAt.str_bool a t' b,RcAt.str_bool a t' b,RcNeAt.str_bool a t' b⟩
  | int b=>obtain⟨t,rfl⟩:=rb;exact⟨EqAt.str_int a t' b t,RcAt.str_int a t' b t,RcNeAt.str_int a t' b t⟩
  | str b=>obtain⟨t,rfl⟩:=rb;exact⟨EqAt.str_str a t' b t,RcAt.str_str a t' b t,RcNeAt.str_str a t' b t⟩
  | tup q r=>cases rb;obtain⟨its,rv,p,_⟩:=I.tuple q;exact⟨EqAt.str_tuple a t' p hu,RcAt.str_tuple a t' p hu,RcNeAt.str_tuple a t' p hu⟩
  | lst q r=>cases rb;obtain⟨its,rv,p,_⟩:=I.list q;exact⟨EqAt.str_list a t' p.isList hu,RcAt.str_list a t' p.isList hu,RcNeAt.str_list a t' p.isList hu⟩
 | @tup xs l vs q r=>
  cases ra
  obtain⟨its,rv,p,_⟩:=I.tuple q
  cases si hy ry with
  | non=>cases rb;exact⟨EqAt.tuple_none p hu,RcAt.tuple_none p hu,RcNeAt.tuple_none p hu⟩
  | bl b=>cases rb;exact⟨EqAt.tuple_bool b p hu,RcAt.tuple_bool b p hu,RcNeAt.tuple_bool b p hu⟩
  | int b=>obtain⟨t,rfl⟩:=rb;exact⟨EqAt.tuple_int b t p hu,RcAt.tuple_int b t p hu,RcNeAt.tuple_int b t p hu⟩
  | str b=>obtain⟨t,rfl⟩:=rb;exact⟨EqAt.tuple_str b t p hu,RcAt.tuple_str b t p hu,RcNeAt.tuple_str b t p hu⟩
  | @tup ys l' vs' q' r'=>
   cases rb
   obtain⟨its',rv',p',_⟩:=I.tuple q'
   obtain⟨m,hm,ox⟩:=sZ hx
   obtain⟨m',hm',oy⟩:=sZ hy
   have:m'=m:=by omega
   subst this
   have all:=xr (P:=λu u' b=>EqAt A.in1 s u u' b) rv r rv' r' λj v w u u' x y hx' hy' q1 q2 g1 g2=>
    (ih m' hm A.in1 (by rw [xy];omega) (ox x (WN hx')) (oy y (WN hy')) q1 q2 g1 g2).eq
   have e0:its.toArray.size=xs.length:=by rw [Wt,<- rv.length,r.length]
   have e1:its'.toArray.size=ys.length:=by rw [Wt,<- rv'.length,r'.length]
   have key:=RcAt.tuples (A:=A) (s:=s) p p' hu all
   have kne:=RcNeAt.tuples (A:=A) (s:=s) p p' hu all
   rw [e0,e1,<- zK] at key kne
   refine⟨?_,key,kne⟩
   by_cases hl:l=l'
   ·subst hl
    rw [<- Rep.inj I n hx hy rx ry,nw _ _ hx]
    exact EqAt.same _
   ·exact EqAt.of_refs hl key
  | lst q' r'=>cases rb;obtain⟨its',rv',p',_⟩:=I.list q';exact⟨EqAt.tuple_list p p'.isList hu,RcAt.tuple_list p p'.isList hu,RcNeAt.tuple_list p p'.isList hu⟩
 | @lst xs l vs q r=>
  cases ra
  obtain⟨its,rv,p0,_⟩:=I.list q
  have p:=p0.isList
  cases si hy ry with
  | non=>cases rb;exact⟨EqAt.list_none p hu,RcAt.list_none p hu,RcNeAt.list_none p hu⟩
  | bl b=>cases rb;exact⟨EqAt.list_bool b p hu,RcAt.list_bool b p hu,RcNeAt.list_bool b p hu⟩
  | int b=>obtain⟨t,rfl⟩:=rb;exact⟨EqAt.list_int b t p hu,RcAt.list_int b t p hu,RcNeAt.list_int b t p hu⟩
  | str b=>obtain⟨t,rfl⟩:=rb;exact⟨EqAt.list_str b t p hu,RcAt.list_str b t p hu,RcNeAt.list_str b t p hu⟩
  | tup q' r'=>cases rb;obtain⟨its',rv',p',_⟩:=I.tuple q';exact⟨EqAt.list_tuple p p' hu,RcAt.list_tuple p p' hu,RcNeAt.list_tuple p p' hu⟩
  | @lst ys l' vs' q' r'=>
   cases rb
   obtain⟨its',rv',p0',_⟩:=I.list q'
   have p':=p0'.isList
   obtain⟨m,hm,ox⟩:=tf hx
   obtain⟨m',hm',oy⟩:=tf hy
   have:m'=m:=by omega
   subst this
   have all:=xr (P:=λu u' b=>EqAt A.in1 s u u' b) rv r rv' r' λj v w u u' x y hx' hy' q1 q2 g1 g2=>
    (ih m' hm A.in1 (by rw [xy];omega) (ox x (WN hx')) (oy y (WN hy')) q1 q2 g1 g2).eq
   have e0:its.toArray.size=xs.length:=by rw [Wt,<- rv.length,r.length]
   have e1:its'.toArray.size=ys.length:=by rw [Wt,<- rv'.length,r'.length]
   have key:RcAt A s (.ref l) (.ref l') (eqDs xs ys)/\RcNeAt A s (.ref l) (.ref l') (!eqDs xs ys):=by
    rw [zK]
    by_cases hlen:xs.length=ys.length
    ·have k1:=RcAt.lists (A:=A) (s:=s) p p' (by rw [e0,e1,hlen]) hu all
     have k2:=RcNeAt.lists (A:=A) (s:=s) p p' (by rw [e0,e1,hlen]) hu all
     rw [e0] at k1 k2
     rw [<- hlen,Nat.min_self,beq_self_eq_true,Bool.and_true]
     exact⟨k1,k2⟩
    ·rw [show (xs.length == ys.length)=false from Xv.mpr hlen,Yn]
     exact⟨RcAt.lists_lengths (A:=A) (s:=s) p p' (by rw [e0,e1];exact bne_iff_ne.mpr hlen) hu,RcNeAt.lists_lengths (A:=A) (s:=s) p p' (by rw [e0,e1];exact bne_iff_ne.mpr hlen) hu⟩
   refine⟨?_,key.1,key.2⟩
   by_cases hl:l=l'
   ·subst hl
    rw [<- Rep.inj I n hx hy rx ry,nw _ _ hx]
    exact EqAt.same _
   ·exact EqAt.of_refs hl key.1
def VP(I:Inv X pins σ H s)(n:Nat):∀ (A:Around) {a b:V} {u v:Value} {x y:D},A.units+n<cLine->cP n x=true->cP n y=true->Rep X.K μ H a x->Rep X.K μ H b y->RelV a u->RelV b v->Wm A s u v (jJ x y):=by
 induction n with
 | zero=>exact λA _ _ _ _ _ _ hn hx hy rx ry ra rb=>Gz I 0 (λm h=>absurd h (Nat.succ_ne_zero m)) A hn hx hy rx ry ra rb
 | succ n ih=>exact λA _ _ _ _ _ _ hn hx hy rx ry ra rb=>Gz I (n+1) (λm h=>by cases h;exact ih) A hn hx hy rx ry ra rb
def eqRc(I:Inv X pins σ H s)(n:Nat)(A:Around){a b:V}{u v:Value}{x y:D}(hn:A.units+n<cLine)(hx:cP n x=true)(hy:cP n y=true)(rx:Rep X.K μ H a x)(ry:Rep X.K μ H b y)(ra:RelV a u)(rb:RelV b v) :
  EqAt A s u v (jJ x y)/\RcAt A s u v (jJ x y):=⟨(VP I n A hn hx hy rx ry ra rb).eq,(VP I n A hn hx hy rx ry ra rb).rc⟩
def neRc(I:Inv X pins σ H s)(n:Nat)(A:Around){a b:V}{u v:Value}{x y:D}(hn:A.units+n<cLine)(hx:cP n x=true)(hy:cP n y=true)(rx:Rep X.K μ H a x)(ry:Rep X.K μ H b y)(ra:RelV a u)(rb:RelV b v) :
  RcNeAt A s u v (!jJ x y):=(VP I n A hn hx hy rx ry ra rb).ne
end
section
variable{X:Cx}{pins:List (Addr×Obj)}{σ:L2.St}{H:Hp}{s:Shared}{μ:Fp}{A:Around}
end
noncomputable def iU(S:ac):D->Option (List D)
 | .tup xs=>U xs
 | .lst xs=>U xs
 | .rol xs=>U xs
 | .ref r=>match S[r]? with | some (.lst xs)=>U xs | _=>Y
 | _=>Y
section
variable{X:Cx}{K:W.Frag}{μ:Fp}{H:Hp}{S:ac}
def jY{x:V}{d:D}{ds:List D}(s:SOk K μ S H)(r:Rep K μ H x d)(h:iU S d=U ds):∃ a vs,x=.ref a/\(my K H a vs\/kQ K H a vs)/\Reps K μ H vs ds:=by
 cases r with
 | tup h' n r=>cases h;exact⟨_,_,rfl,.inr (.inl (.inl h')),r⟩
 | ktup h' r=>cases h;exact⟨_,_,rfl,.inr (.inr h'),r⟩
 | lst h' n r=>cases h;exact⟨_,_,rfl,.inl (.inl (.inl h')),r⟩
 | rol h' n r=>cases h;exact⟨_,_,rfl,.inl (.inl h'),r⟩
 | krol h' r=>cases h;exact⟨_,_,rfl,.inl (.inr h'),r⟩
 | @ref a i h'=>
  simp only [iU] at h
  cases q:S[i]? with
  | none=>rw [q] at h;cases h
  | some c=>
   rw [q] at h
   have ck:=s.cell i a c h' q
   cases c with
   | lst xs=>cases h;obtain⟨vs,e,r⟩:=ck;exact⟨_,vs,rfl,.inl (.inl (.inl e)),r⟩
   | dct ks xs=>cases h
 | _=>cases h
noncomputable def bW(S:ac)(x y:D):Option D:=if cP 40 x=true/\cP 40 y=true then U (.bl (jJ x y)) else Y
noncomputable def gv(S:ac)(x y:D):Option D:=if cP 40 x=true/\cP 40 y=true then U (.bl (!jJ x y)) else Y
def op_Eq(hu:X.A.units+64<cLine):OpR X (compareOp .Eq) (on X.K bW):=by
 intro pins s σ H x y v u Q I rx ry h
 obtain⟨μ,S,dx,dy,dz,hS,h1,h2,h3,post⟩:=h
 simp only [bW] at h3
 split at h3
 ·rename_i hk
  cases h3
  exact(eqRc I 40 X.A (by omega) hk.1 hk.2 h1 h2 rx ry).2 X.prog X.w X.xe _ ⟨.bl _,H,I,rfl,post.here hS (.bl _)⟩
 ·cases h3
def op_Ne(hu:X.A.units+64<cLine):OpR X (compareOp .NotEq) (on X.K gv):=by
 intro pins s σ H x y v u Q I rx ry h
 obtain⟨μ,S,dx,dy,dz,hS,h1,h2,h3,post⟩:=h
 simp only [gv] at h3
 split at h3
 ·rename_i hk
  cases h3
  exact neRc I 40 X.A (by omega) hk.1 hk.2 h1 h2 rx ry X.prog X.w X.xe _ ⟨.bl _,H,I,rfl,post.here hS (.bl _)⟩
 ·cases h3
open Classical in
def fj(K:W.Frag)(μ:Fp)(H:Hp)(x:D)(u:Value):Bool:=decide (∃ v d,RelV v u/\Rep K μ H v d/\cP 39 d=true/\jJ d x=true)
open Classical in
def qr{pins:List (Addr×Obj)}{σ:L2.St}{s:Shared}(I:Inv X pins σ H s){x d:D}{v:V}{u:Value}(rv:RelV v u)(r:Rep X.K μ H v d)(ok:cP 39 d=true):fj X.K μ H x u=jJ d x:=by
 unfold fj
 cases e:jJ d x with
 | true=>exact WA ⟨v,d,rv,r,ok,e⟩
 | false=>
  refine WC ?_
  rintro⟨v',d',rv',r',ok',e'⟩
  cases rv.inj rv'
  rw [Rep.inj I 39 ok ok' r r'] at e
  rw [e] at e';cases e'
theorem lz{pins:List (Addr×Obj)}{σ:L2.St}{s:Shared}(I:Inv X pins σ H s){x:D}:∀ {vs:List V} {us:List Value} {ds:List D},Vals vs us->Reps X.K μ H vs ds->(∀ d∈ds,cP 39 d=true) ->
  us.any (fj X.K μ H x)=ds.any λd=>jJ d x
 | _,_,_,.nil,.nil,_=>rfl
 | _,_,_,.cons rv tv,.cons r t,ok=>by
  rw [XE,XE,qr I rv r (ok _ Wr),lz I tv t λd m=>ok d (Wu _ m)]
theorem gm{pins:List (Addr×Obj)}{σ:L2.St}{s:Shared}(I:Inv X pins σ H s){A:Around}(hu:A.units+40<cLine){x:D}{v:V}{u:Value}(rx:RelV v u)(rD:Rep X.K μ H v x)(okx:cP 40 x=true) :
  ∀ {vs:List V} {us:List Value} {ds:List D},Vals vs us->Reps X.K μ H vs ds->(∀ d∈ds,cP 39 d=true)->∀ w∈us,SeqAt.EqAt A s w u (fj X.K μ H x w)
 | _,_,_,.nil,.nil,_=>λw hw=>by cases hw
 | _,_,_,.cons rv tv,.cons r t,ok=>λw hw=>by
  rcases WM.mp hw with rfl | hw
  ·rw [qr I rv r (ok _ Wr)]
   exact(eqRc I 40 A hu (ui (by decide) (ok _ Wr)) okx r rD rv rx).1
  ·exact gm I hu rx rD okx tv t (λd m=>ok d (Wu _ m)) w hw
noncomputable def kR(S:ac)(x y:D):Option D:=(iU S y).bind λds=>if cP 40 x=true/\ds.all (cP 39)=true then U (.bl (ds.any λd=>jJ d x)) else Y
noncomputable def rf(S:ac)(x y:D):Option D:=(iU S y).bind λds=>if cP 40 x=true/\ds.all (cP 39)=true then U (.bl (!ds.any λd=>jJ d x)) else Y
def op_In(hu:X.A.units+64<cLine):OpR X (compareOp .In) (on X.K kR):=by
 intro pins s σ H x y v u Q I rx ry h
 obtain⟨μ,S,dx,dy,dz,hS,h1,h2,h3,post⟩:=h
 obtain⟨ds,e,h3⟩:=KE.mp h3
 split at h3
 ·rename_i hk
  cases h3
  obtain⟨a,vs,rfl,hq,r⟩:=jY hS h2 e
  cases ry
  have ok:=WJ.mp hk.2
  rcases hq with hq | hq
  ·obtain⟨its,rv,pl,hz⟩:=I.list hq
   refine SeqAt.in_listAt (fj X.K μ H dx) pl.isList (λw hw=>gm I (by show X.A.units+1+40<cLine;omega) rx h1 hk.1 rv r ok w (by simpa using hw)) ⟨.bl _,H,I,rfl,?_⟩
   rw [show its.toArray.any (fj X.K μ H dx)=its.any (fj X.K μ H dx) by simp,lz I rv r ok]
   exact post.here hS (.bl _)
  ·obtain⟨its,rv,pl,hz⟩:=I.tuple hq
   refine SeqAt.in_tupleAt (fj X.K μ H dx) pl (λw hw=>gm I (by show X.A.units+1+40<cLine;omega) rx h1 hk.1 rv r ok w (by simpa using hw)) ⟨.bl _,H,I,rfl,?_⟩
   rw [show its.toArray.any (fj X.K μ H dx)=its.any (fj X.K μ H dx) by simp,lz I rv r ok]
   exact post.here hS (.bl _)
 ·cases h3
def Lg(hu:X.A.units+64<cLine):OpR X (compareOp .NotIn) (on X.K rf):=by
 intro pins s σ H x y v u Q I rx ry h
 obtain⟨μ,S,dx,dy,dz,hS,h1,h2,h3,post⟩:=h
 obtain⟨ds,e,h3⟩:=KE.mp h3
 split at h3
 ·rename_i hk
  cases h3
  obtain⟨a,vs,rfl,hq,r⟩:=jY hS h2 e
  cases ry
  have ok:=WJ.mp hk.2
  rcases hq with hq | hq
  ·obtain⟨its,rv,pl,hz⟩:=I.list hq
   refine SeqAt.notIn_listAt (fj X.K μ H dx) pl.isList (λw hw=>gm I (by show X.A.units+1+40<cLine;omega) rx h1 hk.1 rv r ok w (by simpa using hw)) ⟨.bl _,H,I,rfl,?_⟩
   rw [show its.toArray.any (fj X.K μ H dx)=its.any (fj X.K μ H dx) by simp,lz I rv r ok]
   exact post.here hS (.bl _)
  ·obtain⟨its,rv,pl,hz⟩:=I.tuple hq
   refine SeqAt.notIn_tupleAt (fj X.K μ H dx) pl (λw hw=>gm I (by show X.A.units+1+40<cLine;omega) rx h1 hk.1 rv r ok w (by simpa using hw)) ⟨.bl _,H,I,rfl,?_⟩
   rw [show its.toArray.any (fj X.K μ H dx)=its.any (fj X.K μ H dx) by simp,lz I rv r ok]
   exact post.here hS (.bl _)
 ·cases h3
noncomputable def mV:D->D->Bool
 | .non,.non=>true
 | .bl a,.bl b=>a == b
 | _,_=>false
noncomputable def wy(S:ac)(x y:D):Option D:=match y with | .non=>U (.bl (mV x y)) | .bl _=>U (.bl (mV x y)) | _=>Y
noncomputable def nh(S:ac)(x y:D):Option D:=match y with | .non=>U (.bl (!mV x y)) | .bl _=>U (.bl (!mV x y)) | _=>Y
def Mi{x y:V}{dx dy:D}{v u:Value}(h1:Rep K μ H x dx)(h2:Rep K μ H y dy)(rx:RelV x v)(ry:RelV y u)(hy:dy=.non\/∃ b,dy=.bl b):plainIs v u=true/\(v == u)=mV dx dy:=by
 rcases hy with rfl | ⟨b,rfl⟩
 ·cases h2;cases ry
  cases h1 <;> first | (cases rx;exact⟨rfl,rfl⟩) | (obtain⟨t,rfl⟩:=rx;exact⟨rfl,rfl⟩)
 ·cases h2;cases ry
  cases h1 <;> first | (cases rx;exact⟨rfl,rfl⟩) | (obtain⟨t,rfl⟩:=rx;exact⟨rfl,rfl⟩) | (cases rx;rename_i c;refine⟨rfl,?_⟩;cases b <;> cases c <;> rfl)
def op_Is:OpR X (compareOp .Is) (on X.K wy):=by
 intro pins s σ H x y v u Q I rx ry h
 obtain⟨μ,S,dx,dy,dz,hS,h1,h2,h3,post⟩:=h
 have hy:(dy=.non\/∃ b,dy=.bl b)/\dz=.bl (mV dx dy):=by
  cases dy <;> first | (cases h3;exact⟨.inl rfl,rfl⟩) | (cases h3;exact⟨.inr ⟨_,rfl⟩,rfl⟩) | cases h3
 obtain⟨p,e⟩:=Mi h1 h2 rx ry hy.1
 cases hy.2
 exact wpAny_is_plain p ⟨.bl _,H,I,congrArg Value.bool e,post.here hS (.bl _)⟩
def Lh:OpR X (compareOp .IsNot) (on X.K nh):=by
 intro pins s σ H x y v u Q I rx ry h
 obtain⟨μ,S,dx,dy,dz,hS,h1,h2,h3,post⟩:=h
 have hy:(dy=.non\/∃ b,dy=.bl b)/\dz=.bl (!mV dx dy):=by
  cases dy <;> first | (cases h3;exact⟨.inl rfl,rfl⟩) | (cases h3;exact⟨.inr ⟨_,rfl⟩,rfl⟩) | cases h3
 obtain⟨p,e⟩:=Mi h1 h2 rx ry hy.1
 cases hy.2
 exact wpAny_isNot_plain p ⟨.bl _,H,I,congrArg (λb=>Value.bool (!b)) e,post.here hS (.bl _)⟩
end
end M
namespace HT
section
variable{prog:Program}{w:World}{A:Around}{E:Value->Shared->Prop}{s:Shared}
def Rf{t b:Addr}{ws:List Value}{Q:Value->Shared->Prop}(ht:IsTup s.heap t #[])(hb:IsTup s.heap b ws.toArray)(h:Q (.ref b) s):wpAny (model prog w) A (binaryOp .Add (.ref t) (.ref b)) Q E s:=by
 obtain⟨⟨cls,dd,data,sl⟩,ho,hc,n,hd⟩:=id ht
 obtain⟨⟨cls2,dd2,data2,sl2⟩,ho2,hc2,n2,hd2⟩:=id hb
 simp only at hc hd hc2 hd2
 subst hc hd hc2 hd2
 exact aam ⟨_,ho,rfl⟩ ⟨_,ho2,rfl⟩ ZB aaa ZF Zw (Zs _ _)
   (tuple_addW0 t b #[] ws.toArray n n2 dd dd2 sl sl2 rfl) ⟨ho,ho2,h⟩
def ow{t sl:Addr}{items:Array Value}{vl vu:Value}{lo hi:Option Int}{Q:Value->Shared->Prop}(ht:IsTup s.heap t items)(hs:s.heap.IsSliceOf sl vl vu .none)(pl:IsPart vl lo)(pu:IsPart vu hi)
  (hw:fH items.size 0 lo=0/\fH items.size items.size hi=items.size) (h:Q (.ref t) s):wpAny (model prog w) A (getItem (.ref t) (.ref sl)) Q E s:=by
 obtain⟨os,hos,hcs,hds⟩:=id hs
 have hTs:s.TypeIs (.ref sl) "slice":=⟨os,hos,hcs⟩
 unfold getItem
 try with_reducible refine XJ ?_
 first | refine Wn (Wz ?_) | skip
 refine Wn (wpAny_sequenceKey ht.typeIs (by decide) ?_)
 refine Wn (Xx (name:=Str.ofString "__getitem__") ht.typeIs XS
  (XZ XS ht.typeIs aaz ?_ (aaF _ _)))
 show wpAny _ _ (Builtin.Tuple.tupleItemsOf (.ref t) >>= _) _ _ s
 refine Wn (tupleItemsOf_ ht ?_)
 refine Wn (YY hTs ?_)
 rw [WI (by decide)]
 refine Wn (kU hs pl pu ?_)
 have hyes:(((fH items.size 0 lo:Nat):Int) == 0&&(1:Int) == 1&&(fH items.size items.size hi - fH items.size 0 lo) == items.size)=true:=by
  rw [hw.1,hw.2];simp
 show wpAny _ _ (if (((fH items.size 0 lo:Nat):Int) == 0&&(1:Int) == 1&&(fH items.size items.size hi - fH items.size 0 lo) == items.size)=true then _ else _) _ _ s
 rw [WI hyes]
 unfold Builtin.Tuple.tupleIsExact
 refine Wn (Wn (YY ht.typeIs (Wz ?_)))
 rw [WI (by decide)]
 exact Wn (YJ (Wn (Wz (Wz ⟨_,rfl,Wz h⟩))))
end
end HT
namespace M
open L2
section
variable{X:Cx}{K:W.Frag}{μ μ':Fp}{H H':Hp}{S:ac}
noncomputable def IE(g:Int->Int->D)(S:ac)(x y:D):Option D:=match x,y with | .int i,.int j=>U (g i j) | _,_=>Y
noncomputable def Cp(C:Int->Int->Bool)(g:Int->Int->D)(S:ac)(x y:D):Option D:=match x,y with | .int i,.int j=>if C i j=true then U (g i j) else Y | _,_=>Y
def pI{f:Value->Value->Sem Value}{g:Int->Int->V}{g':Int->Int->D}(h:OpR X f (OB g))(hg:∀ i j μ H,Rep X.K μ H (g i j) (g' i j)):OpR X f (on X.K (IE g')):=
 OpR.imp h λx y H Q ⟨μ,S,dx,dy,dz,hS,h1,h2,h3,post⟩=>by
  cases dx <;> cases dy <;> first | cases h3 | skip
  exact⟨_,_,h1.int_inv,h2.int_inv,post.here hS (hg _ _ _ _)⟩
def yB{f:Value->Value->Sem Value}{C:Int->Int->Prop}{C':Int->Int->Bool}{g:Int->Int->V}{g':Int->Int->D}(h:OpR X f (rI C g))(hC:∀ i j,C' i j=true->C i j)(hg:∀ i j μ H,Rep X.K μ H (g i j) (g' i j)):OpR X f (on X.K (Cp C' g')):=
 OpR.imp h λx y H Q ⟨μ,S,dx,dy,dz,hS,h1,h2,h3,post⟩=>by
  cases dx <;> cases dy <;> first | cases h3 | skip
  simp only [Cp] at h3
  split at h3
  ·rename_i hc
   cases h3
   exact⟨_,_,h1.int_inv,h2.int_inv,hC _ _ hc,post.here hS (hg _ _ _ _)⟩
  ·cases h3
noncomputable def oz:=IE λi j=>.int (i - j)
noncomputable def Qq:=IE λi j=>.bl (decide (i<j))
noncomputable def Qr:=IE λi j=>.bl (decide (i<=j))
noncomputable def fGt:=IE λi j=>.bl (decide (j<i))
noncomputable def fGe:=IE λi j=>.bl (decide (j<=i))
def TM:OpR X (binaryOp .Sub) (on X.K oz):=pI TF λ_ _ _ _=>.int _
def op_Lt:OpR X (compareOp .Lt) (on X.K Qq):=pI op_lt λ_ _ _ _=>.bl _
def op_Le:OpR X (compareOp .LtE) (on X.K Qr):=pI op_le λ_ _ _ _=>.bl _
def op_Gt:OpR X (compareOp .Gt) (on X.K fGt):=pI op_gt λ_ _ _ _=>.bl _
def op_Ge:OpR X (compareOp .GtE) (on X.K fGe):=pI op_ge λ_ _ _ _=>.bl _
noncomputable def lW:=Cp (λ_ j=>decide (0<j)) λi j=>.int (i % j)
noncomputable def IF:=Cp (λ_ j=>decide (0<j)&&decide (j<1073741824)) λi j=>.int (i / j)
noncomputable def wv:=Cp (λi j=>decide (0<=j)&&decide (j<=1000000)&&decide (i.natAbs<2 ^ 64)) λi j=>.int (i ^ j.toNat)
def TR:OpR X (binaryOp .Mod) (on X.K lW):=yB TK (λ_ _ h=>Xq h) λ_ _ _ _=>.int _
def TV:OpR X (binaryOp .FloorDiv) (on X.K IF):=yB Pi (λ_ _ h=>by simpa [CDiv] using h) λ_ _ _ _=>.int _
def TN:OpR X (binaryOp .Pow) (on X.K wv):=yB TJ (λi j h=>by
 simp only [Wq,XB] at h
 exact⟨h.1.1,h.1.2,h.2⟩) λ_ _ _ _=>.int _
def pL(i j:Int):Bool:=decide (i.natAbs<18446744073709551616)||decide (j.natAbs<18446744073709551616)||(decide (i.natAbs<2 ^ 4000)&&decide (j.natAbs<2 ^ 4000))
def Pt{i j:Int}(h:pL i j=true):IntMulOk i j:=by
 unfold pL at h
 simp only [YE,Wq,XB] at h
 rcases h with (h | h) | h
 ·exact .of_left (ZX (k:=64) (by omega))
 ·exact .of_right (ZX (k:=64) (by omega))
 ·exact .of_bits (WT (ZX (k:=4000) h.1) (by decide)) (WT (ZX (k:=4000) h.2) (by decide))
def Ph:OpR X (binaryOp .Mult) (rI (λi j=>pL i j=true) λi j=>.int (i * j)):=opI λ_ _ _ _ _ _ _ hc q=>mul_int q (Pt hc)
noncomputable def UZ(S:ac)(x y:D):Option D:=match x,y with
 | .int i,.int j=>if pL i j=true then U (.int (i * j)) else Y
 | _,_=>Y
def TQ:OpR X (binaryOp .Mult) (on X.K UZ):=OpR.imp Ph λx y H Q ⟨μ,S,dx,dy,dz,hS,h1,h2,h3,post⟩=>by
 cases dx <;> cases dy <;> first | cases h3 | skip
 simp only [UZ] at h3
 split at h3
 ·rename_i hc
  cases h3
  exact⟨_,_,h1.int_inv,h2.int_inv,hc,post.here hS (.int _)⟩
 ·cases h3
noncomputable def MJ(S:ac)(x y:D):Option D:=match x,y with
 | .int i,.int j=>U (.int (i+j))
 | .str i,.str j=>if i.length+j.length<=sizeLine then U (.str (i++j)) else Y
 | .tup xs,.tup ys=>if xs.length+ys.length<=sizeLine then U (.tup (xs++ys)) else Y
 | .lst xs,.lst ys=>if xs.length+ys.length<=sizeLine then U (.lst (xs++ys)) else Y
 | _,_=>Y
def TW:OpR X (binaryOp .Add) (on X.K MJ):=by
 intro pins s σ H x y v u Q I rx ry h
 obtain⟨μ,S,dx,dy,dz,hS,h1,h2,h3,post⟩:=h
 cases dx <;> cases dy <;> first | cases h3 | skip
 case int.int i j=>exact TL pins s σ H x y v u Q I rx ry ⟨_,_,h1.int_inv,h2.int_inv,post.here hS (.int _)⟩
 case str.str i j=>
  simp only [MJ] at h3
  split at h3
  ·rename_i hl;cases h3
   exact Dw pins s σ H x y v u Q I rx ry ⟨_,_,h1.str_inv,h2.str_inv,hl,post.here hS (.str _)⟩
  ·cases h3
 case tup.tup xs ys=>
  simp only [MJ] at h3
  split at h3
  ·rename_i hl;cases h3
   have h2':=h2
   have h1':=h1
   obtain⟨a,vs,rfl,q1,r1⟩:=h1.sqT
   obtain⟨b,ws,rfl,q2,r2⟩:=h2.sqT
   have e1:=r1.length
   have e2:=r2.length
   by_cases hv:vs=[]
   ·subst hv
    have hx:xs=[]:=XI (by simpa using e1.symm)
    subst hx
    cases rx;cases ry
    obtain⟨its,rv,p1,_⟩:=I.tuple q1
    obtain⟨its2,rv2,p2,_⟩:=I.tuple q2
    have:its=[]:=rv.nil_iff.mpr rfl
    subst this
    exact HT.Rf p1 p2 ⟨.ref b,H,I,rfl,post.here hS h2'⟩
   ·refine Pj pins s σ H _ _ v u Q I rx ry ⟨a,b,vs,ws,rfl,rfl,q1,q2,hv,by omega,λhw=>?_,λhw p hp=>post.tup hS hp (r1.append r2)⟩
    subst hw
    have hy:ys=[]:=XI (by simpa using e2.symm)
    subst hy
    rw [WS] at post
    exact post.here hS h1'
  ·cases h3
 case lst.lst xs ys=>
  simp only [MJ] at h3
  split at h3
  ·rename_i hl;cases h3
   obtain⟨a,vs,rfl,q1,n1,r1⟩:=h1.sqL
   obtain⟨b,ws,rfl,q2,n2,r2⟩:=h2.sqL
   have e1:=r1.length
   have e2:=r2.length
   exact Lf pins s σ H _ _ v u Q I rx ry ⟨a,b,vs,ws,rfl,rfl,q1,q2,by omega,λp hp=>post.lst hS hp (r1.append r2)⟩
  ·cases h3
def SG:UnR X (unaryOp .USub) (rM1 X.K λ_ x=>match x with | .int i=>U (.int (-i)) | _=>Y):=UnR.imp SF λx H Q ⟨μ,S,dx,dz,hS,h1,h3,post⟩=>by
 cases dx <;> first | cases h3 | skip
 exact⟨_,h1.int_inv,post.here hS (.int _)⟩
noncomputable def CM(f:ac->D->Option D)(a:ME):ME:=λenv S=>(a env S).bind λp=>(f p.2 p.1).bind λz=>U (z,p.2)
def de_un{a:Expr}{ma:ME}{pos:Pos}{op:UnaryOp}{f:ac->D->Option D}(ho:UnR X (unaryOp op) (rM1 X.K f))(ha:DE X a ma):DE X (.UnaryOp op a pos) (CM f ma):=
 PE.imp (pe_un ho ha) λσ H Q ⟨μ,S,env,d,S',hS,hE,hm,post⟩=>by
  obtain⟨⟨x,S1⟩,h1,hm⟩:=KE.mp hm
  obtain⟨z,h2,hm⟩:=KE.mp hm
  cases hm
  exact⟨μ,S,env,x,_,hS,hE,h1,λv H1 μ1 e1 s1 r1=>⟨μ1,_,x,_,s1,r1,h2,post.ext e1⟩⟩
def Ru{vs:List V}{ds:List D}{i:Int}{d:D}(r:Reps K μ H vs ds)(h:mE ds i=U d):∃ v,mE vs i=U v/\Rep K μ H v d:=by
 unfold mE at h ⊢
 rw [r.length]
 obtain⟨j,h1,h2⟩:=KE.mp h
 obtain⟨v,h3,h4⟩:=r.get h2
 exact⟨v,by rw [h1];exact h3,h4⟩
noncomputable def fIx(S:ac)(x y:D):Option D:=match y with | .int i=>(iU S x).bind λxs=>mE xs i | _=>Y
def ix_D:IxR X (on X.K fIx):=IxR.imp (ix_list.or UI) λx y H Q ⟨μ,S,dx,dy,dz,hS,h1,h2,h3,post⟩=>by
 cases dy <;> first | cases h3 | skip
 rename_i i
 obtain⟨xs,e,h3⟩:=KE.mp h3
 obtain⟨a,vs,rfl,hq,r⟩:=jY hS h1 e
 obtain⟨v,h4,h5⟩:=Ru r h3
 rcases hq with hq | hq
 ·exact .inl ⟨a,vs,i,v,rfl,h2.int_inv,hq,h4,post.here hS h5⟩
 ·exact .inr ⟨a,vs,i,v,rfl,h2.int_inv,hq,h4,post.here hS h5⟩
noncomputable def iQ{α:Type}(xs:List α)(lo hi:Option Int):List α:=(xs.drop (HT.fH xs.length 0 lo)).take (HT.fH xs.length xs.length hi - HT.fH xs.length 0 lo)
abbrev MO:=bj->ac->Option (Option Int×ac)
noncomputable def bw:MO:=λ_ S=>U (Y,S)
noncomputable def bR(m:ME):MO:=λenv S=>(m env S).bind λp=>match p.1 with | .int i=>U (U i,p.2) | _=>Y
inductive tMO(K:W.Frag)(m:MO)(σ:L2.St)(H:Hp)(Q:Option Int->Hp->Prop):Prop
 | mk (μ:Fp) (S:ac) (env:bj) (o:Option Int) (S':ac) (hS:SOk K μ S H) (hE:EOk K μ H σ env) (h:m env S=U (o,S')) (post:∀ H' μ',Ext μ H μ' H'->SOk K μ' S' H'->Q o H')
def DO(X:Cx)(e:Option Expr)(m:MO):Prop:=PO X e (tMO X.K m)
def PO.imp{e:Option Expr}{t t':TO}(h:PO X e t)(i:∀ σ H Q,t' σ H Q->t σ H Q):PO X e t':=λpins s σ H Q I q=>h pins s σ H Q I (i σ H Q q)
def QP:DO X Y bw:=PO.imp OP λσ H Q ⟨μ,S,env,d,S',hS,hE,hm,post⟩=>by cases hm;exact post H μ hS.ext hS
def QO{e:Expr}{m:ME}(h:DE X e m):DO X (U e) (bR m):=PO.imp (OO h) λσ H Q ⟨μ,S,env,d,S',hS,hE,hm,post⟩=>by
 obtain⟨⟨x,S1⟩,h1,hm⟩:=KE.mp hm
 cases x <;> first | cases hm | skip
 exact⟨μ,S,env,_,_,hS,hE,h1,λv H1 μ1 e1 s1 r1=>⟨_,r1.int_inv,post H1 μ1 e1 s1⟩⟩
noncomputable def bu(a:ME)(lo hi:MO):ME:=λenv S=>(a env S).bind λp=>(lo env p.2).bind λl=>(hi env l.2).bind λh=>match p.1 with
 | .tup xs=>U (.tup (iQ xs l.1 h.1),h.2)
 | .lst xs=>U (.lst (iQ xs l.1 h.1),h.2)
 | .rol xs=>U (.lst (iQ xs l.1 h.1),h.2)
 | .ref r=>match h.2[r]? with | some (.lst xs)=>U (.lst (iQ xs l.1 h.1),h.2) | _=>Y
 | _=>Y
def tF{vs:List V}{ds:List D}{lo hi:Option Int}(r:Reps K μ H vs ds):Reps K μ H (Cz vs lo hi) (iQ ds lo hi):=by
 unfold Cz iQ
 rw [r.length]
 exact(r.drop _).take _
def Ou:SlR X (λx lo hi H Q=>∃ a xs,x=.ref a/\kQ X.K H a xs/\(HT.fH xs.length 0 lo=0/\HT.fH xs.length xs.length hi=xs.length)/\Q (.ref a) H):=by
 intro pins s σ H x v vl vu lo hi sl Q I rx hs pl pu h
 obtain⟨a,xs,rfl,hx,hw,q⟩:=h
 cases rx
 obtain⟨its,r,ht,hz⟩:=I.tuple hx
 have hlen:its.toArray.size=xs.length:=by rw [Wt];exact r.length.symm
 refine⟨"tuple",_,PyProof.Rows.slot_tuple_getitem.lookup,ht.typeIs,?_⟩
 exact HT.ow ht hs pl pu (by rw [hlen];exact hw) ⟨.ref a,H,I,rfl,q⟩
def NG{a:Expr}{lo hi:Option Expr}{ma:ME}{ml mh:MO}{pos p2:Pos}(ha:DE X a ma)(hl:DO X lo ml)(hh:DO X hi mh):DE X (.Subscript a (.Slice lo hi Y p2) pos) (bu ma ml mh):=
 PE.imp (KQ (SlR.or Ou (SlR.or SS Ov)) ha hl hh) λσ H Q ⟨μ,S,env,d,S',hS,hE,hm,post⟩=>by
  obtain⟨⟨x,S1⟩,h1,hm⟩:=KE.mp hm
  obtain⟨⟨l,S2⟩,h2,hm⟩:=KE.mp hm
  obtain⟨⟨h,S3⟩,h3,hm⟩:=KE.mp hm
  refine⟨μ,S,env,x,S1,hS,hE,h1,λv H1 μ1 e1 s1 r1=>⟨μ1,S1,env,l,S2,s1,hE.mono e1,h2,λH2 μ2 e2 s2=>⟨μ2,S2,env,h,S3,s2,(hE.mono e1).mono e2,h3,λH3 μ3 e3 s3=>?_⟩⟩⟩
  have r3:=(r1.mono e2).mono e3
  have e:=(e1.trans e2).trans e3
  cases x with
  | tup xs=>
   cases hm
   have r3':=r3
   obtain⟨a,vs,rfl,q1,r⟩:=r3.sqT
   by_cases hw:HT.fH vs.length 0 l=0/\HT.fH vs.length vs.length h=vs.length
   ·refine .inl ⟨a,vs,rfl,q1,hw,?_⟩
    have:iQ xs l h=xs:=by unfold iQ;rw [<- r.length,hw.1,hw.2];simp [r.length]
    rw [this] at post
    exact post _ H3 μ3 e s3 r3'
   ·exact .inr (.inl ⟨a,vs,rfl,q1,hw,λp hp=>(post.ext e).tup s3 hp (tF r)⟩)
  | lst xs=>
   cases hm
   obtain⟨a,vs,rfl,q1,n1,r⟩:=r3.sqL
   exact .inr (.inr ⟨a,vs,rfl,.inl (.inl q1),λp hp=>(post.ext e).lst s3 hp (tF r)⟩)
  | rol xs=>
   cases hm
   obtain⟨a,vs,rfl,q1,r⟩:=r3.sqR
   exact .inr (.inr ⟨a,vs,rfl,q1,λp hp=>(post.ext e).lst s3 hp (tF r)⟩)
  | ref r=>
   dsimp only at hm
   split at hm
   ·rename_i xs q
    cases hm
    cases r3 with
    | @ref a _ ha=>
     obtain⟨vs,hv,rv⟩:=s3.cell r a _ ha q
     exact .inr (.inr ⟨a,vs,rfl,.inl (.inl hv),λp hp=>(post.ext e).lst s3 hp (tF rv)⟩)
   ·cases hm
  | _=>cases hm
end
section
variable{X:Cx}{K:W.Frag}{μ μ':Fp}{H H':Hp}{S:ac}
noncomputable def ba(f:List D->ac->Option (D×ac))(ms:MA):ME:=λenv S=>(ms env S).bind λp=>f p.1 p.2
def Kc{f:List D->ac->Option (D×ac)}{ms:MA}{σ:L2.St}{Q:VK}(h:tM K (ba f ms) σ H Q):tCB (JB K f) (tMA K ms) σ H Q:=by
 obtain⟨μ,S,env,d,S',hS,hE,hm,post⟩:=h
 obtain⟨⟨xs,S1⟩,h1,hm⟩:=KE.mp hm
 exact⟨μ,S,env,xs,S1,hS,hE,h1,λvs H1 μ1 e1 s1 r1=>⟨μ1,S1,xs,d,S',s1,r1,hm,post.ext e1⟩⟩
section
variable{x:Str}{p pos:Pos}{e:Expr}{es:List Expr}{ms:MA}{id T:String}{f:List D->ac->Option (D×ac)}
def qw(hc:CallR X (.builtin id) (JB X.K f))(hm:X.mg x=Y)(hv:bootBuiltins x=U (.builtin id))(ha:DA X (e::es) ms)(hg:Gl X x:=by rfl)(hn:x ≠ "__name__":=by decide)(hdb:(x == ("__debug__":Str))=false:=by decide)
  (he:starEach (e::es) X.env=(false,eval e X.env)::starEach es X.env:=by rfl) (hpl:(backTo pos (starEach es X.env)).any (·.1)=false:=by rfl):DE X (.Call (.Name x p) (e::es) [] pos) (ba f ms):=
 PE.imp (AI hc hg hm hv ha hn hdb he hpl) λ_ _ _ h=>Kc h
def oa(hc:CallR X (.type T) (JB X.K f))(hm:X.mg x=Y)(hv:bootBuiltins x=U (.type T))(ha:DA X (e::es) ms)(hg:Gl X x:=by rfl)(hn:x ≠ "__name__":=by decide)(hdb:(x == ("__debug__":Str))=false:=by decide)
  (he:starEach (e::es) X.env=(false,eval e X.env)::starEach es X.env:=by rfl) (hpl:(backTo pos (starEach es X.env)).any (·.1)=false:=by rfl):DE X (.Call (.Name x p) (e::es) [] pos) (ba f ms):=
 PE.imp (HA hc hg hm hv ha hn hdb he hpl) λ_ _ _ h=>Kc h
end
def Reps.one{vs:List V}{d:D}(r:Reps K μ H vs [d]):∃ v,vs=[v]/\Rep K μ H v d:=by
 cases r with
 | cons h t=>cases t;exact⟨_,rfl,h⟩
def Reps.two{vs:List V}{d e:D}(r:Reps K μ H vs [d,e]):∃ v w,vs=[v,w]/\Rep K μ H v d/\Rep K μ H w e:=by
 cases r with
 | cons h t=>cases t with | cons h' t=>cases t;exact⟨_,_,rfl,h,h'⟩
noncomputable def aJ(f:ac->List D->Option D):List D->ac->Option (D×ac):=λds S=>(f S ds).bind λd=>U (d,S)
def dW{f:ac->List D->Option D}{ds:List D}{S S':ac}{d:D}(h:aJ f ds S=U (d,S')):S'=S/\f S ds=U d:=by
 obtain⟨z,h1,h⟩:=KE.mp h
 cases h
 exact⟨rfl,h1⟩
noncomputable def eg(S:ac):List D->Option D
 | [.str z]=>if z.length<=sizeLine then U (.int z.length) else Y
 | [d]=>(iU S d).bind λxs=>U (.int xs.length)
 | _=>Y
def NU:CallR X (.builtin "len") (JB X.K (aJ eg)):=CallR.imp (call_len_seq.or zS) λxs H Q ⟨μ,S,ds,d,S',hS,hr,hm,post⟩=>by
 obtain⟨rfl,hm⟩:=dW hm
 match ds,hr,hm with
 | [D.str z],hr,hm=>
  obtain⟨v,rfl,r⟩:=hr.one
  simp only [eg] at hm
  split at hm
  ·rename_i hl;cases hm;exact .inr ⟨z,by rw [r.str_inv],hl,post.here hS (.int _)⟩
  ·cases hm
 | [D.non],hr,hm=>cases hm
 | [D.bl _],hr,hm=>cases hm
 | [D.int _],hr,hm=>cases hm
 | [D.dct _ _],hr,hm=>cases hm
 | [D.tup xs],hr,hm=>
  obtain⟨v,rfl,r⟩:=hr.one
  cases hm
  obtain⟨a,vs,rfl,hq,r⟩:=jY hS r rfl
  exact .inl ⟨a,vs,rfl,hq,by rw [r.length];exact post.here hS (.int _)⟩
 | [D.lst xs],hr,hm=>
  obtain⟨v,rfl,r⟩:=hr.one
  cases hm
  obtain⟨a,vs,rfl,hq,r⟩:=jY hS r rfl
  exact .inl ⟨a,vs,rfl,hq,by rw [r.length];exact post.here hS (.int _)⟩
 | [D.rol xs],hr,hm=>
  obtain⟨v,rfl,r⟩:=hr.one
  cases hm
  obtain⟨a,vs,rfl,hq,r⟩:=jY hS r rfl
  exact .inl ⟨a,vs,rfl,hq,by rw [r.length];exact post.here hS (.int _)⟩
 | [D.ref i],hr,hm=>
  obtain⟨v,rfl,r⟩:=hr.one
  obtain⟨xs,h1,hm⟩:=KE.mp hm
  cases hm
  obtain⟨a,vs,rfl,hq,r⟩:=jY hS r h1
  exact .inl ⟨a,vs,rfl,hq,by rw [r.length];exact post.here hS (.int _)⟩
 | [],hr,hm=>cases hm
 | a::b::c,hr,hm=>simp [eg] at hm
noncomputable def lv(S:ac):List D->Option D
 | [.int i]=>U (.int i)
 | [.bl k]=>U (.int (if k then 1 else 0))
 | _=>Y
def NV:CallR X (.type "int") (JB X.K (aJ lv)):=CallR.imp Js λxs H Q ⟨μ,S,ds,d,S',hS,hr,hm,post⟩=>by
 obtain⟨rfl,hm⟩:=dW hm
 match ds,hr,hm with
 | [D.int i],hr,hm=>obtain⟨v,rfl,r⟩:=hr.one;cases hm;exact .inl ⟨i,by rw [r.int_inv],post.here hS (.int _)⟩
 | [D.bl k],hr,hm=>obtain⟨v,rfl,r⟩:=hr.one;cases hm;exact .inr ⟨k,by rw [r.bl_inv],post.here hS (.int _)⟩
 | [D.non],hr,hm=>cases hm
 | [D.str _],hr,hm=>cases hm
 | [D.dct _ _],hr,hm=>cases hm
 | [D.tup _],hr,hm=>cases hm
 | [D.lst _],hr,hm=>cases hm
 | [D.rol _],hr,hm=>cases hm
 | [D.ref _],hr,hm=>cases hm
 | [],hr,hm=>cases hm
 | a::b::c,hr,hm=>simp [lv] at hm
noncomputable def Sh(S:ac):List D->Option D
 | [.int i,.int j]=>U (.int (if j>i then j else i))
 | _=>Y
noncomputable def Co(S:ac):List D->Option D
 | [.int i,.int j]=>U (.int (if j<i then j else i))
 | _=>Y
def Sb{ds:List D}{f:Int->Int->D}{d:D}(h:(match ds with | [.int i,.int j]=>U (f i j) | _=>Y)=U d):∃ i j,ds=[.int i,.int j]/\d=f i j:=by
 split at h
 ·cases h;exact⟨_,_,rfl,rfl⟩
 ·cases h
def Jv(hc:X.calm=true):CallR X (.builtin "max") (JB X.K (aJ Sh)):=CallR.imp (Jr hc) λxs H Q ⟨μ,S,ds,d,S',hS,hr,hm,post⟩=>by
 obtain⟨rfl,hm⟩:=dW hm
 obtain⟨i,j,rfl,rfl⟩:=Sb (f:=λi j=>.int (if j>i then j else i)) hm
 obtain⟨v,w,rfl,r1,r2⟩:=hr.two
 exact⟨i,j,by rw [r1.int_inv,r2.int_inv],post.here hS (.int _)⟩
def Jt(hc:X.calm=true):CallR X (.builtin "min") (JB X.K (aJ Co)):=CallR.imp (Jp hc) λxs H Q ⟨μ,S,ds,d,S',hS,hr,hm,post⟩=>by
 obtain⟨rfl,hm⟩:=dW hm
 obtain⟨i,j,rfl,rfl⟩:=Sb (f:=λi j=>.int (if j<i then j else i)) hm
 obtain⟨v,w,rfl,r1,r2⟩:=hr.two
 exact⟨i,j,by rw [r1.int_inv,r2.int_inv],post.here hS (.int _)⟩
noncomputable def cr(c:List D->D)(S:ac):List D->Option D
 | [d]=>(iU S d).bind λxs=>U (c xs)
 | _=>Y
def vh{c:List D->D}{S:ac}{ds:List D}{d:D}(h:cr c S ds=U d):∃ x xs,ds=[x]/\iU S x=U xs/\d=c xs:=by
 match ds,h with
 | [x],h=>
  obtain⟨xs,h1,h⟩:=KE.mp h
  cases h
  exact⟨x,xs,rfl,h1,rfl⟩
 | [],h=>cases h
 | _::_::_,h=>cases h
def Jw:CallR X (.type "list") (JB X.K (aJ (cr .lst))):=CallR.imp zR λxs H Q ⟨μ,S,ds,d,S',hS,hr,hm,post⟩=>by
 obtain⟨rfl,hm⟩:=dW hm
 obtain⟨x,ys,rfl,h1,rfl⟩:=vh hm
 obtain⟨v,rfl,r⟩:=hr.one
 obtain⟨a,vs,rfl,hq,r⟩:=jY hS r h1
 exact⟨a,vs,rfl,hq,λl hl=>post.lst hS hl r⟩
def Fe:CallR X (.type "tuple") (JB X.K (aJ (cr .tup))):=CallR.imp wC λxs H Q ⟨μ,S,ds,d,S',hS,hr,hm,post⟩=>by
 obtain⟨rfl,hm⟩:=dW hm
 obtain⟨x,ys,rfl,h1,rfl⟩:=vh hm
 obtain⟨v,rfl,r⟩:=hr.one
 cases x with
 | tup zs=>
  cases h1
  have r':=r
  obtain⟨a,vs,rfl,q,r⟩:=r.sqT
  exact⟨a,vs,rfl,.inr ⟨q,post.here hS r'⟩⟩
 | lst zs=>
  cases h1
  obtain⟨a,vs,rfl,q,n,r⟩:=r.sqL
  exact⟨a,vs,rfl,.inl ⟨.inl (.inl q),λl hl=>post.tup hS hl r⟩⟩
 | rol zs=>
  cases h1
  obtain⟨a,vs,rfl,q,r⟩:=r.sqR
  exact⟨a,vs,rfl,.inl ⟨q,λl hl=>post.tup hS hl r⟩⟩
 | ref i=>
  simp only [iU] at h1
  cases r with
  | @ref a _ h'=>
   cases q:S'[i]? with
   | none=>rw [q] at h1;cases h1
   | some c=>
    rw [q] at h1
    have ck:=hS.cell i a c h' q
    cases c with
    | lst xs=>cases h1;obtain⟨vs,e,r⟩:=ck;exact⟨a,vs,rfl,.inl ⟨.inl (.inl e),λl hl=>post.tup hS hl r⟩⟩
    | dct ks xs=>cases h1
 | _=>cases h1
noncomputable def mf:List D->Option (List Bool)
 | []=>U []
 | .bl b::r=>(mf r).bind λbs=>U (b::bs)
 | _=>Y
noncomputable def zF(S:ac):List D->Option D
 | [.lst xs]=>(mf xs).bind λbs=>U (.bl (bs.all id))
 | _=>Y
theorem sn:∀ {vs:List V} {ds:List D} {us:List Value} {bs:List Bool},Reps K μ H vs ds->Vals vs us->mf ds=U bs->LSm.BoolsAre us bs
 | _,_,_,_,.nil,.nil,h=>by cases h;exact .nil
 | _,_,_,_,.cons (d:=d) r t,.cons rv tv,h=>by
  cases d <;> first | cases h | skip
  obtain⟨cs,h1,h⟩:=KE.mp h
  cases h
  cases r;cases rv
  exact .cons _ (sn t tv h1)
def NW(hc:X.calm=true):CallR X (.builtin "all") (JB X.K (aJ zF)):=by
 intro pins s σ H xs us Q I rv h
 obtain⟨μ,S,ds,d,S',hS,hr,hm,post⟩:=h
 obtain⟨rfl,hm⟩:=dW hm
 match ds,hr,hm with
 | [D.lst zs],hr,hm=>
  obtain⟨v,rfl,r⟩:=hr.one
  obtain⟨bs,h1,hm⟩:=KE.mp hm
  cases hm
  obtain⟨u,rfl,ru⟩:=pq rv
  obtain⟨a,vs,rfl,q,n,r⟩:=r.sqL
  cases ru
  obtain⟨its,rv',pl,hz⟩:=I.list (.inl (.inl q))
  have hl:=pl.isList
  have hb:=sn r rv' h1
  have hlt:a<s.heap.objs.size:=by obtain⟨_,e,_⟩:=hl;exact Wy e
  refine call_all_walk (Yu hl ?_)
  refine⟨s.heap.objs.size,[s.heap.objs.size,a],[s.heap.objs.size],its.toArray.size,_,_,λi=>(bs[i]?).getD true,rfl,Walks.list (A:=X.A.in1) (I.ok.hd hc) _ a (WU hlt) its.toArray,
   ⟨⟨_,WF _ rfl,rfl,rfl⟩,hl.push _⟩,λi v s' Q' E' hP hQ=>?_,λh' tk hk=>?_⟩
  ·obtain⟨b,e,rfl⟩:=hb.get i v (by simpa using hP)
   simp only [e,Option.getD_some] at hQ
   exact Yh hQ
  ·have e:((List.range its.toArray.size).all λi=>(bs[i]?).getD true)=bs.all id:=by
    rw [Wt,hb.length];exact LSm.range_all bs
   rw [e]
   exact⟨.bl _,H,I.kept (LSm.kept_iter hk),rfl,post.here hS (.bl _)⟩
 | [D.non],hr,hm=>cases hm
 | [D.bl _],hr,hm=>cases hm
 | [D.int _],hr,hm=>cases hm
 | [D.str _],hr,hm=>cases hm
 | [D.dct _ _],hr,hm=>cases hm
 | [D.tup _],hr,hm=>cases hm
 | [D.rol _],hr,hm=>cases hm
 | [D.ref _],hr,hm=>cases hm
 | [],hr,hm=>cases hm
 | a::b::c,hr,hm=>simp [zF] at hm
noncomputable def tyD(S:ac):D->Option String
 | .non=>U "NoneType"
 | .bl _=>U "bool"
 | .int _=>U "int"
 | .str _=>U "str"
 | .tup _=>U "tuple"
 | .lst _=>U "list"
 | .rol _=>U "list"
 | .dct _ _=>U "dict"
 | .ref r=>match S[r]? with | some (.lst _)=>U "list" | some (.dct _ _)=>U "dict" | none=>Y
def Mh(T:String)(t:String):Bool:=t == T||(t == "bool" && T == "int")
noncomputable def lu(T:String)(S:ac)(d:D):Option D:=(tyD S d).bind λt=>U (.bl (Mh T t))
noncomputable def dR(T:String)(m:ME):ME:=λenv S=>(m env S).bind λp=>(lu T p.2 p.1).bind λd=>U (d,p.2)
def GY{S:ac}{d:D}{t:String}(h:tyD S d=U t):t = "NoneType"\/t = "bool"\/t = "int"\/t = "str"\/t = "tuple"\/t = "list"\/t = "dict":=by
 cases d <;> simp only [tyD] at h <;> first | (cases h;simp) | (split at h <;> first | (cases h;simp) | cases h)
def PJ(K:W.Frag){T t:String}(hT:T = "int"\/T = "bool"\/T = "str"\/T = "tuple"\/T = "list"\/T = "dict")(ht:t = "NoneType"\/t = "bool"\/t = "int"\/t = "str"\/t = "tuple"\/t = "list"\/t = "dict") :
  W.kitOne K (.type t) (.type T)=U (Mh T t):=by
 rcases hT with rfl | rfl | rfl | rfl | rfl | rfl <;> rcases ht with rfl | rfl | rfl | rfl | rfl | rfl | rfl <;> rfl
def kia_D{pins:List (Addr×Obj)}{σ:L2.St}{s:Shared}{v:V}{u:Value}{d:D}{t:String}{b:Bool}{c:Value}{Q:Value->Shared->Prop}{E:Value->Shared->Prop}(I:Inv X pins σ H s)(hS:SOk X.K μ S H)(r:Rep X.K μ H v d)(ru:RelV v u)(ht:tyD S d=U t)
  (e:W.kitOne X.K (.type t) c=U b) (h:∀ tk,Q (.bool b) { s with toks:=tk }):wpAny (model X.prog X.w) X.A (call (.builtin "isinstance") [u,c]) Q E s:=by
 have tupK:∀ {a:Addr} {vs:List V},kQ X.K H a vs->W.KitAt a "tuple" s.heap:=λ{a vs} q=>by
  obtain⟨its,_,⟨o,h1,h2,_⟩,_⟩:=I.tuple q;exact⟨o,h1,h2⟩
 have lstK:∀ {a:Addr} {vs:List V},my X.K H a vs->W.KitAt a "list" s.heap:=λ{a vs} q=>by
  obtain⟨its,_,⟨o,n,h1,h2,_⟩,_⟩:=I.list q;exact⟨o,h1,h2⟩
 have dK:∀ {a:Addr} {kvs:List (bt×V)},H a=U (.dK kvs)->W.KitAt a "dict" s.heap:=λ{a kvs} q=>by
  obtain⟨_,_,vs,_,p⟩:=(show ObjOk X.prog X.w H s.heap a (.dK kvs) from I.hok a _ q)
  obtain⟨o,es,ep,h1,h2,_⟩:=p
  exact⟨o,h1,h2.1⟩
 cases r with
 | non=>cases ht;cases ru;exact Yl W.kitx_none I.kIn True.intro e (λz=>nomatch z) h
 | bl y=>cases ht;cases ru;exact Yl W.kitx_bool I.kIn True.intro e (λz=>nomatch z) h
 | int i=>cases ht;obtain⟨t,rfl⟩:=ru;exact Yl W.kitx_int I.kIn True.intro e (λz=>nomatch z) h
 | str y=>cases ht;obtain⟨t,rfl⟩:=ru;exact Yl W.kitx_str I.kIn True.intro e (λz=>nomatch z) h
 | tup q n r=>cases ht;cases ru;exact Yl W.kitx_tuple I.kIn (tupK (.inl (.inl q))) e (λz=>nomatch z) h
 | ktup q r=>cases ht;cases ru;exact Yl W.kitx_tuple I.kIn (tupK (.inr q)) e (λz=>nomatch z) h
 | lst q n r=>cases ht;cases ru;exact Yl ZM I.kIn (lstK (.inl (.inl q))) e (λz=>nomatch z) h
 | rol q n r=>cases ht;cases ru;exact Yl ZM I.kIn (lstK (.inl q)) e (λz=>nomatch z) h
 | krol q r=>cases ht;cases ru;exact Yl ZM I.kIn (lstK (.inr q)) e (λz=>nomatch z) h
 | dct q n r=>cases ht;cases ru;exact Yl W.kitx_dict I.kIn (dK q) e (λz=>nomatch z) h
 | @ref a i h'=>
  cases ru
  simp only [tyD] at ht
  cases q:S[i]? with
  | none=>rw [q] at ht;cases ht
  | some c'=>
   rw [q] at ht
   have ck:=hS.cell i a c' h' q
   cases c' with
   | lst xs=>cases ht;obtain⟨vs,q,r⟩:=ck;exact Yl ZM I.kIn (lstK (.inl (.inl q))) e (λz=>nomatch z) h
   | dct ks xs=>cases ht;obtain⟨kvs,q,r⟩:=ck;exact Yl W.kitx_dict I.kIn (dK q) e (λz=>nomatch z) h
def Je{a:Expr}{ma:ME}{T:String}{x:Str}{p p2 pos:Pos}(hm:X.mg "isinstance" = Y)(hmT:X.mg x=Y)(hb:bootBuiltins x=U (.type T))(ha:DE X a ma)
  (hT:T = "int"\/T = "bool"\/T = "str"\/T = "tuple"\/T = "list"\/T = "dict":=by simp)
  (hg:Gl X "isinstance":=by rfl) (hgT:Gl X x:=by rfl) (hn:x ≠ "__name__":=by decide) (hd:(x == ("__debug__":Str))=false:=by decide)
  (hs1:starEach [a,.Name x p2] X.env=(false,eval a X.env)::starEach [.Name x p2] X.env:=by rfl) (hs2:starEach [.Name x p2] X.env=(false,eval (.Name x p2) X.env)::starEach [] X.env:=by rfl) (hpl:(backTo pos (starEach [.Name x p2] X.env)).any (·.1)=false:=by rfl) :
  DE X (.Call (.Name "isinstance" p) [a,.Name x p2] [] pos) (dR T ma):=by
 have hc:CallR X (.builtin "isinstance") (λvs H Q=>∃ v μ S d t,vs=[v,.ty T]/\SOk X.K μ S H/\Rep X.K μ H v d/\tyD S d=U t/\Q (.bl (Mh T t)) H):=by
  intro pins s σ H xs us Q I rv h
  obtain⟨v,μ,S,d,t,rfl,hS,r,ht,q⟩:=h
  obtain⟨u,w',rfl,r1,r2⟩:=JS rv
  cases r2
  exact kia_D I hS r r1 ht (PJ _ hT (GY ht)) λtk=>⟨.bl _,H,I.tok _,rfl,q⟩
 refine PE.imp (AI hc hg hm boot_isinstance (yA ha (yA (Pa (v:=.ty T) hgT hmT hb rfl hn hd) Le hs2) hs1) (by decide) (by decide) hs1 hpl) λσ H Q ⟨μ,S,env,d,S',hS,hE,hm,post⟩=>?_
 obtain⟨⟨x,S1⟩,h1,hm⟩:=KE.mp hm
 obtain⟨z,h2,hm⟩:=KE.mp hm
 cases hm
 obtain⟨t,h3,h2⟩:=KE.mp h2
 cases h2
 exact⟨μ,S,env,x,S1,hS,hE,h1,λv H1 μ1 e1 s1 r1=>⟨v,μ1,S1,x,t,rfl,s1,r1,h3,post _ H1 μ1 e1 s1 (.bl _)⟩⟩
end
section
variable{X:Cx}{K:W.Frag}{μ μ':Fp}{H H':Hp}{S:ac}
noncomputable def Kk(K:W.Frag)(n:Nat)(f:List D->ac->Option (D×ac)):Sp:=λvs H Q _=>∃ μ S ds d S',SOk K μ S H/\Reps K μ H vs ds/\ds.length=n/\f ds S=U (d,S')/\Post K μ H S' d Q
structure Fn(P:Program)(w:World)(K:W.Frag)(mg:Str->Option Value)(base:Heap)(k:Nat)(x:Str)(n:Nat)(f:List D->ac->Option (D×ac)):Prop where
 ex:∃ (a:Addr) (fd:FuncData) (ps:List Str),ps.length=n/\FnOk P w K mg base GO k a fd ps (Kk K n f)/\mg x=U (.ref a)/\W.keepIn K (.ref a)=true/\Binds K fd ps []
noncomputable def ao(n:Nat)(f:List D->ac->Option (D×ac))(ms:MA):ME:=λenv S=>(ms env S).bind λp=>if p.1.length=n then f p.1 p.2 else Y
def Ao{n:Nat}{f:List D->ac->Option (D×ac)}{ms:MA}{σ:L2.St}{Q:VK}(h:tM K (ao n f ms) σ H Q):Fy (Kk K n f) [] E0 (tMA K ms) σ H Q:=by
 obtain⟨μ,S,env,d,S',hS,hE,hm,post⟩:=h
 obtain⟨⟨xs,S1⟩,h1,hm⟩:=KE.mp hm
 dsimp only at hm
 split at hm
 ·rename_i hn
  refine⟨μ,S,env,xs,S1,hS,hE,h1,λvs H1 μ1 e1 s1 r1=>?_⟩
  show Kk K n f (vs++[]) H1 Q E0
  rw [WS]
  exact⟨μ1,S1,xs,d,S',s1,r1,hn,hm,post.ext e1⟩
 ·cases hm
def QY{k n:Nat}{x:Str}{f:List D->ac->Option (D×ac)}{e:Expr}{es:List Expr}{ms:MA}{p pos:Pos}(F:Fn X.prog X.w X.K X.mg X.base k x n f)(hr:Room k X.A)(ha:DA X (e::es) ms)(hg:Gl X x:=by rfl)
  (hdb:(x == ("__debug__":Str))=false:=by decide) (he:starEach (e::es) X.env=(false,eval e X.env)::starEach es X.env:=by rfl) (hpl:(backTo pos (starEach es X.env)).any (·.1)=false:=by rfl) :
  DE X (.Call (.Name x p) (e::es) [] pos) (ao n f ms):=by
 obtain⟨a,fd,ps,hn,F,hm,hk,hb⟩:=F.ex
 exact PE.imp (OZ F hr hg hm hk hb .nil Ld ha hdb he hpl) λ_ _ _ h=>Ao h
def NM{k:Nat}{x:Str}{f:List D->ac->Option (D×ac)}{p pos:Pos}(F:Fn X.prog X.w X.K X.mg X.base k x 0 f)(hr:Room k X.A)(hg:Gl X x:=by rfl)
  (hdb:(x == ("__debug__":Str))=false:=by decide):DE X (.Call (.Name x p) [] [] pos) (ao 0 f ai):=by
 obtain⟨a,fd,ps,hn,F,hm,hk,hb⟩:=F.ex
 refine PE.imp (Lc F hr hg hm hk hb .nil Ld hdb) λσ H Q h=>?_
 obtain⟨μ,S,env,d,S',hS,hE,hm,post⟩:=h
 exact⟨μ,S,[],d,S',hS,.nil,rfl,hm,post⟩
mutual
noncomputable def nC(n:Nat):D->Bool
 | .tup xs=>closDs n xs
 | .lst xs=>closDs n xs
 | .rol xs=>closDs n xs
 | .dct _ xs=>closDs n xs
 | .ref r=>decide (r<n)
 | _=>true
noncomputable def closDs(n:Nat):List D->Bool
 | []=>true
 | d::ds=>nC n d&&closDs n ds
end
noncomputable def xO(n:Nat):Cell->Bool
 | .lst xs=>closDs n xs
 | .dct _ xs=>closDs n xs
mutual
theorem Rep.trunc{cs l fb:List Addr}:∀ {v:V} {d:D},Rep K ⟨cs++l,fb⟩ H v d->nC cs.length d=true->Rep K ⟨cs,fb⟩ H v d
 | _,_,.non,_=>.non
 | _,_,.bl b,_=>.bl b
 | _,_,.int i,_=>.int i
 | _,_,.str x,_=>.str x
 | _,_,.tup h n r,c=>.tup h ⟨λz=>n.1 (Xb _ z),n.2⟩ (Reps.trunc r (by simpa only [nC] using c))
 | _,_,.ktup h r,c=>.ktup h (Reps.trunc r (by simpa only [nC] using c))
 | _,_,.lst h n r,c=>.lst h ⟨λz=>n.1 (Xb _ z),n.2⟩ (Reps.trunc r (by simpa only [nC] using c))
 | _,_,.rol h n r,c=>.rol h ⟨λz=>n.1 (Xb _ z),n.2⟩ (Reps.trunc r (by simpa only [nC] using c))
 | _,_,.krol h r,c=>.krol h (Reps.trunc r (by simpa only [nC] using c))
 | _,_,.dct h n r,c=>.dct h ⟨λz=>n.1 (Xb _ z),n.2⟩ (Reps.trunc r (by simpa only [nC] using c))
 | _,_,.ref h,c=>.ref (by
   have hl:=Xq c
   have h:(cs++l)[_]?=U _:=h
   rw [WE hl] at h
   exact h)
theorem Reps.trunc{cs l fb:List Addr}:∀ {vs:List V} {ds:List D},Reps K ⟨cs++l,fb⟩ H vs ds->closDs cs.length ds=true->Reps K ⟨cs,fb⟩ H vs ds
 | _,_,.nil,_=>.nil
 | _,_,.cons h t,c=>by
  rw [closDs,Wq] at c
  exact .cons (Rep.trunc h c.1) (Reps.trunc t c.2)
end
mutual
theorem Rep.closed:∀ {v:V} {d:D},Rep K μ H v d->nC μ.cs.length d=true
 | _,_,.non=>rfl
 | _,_,.bl b=>rfl
 | _,_,.int i=>rfl
 | _,_,.str x=>rfl
 | _,_,.tup h n r=>Reps.closed r
 | _,_,.ktup h r=>Reps.closed r
 | _,_,.lst h n r=>Reps.closed r
 | _,_,.rol h n r=>Reps.closed r
 | _,_,.krol h r=>Reps.closed r
 | _,_,.dct h n r=>Reps.closed r
 | _,_,.ref h=>WA (Wo.mp h).1
theorem Reps.closed:∀ {vs:List V} {ds:List D},Reps K μ H vs ds->closDs μ.cs.length ds=true
 | _,_,.nil=>rfl
 | _,_,.cons h t=>by rw [closDs,Rep.closed h,Reps.closed t];rfl
end
theorem SOk.closed(s:SOk K μ S H):∀ c∈S,xO S.length c=true:=λc hc=>by
 obtain⟨r,hr⟩:=Yx.mp hc
 have hl:=(Wo.mp hr).1
 have hl':r < μ.cs.length:=by rw [s.len];exact hl
 have:=s.cell r _ c (Wv hl') hr
 cases c with
 | lst ds=>obtain⟨vs,_,q⟩:=this;rw [<- s.len];exact q.closed
 | dct ks ds=>obtain⟨vs,_,_,q⟩:=this;rw [<- s.len];exact q.closed
theorem SOk.trunc{S' g:ac}(s:SOk K μ (S'++g) H)(hc:∀ c∈S',xO S'.length c=true):∃ cs l,μ.cs=cs++l/\cs.length=S'.length/\SOk K ⟨cs,μ.fb⟩ S' H:=by
 obtain⟨cs0,fb⟩:=μ
 have hlen:cs0.length=S'.length+g.length:=by have:=s.len;simpa using this
 have hcl:(cs0.take S'.length).length=S'.length:=by rw [Yb];omega
 refine⟨cs0.take S'.length,cs0.drop S'.length,(Yw _ _).symm,hcl,s.nd.sublist (List.take_sublist _ _),hcl,λr a c h1 h2=>?_,s.fdom,λa ha z=>s.disj a ha (Xs z)⟩
 have hr:=(Wo.mp h2).1
 have h1':cs0[r]?=U a:=by
  have h1:(cs0.take S'.length)[r]?=U a:=h1
  rwa [ZY hr] at h1
 have ck:=s.cell r a c h1' (by rw [WE hr];exact h2)
 have cc:=hc c (WN h2)
 have e:cs0=cs0.take S'.length++cs0.drop S'.length:=(Yw _ _).symm
 cases c with
 | lst ds=>
  obtain⟨vs,q,r⟩:=ck
  have r':Reps K ⟨cs0.take S'.length++cs0.drop S'.length,fb⟩ H vs ds:=by rw [<- e];exact r
  exact⟨vs,q,r'.trunc (by rw [hcl];exact cc)⟩
 | dct ks ds=>
  obtain⟨vs,q,q2,r⟩:=ck
  have r':Reps K ⟨cs0.take S'.length++cs0.drop S'.length,fb⟩ H (vs.map (·.2)) ds:=by rw [<- e];exact r
  exact⟨vs,q,q2,r'.trunc (by rw [hcl];exact cc)⟩
theorem Post.trunc{S' g:ac}{d:D}{Q:VK}(post:Post K μ H S' d Q)(hd:nC S'.length d=true)(hc:∀ c∈S',xO S'.length c=true)(hl:μ.cs.length<=S'.length):Post K μ H (S'++g) d Q:=λv H' μ' e s r=>by
 obtain⟨cs,l,q,hcl,s'⟩:=s.trunc hc
 obtain⟨cs',fb'⟩:=μ'
 have q':cs'=cs++l:=q
 subst q'
 refine post v H' ⟨cs,fb'⟩ ⟨e.fb,?_,e.keep,λa ha=>e.dom a (Xb _ ha)⟩ s' (r.trunc (by rw [hcl];exact hd))
 obtain⟨l0,q0,h0⟩:=e.pre
 have q0:cs++l = μ.cs++l0:=q0
 have hle:μ.cs.length<=cs.length:=by rw [hcl];exact hl
 refine⟨cs.drop μ.cs.length,?_,λa ha=>h0 a ?_⟩
 ·have t1:(cs++l).take μ.cs.length = μ.cs:=by rw [q0];simp
  rw [List.take_append_of_le_length hle] at t1
  show cs = μ.cs++cs.drop μ.cs.length
  conv=>lhs;rw [<- Yw μ.cs.length cs,t1]
 ·have t2:(cs++l).drop μ.cs.length=l0:=by rw [q0];simp
  rw [<- t2,List.drop_append_of_le_length hle]
  exact Xb _ ha
def Runs(m:MS)(env:bj)(S:ac)(d:D)(S':ac):Prop:=
 ∃ o g,m env S=U o/\(g=[]\/(nC S'.length d=true/\(∀ c∈S',xO S'.length c=true)/\S.length<=S'.length))/\(o=.rt d (S'++g)\/(d=.non/\∃ env',o=.nx env' (S'++g)))
def Runs.ret{m:MS}{env:bj}{S S':ac}{d:D}(h:m env S=U (.rt d S')):Runs m env S d S':=⟨_,[],h,.inl rfl,.inl (by rw [WS])⟩
noncomputable def aB(N:List Str)(ds:List D):bj:=ds.map U++List.replicate (N.length - ds.length) Y
def Sf{P:Program}{w:World}{mg:Str->Option Value}{base:Heap}{k:Nat}{x qual:Str}{st:Stmt}{a:Addr}{fd:FuncData}{N ps:List Str}{f:List D->ac->Option (D×ac)}
  (F:L2.Fun K x qual st a fd) (Sc:aV N ps (az st))
  (hbody:∀ (cdv:Value) (A:Around) (outer:List PySem.Env) (s:Shared) (H:Hp) (E:XK),Room k (A.deeper (envOfC qual (az st) s.heap.objs.size a cdv)) ->
   ∃ m,vH (wz GO P w K mg base N qual (az st) a cdv A outer s H E).nox (aN st) m/\∀ ds S d S',ds.length=ps.length->(∀ c∈S,xO S.length c=true)->closDs S.length ds=true->f ds S=U (d,S')->Runs m (aB N ds) S d S') :
  FnOk P w K mg base GO (k+1) a fd ps (Kk K ps.length f):=by
 refine F.ok Sc (λvs H Q E h=>?_) (λcdv A outer s H vs Q E hr h=>?_)
 ·obtain⟨μ,S,ds,d,S',hS,hr,hn,hf,post⟩:=h
  rw [hr.length,hn]
 ·obtain⟨m,hm,run⟩:=hbody cdv A outer s H E hr
  refine⟨_,hm,?_⟩
  obtain⟨μ,S,ds,d,S',hS,hrp,hn,hf,post⟩:=h
  obtain⟨o,g,ho,hg,hend⟩:=run ds S d S' hn hS.closed (by rw [<- hS.len];exact hrp.closed) hf
  have post':Post K μ H (S'++g) d Q:=by
   rcases hg with rfl | ⟨c1,c2,c3⟩
   ·rw [WS];exact post
   ·exact post.trunc c1 c2 (by rw [hS.len];exact c3)
  have hEnv:EOk K μ H (L2.start N vs) (aB N ds):=by unfold L2.start aB;rw [hrp.length];exact EOk.start hrp
  rcases hend with rfl | ⟨rfl,env',rfl⟩
  ·exact⟨μ,S,_,_,hS,hEnv,ho,post'⟩
  ·exact⟨μ,S,_,_,hS,hEnv,ho,λσ' H' μ' e s' _=>post' .non H' μ' e s' .non⟩
def Sg{P:Program}{w:World}{mg:Str->Option Value}{base:Heap}{k:Nat}{x qual:Str}{st:Stmt}{a:Addr}{fd:FuncData}{N ps:List Str}{f:List D->ac->Option (D×ac)}
  (F:L2.Fun K x qual st a fd) (Sc:aV N ps (az st)) (hmg:mg x=U (.ref a)) (hb:Binds K fd ps [])
  (hbody:∀ (cdv:Value) (A:Around) (outer:List PySem.Env) (s:Shared) (H:Hp) (E:XK),Room k (A.deeper (envOfC qual (az st) s.heap.objs.size a cdv)) ->
   ∃ m,vH (wz GO P w K mg base N qual (az st) a cdv A outer s H E).nox (aN st) m/\∀ ds S d S',ds.length=ps.length->(∀ c∈S,xO S.length c=true)->closDs S.length ds=true->f ds S=U (d,S')->Runs m (aB N ds) S d S') :
  Fn P w K mg base (k+1) x ps.length f:=⟨a,fd,ps,rfl,Sf F Sc hbody,hmg,F.kp,hb⟩
end
section
variable{X:Cx}{K:W.Frag}{μ μ':Fp}{H H':Hp}{S:ac}
def PostN.ext{S':ac}{env':bj}{Q:L2.St->Hp->Prop}(e:Ext μ H μ' H')(p:PostN K μ H S' env' Q):PostN K μ' H' S' env' Q:=λσ2 H2 μ2 e2 s r=>p σ2 H2 μ2 (e.trans e2) s r
theorem PostS.ext{o:nH}{E:wD}(e:Ext μ H μ' H')(p:PostS K μ H o E):PostS K μ' H' o E:=by
 cases o with
 | nx env S=>exact PostN.ext e p
 | rt d S=>exact Post.ext e p
 | bk env S=>exact PostN.ext e p
 | ct env S=>exact PostN.ext e p
noncomputable def aS:MS:=λenv S=>U (.nx env S)
noncomputable def ay(a b:MS):MS:=λenv S=>(a env S).bind λo=>match o with | .nx env' S'=>b env' S' | o=>U o
def QE:vH X [] aS:=PSs.imp OJ λE σ H ⟨μ,S,env,o,hS,hE,hm,post⟩=>by cases hm;exact post σ H μ hS.ext hS hE
def Oo{a b:MS}{E:wD}{σ:L2.St}(h:tMS K (ay a b) E σ H):tSeq (tMS K a) (tMS K b) E σ H:=by
 obtain⟨μ,S,env,o,hS,hE,hm,post⟩:=h
 obtain⟨o1,h1,hm⟩:=KE.mp hm
 refine⟨μ,S,env,o1,hS,hE,h1,?_⟩
 cases o1 with
 | nx env' S'=>exact λσ' H' μ' e s r=>⟨μ',S',env',o,s,r,hm,post.ext e⟩
 | rt d S'=>cases hm;exact post
 | bk env' S'=>cases hm;exact post
 | ct env' S'=>cases hm;exact post
def Nq{st:Stmt}{rest:List Stmt}{a b:MS}(h1:DS X st a)(h2:vH X rest b):vH X (st::rest) (ay a b):=PSs.imp (AE h1 h2) λ_ _ _ h=>Oo h
def QD{st:Stmt}{a:MS}(h1:DS X st a):vH X [st] a:=FD h1
variable{pos:Pos}{e c:Expr}{m:ME}{mt:MT}{a b:List Stmt}{ma mb:MS}
def QG:DS X (.Pass pos) aS:=PS.imp OL λE σ H ⟨μ,S,env,o,hS,hE,hm,post⟩=>by cases hm;exact post σ H μ hS.ext hS hE
def Nu:DS X (.Break pos) (λenv S=>U (.bk env S)):=PS.imp KJ λE σ H ⟨μ,S,env,o,hS,hE,hm,post⟩=>by cases hm;exact post σ H μ hS.ext hS hE
def Cs:DS X (.Continue pos) (λenv S=>U (.ct env S)):=PS.imp AG λE σ H ⟨μ,S,env,o,hS,hE,hm,post⟩=>by cases hm;exact post σ H μ hS.ext hS hE
def Vr{x j p}:DS X (.Expr (.Constant (.str x) j p) pos) aS:=PS.imp Td λE σ H ⟨μ,S,env,o,hS,hE,hm,post⟩=>by cases hm;exact post σ H μ hS.ext hS hE
noncomputable def aX(m:ME):MS:=λenv S=>(m env S).bind λp=>U (.rt p.1 p.2)
def Vp(he:DE X e m):DS X (.Return (U e) pos) (aX m):=PS.imp (KI he) λE σ H ⟨μ,S,env,o,hS,hE,hm,post⟩=>by
 obtain⟨⟨d,S1⟩,h1,hm⟩:=KE.mp hm
 cases hm
 exact⟨μ,S,env,d,S1,hS,hE,h1,post⟩
def QF:DS X (.Return Y pos) (λ_ S=>U (.rt .non S)):=PS.imp OK λE σ H ⟨μ,S,env,o,hS,hE,hm,post⟩=>by cases hm;exact Post.here post hS .non
noncomputable def cV(m:ME):MS:=λenv S=>(m env S).bind λp=>U (.nx env p.2)
def QK(he:DE X e m)(hs:swapsWith e Y pos.line X.env=pure false:=by rfl):DS X (.Expr e pos) (cV m):=PS.imp (OM he hs) λE σ H ⟨μ,S,env,o,hS,hE,hm,post⟩=>by
 obtain⟨⟨d,S1⟩,h1,hm⟩:=KE.mp hm
 cases hm
 exact⟨μ,S,env,d,S1,hS,hE,h1,λv H' μ' ex s r=>post σ H' μ' ex s (hE.mono ex)⟩
noncomputable def bz(t:MT)(a b:MS):MS:=λenv S=>(t env S).bind λp=>if p.1=true then a env p.2 else b env p.2
def ds_if(hc:DT X c mt)(ha:vH X a ma)(hb:vH X b mb):DS X (.If c a b pos) (bz mt ma mb):=PS.imp (ps_if hc ha hb) λE σ H ⟨μ,S,env,o,hS,hE,hm,post⟩=>by
 obtain⟨⟨k,S1⟩,h1,hm⟩:=KE.mp hm
 refine⟨μ,S,env,k,S1,hS,hE,h1,λH1 μ1 e1 s1=>?_⟩
 cases k with
 | true=>rw [WI rfl] at hm ⊢;exact⟨μ1,S1,env,o,s1,hE.mono e1,hm,post.ext e1⟩
 | false=>rw [if_neg Bool.false_ne_true] at hm ⊢;exact⟨μ1,S1,env,o,s1,hE.mono e1,hm,post.ext e1⟩
abbrev MG:=D->bj->ac->Option (bj×ac)
abbrev vD:=List D->bj->ac->Option (bj×ac)
inductive tMG(K:W.Frag)(g:MG)(v:V)(σ:L2.St)(H:Hp)(Q:L2.St->Hp->Prop):Prop
 | mk (μ:Fp) (S:ac) (env:bj) (d:D) (env':bj) (S':ac) (hS:SOk K μ S H) (hE:EOk K μ H σ env) (h1:Rep K μ H v d) (h:g d env S=U (env',S')) (post:PostN K μ H S' env' Q)
inductive tMGs(K:W.Frag)(g:vD)(vs:List V)(σ:L2.St)(H:Hp)(Q:L2.St->Hp->Prop):Prop
 | mk (μ:Fp) (S:ac) (env:bj) (ds:List D) (env':bj) (S':ac) (hS:SOk K μ S H) (hE:EOk K μ H σ env) (h1:Reps K μ H vs ds) (h:g ds env S=U (env',S')) (post:PostN K μ H S' env' Q)
def DG(X:Cx)(tg:Expr)(g:MG):Prop:=PG X tg (tMG X.K g)
def Wl(X:Cx)(tg:List Expr)(g:vD):Prop:=PGs X tg (tMGs X.K g)
def PG.imp{tg:Expr}{t t':TG}(h:PG X tg t)(i:∀ v σ H Q,t' v σ H Q->t v σ H Q):PG X tg t':=λpins s σ H v u Q I r q=>h pins s σ H v u Q I r (i v σ H Q q)
def PGs.imp{tg:List Expr}{t t':Sv}(h:PGs X tg t)(i:∀ v σ H Q,t' v σ H Q->t v σ H Q):PGs X tg t':=λpins s σ H v u Q I r q=>h pins s σ H v u Q I r (i v σ H Q q)
noncomputable def ah(i:Nat):MG:=λd env S=>U (env.set i (U d),S)
def GB{i:Nat}{x:Str}(hN:X.N.Nodup)(hi:X.N[i]?=U x)(hx:Oe X.env.scope x)(hf:X.fn x=true\/X.env.scope.names.lookup x=U .local:=by first | exact .inl rfl | exact .inr rfl | assumption):DG X (.Name x pos) (ah i):=
 PG.imp (OU hN hi hx hf) λv σ H Q ⟨μ,S,env,d,env',S',hS,hE,hr,hm,post⟩=>by cases hm;exact post _ H μ hS.ext hS (hE.set hr i)
noncomputable def aC:vD:=λds env S=>match ds with | []=>U (env,S) | _=>Y
noncomputable def af(g:MG)(gs:vD):vD:=λds env S=>match ds with | d::r=>(g d env S).bind λp=>gs r p.1 p.2 | []=>Y
def QR:Wl X [] aC:=PGs.imp OT λv σ H Q ⟨μ,S,env,ds,env',S',hS,hE,hr,hm,post⟩=>by
 cases hr with
 | nil=>cases hm;exact⟨rfl,post σ H μ hS.ext hS hE⟩
 | cons _ _=>cases hm
def ND{t:Expr}{ts:List Expr}{g:MG}{gs:vD}(h1:DG X t g)(h2:Wl X ts gs)(hs:(assignEach (t::ts) X.env).map (·.2)=assign t X.env::(assignEach ts X.env).map (·.2):=by rfl):Wl X (t::ts) (af g gs):=
 PGs.imp (KN h1 h2 hs) λv σ H Q ⟨μ,S,env,ds,env',S',hS,hE,hr,hm,post⟩=>by
  cases hr with
  | nil=>cases hm
  | @cons v d vs ds h t=>
   obtain⟨⟨env1,S1⟩,h1,hm⟩:=KE.mp hm
   exact⟨v,vs,rfl,μ,S,env,d,env1,S1,hS,hE,h,h1,λσ1 H1 μ1 e1 s1 r1=>⟨μ1,S1,env1,ds,env',S',s1,r1,t.mono e1,hm,post.ext e1⟩⟩
noncomputable def aK(n:Nat)(gs:vD):MG:=λd env S=>match d with | .tup xs=>if xs.length=n then gs xs env S else Y | _=>Y
def Vv{es:List Expr}{k n:Nat}{gs:vD}(hc:X.calm=true)(h:Wl X es gs)(hn:(assignEach es X.env).length=n:=by rfl)(hst:(assignEach es X.env).findIdx? (·.1)=Y:=by rfl):DG X (.Tuple es k pos) (aK n gs):=
 PG.imp (To hc h hn hst) λv σ H Q ⟨μ,S,env,d,env',S',hS,hE,hr,hm,post⟩=>by
  cases d with
  | tup xs=>
   simp only [aK] at hm
   split at hm
   ·rename_i hl
    obtain⟨a,vs,rfl,q,r⟩:=hr.sqT
    exact⟨a,vs,rfl,q,by rw [r.length];exact hl,μ,S,env,xs,env',S',hS,hE,r,hm,post⟩
   ·cases hm
  | _=>cases hm
noncomputable def fM(o i:ME):MG:=λd env S=>(o env S).bind λp=>(i env p.2).bind λq=>match p.1,q.1 with
 | .ref r,.int k=>match q.2[r]? with
  | some (.lst xs)=>(Iq xs.length k).bind λj=>U (env,q.2.set r (.lst (xs.set j d)))
  | _=>Y
 | _,_=>Y
def Vw{o i:Expr}{mo mi:ME}(ho:DE X o mo)(hi:DE X i mi)(ha:∀ v,assign (.Subscript o i pos) X.env v=(do
   let ov <- holding [v] (eval o X.env)
   let iv <- holding [v,ov] (eval i X.env)
   standAt pos
   holding [v,ov,iv] (setItem ov iv v)
   release [v,ov,iv] []):=by intro _;rfl):DG X (.Subscript o i pos) (fM mo mi):=
 PG.imp (Tp ho hi Kl ha) λv σ H Q ⟨μ,S,env,d,env',S',hS,hE,hr,hm,post⟩=>by
  obtain⟨⟨x,S1⟩,h1,hm⟩:=KE.mp hm
  obtain⟨⟨y,S2⟩,h2,hm⟩:=KE.mp hm
  refine⟨μ,S,env,x,S1,hS,hE,h1,λv1 H1 μ1 e1 s1 r1=>⟨μ1,S1,env,y,S2,s1,hE.mono e1,h2,λv2 H2 μ2 e2 s2 r2=>?_⟩⟩
  cases x with
  | ref r=>
   cases y with
   | int k=>
    dsimp only at hm
    cases q:S2[r]? with
    | none=>rw [q] at hm;cases hm
    | some c=>
     rw [q] at hm
     cases c with
     | lst xs=>
      obtain⟨j,h3,hm⟩:=KE.mp hm
      cases hm
      have r1':=r1.mono e2
      cases r1' with
      | @ref a _ h'=>
       obtain⟨vs,hv,rv⟩:=s2.cell r a _ h' q
       have rd:=(hr.mono e1).mono e2
       obtain⟨e3,s3⟩:=s2.write h' hv (rv.set rd j)
       exact⟨a,vs,k,j,rfl,r2.int_inv,hv,by rw [rv.length];exact h3,post σ _ μ2 ((e1.trans e2).trans e3) s3 (hE.mono ((e1.trans e2).trans e3))⟩
     | dct ks xs=>cases hm
   | _=>cases hm
  | _=>cases hm
noncomputable def aF(m:ME)(g:MG):MS:=λenv S=>(m env S).bind λp=>(g p.1 env p.2).bind λq=>U (.nx q.1 q.2)
def Oq{g:MG}{E:wD}{σ:L2.St}(h:tMS K (aF m g) E σ H):Kd (tM K m) (tMG K g) E σ H:=by
 obtain⟨μ,S,env,o,hS,hE,hm,post⟩:=h
 obtain⟨⟨d,S1⟩,h1,hm⟩:=KE.mp hm
 obtain⟨⟨env2,S2⟩,h2,hm⟩:=KE.mp hm
 cases hm
 exact⟨μ,S,env,d,S1,hS,hE,h1,λv H1 μ1 e1 s1 r1=>⟨μ1,S1,env,d,env2,S2,s1,hE.mono e1,r1,h2,PostN.ext e1 post⟩⟩
def Nw{tg:Expr}{g:MG}(he:DE X e m)(hg:DG X tg g)(hs:swapsWithSole [tg] e pos.line X.env=pure false:=by rfl)(hw:swappedStores [tg] e X.env=pure Y:=by rfl)
  (h1:(assignEach [tg] X.env).map (·.2)=[assign tg X.env]:=by rfl):DS X (.Assign [tg] e pos) (aF m g):=PS.imp (Tg he hg hs hw h1) λ_ _ _ h=>Oq h
def EO{i:Nat}{x:Str}{pos':Pos}(hN:X.N.Nodup)(hi:X.N[i]?=U x)(hx:Oe X.env.scope x)(he:DE X e m)(hs:swapsWith e (U (.Name x pos')) pos.line X.env=pure false:=by rfl)(hf:X.fn x=true\/X.env.scope.names.lookup x=U .local:=by first | exact .inl rfl | exact .inr rfl | assumption) :
  DS X (.Assign [.Name x pos'] e pos) (aF m (ah i)):=PS.imp (KH hN hi hx he hs hf) λE σ H h=>by
 obtain⟨μ,S,env,o,hS,hE,hm,post⟩:=h
 obtain⟨⟨d,S1⟩,h1,hm⟩:=KE.mp hm
 cases hm
 exact⟨μ,S,env,d,S1,hS,hE,h1,λv H1 μ1 e1 s1 r1=>post _ H1 μ1 e1 s1 ((hE.mono e1).set r1 i)⟩
structure ExtP(μ:Fp)(H:Hp)(μ':Fp)(H':Hp):Prop where
 fb:∃ l,μ'.fb=l++μ.fb/\∀ a∈l,H a=Y
 pre:∃ l,μ'.cs = μ.cs++l/\∀ a∈l,H a=Y
 keep:∀ a o,a ∉ μ.cs->H a=U o->H' a=U o
 dom:∀ a ∈ μ'.cs,H' a≠Y
def Ext.toP(e:Ext μ H μ' H'):ExtP μ H μ' H':=⟨⟨[],by rw [e.fb];rfl,λ_ z=>by simp at z⟩,e.pre,e.keep,e.dom⟩
def ExtP.stays(e:ExtP μ H μ' H'){a:Addr}{o:HO}(h:H a=U o)(n:μ.no a):H' a=U o/\μ'.no a:=by
 refine⟨e.keep a o n.1 h,λz=>?_,λz=>?_⟩
 ·obtain⟨l,q,hl⟩:=e.pre
  rw [q] at z
  rcases WK.mp z with z | z
  ·exact n.1 z
  ·rw [hl a z] at h;cases h
 ·obtain⟨l,q,hl⟩:=e.fb
  rw [q] at z
  rcases WK.mp z with z | z
  ·rw [hl a z] at h;cases h
  ·exact n.2 z
def ExtP.then{μ'':Fp}{H'':Hp}(e:ExtP μ H μ' H')(f:Ext μ' H' μ'' H''):ExtP μ H μ'' H'':=by
 obtain⟨l,q,hl⟩:=e.pre
 obtain⟨l',q',hl'⟩:=f.pre
 refine⟨by rw [f.fb];exact e.fb,⟨l++l',by rw [q',q,WR],λa ha=>?_⟩,λa o n h=>?_,f.dom⟩
 ·rcases WK.mp ha with ha | ha
  ·exact hl a ha
  ·have h1:=hl' a ha
   cases q2:H a with
   | none=>rfl
   | some o=>
    by_cases hm:a ∈ μ.cs
    ·exact absurd h1 (e.dom a (by rw [q];exact Xb _ hm))
    ·rw [e.keep a o hm q2] at h1;cases h1
 ·have h1:=e.keep a o n h
  refine f.keep a o (λz=>?_) h1
  rw [q] at z
  rcases WK.mp z with z | z
  ·exact n z
  ·rw [hl a z] at h;cases h
def ExtP.chg{p:Addr}{o:HO}(e:ExtP μ H μ' H')(hp:H p=Y):ExtP μ H μ' (upd H' p o):=
 ⟨e.fb,e.pre,λa o' n h=>by rw [bm (cA h hp)];exact e.keep a o' n h,λa ha=>by
  by_cases z:a=p
  ·subst z;rw [bA];simp
  ·rw [bm z];exact e.dom a ha⟩
def ExtP.ix(e:ExtP μ H μ' H'){r:Nat}{a:Addr}(h:μ.cs[r]?=U a):μ'.cs[r]?=U a:=by
 obtain⟨l,q,_⟩:=e.pre
 exact zX q h
def Rep.monoP(e:ExtP μ H μ' H'){v:V}{d:D}(r:Rep K μ H v d):Rep K μ' H' v d:=r.imp e.stays e.ix
def Fq(K:W.Frag)(μ:Fp)(H:Hp)(J:It)(xs:List D):Prop:=
 ∀ μ' H' S',ExtP μ H μ' H'->SOk K μ' S' H'->∀ i,(∀ d,xs[i]?=U d->J.go i H'/\∀ x H2,J.yld i H' x H2->Ext μ' H' μ' H2/\SOk K μ' S' H2/\Rep K μ' H2 x d)/\(xs.length<=i->J.stop i H')
inductive iM(K:W.Frag)(m:MA)(σ:L2.St)(H:Hp)(R:It->Hp->Prop):Prop
 | mk (μ:Fp) (S:ac) (env:bj) (xs:List D) (S':ac) (hS:SOk K μ S H) (hE:EOk K μ H σ env) (h:m env S=U (xs,S')) (post:∀ J H' μ',Ext μ H μ' H'->SOk K μ' S' H'->Fq K μ' H' J xs->R J H')
def DI(X:Cx)(tg iter:Expr)(m:MA):Prop:=PI X tg iter (iM X.K m)
def PI.imp{tg iter:Expr}{t t':TI}(h:PI X tg iter t)(i:∀ σ H R,t' σ H R->t σ H R):PI X tg iter t':=λpins s σ H R I q=>h pins s σ H R I (i σ H R q)
def xu{v:V}{a:Addr}{d:D}{xs:List D}(hd:d=.lst xs\/d=.rol xs)(r:Rep K μ H v d)(hv:v=.ref a):Fq K μ H (Itl K a) xs:=λμ' H' S' e s i=>by
 have r':=r.monoP e
 obtain⟨vs,q,rs⟩:∃ vs,my K H' a vs/\Reps K μ' H' vs xs:=by
  subst hv
  rcases hd with rfl | rfl
  ·obtain⟨a',vs,ea,q,_,rs⟩:=r'.sqL;cases ea;exact⟨vs,.inl (.inl q),rs⟩
  ·obtain⟨a',vs,ea,q,rs⟩:=r'.sqR;cases ea;exact⟨vs,q,rs⟩
 refine⟨λd hd=>?_,λhl=>⟨vs,q,by rw [rs.length];exact hl⟩⟩
 obtain⟨v,hv,rv⟩:=rs.get hd
 refine⟨⟨vs,v,q,hv⟩,λx H2 ⟨e2,hy⟩=>?_⟩
 subst e2
 have:=hy vs q
 rw [hv] at this;cases this
 exact⟨s.ext,s,rv⟩
def Mg{a:Addr}{xs:List D}(r:Rep K μ H (.ref a) (.tup xs)):Fq K μ H (Itt K a) xs:=λμ' H' S' e s i=>by
 obtain⟨a',vs,ea,q,rs⟩:=(r.monoP e).sqT
 cases ea
 refine⟨λd hd=>?_,λhl=>⟨vs,q,by rw [rs.length];exact hl⟩⟩
 obtain⟨v,hv,rv⟩:=rs.get hd
 refine⟨⟨vs,v,q,hv⟩,λx H2 ⟨e2,hy⟩=>?_⟩
 subst e2
 have:=hy vs q
 rw [hv] at this;cases this
 exact⟨s.ext,s,rv⟩
variable{tg iter:Expr}
noncomputable def cJ(lo:Int)(n:Nat):List D:=(List.range n).map λ(i:Nat)=>D.int (lo+(i:Int))
def tV(lo:Int)(n i:Nat)(d:D)(h:(cJ lo n)[i]?=U d):i<n/\d=.int (lo+(i:Int)):=by
 unfold cJ at h
 rw [XV] at h
 cases q:(List.range n)[i]? with
 | none=>rw [q] at h;cases h
 | some j=>
  rw [q] at h;cases h
  obtain⟨h1,h2⟩:=Wo.mp q
  simp at h1 h2
  exact⟨h1,by rw [h2]⟩
def uP(lo:Int)(n:Nat):Fq K μ H (Itr lo n) (cJ lo n):=λμ' H' S' e s i=>by
 refine⟨λd hd=>?_,λhl=>?_⟩
 ·obtain⟨h1,rfl⟩:=tV lo n i d hd
  refine⟨h1,λx H2 ⟨e2,hy⟩=>?_⟩
  subst e2 hy
  exact⟨s.ext,s,.int _⟩
 ·have:(cJ lo n).length=n:=by simp [cJ]
  rw [this] at hl;exact hl
noncomputable def cB(ms:MA):MA:=λenv S=>(ms env S).bind λp=>match p.1 with | [.int j]=>if -(2 ^ 62)<=j/\j<2 ^ 62 then U (cJ 0 j.toNat,p.2) else Y | _=>Y
noncomputable def dC(ms:MA):MA:=λenv S=>(ms env S).bind λp=>match p.1 with | [.int i,.int j]=>if -(2 ^ 62)<=i/\i<2 ^ 62/\-(2 ^ 62)<=j/\j<2 ^ 62 then U (cJ i (j - i).toNat,p.2) else Y | _=>Y
def Jc{a:Expr}{ms:MA}{p:Pos}(hm:X.mg "range" = Y)(ha:DA X [a] ms)(hg:Gl X "range":=by rfl)(hs:starEach [a] X.env=[(false,eval a X.env)]:=by rfl):DI X tg (.Call (.Name "range" p) [a] [] pos) (cB ms):=
 PI.imp (Hw hg hm ha hs) λσ H R ⟨μ,S,env,xs,S',hS,hE,hm,post⟩=>by
  obtain⟨⟨ds,S1⟩,h1,hm⟩:=KE.mp hm
  refine⟨μ,S,env,ds,S1,hS,hE,h1,λvs H1 μ1 e1 s1 r1=>?_⟩
  dsimp only at hm
  split at hm
  ·split at hm
   ·rename_i hb
    cases hm
    obtain⟨v,rfl,r⟩:=r1.one
    exact⟨_,by rw [r.int_inv],hb.1,hb.2,post _ H1 μ1 e1 s1 (uP 0 _)⟩
   ·cases hm
  ·cases hm
def Jb{a b:Expr}{ms:MA}{p:Pos}(hm:X.mg "range" = Y)(ha:DA X [a,b] ms)(hg:Gl X "range":=by rfl)(hs:starEach [a,b] X.env=[(false,eval a X.env),(false,eval b X.env)]:=by rfl)(hs2:starEach [b] X.env=[(false,eval b X.env)]:=by rfl):DI X tg (.Call (.Name "range" p) [a,b] [] pos) (dC ms):=
 PI.imp (Hv hg hm ha hs hs2) λσ H R ⟨μ,S,env,xs,S',hS,hE,hm,post⟩=>by
  obtain⟨⟨ds,S1⟩,h1,hm⟩:=KE.mp hm
  refine⟨μ,S,env,ds,S1,hS,hE,h1,λvs H1 μ1 e1 s1 r1=>?_⟩
  dsimp only at hm
  split at hm
  ·split at hm
   ·rename_i hb
    cases hm
    obtain⟨v,w,rfl,r,r'⟩:=r1.two
    exact⟨_,_,by rw [r.int_inv,r'.int_inv],hb,post _ H1 μ1 e1 s1 (uP _ _)⟩
   ·cases hm
  ·cases hm
noncomputable def cn(g:MG)(body:MS):List D->bj->ac->Option nH
 | [],env,S=>U (.nx env S)
 | d::ds,env,S=>(g d env S).bind λp=>(body p.1 p.2).bind λo=>match o with
  | .nx e s=>cn g body ds e s
  | .ct e s=>cn g body ds e s
  | .bk e s=>U (.nx e s)
  | .rt d s=>U (.rt d s)
noncomputable def iZ(mi:MA)(g:MG)(body:MS):MS:=λenv S=>(mi env S).bind λp=>cn g body p.1 env p.2
def Nt{body:List Stmt}{mi:MA}{g:MG}{mb:MS}(hp:PassesOwn (model X.prog X.w) X.A X.env X.xe)(hc:X.calm=true)(hi:DI X tg iter mi)(hg:DG X tg g)(hb:vH X body mb)
  (hs:∀ x,foldedSetIterable iter X.env x=pure x:=by intro _;rfl):DS X (.For tg iter body [] pos) (iZ mi g mb):=PS.imp (Dq hp hc hi hg hb hs) λE σ H ⟨μ,S,env,o,hS,hE,hm,post⟩=>by
 obtain⟨⟨xs,S1⟩,h1,hm⟩:=KE.mp hm
 refine⟨μ,S,env,xs,S1,hS,hE,h1,λJ H1 μ1 e1 s1 it=>?_⟩
 refine⟨λi n σ H=>n=xs.length - i/\i<=xs.length/\∃ μ' S' env' o',Ext μ1 H1 μ' H/\SOk X.K μ' S' H/\EOk X.K μ' H σ env'/\cn g mb (xs.drop i) env' S'=U o'/\PostS X.K μ' H o' E,
  ⟨xs.length,by simp,Yz _,μ1,S1,env,o,s1.ext,s1,hE.mono e1,by rw [ZV];exact hm,post.ext e1⟩,?_⟩
 rintro i n σ' H' ⟨rfl,hi,μ',S',env',o',e',s',r',hl,post'⟩
 have iti:=it μ' H' S' e'.toP s' i
 by_cases hlt:i<xs.length
 ·refine .inr ⟨(iti.1 xs[i] (Wv hlt)).1,λσ2 H2=>∃ μ2 S2 env2 o2,Ext μ1 H1 μ2 H2/\SOk X.K μ2 S2 H2/\EOk X.K μ2 H2 σ2 env2/\cn g mb (xs.drop (i+1)) env2 S2=U o2/\PostS X.K μ2 H2 o2 E,
   λσ2 H2 ⟨μ2,S2,env2,o2,q1,q2,q3,q4,q5⟩=>⟨xs.length - (i+1),by omega,rfl,hlt,μ2,S2,env2,o2,q1,q2,q3,q4,q5⟩,λx H2 y=>?_⟩
  obtain⟨e2,s2,rx⟩:=(iti.1 xs[i] (Wv hlt)).2 x H2 y
  rw [YI hlt] at hl
  obtain⟨⟨env3,S3⟩,h3,hl⟩:=KE.mp hl
  obtain⟨o4,h4,hl⟩:=KE.mp hl
  refine⟨μ',S',env',xs[i],env3,S3,s2,r'.mono e2,rx,h3,λσ3 H3 μ3 e3 s3 r3=>⟨μ3,S3,env3,o4,s3,r3,h4,?_⟩⟩
  have eT:Ext μ1 H1 μ3 H3:=(e'.trans e2).trans e3
  have pT:PostS X.K μ3 H3 o' E:=(post'.ext e2).ext e3
  cases o4 with
  | nx e5 s5=>exact λσ6 H6 μ6 e6 s6 r6=>⟨μ6,s5,e5,o',eT.trans e6,s6,r6,hl,pT.ext e6⟩
  | ct e5 s5=>exact λσ6 H6 μ6 e6 s6 r6=>⟨μ6,s5,e5,o',eT.trans e6,s6,r6,hl,pT.ext e6⟩
  | bk e5 s5=>cases hl;exact pT
  | rt d5 s5=>cases hl;exact pT
 ·have e:i=xs.length:=by omega
  subst e
  refine .inl ⟨iti.2 (WD _),?_⟩
  rw [ZE] at hl
  cases hl
  exact post' σ' H' μ' s'.ext s' r'
noncomputable def wA(cap:List (Option Nat))(env:bj):bj:=cap.map λo=>o.bind λi=>(env[i]?).join
def Sx(X:Cx)(ifs:List Expr)(m:MT):Prop:=Rz X ifs (JA X.K m)
def QB:Sx X [] (λ_ S=>U (true,S)):=λpins s σ H Q I ⟨μ,S,env,b,S',hS,hE,hm,post⟩=>by cases hm;exact OH pins s σ H Q I (post H μ hS.ext hS)
def QA{c:Expr}{t:MT}(h:DT X c t):Sx X [c] t:=OG h
noncomputable def dS(g:MG)(t:MT)(e:ME):List D->bj->ac->Option (List D×ac)
 | [],_,S=>U ([],S)
 | d::ds,env,S=>(g d env S).bind λp=>(t p.1 p.2).bind λb=>if b.1=true then (e p.1 b.2).bind λq=>(dS g t e ds p.1 q.2).bind λr=>U (q.1::r.1,r.2) else dS g t e ds p.1 b.2
noncomputable def bI(mi:MA)(g:MG)(t:MT)(e:ME)(cap:List (Option Nat)):ME:=λenv S=>(mi env S).bind λp=>if p.1.length<=sizeLine then (dS g t e p.1 (wA cap env) p.2).bind λq=>U (.lst q.1,q.2) else Y
def An{mi:MA}{g:MG}{t:MT}{e:ME}{cap:List (Option Nat)}{σ:L2.St}{Q:VK}(h:tM K (bI mi g t e cap) σ H Q):Kb (iM K mi) (tMG K g) (JA K t) (tM K e) cap σ H Q:=by
 obtain⟨μ,S,env,d,S',hS,hE,hm,post⟩:=h
 obtain⟨⟨xs,S1⟩,h1,hm⟩:=KE.mp hm
 dsimp only at hm
 split at hm
 case isFalse=>cases hm
 rename_i hsz
 obtain⟨⟨ys,S2⟩,h2,hm⟩:=KE.mp hm
 cases hm
 refine⟨μ,S,env,xs,S1,hS,hE,h1,λJ H1 μ1 e1 s1 it p hp=>?_⟩
 have hpn:=s1.notMem hp
 refine⟨λi n σ' H'=>n=xs.length - i/\i<=xs.length/\∃ (cs:List Addr) (S':ac) (env':bj) (vs:List V) (zs rest:List D),ExtP μ1 H1 ⟨cs,p::μ1.fb⟩ H'/\SOk K ⟨cs,p::μ1.fb⟩ S' H'/\EOk K ⟨cs,p::μ1.fb⟩ H' σ' env'/\H' p=U (.lst vs) /\
   Reps K ⟨cs,p::μ1.fb⟩ H' vs zs/\dS g t e (xs.drop i) env' S'=U (rest,S2)/\ys=zs++rest/\vs.length<=i,⟨xs.length,by simp,Yz _,μ1.cs,S1,wA cap env,[],[],ys,?_,s1.more hp,?_,bA,.nil,by rw [ZV];exact h2,rfl,WD _⟩,?_⟩
 ·exact⟨⟨[p],rfl,λa z=>by rw [WL.mp z];exact hp⟩,⟨[],by simp,λ_ z=>by simp at z⟩,λa o' n h=>by rw [bm (cA h hp)];exact h,λa ha=>by
   by_cases z:a=p
   ·subst z;rw [bA];simp
   ·rw [bm z];exact s1.dom a ha⟩
 ·exact((hE.mono e1).block cap).more hp
 rintro i n σ' H' ⟨rfl,hi,cs,S',env',vs,zs,rest,eP,s',r',hpv,rz,hl,rfl,hvl⟩
 have iti:=it _ H' S' eP s' i
 by_cases hlt:i<xs.length
 ·refine .inr ⟨(iti.1 xs[i] (Wv hlt)).1,λx H2 y=>?_⟩
  obtain⟨e2,s2,rx⟩:=(iti.1 xs[i] (Wv hlt)).2 x H2 y
  rw [YI hlt] at hl
  obtain⟨⟨env3,S3⟩,h3,hl⟩:=KE.mp hl
  obtain⟨⟨b,S4⟩,h4,hl⟩:=KE.mp hl
  refine⟨_,S',env',xs[i],env3,S3,s2,r'.mono e2,rx,h3,λσ3 H3 μ3 e3 s3 r3=>⟨μ3,S3,env3,b,S4,s3,r3,h4,λH4 μ4 e4 s4=>?_⟩⟩
  have eA:=(e2.trans e3).trans e4
  have pcs:p ∉ cs:=λz=>s'.disj p Wr z
  cases b with
  | false=>
   rw [if_neg Bool.false_ne_true] at hl
   dsimp only
   rw [if_neg Bool.false_ne_true]
   obtain⟨cs4,fb4⟩:=μ4
   have hfb:fb4=p::μ1.fb:=eA.fb
   subst hfb
   exact⟨xs.length - (i+1),by omega,rfl,hlt,cs4,S4,env3,vs,zs,rest,eP.then eA,s4,r3.mono e4,(eA.keeps hpv pcs).1,rz.mono eA,hl,rfl,by omega⟩
  | true=>
   rw [WI rfl] at hl
   dsimp only
   rw [WI rfl]
   obtain⟨⟨dv,S5⟩,h5,hl⟩:=KE.mp hl
   obtain⟨⟨rs,S6⟩,h6,hl⟩:=KE.mp hl
   cases hl
   refine⟨μ4,S4,env3,dv,S5,s4,r3.mono e4,h5,λv H5 μ5 e5 s5 r5=>?_⟩
   have eB:=eA.trans e5
   obtain⟨cs5,fb5⟩:=μ5
   have hfb:fb5=p::μ1.fb:=eB.fb
   subst hfb
   refine⟨vs,(eB.keeps hpv pcs).1,by omega,xs.length - (i+1),by omega,rfl,hlt,cs5,S5,env3,vs++[v],zs++[dv],rs,(eP.then eB).chg hp,s5.chg Wr,((r3.mono e4).mono e5).chg Wr,bA,Reps.chg Wr ((rz.mono eB).append (.cons r5 .nil)),h6,by simp,by rw [WB,XF];omega⟩
 ·have e:i=xs.length:=by omega
  subst e
  refine .inl ⟨iti.2 (WD _),?_⟩
  rw [ZE] at hl
  cases hl
  have eF:Ext μ1 H1 ⟨cs,μ1.fb⟩ H':=⟨rfl,eP.pre,eP.keep,eP.dom⟩
  dsimp only at post
  rw [WS] at post
  exact post _ H' ⟨cs,μ1.fb⟩ (e1.trans eF) s'.less (.lst hpv ⟨λz=>s'.disj p Wr z,hpn.2⟩ rz.less)
def QX{elt:Expr}{ifs:List Expr}{scope:Scope}{N':List Str}{cap:List (Option Nat)}{mi:MA}{g:MG}{t:MT}{me:ME}
  (hc:X.calm=true) (B:BlockOk X N' scope cap) (hi:DI X tg iter mi) (hg:∀ C s H fp,DG (qC X N' scope C s H fp) tg g) (ht:∀ C s H fp,Sx (qC X N' scope C s H fp) ifs t) (he:∀ C s H fp,DE (qC X N' scope C s H fp) elt me)
  (hs:∀ x,foldedSetIterable iter X.env x=pure x:=by intro _;rfl):DE X (.ListComp elt [⟨tg,iter,ifs,0⟩] scope pos) (bI mi g t me cap):=
 PE.imp (OX (g:=tMG X.K g) (tt:=JA X.K t) (te:=tM X.K me) hc B hi hg ht he hs) λ_ _ _ h=>An h
def EN{elt:Expr}{ifs:List Expr}{scope:Scope}{spos py:Pos}{N':List Str}{cap:List (Option Nat)}{mi:MA}{g:MG}{t:MT}{me:ME}{y:Str}{i:Nat}
  (hN:X.N.Nodup) (hy:X.N[i]?=U y) (hx:Oe X.env.scope y)
  (hc:X.calm=true) (B:BlockOk X N' scope cap) (hi:DI X tg iter mi) (hg:∀ C s H fp,DG (qC X N' scope C s H fp) tg g) (ht:∀ C s H fp,Sx (qC X N' scope C s H fp) ifs t) (he:∀ C s H fp,DE (qC X N' scope C s H fp) elt me)
  (hsw:swapsWith (.ListComp elt [⟨tg,iter,ifs,0⟩] scope pos) (U (.Name y py)) spos.line X.env=pure true:=by rfl)
  (hs:∀ x,foldedSetIterable iter X.env x=pure x:=by intro _;rfl) (hf:X.fn y=true\/X.env.scope.names.lookup y=U .local:=by first | exact .inl rfl | exact .inr rfl | assumption) :
  DS X (.Assign [.Name y py] (.ListComp elt [⟨tg,iter,ifs,0⟩] scope pos) spos) (aF (bI mi g t me cap) (ah i)):=
 PS.imp (Dp (g:=tMG X.K g) (tt:=JA X.K t) (te:=tM X.K me) hN hy hx hc B hi hg ht he hsw hs hf) λE σ H h=>by
  obtain⟨μ,S,env,o,hS,hE,hm,post⟩:=h
  obtain⟨⟨d,S1⟩,h1,hm⟩:=KE.mp hm
  cases hm
  exact An ⟨μ,S,env,d,S1,hS,hE,h1,λv H1 μ1 e1 s1 r1=>post _ H1 μ1 e1 s1 ((hE.mono e1).set r1 i)⟩
end
section
variable{X:Cx}{K:W.Frag}{μ μ':Fp}{H H':Hp}{S:ac}{pos p2:Pos}{tg iter:Expr}{m:ME}
noncomputable def wB(N N':List Str)(kX kB:Str->Option NameKind):List (Option Nat)->List Str->Bool
 | [],[]=>true
 | none::r,_::s=>wB N N' kX kB r s
 | some i::r,y::s=>N[i]? == U y&&(kX y == U .cell||kX y == U .free)&&(kB y == U .cell||kB y == U .free)&&wB N N' kX kB r s
 | _,_=>false
theorem zP{N N':List Str}{kX kB:Str->Option NameKind}:∀ {cap:List (Option Nat)} {ys:List Str},wB N N' kX kB cap ys=true->cap.length=ys.length/\∀ (j i:Nat),cap[j]?=U (U i)->∃ y,ys[j]?=U y/\N[i]?=U y/\(kX y=U .cell\/kX y=U .free)/\(kB y=U .cell\/kB y=U .free)
 | [],[],_=>⟨rfl,λj i e=>by simp at e⟩
 | none::r,y::s,h=>by
  obtain⟨h1,h2⟩:=zP (cap:=r) (ys:=s) h
  refine⟨by simp [h1],λj i e=>?_⟩
  cases j with
  | zero=>simp at e
  | succ j=>simpa using h2 j i (by simpa using e)
 | some k::r,y::s,h=>by
  rw [wB,Wq,Wq,Wq,YE,YE] at h
  obtain⟨h1,h2⟩:=zP (cap:=r) (ys:=s) h.2
  refine⟨by simp [h1],λj i e=>?_⟩
  cases j with
  | zero=>
   simp at e;subst e
   refine⟨y,rfl,by simpa using h.1.1.1,?_,?_⟩
   ·exact h.1.1.2.imp (λz=>by simpa using z) λz=>by simpa using z
   ·exact h.1.2.imp (λz=>by simpa using z) λz=>by simpa using z
  | succ j=>simpa using h2 j i (by simpa using e)
 | [],_::_,h=>by simp [wB] at h
 | none::_,[],h=>by simp [wB] at h
 | some _::_,[],h=>by simp [wB] at h
def blk{N':List Str}{scope:Scope}{cap:List (Option Nat)}(nd:N'.Nodup)(k:scope.kind=.function:=by rfl)(nc:(scope.names.all λx=>x.2 != .cell)=true:=by rfl)(nm:(scope.names.all λx=>x.2 != .local||scope.names.lookup x.1 == U .local)=true:=by rfl)
  (fr:(scope.names.all λx=>x.2 != .free||X.env.kindOf x.1 == U .cell||X.env.kindOf x.1 == U .free)=true:=by rfl)
  (cp:wB X.N N' X.env.kindOf (λy=>(relabel scope X.env).names.lookup y) cap N'=true:=by rfl):BlockOk X N' scope cap:=by
 obtain⟨h1,h2⟩:=zP cp
 refine⟨k,λx hx=>?_,λx hx hl=>?_,λx hx hf=>?_,nd,h1,λj i e=>?_⟩
 ·have:=WJ.mp nc x hx
  simpa using this
 ·have:=WJ.mp nm x hx
  simpa [hl] using this
 ·have:=WJ.mp fr x hx
  simpa [hf] using this
 ·obtain⟨y,a,b,c,d⟩:=h2 j i e
  exact⟨y,a,b,.inr c,c,d⟩
def Tk{l:Expr}{tl:TE}(hl:PE X l tl):PI X tg l (λσ H R=>tl σ H λx H1=>∃ a,x=.ref a/\(((∃ xs,my X.K H1 a xs)/\R (Itl X.K a) H1)\/((∃ xs,kQ X.K H1 a xs)/\R (Itt X.K a) H1))):=by
 intro pins s σ H R I h
 refine dh (hl pins s σ H _ I h) λv s1 ⟨x,H1,I1,r1,q1⟩=>?_
 obtain⟨a,e,⟨⟨xs,hq⟩,q⟩ | ⟨⟨xs,hq⟩,q⟩⟩:=q1
 ·subst e
  cases r1
  obtain⟨its,rv,p,hz⟩:=I1.list hq
  refine Yu p.isList ?_
  refine⟨s1.heap.objs.size,[s1.heap.objs.size],_,_,H1,rfl,I1.kept (t':=s1.toks) λb o e=>Wp _ e,wH a _,⟨_,WF _ rfl,rfl,rfl⟩,λb hb=>?_,q⟩
  have e:b=s1.heap.objs.size:=by simpa using hb
  subst e
  exact I1.fpOk (WD _) (I1.hok.fresh (WD _))
 ·subst e
  cases r1
  obtain⟨its,rv,p,hz⟩:=I1.tuple hq
  refine Yc (show s1.heap.IsTuple a its.toArray from p) ?_
  refine⟨s1.heap.objs.size,[s1.heap.objs.size],_,_,H1,rfl,I1.kept (t':=s1.toks) λb o e=>Wp _ e,CQ a _,⟨_,WF _ rfl,rfl,rfl⟩,λb hb=>?_,q⟩
  have e:b=s1.heap.objs.size:=by simpa using hb
  subst e
  exact I1.fpOk (WD _) (I1.hok.fresh (WD _))
noncomputable def db(m:ME):MA:=λenv S=>(m env S).bind λp=>match p.1 with | .lst xs=>U (xs,p.2) | .rol xs=>U (xs,p.2) | .tup xs=>U (xs,p.2) | _=>Y
def EX(h:DE X iter m):DI X tg iter (db m):=PI.imp (Tk h) λσ H R ⟨μ,S,env,xs,S',hS,hE,hm,post⟩=>by
 obtain⟨⟨d,S1⟩,h1,hm⟩:=KE.mp hm
 refine⟨μ,S,env,d,S1,hS,hE,h1,λv H1 μ1 e1 s1 r1=>?_⟩
 cases d with
 | lst ys=>
  cases hm
  have r1':=r1
  obtain⟨a,vs,rfl,q,_,rs⟩:=r1.sqL
  exact⟨a,rfl,.inl ⟨⟨vs,.inl (.inl q)⟩,post _ H1 μ1 e1 s1 (xu (.inl rfl) r1' rfl)⟩⟩
 | rol ys=>
  cases hm
  have r1':=r1
  obtain⟨a,vs,rfl,q,rs⟩:=r1.sqR
  exact⟨a,rfl,.inl ⟨⟨vs,q⟩,post _ H1 μ1 e1 s1 (xu (.inr rfl) r1' rfl)⟩⟩
 | tup ys=>
  cases hm
  have r1':=r1
  obtain⟨a,vs,rfl,q,rs⟩:=r1.sqT
  exact⟨a,rfl,.inr ⟨⟨vs,q⟩,post _ H1 μ1 e1 s1 (Mg r1')⟩⟩
 | _=>cases hm
end
noncomputable def aP(N:List Str)(m:MS)(n:Nat):List D->ac->Option (D×ac):=λds S=>if ds.length=n then (m (aB N ds) S).bind λo=>match o with | .rt d S'=>U (d,S') | .nx _ S'=>U (.non,S') | _=>Y else Y
def wO{N:List Str}{m:MS}{n:Nat}{ds:List D}{S S':ac}{d:D}(h:aP N m n ds S=U (d,S')):Runs m (aB N ds) S d S':=by
 unfold aP at h
 split at h
 ·obtain⟨o,h1,h⟩:=KE.mp h
  cases o with
  | rt d' S2=>cases h;exact .ret h1
  | nx e S2=>cases h;exact⟨_,[],h1,.inl rfl,.inr ⟨rfl,e,by rw [WS]⟩⟩
  | bk _ _=>cases h
  | ct _ _=>cases h
 ·cases h
structure bN(K:W.Frag)(mg:Str->Option Value)(x:Str)(st:Stmt):Prop where
 ex:∃ (a:Addr) (fd:FuncData),L2.Fun K x x st a fd/\mg x=U (.ref a)
def Ac(x:Str)(st:Stmt)(ps:List Str):Prop:=∀ (kV doc pm:Value) (an:Option Addr) (cdv ct:Value) (us:List Value),us.length=ps.length->bindArgs (W.fnOf x x (je st) (aN st) (az st) .none kV doc pm an cdv ct) ⟨us,[]⟩=pure (ps.zip us)
def Vx{P:Program}{w:World}{K:W.Frag}{mg:Str->Option Value}{base:Heap}{k:Nat}{x:Str}{st:Stmt}{N ps:List Str}{m:MS}
  (F:bN K mg x st) (Sc:aV N ps (az st)) (hb:Ac x st ps)
  (hbody:∀ (a:Addr) (cdv:Value) (A:Around) (outer:List PySem.Env) (s:Shared) (H:Hp) (E:XK),Room k (A.deeper (envOfC x (az st) s.heap.objs.size a cdv)) ->
   vH (wz GO P w K mg base N x (az st) a cdv A outer s H E).nox (aN st) m) :
  Fn P w K mg base (k+1) x ps.length (aP N m ps.length):=by
 obtain⟨a,fd,F,hmg⟩:=F.ex
 exact Sg F Sc hmg (F.binds hb) λcdv A outer s H E hr=>⟨m,hbody a cdv A outer s H E hr,λds S d S' hn hS hd h=>wO h⟩
def Fn.up{P:Program}{w:World}{K:W.Frag}{mg:Str->Option Value}{base:Heap}{k k':Nat}{x:Str}{n:Nat}{f:List D->ac->Option (D×ac)}(F:Fn P w K mg base k x n f)(h:k<=k'):Fn P w K mg base k' x n f:=by
 obtain⟨a,fd,ps,h1,h2,h3⟩:=F.ex
 exact⟨a,fd,ps,h1,h2.mono h,h3⟩
def Uj{K:W.Frag}{f:List D->ac->Option (D×ac)}(h:∀ ns:List Int,ns.length<=63->∃ S',f [.rol (ns.map .int)] []=U (.bl true,S')){H:Hp}{a:Addr}{ns:List Int}{E:XK}(hl:ns.length<=63)(hS:my K H a (ns.map V.int)) :
  Kk K 1 f [.ref a] H (λv _=>v=.bl true) E:=by
 obtain⟨S',hf⟩:=h ns hl
 have hr:∀ l:List Int,Reps K ⟨[],[]⟩ H (l.map V.int) (l.map D.int):=λl=>by
  induction l with
  | nil=>exact .nil
  | cons x l ih=>exact .cons (.int x) ih
 refine⟨⟨[],[]⟩,[],_,_,S',⟨List.nodup_nil,rfl,λr a c h=>by simp at h,λa h=>by simp at h,λa h=>by simp at h⟩,.cons ?_ .nil,rfl,hf,λv H' μ' e s r=>r.bl_inv⟩
 rcases hS with hS | hS
 ·exact .rol hS ⟨by simp,by simp⟩ (hr ns)
 ·exact .krol hS (hr ns)
noncomputable def UX(_:ac)(x:D):Option D:=match x with | .int i=>U (.int (-i)) | _=>Y
def Ol{X:Cx}:UnR X (unaryOp .USub) (rM1 X.K UX):=SG
noncomputable def bY:MT:=λ_ S=>U (true,S)
def Nn{X:Cx}:Sx X [] bY:=QB
def Uk{P:Program}{w:World}{K:W.Frag}{mg:Str->Option Value}{k:Nat}{st:Stmt}{N:List Str}{m:MS}{fa:Addr}(F:bN K mg "law" st)(hfa:mg "law" = U (.ref fa))(Sc:aV N ["_law_script"] (az st))
  (hbt:∀ (kV doc pm:Value) (an:Option Addr) (cdv ct v:Value),bindArgs (W.fnOf "law" "law" (je st) (aN st) (az st) .none kV doc pm an cdv ct) ⟨[v],[]⟩=pure [(("_law_script":Str),v)])
  (hbody:∀ (base:Heap) (a:Addr) (cdv:Value) (A:Around) (outer:List PySem.Env) (s:Shared) (H:Hp) (E:XK),Room k (A.deeper (envOfC "law" (az st) s.heap.objs.size a cdv)) ->
   vH (wz GO P w K mg base N "law" (az st) a cdv A outer s H E).nox (aN st) m) :
  ∃ fd:FuncData,(∀ (s:Shared) (v:Value),BindsTo s fd ⟨[v],[]⟩ [("_law_script",v)])/\∀ base:Heap,K.In base->base.Ns mainGlobals mg->FnOk P w K mg base GO (k+1) fa fd ["_law_script"] (Kk K 1 (aP N m 1)):=by
 obtain⟨a,fd,F,hmg⟩:=F.ex
 rw [hfa] at hmg
 have e:fa=a:=by cases hmg;rfl
 subst e
 refine⟨fd,λs v=>?_,λbase _ _=>Sf F Sc λcdv A outer s H E hr=>⟨m,hbody base fa cdv A outer s H E hr,λds S d S' hn hS hd h=>wO h⟩⟩
 obtain⟨oc,od,kV,doc,pm,an,cdv,ct,osl,rfl,lk,hcd⟩:=F.ex
 exact .of_eq (hbt kV doc pm an cdv ct v)
end M
namespace HT
open AutoSeq1 (wpAny_loadPart')
def DD:fillsNumberSlot (.type "tuple") "mul" = pure false:=
 PySem.fillsNumberSlot_seq (id:="tuple.__mul__") (r:=U (.builtin "tuple.__rmul__"))
  F.slot_tuple_mul.lookup (by decide +kernel) F.slot_tuple_rmul.lookup (by decide +kernel)
def SY:seqRepeat? (.type "tuple")=pure (U (.builtin "tuple.__mul__")):=by
 unfold seqRepeat?
 rw [PySem.seqSlot_of (T:="tuple") (name:="__mul__") (id:="tuple.__mul__") F.slot_tuple_mul.lookup (by decide +kernel)]
 rw [PySem.seqSlot_of (T:="tuple") (name:="__rmul__") (id:="tuple.__rmul__") F.slot_tuple_rmul.lookup (by decide +kernel)]
 rfl
def Kw(a:Int)(t:Tok)(l:Addr)(items:Array Value)(n:Nat)(dd:Option Addr)(sl:Array (Option Value)) :
  Meets (Builtin.«int.__rmul__» ⟨[.int a t,.ref l],[]⟩) (λ_ R s=>s.heap.get? l=U ⟨.type "tuple",dd,.seq items n,sl⟩/\R (.ok (.ret Value.notImplemented)) s):=
 .of_wp λprog w A R s h=>by
  obtain⟨hp,g,d,tk,os⟩:=s
  obtain⟨hl,h⟩:=h
  wp_walk
  exact⟨_,rfl,h⟩
def mulT0(l:Addr)(items:Array Value)(n:Nat)(k:Int)(t:Tok)(dd:Option Addr)(sl:Array (Option Value))(h1:¬ (decide (k < -(2 ^ 63))||decide (k≥2 ^ 63))=true)(hc:(items.isEmpty||k == 1)=true) :
  Meets (Builtin.«tuple.__mul__» ⟨[.ref l,.int k t],[]⟩) (λ_ R s=>s.heap.get? l=U ⟨.type "tuple",dd,.seq items n,sl⟩/\R (.ok (.ret (.ref l))) s):=
 .of_wp λprog w A R s h=>by
  obtain⟨hp,g,d,tk,os⟩:=s
  obtain⟨hl,h⟩:=h
  have f1:=ZH
  have f2:=YL
  wp_walk using wpAny_loadPart' hl
  rw [if_neg h1]
  wp_walk using wpAny_loadPart' hl
  exact⟨_,rfl,h⟩
def mulT1(l:Addr)(items:Array Value)(n:Nat)(k:Int)(t:Tok)(dd:Option Addr)(sl:Array (Option Value))(h1:¬ (decide (k < -(2 ^ 63))||decide (k≥2 ^ 63))=true)(hc:¬ (items.isEmpty||k == 1)=true)(hk:(decide (k<=0)||items.isEmpty)=true) :
  Meets (Builtin.«tuple.__mul__» ⟨[.ref l,.int k t],[]⟩) (λ_ R s=>s.heap.get? l=U ⟨.type "tuple",dd,.seq items n,sl⟩/\R (.ok (.ret (.ref s.heap.objs.size))) { s with heap:=s.heap.push { cls:=.type "tuple",data:=.seq #[] },toks:=s.toks }):=
 .of_wp λprog w A R s h=>by
  obtain⟨hp,g,d,tk,os⟩:=s
  obtain⟨hl,h⟩:=h
  have f1:=ZH
  have f2:=YL
  wp_walk using wpAny_loadPart' hl
  rw [if_neg h1]
  wp_walk using wpAny_loadPart' hl
  exact⟨_,rfl,h⟩
def mulT2(l:Addr)(items:Array Value)(n:Nat)(k:Int)(t:Tok)(dd:Option Addr)(sl:Array (Option Value))(h1:¬ (decide (k < -(2 ^ 63))||decide (k≥2 ^ 63))=true)(hc:¬ (items.isEmpty||k == 1)=true)(hk:¬ (decide (k<=0)||items.isEmpty)=true)
  (hb:¬ ((items.size:Int) * k>(2 ^ 63 - 1) / 8)) (hm:¬ Builtin.Tuple.tupleTooMany ((items.size:Int) * k)=true) (hz:(List.foldl (λx1 x2=>x1++x2) #[] (List.replicate k.toNat items)).size<=sizeLine) :
  Meets (Builtin.«tuple.__mul__» ⟨[.ref l,.int k t],[]⟩) (λ_ R s=>s.heap.get? l=U ⟨.type "tuple",dd,.seq items n,sl⟩/\R (.ok (.ret (.ref s.heap.objs.size))) { s with heap:=s.heap.push { cls:=.type "tuple",data:=.seq (List.foldl (λx1 x2=>x1++x2) #[] (List.replicate k.toNat items)) },toks:=s.toks }):=
 .of_wp λprog w A R s h=>by
  obtain⟨hp,g,d,tk,os⟩:=s
  obtain⟨hl,h⟩:=h
  have f1:=ZH
  have f2:=YL
  wp_walk using wpAny_loadPart' hl
  rw [if_neg h1]
  wp_walk using wpAny_loadPart' hl
  rw [if_neg hb]
  wp_walk using wpAny_loadPart' hl
  exact⟨_,rfl,h⟩
end HT
namespace L2
section
variable{X:Cx}
theorem vrep{xs:List V}{us:List Value}(h:Vals xs us):∀ k:Nat,Vals (List.replicate k xs).flatten (List.replicate k us).flatten
 | 0=>.nil
 | k+1=>by rw [WX,WX,Xw,Xw];exact h.append (vrep h k)
theorem frep(its:List Value):∀ (m:Nat) (acc:List Value),List.foldl (λx1 x2=>x1++x2) acc.toArray (List.replicate m its.toArray)=(acc++(List.replicate m its).flatten).toArray
 | 0,acc=>by simp
 | m+1,acc=>by
  rw [WX,ZP,List.append_toArray,frep its m (acc++its),WX,Xw,WR]
noncomputable def rRepT(K:W.Frag):R2:=λx y H Q=>∃ a k xs,x=.ref a/\y=.int k/\kQ K H a xs/\-(2 ^ 62)<=k/\k<2 ^ 62/\xs.length * k.toNat<=sizeLine /\
 ((xs=[]\/k=1)->Q (.ref a) H)/\((xs≠[]/\k≠1)->∀ p,H p=Y->Q (.ref p) (upd H p (.tup (List.replicate k.toNat xs).flatten)))
def Pf:OpR X (binaryOp .Mult) (rRepT X.K):=by
 intro pins s σ H x y v u Q I rx ry h
 obtain⟨l,k,xs,rfl,rfl,hq,h1,h2,hz,q1,q2⟩:=h
 cases rx
 obtain⟨t,rfl⟩:=ry
 obtain⟨its,r,hT,hzz⟩:=I.tuple hq
 obtain⟨⟨cls,dd,data,sl⟩,e,hc,n,hd⟩:=id hT
 simp only at hc hd
 subst hc hd
 have hlen:xs.length=its.length:=r.length
 have g1:¬ (decide (k < -(2 ^ 63))||decide (k≥2 ^ 63))=true:=by simp;omega
 have road:∀ {S:PySem.Spec},Meets (Builtin.«tuple.__mul__» ⟨[.ref l,.int k t],[]⟩) S->S X.A (wants (EP X pins σ Q) X.xe) s->wpAny (model X.prog X.w) X.A (binaryOp .Mult (.ref l) (.int k t)) (EP X pins σ Q) X.xe s:=λM hS=>
  ZT (T:="tuple") (U:="int") (by decide) ⟨_,e,rfl⟩ (λs'=>Zt s' k t) HT.DD F.fills_int_mul Zf HT.SY F.slot_int_index.lookup
   (Yp Zf (Zt s k t) F.entry_int_rmul (F.args_int_rmul_2 _ _) (HT.Kw k t l its.toArray n dd sl)
    ⟨e,rfl,⟨_,e,rfl⟩,Yp F.slot_tuple_mul ⟨_,e,rfl⟩ F.entry_tuple_mul (F.args_tuple_mul_2 _ _) M hS⟩)
 by_cases hs:xs=[]\/k=1
 ·have hcc:(its.toArray.isEmpty||k == 1)=true:=by
   rcases hs with rfl | rfl
   ·cases r;rfl
   ·simp
  exact road (HT.mulT0 l its.toArray n k t dd sl g1 hcc) ⟨e,.ref l,H,I,rfl,q1 hs⟩
 ·have hx:xs≠[]:=λz=>hs (.inl z)
  have hk1:k≠1:=λz=>hs (.inr z)
  have hi:its≠[]:=λz=>by subst z;cases r;exact hx rfl
  have hcc:¬ (its.toArray.isEmpty||k == 1)=true:=by simp [hi,hk1]
  by_cases hk:k<=0
  ·have hk':(decide (k<=0)||its.toArray.isEmpty)=true:=by simp [hk]
   have k0:k.toNat=0:=by omega
   refine road (HT.mulT1 l its.toArray n k t dd sl g1 hcc hk') ⟨e,.ref _,_,I.laid (o:=.tup []) (λ_ _ q=>Wp _ q) (WD _) ⟨by simp,[],.nil,⟨_,WF _ rfl,rfl,⟨0,rfl⟩,rfl⟩⟩,rfl,?_⟩
   have:=q2 ⟨hx,hk1⟩ s.heap.objs.size I.fresh
   rw [k0] at this
   exact this
  ·have hk':¬ (decide (k<=0)||its.toArray.isEmpty)=true:=by simp [hi];omega
   have km:(k.toNat:Int)=k:=by omega
   have hpr:((its.length:Int) * k)<=sizeLine:=by rw [<- km,<- hlen];exact_mod_cast hz
   have hsl:((sizeLine:Nat):Int)<=(2 ^ 63 - 1) / 8:=by decide
   have hf:=frep its k.toNat []
   rw [YA] at hf
   have hf':List.foldl (λx1 x2=>x1++x2) #[] (List.replicate k.toNat its.toArray)=(List.replicate k.toNat its).flatten.toArray:=hf
   have hl2:(List.replicate k.toNat its).flatten.length<=sizeLine:=by rw [zd,<- hlen,Zz];exact hz
   refine road (HT.mulT2 l its.toArray n k t dd sl g1 hcc hk' (by rw [Wt];omega) (by unfold Builtin.Tuple.tupleTooMany;rw [Wt];simp;omega) (by rw [hf',Wt];exact hl2)) ⟨e,?_⟩
   rw [hf']
   exact⟨.ref _,_,I.laid (o:=.tup (List.replicate k.toNat xs).flatten) (λ_ _ q=>Wp _ q) (WD _) ⟨by rw [zd,Zz];exact hz,(List.replicate k.toNat its).flatten,vrep r _,⟨_,WF _ rfl,rfl,⟨0,rfl⟩,rfl⟩⟩,rfl,q2 ⟨hx,hk1⟩ _ I.fresh⟩
end
section
variable{X:Cx}
def insK(n:Nat)(i:Int):Nat:=if i<0 then (i+(n:Int)).toNat else min i.toNat n
noncomputable def insL{α:Type}(xs:List α)(i:Int)(y:α):List α:=xs.take (insK xs.length i)++y::xs.drop (insK xs.length i)
end
end L2
namespace M
open L2
section
variable{X:Cx}{K:W.Frag}{μ μ':Fp}{H H':Hp}{S:ac}
noncomputable def cz(S:ac)(x y:D):Option D:=match x,y with
 | .tup xs,.int k=>if -(2 ^ 62)<=k/\k<2 ^ 62/\xs.length * k.toNat<=sizeLine then U (.tup (List.replicate k.toNat xs).flatten) else Y
 | .lst xs,.int k=>if -(2 ^ 62)<=k/\k<2 ^ 62/\xs.length * k.toNat<=sizeLine then U (.lst (List.replicate k.toNat xs).flatten) else Y
 | x,y=>UZ S x y
def flat1{α:Type}(xs:List α):(List.replicate 1 xs).flatten=xs:=by simp
def Pl:OpR X (binaryOp .Mult) (on X.K cz):=OpR.imp (OpR.or TQ (OpR.or Pf TH)) λx y H Q ⟨μ,S,dx,dy,dz,hS,h1,h2,h3,post⟩=>by
 unfold cz at h3
 split at h3
 ·rename_i xs k
  split at h3
  ·rename_i hk
   cases h3
   obtain⟨a,vs,rfl,q,r⟩:=h1.sqT
   have h1':=h1
   refine .inr (.inl ⟨a,k,vs,rfl,h2.int_inv,q,hk.1,hk.2.1,by rw [r.length];exact hk.2.2,λhs=>?_,λ_ p hp=>post.tup hS hp (Reps.flat _ r)⟩)
   have e:(List.replicate k.toNat xs).flatten=xs:=by
    rcases hs with rfl | rfl
    ·cases r;simp
    ·exact flat1 xs
   rw [e] at post
   exact post.here hS h1'
  ·cases h3
 ·rename_i xs k
  split at h3
  ·rename_i hk
   cases h3
   obtain⟨a,vs,rfl,q,n,r⟩:=h1.sqL
   exact .inr (.inr ⟨a,k,vs,rfl,h2.int_inv,q,by omega,by omega,by rw [r.length];exact hk.2.2,λp hp=>post.lst hS hp (Reps.flat _ r)⟩)
  ·cases h3
 ·exact .inl ⟨μ,S,dx,dy,dz,hS,h1,h2,h3,post⟩
abbrev MF:=D->List D->ac->Option (D×ac)
inductive Og(K:W.Frag)(f:MF)(x:V)(vs:List V)(H:Hp)(Q:VK):Prop
 | mk (μ:Fp) (S:ac) (dx:D) (ds:List D) (d:D) (S':ac) (hS:SOk K μ S H) (h1:Rep K μ H x dx) (h2:Reps K μ H vs ds) (h3:f dx ds S=U (d,S')) (post:Post K μ H S' d Q)
def MtR.imp{id:String}{r r':V->List V->Hp->VK->Prop}(h:MtR X id r)(i:∀ x xs H Q,r' x xs H Q->r x xs H Q):MtR X id r':=λpins s σ H x xs v us Q I rx rv q=>h pins s σ H x xs v us Q I rx rv (i x xs H Q q)
noncomputable def ce:MF:=λo ds S=>match o,ds with
 | .ref r,[y]=>match S[r]? with | some (.lst xs)=>if xs.length<sizeLine then U (.non,S.set r (.lst (xs++[y]))) else Y | _=>Y
 | _,_=>Y
noncomputable def fInsert:MF:=λo ds S=>match o,ds with
 | .ref r,[.int i,y]=>match S[r]? with | some (.lst xs)=>if xs.length<sizeLine/\-(2 ^ 62)<=i/\i<2 ^ 62 then U (.non,S.set r (.lst (insL xs i y))) else Y | _=>Y
 | _,_=>Y
noncomputable def vk:MF:=λo ds S=>match ds with
 | [x]=>(iU S o).bind λys=>if cP 40 x=true/\ys.all (cP 39)=true then U (.int (ys.countP λd=>jJ d x),S) else Y
 | _=>Y
def HM:MtR X "list.append" (Og X.K ce):=MtR.imp wV λx vs H Q ⟨μ,S,dx,ds,d,S',hS,r1,r2,h,post⟩=>by
 unfold ce at h
 split at h
 ·rename_i r y
  obtain⟨v,rfl,rv⟩:=r2.one
  cases q:S[r]? with
  | none=>rw [q] at h;cases h
  | some c=>
   rw [q] at h
   cases c with
   | dct _ _=>cases h
   | lst xs=>
    dsimp only at h
    split at h
    ·rename_i hz
     cases h
     cases r1 with
     | @ref a _ h'=>
      obtain⟨ws,hw,rw'⟩:=hS.cell r a _ h' q
      obtain⟨e,s'⟩:=hS.write h' hw (rw'.append (.cons rv .nil))
      exact⟨a,ws,v,rfl,rfl,hw,by rw [rw'.length];exact hz,post _ _ μ e s' .non⟩
    ·cases h
 ·cases h
theorem nA{pins:List (Addr×Obj)}{σ:L2.St}{s:Shared}(I:Inv X pins σ H s){x:D}:∀ {vs:List V} {us:List Value} {ds:List D},Vals vs us->Reps X.K μ H vs ds->(∀ d∈ds,cP 39 d=true) ->
  us.countP (fj X.K μ H x)=ds.countP λd=>jJ d x
 | _,_,_,.nil,.nil,_=>rfl
 | _,_,_,.cons rv tv,.cons r t,ok=>by
  rw [List.countP_cons,List.countP_cons,qr I rv r (ok _ Wr),nA I tv t λd m=>ok d (Wu _ m)]
noncomputable def sM(S:ac):D->Bool
 | .lst _=>true
 | .rol _=>true
 | .ref r=>match S[r]? with | some (.lst _)=>true | _=>false
 | _=>false
def pW{v:V}{d:D}(hS:SOk K μ S H)(r:Rep K μ H v d)(h:sM S d=true):∃ a vs ds,v=.ref a/\my K H a vs/\iU S d=U ds/\Reps K μ H vs ds:=by
 cases r with
 | lst h' n r=>exact⟨_,_,_,rfl,.inl (.inl h'),rfl,r⟩
 | rol h' n r=>exact⟨_,_,_,rfl,.inl h',rfl,r⟩
 | krol h' r=>exact⟨_,_,_,rfl,.inr h',rfl,r⟩
 | @ref a i h'=>
  simp only [sM] at h
  cases q:S[i]? with
  | none=>rw [q] at h;cases h
  | some c=>
   rw [q] at h
   cases c with
   | dct _ _=>cases h
   | lst xs=>
    obtain⟨vs,e,r⟩:=hS.cell i a _ h' q
    exact⟨a,vs,xs,rfl,.inl (.inl e),by simp only [iU,q],r⟩
 | _=>cases h
noncomputable def nY:MF:=λo ds S=>if sM S o=true then vk o ds S else Y
def AY(hu:X.A.units+64<cLine):MtR X "list.count" (Og X.K nY):=by
 intro pins s σ H x vs v us Q I rx rv h
 obtain⟨μ,S,dx,ds,d,S',hS,r1,r2,h,post⟩:=h
 unfold nY at h
 split at h
 ·rename_i hl
  unfold vk at h
  split at h
  ·rename_i y
   obtain⟨a,ws,es,rfl,hq,hse,re⟩:=pW hS r1 hl
   rw [hse] at h
   dsimp only [Option.bind_some] at h
   split at h
   ·rename_i hk
    cases h
    cases rx
    obtain⟨w,rfl,rw0⟩:=r2.one
    obtain⟨u,rfl,ru⟩:=rv.one
    obtain⟨its,rvs,⟨⟨cls,dd,data,sl⟩,n,e,hc,hdd,hd⟩,hz⟩:=I.list hq
    simp only at hc hdd hd
    subst hc hdd hd
    have ok:=WJ.mp hk.2
    refine Yp Zv ⟨_,e,rfl⟩ F.entry_list_count (F.args_list_count_2 _ _) (SeqAt.list_countAt a its.toArray n Y sl u (fj X.K μ H y)) ⟨e,λw' hw'=>?_,?_⟩
    ·exact gm I (by show X.A.units+1+40<cLine;omega) ru rw0 hk.1 rvs re ok w' (by simpa using hw')
    ·refine⟨.int _,H,I.tok _,⟨_,rfl⟩,?_⟩
     rw [nA I rvs re ok]
     exact post.here hS (.int _)
   ·cases h
  ·cases h
 ·cases h
noncomputable def da(f:MF)(o:ME)(ms:MA):ME:=λenv S=>(o env S).bind λp=>if sM p.2 p.1=true then (ms env p.2).bind λq=>f p.1 q.1 q.2 else Y
def GD{o e:Expr}{es:List Expr}{mo:ME}{ms:MA}{f:MF}{name:Str}{id:String}{apos cpos:Pos}(slot:Slot "list" name id)(hty:typeOf (.builtin id)=pure (.type "method_descriptor"))(hm:MtR X id (Og X.K f))(ho:DE X o mo)(ha:DA X (e::es) ms)
  (hbase:attributeBase o name X.env (eval o X.env)=eval o X.env)
  (hfew:((backTo cpos (starEach (e::es) X.env)).all (λx=>!x.1)&&(backToKw cpos (keywordEach [] X.env)).all (λx=>x.1.isSome)&&decide ((e::es).length+([]:List Keyword).length+(if ([]:List Keyword).isEmpty then 0 else 1)<30))=true)
  (hline:(apos.endLine == cpos.line)=true) (hs:starEach (e::es) X.env=(false,eval e X.env)::starEach es X.env) (hpl:(backTo cpos (starEach es X.env)).any (·.1)=false) :
  DE X (.Call (.Attribute o name apos) (e::es) [] cpos) (da f mo ms):=
 PE.imp (pe_bm F.plainAttrs_list slot hty hm ho ha hbase hfew hline hs hpl) λσ H Q ⟨μ,S,env,d,S',hS,hE,h,post⟩=>by
  obtain⟨⟨x,S1⟩,h1,h⟩:=KE.mp h
  dsimp only at h
  split at h
  ·rename_i hl
   obtain⟨⟨xs,S2⟩,h2,h⟩:=KE.mp h
   refine⟨μ,S,env,x,S1,hS,hE,h1,λv H1 μ1 e1 s1 r1=>⟨?_,μ1,S1,env,xs,S2,s1,hE.mono e1,h2,λvs H2 μ2 e2 s2 r2=>⟨μ2,S2,x,xs,d,S',s2,r1.mono e2,r2,h,(post.ext e1).ext e2⟩⟩⟩
   obtain⟨a,ws,es,rfl,hq,_,_⟩:=pW s1 r1 hl
   exact .inl ⟨rfl,ws,hq⟩
  ·cases h
end
end M
namespace HT
open AutoSeq1 (wpAny_loadPart')
section
variable{prog:Program}{w:World}{A:Around}{E:Value->Shared->Prop}{s:Shared}
def EQ{it t:Addr}{i:Nat}{items:Array Value}{x:Value}{Q:Value->Shared->Prop}(hit:s.heap.IsTupleIter it t i)(ht:s.heap.IsTuple t items)(hx:items[i]?=U x)
  (hQ:∀ h',h'.IsTupleIter it t (i+1)->Heap.SameBut it s.heap h'->Q x { s with heap:=h' }):wpAny (model prog w) A (Builtin.SmallTypes.nextOf (.ref it)) Q E s:=by
 obtain⟨o,ho,hc,hd⟩:=id hit;obtain⟨ol,hol,_,nl,hdl⟩:=ht
 unfold Builtin.SmallTypes.nextOf
 refine Wn (Xx (name:=Str.ofString "__next__") hit.typeIs Yk (XZ Yk hit.typeIs ZQ ?_ (ZJ _)))
 show wpAny _ _ (field (.ref it) 0 >>= _) _ _ s;refine Wn (Xl ho hd (x:=.ref t) rfl ?_)
 show wpAny _ _ (if (Value.ref t == Value.none)=true then _ else _) _ _ s;rw [if_neg (show ¬ ((Value.ref t == Value.none)=true) from Bool.false_ne_true)]
 show wpAny _ _ (field (.ref it) 1 >>= _) _ _ s;refine Wn (Xl ho hd (x:=.int i 0) rfl ?_)
 show wpAny _ _ (seqItems? (.ref t) >>= _) _ _ s;refine Wn (XN hol hdl ?_);simp only [Xr,hx]
 refine Wn (XR ho hd (by simp) (Wz ⟨x,rfl,Wz (hQ _ ⟨_,Xo _ ho (Obj.isFreed_of_fields (aaG hd _)),(Obj.cls_mapFields ..).trans hc,?_⟩ (XQ ..))⟩))
 rw [aaG hd];simp [rawInt]
def rj{it t:Addr}{i:Nat}{items:Array Value}{Q:Value->Shared->Prop}(hh:A.handled=Y)(hit:s.heap.IsTupleIter it t i)(ht:s.heap.IsTuple t items)(hx:items[i]?=Y)
  (hE:∀ h' e,Heap.ExtBut it s.heap h'->(∃ o,h'.get? e=U o/\o.cls=.type "StopIteration")->E (.ref e) { s with heap:=h' }):wpAny (model prog w) A (Builtin.SmallTypes.nextOf (.ref it)) Q E s:=by
 obtain⟨o,ho,hc,hd⟩:=id hit;obtain⟨ol,hol,_,nl,hdl⟩:=ht
 unfold Builtin.SmallTypes.nextOf
 refine Wn (Xx (name:=Str.ofString "__next__") hit.typeIs Yk (XZ Yk hit.typeIs ZQ ?_ (ZJ _)))
 show wpAny _ _ (field (.ref it) 0 >>= _) _ _ s;refine Wn (Xl ho hd (x:=.ref t) rfl ?_)
 show wpAny _ _ (if (Value.ref t == Value.none)=true then _ else _) _ _ s;rw [if_neg (show ¬ ((Value.ref t == Value.none)=true) from Bool.false_ne_true)]
 show wpAny _ _ (field (.ref it) 1 >>= _) _ _ s;refine Wn (Xl ho hd (x:=.int i 0) rfl ?_)
 show wpAny _ _ (seqItems? (.ref t) >>= _) _ _ s;refine Wn (XN hol hdl ?_);simp only [Xr,hx]
 refine Wn (YJ (Wn (XR ho hd (by simp) ?_)));show wpAny _ _ (newExc (.type "StopIteration") [] >>= _) _ _ _
 refine Wn ?_;simp only [newExc,newTuple];refine Wn (WY ?_ (by size_fits))
 refine Wn (m:=firstArgMember _ _) (Zj (a:=Value.none) (by first | rfl | (simp only [firstArgMember];rfl)) (WY ?_ (by size_fits)))
 simp only [raiseNew];refine Wn (wpAny_handled ?_);(first | rw [show A.in1.handled=Y from hh] | rw [hh])
 refine Wn (Wz (wpAny_throw (hE _ _ (((XQ ..).extBut.push _).push _) ⟨_,WF _ rfl,rfl⟩)))
end
def pi{prog:Program}{w:World}{A:Around}(hh:A.handled=Y)(it t:Addr)(hne:t≠it)(items:Array Value) :
  Draws prog w A it [it,t] items.size (λi v=>items[i]?=U v) (λi h=>h.IsTupleIter it t i/\h.IsTuple t items) where
 live:=λ_ _ st=>by obtain⟨o,ho,_⟩:=st.1;exact⟨o,ho⟩
 frame:=λ_ _ _ st hk=>by
  obtain⟨⟨o,ho,r⟩,⟨o2,ho2,r2⟩⟩:=st
  exact⟨⟨o,hk it (by simp) o ho,r⟩,⟨o2,hk t (by simp) o2 ho2,r2⟩⟩
 item:=λi s Q E hi st hQ=>EQ st.1 st.2 (x:=items[i]) (by simp [hi]) λh' hit' hs'=>hQ _ h' s.toks (by simp [hi]) ⟨hit',st.2.extBut hs'.extBut hne⟩ hs'
 done:=λs Q E st hE=>rj hh st.1 st.2 (by simp) hE
def IS(l:Addr)(items:Array Value)(n:Nat)(dct:Option Addr)(sl:Array (Option Value)) :
  Meets (Builtin.«enumerate.__new__» ⟨[.type "enumerate",.ref l],[]⟩) (λ_ R s=>s.heap.get? l=U ⟨.type "tuple",dct,.seq items n,sl⟩ /\
   R (.ok (.ret (.ref (s.heap.push { cls:=.type "tuple_iterator",data:=.fields #[.ref l,.int 0 0] }).objs.size)))
    {s with heap:=(s.heap.push { cls:=.type "tuple_iterator",data:=.fields #[.ref l,.int 0 0] }).push { cls:=.type "enumerate",data:=.fields #[.none,.bool false,.ref s.heap.objs.size,rawInt 0,.none,.none] } }):=
 .of_wp λprog w A R s h=>by
  obtain⟨hp,g,d,tk,os⟩:=s
  obtain⟨hl,h⟩:=h
  have hsub:=sub_enumerate
  have hL:Heap.IsTuple (Shared.heap ⟨hp,g,d,tk,os⟩) l items:=⟨_,hl,rfl,n,rfl⟩
  wp_walk using wpAny_loadPart' hl
  refine wpAny_stack_any λst=>Wz ?_
  split
  ·rename_i c _ _ _ _ _
   cases (c == Value.type "enumerate") <;> (wp_walk using wpAny_loadPart' hl,Yc hL;exact⟨_,rfl,h⟩)
  ·wp_walk using wpAny_loadPart' hl,Yc hL
   exact⟨_,rfl,h⟩
end HT
namespace HT
section
variable{prog:Program}{w:World}{A:Around}{E:Value->Shared->Prop}{s:Shared}
def Fc{l:Addr}{items:Array Value}{Q:Value->Shared->Prop}(hL:s.heap.IsTuple l items)
  (h:∀ h':Heap,IsEnum h' (s.heap.objs.size+1) s.heap.objs.size 0 .none->h'.IsTupleIter s.heap.objs.size l 0->h'.objs.size=s.heap.objs.size+2->(∀ b o,s.heap.get? b=U o->h'.get? b=U o)->Q (.ref (s.heap.objs.size+1)) { s with heap:=h' }) :
  wpAny (model prog w) A (call (.type "enumerate") [.ref l]) Q E s:=by
 obtain⟨⟨c,dct,dt,sl⟩,hl,hc,n,hd⟩:=hL
 simp only at hc hd
 subst hc hd
 refine aan F.called_enumerate (by decide) (F.typeCall_enumerate_1 _) (F.newCall_enumerate_1 _) (λobj=>F.args_object_init_2 obj _) F.entry_enumerate_new (IS l items n dct sl) ⟨hl,?_⟩
 have hz:(s.heap.push { cls:=.type "tuple_iterator",data:=.fields #[.ref l,.int 0 0] }).objs.size=s.heap.objs.size+1:=Xi ..
 show _/\_
 rw [hz]
 have he:IsEnum ((s.heap.push { cls:=.type "tuple_iterator",data:=.fields #[.ref l,.int 0 0] }).push { cls:=.type "enumerate",data:=.fields #[.none,.bool false,.ref s.heap.objs.size,rawInt 0,.none,.none] }) (s.heap.objs.size+1) s.heap.objs.size 0 .none:=by
  have q:=WF (s.heap.push { cls:=.type "tuple_iterator",data:=.fields #[.ref l,.int 0 0] }) (o:={ cls:=.type "enumerate",data:=.fields #[.none,.bool false,.ref s.heap.objs.size,rawInt 0,.none,.none] }) rfl
  rw [hz] at q
  exact q
 exact⟨⟨_,he,rfl⟩,h _ he ⟨_,Wp _ (WF _ rfl),rfl,rfl⟩ (by rw [Xi,hz]) λb o x=>Wp _ (Wp _ x)⟩
end
end HT
namespace L2
section
variable{X:Cx}{pins:List (Addr×Obj)}{σ:St}{H:Hp}{s:Shared}{h':Heap}
def Inv.turnLaid{fp:List Addr}{a:Addr}{o:HO}{t':Nat}(I:Inv X pins σ H s)(k:∀ b o,b ∉ fp->s.heap.get? b=U o->h'.get? b=U o)(hf:∀ b∈fp,rC X pins H b)(hp:s.heap.objs.size<=a)
  (new:ObjOk X.prog X.w (upd H a o) h' a o):Inv X pins σ (upd H a o) { s with heap:=h',toks:=t' }:=by
 have hn:H a=Y:=I.hok.fresh hp
 have st:∀ b u,H b=U u->upd H a o b=U u:=λb u e=>(bm (cA e hn)).trans e
 have nfp:∀ b u,H b=U u->b ∉ fp:=λb u e z=>by rw [(hf b z).1] at e;cases e
 refine I.step (g':=s.gens) (d':=s.drawn) (ch:=fp) (λb hb=>?_) (λb o _ _ hc e _=>k b o hc e) (λb o _ _ hc e _=>⟨o.slots,k b o hc e⟩) (λb u _ e n=>?_) (λb o hc e=>⟨o,k b o hc e⟩) (λb xs e=>st b _ e) (λb o u e=>st b _ e) (λb ps e=>⟨#[],by rw [st b _ e];simp⟩) (λm hm=>?_) (λb u e=>?_) I.bare
 ·obtain⟨f0,f1,f2,f3,f4,f5⟩:=hf b hb
  exact⟨f3,f1,f4,f5⟩
 ·rw [bm (WU (WQ (Wy e) hp))];exact n
 ·obtain⟨o',es,ep,ho,r⟩:=hm
  exact⟨o',es,ep,k _ o' (λz=>(hf _ z).2.1 rfl) ho,r⟩
 ·by_cases hb:b=a
  ·subst hb
   rw [bA] at e
   cases e
   exact new
  ·rw [bm hb] at e
   refine(I.hok b u e).stay (λc v hc q=>k c v ?_ q) (λ_ q=>st _ _ q) λ_ _ q=>st _ _ q
   rcases hc with z | z
   ·rw [z];exact nfp b u e
   ·exact nfp c _ z
def Inv.turnedL{fp:List Addr}{t':Nat}(I:Inv X pins σ H s)(k:∀ b o,b ∉ fp->s.heap.get? b=U o->h'.get? b=U o)(hf:∀ b∈fp,rC X pins H b):Inv X pins σ H { s with heap:=h',toks:=t' }:=by
 have nfp:∀ b u,H b=U u->b ∉ fp:=λb u e z=>by rw [(hf b z).1] at e;cases e
 refine I.step (g':=s.gens) (d':=s.drawn) (ch:=fp) (λb hb=>?_) (λb o _ _ hc e _=>k b o hc e) (λb o _ _ hc e _=>⟨o.slots,k b o hc e⟩) (λb u _ e n=>n) (λb o hc e=>⟨o,k b o hc e⟩) (λb xs e=>e) (λb o u e=>e) (λb ps e=>⟨#[],by rw [e];simp⟩) (λm hm=>?_) (λb u e=>?_) I.bare
 ·obtain⟨f0,f1,f2,f3,f4,f5⟩:=hf b hb
  exact⟨f3,f1,f4,f5⟩
 ·obtain⟨o',es,ep,ho,r⟩:=hm
  exact⟨o',es,ep,k _ o' (λz=>(hf _ z).2.1 rfl) ho,r⟩
 ·refine(I.hok b u e).stay (λc v hc q=>k c v ?_ q) (λ_ q=>q) λ_ _ q=>q
  rcases hc with z | z
  ·rw [z];exact nfp b u e
  ·exact nfp c _ z
noncomputable def Ite(K:W.Frag)(a:Addr):It:=
 ⟨λi H=>∃ xs x,kQ K H a xs/\xs[i]?=U x,λi H x H'=>∃ p v,x=.ref p/\H p=Y/\H'=upd H p (.tup [.int (i:Nat),v])/\∀ xs,kQ K H a xs->xs[i]?=U v,λi H=>∃ xs,kQ K H a xs/\xs.length<=i⟩
def Ha{P:Program}{w:World}{K:W.Frag}{es:List Expr}{k:Nat}{pos:Pos}(a e it:Addr)(hei:e≠it):CK P w K (.Tuple es k pos) (Ite K a) [e,it] e (λi h=>(∃ old,IsEnum h e it i old)/\h.IsTupleIter it a i) where
 mem:=by simp
 obj:=λi h st b hb=>by
  obtain⟨⟨old,he⟩,⟨o,ho,hc,hd⟩⟩:=st
  simp only [WM,Xp,Yv] at hb
  rcases hb with rfl | rfl
  ·exact⟨_,he,λv z=>by cases z⟩
  ·exact⟨o,ho,λv z=>by rw [hd] at z;cases z⟩
 keep:=λi h h' st kk=>by
  obtain⟨⟨old,he⟩,⟨o,ho,r⟩⟩:=st
  exact⟨⟨old,kk e (by simp) _ he⟩,⟨o,kk it (by simp) _ ho,r⟩⟩
 item:=by
  intro X hP hw hK hc i pins s σ H E I hf st hg
  subst hP hw hK
  obtain⟨xs,x,hq,hx⟩:=hg
  obtain⟨its,rv,p,hz⟩:=I.tuple hq
  have hT:s.heap.IsTuple a its.toArray:=p
  have hh:=I.ok.hd hc
  have ne1:a≠e:=λz=>by
   obtain⟨⟨old,he⟩,_⟩:=st
   obtain⟨o,ho,hcl,_⟩:=hT
   rw [z,he] at ho;cases ho;exact absurd (show Value.type "enumerate" = Value.type "tuple" from hcl) (by decide)
  have ne2:a≠it:=λz=>by
   obtain⟨_,⟨o',ho',hc',_⟩⟩:=st
   obtain⟨o,ho,hcl,_⟩:=hT
   rw [z,ho'] at ho;cases ho;rw [hc'] at hcl;exact absurd hcl (by decide)
  have W:=WalksT.enumerateD (HT.pi (prog:=X.prog) (w:=X.w) (A:=X.A.in1) hh it a ne2 its.toArray) e hei (by simp;exact⟨hei,λz=>ne1 z.symm⟩) (by simp)
  have hi:i<its.toArray.size:=by rw [Wt,<- rv.length];exact(Wo.mp hx).1
  obtain⟨⟨old,he⟩,hit⟩:=st
  have Te:s.heap.objs.size≠e:=Xz (Wy he)
  have Ti:s.heap.objs.size≠it:=by
   obtain⟨o,ho,_⟩:=hit
   exact Xz (Wy ho)
  refine wpAny_pyNext_enum_itemD (HT.pi (prog:=X.prog) (w:=X.w) (A:=X.A.in1) hh it a ne2 its.toArray) he ⟨hit,hT⟩ hi hei (by simp;exact⟨hei,λz=>ne1 z.symm⟩) λy h1 tk hy ho st1 hT1 hsz kk=>⟨_,rfl,?_⟩
  refine W.go es k pos i s.heap.objs.size _ _ _ ⟨⟨y,ho⟩,st1,Te,Ti⟩ λh2 st2 kk2=>?_
  generalize hTT:s.heap.objs.size=T at *
  obtain⟨u,hu,ru⟩:=rv.get hx
  have ey:y=u:=by
   rw [show its.toArray[i]?=its[i]? by simp,hu] at hy
   exact(WH hy).symm
  subst ey
  have apT:T ∉ [e,it]:=by simp;exact⟨Te,Ti⟩
  have kall:∀ b o,b ∉ [e,it]->s.heap.get? b=U o->h2.get? b=U o:=λb o hb q=>kk2 b o hb (kk b o (λz=>hb (by simp [z])) (λz=>hb (by simp [z])) q)
  have hT2:IsTupN h2 T #[.int i tk,y]:=⟨_,kk2 T _ apT hT1,rfl,⟨_,rfl⟩,rfl⟩
  have hTs:s.heap.objs.size<=T:=Zd hTT
  refine⟨.ref T,upd H T (.tup [.int (i:Nat),x]),I.turnLaid kall hf hTs ⟨by show 2<=sizeLine;decide,[.int i tk,y],.cons ⟨_,rfl⟩ (.cons ru .nil),hT2⟩,rfl,⟨T,x,rfl,I.hok.fresh hTs,rfl,λys hy=>by rw [I.tuple_inj hy hq];exact hx⟩,⟨st2.1,st2.2.1⟩,λb hb=>?_⟩
  have nb:b≠T:=λz=>apT (by rw [<- z];exact hb)
  rw [bm nb]
  exact(hf b hb).1
 done:=by
  intro X hP hw hK hc i pins s σ H E I hf st hg
  subst hP hw hK
  obtain⟨xs,hq,hx⟩:=hg
  obtain⟨its,rv,p,hz⟩:=I.tuple hq
  have hT:s.heap.IsTuple a its.toArray:=p
  have hh:=I.ok.hd hc
  have ne1:a≠e:=λz=>by
   obtain⟨⟨old,he⟩,_⟩:=st
   obtain⟨o,ho,hcl,_⟩:=hT
   rw [z,he] at ho;cases ho;exact absurd (show Value.type "enumerate" = Value.type "tuple" from hcl) (by decide)
  have D':Draws X.prog X.w X.A.in1 it [it,a] i (λ_ _=>True) (λj h=>j=i/\h.IsTupleIter it a i/\h.IsTuple a its.toArray):=
   {live:=λ_ _ q=>by obtain⟨_,⟨o,ho,_⟩,_⟩:=q;exact⟨o,ho⟩
    frame:=λ_ _ _ q hk=>by
     obtain⟨q0,⟨o,ho,r⟩,⟨o2,ho2,r2⟩⟩:=q
     exact⟨q0,⟨o,hk it (by simp) o ho,r⟩,⟨o2,hk a (by simp) o2 ho2,r2⟩⟩
    item:=λj _ _ _ hj q _=>absurd q.1 (WU hj)
    done:=λs Q E q hE=>HT.rj hh q.2.1 q.2.2 (by simp;have:=rv.length;omega) hE }
  have W:=WalksT.enumerateD D' e hei (by simp;exact⟨hei,λz=>ne1 z.symm⟩) (by simp)
  refine W.done s _ _ ⟨st.1,rfl,st.2,hT⟩ λh2 tk kk=>⟨rfl,I.turnedL kk hf⟩
 self:=λA i s Q E st h=>by
  obtain⟨⟨old,he⟩,_⟩:=st
  exact wpAny_pyIter_enum he h
def iEnum(K:W.Frag)(t:TA):TI:=λσ H R=>t σ H λxs H1=>∃ a,xs=[.ref a]/\(∃ ys,kQ K H1 a ys)/\R (Ite K a) H1
end
section
variable{X:Cx}
def OS{a:Expr}{ta:TA}{es:List Expr}{k:Nat}{tp p pos:Pos}(hg:Gl X "enumerate")(hm:X.mg "enumerate" = Y)(ha:PA X [a] ta)(hs:starEach [a] X.env=[(false,eval a X.env)]) :
  PI X (.Tuple es k tp) (.Call (.Name "enumerate" p) [a] [] pos) (iEnum X.K ta):=by
 intro pins s σ H R I h
 refine Call_ (kH I hg hm boot_enumerate (Xe (dh (ha pos pins s σ H _ I h) λus s1 ⟨vs,H1,I1,r1,q1⟩=>?_) hs rfl))
 obtain⟨t,rfl,⟨ys,hq⟩,q⟩:=q1
 obtain⟨u,rfl,ru⟩:=r1.one
 cases ru
 obtain⟨its,rv,pt,hz⟩:=I1.tuple hq
 refine HT.Fc pt λh' he hi hsz kk=>wpAny_pyIter_enum he ?_
 refine⟨s1.heap.objs.size+1,[s1.heap.objs.size+1,s1.heap.objs.size],_,_,H1,rfl,I1.kept (t':=s1.toks) kk,Ha t _ _ (Nat.succ_ne_self _),⟨⟨_,he⟩,hi⟩,λb hb=>?_,q⟩
 simp only [WM,Xp,Yv] at hb
 rcases hb with rfl | rfl
 ·exact I1.fpOk (aaC _) (I1.hok.fresh (aaC _))
 ·exact I1.fpOk (WD _) (I1.hok.fresh (WD _))
end
end L2
namespace M
open L2
section
variable{X:Cx}{K:W.Frag}{μ μ':Fp}{H H':Hp}{S:ac}
noncomputable def eM:Nat->List D->List D
 | _,[]=>[]
 | i,x::r=>.tup [.int (i:Nat),x]::eM (i+1) r
theorem nZ:∀ (i:Nat) (xs:List D),(eM i xs).length=xs.length
 | _,[]=>rfl
 | i,_::r=>by rw [eM,WG,WG,nZ (i+1) r]
theorem xJ:∀ (k:Nat) (xs:List D) (i:Nat) (d:D),(eM k xs)[i]?=U d->∃ x,xs[i]?=U x/\d=.tup [.int ((k+i:Nat):Int),x]
 | _,[],i,d,h=>by simp [eM] at h
 | k,x::r,0,d,h=>by simp [eM] at h;exact⟨x,rfl,h.symm⟩
 | k,x::r,i+1,d,h=>by
  rw [eM,YO] at h
  obtain⟨y,h1,h2⟩:=xJ (k+1) r i d h
  refine⟨y,by simpa using h1,?_⟩
  rw [h2,show k+1+i=k+(i+1) by omega]
def Iu{a:Addr}{xs:List D}(r:Rep K μ H (.ref a) (.tup xs)):Fq K μ H (Ite K a) (eM 0 xs):=λμ' H' S' e s i=>by
 have r':=r.monoP e
 obtain⟨b,vs,hb,hq,rs⟩:=r'.sqT
 cases hb
 refine⟨λd hd=>?_,λhl=>⟨vs,hq,by rw [rs.length];rw [nZ] at hl;exact hl⟩⟩
 obtain⟨x,hx,rfl⟩:=xJ 0 xs i d hd
 obtain⟨v,hv,rv⟩:=rs.get hx
 refine⟨⟨vs,v,hq,hv⟩,λy H2 hy=>?_⟩
 obtain⟨p,w,rfl,hp,rfl,hw⟩:=hy
 have ew:w=v:=by have:=hw vs hq;rw [hv] at this;exact(WH this).symm
 subst ew
 obtain⟨e2,s2⟩:=s.laid (o:=.tup [.int (i:Nat),w]) hp
 refine⟨e2,s2,?_⟩
 rw [Zc]
 exact .tup bA (s.notMem hp) (.cons (.int _) (.cons (rv.mono e2) .nil))
noncomputable def eS(ms:MA):MA:=λenv S=>(ms env S).bind λp=>match p.1 with | [.tup xs]=>U (eM 0 xs,p.2) | _=>Y
def QQ{a:Expr}{ms:MA}{es:List Expr}{k:Nat}{tp p pos:Pos}(hm:X.mg "enumerate" = Y)(ha:DA X [a] ms)(hg:Gl X "enumerate")(hs:starEach [a] X.env=[(false,eval a X.env)]) :
  DI X (.Tuple es k tp) (.Call (.Name "enumerate" p) [a] [] pos) (eS ms):=PI.imp (OS hg hm ha hs) λσ H R ⟨μ,S,env,xs,S',hS,hE,h,post⟩=>by
 obtain⟨⟨ds,S1⟩,h1,h⟩:=KE.mp h
 refine⟨μ,S,env,ds,S1,hS,hE,h1,λvs H1 μ1 e1 s1 r1=>?_⟩
 dsimp only at h
 split at h
 ·rename_i ys
  cases h
  obtain⟨v,rfl,rv⟩:=r1.one
  have rv':=rv
  obtain⟨b,ws,rfl,hq,rs⟩:=rv.sqT
  exact⟨b,rfl,⟨ws,hq⟩,post _ H1 μ1 e1 s1 (Iu rv')⟩
 ·cases h
end
end M
namespace HT
section
variable{prog:Program}{w:World}{A:Around}{E:Value->Shared->Prop}{s:Shared}
end
end HT
namespace L2
section
variable{X:Cx}{e st:Expr}{te:TE}{ts:TO}{pos p2:Pos}
end
end L2
namespace M
open L2
section
variable{X:Cx}{K:W.Frag}{μ:Fp}{H:Hp}{S:ac}
noncomputable def mRev(a:ME)(st:MO):ME:=λenv S=>(a env S).bind λp=>(st env p.2).bind λk=>match p.1,k.1 with
 | .tup xs,U j=>if j = -1 then U (.tup xs.reverse,k.2) else Y
 | _,_=>Y
end
end M
namespace L2
section
variable{X:Cx}
def dedN(ns:List Int):Nat:=(firstMet (λi=>ns.getD i 0) ns.length).length
end
end L2
namespace M
open L2
noncomputable def pe:List D->Option (List Int)
 | []=>U []
 | .int i::r=>(pe r).bind λns=>U (i::ns)
 | _::_=>Y
theorem rS:∀ {ds:List D} {ns:List Int},pe ds=U ns->ds=ns.map D.int
 | [],ns,h=>by cases h;rfl
 | .int i::r,ns,h=>by
  obtain⟨ms,h1,h2⟩:=KE.mp h
  cases h2
  rw [Wx,<- rS h1]
 | .non::_,ns,h=>by cases h
 | .bl _::_,ns,h=>by cases h
 | .str _::_,ns,h=>by cases h
 | .tup _::_,ns,h=>by cases h
 | .lst _::_,ns,h=>by cases h
 | .rol _::_,ns,h=>by cases h
 | .dct _ _::_,ns,h=>by cases h
 | .ref _::_,ns,h=>by cases h
theorem uS:∀ ns:List Int,pe (ns.map D.int)=U ns
 | []=>rfl
 | n::ns=>by rw [Wx,pe,uS ns];rfl
noncomputable def isort(ns:List Int):List Int:=ns.mergeSort λa b=>decide (a<=b)
section
variable{X:Cx}{K:W.Frag}{μ:Fp}{H:Hp}{S:ac}
theorem wQ:∀ {vs:List V} {ns:List Int},Reps K μ H vs (ns.map D.int)->vs=ns.map V.int
 | _,[],.nil=>rfl
 | _,n::ns,.cons h t=>by rw [h.int_inv,wQ t];rfl
noncomputable def rT(S:ac)(d:D):Option (List Int):=if sM S d=true then (iU S d).bind λds=>(pe ds).bind λns=>if ns.length<64 then U ns else Y else Y
def EA{v:V}{d:D}{ns:List Int}(hS:SOk K μ S H)(r:Rep K μ H v d)(h:rT S d=U ns):∃ a,v=.ref a/\my K H a (ns.map V.int)/\ns.length<64:=by
 unfold rT at h
 split at h
 ·rename_i hl
  obtain⟨a,vs,ds,rfl,hq,hs,rs⟩:=pW hS r hl
  rw [hs] at h
  have h:((pe ds).bind λns=>if ns.length<64 then U ns else Y)=U ns:=h
  obtain⟨ms,h1,h2⟩:=KE.mp h
  split at h2
  ·rename_i h3
   cases h2
   have:=rS h1
   subst this
   exact⟨a,rfl,by rw [<- wQ rs];exact hq,h3⟩
  ·cases h2
 ·cases h
noncomputable def fSorted(S:ac):List D->Option D
 | [d]=>(rT S d).bind λns=>U (.lst ((isort ns).map D.int))
 | _=>Y
noncomputable def fLenSet(S:ac):List D->Option D
 | [d]=>(rT S d).bind λns=>U (.int (dedN ns:Nat))
 | _=>Y
end
section
variable{X:Cx}{K:W.Frag}{μ:Fp}{H:Hp}{S:ac}
noncomputable def mz(i j:Nat)(ms:MA):MS:=λenv S=>(ms env S).bind λp=>match p.1 with | [v,w]=>U (.nx ((env.set i (U v)).set j (U w)) p.2) | _=>Y
def Vq{i j:Nat}{x y:Str}{a b:Expr}{ms:MA}{px py pt pos:Pos}{kt k2:Nat}{pt2:Pos}(hc:X.calm=true)(hN:X.N.Nodup)(hi:X.N[i]?=U x)(hj:X.N[j]?=U y)(hij:i≠j)
  (hx:X.env.scope.names.lookup x=U .local) (hy:X.env.scope.names.lookup y=U .local) (ha:DA X [a,b] ms)
  (hw:swappedStores [.Tuple [.Name x px,.Name y py] kt pt] (.Tuple [a,b] k2 pt2) X.env=pure (U [x,y])) :
  DS X (.Assign [.Tuple [.Name x px,.Name y py] kt pt] (.Tuple [a,b] k2 pt2) pos) (mz i j ms):=
 PS.imp (Tc hc hN hi hj hij hx hy ha hw rfl) λE σ H ⟨μ,S,env,o,hS,hE,h,post⟩=>by
  obtain⟨⟨ds,S1⟩,h1,h⟩:=KE.mp h
  refine⟨μ,S,env,ds,S1,hS,hE,h1,λvs H1 μ1 e1 s1 r1=>?_⟩
  dsimp only at h
  split at h
  ·rename_i v w
   cases h
   obtain⟨v',w',rfl,rv,rw'⟩:=r1.two
   exact⟨v',w',rfl,post _ H1 μ1 e1 s1 (((hE.mono e1).set rv i).set rw' j)⟩
  ·cases h
noncomputable def tZ:Expr->Bool
 | .Starred _ _=>false
 | _=>true
def Ke{x y:Str}{a b:Expr}{px py pt:Pos}{kt k2:Nat}{pt2:Pos}(hb:X.env.blockKind=.function)(hx:X.env.scope.names.lookup x=U .local)(hy:X.env.scope.names.lookup y=U .local)(hne:(x == y)=false)
  (hl:(py.line == px.line)=true) (ha:tZ a=true) (hb':tZ b=true) (hf:(foldedForSure 8 a&&foldedForSure 8 b)=false) (hcn:(constantsAlone 8 a&&constantsAlone 8 b)=false) :
  swappedStores [.Tuple [.Name x px,.Name y py] kt pt] (.Tuple [a,b] k2 pt2) X.env=pure (U [x,y]):=by
 have hkx:X.env.kindOf x=U .local:=hx
 have hky:X.env.kindOf y=U .local:=hy
 have hs:([a,b].any λe=>match e with | .Starred ..=>true | _=>false)=false:=by
  have q:∀ e:Expr,tZ e=true->(match e with | .Starred ..=>true | _=>false:Bool)=false:=λe h=>by cases e <;> first | rfl | cases h
  simp only [XE,List.any_nil,q a ha,q b hb',Bool.or_self]
 have hxy:(y == x)=false:=by
  rw [Bool.eq_false_iff] at hne ⊢
  intro z;exact hne (by rw [beq_iff_eq] at z ⊢;exact z.symm)
 have hed:([x,y]:List Str).eraseDups=[x,y]:=by simp [List.eraseDups_cons,hxy]
 have hl':py.line=px.line:=by simpa using hl
 unfold swappedStores
 simp only [WG,Yg,hb]
 simp only [XM,List.all_nil,Bool.and_true,hf,hcn]
 generalize hg:List.filterMap _ [Expr.Name x px,Expr.Name y py]=L
 have hL:L=[x,y]:=by
  rw [<- hg]
  have e0:(Option.map (λ(x:Expr)=>x.pos.line) [Expr.Name x px,Expr.Name y py].head?).getD 0=px.line:=rfl
  rw [XO,XO]
  have e1:(Expr.Name x px).pos=px:=rfl
  simp [hkx,hky,e0,e1,hl']
 subst hL
 rw [if_neg (by decide)]
 rw [if_neg (by
  intro z
  have:([a,b].any λe=>match e with | .Starred ..=>true | _=>false)=true:=z
  rw [hs] at this;cases this)]
 rw [if_neg (by rw [hed];simp),if_neg Bool.false_ne_true,if_neg Bool.false_ne_true]
end
end M
namespace L2
section
variable{X:Cx}{pins:List (Addr×Obj)}{σ:St}{H:Hp}{s:Shared}{a:Addr}{xs:List V}
def Inv.tupD(I:Inv X pins σ H s)(h:kQ X.K H a xs):∃ ob,s.heap.get? a=U ob/\ob.cls=.type "tuple"/\ob.dict=Y:=by
 rcases h with h | ⟨o,its,n,hk,hc,hdn,hs,hz,r⟩
 ·obtain⟨z,its,r,ob,e,c,d,dn⟩:=h.ok I.hok
  exact⟨ob,e,c,dn⟩
 ·exact⟨o,I.kIn a o hk,hc,hdn⟩
variable{o e:Expr}{es:List Expr}{to:TE}{t:TA}{name:Str}{apos cpos:Pos}{id:String}{r:V->List V->Hp->VK->Prop}
def tBT(K:W.Frag)(r:V->List V->Hp->VK->Prop)(to:TE)(t:TA):TE:=λσ H Q=>to σ H λx H1=>(∃ p xs,x=.ref p/\kQ K H1 p xs)/\t σ H1 λxs H2=>r x xs H2 Q
def Tw(slot:Slot "tuple" name id)(hty:typeOf (.builtin id)=pure (.type "method_descriptor"))(hm:MtR X id r)(ho:PE X o to)(ha:PA X (e::es) t)
  (hbase:attributeBase o name X.env (eval o X.env)=eval o X.env)
  (hfew:((backTo cpos (starEach (e::es) X.env)).all (λx=>!x.1)&&(backToKw cpos (keywordEach [] X.env)).all (λx=>x.1.isSome)&&decide ((e::es).length+([]:List Keyword).length+(if ([]:List Keyword).isEmpty then 0 else 1)<30))=true)
  (hline:(apos.endLine == cpos.line)=true) (hs:starEach (e::es) X.env=(false,eval e X.env)::starEach es X.env) (hplain:(backTo cpos (starEach es X.env)).any (·.1)=false) :
  PE X (.Call (.Attribute o name apos) (e::es) [] cpos) (tBT X.K r to t):=by
 intro pins s σ H Q I h
 refine YV hbase hfew hline rfl (dh (ho pins s σ H _ I h) λv s1 ⟨x,H1,I1,r1,ty,q1⟩=>?_)
 obtain⟨p,ys,rfl,hq⟩:=ty
 cases r1
 obtain⟨ob,e1,e2,e3⟩:=I1.tupD hq
 refine⟨"tuple",id,F.plainAttrs_tuple,slot,hty,⟨ob,e1,e2⟩,λa z=>by cases z;exact⟨ob,e1,e3⟩,?_⟩
 have hA:=ha cpos pins s1 σ H1 _ I1 q1
 rw [hs] at hA ⊢
 refine YX (by show (false||(backTo cpos (starEach es X.env)).any (·.1))=false;rw [hplain] <;> rfl) (Zh ?_)
 exact dh hA λus s2 ⟨vs,H2,I2,r2,q2⟩=>hm pins s2 σ H2 (V.ref p) vs _ us Q I2 (show RelV (V.ref p) (Value.ref p) from rfl) r2 q2
end
end L2
namespace M
open L2
section
variable{X:Cx}{K:W.Frag}{μ:Fp}{H:Hp}{S:ac}
noncomputable def JW:D->Bool
 | .tup _=>true
 | _=>false
noncomputable def fX:MF:=λo ds S=>if JW o=true then vk o ds S else Y
def HL(hu:X.A.units+64<cLine):MtR X "tuple.count" (Og X.K fX):=by
 intro pins s σ H x vs v us Q I rx rv h
 obtain⟨μ,S,dx,ds,d,S',hS,r1,r2,h,post⟩:=h
 unfold fX at h
 split at h
 ·rename_i hl
  cases dx with
  | tup es=>
   unfold vk at h
   split at h
   ·rename_i y
    have h:(if cP 40 y=true/\es.all (cP 39)=true then U (D.int (es.countP λd=>jJ d y),S) else Y)=U (d,S'):=h
    split at h
    ·rename_i hk
     cases h
     obtain⟨a,ws,rfl,hq,re⟩:=r1.sqT
     cases rx
     obtain⟨w,rfl,rw0⟩:=r2.one
     obtain⟨u,rfl,ru⟩:=rv.one
     obtain⟨its,rvs,pt,hz⟩:=I.tuple hq
     obtain⟨⟨cls,dd,data,sl⟩,e,hc,n,hd⟩:=id pt
     simp only at hc hd
     subst hc hd
     have ok:=WJ.mp hk.2
     refine Yp aaK ⟨_,e,rfl⟩ F.entry_tuple_count (F.args_tuple_count_2 _ _) (SeqAt.tuple_countAt a its.toArray n dd sl u (fj X.K μ H y)) ⟨e,λw' hw'=>?_,?_⟩
     ·exact gm I (by show X.A.units+1+40<cLine;omega) ru rw0 hk.1 rvs re ok w' (by simpa using hw')
     ·refine⟨.int _,H,I.tok _,⟨_,rfl⟩,?_⟩
      rw [nA I rvs re ok]
      exact post.here hS (.int _)
    ·cases h
   ·cases h
  | _=>cases hl
 ·cases h
noncomputable def jV(o:ME)(ms:MA):ME:=λenv S=>(o env S).bind λp=>if JW p.1=true then (ms env p.2).bind λq=>fX p.1 q.1 q.2 else if sM p.2 p.1=true then (ms env p.2).bind λq=>nY p.1 q.1 q.2 else Y
def VH{o e:Expr}{es:List Expr}{mo:ME}{ms:MA}{apos cpos:Pos}(hu:X.A.units+64<cLine)(ho:DE X o mo)(ha:DA X (e::es) ms)
  (hbase:attributeBase o "count" X.env (eval o X.env)=eval o X.env)
  (hfew:((backTo cpos (starEach (e::es) X.env)).all (λx=>!x.1)&&(backToKw cpos (keywordEach [] X.env)).all (λx=>x.1.isSome)&&decide ((e::es).length+([]:List Keyword).length+(if ([]:List Keyword).isEmpty then 0 else 1)<30))=true)
  (hline:(apos.endLine == cpos.line)=true) (hs:starEach (e::es) X.env=(false,eval e X.env)::starEach es X.env) (hpl:(backTo cpos (starEach es X.env)).any (·.1)=false) :
  DE X (.Call (.Attribute o "count" apos) (e::es) [] cpos) (jV mo ms):=by
 have hT:=Tw (X:=X) aaK F.type_tuple_count (HL hu) ho ha hbase hfew hline hs hpl
 have hL:=GD (X:=X) Zv F.type_list_count (AY hu) ho ha hbase hfew hline hs hpl
 intro pins s σ H Q I ⟨μ,S,env,d,S',hS,hE,h,post⟩
 obtain⟨⟨x,S1⟩,h1,h⟩:=KE.mp h
 dsimp only at h
 split at h
 ·rename_i ht
  obtain⟨⟨xs,S2⟩,h2,h⟩:=KE.mp h
  refine hT pins s σ H Q I ⟨μ,S,env,x,S1,hS,hE,h1,λv H1 μ1 e1 s1 r1=>⟨?_,μ1,S1,env,xs,S2,s1,hE.mono e1,h2,λvs H2 μ2 e2 s2 r2=>⟨μ2,S2,x,xs,d,S',s2,r1.mono e2,r2,h,(post.ext e1).ext e2⟩⟩⟩
  cases x <;> first | cases ht | skip
  obtain⟨a,ws,rfl,hq,_⟩:=r1.sqT
  exact⟨a,ws,rfl,hq⟩
 ·refine hL pins s σ H Q I ⟨μ,S,env,d,S',hS,hE,?_,post⟩
  show (mo env S).bind _=_
  rw [h1];exact h
end
end M
namespace HT
section
variable{prog:Program}{w:World}{A:Around}{E:Value->Shared->Prop}{s:Shared}
structure vB(z TI TO i1 i2:Addr)(fp1 fp2:List Addr):Prop where
 TIz:TI≠z
 TOz:TO≠z
 TITO:TI≠TO
 z1:z ∉ fp1
 z2:z ∉ fp2
 o1:TO ∉ fp1
 o2:TO ∉ fp2
 i12:i1 ∉ fp2
 i21:i2 ∉ fp1
 t1:TI≠i1
 t2:TI≠i2
 m1:i1∈fp1
 m2:i2∈fp2
def GP{z TI TO i1 i2:Addr}{fp1 fp2:List Addr}{n1 n2 k1 k2:Nat}{P1 P2:Nat->Value->Prop}{St1 St2:Nat->Heap->Prop}{a b:Value}{Q:Value->Shared->Prop}
  (Z:vB z TI TO i1 i2 fp1 fp2) (D1:Draws prog w A i1 fp1 n1 P1 St1) (D2:Draws prog w A i2 fp2 n2 P2 St2) (hz:IsZip s.heap z TI TO .none) (hTI:IsPair s.heap TI (.ref i1) (.ref i2)) (hTO:IsPair s.heap TO a b)
  (s1:St1 k1 s.heap) (s2:St2 k2 s.heap) (l1:k1<n1) (l2:k2<n2)
  (hQ:∀ x y h' tk,P1 k1 x->P2 k2 y->IsZip h' z TI TO (rawInt s.heap.objs.size)->IsPair h' TO x y->St1 (k1+1) h'->St2 (k2+1) h'->IsPair h' s.heap.objs.size x y->h'.objs.size=s.heap.objs.size+1 ->
   (∀ c o,c≠z->c≠TO->c≠i1->c≠i2->s.heap.get? c=U o->h'.get? c=U o)->Q (.ref s.heap.objs.size) { s with heap:=h',toks:=tk }) :
  wpAny (model prog w) A (Builtin.«zip.__next__» ⟨[.ref z],[]⟩) (λfin s'=>∃ v,fin=.done (.ret v)/\Q v s') E s:=by
 unfold Builtin.«zip.__next__»
 show wpAny _ _ (field (.ref z) 2 >>= _) _ _ s
 refine Wn (Xl hz rfl (x:=.bool false) rfl ?_)
 refine Wn (Xl hz rfl (x:=.ref TI) rfl ?_)
 refine Wn (XN hTI rfl ?_)
 show wpAny _ _ (Builtin.SmallTypes.ownedTupleIsFree (.ref z) >>= _) _ _ s
 refine Wn ?_
 unfold Builtin.SmallTypes.ownedTupleIsFree
 refine Wn (Xl hz rfl (x:=.none) rfl (Wz ?_))
 show wpAny _ _ (rule "zip.__next__.owned-tuple-again" >>= _) _ _ s
 refine Wn (YJ ?_)
 refine Wn (Xl hz rfl (x:=.ref TO) rfl ?_)
 refine Wn (XR hz rfl (by simp) ?_)
 refine Wn ?_
 show wpAny _ _ (forIn [((Value.ref i1,0):Value×Nat),(Value.ref i2,1)] _ _) _ _ _
 rw [XH]
 refine Wn ?_
 refine Wn (YM ?_)
 refine Wn ?_
 have ez:(s.heap.update z (Obj.mapFields λvs=>vs.setIfInBounds 0 .ellipsis)).get? z=U { cls:=.type "zip",data:=.fields #[.ellipsis,.bool false,.bool false,.ref TI,.ref TO] }:=Xo _ hz rfl
 have ne0:∀ c,c≠z->(s.heap.update z (Obj.mapFields λvs=>vs.setIfInBounds 0 .ellipsis)).get? c=s.heap.get? c:=λc hc=>Xd _ _ _ _ hc
 have sz0:(s.heap.update z (Obj.mapFields λvs=>vs.setIfInBounds 0 .ellipsis)).objs.size=s.heap.objs.size:=(XQ ..).1
 generalize (s.heap.update z (Obj.mapFields λvs=>vs.setIfInBounds 0 .ellipsis))=h0 at ez ne0 sz0 ⊢
 have zi1:z≠i1:=λe=>Z.z1 (e ▸ Z.m1)
 have zi2:z≠i2:=λe=>Z.z2 (e ▸ Z.m2)
 have oi1:TO≠i1:=λe=>Z.o1 (e ▸ Z.m1)
 have oi2:TO≠i2:=λe=>Z.o2 (e ▸ Z.m2)
 refine D1.item k1 { s with heap:=h0 } _ _ l1 (D1.frame _ _ _ s1 λc hc o ho=>(ne0 c (λe=>Z.z1 (e ▸ hc))).trans ho) λx h1 tk1 px st1 sb1=>Wz ?_
 have o1:h1.get? TO=U { cls:=.type "tuple",data:=.seq #[a,b] }:=(sb1.2 TO oi1).trans ((ne0 TO Z.TOz).trans hTO)
 show wpAny _ _ (seqItems? (Value.ref TO) >>= _) _ _ _
 refine Wn (XN o1 rfl ?_)
 refine Wn (ZK o1 rfl ?_ (by show 2<=sizeLine;decide) (by simp;decide))
 refine Wn (aax (Wz ?_))
 have eo:(h1.update TO (Obj.mapSeq λvs=>vs.setIfInBounds 0 x)).get? TO=U { cls:=.type "tuple",data:=.seq #[x,b] }:=Xo _ o1 rfl
 have ne1:∀ c,c≠TO->(h1.update TO (Obj.mapSeq λvs=>vs.setIfInBounds 0 x)).get? c=h1.get? c:=λc hc=>Xd _ _ _ _ hc
 have sz1:(h1.update TO (Obj.mapSeq λvs=>vs.setIfInBounds 0 x)).objs.size=s.heap.objs.size:=(XQ ..).1.trans (sb1.1.trans sz0)
 generalize (h1.update TO (Obj.mapSeq λvs=>vs.setIfInBounds 0 x))=h2 at eo ne1 sz1 ⊢
 show wpAny _ _ (forIn [((Value.ref i2,1):Value×Nat)] _ _) _ _ _
 rw [XH]
 refine Wn ?_
 refine Wn (YM ?_)
 refine Wn ?_
 refine D2.item k2 { s with heap:=h2,toks:=tk1 } _ _ l2 (D2.frame _ _ _ s2 λc hc o ho=>(ne1 c (λe=>Z.o2 (e ▸ hc))).trans ((sb1.2 c (λe=>Z.i12 (e ▸ hc))).trans ((ne0 c (λe=>Z.z2 (e ▸ hc))).trans ho))) λy h3 tk2 py st2 sb2=>Wz ?_
 have o2:h3.get? TO=U { cls:=.type "tuple",data:=.seq #[x,b] }:=(sb2.2 TO oi2).trans eo
 show wpAny _ _ (seqItems? (Value.ref TO) >>= _) _ _ _
 refine Wn (XN o2 rfl ?_)
 refine Wn (ZK o2 rfl ?_ (by show 2<=sizeLine;decide) (by simp;decide))
 refine Wn (aax (Wz ?_))
 have eo2:(h3.update TO (Obj.mapSeq λvs=>vs.setIfInBounds 1 y)).get? TO=U { cls:=.type "tuple",data:=.seq #[x,y] }:=Xo _ o2 rfl
 have ne2:∀ c,c≠TO->(h3.update TO (Obj.mapSeq λvs=>vs.setIfInBounds 1 y)).get? c=h3.get? c:=λc hc=>Xd _ _ _ _ hc
 have sz2:(h3.update TO (Obj.mapSeq λvs=>vs.setIfInBounds 1 y)).objs.size=s.heap.objs.size:=(XQ ..).1.trans (sb2.1.trans sz1)
 generalize (h3.update TO (Obj.mapSeq λvs=>vs.setIfInBounds 1 y))=h4 at eo2 ne2 sz2 ⊢
 show wpAny _ _ (pure _) _ _ _
 refine Wz ?_
 show wpAny _ _ (seqItems? (Value.ref TO) >>= _) _ _ _
 refine Wn (XN eo2 rfl ?_)
 show wpAny _ _ (newTuple [x,y] >>= _) _ _ _
 refine Wn ?_
 simp only [newTuple]
 refine WY ?_ (by size_fits)
 have ez4:h4.get? z=U { cls:=.type "zip",data:=.fields #[.ellipsis,.bool false,.bool false,.ref TI,.ref TO] }:=(ne2 z Z.TOz.symm).trans ((sb2.2 z zi2).trans ((ne1 z Z.TOz.symm).trans ((sb1.2 z zi1).trans ez)))
 have ez5:=Wp { cls:=.type "tuple",data:=.seq #[x,y] } ez4
 have et5:=WF h4 (o:={ cls:=.type "tuple",data:=.seq #[x,y] }) rfl
 have kk5:∀ c o,h4.get? c=U o->(h4.push { cls:=.type "tuple",data:=.seq #[x,y] }).get? c=U o:=λc o=>Wp _
 have sz5:(h4.push { cls:=.type "tuple",data:=.seq #[x,y] }).objs.size=s.heap.objs.size+1:=by rw [Xi,sz2]
 dsimp only
 show wpAny _ _ _ _ _ { s with heap:=h4.push { cls:=.type "tuple",data:=.seq #[x,y] },toks:=tk2 }
 generalize (h4.push { cls:=.type "tuple",data:=.seq #[x,y] })=h5 at ez5 et5 kk5 sz5 ⊢
 rw [sz2] at et5 ⊢
 show wpAny _ _ ((setField (.ref z) 0 (rawInt s.heap.objs.size) >>= λ_=>setField (.ref z) 1 (.bool false)) >>= _) _ _ _
 refine Wn (Wn (XR ez5 rfl (by simp) ?_))
 have ez6:(h5.update z (Obj.mapFields λvs=>vs.setIfInBounds 0 (rawInt s.heap.objs.size))).get? z=U { cls:=.type "zip",data:=.fields #[rawInt s.heap.objs.size,.bool false,.bool false,.ref TI,.ref TO] }:=Xo _ ez5 rfl
 have ne6:∀ c,c≠z->(h5.update z (Obj.mapFields λvs=>vs.setIfInBounds 0 (rawInt s.heap.objs.size))).get? c=h5.get? c:=λc hc=>Xd _ _ _ _ hc
 have sz6:(h5.update z (Obj.mapFields λvs=>vs.setIfInBounds 0 (rawInt s.heap.objs.size))).objs.size=s.heap.objs.size+1:=(XQ ..).1.trans sz5
 generalize (h5.update z (Obj.mapFields λvs=>vs.setIfInBounds 0 (rawInt s.heap.objs.size)))=h6 at ez6 ne6 sz6 ⊢
 refine XR ez6 rfl (by simp) ?_
 have ez7:(h6.update z (Obj.mapFields λvs=>vs.setIfInBounds 1 (.bool false))).get? z=U { cls:=.type "zip",data:=.fields #[rawInt s.heap.objs.size,.bool false,.bool false,.ref TI,.ref TO] }:=Xo _ ez6 rfl
 have ne7:∀ c,c≠z->(h6.update z (Obj.mapFields λvs=>vs.setIfInBounds 1 (.bool false))).get? c=h6.get? c:=λc hc=>Xd _ _ _ _ hc
 have sz7:(h6.update z (Obj.mapFields λvs=>vs.setIfInBounds 1 (.bool false))).objs.size=s.heap.objs.size+1:=(XQ ..).1.trans sz6
 generalize (h6.update z (Obj.mapFields λvs=>vs.setIfInBounds 1 (.bool false)))=h7 at ez7 ne7 sz7 ⊢
 have k57:∀ c o,c≠z->h4.get? c=U o->h7.get? c=U o:=λc o hc ho=>(ne7 c hc).trans ((ne6 c hc).trans (kk5 c o ho))
 have newz:s.heap.objs.size≠z:=Xz (Wy hz)
 refine Wz ⟨_,rfl,hQ x y h7 tk2 px py ez7 (k57 TO _ Z.TOz eo2) ?_ ?_ ((ne7 _ newz).trans ((ne6 _ newz).trans et5)) sz7 λc o c1 c2 c3 c4 ho=>k57 c o c1 ((ne2 c c2).trans ((sb2.2 c c4).trans ((ne1 c c2).trans ((sb1.2 c c3).trans ((ne0 c c1).trans ho)))))⟩
 ·exact D1.frame _ _ _ st1 λc hc o ho=>k57 c o (λe=>Z.z1 (e ▸ hc)) ((ne2 c (λe=>Z.o1 (e ▸ hc))).trans ((sb2.2 c (λe=>Z.i21 (e ▸ hc))).trans ((ne1 c (λe=>Z.o1 (e ▸ hc))).trans ho)))
 ·exact D2.frame _ _ _ st2 λc hc o ho=>k57 c o (λe=>Z.z2 (e ▸ hc)) ((ne2 c (λe=>Z.o2 (e ▸ hc))).trans ho)
def GR{z TI TO i1 i2:Addr}{fp1 fp2:List Addr}{n1:Nat}{P1:Nat->Value->Prop}{St1:Nat->Heap->Prop}{a b:Value}{Q:Fin->Shared->Prop}
  (Z:vB z TI TO i1 i2 fp1 fp2) (D1:Draws prog w A i1 fp1 n1 P1 St1) (hz:IsZip s.heap z TI TO .none) (hTI:IsPair s.heap TI (.ref i1) (.ref i2)) (hTO:IsPair s.heap TO a b)
  (s1:St1 n1 s.heap)
  (hE:∀ h' e tk,(∀ c o,c≠z->c≠TO->c≠i1->c≠i2->s.heap.get? c=U o->h'.get? c=U o)->(∃ o,h'.get? e=U o/\o.cls=.type "StopIteration")->E (.ref e) { s with heap:=h',toks:=tk }) :
  wpAny (model prog w) A (Builtin.«zip.__next__» ⟨[.ref z],[]⟩) Q E s:=by
 unfold Builtin.«zip.__next__»
 show wpAny _ _ (field (.ref z) 2 >>= _) _ _ s
 refine Wn (Xl hz rfl (x:=.bool false) rfl ?_)
 refine Wn (Xl hz rfl (x:=.ref TI) rfl ?_)
 refine Wn (XN hTI rfl ?_)
 show wpAny _ _ (Builtin.SmallTypes.ownedTupleIsFree (.ref z) >>= _) _ _ s
 refine Wn ?_
 unfold Builtin.SmallTypes.ownedTupleIsFree
 refine Wn (Xl hz rfl (x:=.none) rfl (Wz ?_))
 show wpAny _ _ (rule "zip.__next__.owned-tuple-again" >>= _) _ _ s
 refine Wn (YJ ?_)
 refine Wn (Xl hz rfl (x:=.ref TO) rfl ?_)
 refine Wn (XR hz rfl (by simp) ?_)
 refine Wn ?_
 show wpAny _ _ (forIn [((Value.ref i1,0):Value×Nat),(Value.ref i2,1)] _ _) _ _ _
 rw [XH]
 refine Wn ?_
 refine Wn (YM ?_)
 refine Wn ?_
 have ez:(s.heap.update z (Obj.mapFields λvs=>vs.setIfInBounds 0 .ellipsis)).get? z=U { cls:=.type "zip",data:=.fields #[.ellipsis,.bool false,.bool false,.ref TI,.ref TO] }:=Xo _ hz rfl
 have ne0:∀ c,c≠z->(s.heap.update z (Obj.mapFields λvs=>vs.setIfInBounds 0 .ellipsis)).get? c=s.heap.get? c:=λc hc=>Xd _ _ _ _ hc
 generalize (s.heap.update z (Obj.mapFields λvs=>vs.setIfInBounds 0 .ellipsis))=h0 at ez ne0 ⊢
 have zi1:z≠i1:=λe=>Z.z1 (e ▸ Z.m1)
 have zi2:z≠i2:=λe=>Z.z2 (e ▸ Z.m2)
 have oi1:TO≠i1:=λe=>Z.o1 (e ▸ Z.m1)
 have oi2:TO≠i2:=λe=>Z.o2 (e ▸ Z.m2)
 refine D1.done { s with heap:=h0 } _ _ (D1.frame _ _ _ s1 λc hc o ho=>(ne0 c (λe=>Z.z1 (e ▸ hc))).trans ho) λh1 e xb ⟨o,ho,hc⟩=>?_
 have z1:=xb z _ zi1 ez
 refine XR z1 rfl (by simp) (hE _ e s.toks (λc o c1 c2 c3 c4 ho=>(Xd _ _ _ _ c1).trans (xb c o c3 ((ne0 c c1).trans ho))) ?_)
 refine⟨o,(Xd _ _ _ _ λh=>?_).trans ho,hc⟩
 rw [h,z1] at ho;cases ho;exact absurd (show Value.type "zip" = Value.type "StopIteration" from hc) (by decide)
def GQ{z TI TO i1 i2:Addr}{fp1 fp2:List Addr}{n1 n2 k1:Nat}{P1 P2:Nat->Value->Prop}{St1 St2:Nat->Heap->Prop}{a b:Value}{Q:Fin->Shared->Prop}
  (Z:vB z TI TO i1 i2 fp1 fp2) (D1:Draws prog w A i1 fp1 n1 P1 St1) (D2:Draws prog w A i2 fp2 n2 P2 St2) (hz:IsZip s.heap z TI TO .none) (hTI:IsPair s.heap TI (.ref i1) (.ref i2)) (hTO:IsPair s.heap TO a b)
  (s1:St1 k1 s.heap) (l1:k1<n1) (s2:St2 n2 s.heap)
  (hE:∀ h' e tk,(∀ c o,c≠z->c≠TO->c≠i1->c≠i2->s.heap.get? c=U o->h'.get? c=U o)->(∃ o,h'.get? e=U o/\o.cls=.type "StopIteration")->E (.ref e) { s with heap:=h',toks:=tk }) :
  wpAny (model prog w) A (Builtin.«zip.__next__» ⟨[.ref z],[]⟩) Q E s:=by
 unfold Builtin.«zip.__next__»
 show wpAny _ _ (field (.ref z) 2 >>= _) _ _ s
 refine Wn (Xl hz rfl (x:=.bool false) rfl ?_)
 refine Wn (Xl hz rfl (x:=.ref TI) rfl ?_)
 refine Wn (XN hTI rfl ?_)
 show wpAny _ _ (Builtin.SmallTypes.ownedTupleIsFree (.ref z) >>= _) _ _ s
 refine Wn ?_
 unfold Builtin.SmallTypes.ownedTupleIsFree
 refine Wn (Xl hz rfl (x:=.none) rfl (Wz ?_))
 show wpAny _ _ (rule "zip.__next__.owned-tuple-again" >>= _) _ _ s
 refine Wn (YJ ?_)
 refine Wn (Xl hz rfl (x:=.ref TO) rfl ?_)
 refine Wn (XR hz rfl (by simp) ?_)
 refine Wn ?_
 show wpAny _ _ (forIn [((Value.ref i1,0):Value×Nat),(Value.ref i2,1)] _ _) _ _ _
 rw [XH]
 refine Wn ?_
 refine Wn (YM ?_)
 refine Wn ?_
 have ez:(s.heap.update z (Obj.mapFields λvs=>vs.setIfInBounds 0 .ellipsis)).get? z=U { cls:=.type "zip",data:=.fields #[.ellipsis,.bool false,.bool false,.ref TI,.ref TO] }:=Xo _ hz rfl
 have ne0:∀ c,c≠z->(s.heap.update z (Obj.mapFields λvs=>vs.setIfInBounds 0 .ellipsis)).get? c=s.heap.get? c:=λc hc=>Xd _ _ _ _ hc
 generalize (s.heap.update z (Obj.mapFields λvs=>vs.setIfInBounds 0 .ellipsis))=h0 at ez ne0 ⊢
 have zi1:z≠i1:=λe=>Z.z1 (e ▸ Z.m1)
 have zi2:z≠i2:=λe=>Z.z2 (e ▸ Z.m2)
 have oi1:TO≠i1:=λe=>Z.o1 (e ▸ Z.m1)
 have oi2:TO≠i2:=λe=>Z.o2 (e ▸ Z.m2)
 refine D1.item k1 { s with heap:=h0 } _ _ l1 (D1.frame _ _ _ s1 λc hc o ho=>(ne0 c (λe=>Z.z1 (e ▸ hc))).trans ho) λx h1 tk1 px st1 sb1=>Wz ?_
 have o1:h1.get? TO=U { cls:=.type "tuple",data:=.seq #[a,b] }:=(sb1.2 TO oi1).trans ((ne0 TO Z.TOz).trans hTO)
 show wpAny _ _ (seqItems? (Value.ref TO) >>= _) _ _ _
 refine Wn (XN o1 rfl ?_)
 refine Wn (ZK o1 rfl ?_ (by show 2<=sizeLine;decide) (by simp;decide))
 refine Wn (aax (Wz ?_))
 have ne1:∀ c,c≠TO->(h1.update TO (Obj.mapSeq λvs=>vs.setIfInBounds 0 x)).get? c=h1.get? c:=λc hc=>Xd _ _ _ _ hc
 generalize (h1.update TO (Obj.mapSeq λvs=>vs.setIfInBounds 0 x))=h2 at ne1 ⊢
 show wpAny _ _ (forIn [((Value.ref i2,1):Value×Nat)] _ _) _ _ _
 rw [XH]
 refine Wn ?_
 refine Wn (YM ?_)
 refine Wn ?_
 refine D2.done { s with heap:=h2,toks:=tk1 } _ _ (D2.frame _ _ _ s2 λc hc o ho=>(ne1 c (λe=>Z.o2 (e ▸ hc))).trans ((sb1.2 c (λe=>Z.i12 (e ▸ hc))).trans ((ne0 c (λe=>Z.z2 (e ▸ hc))).trans ho))) λh3 e xb ⟨o,ho,hc⟩=>?_
 have z1:=xb z _ zi2 ((ne1 z Z.TOz.symm).trans ((sb1.2 z zi1).trans ez))
 refine XR z1 rfl (by simp) (hE _ e tk1 (λc o c1 c2 c3 c4 ho=>(Xd _ _ _ _ c1).trans (xb c o c4 ((ne1 c c2).trans ((sb1.2 c c3).trans ((ne0 c c1).trans ho))))) ?_)
 refine⟨o,(Xd _ _ _ _ λh=>?_).trans ho,hc⟩
 rw [h,z1] at ho;cases ho;exact absurd (show Value.type "zip" = Value.type "StopIteration" from hc) (by decide)
def rH{z TI TO i1 i2:Addr}{fp1 fp2:List Addr}{n1 n2 k1 k2:Nat}{P1 P2:Nat->Value->Prop}{St1 St2:Nat->Heap->Prop}{a b:Value}{Q:Option Value->Shared->Prop}
  (Z:vB z TI TO i1 i2 fp1 fp2) (D1:Draws prog w A.in1 i1 fp1 n1 P1 St1) (D2:Draws prog w A.in1 i2 fp2 n2 P2 St2) (hz:IsZip s.heap z TI TO .none) (hTI:IsPair s.heap TI (.ref i1) (.ref i2)) (hTO:IsPair s.heap TO a b)
  (s1:St1 k1 s.heap) (s2:St2 k2 s.heap) (l1:k1<n1) (l2:k2<n2)
  (hQ:∀ x y h' tk,P1 k1 x->P2 k2 y->IsZip h' z TI TO (rawInt s.heap.objs.size)->IsPair h' TO x y->St1 (k1+1) h'->St2 (k2+1) h'->IsPair h' s.heap.objs.size x y->h'.objs.size=s.heap.objs.size+1 ->
   (∀ c o,c≠z->c≠TO->c≠i1->c≠i2->s.heap.get? c=U o->h'.get? c=U o)->Q (U (.ref s.heap.objs.size)) { s with heap:=h',toks:=tk }) :
  wpAny (model prog w) A (pyNext (.ref z)) Q E s:=by
 unfold pyNext
 refine Wn (ZZ ?_)
 refine Xx (name:=Str.ofString "__next__") (T:="zip") ?_ Yt (XZ Yt ?_ ZG (GP Z D1 D2 hz hTI hTO s1 s2 l1 l2 λx y h' tk a1 a2 a3 a4 a5 a6 a7 a8 a9=>Wz (hQ x y h' tk a1 a2 a3 a4 a5 a6 a7 a8 a9)) (Zx _)) <;> exact⟨_,hz,rfl⟩
end
end HT
namespace HT
section
variable{prog:Program}{w:World}{A:Around}{E:Value->Shared->Prop}{s:Shared}
def pC{z TI TO i1 i2:Addr}{fp1 fp2:List Addr}{n1:Nat}{P1:Nat->Value->Prop}{St1:Nat->Heap->Prop}{a b:Value}{Q:Option Value->Shared->Prop}
  (Z:vB z TI TO i1 i2 fp1 fp2) (D1:Draws prog w A.in1 i1 fp1 n1 P1 St1) (hz:IsZip s.heap z TI TO .none) (hTI:IsPair s.heap TI (.ref i1) (.ref i2)) (hTO:IsPair s.heap TO a b)
  (s1:St1 n1 s.heap) (hQ:∀ h' tk,(∀ c o,c≠z->c≠TO->c≠i1->c≠i2->s.heap.get? c=U o->h'.get? c=U o)->Q Y { s with heap:=h',toks:=tk }) :
  wpAny (model prog w) A (pyNext (.ref z)) Q E s:=by
 unfold pyNext
 refine Wn (ZZ ?_)
 refine Xx (name:=Str.ofString "__next__") (T:="zip") ⟨_,hz,rfl⟩ Yt (XZ Yt ⟨_,hz,rfl⟩ ZG (GR Z D1 hz hTI hTO s1 λh' e tk kk hc=>?_) (Zx _))
 show wpAny _ _ (isInstance (.ref e) (.type "StopIteration") >>= _) _ _ _
 exact Wn (wpAny_isInstance (T:="StopIteration") (b:=true) hc (by first | exact sub_StopIteration | rfl) (Wz (hQ h' tk kk)))
def pB{z TI TO i1 i2:Addr}{fp1 fp2:List Addr}{n1 n2 k1:Nat}{P1 P2:Nat->Value->Prop}{St1 St2:Nat->Heap->Prop}{a b:Value}{Q:Option Value->Shared->Prop}
  (Z:vB z TI TO i1 i2 fp1 fp2) (D1:Draws prog w A.in1 i1 fp1 n1 P1 St1) (D2:Draws prog w A.in1 i2 fp2 n2 P2 St2) (hz:IsZip s.heap z TI TO .none) (hTI:IsPair s.heap TI (.ref i1) (.ref i2)) (hTO:IsPair s.heap TO a b)
  (s1:St1 k1 s.heap) (l1:k1<n1) (s2:St2 n2 s.heap) (hQ:∀ h' tk,(∀ c o,c≠z->c≠TO->c≠i1->c≠i2->s.heap.get? c=U o->h'.get? c=U o)->Q Y { s with heap:=h',toks:=tk }) :
  wpAny (model prog w) A (pyNext (.ref z)) Q E s:=by
 unfold pyNext
 refine Wn (ZZ ?_)
 refine Xx (name:=Str.ofString "__next__") (T:="zip") ⟨_,hz,rfl⟩ Yt (XZ Yt ⟨_,hz,rfl⟩ ZG (GQ Z D1 D2 hz hTI hTO s1 l1 s2 λh' e tk kk hc=>?_) (Zx _))
 show wpAny _ _ (isInstance (.ref e) (.type "StopIteration") >>= _) _ _ _
 exact Wn (wpAny_isInstance (T:="StopIteration") (b:=true) hc (by first | exact sub_StopIteration | rfl) (Wz (hQ h' tk kk)))
end
def JI(l1 l2:Addr)(xs ys:Array Value) :
  Meets (Builtin.«zip.__new__» ⟨[.type "zip",.ref l1,.ref l2],[]⟩) (λ_ R s=>s.heap.IsTuple l1 xs/\s.heap.IsTuple l2 ys /\
   ∀ h',IsZip h' (s.heap.objs.size+4) (s.heap.objs.size+2) (s.heap.objs.size+3) .none->IsPair h' (s.heap.objs.size+2) (.ref s.heap.objs.size) (.ref (s.heap.objs.size+1))->IsPair h' (s.heap.objs.size+3) .none .none ->
    h'.IsTupleIter s.heap.objs.size l1 0->h'.IsTupleIter (s.heap.objs.size+1) l2 0->h'.objs.size=s.heap.objs.size+5->(∀ c o,s.heap.get? c=U o->h'.get? c=U o)->R (.ok (.ret (.ref (s.heap.objs.size+4)))) { s with heap:=h' }):=
 .of_wp λprog w A R s h=>by
  obtain⟨hl,hl2,h⟩:=h
  unfold Builtin.«zip.__new__»
  refine Wn ?_
  show wpAny _ _ (isType (.type "zip") >>= _) _ _ _
  refine Wn (Zj (a:=true) (by first | rfl | simp [isType]) ?_)
  show wpAny _ _ (isSubtype (.type "zip") (.type "zip") >>= _) _ _ _
  refine Wn (Zj sub_zip (Wz ?_))
  show wpAny _ _ (Builtin.SmallTypes.iterAll [.ref l1,.ref l2] >>= _) _ _ _
  refine Wn ?_
  unfold Builtin.SmallTypes.iterAll
  refine Wn ?_
  rw [XH]
  refine Wn (Wn (XJ (Yc hl (Wz ?_))))
  have g1:=WF s.heap (o:={ cls:=.type "tuple_iterator",data:=.fields #[.ref l1,.int 0 0] }) rfl
  have k1:∀ c o,s.heap.get? c=U o->(s.heap.push { cls:=.type "tuple_iterator",data:=.fields #[.ref l1,.int 0 0] }).get? c=U o:=λc o=>Wp _
  have z1:(s.heap.push { cls:=.type "tuple_iterator",data:=.fields #[.ref l1,.int 0 0] }).objs.size=s.heap.objs.size+1:=Xi ..
  generalize s.heap.push { cls:=.type "tuple_iterator",data:=.fields #[.ref l1,.int 0 0] } = h1 at g1 k1 z1 ⊢
  have hl2':h1.IsTuple l2 ys:=by obtain⟨o,ho,r⟩:=hl2;exact⟨o,k1 _ _ ho,r⟩
  show wpAny _ _ (forIn [Value.ref l2] _ _) _ _ _
  rw [XH]
  refine Wn (Wn (XJ (Yc hl2' (Wz ?_))))
  dsimp only
  have g2:=WF h1 (o:={ cls:=.type "tuple_iterator",data:=.fields #[.ref l2,.int 0 0] }) rfl
  have k2:∀ c o,h1.get? c=U o->(h1.push { cls:=.type "tuple_iterator",data:=.fields #[.ref l2,.int 0 0] }).get? c=U o:=λc o=>Wp _
  have z2:(h1.push { cls:=.type "tuple_iterator",data:=.fields #[.ref l2,.int 0 0] }).objs.size=s.heap.objs.size+2:=by rw [Xi,z1]
  generalize h1.push { cls:=.type "tuple_iterator",data:=.fields #[.ref l2,.int 0 0] } = h2 at g2 k2 z2 ⊢
  rw [z1] at g2 ⊢
  show wpAny _ _ (pure _) _ _ _
  refine Wz (Wz ?_)
  show wpAny _ _ (newTuple [.ref s.heap.objs.size,.ref (s.heap.objs.size+1)] >>= _) _ _ _
  refine Wn ?_
  simp only [newTuple]
  refine WY ?_ (by size_fits)
  have g3:=WF h2 (o:={ cls:=.type "tuple",data:=.seq #[.ref s.heap.objs.size,.ref (s.heap.objs.size+1)] }) rfl
  have k3:∀ c o,h2.get? c=U o->(h2.push { cls:=.type "tuple",data:=.seq #[.ref s.heap.objs.size,.ref (s.heap.objs.size+1)] }).get? c=U o:=λc o=>Wp _
  have z3:(h2.push { cls:=.type "tuple",data:=.seq #[.ref s.heap.objs.size,.ref (s.heap.objs.size+1)] }).objs.size=s.heap.objs.size+3:=by rw [Xi,z2]
  dsimp only
  show wpAny _ _ _ _ _ { s with heap:=h2.push { cls:=.type "tuple",data:=.seq #[.ref s.heap.objs.size,.ref (s.heap.objs.size+1)] } }
  generalize h2.push { cls:=.type "tuple",data:=.seq #[.ref s.heap.objs.size,.ref (s.heap.objs.size+1)] } = h3 at g3 k3 z3 ⊢
  rw [z2] at g3 ⊢
  refine Wn ?_
  show wpAny _ _ (newObj (.type "tuple") (.seq #[.none,.none])) _ _ _
  refine WY ?_ (by size_fits)
  have g4:=WF h3 (o:={ cls:=.type "tuple",data:=.seq #[.none,.none] }) rfl
  have k4:∀ c o,h3.get? c=U o->(h3.push { cls:=.type "tuple",data:=.seq #[.none,.none] }).get? c=U o:=λc o=>Wp _
  have z4:(h3.push { cls:=.type "tuple",data:=.seq #[.none,.none] }).objs.size=s.heap.objs.size+4:=by rw [Xi,z3]
  dsimp only
  generalize h3.push { cls:=.type "tuple",data:=.seq #[.none,.none] } = h4 at g4 k4 z4 ⊢
  rw [z3] at g4 ⊢
  refine Wn ?_
  show wpAny _ _ (newObj (.type "zip") (.fields #[.none,.bool false,.bool false,.ref (s.heap.objs.size+2),.ref (s.heap.objs.size+3)])) _ _ _
  refine WY ?_ (by size_fits)
  have g5:=WF h4 (o:={ cls:=.type "zip",data:=.fields #[.none,.bool false,.bool false,.ref (s.heap.objs.size+2),.ref (s.heap.objs.size+3)] }) rfl
  have k5:∀ c o,h4.get? c=U o->(h4.push { cls:=.type "zip",data:=.fields #[.none,.bool false,.bool false,.ref (s.heap.objs.size+2),.ref (s.heap.objs.size+3)] }).get? c=U o:=λc o=>Wp _
  have z5:(h4.push { cls:=.type "zip",data:=.fields #[.none,.bool false,.bool false,.ref (s.heap.objs.size+2),.ref (s.heap.objs.size+3)] }).objs.size=s.heap.objs.size+5:=by rw [Xi,z4]
  dsimp only
  generalize h4.push { cls:=.type "zip",data:=.fields #[.none,.bool false,.bool false,.ref (s.heap.objs.size+2),.ref (s.heap.objs.size+3)] } = h5 at g5 k5 z5 ⊢
  rw [z4] at g5 ⊢
  refine Wz ⟨_,rfl,h h5 g5 (k5 _ _ (k4 _ _ g3)) (k5 _ _ g4) ⟨_,k5 _ _ (k4 _ _ (k3 _ _ (k2 _ _ g1))),rfl,rfl⟩ ⟨_,k5 _ _ (k4 _ _ (k3 _ _ g2)),rfl,rfl⟩ z5 λc o e=>k5 _ _ (k4 _ _ (k3 _ _ (k2 _ _ (k1 _ _ e))))⟩
section
variable{prog:Program}{w:World}{A:Around}{E:Value->Shared->Prop}{s:Shared}
def Jn{l1 l2:Addr}{xs ys:Array Value}{Q:Value->Shared->Prop}(hL:s.heap.IsTuple l1 xs)(hL2:s.heap.IsTuple l2 ys)
  (h:∀ h':Heap,IsZip h' (s.heap.objs.size+4) (s.heap.objs.size+2) (s.heap.objs.size+3) .none->IsPair h' (s.heap.objs.size+2) (.ref s.heap.objs.size) (.ref (s.heap.objs.size+1))->IsPair h' (s.heap.objs.size+3) .none .none ->
    h'.IsTupleIter s.heap.objs.size l1 0->h'.IsTupleIter (s.heap.objs.size+1) l2 0->h'.objs.size=s.heap.objs.size+5->(∀ c o,s.heap.get? c=U o->h'.get? c=U o)->Q (.ref (s.heap.objs.size+4)) { s with heap:=h' }) :
  wpAny (model prog w) A (call (.type "zip") [.ref l1,.ref l2]) Q E s:=by
 refine aan F.called_zip (by decide) (F.typeCall_zip_2 _ _) (F.newCall_zip_2 _ _) (λobj=>aau obj _ _) F.entry_zip_new (JI l1 l2 xs ys) ⟨hL,hL2,λh' a b c d e f g=>?_⟩
 exact⟨⟨_,a,rfl⟩,h h' a b c d e f g⟩
end
end HT
namespace L2
section
noncomputable def Itz(K:W.Frag)(a b:Addr):It:=
 ⟨λi H=>∃ xs ys x y,kQ K H a xs/\kQ K H b ys/\xs[i]?=U x/\ys[i]?=U y,
 λi H x H'=>∃ p v u,x=.ref p/\H p=Y/\H'=upd H p (.tup [v,u])/\(∀ xs,kQ K H a xs->xs[i]?=U v)/\∀ ys,kQ K H b ys->ys[i]?=U u,
 λi H=>∃ xs ys,kQ K H a xs/\kQ K H b ys/\(xs.length<=i\/ys.length<=i)⟩
def TnZ(z TI TO i1 i2 a b:Addr)(i:Nat)(h:Heap):Prop:=IsZip h z TI TO .none/\IsPair h TI (.ref i1) (.ref i2)/\(∃ u v,IsPair h TO u v)/\h.IsTupleIter i1 a i/\h.IsTupleIter i2 b i
def vn{prog:Program}{w:World}{A:Around}(hh:A.handled=Y)(it a:Addr)(items:Array Value)(i:Nat)(hx:items[i]?=Y) :
  Draws prog w A it [it,a] i (λ_ _=>True) (λj h=>j=i/\h.IsTupleIter it a i/\h.IsTuple a items):=
 {live:=λ_ _ q=>by obtain⟨_,⟨o,ho,_⟩,_⟩:=q;exact⟨o,ho⟩
  frame:=λ_ _ _ q hk=>by
   obtain⟨q0,⟨o,ho,r⟩,⟨o2,ho2,r2⟩⟩:=q
   exact⟨q0,⟨o,hk it (by simp) o ho,r⟩,⟨o2,hk a (by simp) o2 ho2,r2⟩⟩
  item:=λj _ _ _ hj q _=>absurd q.1 (WU hj)
  done:=λs Q E q hE=>HT.rj hh q.2.1 q.2.2 hx hE }
def JV{P:Program}{w:World}{K:W.Frag}{es:List Expr}{k:Nat}{pos:Pos}(a b z TI TO i1 i2:Addr)(Z:HT.vB z TI TO i1 i2 [i1,a] [i2,b]):CK P w K (.Tuple es k pos) (Itz K a b) [z,TI,TO,i1,i2] z (TnZ z TI TO i1 i2 a b) where
 mem:=by simp
 obj:=λi h st c hc=>by
  obtain⟨hz,hTI,⟨u,v,hTO⟩,⟨o,ho,hc1,hd⟩,⟨o2,ho2,hc2,hd2⟩⟩:=st
  simp only [WM,Xp,Yv] at hc
  rcases hc with rfl | rfl | rfl | rfl | rfl
  ·exact⟨_,hz,λv z=>by cases z⟩
  ·exact⟨_,hTI,λv z=>by cases z⟩
  ·exact⟨_,hTO,λv z=>by cases z⟩
  ·exact⟨o,ho,λv z=>by rw [hd] at z;cases z⟩
  ·exact⟨o2,ho2,λv z=>by rw [hd2] at z;cases z⟩
 keep:=λi h h' st kk=>by
  obtain⟨hz,hTI,⟨u,v,hTO⟩,⟨o,ho,r⟩,⟨o2,ho2,r2⟩⟩:=st
  exact⟨kk z (by simp) _ hz,kk TI (by simp) _ hTI,⟨u,v,kk TO (by simp) _ hTO⟩,⟨o,kk i1 (by simp) _ ho,r⟩,⟨o2,kk i2 (by simp) _ ho2,r2⟩⟩
 item:=by
  intro X hP hw hK hc i pins s σ H E I hf st hg
  subst hP hw hK
  obtain⟨xs,ys,x,y,hq,hq2,hx,hy⟩:=hg
  obtain⟨its,rv,p,hz0⟩:=I.tuple hq
  obtain⟨its2,rv2,p2,hz2⟩:=I.tuple hq2
  have hT:s.heap.IsTuple a its.toArray:=p
  have hT2:s.heap.IsTuple b its2.toArray:=p2
  have hh:=I.ok.hd hc
  obtain⟨hz,hTI,⟨u0,v0,hTO⟩,hit1,hit2⟩:=st
  have li:i<its.toArray.size:=by rw [Wt,<- rv.length];exact(Wo.mp hx).1
  have li2:i<its2.toArray.size:=by rw [Wt,<- rv2.length];exact(Wo.mp hy).1
  have nea:a≠i1:=λe=>by
   obtain⟨o',ho',hc',_⟩:=hit1
   obtain⟨o,ho,hcl,_⟩:=hT
   rw [e,ho'] at ho;cases ho;rw [hc'] at hcl;exact absurd hcl (by decide)
  have neb:b≠i2:=λe=>by
   obtain⟨o',ho',hc',_⟩:=hit2
   obtain⟨o,ho,hcl,_⟩:=hT2
   rw [e,ho'] at ho;cases ho;rw [hc'] at hcl;exact absurd hcl (by decide)
  have Tn:∀ c,c∈[z,TI,TO,i1,i2]->s.heap.objs.size≠c:=λc hc=>by
   simp only [WM,Xp,Yv] at hc
   rcases hc with rfl | rfl | rfl | rfl | rfl
   ·exact Xz (Wy hz)
   ·exact Xz (Wy hTI)
   ·exact Xz (Wy hTO)
   ·obtain⟨o,ho,_⟩:=hit1;exact Xz (Wy ho)
   ·obtain⟨o,ho,_⟩:=hit2;exact Xz (Wy ho)
  refine HT.rH Z (HT.pi (prog:=X.prog) (w:=X.w) (A:=X.A.in1) hh i1 a nea its.toArray) (HT.pi (prog:=X.prog) (w:=X.w) (A:=X.A.in1) hh i2 b neb its2.toArray) hz hTI hTO ⟨hit1,hT⟩ ⟨hit2,hT2⟩ li li2 λx' y' h1 tk hx' hy' ez eo st1 st2 hT1 hsz kk=>⟨_,rfl,?_⟩
  refine ZS ez λh2 ez2 sb=>?_
  generalize hTT:s.heap.objs.size=T at *
  obtain⟨u,hu,ru⟩:=rv.get hx
  obtain⟨u2,hu2,ru2⟩:=rv2.get hy
  have ex:x'=u:=by
   rw [show its.toArray[i]?=its[i]? by simp,hu] at hx'
   exact(WH hx').symm
  have ey:y'=u2:=by
   rw [show its2.toArray[i]?=its2[i]? by simp,hu2] at hy'
   exact(WH hy').symm
  subst ex ey
  have kall:∀ c o,c ∉ [z,TI,TO,i1,i2]->s.heap.get? c=U o->h2.get? c=U o:=λc o hb q=>by
   simp only [WM,Xp,Yv,aaE] at hb
   exact(sb.2 c hb.1).trans (kk c o hb.1 hb.2.2.1 hb.2.2.2.1 hb.2.2.2.2 q)
  have hTp:IsTupN h2 T #[x',y']:=⟨_,(sb.2 T (Tn z (by simp))).trans hT1,rfl,⟨_,rfl⟩,rfl⟩
  have hTs:s.heap.objs.size<=T:=Zd hTT
  have TIi:TI≠i1/\TI≠i2:=⟨Z.t1,Z.t2⟩
  refine⟨.ref T,upd H T (.tup [x,y]),I.turnLaid kall hf hTs ⟨by show 2<=sizeLine;decide,[x',y'],.cons ru (.cons ru2 .nil),hTp⟩,rfl,⟨T,x,y,rfl,I.hok.fresh hTs,rfl,λzs hz=>by rw [I.tuple_inj hz hq];exact hx,λzs hz=>by rw [I.tuple_inj hz hq2];exact hy⟩,⟨ez2,(sb.2 TI Z.TIz).trans (kk TI _ Z.TIz Z.TITO Z.t1 Z.t2 hTI),⟨x',y',(sb.2 TO Z.TOz).trans eo⟩,?_,?_⟩,λc hc=>?_⟩
  ·obtain⟨⟨o,ho,r⟩,_⟩:=st1
   exact⟨o,(sb.2 i1 (λe=>Z.z1 (by simp [e]))).trans ho,r⟩
  ·obtain⟨⟨o,ho,r⟩,_⟩:=st2
   exact⟨o,(sb.2 i2 (λe=>Z.z2 (by simp [e]))).trans ho,r⟩
  ·rw [bm (Tn c hc).symm]
   exact(hf c hc).1
 done:=by
  intro X hP hw hK hc i pins s σ H E I hf st hg
  subst hP hw hK
  obtain⟨xs,ys,hq,hq2,hl⟩:=hg
  obtain⟨its,rv,p,hz0⟩:=I.tuple hq
  obtain⟨its2,rv2,p2,hz2⟩:=I.tuple hq2
  have hT:s.heap.IsTuple a its.toArray:=p
  have hT2:s.heap.IsTuple b its2.toArray:=p2
  have hh:=I.ok.hd hc
  obtain⟨hz,hTI,⟨u0,v0,hTO⟩,hit1,hit2⟩:=st
  have fin:∀ h' tk,(∀ c o,c≠z->c≠TO->c≠i1->c≠i2->s.heap.get? c=U o->h'.get? c=U o)->(Y:Option Value)=Y/\Inv X pins σ H { s with heap:=h',toks:=tk }:=λh' tk kk=>⟨rfl,I.turnedL (fp:=[z,TI,TO,i1,i2]) (λc o hb q=>by
   simp only [WM,Xp,Yv,aaE] at hb
   exact kk c o hb.1 hb.2.2.1 hb.2.2.2.1 hb.2.2.2.2 q) hf⟩
  by_cases h1:xs.length<=i
  ·exact HT.pC Z (vn (prog:=X.prog) (w:=X.w) (A:=X.A.in1) hh i1 a its.toArray i (by simp;have:=rv.length;omega)) hz hTI hTO ⟨rfl,hit1,hT⟩ fin
  ·have h2:ys.length<=i:=hl.resolve_left h1
   have nea:a≠i1:=λe=>by
    obtain⟨o',ho',hc',_⟩:=hit1
    obtain⟨o,ho,hcl,_⟩:=hT
    rw [e,ho'] at ho;cases ho;rw [hc'] at hcl;exact absurd hcl (by decide)
   exact HT.pB Z (HT.pi (prog:=X.prog) (w:=X.w) (A:=X.A.in1) hh i1 a nea its.toArray) (vn (prog:=X.prog) (w:=X.w) (A:=X.A.in1) hh i2 b its2.toArray i (by simp;have:=rv2.length;omega)) hz hTI hTO ⟨hit1,hT⟩ (by simp;have:=rv.length;omega) ⟨rfl,hit2,hT2⟩ fin
 self:=λA i s Q E st h=>YT st.1 h
def iZip(K:W.Frag)(t:TA):TI:=λσ H R=>t σ H λxs H1=>∃ a b,xs=[.ref a,.ref b]/\(∃ ys,kQ K H1 a ys)/\(∃ ys,kQ K H1 b ys)/\R (Itz K a b) H1
variable{X:Cx}
def Af{n t t2:Nat}(h1:t<n)(h2:t2<n):HT.vB (n+4) (n+2) (n+3) n (n+1) [n,t] [n+1,t2]:=by
 constructor <;> simp only [WM,Xp,Yv,aaE,ne_eq,true_or] <;> (try (show ¬ ((_:Nat)=_))) <;> (try omega)
 all_goals (refine⟨?_,?_⟩ <;> (show ¬ ((_:Nat)=_)) <;> omega)
def Fs{n b:Nat}(h:b∈[n+4,n+2,n+3,n,n+1]):n<=b:=by
 simp only [WM,Xp,Yv] at h
 omega
def Tj{a b:Expr}{ta:TA}{es:List Expr}{k:Nat}{tp p pos:Pos}(hg:Gl X "zip")(hm:X.mg "zip" = Y)(ha:PA X [a,b] ta)(hs:starEach [a,b] X.env=[(false,eval a X.env),(false,eval b X.env)])(hs2:starEach [b] X.env=[(false,eval b X.env)]) :
  PI X (.Tuple es k tp) (.Call (.Name "zip" p) [a,b] [] pos) (iZip X.K ta):=by
 intro pins s σ H R I h
 refine Call_ (kH I hg hm boot_zip (Xe (dh (ha pos pins s σ H _ I h) λus s1 ⟨vs,H1,I1,r1,q1⟩=>?_) (by rw [hs,hs2]) (by rw [hs2];rfl)))
 obtain⟨t,t2,rfl,⟨ys,hq⟩,⟨ys2,hq2⟩,q⟩:=q1
 obtain⟨u,v,rfl,ru,rv⟩:=r1.two
 cases ru
 cases rv
 obtain⟨its,rv,pt,hz⟩:=I1.tuple hq
 obtain⟨its2,rv2,pt2,hz2⟩:=I1.tuple hq2
 have l1:t<s1.heap.objs.size:=by obtain⟨o,ho,_⟩:=pt;exact Wy ho
 have l2:t2<s1.heap.objs.size:=by obtain⟨o,ho,_⟩:=pt2;exact Wy ho
 refine HT.Jn pt pt2 λh' hz hTI hTO hi1 hi2 hsz kk=>YT hz ?_
 have Z:HT.vB (s1.heap.objs.size+4) (s1.heap.objs.size+2) (s1.heap.objs.size+3) s1.heap.objs.size (s1.heap.objs.size+1) [s1.heap.objs.size,t] [s1.heap.objs.size+1,t2]:=Af l1 l2
 refine⟨s1.heap.objs.size+4,[s1.heap.objs.size+4,s1.heap.objs.size+2,s1.heap.objs.size+3,s1.heap.objs.size,s1.heap.objs.size+1],_,_,H1,rfl,I1.kept (t':=s1.toks) kk,JV t t2 _ _ _ _ _ Z,⟨hz,hTI,⟨_,_,hTO⟩,hi1,hi2⟩,λb hb=>?_,q⟩
 have hb':s1.heap.objs.size<=b:=Fs hb
 exact I1.fpOk hb' (I1.hok.fresh hb')
end
end L2
namespace M
open L2
section
variable{X:Cx}{K:W.Frag}{μ μ':Fp}{H H':Hp}{S:ac}
noncomputable def kz:List D->List D->List D
 | x::r,y::q=>.tup [x,y]::kz r q
 | _,_=>[]
theorem Ag:∀ (xs ys:List D) (i:Nat),(kz xs ys).length<=i->xs.length<=i\/ys.length<=i
 | [],_,i,_=>.inl (Yz _)
 | _::_,[],i,_=>.inr (Yz _)
 | x::r,y::q,0,h=>by simp [kz] at h
 | x::r,y::q,i+1,h=>by
  rw [kz,WG] at h
  rcases Ag r q i (by omega) with h | h
  ·exact .inl (by rw [WG];omega)
  ·exact .inr (by rw [WG];omega)
theorem Ah:∀ (xs ys:List D) (i:Nat) (d:D),(kz xs ys)[i]?=U d->∃ x y,xs[i]?=U x/\ys[i]?=U y/\d=.tup [x,y]
 | [],_,i,d,h=>by simp [kz] at h
 | _::_,[],i,d,h=>by simp [kz] at h
 | x::r,y::q,0,d,h=>by simp [kz] at h;exact⟨x,y,rfl,rfl,h.symm⟩
 | x::r,y::q,i+1,d,h=>by
  rw [kz,YO] at h
  simpa using Ah r q i d h
def Mf{a b:Addr}{xs ys:List D}(r:Rep K μ H (.ref a) (.tup xs))(q:Rep K μ H (.ref b) (.tup ys)):Fq K μ H (Itz K a b) (kz xs ys):=λμ' H' S' e s i=>by
 have r':=r.monoP e
 have q':=q.monoP e
 obtain⟨b1,vs,hb,hq,rs⟩:=r'.sqT
 cases hb
 obtain⟨b2,ws,hb,hq2,qs⟩:=q'.sqT
 cases hb
 refine⟨λd hd=>?_,λhl=>⟨vs,ws,hq,hq2,by rw [rs.length,qs.length];exact Ag _ _ _ hl⟩⟩
 obtain⟨x,y,hx,hy,rfl⟩:=Ah xs ys i d hd
 obtain⟨v,hv,rv⟩:=rs.get hx
 obtain⟨u,hu,ru⟩:=qs.get hy
 refine⟨⟨vs,ws,v,u,hq,hq2,hv,hu⟩,λy H2 hy=>?_⟩
 obtain⟨p,v',u',rfl,hp,rfl,hw,hw2⟩:=hy
 have ev:v'=v:=by have:=hw vs hq;rw [hv] at this;exact(WH this).symm
 have eu:u'=u:=by have:=hw2 ws hq2;rw [hu] at this;exact(WH this).symm
 subst ev eu
 obtain⟨e2,s2⟩:=s.laid (o:=.tup [v',u']) hp
 refine⟨e2,s2,?_⟩
 exact .tup bA (s.notMem hp) (.cons (rv.mono e2) (.cons (ru.mono e2) .nil))
noncomputable def mQ(ms:MA):MA:=λenv S=>(ms env S).bind λp=>match p.1 with | [.tup xs,.tup ys]=>U (kz xs ys,p.2) | _=>Y
def Vu{a b:Expr}{ms:MA}{es:List Expr}{k:Nat}{tp p pos:Pos}(hm:X.mg "zip" = Y)(ha:DA X [a,b] ms)(hg:Gl X "zip")(hs:starEach [a,b] X.env=[(false,eval a X.env),(false,eval b X.env)])(hs2:starEach [b] X.env=[(false,eval b X.env)]) :
  DI X (.Tuple es k tp) (.Call (.Name "zip" p) [a,b] [] pos) (mQ ms):=PI.imp (Tj hg hm ha hs hs2) λσ H R ⟨μ,S,env,xs,S',hS,hE,h,post⟩=>by
 obtain⟨⟨ds,S1⟩,h1,h⟩:=KE.mp h
 refine⟨μ,S,env,ds,S1,hS,hE,h1,λvs H1 μ1 e1 s1 r1=>?_⟩
 dsimp only at h
 split at h
 ·rename_i xs ys
  cases h
  obtain⟨v,u,rfl,rv,ru⟩:=r1.two
  have rv':=rv
  have ru':=ru
  obtain⟨b,ws,rfl,hq,rs⟩:=rv.sqT
  obtain⟨b2,ws2,rfl,hq2,rs2⟩:=ru.sqT
  exact⟨b,b2,rfl,⟨ws,hq⟩,⟨ws2,hq2⟩,post _ H1 μ1 e1 s1 (Mf rv' ru')⟩
 ·cases h
end
section
variable{X:Cx}{K:W.Frag}{μ μ':Fp}{H H':Hp}{S S':ac}
noncomputable def ee:D->Option bt
 | .int i=>U (.inl i)
 | .str x=>U (.inr x)
 | _=>Y
def ig{v:V}{d:D}{k:bt}(h:ee d=U k)(r:Rep K μ H v d):v=kV k:=by
 cases d <;> first | cases h | skip
 ·rw [r.int_inv];rfl
 ·rw [r.str_inv];rfl
noncomputable def fY(kvs:List (bt×D))(k:bt):Option D:=match kvs with
 | []=>Y
 | p::r=>if p.1=k then U p.2 else fY r k
def Iz(kvs:List (bt×D))(k:bt):Bool:=match kvs with
 | []=>false
 | p::r=>if p.1=k then true else Iz r k
noncomputable def Ow(kvs:List (bt×D))(k:bt)(d:D):List (bt×D):=match kvs with
 | []=>[]
 | p::r=>(if p.1=k then (p.1,d) else p)::Ow r k d
noncomputable def KB(kvs:List (bt×D))(k:bt)(d:D):List (bt×D):=if Iz kvs k then Ow kvs k d else kvs++[(k,d)]
noncomputable def cF(kvs:List (bt×D)):List (bt×D)->List (bt×D)
 | []=>kvs
 | p::r=>cF (KB kvs p.1 p.2) r
inductive KR(K:W.Frag)(μ:Fp)(H:Hp):List (bt×V)->List (bt×D)->Prop
 | nil:KR K μ H [] []
 | cons {k:bt} {v:V} {d:D} {vs:List (bt×V)} {ds:List (bt×D)} (h:Rep K μ H v d) (t:KR K μ H vs ds):KR K μ H ((k,v)::vs) ((k,d)::ds)
theorem KR.keys:∀ {vs ds},KR K μ H vs ds->vs.map (·.1)=ds.map (·.1)
 | _,_,.nil=>rfl
 | _,_,.cons _ t=>by rw [Wx,Wx,KR.keys t]
theorem KR.reps:∀ {vs ds},KR K μ H vs ds->Reps K μ H (vs.map (·.2)) (ds.map (·.2))
 | _,_,.nil=>.nil
 | _,_,.cons h t=>.cons h (KR.reps t)
theorem KR.length:∀ {vs ds},KR K μ H vs ds->vs.length=ds.length
 | _,_,.nil=>rfl
 | _,_,.cons _ t=>by rw [WG,WG,KR.length t]
theorem KR.mono(e:Ext μ H μ' H'):∀ {vs ds},KR K μ H vs ds->KR K μ' H' vs ds
 | _,_,.nil=>.nil
 | _,_,.cons h t=>.cons (h.mono e) (KR.mono e t)
theorem KR.less{p:Addr}{cs fb:List Addr}:∀ {vs ds},KR K ⟨cs,p::fb⟩ H vs ds->KR K ⟨cs,fb⟩ H vs ds
 | _,_,.nil=>.nil
 | _,_,.cons h t=>.cons h.less (KR.less t)
theorem KR.chg{p:Addr}{o:HO}(hp:p ∈ μ.fb):∀ {vs ds},KR K μ H vs ds->KR K μ (upd H p o) vs ds
 | _,_,.nil=>.nil
 | _,_,.cons h t=>.cons (h.chg hp) (KR.chg hp t)
theorem KR.of:∀ {kvs:List (bt×V)} {ks:List bt} {ds:List D},ks=kvs.map (·.1)->Reps K μ H (kvs.map (·.2)) ds->KR K μ H kvs (ks.zip ds)
 | [],_,_,e,r=>by subst e;cases r;exact .nil
 | p::q,_,_,e,r=>by
  subst e
  rw [Wx] at r
  cases r with | cons h t=>exact .cons h (KR.of rfl t)
theorem KR.val{k:bt}:∀ {vs ds},KR K μ H vs ds->∀ {d},fY ds k=U d->∃ v,qD vs k=U v/\Rep K μ H v d
 | _,_,.nil,d,h=>by cases h
 | _,_,.cons (k:=k') h t,d,q=>by
  unfold fY at q
  split at q
  ·rename_i e;cases q;exact⟨_,tL e,h⟩
  ·rename_i e
   obtain⟨v,h1,h2⟩:=KR.val t q
   exact⟨v,(pz e).trans h1,h2⟩
theorem KR.valN{k:bt}:∀ {vs ds},KR K μ H vs ds->fY ds k=Y->qD vs k=Y
 | _,_,.nil,_=>rfl
 | _,_,.cons h t,q=>by
  unfold fY at q
  split at q
  ·cases q
  ·rename_i e;exact(pz e).trans (KR.valN t q)
theorem KR.has{k:bt}:∀ {vs ds},KR K μ H vs ds->(vs.any λkv=>decide (kv.1=k))=Iz ds k
 | _,_,.nil=>rfl
 | _,_,.cons (k:=k') h t=>by
  rw [XE,KR.has t]
  unfold Iz
  by_cases e:k'=k
  ·simp [e]
  ·simp only [WC e,Bool.false_or,if_neg e];cases t <;> rfl
theorem KR.setv{k:bt}{x:V}{d:D}(r:Rep K μ H x d):∀ {vs ds},KR K μ H vs ds->KR K μ H (vs.map λkv=>if kv.1=k then (kv.1,x) else kv) (Ow ds k d)
 | _,_,.nil=>.nil
 | _,_,.cons (k:=k') h t=>by
  rw [Wx]
  unfold Ow
  by_cases e:k'=k
  ·simp only [WI e];exact .cons r (KR.setv r t)
  ·simp only [if_neg e];exact .cons h (KR.setv r t)
theorem KR.snoc{k:bt}{x:V}{d:D}(r:Rep K μ H x d):∀ {vs ds},KR K μ H vs ds->KR K μ H (vs++[(k,x)]) (ds++[(k,d)])
 | _,_,.nil=>.cons r .nil
 | _,_,.cons h t=>.cons h (KR.snoc r t)
def KR.put{k:bt}{x:V}{d:D}{vs ds}(r:Rep K μ H x d)(t:KR K μ H vs ds):KR K μ H (sD vs k x) (KB ds k d):=by
 unfold sD KB
 rw [t.has]
 split
 ·exact t.setv r
 ·exact t.snoc r
theorem KR.merge:∀ {ws es vs ds},KR K μ H ws es->KR K μ H vs ds->KR K μ H (dH vs ws) (cF ds es)
 | _,_,_,_,.nil,t=>t
 | _,_,vs,ds,.cons (k:=k) (v:=v) (d:=d) h q,t=>by
  have:=KR.merge q (t.put (k:=k) h)
  exact this
abbrev MP:=bj->ac->Option (List (bt×D)×ac)
noncomputable def kD:List (ME×ME)->MP
 | []=>λ_ S=>U ([],S)
 | (a,b)::r=>λenv S=>(a env S).bind λp=>(ee p.1).bind λk=>(b env p.2).bind λq=>(kD r env q.2).bind λz=>U ((k,q.1)::z.1,z.2)
def DPs(X:Cx)(pos:Pos)(keys:List (Option Expr))(values:List Expr)(ms:List (ME×ME)):Prop:=PPs X pos keys values (ms.map λp=>(tM X.K p.1,tM X.K p.2))
def QM{pos:Pos}:DPs X pos [] [] []:=ON
def Nx{pos:Pos}{k v:Expr}{ks:List (Option Expr)}{vs:List Expr}{mk mv:ME}{ms:List (ME×ME)}(hk:DE X k mk)(hv:DE X v mv)(hr:DPs X pos ks vs ms):DPs X pos (U k::ks) (v::vs) ((mk,mv)::ms):=KL hk hv hr
theorem qE{σ:L2.St}{env:bj}:∀ {ms:List (ME×ME)} {μ:Fp} {H:Hp} {S S':ac} {kvs:List (bt×D)} {Q:List (V×V)->Hp->Prop},SOk K μ S H->EOk K μ H σ env->kD ms env S=U (kvs,S') ->
  (∀ vs H' μ',Ext μ H μ' H'->SOk K μ' S' H'->KR K μ' H' vs kvs->Q (vs.map λkv=>(kV kv.1,kv.2)) H')->xZ (ms.map λp=>(tM K p.1,tM K p.2)) σ H Q
 | [],μ,H,S,S',kvs,Q,s,e,h,q=>by cases h;exact q [] H μ s.ext s .nil
 | (a,b)::r,μ,H,S,S',kvs,Q,s,e,h,q=>by
  obtain⟨⟨x,S1⟩,h1,h⟩:=KE.mp h
  obtain⟨k,h2,h⟩:=KE.mp h
  obtain⟨⟨y,S2⟩,h3,h⟩:=KE.mp h
  obtain⟨⟨zs,S3⟩,h4,h⟩:=KE.mp h
  cases h
  refine⟨μ,S,env,x,S1,s,e,h1,λv H1 μ1 e1 s1 r1=>⟨μ1,S1,env,y,S2,s1,e.mono e1,h3,λw H2 μ2 e2 s2 r2=>qE s2 ((e.mono e1).mono e2) h4 λvs H3 μ3 e3 s3 r3=>?_⟩⟩
  have:=q ((k,w)::vs) H3 μ3 ((e1.trans e2).trans e3) s3 (.cons (r2.mono e3) r3)
  rw [Wx] at this
  rw [ig h2 r1]
  exact this
def Ext.shut{p:Addr}{o o':HO}{cs fb:List Addr}{μ2:Fp}{H2:Hp}{S2:ac}(hp:H p=Y)(hn:p ∉ fb)(e:Ext ⟨cs,p::fb⟩ (upd H p o) μ2 H2)(s:SOk K μ2 S2 H2) :
  Ext ⟨cs,fb⟩ H ⟨μ2.cs,fb⟩ (upd H2 p o')/\SOk K ⟨μ2.cs,fb⟩ S2 (upd H2 p o')/\(⟨μ2.cs,fb⟩:Fp).no p/\(∀ vs ds,KR K μ2 H2 vs ds->KR K ⟨μ2.cs,fb⟩ (upd H2 p o') vs ds)/\H2 p=U o:=by
 have pm:p ∈ μ2.fb:=by rw [e.fb];exact Wr
 have ncs:p ∉ μ2.cs:=s.disj p pm
 have ncs0:p ∉ cs:=λz=>ncs (by obtain⟨l,q,_⟩:=e.pre;rw [q];exact Xb _ z)
 have ef:μ2=⟨μ2.cs,p::fb⟩:=by have:=e.fb;obtain⟨a,b⟩:=μ2;simp only at this;rw [this]
 refine⟨⟨rfl,?_,λa o2 na ha=>?_,λa ha=>?_⟩,?_,⟨ncs,?_⟩,λvs ds r=>?_,e.keep p o ncs0 bA⟩
 ·obtain⟨l,q,hl⟩:=e.pre
  refine⟨l,q,λa ha=>?_⟩
  have:=hl a ha
  by_cases z:a=p
  ·subst z;exact hp
  ·rwa [bm z] at this
 ·have z:=cA ha hp
  rw [bm z]
  exact e.keep a o2 na ((bm z).trans ha)
 ·have z:a≠p:=λz=>ncs (z ▸ ha)
  rw [bm z];exact e.dom a ha
 ·have:=(s.chg (o:=o') pm)
  rw [ef] at this
  exact this.less
 ·exact hn
 ·have:=r.chg (o:=o') pm
  rw [ef] at this
  exact this.less
noncomputable def gZ(ms:List (ME×ME)):ME:=λenv S=>(kD ms env S).bind λz=>if z.1.length<=15 then U (.dct ((cF [] z.1).map (·.1)) ((cF [] z.1).map (·.2)),z.2) else Y
def QW{pos:Pos}{keys:List (Option Expr)}{values:List Expr}{ms:List (ME×ME)}(h:DPs X pos keys values ms)(hall:keys.all (·.isSome)=true)(hl:keys.length=values.length)(h0:keys≠[])(h15:keys.length<=15) :
  DE X (.Dict keys values pos) (gZ ms):=PE.imp (FF h hall hl h0 h15) λσ H Q ⟨μ,S,env,d,S',hS,hE,hm,post⟩=>by
 obtain⟨⟨kvs,S1⟩,h1,hm⟩:=KE.mp hm
 dsimp only at hm
 split at hm
 ·rename_i hl
  cases hm
  intro p hp
  obtain⟨cs,fb⟩:=μ
  refine qE (hS.more hp) (hE.more hp) h1 λvs H2 μ2 e2 s2 r2=>?_
  obtain⟨eF,sF,nF,rF,hF⟩:=Ext.shut (o':=.dK (dH [] vs)) hp (hS.notMem hp).2 e2 s2
  refine⟨hF,vs,rfl,by rw [r2.length];exact hl,post _ _ _ eF sF ?_⟩
  have rr:=(rF _ _ r2).merge KR.nil
  have:=Rep.dct (K:=X.K) (bA (H:=H2) (o:=.dK (dH [] vs))) nF rr.reps
  rw [rr.keys] at this
  exact this
 ·cases hm
noncomputable def Am(S:ac):D->Option (List (bt×D))
 | .dct ks vs=>U (ks.zip vs)
 | .ref r=>match S[r]? with | some (.dct ks vs)=>U (ks.zip vs) | _=>Y
 | _=>Y
def Fx{v:V}{d:D}{kvs:List (bt×D)}(s:SOk K μ S H)(r:Rep K μ H v d)(h:Am S d=U kvs):∃ a vs,v=.ref a/\H a=U (.dK vs)/\KR K μ H vs kvs:=by
 cases r with
 | dct hd n rr=>cases h;exact⟨_,_,rfl,hd,KR.of rfl rr⟩
 | ref hr=>
  rename_i a i
  unfold Am at h
  dsimp only at h
  cases q:S[i]? with
  | none=>rw [q] at h;cases h
  | some c=>
   rw [q] at h
   have ck:=s.cell _ _ _ hr q
   cases c with
   | lst _=>cases h
   | dct ks xs=>cases h;obtain⟨vs,e,hk,rr⟩:=ck;exact⟨a,vs,rfl,e,KR.of hk rr⟩
 | _=>cases h
noncomputable def aw(S:ac)(x y:D):Option D:=match Am S x with
 | some kvs=>(ee y).bind λk=>fY kvs k
 | none=>fIx S x y
def Qa(hu:X.A.units+1<cLine):IxR X (λx y H Q=>∃ a v,x=.ref a/\DGet H a y (U v)/\Q v H):=by
 intro value slice pins s σ H x y v u Q I rx ry h hs
 obtain⟨a,z,rfl,g,q⟩:=h
 cases rx
 exact tail_any (Cv I g) F.slot_dict_getitem.lookup (Jf hu I g ry λw' s' I' rw'=>⟨z,H,I',rw',q⟩) hs
def ix_DX(hu:X.A.units+1<cLine):IxR X (on X.K aw):=IxR.imp ((Qa hu).or ix_D) λx y H Q ⟨μ,S,dx,dy,dz,hS,h1,h2,h3,post⟩=>by
 unfold aw at h3
 split at h3
 ·rename_i kvs hk
  obtain⟨k,h4,h5⟩:=KE.mp h3
  obtain⟨a,vs,rfl,ha,rr⟩:=Fx hS h1 hk
  obtain⟨v,h6,h7⟩:=rr.val h5
  refine .inl ⟨a,v,rfl,?_,post.here hS h7⟩
  rw [ig h4 h2,<- h6]
  exact DGet.k ha
 ·exact .inr ⟨μ,S,dx,dy,dz,hS,h1,h2,h3,post⟩
def VF{a b:Expr}{ma mb:ME}{pos:Pos}(hu:X.A.units+1<cLine)(ha:DE X a ma)(hb:DE X b mb)(hs:oi b:=by intro _ _;rfl):DE X (.Subscript a b pos) (ar aw ma mb):=
 PE.imp (KU (ix_DX hu) ha hb hs) λ_ _ _ h=>ya h
end
end M
namespace L2
section
variable{X:Cx}{o e:Expr}{es:List Expr}{to:TE}{t:TA}{name:Str}{apos cpos:Pos}{id:String}{r:V->List V->Hp->VK->Prop}
def tBD(r:V->List V->Hp->VK->Prop)(to:TE)(t:TA):TE:=λσ H Q=>to σ H λx H1=>(∃ p,x=.ref p/\IsD H1 p)/\t σ H1 λxs H2=>r x xs H2 Q
def Tx(slot:Slot "dict" name id)(hty:typeOf (.builtin id)=pure (.type "method_descriptor"))(hm:MtR X id r)(ho:PE X o to)(ha:PA X (e::es) t)
  (hbase:attributeBase o name X.env (eval o X.env)=eval o X.env)
  (hfew:((backTo cpos (starEach (e::es) X.env)).all (λx=>!x.1)&&(backToKw cpos (keywordEach [] X.env)).all (λx=>x.1.isSome)&&decide ((e::es).length+([]:List Keyword).length+(if ([]:List Keyword).isEmpty then 0 else 1)<30))=true)
  (hline:(apos.endLine == cpos.line)=true) (hs:starEach (e::es) X.env=(false,eval e X.env)::starEach es X.env) (hplain:(backTo cpos (starEach es X.env)).any (·.1)=false) :
  PE X (.Call (.Attribute o name apos) (e::es) [] cpos) (tBD r to t):=by
 intro pins s σ H Q I h
 refine YV hbase hfew hline rfl (dh (ho pins s σ H _ I h) λv s1 ⟨x,H1,I1,r1,ty,q1⟩=>?_)
 obtain⟨p,rfl,hq⟩:=ty
 cases r1
 obtain⟨t1,t2,_⟩:=UK I1 hq
 refine⟨"dict",id,F.plainAttrs_dict,slot,hty,t1,t2,?_⟩
 have hA:=ha cpos pins s1 σ H1 _ I1 q1
 rw [hs] at hA ⊢
 refine YX (by show (false||(backTo cpos (starEach es X.env)).any (·.1))=false;rw [hplain] <;> rfl) (Zh ?_)
 exact dh hA λus s2 ⟨vs,H2,I2,r2,q2⟩=>hm pins s2 σ H2 (V.ref p) vs _ us Q I2 (show RelV (V.ref p) (Value.ref p) from rfl) r2 q2
def Pu(hu:X.A.units+1<cLine):MtR X "dict.get" (λx xs H Q=>∃ a y o,x=.ref a/\DGet H a y o/\((xs=[y]/\Q (o.getD .non) H)\/∃ d,xs=[y,d]/\Q (o.getD d) H)):=by
 intro pins s σ H x xs v us Q I rx rv h
 obtain⟨a,y,o,rfl,g,h⟩:=h
 cases rx
 rcases h with ⟨rfl,q⟩ | ⟨d,rfl,q⟩
 ·obtain⟨u,rfl,ru⟩:=rv.one
  exact VM hu I g ru λw' s3 I3 rw'=>⟨_,H,I3,rw',q⟩
 ·obtain⟨u,u2,rfl,ru,ru2⟩:=rv.two
  exact VL hu I g ru ru2 λw' s4 I4 rw'=>⟨_,H,I4,rw',q⟩
def DJ:MtR X "dict.update" (λx xs H Q=>∃ a b kvs more,x=.ref a/\xs=[.ref b]/\a≠b/\H a=U (.dK kvs)/\H b=U (.dK more)/\kvs.length+more.length<=sizeLine/\Q .non (upd H a (.dK (dH kvs more)))):=by
 intro pins s σ H x xs v us Q I rx rv h
 obtain⟨a,b,kvs,more,rfl,rfl,ne,ha,hb,hl,q⟩:=h
 cases rx
 obtain⟨u,rfl,ru⟩:=rv.one
 cases ru
 obtain⟨z,hd,vs,r0,dd⟩:=NB I.hok ha
 obtain⟨z2,hd2,vs2,r2,dd2⟩:=NB I.hok hb
 have l1:=r0.length
 have l2:=r2.length
 refine Za aaM dd.typeIs F.entry_dict_update (F.args_dict_update_2 _ _) (meets_dict_update (bQ X.prog X.w) a b ne hd2) ⟨vs,vs2,dd,dd2,by omega,λh' dd' _ hs=>?_⟩
 have hz:(dH kvs more).length<=sizeLine:=by
  have h1:=kG more kvs
  omega
 have he:∃ q,h'.get? a=U q:=let ⟨q,_,_,hq,_⟩:=dd';⟨q,hq⟩
 exact⟨.non,_,GE I (by rw [ha];exact True.intro) hs he (NC hz hd (r2.merge r0) dd'),rfl,q⟩
end
end L2
namespace M
open L2
section
variable{X:Cx}{K:W.Frag}{μ μ':Fp}{H H':Hp}{S S':ac}
def SOk.writeD{S:ac}(s:SOk K μ S H){i:Nat}{a:Addr}{kvs kvs':List (bt×V)}{ks:List bt}{ds:List D}(hi:μ.cs[i]?=U a)(h:H a=U (.dK kvs))(hk:ks=kvs'.map (·.1))(r:Reps K μ H (kvs'.map (·.2)) ds) :
  Ext μ H μ (upd H a (.dK kvs'))/\SOk K μ (S.set i (.dct ks ds)) (upd H a (.dK kvs')):=by
 have ha:=WN hi
 have e:Ext μ H μ (upd H a (.dK kvs')):=⟨rfl,⟨[],by simp,λ_ z=>by simp at z⟩,λb o' n q=>by rw [bm (by rintro rfl;exact n ha)];exact q,λb hb=>by
  by_cases z:b=a
  ·subst z;rw [bA];simp
  ·rw [bm z];exact s.dom b hb⟩
 refine⟨e,s.nd,by simp [s.len],λj b c h1 h2=>?_,λb hb=>?_,s.disj⟩
 case refine_2=>
  by_cases z:b=a
  ·subst z;rw [bA];simp
  ·rw [bm z];exact s.fdom b hb
 by_cases hj:j=i
 ·subst hj
  rw [hi] at h1;cases h1
  have hl:j<S.length:=by rw [<- s.len];exact(Wo.mp hi).1
  rw [WV hl] at h2
  cases h2
  exact⟨kvs',bA,hk,r.mono e⟩
 ·rw [WO (Ne.symm hj)] at h2
  refine(s.cell j b c h1 h2).mono e (bm λz=>hj ?_)
  subst z
  exact FL s.nd h1 hi
def AX{p a:Addr}{cs fb:List Addr}(n:(⟨cs,p::fb⟩:Fp).no a):(⟨cs++[p],fb⟩:Fp).no a:=
 ⟨λz=>(WK.mp z).elim n.1 λz=>n.2 (by rw [WL.mp z];exact Wr),λz=>n.2 (Wu _ z)⟩
def Rep.adopt{p:Addr}{cs fb:List Addr}{v:V}{d:D}(r:Rep K ⟨cs,p::fb⟩ H v d):Rep K ⟨cs++[p],fb⟩ H v d:=r.imp (λh n=>⟨h,AX n⟩) λh=>zX rfl h
def Reps.adopt{p:Addr}{cs fb:List Addr}{v:List V}{d:List D}(r:Reps K ⟨cs,p::fb⟩ H v d):Reps K ⟨cs++[p],fb⟩ H v d:=r.imp (λh n=>⟨h,AX n⟩) λh=>zX rfl h
theorem KR.adopt{p:Addr}{cs fb:List Addr}:∀ {vs ds},KR K ⟨cs,p::fb⟩ H vs ds->KR K ⟨cs++[p],fb⟩ H vs ds
 | _,_,.nil=>.nil
 | _,_,.cons h t=>.cons h.adopt (KR.adopt t)
def Ext.shutR{p:Addr}{o:HO}{cs fb:List Addr}{μ2:Fp}{H2:Hp}{S2:ac}{vs:List (bt×V)}{kvs:List (bt×D)}(hp:H p=Y)(hn:p ∉ fb)(e:Ext ⟨cs,p::fb⟩ (upd H p o) μ2 H2)(s:SOk K μ2 S2 H2)(r:KR K μ2 H2 vs kvs) :
  Ext ⟨cs,fb⟩ H ⟨μ2.cs++[p],fb⟩ (upd H2 p (.dK vs))/\SOk K ⟨μ2.cs++[p],fb⟩ (S2++[.dct (kvs.map (·.1)) (kvs.map (·.2))]) (upd H2 p (.dK vs))/\H2 p=U o:=by
 have pm:p ∈ μ2.fb:=by rw [e.fb];exact Wr
 have ncs:p ∉ μ2.cs:=s.disj p pm
 have ncs0:p ∉ cs:=λz=>ncs (by obtain⟨l,q,_⟩:=e.pre;rw [q];exact Xb _ z)
 have ef:μ2.fb=p::fb:=e.fb
 obtain⟨cs2,fb2⟩:=μ2
 simp only at ef pm ncs
 subst ef
 refine⟨⟨rfl,?_,λa o2 na ha=>?_,λa ha=>?_⟩,⟨?_,by simp [s.len],λi a c h1 h2=>?_,λa ha=>?_,λa ha z=>?_⟩,e.keep p o ncs0 bA⟩
 ·obtain⟨l,q,hl⟩:=e.pre
  simp only at q
  refine⟨l++[p],by rw [q,WR],λa ha=>?_⟩
  rcases WK.mp ha with ha | ha
  ·have:=hl a ha
   by_cases z:a=p
   ·subst z;exact hp
   ·rwa [bm z] at this
  ·rw [WL.mp ha];exact hp
 ·have z:=cA ha hp
  rw [bm z]
  exact e.keep a o2 na ((bm z).trans ha)
 ·by_cases z:a=p
  ·subst z;rw [bA];simp
  ·rw [bm z]
   rcases WK.mp ha with ha | ha
   ·exact e.dom a ha
   ·exact absurd (WL.mp ha) z
 ·exact Yi.mpr ⟨s.nd,by simp,λa ha b hb=>by rw [WL.mp hb];exact λz=>ncs (z ▸ ha)⟩
 ·have sc:=s.chg (o:=.dK vs) pm
  by_cases hi:i<cs2.length
  ·rw [WE hi] at h1
   rw [WE (by rw [<- s.len];exact hi)] at h2
   have ck:=sc.cell i a c h1 h2
   cases c with
   | lst ds=>obtain⟨ws,h,r⟩:=ck;exact⟨ws,h,r.adopt⟩
   | dct ks ds=>obtain⟨ws,h,q,r⟩:=ck;exact⟨ws,h,q,r.adopt⟩
  ·have hi':i=cs2.length:=by
    have:=(Wo.mp h1).1
    simp at this;omega
   subst hi'
   rw [Xg (WD _)] at h1
   rw [show cs2.length=S2.length from s.len,Xg (WD _)] at h2
   simp at h1 h2
   subst h1 h2
   have rc:=(r.chg (o:=.dK vs) pm).adopt
   exact⟨vs,bA,rc.keys.symm,rc.reps⟩
 ·by_cases z:a=p
  ·subst z;rw [bA];simp
  ·rw [bm z];exact s.fdom a (Wu _ ha)
 ·rcases WK.mp z with z | z
  ·exact s.disj a (Wu _ ha) z
  ·exact hn (WL.mp z ▸ ha)
noncomputable def eU(ms:List (ME×ME)):ME:=λenv S=>(kD ms env S).bind λz=>if z.1.length<=15 then U (.ref z.2.length,z.2++[.dct ((cF [] z.1).map (·.1)) ((cF [] z.1).map (·.2))]) else Y
def NK{pos:Pos}{keys:List (Option Expr)}{values:List Expr}{ms:List (ME×ME)}(h:DPs X pos keys values ms)(hall:keys.all (·.isSome)=true)(hl:keys.length=values.length)(h0:keys≠[])(h15:keys.length<=15) :
  DE X (.Dict keys values pos) (eU ms):=PE.imp (FF h hall hl h0 h15) λσ H Q ⟨μ,S,env,d,S',hS,hE,hm,post⟩=>by
 obtain⟨⟨kvs,S1⟩,h1,hm⟩:=KE.mp hm
 dsimp only at hm
 split at hm
 ·rename_i hl
  cases hm
  intro p hp
  obtain⟨cs,fb⟩:=μ
  refine qE (hS.more hp) (hE.more hp) h1 λvs H2 μ2 e2 s2 r2=>?_
  obtain⟨eF,sF,hF⟩:=Ext.shutR hp (hS.notMem hp).2 e2 s2 (r2.merge KR.nil)
  exact⟨hF,vs,rfl,by rw [r2.length];exact hl,post _ _ _ eF sF (.ref (by rw [<- s2.len];simp))⟩
 ·cases hm
noncomputable def NN(S:ac):D->Bool
 | .dct _ _=>true
 | .ref r=>match S[r]? with | some (.dct _ _)=>true | _=>false
 | _=>false
def Rb{v:V}{d:D}(s:SOk K μ S H)(r:Rep K μ H v d)(h:NN S d=true):∃ a,v=.ref a/\IsD H a:=by
 cases r with
 | dct hd n rr=>exact⟨_,rfl,.inl ⟨_,.inl hd⟩⟩
 | ref hr=>
  rename_i a i
  unfold NN at h
  dsimp only at h
  cases q:S[i]? with
  | none=>rw [q] at h;cases h
  | some c=>
   rw [q] at h
   have ck:=s.cell _ _ _ hr q
   cases c with
   | lst _=>cases h
   | dct ks xs=>obtain⟨vs,e,hk,rr⟩:=ck;exact⟨a,rfl,.inl ⟨_,.inl e⟩⟩
 | _=>cases h
noncomputable def sj:MF:=λo ds S=>(Am S o).bind λkvs=>match ds with
 | [y]=>(ee y).bind λk=>U ((fY kvs k).getD .non,S)
 | [y,d]=>(ee y).bind λk=>U ((fY kvs k).getD d,S)
 | _=>Y
theorem KR.getD{k:bt}{z:V}{e:D}{vs ds}(t:KR K μ H vs ds)(r:Rep K μ H z e):Rep K μ H ((qD vs k).getD z) ((fY ds k).getD e):=by
 cases q:fY ds k with
 | none=>rw [t.valN q];exact r
 | some d=>obtain⟨v,h1,h2⟩:=t.val q;rw [h1];exact h2
def Pw(hu:X.A.units+1<cLine):MtR X "dict.get" (Og X.K sj):=MtR.imp (Pu hu) λx vs H Q ⟨μ,S,dx,ds,d,S',hS,r1,r2,h,post⟩=>by
 obtain⟨kvs,hk,h⟩:=KE.mp h
 obtain⟨a,ws,rfl,ha,rr⟩:=Fx hS r1 hk
 split at h
 ·rename_i y
  obtain⟨k,h4,h5⟩:=KE.mp h
  cases h5
  obtain⟨v,rfl,rv⟩:=r2.one
  have:=ig h4 rv
  subst this
  exact⟨a,_,_,rfl,DGet.k ha,.inl ⟨rfl,post.here hS (rr.getD .non)⟩⟩
 ·rename_i y e
  obtain⟨k,h4,h5⟩:=KE.mp h
  cases h5
  obtain⟨v,w,rfl,rv,rw0⟩:=r2.two
  have:=ig h4 rv
  subst this
  exact⟨a,_,_,rfl,DGet.k ha,.inr ⟨w,rfl,post.here hS (rr.getD rw0)⟩⟩
 ·cases h
noncomputable def vg:MF:=λo ds S=>match o,ds with
 | .ref r,[.dct ks2 vs2]=>match S[r]? with
  | some (.dct ks vs)=>if ks.length+ks2.length<=sizeLine then U (.non,S.set r (.dct ((cF (ks.zip vs) (ks2.zip vs2)).map (·.1)) ((cF (ks.zip vs) (ks2.zip vs2)).map (·.2)))) else Y
  | _=>Y
 | _,_=>Y
def Pv:MtR X "dict.update" (Og X.K vg):=MtR.imp DJ λx vs H Q ⟨μ,S,dx,ds,d,S',hS,r1,r2,h,post⟩=>by
 unfold vg at h
 split at h
 ·rename_i r ks2 vs2
  cases q:S[r]? with
  | none=>rw [q] at h;cases h
  | some c=>
   rw [q] at h
   cases c with
   | lst _=>cases h
   | dct ks xs=>
    dsimp only at h
    split at h
    ·rename_i hz
     cases h
     obtain⟨v,rfl,rv⟩:=r2.one
     cases r1 with
     | @ref a _ h'=>
      obtain⟨kvs,hw,hk,rw'⟩:=hS.cell r a _ h' q
      cases rv with
      | @dct b more _ hb nb rb=>
       have k1:=KR.of hk rw'
       have k2:=KR.of rfl rb
       have kk:=k2.merge k1
       obtain⟨e,s'⟩:=hS.writeD h' hw (kvs':=dH kvs more) (ks:=(cF (ks.zip xs) ((more.map (·.1)).zip vs2)).map (·.1)) kk.keys.symm kk.reps
       refine⟨a,b,kvs,more,rfl,rfl,λz=>nb.1 (z ▸ WN h'),hw,hb,?_,post _ _ μ e s' .non⟩
       rw [hk,Ww,Ww] at hz
       exact hz
    ·cases h
 ·cases h
noncomputable def dQ(f:MF)(o:ME)(ms:MA):ME:=λenv S=>(o env S).bind λp=>if NN p.2 p.1=true then (ms env p.2).bind λq=>f p.1 q.1 q.2 else Y
def NI{o e:Expr}{es:List Expr}{mo:ME}{ms:MA}{f:MF}{name:Str}{id:String}{apos cpos:Pos}(slot:Slot "dict" name id)(hty:typeOf (.builtin id)=pure (.type "method_descriptor"))(hm:MtR X id (Og X.K f))(ho:DE X o mo)(ha:DA X (e::es) ms)
  (hbase:attributeBase o name X.env (eval o X.env)=eval o X.env)
  (hfew:((backTo cpos (starEach (e::es) X.env)).all (λx=>!x.1)&&(backToKw cpos (keywordEach [] X.env)).all (λx=>x.1.isSome)&&decide ((e::es).length+([]:List Keyword).length+(if ([]:List Keyword).isEmpty then 0 else 1)<30))=true)
  (hline:(apos.endLine == cpos.line)=true) (hs:starEach (e::es) X.env=(false,eval e X.env)::starEach es X.env) (hpl:(backTo cpos (starEach es X.env)).any (·.1)=false) :
  DE X (.Call (.Attribute o name apos) (e::es) [] cpos) (dQ f mo ms):=
 PE.imp (Tx slot hty hm ho ha hbase hfew hline hs hpl) λσ H Q ⟨μ,S,env,d,S',hS,hE,h,post⟩=>by
  obtain⟨⟨x,S1⟩,h1,h⟩:=KE.mp h
  dsimp only at h
  split at h
  ·rename_i hl
   obtain⟨⟨xs,S2⟩,h2,h⟩:=KE.mp h
   refine⟨μ,S,env,x,S1,hS,hE,h1,λv H1 μ1 e1 s1 r1=>⟨?_,μ1,S1,env,xs,S2,s1,hE.mono e1,h2,λvs H2 μ2 e2 s2 r2=>⟨μ2,S2,x,xs,d,S',s2,r1.mono e2,r2,h,(post.ext e1).ext e2⟩⟩⟩
   exact Rb s1 r1 hl
  ·cases h
end
end M
namespace L2
section
variable{X:Cx}{a b:Expr}{rest:List Expr}{ta tb:TE}{pos:Pos}
def tAndX(K:W.Frag)(ta tb:TE):TE:=λσ H Q=>ta σ H λx H1=>∃ c,Jy K x H1 c/\if c=true then tb σ H1 Q else Q x H1
def tOrX(K:W.Frag)(ta tb:TE):TE:=λσ H Q=>ta σ H λx H1=>∃ c,Jy K x H1 c/\if c=true then Q x H1 else tb σ H1 Q
def tNotX(K:W.Frag)(ta:TE):TE:=λσ H Q=>ta σ H λx H1=>∃ c,Jy K x H1 c/\Q (.bl (!c)) H1
def Pb(ha:PE X a ta)(hb:PE X (.BoolOp .And (b::rest) pos) tb):PE X (.BoolOp .And (a::b::rest) pos) (tAndX X.K ta tb):=by
 intro pins s σ H Q I h
 refine BoolOp_and (dh (ha pins s σ H _ I h) λv s1 ⟨x,H1,I1,r1,q1⟩=>?_)
 obtain⟨c,tv,q1⟩:=q1
 refine dh (xY pins s1 σ H1 x v (λk H'=>k=c/\H'=H1) I1 r1 ⟨c,tv,rfl,rfl⟩) λk s2 z=>?_
 obtain⟨H2,I2,rfl,rfl⟩:=z
 cases k with
 | true=>exact hb pins s2 σ H2 Q I2 q1
 | false=>exact⟨x,H2,I2,r1,q1⟩
def Ts(ha:PE X a ta)(hb:PE X (.BoolOp .Or (b::rest) pos) tb):PE X (.BoolOp .Or (a::b::rest) pos) (tOrX X.K ta tb):=by
 intro pins s σ H Q I h
 refine BoolOp_or (dh (ha pins s σ H _ I h) λv s1 ⟨x,H1,I1,r1,q1⟩=>?_)
 obtain⟨c,tv,q1⟩:=q1
 refine dh (xY pins s1 σ H1 x v (λk H'=>k=c/\H'=H1) I1 r1 ⟨c,tv,rfl,rfl⟩) λk s2 z=>?_
 obtain⟨H2,I2,rfl,rfl⟩:=z
 cases k with
 | false=>exact hb pins s2 σ H2 Q I2 q1
 | true=>exact⟨x,H2,I2,r1,q1⟩
def OW(ha:PE X a ta):PE X (.UnaryOp .Not a pos) (tNotX X.K ta):=by
 intro pins s σ H Q I h
 refine UnaryOp_ (dh (ha pins s σ H _ I h) λv s1 ⟨x,H1,I1,r1,q1⟩=>?_)
 obtain⟨c,tv,q1⟩:=q1
 refine not_of (dh (xY pins s1 σ H1 x v (λk H'=>k=c/\H'=H1) I1 r1 ⟨c,tv,rfl,rfl⟩) λk s2 z=>?_)
 obtain⟨H2,I2,rfl,rfl⟩:=z
 exact⟨.bl (!k),H2,I2,rfl,q1⟩
end
end L2
namespace M
open L2
section
variable{X:Cx}{K:W.Frag}{μ μ':Fp}{H H':Hp}{S S':ac}{a b:Expr}{ma mb:ME}{rest:List Expr}{pos:Pos}
noncomputable def LI(a b:ME):ME:=λenv S=>(a env S).bind λp=>(tO p.2 p.1).bind λk=>if k=true then b env p.2 else U (p.1,p.2)
noncomputable def Ue(a b:ME):ME:=λenv S=>(a env S).bind λp=>(tO p.2 p.1).bind λk=>if k=true then U (p.1,p.2) else b env p.2
noncomputable def LA(a:ME):ME:=λenv S=>(a env S).bind λp=>(tO p.2 p.1).bind λk=>U (.bl (!k),p.2)
def QZ(ha:DE X a ma)(hb:DE X (.BoolOp .And (b::rest) pos) mb):DE X (.BoolOp .And (a::b::rest) pos) (LI ma mb):=PE.imp (Pb ha hb) λσ H Q ⟨μ,S,env,d,S',hS,hE,hm,post⟩=>by
 obtain⟨⟨x,S1⟩,h1,hm⟩:=KE.mp hm
 obtain⟨k,h2,hm⟩:=KE.mp hm
 refine⟨μ,S,env,x,S1,hS,hE,h1,λv H1 μ1 e1 s1 r1=>⟨k,sV s1 r1 h2,?_⟩⟩
 cases k with
 | true=>rw [WI rfl];exact⟨μ1,S1,env,d,S',s1,hE.mono e1,hm,post.ext e1⟩
 | false=>cases hm;rw [if_neg Bool.false_ne_true];exact post _ H1 μ1 e1 s1 r1
def VC(ha:DE X a ma)(hb:DE X (.BoolOp .Or (b::rest) pos) mb):DE X (.BoolOp .Or (a::b::rest) pos) (Ue ma mb):=PE.imp (Ts ha hb) λσ H Q ⟨μ,S,env,d,S',hS,hE,hm,post⟩=>by
 obtain⟨⟨x,S1⟩,h1,hm⟩:=KE.mp hm
 obtain⟨k,h2,hm⟩:=KE.mp hm
 refine⟨μ,S,env,x,S1,hS,hE,h1,λv H1 μ1 e1 s1 r1=>⟨k,sV s1 r1 h2,?_⟩⟩
 cases k with
 | false=>rw [if_neg Bool.false_ne_true];exact⟨μ1,S1,env,d,S',s1,hE.mono e1,hm,post.ext e1⟩
 | true=>cases hm;rw [WI rfl];exact post _ H1 μ1 e1 s1 r1
def QS(ha:DE X a ma):DE X (.UnaryOp .Not a pos) (LA ma):=PE.imp (OW ha) λσ H Q ⟨μ,S,env,d,S',hS,hE,hm,post⟩=>by
 obtain⟨⟨x,S1⟩,h1,hm⟩:=KE.mp hm
 obtain⟨k,h2,hm⟩:=KE.mp hm
 cases hm
 exact⟨μ,S,env,x,_,hS,hE,h1,λv H1 μ1 e1 s1 r1=>⟨k,sV s1 r1 h2,post _ H1 μ1 e1 s1 (.bl _)⟩⟩
end
section
variable{X:Cx}{K:W.Frag}{μ μ':Fp}{H H':Hp}{S S':ac}{tg iter:Expr}{pos:Pos}
noncomputable def fL(g:MG)(body:MS)(r:Nat):Nat->Nat->bj->ac->Option nH
 | 0,_,_,_=>Y
 | f+1,i,env,S=>match S[r]? with
  | some (.lst xs)=>match xs[i]? with
   | none=>U (.nx env S)
   | some d=>(g d env S).bind λp=>(body p.1 p.2).bind λo=>match o with
    | .nx e s=>fL g body r f (i+1) e s
    | .ct e s=>fL g body r f (i+1) e s
    | .bk e s=>U (.nx e s)
    | .rt d s=>U (.rt d s)
  | _=>Y
noncomputable def dO(m:ME)(g:MG)(body:MS):MS:=λenv S=>(m env S).bind λp=>match p.1 with
 | .ref r=>fL g body r 2000 0 env p.2
 | .lst xs=>cn g body xs env p.2
 | .rol xs=>cn g body xs env p.2
 | .tup xs=>cn g body xs env p.2
 | _=>Y
noncomputable def mForX(m:ME)(g:MG)(body:MS):MS:=λenv S=>(m env S).bind λp=>match p.1 with
 | .ref r=>fL g body r 2000 0 env p.2
 | _=>Y
def QI{body:List Stmt}{mi:ME}{g:MG}{mb:MS}(hp:PassesOwn (model X.prog X.w) X.A X.env X.xe)(hc:X.calm=true)(hi:DE X iter mi)(hg:DG X tg g)(hb:vH X body mb)
  (hs:∀ x,foldedSetIterable iter X.env x=pure x):DS X (.For tg iter body [] pos) (mForX mi g mb):=PS.imp (Dq hp hc (OR hi) hg hb hs) λE σ H ⟨μ,S,env,o,hS,hE,hm,post⟩=>by
 obtain⟨⟨d,S1⟩,h1,hm⟩:=KE.mp hm
 dsimp only at hm
 split at hm
 ·rename_i r
  refine⟨μ,S,env,_,S1,hS,hE,h1,λv H1 μ1 e1 s1 r1=>?_⟩
  cases r1 with
  | @ref a _ ha=>
   have cell:∀ {μ' H' S' xs},Ext μ1 H1 μ' H'->SOk X.K μ' S' H'->S'[r]?=U (.lst xs)->∃ vs,H' a=U (.lst vs)/\Reps X.K μ' H' vs xs:=λ{μ' H' S' xs} e s q=>by
    obtain⟨l,ql,_⟩:=e.pre
    have ha':μ'.cs[r]?=U a:=by rw [ql,WE (Wo.mp ha).1];exact ha
    exact s.cell r a _ ha' q
   have hq0:∃ vs,my X.K H1 a vs:=by
    unfold fL at hm
    split at hm
    ·rename_i xs q
     obtain⟨vs,hv,_⟩:=cell s1.ext s1 q
     exact⟨vs,.inl (.inl hv)⟩
    ·cases hm
   refine⟨a,rfl,hq0,?_⟩
   refine⟨λi n σ H=>∃ μ' S' env' o',Ext μ1 H1 μ' H/\SOk X.K μ' S' H/\EOk X.K μ' H σ env'/\fL g mb r n i env' S'=U o'/\PostS X.K μ' H o' E,
    ⟨2000,μ1,S1,env,o,s1.ext,s1,hE.mono e1,hm,post.ext e1⟩,?_⟩
   rintro i n σ' H' ⟨μ',S',env',o',e',s',r',hl,post'⟩
   cases n with
   | zero=>cases hl
   | succ n=>
    unfold fL at hl
    split at hl
    ·rename_i xs q
     obtain⟨vs,hv,rv⟩:=cell e' s' q
     have hsq:my X.K H' a vs:=.inl (.inl hv)
     split at hl
     ·rename_i hx
      cases hl
      refine .inl ⟨⟨vs,hsq,?_⟩,post' σ' H' μ' s'.ext s' r'⟩
      rw [rv.length];simpa using hx
     ·rename_i d hx
      obtain⟨w,hw,rw0⟩:=rv.get hx
      refine .inr ⟨⟨vs,w,hsq,hw⟩,λσ2 H2=>∃ μ2 S2 env2 o2,Ext μ1 H1 μ2 H2/\SOk X.K μ2 S2 H2/\EOk X.K μ2 H2 σ2 env2/\fL g mb r n (i+1) env2 S2=U o2/\PostS X.K μ2 H2 o2 E,
       λσ2 H2 ⟨μ2,S2,env2,o2,q1,q2,q3,q4,q5⟩=>⟨n,by omega,μ2,S2,env2,o2,q1,q2,q3,q4,q5⟩,λx H2 y=>?_⟩
      obtain⟨e2,hy⟩:=y
      subst e2
      have ex:x=w:=by have:=hy vs hsq;rw [hw] at this;exact(WH this).symm
      subst ex
      obtain⟨⟨env3,S3⟩,h3,hl⟩:=KE.mp hl
      obtain⟨o4,h4,hl⟩:=KE.mp hl
      refine⟨μ',S',env',d,env3,S3,s',r',rw0,h3,λσ3 H3 μ3 e3 s3 r3=>⟨μ3,S3,env3,o4,s3,r3,h4,?_⟩⟩
      have eT:Ext μ1 H1 μ3 H3:=e'.trans e3
      have pT:PostS X.K μ3 H3 o' E:=post'.ext e3
      cases o4 with
      | nx e5 s5=>exact λσ6 H6 μ6 e6 s6 r6=>⟨μ6,s5,e5,o',eT.trans e6,s6,r6,hl,pT.ext e6⟩
      | ct e5 s5=>exact λσ6 H6 μ6 e6 s6 r6=>⟨μ6,s5,e5,o',eT.trans e6,s6,r6,hl,pT.ext e6⟩
      | bk e5 s5=>cases hl;exact pT
      | rt d5 s5=>cases hl;exact pT
    ·cases hl
 ·cases hm
def QJ{body:List Stmt}{mi:ME}{g:MG}{mb:MS}(hp:PassesOwn (model X.prog X.w) X.A X.env X.xe)(hc:X.calm=true)(hi:DE X iter mi)(hg:DG X tg g)(hb:vH X body mb)
  (hs:∀ x,foldedSetIterable iter X.env x=pure x):DS X (.For tg iter body [] pos) (dO mi g mb):=by
 have hA:=QI (pos:=pos) hp hc hi hg hb hs
 have hB:=Nt (pos:=pos) hp hc (EX (tg:=tg) hi) hg hb hs
 intro pins s σ H E I ⟨μ,S,env,o,hS,hE,h,post⟩
 obtain⟨⟨x,S1⟩,h1,h⟩:=KE.mp h
 cases x with
 | ref r=>exact hA pins s σ H E I ⟨μ,S,env,o,hS,hE,by show (mi env S).bind _=_;rw [h1];exact h,post⟩
 | lst xs=>exact hB pins s σ H E I ⟨μ,S,env,o,hS,hE,by show ((mi env S).bind _).bind _=_;rw [h1];exact h,post⟩
 | rol xs=>exact hB pins s σ H E I ⟨μ,S,env,o,hS,hE,by show ((mi env S).bind _).bind _=_;rw [h1];exact h,post⟩
 | tup xs=>exact hB pins s σ H E I ⟨μ,S,env,o,hS,hE,by show ((mi env S).bind _).bind _=_;rw [h1];exact h,post⟩
 | _=>cases h
end
end M
namespace L2
section
variable{X:Cx}{pos:Pos}
theorem uR:∀ {ns:List Int} {us:List Value},Vals (ns.map V.int) us->∃ xs:List (Int×Tok),us=xs.map (λp=>Value.int p.1 p.2)/\xs.map (·.1)=ns
 | [],_,.nil=>⟨[],rfl,rfl⟩
 | n::ns,_,.cons ⟨t,e⟩ r=>by
  subst e
  obtain⟨xs,e1,e2⟩:=uR r
  exact⟨(n,t)::xs,by rw [e1];rfl,by rw [Wx,e2]⟩
def Jq(hc:X.calm=true):CallR X (.builtin "max") (λxs H Q=>∃ p ns,xs=[.ref p]/\my X.K H p (ns.map V.int)/\ns≠[]/\∀ m,m∈ns->(∀ a∈ns,a<=m)->Q (.int m) H):=by
 intro pins s σ H xs us Q I r h
 obtain⟨p,ns,rfl,hq,h0,q⟩:=h
 obtain⟨u,rfl,rx⟩:=pq r
 cases rx
 obtain⟨its,rv,pl,hz⟩:=I.list hq
 obtain⟨ps,e1,e2⟩:=uR rv
 have hl:s.heap.IsList p (intItems ps.toArray):=by
  have:=pl.isList
  rw [e1] at this
  have e:intItems ps.toArray=(ps.map (λp=>Value.int p.1 p.2)).toArray:=by simp [intItems]
  rw [e];exact this
 have hp:0<ps.toArray.size:=by
  rw [Wt]
  cases ps with
  | nil=>exact absurd e2.symm h0
  | cons _ _=>simp
 refine max_intList (I.ok.hd hc) hl hp λv h' tk hv kk=>?_
 obtain⟨g1,g2⟩:=argBest_gt (numAt ps.toArray) (ps.toArray.size - 1)
 generalize argBest (λi j=>decide (numAt ps.toArray i>numAt ps.toArray j)) (ps.toArray.size - 1)=b at hv g1 g2
 have hb:b<ps.length:=by rw [Wt] at g1 hp;omega
 have nb:∀ j (hj:j<ps.length),numAt ps.toArray j=ps[j].1:=λj hj=>by
  simp [numAt,hj]
 have ev:v=Value.int ps[b].1 ps[b].2:=by
  simp [intItems,hb] at hv
  exact hv.symm
 subst ev
 refine⟨.int ps[b].1,H,I.kept kk,⟨_,rfl⟩,q _ ?_ λa ha=>?_⟩
 ·rw [<- e2];exact WP.mpr ⟨_,ZD hb,rfl⟩
 ·rw [<- e2] at ha
  obtain⟨x,hx,rfl⟩:=WP.mp ha
  obtain⟨j,hj,rfl⟩:=List.mem_iff_getElem.mp hx
  have:=g2 j (by rw [Wt];omega)
  rw [nb j hj,nb b hb] at this
  exact this
theorem tK:∀ (l:List Value) (lo:Nat),(∀ (j:Nat) (v:Value),l[j]?=U v->∃ t,v=.int ((lo+j:Nat):Int) t)->Vals ((List.range' lo l.length).map λ(i:Nat)=>V.int (i:Int)) l
 | [],_,_=>.nil
 | v::r,lo,h=>by
  rw [WG,List.range'_succ,Wx]
  obtain⟨t,e⟩:=h 0 v rfl
  refine .cons ⟨t,by simpa using e⟩ (tK r (lo+1) λj w hw=>?_)
  obtain⟨t,e⟩:=h (j+1) w (by simpa using hw)
  exact⟨t,by rw [e];congr 2;omega⟩
noncomputable def qI(n:Nat):List V:=(List.range n).map λ(i:Nat)=>V.int (i:Int)
def yx{a:Expr}{ta:TA}{p p2 pos pos2:Pos}(hc:X.calm=true)(hm:X.mg "list" = Y)(hm2:X.mg "range" = Y)(hg:Gl X "list")(hg2:Gl X "range")(ha:PA X [a] ta)(hs:starEach [a] X.env=[(false,eval a X.env)]) :
  PE X (.Call (.Name "list" p) [.Call (.Name "range" p2) [a] [] pos2] [] pos) (λσ H Q=>ta σ H λvs H1=>∃ j:Int,vs=[.int j]/\0<=j/\j<=1000/\∀ q,H1 q=Y->Q (.ref q) (upd H1 q (.lst (qI j.toNat)))):=by
 intro pins s σ H Q I h
 refine Call_ (kH I hg hm boot_list (Xe (aaN ?_) rfl rfl))
 refine Call_ (kH I hg2 hm2 boot_range (Xe (dh (ha pos2 pins s σ H _ I h) λus s1 ⟨vs,H1,I1,r1,q1⟩=>?_) hs rfl))
 obtain⟨j,rfl,j0,j1,q⟩:=q1
 obtain⟨u,rfl,ru⟩:=r1.one
 obtain⟨t,rfl⟩:=ru
 refine call_range_1 (Calls.spliced_nil ?_)
 have I2:Inv X pins σ H1 { s1 with heap:=s1.heap.push { cls:=.type "range",data:=.fields #[.int 0 s1.toks,.int j t,.int 1 (s1.toks+1)] },toks:=s1.toks+1+1 }:=I1.kept λb o e=>Wp _ e
 have hz:(s1.heap.push { cls:=.type "range",data:=.fields #[.int 0 s1.toks,.int j t,.int 1 (s1.toks+1)] }).objs.size=s1.heap.objs.size+1:=Xi ..
 refine call_list_range (n:=j.toNat) (I1.ok.hd hc) (IsRange.new ..) (small_one (by decide) (by decide) (by omega) (by omega)) (by rw [rangeSize_one];split <;> omega) (by omega) λh' tk acc c' kk hn it=>?_
 obtain⟨i1,i2⟩:=it
 have fr:H1 (s1.heap.objs.size+1)=Y:=I1.hok.fresh (aaC _)
 dsimp only at hn ⊢
 rw [hz] at hn ⊢
 refine⟨.ref _,_,I2.laid (t':=tk) (a:=s1.heap.objs.size+1) (o:=.lst (qI j.toNat)) kk (by show _<=s1.heap.objs.size+1;rw [hz];exact WD _) ⟨?_,acc.toList,c',?_,?_⟩,rfl,q _ fr⟩
 ·simp [qI];rw [ZL];omega
 ·have:=tK acc.toList 0 (λj v hv=>by
   obtain⟨t,e⟩:=i2 j v (by simpa using hv)
   exact⟨t,by rw [e];congr 1;omega⟩)
  rw [YF,i1] at this
  rw [qI,List.range_eq_range']
  exact this
 ·simpa using hn
end
end L2
namespace M
open L2
section
variable{X:Cx}{K:W.Frag}{μ μ':Fp}{H H':Hp}{S S':ac}{pos:Pos}
noncomputable def rN(S:ac):D->Option (List D)
 | .lst xs=>U xs
 | .ref r=>match S[r]? with | some (.lst xs)=>U xs | _=>Y
 | _=>Y
def xk{v:V}{d:D}{ds:List D}(s:SOk K μ S H)(r:Rep K μ H v d)(h:rN S d=U ds):∃ a vs,v=.ref a/\H a=U (.lst vs)/\Reps K μ H vs ds:=by
 cases r with
 | lst hd n rr=>cases h;exact⟨_,_,rfl,hd,rr⟩
 | ref hr=>
  rename_i a i
  unfold rN at h
  dsimp only at h
  cases q:S[i]? with
  | none=>rw [q] at h;cases h
  | some c=>
   rw [q] at h
   have ck:=s.cell _ _ _ hr q
   cases c with
   | lst xs=>cases h;obtain⟨vs,e,rr⟩:=ck;exact⟨a,vs,rfl,e,rr⟩
   | dct ks xs=>cases h
 | _=>cases h
noncomputable def zx:D->Bool
 | .ref _=>true
 | _=>false
noncomputable def aR(S:ac)(x y:D):Option D:=if zx x||zx y then (rN S x).bind λxs=>(rN S y).bind λys=>if xs.length+ys.length<=sizeLine then U (.lst (xs++ys)) else Y else MJ S x y
def Pm:OpR X (binaryOp .Add) (on X.K aR):=OpR.imp (OpR.or Lf TW) λx y H Q ⟨μ,S,dx,dy,dz,hS,h1,h2,h3,post⟩=>by
 unfold aR at h3
 split at h3
 ·obtain⟨xs,e1,h3⟩:=KE.mp h3
  obtain⟨ys,e2,h3⟩:=KE.mp h3
  split at h3
  ·rename_i hl
   cases h3
   obtain⟨a,vs,rfl,q1,r1⟩:=xk hS h1 e1
   obtain⟨b,ws,rfl,q2,r2⟩:=xk hS h2 e2
   have l1:=r1.length
   have l2:=r2.length
   exact .inl ⟨a,b,vs,ws,rfl,rfl,q1,q2,by omega,λp hp=>post.lst hS hp (r1.append r2)⟩
  ·cases h3
 ·exact .inr ⟨μ,S,dx,dy,dz,hS,h1,h2,h3,post⟩
noncomputable def kA:List Int->Int
 | []=>0
 | [a]=>a
 | a::r=>max a (kA r)
theorem qP:∀ {ns:List Int},ns≠[]->kA ns∈ns/\∀ a∈ns,a<=kA ns
 | [a],_=>⟨by simp [kA],λb hb=>by simp at hb;simp [kA,hb]⟩
 | a::b::r,_=>by
  obtain⟨h1,h2⟩:=qP (ns:=b::r) (by simp)
  show max a (kA (b::r))∈_/\∀ c∈_,c<=max a (kA (b::r))
  generalize kA (b::r)=m at h1 h2
  refine⟨?_,λc hc=>?_⟩
  ·by_cases h:m<=a
   ·rw [Int.max_eq_left h];exact Wr
   ·rw [Int.max_eq_right (by omega)];exact Wu _ h1
  ·rcases WM.mp hc with rfl | hc
   ·exact Int.le_max_left _ _
   ·exact aar (h2 c hc) (Int.le_max_right _ _)
def Bj{ns:List Int}{m:Int}(h0:ns≠[])(h1:m∈ns)(h2:∀ a∈ns,a<=m):m=kA ns:=by
 obtain⟨g1,g2⟩:=qP h0
 have:=h2 _ g1
 have:=g2 _ h1
 omega
noncomputable def oK(S:ac):List D->Option D
 | [d]=>(rT S d).bind λns=>if ns.isEmpty then Y else U (.int (kA ns))
 | ds=>Sh S ds
def CallR.or{f:Value}{r r':List V->Hp->VK->Prop}(h:CallR X f r)(h':CallR X f r'):CallR X f (λxs H Q=>r xs H Q\/r' xs H Q):=by
 intro pins s σ H xs us Q I rv q
 rcases q with q | q
 ·exact h pins s σ H xs us Q I rv q
 ·exact h' pins s σ H xs us Q I rv q
def Ju(hc:X.calm=true):CallR X (.builtin "max") (JB X.K (aJ oK)):=CallR.imp (CallR.or (Jq hc) (Jv hc)) λxs H Q ⟨μ,S,ds,d,S',hS,hr,hm,post⟩=>by
 obtain⟨rfl,hm'⟩:=dW hm
 match ds,hr,hm,hm' with
 | [d0],hr,hm,hm'=>
  obtain⟨ns,h1,h2⟩:=KE.mp hm'
  split at h2
  ·cases h2
  ·rename_i h0
   cases h2
   have h0:ns≠[]:=λz=>h0 (by rw [z];rfl)
   obtain⟨v,rfl,rv⟩:=hr.one
   obtain⟨b,rfl,hq,h64⟩:=EA hS rv h1
   refine .inl ⟨b,ns,rfl,hq,h0,λm m1 m2=>?_⟩
   rw [Bj h0 m1 m2]
   exact post.here hS (.int _)
 | [],hr,hm,hm'=>cases hm'
 | _::_::_,hr,hm,hm'=>exact .inr ⟨μ,_,_,d,_,hS,hr,hm,post⟩
noncomputable def eR(ms:MA):ME:=λenv S=>(ms env S).bind λp=>match p.1 with | [.int j]=>if 0<=j/\j<=1000 then U (.lst (cJ 0 j.toNat),p.2) else Y | _=>Y
def Do(n:Nat):Reps K μ H (qI n) (cJ 0 n):=by
 unfold qI cJ
 generalize List.range n=l
 induction l with
 | nil=>exact .nil
 | cons a r ih=>rw [Wx,Wx,Int.zero_add];exact .cons (.int _) ih
def NJ{a:Expr}{ms:MA}{p p2 pos2:Pos}(hc:X.calm=true)(hm:X.mg "list" = Y)(hm2:X.mg "range" = Y)(hg:Gl X "list")(hg2:Gl X "range")(ha:DA X [a] ms)(hs:starEach [a] X.env=[(false,eval a X.env)]) :
  DE X (.Call (.Name "list" p) [.Call (.Name "range" p2) [a] [] pos2] [] pos) (eR ms):=PE.imp (yx hc hm hm2 hg hg2 ha hs) λσ H Q ⟨μ,S,env,d,S',hS,hE,h,post⟩=>by
 obtain⟨⟨ds,S1⟩,h1,h⟩:=KE.mp h
 refine⟨μ,S,env,ds,S1,hS,hE,h1,λvs H1 μ1 e1 s1 r1=>?_⟩
 dsimp only at h
 split at h
 ·rename_i j
  split at h
  ·rename_i hj
   cases h
   obtain⟨v,rfl,rv⟩:=r1.one
   exact⟨j,by rw [rv.int_inv],hj.1,hj.2,λq hq=>(post.ext e1).lst s1 hq (Do _)⟩
  ·cases h
 ·cases h
noncomputable def gE(t:MT)(body:MS):Nat->bj->ac->Option nH
 | 0,_,_=>Y
 | f+1,env,S=>(t env S).bind λp=>if p.1=true then (body env p.2).bind λo=>match o with
   | .nx e s=>gE t body f e s
   | .ct e s=>gE t body f e s
   | .bk e s=>U (.nx e s)
   | .rt d s=>U (.rt d s)
  else U (.nx env p.2)
noncomputable def eO(t:MT)(body:MS):MS:=gE t body 5000
def Nr{c:Expr}{body:List Stmt}{t:MT}{mb:MS}(hp:PassesOwn (model X.prog X.w) X.A X.env X.xe)(hc:DT X c t)(hb:vH X body mb):DS X (.While c body [] pos) (eO t mb):=PS.imp (KG hp hc hb) λE σ H ⟨μ,S,env,o,hS,hE,hm,post⟩=>by
 refine⟨λn σ' H'=>∃ μ' S' env' o',Ext μ H μ' H'/\SOk X.K μ' S' H'/\EOk X.K μ' H' σ' env'/\gE t mb n env' S'=U o'/\PostS X.K μ' H' o' E,⟨5000,μ,S,env,o,hS.ext,hS,hE,hm,post⟩,?_⟩
 rintro n σ' H' ⟨μ',S',env',o',e',s',r',hl,post'⟩
 cases n with
 | zero=>cases hl
 | succ n=>
  obtain⟨⟨b,S1⟩,h1,hl⟩:=KE.mp hl
  refine⟨μ',S',env',b,S1,s',r',h1,λH2 μ2 e2 s2=>?_⟩
  have eT:Ext μ H μ2 H2:=e'.trans e2
  have pT:PostS X.K μ2 H2 o' E:=post'.ext e2
  cases b with
  | false=>cases hl;dsimp only;rw [if_neg Bool.false_ne_true];exact pT σ' H2 μ2 s2.ext s2 (r'.mono e2)
  | true=>
   dsimp only
   rw [WI rfl]
   obtain⟨o4,h4,hl⟩:=KE.mp hl
   refine⟨λσ2 H2=>∃ μ2 S2 env2 o2,Ext μ H μ2 H2/\SOk X.K μ2 S2 H2/\EOk X.K μ2 H2 σ2 env2/\gE t mb n env2 S2=U o2/\PostS X.K μ2 H2 o2 E,λσ2 H2 ⟨μ2,S2,env2,o2,q1,q2,q3,q4,q5⟩=>⟨n,by omega,μ2,S2,env2,o2,q1,q2,q3,q4,q5⟩,?_⟩
   refine⟨μ2,S1,env',o4,s2,r'.mono e2,h4,?_⟩
   cases o4 with
   | nx e5 s5=>exact λσ6 H6 μ6 e6 s6 r6=>⟨μ6,s5,e5,o',eT.trans e6,s6,r6,hl,pT.ext e6⟩
   | ct e5 s5=>exact λσ6 H6 μ6 e6 s6 r6=>⟨μ6,s5,e5,o',eT.trans e6,s6,r6,hl,pT.ext e6⟩
   | bk e5 s5=>cases hl;exact pT
   | rt d5 s5=>cases hl;exact pT
end
inductive TabRel:List (bt×Value)->List (bt×D)->Prop
 | nil:TabRel [] []
 | cons {k:bt} {v:Value} {d:D} {vs:List (bt×Value)} {ds:List (bt×D)} (x:V) (h:RelV x v) (r:∀ K μ H,Rep K μ H x d) (t:TabRel vs ds):TabRel ((k,v)::vs) ((k,d)::ds)
theorem TabRel.val{k:bt}:∀ {vs ds},TabRel vs ds->∀ {d},fY ds k=U d->∃ v x,valueAt vs k=U v/\RelV x v/\∀ K μ H,Rep K μ H x d
 | _,_,.nil,d,h=>by cases h
 | _,_,.cons (k:=k') (v:=v) x h r t,d,q=>by
  unfold fY at q
  split at q
  ·rename_i e;cases q;refine⟨v,x,?_,h,r⟩;simp only at e;simp [valueAt,e]
  ·rename_i e
   obtain⟨v',x',h1,h2,h3⟩:=TabRel.val t q
   refine⟨v',x',?_,h2,h3⟩
   simp only at e
   rw [<- h1]
   simp [valueAt,e]
structure sr(w:World)(K:W.Frag)(mg:Str->Option Value)(x:Str)(l:List (bt×D)):Prop where
 ex:∃ (a:Addr) (vs:List (bt×Value)),mg x=U (.ref a)/\(∀ (P:Program) (h:Heap),K.In h->h.DictOf (bQ P w) a vs)/\TabRel vs l
section
variable{X:Cx}
def Me{a:Addr}{vs:List (bt×Value)}(hd:∀ (P:Program) (h:Heap),X.K.In h->h.DictOf (bQ P X.w) a vs):IxR X (λx y H Q=>∃ k v z,x=.ref a/\y=kV k/\valueAt vs k=U v/\RelV z v/\Q z H):=by
 intro value slice pins s σ H x y v u Q I rx ry h hs
 obtain⟨k,v',z,rfl,rfl,hv,rz,q⟩:=h
 cases rx
 have dd:=hd X.prog s.heap I.kIn
 exact tail_any dd.typeIs F.slot_dict_getitem.lookup (wpAny_getItem_of (pY ry) dd.mapOf hv ⟨z,H,I.tok _,rz,q⟩) hs
noncomputable def df(l:List (bt×D))(mi:ME):ME:=λenv S=>(mi env S).bind λp=>(ee p.1).bind λk=>(fY l k).bind λd=>U (d,p.2)
def NF{x:Str}{l:List (bt×D)}{i:Expr}{mi:ME}{p pos:Pos}(g:sr X.w X.K X.mg x l)(hg:Gl X x)(hx:(x == ("__debug__":Str))=false)(hi:DE X i mi)(hs:oi i:=by intro _ _;rfl):DE X (.Subscript (.Name x p) i pos) (df l mi):=by
 obtain⟨a,vs,h1,h2,h3⟩:=g.ex
 refine PE.imp (KU (Me h2) (yy (v:=.ref a) hg h1 rfl hx) hi hs) λσ H Q ⟨μ,S,env,d,S',hS,hE,hm,post⟩=>?_
 obtain⟨⟨y,S1⟩,e1,hm⟩:=KE.mp hm
 obtain⟨k,e2,hm⟩:=KE.mp hm
 obtain⟨d',e3,hm⟩:=KE.mp hm
 cases hm
 obtain⟨v,z,v1,v2,v3⟩:=h3.val e3
 exact⟨μ,S,env,y,_,hS,hE,e1,λu H1 μ1 ex s1 r1=>⟨k,v,z,rfl,ig e2 r1,v1,v2,post _ H1 μ1 ex s1 (v3 _ _ _)⟩⟩
end
def Aj{w:World}{K:W.Frag}{a:Addr}{es:Array DictEntry}{n:Nat}(hl:K.lookup a=U ⟨.type "dict",Y,.dict es n,#[]⟩){vs:List (bt×Value)}(hp:∀ P,Pairs (bQ P w) es.toList vs)(hk:∀ P,KeysOf (bQ P w) es)(hn:(vs.map (·.1)).Nodup) :
  ∀ (P:Program) (h:Heap),K.In h->h.DictOf (bQ P w) a vs:=λP h KX=>⟨_,es,n,KX a _ hl,⟨rfl,rfl,rfl⟩,rfl,hk P,hp P,hn⟩
inductive TabLit(w:World):List DictEntry->List (bt×Value)->Prop
 | nil:TabLit w [] []
 | cons {x:Str} {t:Tok} {v:Value} {es:List DictEntry} {vs:List (bt×Value)} (h:TabLit w es vs):TabLit w (⟨PyData.keyHash w.params x,.str x t,v⟩::es) ((.inr x,v)::vs)
theorem TabLit.pairs{w:World}{P:Program}:∀ {es vs},TabLit w es vs->Pairs (bQ P w) es vs
 | _,_,.nil=>.nil
 | _,_,.cons (x:=x) (t:=t) h=>.cons (pY (k:=.inr x) (show RelV (V.str x) (Value.str x t) from ⟨t,rfl⟩)) rfl h.pairs
theorem TabLit.keys{w:World}{P:Program}:∀ {es vs},TabLit w es vs->∀ e∈es,∃ k,(bQ P w).is k e.key=true/\e.hash=(bQ P w).hash k
 | _,_,.nil,e,h=>by simp at h
 | _,_,.cons (x:=x) (t:=t) h,e,he=>by
  rcases WM.mp he with rfl | he
  ·exact⟨.inr x,pY (k:=.inr x) (show RelV (V.str x) (Value.str x t) from ⟨t,rfl⟩),rfl⟩
  ·exact h.keys e he
def CT{w:World}{K:W.Frag}{mg:Str->Option Value}{x:Str}{a:Addr}{es:List DictEntry}{n:Nat}{vs:List (bt×Value)}{l:List (bt×D)}(hg:mg x=U (.ref a))(hl:K.lookup a=U ⟨.type "dict",Y,.dict es.toArray n,#[]⟩)(t:TabLit w es vs)(hn:(vs.map (·.1)).Nodup)(r:TabRel vs l):sr w K mg x l:=
 ⟨a,vs,hg,Aj hl (λP=>by simpa using t.pairs) (λP e he=>t.keys e (by simpa using he)) hn,r⟩
section
variable{X:Cx}{K:W.Frag}{μ:Fp}{H:Hp}{S:ac}
noncomputable def nj:MF:=λo ds S=>match ds with
 | [x]=>if sM S o=true then (iU S o).bind λys=>if cP 40 x=true/\ys.all (cP 39)=true/\ys.length<=sizeLine then (ys.findIdx? λd=>jJ d x).bind λj=>U (.int (j:Nat),S) else Y else Y
 | _=>Y
theorem vm{pins:List (Addr×Obj)}{σ:L2.St}{s:Shared}(I:Inv X pins σ H s){x:D}:∀ {vs:List V} {us:List Value} {ds:List D},Vals vs us->Reps X.K μ H vs ds->(∀ d∈ds,cP 39 d=true) ->
  us.map (fj X.K μ H x)=ds.map λd=>jJ d x
 | _,_,_,.nil,.nil,_=>rfl
 | _,_,_,.cons rv tv,.cons r t,ok=>by
  rw [Wx,Wx,qr I rv r (ok _ Wr),vm I tv t λd m=>ok d (Wu _ m)]
def Lm(hu:X.A.units+64<cLine):MtR X "list.index" (Og X.K nj):=by
 intro pins s σ H x vs v us Q I rx rv h
 obtain⟨μ,S,dx,ds,d,S',hS,r1,r2,h,post⟩:=h
 unfold nj at h
 split at h
 ·rename_i y
  split at h
  ·rename_i hl
   obtain⟨a,ws,es,rfl,hq,hse,re⟩:=pW hS r1 hl
   rw [hse] at h
   dsimp only [Option.bind_some] at h
   split at h
   ·rename_i hk
    obtain⟨j,hj,h⟩:=KE.mp h
    cases h
    cases rx
    obtain⟨w,rfl,rw0⟩:=r2.one
    obtain⟨u,rfl,ru⟩:=rv.one
    obtain⟨its,rvs,⟨⟨cls,dd,data,sl⟩,n,e,hc,hdd,hd⟩,hz⟩:=I.list hq
    simp only at hc hdd hd
    subst hc hdd hd
    have ok:=WJ.mp hk.2.1
    have em:=vm (x:=y) I rvs re ok
    have ln:its.length=es.length:=by rw [<- re.length,rvs.length]
    obtain⟨hj1,hj2,hj3⟩:=Zq.mp hj
    have at_:∀ (m:Nat) (h1:m<its.length) (h2:m<es.length),fj X.K μ H y its[m]=jJ es[m] y:=λm h1 h2=>by
     have:(its.map (fj X.K μ H y))[m]?=(es.map λd=>jJ d y)[m]?:=by rw [em]
     rw [XV,XV,Wv h1,Wv h2] at this
     simpa using this
    have sz:sizeLine<2 ^ 63 - 1:=by decide
    refine Yp F.slot_list_index ⟨_,e,rfl⟩ F.entry_list_index (F.args_list_index_2 _ _) (SeqAt.list_indexAt a its.toArray n Y sl u (fj X.K μ H y) j (by simpa [ln] using hj1) (by have:=hk.2.2;omega) ?_ ?_) ⟨e,λw' hw'=>?_,?_⟩
    ·rw [aat,at_ j (by omega) hj1];exact hj2
    ·intro m hm hmj
     rw [aat,at_ m (by simpa using hm) (by omega)]
     have:=hj3 m hmj
     simpa using this
    ·exact gm I (by show X.A.units+1+40<cLine;omega) ru rw0 hk.1 rvs re ok w' (by simpa using hw')
    ·exact⟨.int _,H,I.tok _,⟨_,rfl⟩,post.here hS (.int _)⟩
   ·cases h
  ·cases h
 ·cases h
def vA{o:Expr}{name:Str}{env:Env}{w:Sem Value}(h:(match o with | .Call _ _ _ _=>false | _=>true)=true):attributeBase o name env w=w:=by
 cases o <;> first | rfl | cases h
end
section
variable{X:Cx}{K:W.Frag}{μ μ':Fp}{H H':Hp}{S S':ac}{tg iter:Expr}{pos:Pos}
noncomputable def Gb(g:MG)(t:MT)(e:ME)(r:Nat):Nat->Nat->bj->ac->Option (List D×ac)
 | 0,_,_,_=>Y
 | f+1,i,env,S=>match S[r]? with
  | some (.lst xs)=>match xs[i]? with
   | none=>U ([],S)
   | some d=>(g d env S).bind λp=>(t p.1 p.2).bind λb=>if b.1=true then (e p.1 b.2).bind λy=>(Gb g t e r f (i+1) p.1 y.2).bind λz=>U (y.1::z.1,z.2) else Gb g t e r f (i+1) p.1 b.2
  | _=>Y
end
end M
namespace L2
section
variable{X:Cx}
end
end L2
namespace M
open L2
section
variable{X:Cx}{K:W.Frag}{μ μ':Fp}{H H':Hp}{S:ac}
noncomputable def fAddS(S:ac)(x y:D):Option D:=match x,y with
 | .str a,.str b=>if a.length+b.length<=sizeLine then U (.str (a++b)) else Y
 | _,_=>Y
noncomputable def fStr1(S:ac)(ds:List D):Option D:=match ds with
 | [.int i]=>if i.natAbs.log2<1920 then U (.str (toString i)) else Y
 | [.non]=>U (.str "None")
 | _=>Y
noncomputable def fmtD:D->Option Str
 | .str y=>if y.length<=sizeLine then U y else Y
 | .int i=>if i.natAbs.log2<1920 then U (toString i) else Y
 | _=>Y
noncomputable def Uf:List ME->Str->ME
 | [],out=>λ_ S=>U (.str out,S)
 | m::r,out=>λenv S=>(m env S).bind λp=>match p.1 with
  | .str y=>if (out++y).length<=sizeLine then Uf r (out++y) env p.2 else Y
  | _=>Y
inductive DEs(X:Cx):List Expr->List ME->Prop
 | nil:DEs X [] []
 | cons {e:Expr} {m:ME} {es:List Expr} {ms:List ME} (h:DE X e m) (t:DEs X es ms):DEs X (e::es) (m::ms)
noncomputable def Fz:List D->Option (List Str)
 | []=>U []
 | .str x::r=>(Fz r).bind λxs=>U (x::xs)
 | _::_=>Y
noncomputable def fJoin:MF:=λo ds S=>match o,ds with
 | .str sep,[y]=>(iU S y).bind λxs=>(Fz xs).bind λys=>if (ys.map (·.length)).sum+ys.length * sep.length<=16777216 then U (.str (Str.join sep ys),S) else Y
 | _,_=>Y
noncomputable def isStrB:D->Bool
 | .str _=>true
 | _=>false
end
end M
namespace HT
def JJ(l1 l2:Addr)(xs ys:Array Value) :
  Meets (Builtin.«zip.__new__» ⟨[.type "zip",.ref l1,.ref l2],[]⟩) (λ_ R s=>s.heap.IsTuple l1 xs/\s.heap.IsList l2 ys /\
   ∀ h',IsZip h' (s.heap.objs.size+4) (s.heap.objs.size+2) (s.heap.objs.size+3) .none->IsPair h' (s.heap.objs.size+2) (.ref s.heap.objs.size) (.ref (s.heap.objs.size+1))->IsPair h' (s.heap.objs.size+3) .none .none ->
    h'.IsTupleIter s.heap.objs.size l1 0->h'.IsListIter (s.heap.objs.size+1) l2 0->h'.objs.size=s.heap.objs.size+5->(∀ c o,s.heap.get? c=U o->h'.get? c=U o)->R (.ok (.ret (.ref (s.heap.objs.size+4)))) { s with heap:=h' }):=
 .of_wp λprog w A R s h=>by
  obtain⟨hl,hl2,h⟩:=h
  unfold Builtin.«zip.__new__»
  refine Wn ?_
  show wpAny _ _ (isType (.type "zip") >>= _) _ _ _
  refine Wn (Zj (a:=true) (by first | rfl | simp [isType]) ?_)
  show wpAny _ _ (isSubtype (.type "zip") (.type "zip") >>= _) _ _ _
  refine Wn (Zj sub_zip (Wz ?_))
  show wpAny _ _ (Builtin.SmallTypes.iterAll [.ref l1,.ref l2] >>= _) _ _ _
  refine Wn ?_
  unfold Builtin.SmallTypes.iterAll
  refine Wn ?_
  rw [XH]
  refine Wn (Wn (XJ (Yc hl (Wz ?_))))
  have g1:=WF s.heap (o:={ cls:=.type "tuple_iterator",data:=.fields #[.ref l1,.int 0 0] }) rfl
  have k1:∀ c o,s.heap.get? c=U o->(s.heap.push { cls:=.type "tuple_iterator",data:=.fields #[.ref l1,.int 0 0] }).get? c=U o:=λc o=>Wp _
  have z1:(s.heap.push { cls:=.type "tuple_iterator",data:=.fields #[.ref l1,.int 0 0] }).objs.size=s.heap.objs.size+1:=Xi ..
  generalize s.heap.push { cls:=.type "tuple_iterator",data:=.fields #[.ref l1,.int 0 0] } = h1 at g1 k1 z1 ⊢
  have hl2':h1.IsList l2 ys:=by obtain⟨o,ho,r⟩:=hl2;exact⟨o,k1 _ _ ho,r⟩
  show wpAny _ _ (forIn [Value.ref l2] _ _) _ _ _
  rw [XH]
  refine Wn (Wn (XJ (Yu hl2' (Wz ?_))))
  dsimp only
  have g2:=WF h1 (o:={ cls:=.type "list_iterator",data:=.fields #[.ref l2,.int 0 0] }) rfl
  have k2:∀ c o,h1.get? c=U o->(h1.push { cls:=.type "list_iterator",data:=.fields #[.ref l2,.int 0 0] }).get? c=U o:=λc o=>Wp _
  have z2:(h1.push { cls:=.type "list_iterator",data:=.fields #[.ref l2,.int 0 0] }).objs.size=s.heap.objs.size+2:=by rw [Xi,z1]
  generalize h1.push { cls:=.type "list_iterator",data:=.fields #[.ref l2,.int 0 0] } = h2 at g2 k2 z2 ⊢
  rw [z1] at g2 ⊢
  show wpAny _ _ (pure _) _ _ _
  refine Wz (Wz ?_)
  show wpAny _ _ (newTuple [.ref s.heap.objs.size,.ref (s.heap.objs.size+1)] >>= _) _ _ _
  refine Wn ?_
  simp only [newTuple]
  refine WY ?_ (by size_fits)
  have g3:=WF h2 (o:={ cls:=.type "tuple",data:=.seq #[.ref s.heap.objs.size,.ref (s.heap.objs.size+1)] }) rfl
  have k3:∀ c o,h2.get? c=U o->(h2.push { cls:=.type "tuple",data:=.seq #[.ref s.heap.objs.size,.ref (s.heap.objs.size+1)] }).get? c=U o:=λc o=>Wp _
  have z3:(h2.push { cls:=.type "tuple",data:=.seq #[.ref s.heap.objs.size,.ref (s.heap.objs.size+1)] }).objs.size=s.heap.objs.size+3:=by rw [Xi,z2]
  dsimp only
  show wpAny _ _ _ _ _ { s with heap:=h2.push { cls:=.type "tuple",data:=.seq #[.ref s.heap.objs.size,.ref (s.heap.objs.size+1)] } }
  generalize h2.push { cls:=.type "tuple",data:=.seq #[.ref s.heap.objs.size,.ref (s.heap.objs.size+1)] } = h3 at g3 k3 z3 ⊢
  rw [z2] at g3 ⊢
  refine Wn ?_
  show wpAny _ _ (newObj (.type "tuple") (.seq #[.none,.none])) _ _ _
  refine WY ?_ (by size_fits)
  have g4:=WF h3 (o:={ cls:=.type "tuple",data:=.seq #[.none,.none] }) rfl
  have k4:∀ c o,h3.get? c=U o->(h3.push { cls:=.type "tuple",data:=.seq #[.none,.none] }).get? c=U o:=λc o=>Wp _
  have z4:(h3.push { cls:=.type "tuple",data:=.seq #[.none,.none] }).objs.size=s.heap.objs.size+4:=by rw [Xi,z3]
  dsimp only
  generalize h3.push { cls:=.type "tuple",data:=.seq #[.none,.none] } = h4 at g4 k4 z4 ⊢
  rw [z3] at g4 ⊢
  refine Wn ?_
  show wpAny _ _ (newObj (.type "zip") (.fields #[.none,.bool false,.bool false,.ref (s.heap.objs.size+2),.ref (s.heap.objs.size+3)])) _ _ _
  refine WY ?_ (by size_fits)
  have g5:=WF h4 (o:={ cls:=.type "zip",data:=.fields #[.none,.bool false,.bool false,.ref (s.heap.objs.size+2),.ref (s.heap.objs.size+3)] }) rfl
  have k5:∀ c o,h4.get? c=U o->(h4.push { cls:=.type "zip",data:=.fields #[.none,.bool false,.bool false,.ref (s.heap.objs.size+2),.ref (s.heap.objs.size+3)] }).get? c=U o:=λc o=>Wp _
  have z5:(h4.push { cls:=.type "zip",data:=.fields #[.none,.bool false,.bool false,.ref (s.heap.objs.size+2),.ref (s.heap.objs.size+3)] }).objs.size=s.heap.objs.size+5:=by rw [Xi,z4]
  dsimp only
  generalize h4.push { cls:=.type "zip",data:=.fields #[.none,.bool false,.bool false,.ref (s.heap.objs.size+2),.ref (s.heap.objs.size+3)] } = h5 at g5 k5 z5 ⊢
  rw [z4] at g5 ⊢
  refine Wz ⟨_,rfl,h h5 g5 (k5 _ _ (k4 _ _ g3)) (k5 _ _ g4) ⟨_,k5 _ _ (k4 _ _ (k3 _ _ (k2 _ _ g1))),rfl,rfl⟩ ⟨_,k5 _ _ (k4 _ _ (k3 _ _ g2)),rfl,rfl⟩ z5 λc o e=>k5 _ _ (k4 _ _ (k3 _ _ (k2 _ _ (k1 _ _ e))))⟩
section
variable{prog:Program}{w:World}{A:Around}{E:Value->Shared->Prop}{s:Shared}
def Jo{l1 l2:Addr}{xs ys:Array Value}{Q:Value->Shared->Prop}(hL:s.heap.IsTuple l1 xs)(hL2:s.heap.IsList l2 ys)
  (h:∀ h':Heap,IsZip h' (s.heap.objs.size+4) (s.heap.objs.size+2) (s.heap.objs.size+3) .none->IsPair h' (s.heap.objs.size+2) (.ref s.heap.objs.size) (.ref (s.heap.objs.size+1))->IsPair h' (s.heap.objs.size+3) .none .none ->
    h'.IsTupleIter s.heap.objs.size l1 0->h'.IsListIter (s.heap.objs.size+1) l2 0->h'.objs.size=s.heap.objs.size+5->(∀ c o,s.heap.get? c=U o->h'.get? c=U o)->Q (.ref (s.heap.objs.size+4)) { s with heap:=h' }) :
  wpAny (model prog w) A (call (.type "zip") [.ref l1,.ref l2]) Q E s:=by
 refine aan F.called_zip (by decide) (F.typeCall_zip_2 _ _) (F.newCall_zip_2 _ _) (λobj=>aau obj _ _) F.entry_zip_new (JJ l1 l2 xs ys) ⟨hL,hL2,λh' a b c d e f g=>?_⟩
 exact⟨⟨_,a,rfl⟩,h h' a b c d e f g⟩
end
def QL{prog:Program}{w:World}{A:Around}(hh:A.handled=Y)(it t:Addr)(hne:t≠it)(items:Array Value) :
  Draws prog w A it [it,t] items.size (λi v=>items[i]?=U v) (λi h=>h.IsListIter it t i/\h.IsList t items) where
 live:=λ_ _ st=>by obtain⟨o,ho,_⟩:=st.1;exact⟨o,ho⟩
 frame:=λ_ _ _ st hk=>by
  obtain⟨⟨o,ho,r⟩,⟨o2,ho2,r2⟩⟩:=st
  exact⟨⟨o,hk it (by simp) o ho,r⟩,⟨o2,hk t (by simp) o2 ho2,r2⟩⟩
 item:=λi s Q E hi st hQ=>wpAny_nextOf_list_item st.1 st.2 (x:=items[i]) (by simp [hi]) λh' hit' hs'=>hQ _ h' s.toks (by simp [hi]) ⟨hit',by obtain⟨o2,ho2,r2⟩:=st.2;exact⟨o2,(hs'.2 t hne).trans ho2,r2⟩⟩ hs'
 done:=λs Q E st hE=>aak hh st.1 st.2 (by simp) hE
end HT
namespace L2
section
noncomputable def ItzL(K:W.Frag)(a b:Addr):It:=
 ⟨λi H=>∃ xs ys x y,kQ K H a xs/\my K H b ys/\xs[i]?=U x/\ys[i]?=U y,
 λi H x H'=>∃ p v u,x=.ref p/\H p=Y/\H'=upd H p (.tup [v,u])/\(∀ xs,kQ K H a xs->xs[i]?=U v)/\∀ ys,my K H b ys->ys[i]?=U u,
 λi H=>∃ xs ys,kQ K H a xs/\my K H b ys/\(xs.length<=i\/ys.length<=i)⟩
def TnZL(z TI TO i1 i2 a b:Addr)(i:Nat)(h:Heap):Prop:=IsZip h z TI TO .none/\IsPair h TI (.ref i1) (.ref i2)/\(∃ u v,IsPair h TO u v)/\h.IsTupleIter i1 a i/\h.IsListIter i2 b i
def IU{prog:Program}{w:World}{A:Around}(hh:A.handled=Y)(it a:Addr)(items:Array Value)(i:Nat)(hx:items[i]?=Y) :
  Draws prog w A it [it,a] i (λ_ _=>True) (λj h=>j=i/\h.IsListIter it a i/\h.IsList a items):=
 {live:=λ_ _ q=>by obtain⟨_,⟨o,ho,_⟩,_⟩:=q;exact⟨o,ho⟩
  frame:=λ_ _ _ q hk=>by
   obtain⟨q0,⟨o,ho,r⟩,⟨o2,ho2,r2⟩⟩:=q
   exact⟨q0,⟨o,hk it (by simp) o ho,r⟩,⟨o2,hk a (by simp) o2 ho2,r2⟩⟩
  item:=λj _ _ _ hj q _=>absurd q.1 (WU hj)
  done:=λs Q E q hE=>aak hh q.2.1 q.2.2 hx hE }
def GZ{P:Program}{w:World}{K:W.Frag}{es:List Expr}{k:Nat}{pos:Pos}(a b z TI TO i1 i2:Addr)(Z:HT.vB z TI TO i1 i2 [i1,a] [i2,b]):CK P w K (.Tuple es k pos) (ItzL K a b) [z,TI,TO,i1,i2] z (TnZL z TI TO i1 i2 a b) where
 mem:=by simp
 obj:=λi h st c hc=>by
  obtain⟨hz,hTI,⟨u,v,hTO⟩,⟨o,ho,hc1,hd⟩,⟨o2,ho2,hc2,hd2⟩⟩:=st
  simp only [WM,Xp,Yv] at hc
  rcases hc with rfl | rfl | rfl | rfl | rfl
  ·exact⟨_,hz,λv z=>by cases z⟩
  ·exact⟨_,hTI,λv z=>by cases z⟩
  ·exact⟨_,hTO,λv z=>by cases z⟩
  ·exact⟨o,ho,λv z=>by rw [hd] at z;cases z⟩
  ·exact⟨o2,ho2,λv z=>by rw [hd2] at z;cases z⟩
 keep:=λi h h' st kk=>by
  obtain⟨hz,hTI,⟨u,v,hTO⟩,⟨o,ho,r⟩,⟨o2,ho2,r2⟩⟩:=st
  exact⟨kk z (by simp) _ hz,kk TI (by simp) _ hTI,⟨u,v,kk TO (by simp) _ hTO⟩,⟨o,kk i1 (by simp) _ ho,r⟩,⟨o2,kk i2 (by simp) _ ho2,r2⟩⟩
 item:=by
  intro X hP hw hK hc i pins s σ H E I hf st hg
  subst hP hw hK
  obtain⟨xs,ys,x,y,hq,hq2,hx,hy⟩:=hg
  obtain⟨its,rv,p,hz0⟩:=I.tuple hq
  obtain⟨its2,rv2,⟨ob,nb,pb1,pb2,pb3,pb4⟩,hz2⟩:=I.list hq2
  have hT:s.heap.IsTuple a its.toArray:=p
  have hT2:s.heap.IsList b its2.toArray:=⟨ob,pb1,pb2,nb,pb4⟩
  have hh:=I.ok.hd hc
  obtain⟨hz,hTI,⟨u0,v0,hTO⟩,hit1,hit2⟩:=st
  have li:i<its.toArray.size:=by rw [Wt,<- rv.length];exact(Wo.mp hx).1
  have li2:i<its2.toArray.size:=by rw [Wt,<- rv2.length];exact(Wo.mp hy).1
  have nea:a≠i1:=λe=>by
   obtain⟨o',ho',hc',_⟩:=hit1
   obtain⟨o,ho,hcl,_⟩:=hT
   rw [e,ho'] at ho;cases ho;rw [hc'] at hcl;exact absurd hcl (by decide)
  have neb:b≠i2:=λe=>by
   obtain⟨o',ho',hc',_⟩:=hit2
   obtain⟨o,ho,hcl,_⟩:=hT2
   rw [e,ho'] at ho;cases ho;rw [hc'] at hcl;exact absurd hcl (by decide)
  have Tn:∀ c,c∈[z,TI,TO,i1,i2]->s.heap.objs.size≠c:=λc hc=>by
   simp only [WM,Xp,Yv] at hc
   rcases hc with rfl | rfl | rfl | rfl | rfl
   ·exact Xz (Wy hz)
   ·exact Xz (Wy hTI)
   ·exact Xz (Wy hTO)
   ·obtain⟨o,ho,_⟩:=hit1;exact Xz (Wy ho)
   ·obtain⟨o,ho,_⟩:=hit2;exact Xz (Wy ho)
  refine HT.rH Z (HT.pi (prog:=X.prog) (w:=X.w) (A:=X.A.in1) hh i1 a nea its.toArray) (HT.QL (prog:=X.prog) (w:=X.w) (A:=X.A.in1) hh i2 b neb its2.toArray) hz hTI hTO ⟨hit1,hT⟩ ⟨hit2,hT2⟩ li li2 λx' y' h1 tk hx' hy' ez eo st1 st2 hT1 hsz kk=>⟨_,rfl,?_⟩
  refine ZS ez λh2 ez2 sb=>?_
  generalize hTT:s.heap.objs.size=T at *
  obtain⟨u,hu,ru⟩:=rv.get hx
  obtain⟨u2,hu2,ru2⟩:=rv2.get hy
  have ex:x'=u:=by
   rw [show its.toArray[i]?=its[i]? by simp,hu] at hx'
   exact(WH hx').symm
  have ey:y'=u2:=by
   rw [show its2.toArray[i]?=its2[i]? by simp,hu2] at hy'
   exact(WH hy').symm
  subst ex ey
  have kall:∀ c o,c ∉ [z,TI,TO,i1,i2]->s.heap.get? c=U o->h2.get? c=U o:=λc o hb q=>by
   simp only [WM,Xp,Yv,aaE] at hb
   exact(sb.2 c hb.1).trans (kk c o hb.1 hb.2.2.1 hb.2.2.2.1 hb.2.2.2.2 q)
  have hTp:IsTupN h2 T #[x',y']:=⟨_,(sb.2 T (Tn z (by simp))).trans hT1,rfl,⟨_,rfl⟩,rfl⟩
  have hTs:s.heap.objs.size<=T:=Zd hTT
  have TIi:TI≠i1/\TI≠i2:=⟨Z.t1,Z.t2⟩
  refine⟨.ref T,upd H T (.tup [x,y]),I.turnLaid kall hf hTs ⟨by show 2<=sizeLine;decide,[x',y'],.cons ru (.cons ru2 .nil),hTp⟩,rfl,⟨T,x,y,rfl,I.hok.fresh hTs,rfl,λzs hz=>by rw [I.tuple_inj hz hq];exact hx,λzs hz=>by rw [I.list_inj hz hq2];exact hy⟩,⟨ez2,(sb.2 TI Z.TIz).trans (kk TI _ Z.TIz Z.TITO Z.t1 Z.t2 hTI),⟨x',y',(sb.2 TO Z.TOz).trans eo⟩,?_,?_⟩,λc hc=>?_⟩
  ·obtain⟨⟨o,ho,r⟩,_⟩:=st1
   exact⟨o,(sb.2 i1 (λe=>Z.z1 (by simp [e]))).trans ho,r⟩
  ·obtain⟨⟨o,ho,r⟩,_⟩:=st2
   exact⟨o,(sb.2 i2 (λe=>Z.z2 (by simp [e]))).trans ho,r⟩
  ·rw [bm (Tn c hc).symm]
   exact(hf c hc).1
 done:=by
  intro X hP hw hK hc i pins s σ H E I hf st hg
  subst hP hw hK
  obtain⟨xs,ys,hq,hq2,hl⟩:=hg
  obtain⟨its,rv,p,hz0⟩:=I.tuple hq
  obtain⟨its2,rv2,⟨ob,nb,pb1,pb2,pb3,pb4⟩,hz2⟩:=I.list hq2
  have hT:s.heap.IsTuple a its.toArray:=p
  have hT2:s.heap.IsList b its2.toArray:=⟨ob,pb1,pb2,nb,pb4⟩
  have hh:=I.ok.hd hc
  obtain⟨hz,hTI,⟨u0,v0,hTO⟩,hit1,hit2⟩:=st
  have fin:∀ h' tk,(∀ c o,c≠z->c≠TO->c≠i1->c≠i2->s.heap.get? c=U o->h'.get? c=U o)->(Y:Option Value)=Y/\Inv X pins σ H { s with heap:=h',toks:=tk }:=λh' tk kk=>⟨rfl,I.turnedL (fp:=[z,TI,TO,i1,i2]) (λc o hb q=>by
   simp only [WM,Xp,Yv,aaE] at hb
   exact kk c o hb.1 hb.2.2.1 hb.2.2.2.1 hb.2.2.2.2 q) hf⟩
  by_cases h1:xs.length<=i
  ·exact HT.pC Z (vn (prog:=X.prog) (w:=X.w) (A:=X.A.in1) hh i1 a its.toArray i (by simp;have:=rv.length;omega)) hz hTI hTO ⟨rfl,hit1,hT⟩ fin
  ·have h2:ys.length<=i:=hl.resolve_left h1
   have nea:a≠i1:=λe=>by
    obtain⟨o',ho',hc',_⟩:=hit1
    obtain⟨o,ho,hcl,_⟩:=hT
    rw [e,ho'] at ho;cases ho;rw [hc'] at hcl;exact absurd hcl (by decide)
   exact HT.pB Z (HT.pi (prog:=X.prog) (w:=X.w) (A:=X.A.in1) hh i1 a nea its.toArray) (IU (prog:=X.prog) (w:=X.w) (A:=X.A.in1) hh i2 b its2.toArray i (by simp;have:=rv2.length;omega)) hz hTI hTO ⟨hit1,hT⟩ (by simp;have:=rv.length;omega) ⟨rfl,hit2,hT2⟩ fin
 self:=λA i s Q E st h=>YT st.1 h
def iZipL(K:W.Frag)(t:TA):TI:=λσ H R=>t σ H λxs H1=>∃ a b,xs=[.ref a,.ref b]/\(∃ ys,kQ K H1 a ys)/\(∃ ys,my K H1 b ys)/\R (ItzL K a b) H1
variable{X:Cx}
def OQ{a b:Expr}{ta:TA}{es:List Expr}{k:Nat}{tp p pos:Pos}(hg:Gl X "zip")(hm:X.mg "zip" = Y)(ha:PA X [a,b] ta)(hs:starEach [a,b] X.env=[(false,eval a X.env),(false,eval b X.env)])(hs2:starEach [b] X.env=[(false,eval b X.env)]) :
  PI X (.Tuple es k tp) (.Call (.Name "zip" p) [a,b] [] pos) (iZipL X.K ta):=by
 intro pins s σ H R I h
 refine Call_ (kH I hg hm boot_zip (Xe (dh (ha pos pins s σ H _ I h) λus s1 ⟨vs,H1,I1,r1,q1⟩=>?_) (by rw [hs,hs2]) (by rw [hs2];rfl)))
 obtain⟨t,t2,rfl,⟨ys,hq⟩,⟨ys2,hq2⟩,q⟩:=q1
 obtain⟨u,v,rfl,ru,rv⟩:=r1.two
 cases ru
 cases rv
 obtain⟨its,rv,pt,hz⟩:=I1.tuple hq
 obtain⟨its2,rv2,⟨ob,nb,pb1,pb2,pb3,pb4⟩,hz2⟩:=I1.list hq2
 have pt2:s1.heap.IsList t2 its2.toArray:=⟨ob,pb1,pb2,nb,pb4⟩
 have l1:t<s1.heap.objs.size:=by obtain⟨o,ho,_⟩:=pt;exact Wy ho
 have l2:t2<s1.heap.objs.size:=by obtain⟨o,ho,_⟩:=pt2;exact Wy ho
 refine HT.Jo pt pt2 λh' hz hTI hTO hi1 hi2 hsz kk=>YT hz ?_
 have Z:HT.vB (s1.heap.objs.size+4) (s1.heap.objs.size+2) (s1.heap.objs.size+3) s1.heap.objs.size (s1.heap.objs.size+1) [s1.heap.objs.size,t] [s1.heap.objs.size+1,t2]:=Af l1 l2
 refine⟨s1.heap.objs.size+4,[s1.heap.objs.size+4,s1.heap.objs.size+2,s1.heap.objs.size+3,s1.heap.objs.size,s1.heap.objs.size+1],_,_,H1,rfl,I1.kept (t':=s1.toks) kk,GZ t t2 _ _ _ _ _ Z,⟨hz,hTI,⟨_,_,hTO⟩,hi1,hi2⟩,λb hb=>?_,q⟩
 have hb':s1.heap.objs.size<=b:=Fs hb
 exact I1.fpOk hb' (I1.hok.fresh hb')
end
end L2
namespace M
open L2
section
variable{X:Cx}{K:W.Frag}{μ μ':Fp}{H H':Hp}{S:ac}
end
end M
namespace HT
def HN:typeLookup (.type "list") "keys" = pure Y:=by rw [typeLookup_type,builtinLookup_eq_fast];kernel_rfl
section
variable{prog:Program}{w:World}{A:Around}{E:Value->Shared->Prop}{s:Shared}
def Pr{a:Addr}{o:Obj}{xs:Array Value}{k:Nat}{Q:Option Value->Shared->Prop}(hx:s.heap.get? a=U o)(hc:o.cls=.type "list")(hdat:o.data=.seq xs k)(hd:o.dict=Y)(hA:A.handled=Y)
  (h:∀ h' tk,(∀ b ob,s.heap.get? b=U ob->h'.get? b=U ob)->Q Y { s with heap:=h',toks:=tk }):wpAny (model prog w) A (getAttr? (.ref a) "keys") Q E s:=by
 obtain⟨c,dct,dat,sl⟩:=o
 simp only at hc hdat hd
 subst hc hdat hd
 obtain⟨hp,g,d,tk,os⟩:=s
 have hT:∀ tk',(⟨hp,g,d,tk',os⟩:Shared).TypeIs (.ref a) "list":=λ_=>⟨_,hx,rfl⟩
 have f1:=sub_AttributeError
 have f3:=F.slot_list_getattribute.lookup
 have f4:=F.slot_list_getattribute.bind (.ref a)
 have f5:=am_list_getattr_none
 unfold getAttr? getAttrBy? getAttrBy
 repeat (any_goals (first | assumption | exact hT _ | ((with_reducible show wpAny _ _ (call (Value.builtin "list.__getattribute__") _ _) _ _ _);refine Yp F.slot_list_getattribute (hT _) am_entry_list_getattribute (F.args_list_getattribute_2 _ _) (meets_getattribute_miss_list a xs k sl "keys" _ HN (by decide +kernel) (by size_fits)) ⟨hx,hA,λh' tk' e hx'=>?_⟩) | wp_step))
 obtain⟨t',u',he⟩:=hx'.there
 show wpAny _ _ (getattributeRaised _ _ _ _ _ _ _) _ _ _
 unfold getattributeRaised
 repeat (any_goals (first | assumption | wp_step))
 exact h _ _ hx'.keeps
def gC:plainId "dict.update.loop" = true:=by decide +kernel
def ny:entryFor table "dict.update.loop" = U Builtin.«dict.update.loop»:=entryFor_of_fast (by kernel_rfl)
structure PairsAt(knd:KeyKind prog w L2.bt)(h:Heap)(L d I:Addr)(items:Array Value)(ps:List (L2.bt×Value)):Prop where
 l:h.IsList L items
 n:items.size=ps.length
 p:∀ (j:Nat) (kv:L2.bt×Value),ps[j]?=U kv->∃ (t:Addr) (key:Value),items[j]?=U (Value.ref t)/\h.IsTuple t #[key,kv.2]/\knd.is kv.1 key=true/\t≠d/\t≠I
 ld:L≠d
 li:L≠I
 di:d≠I
def PairsAt.keep{knd:KeyKind prog w L2.bt}{h h':Heap}{L d I:Addr}{items:Array Value}{ps:List (L2.bt×Value)}(x:PairsAt knd h L d I items ps)(k:∀ b o,b≠d->b≠I->h.get? b=U o->h'.get? b=U o):PairsAt knd h' L d I items ps:=
 ⟨by obtain⟨o,ho,r⟩:=x.l;exact⟨o,k _ _ x.ld x.li ho,r⟩,x.n,λj kv hj=>by
  obtain⟨t,key,a,⟨o,ho,r⟩,c,e,f⟩:=x.p j kv hj
  exact⟨t,key,a,⟨o,k _ _ e f ho,r⟩,c,e,f⟩,x.ld,x.li,x.di⟩
def CY{K:Type}[DecidableEq K](kvs:List (K×Value))(k:K)(v:Value):(stored kvs k v).length<=kvs.length+1:=by
 unfold stored;split <;> simp
def JU{knd:KeyKind prog w L2.bt}{L d I:Addr}{items:Array Value}{ps:List (L2.bt×Value)}{R:Result->Shared->Prop}(hA:A.handled=Y)(hps:ps.length<=1000) :
  ∀ (k i:Nat) (s:Shared) (kvs:List (L2.bt×Value)),ps.length - i=k->i<=ps.length->s.heap.IsListIter I L i->PairsAt knd s.heap L d I items ps->s.heap.DictOf knd d kvs->kvs.length<=1000+i ->
  (∀ h' tk,h'.DictOf knd d ((ps.drop i).foldl (λacc kv=>stored acc kv.1 kv.2) kvs)->(∀ b o,b≠d->b≠I->s.heap.get? b=U o->h'.get? b=U o)->R (.ok (.ret .none)) { s with heap:=h',toks:=tk }) ->
  codeAny (model prog w) A (.builtin "dict.update.loop" ⟨[.ref d,.ref I,rawInt i,.none],[]⟩) R s:=by
 intro k
 induction k with
 | zero=>
  intro i s kvs hk hi hit X hd hl hR
  have hin:i=ps.length:=by omega
  subst hin
  refine codeAny_builtin ny ?_
  rw [aav gC _]
  show wpAny _ A.in1 (pyNext (.ref I) >>= _) _ _ s
  refine Wn (aaj (by exact hA) hit X.l (by simp [X.n]) λh' eb=>?_)
  show wpAny _ _ (Builtin.Dict.addKeywords d [] >>= _) _ _ _
  refine Wn (Wz (Wz ?_))
  refine hR h' s.toks ?_ λb o _ hb e=>eb b o hb e
  rw [ZE]
  obtain⟨o,es,ep,ho,r⟩:=hd
  exact⟨o,es,ep,eb d o X.di ho,r⟩
 | succ k ih=>
  intro i s kvs hk hi hit X hd hl hR
  have hlt:i<ps.length:=by omega
  obtain⟨t,key,hx,hT,hkey,td,ti⟩:=X.p i ps[i] (by simp [hlt])
  refine codeAny_builtin ny ?_
  rw [aav gC _]
  show wpAny _ A.in1 (pyNext (.ref I) >>= _) _ _ s
  refine Wn (aad hit X.l hx λh' hit' sb=>?_)
  have X1:=X.keep (h':=h') λb o _ hb e=>(sb.2 b hb).trans e
  have hT1:h'.IsTuple t #[key,ps[i].2]:=by obtain⟨o,ho,r⟩:=hT;exact⟨o,(sb.2 t ti).trans ho,r⟩
  have hd1:h'.DictOf knd d kvs:=by obtain⟨o,es,ep,ho,r⟩:=hd;exact⟨o,es,ep,(sb.2 d X.di).trans ho,r⟩
  refine Wn (XJ ?_)
  have hTy:({ s with heap:=h' }:Shared).TypeIs (.ref t) "tuple":=hT1.typeIs
  refine Wn ?_
  refine wpAny_tryCatch ?_
  unfold Builtin.Dict.pairItems
  refine Wn (YY hTy ?_)
  rw [WI (by decide +kernel)]
  obtain⟨o,ho,hoc,nn,hod⟩:=hT1
  refine Wn (XN ho hod (Wz ?_))
  show wpAny _ _ (holding [key,ps[i].2] (dictSet d key ps[i].2)) _ _ _
  refine XJ (wpAny_dictSet_pairs hkey hd1 (λh2 hd2 sb2=>?_) (WT hl (WT (show 1000+i<=2000 by omega) (by decide))))
  have e1:(ps.drop i).foldl (λacc kv=>stored acc kv.1 kv.2) kvs=(ps.drop (i+1)).foldl (λacc kv=>stored acc kv.1 kv.2) (stored kvs ps[i].1 ps[i].2):=by
   rw [YI hlt,ZP]
  refine Wz ⟨plainId_quiet gC _,ih (i+1) _ _ (by omega) hlt (by obtain⟨o,ho,r⟩:=hit';exact⟨o,(sb2.2 I (Ne.symm X.di)).trans ho,r⟩) (X1.keep λb o hb _ e=>(sb2.2 b hb).trans e) hd2 (by have:=CY kvs ps[i].1 ps[i].2;omega) λh3 tk hd3 kp=>?_⟩
  rw [<- e1] at hd3
  exact hR h3 tk hd3 λb o hb hi e=>kp b o hb hi ((sb2.2 b hb).trans ((sb.2 b hi).trans e))
def sS{knd:KeyKind prog w L2.bt}{L:Addr}{o:Obj}{items:Array Value}{nn:Nat}{ps:List (L2.bt×Value)}{Q:Value->Shared->Prop}(hA:A.handled=Y)(hx:s.heap.get? L=U o)(hc:o.cls=.type "list")(hdat:o.data=.seq items nn)(hdi:o.dict=Y)
  (hn:items.size=ps.length) (hps:ps.length<=1000) (hp:∀ (j:Nat) (kv:L2.bt×Value),ps[j]?=U kv->∃ (t:Addr) (key:Value),items[j]?=U (Value.ref t)/\s.heap.IsTuple t #[key,kv.2]/\knd.is kv.1 key=true)
  (h:∀ h' tk,h'.DictOf knd s.heap.objs.size (ps.foldl (λacc kv=>stored acc kv.1 kv.2) [])->(∀ b u,s.heap.get? b=U u->h'.get? b=U u)->Q (.ref s.heap.objs.size) { s with heap:=h',toks:=tk }) :
  wpAny (model prog w) A (call (.type "dict") [.ref L]) Q E s:=by
 refine callType_codes (Q₁:=λobj s₁=>obj=.ref s.heap.objs.size/\s₁ = { s with heap:=s.heap.push { cls:=.type "dict",data:=.dict #[] } }) F.kt_called_dict (F.kt_typeCall_dict_1 _) F.entry_dict_init (kt_code_dict_new _ ⟨rfl,rfl⟩) ?_
 rintro obj s₁ ⟨rfl,rfl⟩
 have hnew:(s.heap.push { cls:=.type "dict",data:=.dict #[] }).DictOf knd s.heap.objs.size []:=Heap.DictOf.new s.heap
 have k1:∀ c u,s.heap.get? c=U u->(s.heap.push { cls:=.type "dict",data:=.dict #[] }).get? c=U u:=λc u=>Wp _
 generalize s.heap.push { cls:=.type "dict",data:=.dict #[] } = h1 at hnew k1 ⊢
 refine⟨hnew.typeIs,F.args_dict_init_2 _ _,?_⟩
 unfold Builtin.«dict.__init__»
 refine Wn ?_
 unfold Builtin.Dict.selfAndRest
 refine Wn (wpAny_notOrdered_dict hnew.typeIs ?_)
 show wpAny _ _ (pure (s.heap.objs.size,[Value.ref L])) _ _ _
 refine Wz ?_
 show wpAny _ _ (Builtin.Dict.updateFrom "dict.__init__" s.heap.objs.size (.ref L) [] .none) _ _ _
 unfold Builtin.Dict.updateFrom
 have hTy:({ s with heap:=h1 }:Shared).TypeIs (.ref L) "list":=⟨_,k1 _ _ hx,hc⟩
 refine Wn (YY hTy ?_)
 rw [WI (by decide +kernel)]
 refine Wn (Pr (k1 _ _ hx) hc hdat hdi (by exact hA) λh2 tk k2=>?_)
 rw [WI (show (Y:Option Value).isNone=true from rfl)]
 refine Wn (YJ ?_)
 have k12:∀ c u,s.heap.get? c=U u->h2.get? c=U u:=λc u e=>k2 c u (k1 c u e)
 have hL2:h2.IsList L items:=⟨_,k12 _ _ hx,hc,nn,hdat⟩
 have hd2:h2.DictOf knd s.heap.objs.size []:=by obtain⟨o,es,ep,ho,r⟩:=hnew;exact⟨o,es,ep,k2 _ _ ho,r⟩
 have dl:s.heap.objs.size<h2.objs.size:=by obtain⟨o,es,ep,ho,r⟩:=hd2;exact Wy ho
 refine Wn (Yu hL2 ?_)
 have g3:=WF h2 (o:={ cls:=.type "list_iterator",data:=.fields #[.ref L,.int 0 0] }) rfl
 have k3:∀ c u,h2.get? c=U u->(h2.push { cls:=.type "list_iterator",data:=.fields #[.ref L,.int 0 0] }).get? c=U u:=λc u=>Wp _
 generalize h2.push { cls:=.type "list_iterator",data:=.fields #[.ref L,.int 0 0] } = h3 at g3 k3 ⊢
 have hLs:=Wy hx
 refine Wz ⟨plainId_quiet gC _,JU (A:=A.in1) (L:=L) (items:=items) (ps:=ps) (by exact hA) hps ps.length 0 _ [] (by omega) (by omega) ⟨_,g3,rfl,rfl⟩ ⟨⟨_,k3 _ _ (k12 _ _ hx),hc,nn,hdat⟩,hn,λj kv hj=>?_,?_,?_,?_⟩ (by obtain⟨o,es,ep,ho,r⟩:=hd2;exact⟨o,es,ep,k3 _ _ ho,r⟩) (by simp) λh4 tk4 hd4 k4=>⟨rfl,h h4 tk4 hd4 λb u e=>?_⟩⟩
 ·obtain⟨t,key,a,⟨o,ho,r⟩,c⟩:=hp j kv hj
  have:=Wy ho
  exact⟨t,key,a,⟨o,k3 _ _ (k12 _ _ ho),r⟩,c,WU this,WU (ZA this dl)⟩
 ·exact WU hLs
 ·exact WU (ZA hLs dl)
 ·exact WU dl
 ·have:=Wy e
  exact k4 b u (WU this) (WU (ZA this dl)) (k3 _ _ (k12 _ _ e))
end
end HT
namespace L2
section
variable{X:Cx}
inductive PairV(K:W.Frag)(H:Hp):List V->List (bt×V)->Prop
 | nil:PairV K H [] []
 | cons {t:Addr} {k:bt} {v:V} {ys:List V} {kvs:List (bt×V)} (h:kQ K H t [kV k,v]) (r:PairV K H ys kvs):PairV K H (.ref t::ys) ((k,v)::kvs)
theorem PairV.vals{pins:List (Addr×Obj)}{s:Shared}{σ:L2.St}{H:Hp}(I:Inv X pins σ H s):∀ {ys:List V} {kvs:List (bt×V)} {us:List Value},PairV X.K H ys kvs->Vals ys us->∃ ps:List (bt×Value),KV kvs ps/\us.length=ps.length /\
  ∀ (j:Nat) (kv:bt×Value),ps[j]?=U kv->∃ (t:Addr) (key:Value),us[j]?=U (Value.ref t)/\s.heap.IsTuple t #[key,kv.2]/\(bQ X.prog X.w).is kv.1 key=true
 | _,_,_,.nil,r=>by
  cases r
  exact⟨[],.nil,rfl,λj kv h=>by simp at h⟩
 | _,_,_,.cons (k:=k) h q,r=>by
  cases r with
  | cons r1 r2=>
   obtain⟨ps,rel,hl,hp⟩:=PairV.vals I q r2
   cases r1
   obtain⟨its,rv,tp,_⟩:=I.tuple h
   cases rv with
   | cons ra rb=>cases rb with
    | cons rc rd=>
     cases rd
     rename_i key u
     refine⟨(k,u)::ps,.cons ⟨rfl,rc⟩ rel,by simp [hl],λj kv hj=>?_⟩
     cases j with
     | zero=>cases hj;exact⟨_,key,rfl,tp,pY ra⟩
     | succ j=>exact hp j kv hj
theorem KV.mergeP:∀ {kvs:List (bt×V)} {ps:List (bt×Value)} {acc:List (bt×V)} {accs:List (bt×Value)},KV kvs ps->KV acc accs->KV (dH acc kvs) (ps.foldl (λacc kv=>stored acc kv.1 kv.2) accs)
 | _,_,_,_,.nil,r=>r
 | p::_,p'::_,_,_,.cons h q,r=>by
  obtain⟨k,v⟩:=p
  obtain⟨k',u⟩:=p'
  obtain⟨e,rv⟩:=h
  dsimp only at e;subst e
  have:=KV.mergeP (show KV _ _ from q) (r.put k rv)
  exact this
def Fd(hc:X.calm=true):CallR X (.type "dict") (λxs H Q=>∃ p ys kvs,xs=[.ref p]/\my X.K H p ys/\PairV X.K H ys kvs/\kvs.length<=500/\∀ q,H q=Y->Q (.ref q) (upd H q (.dK (dH [] kvs)))):=by
 intro pins s σ H xs us Q I r h
 obtain⟨p,ys,kvs,rfl,hq,pv,h5,q⟩:=h
 obtain⟨u,rfl,rx⟩:=pq r
 cases rx
 obtain⟨its,rv,⟨o,nn,e,c,dn,dd⟩,hz⟩:=I.list hq
 obtain⟨ps,rel,hl,hp⟩:=pv.vals I rv
 have hl2:=rel.length
 refine HT.sS (knd:=bQ X.prog X.w) (items:=its.toArray) (ps:=ps) (I.ok.hd hc) e c dd dn (by simpa using hl) (by omega) (λj kv hj=>by simpa using hp j kv hj) λh' tk hd kk=>?_
 have rm:=KV.mergeP rel (acc:=[]) (accs:=[]) .nil
 have lm:(dH [] kvs).length<=500:=by
  have:∀ (l acc:List (bt×V)),(dH acc l).length<=acc.length+l.length:=λl=>by
   induction l with
   | nil=>intro acc;simp [dH]
   | cons x l ih=>
    intro acc
    have h1:=ih (sD acc x.1 x.2)
    have h2:=rO acc x.1 x.2
    rw [WG]
    show (dH (sD acc x.1 x.2) l).length<=_
    omega
  have:=this kvs []
  simp only [Yg] at this
  omega
 exact⟨.ref _,_,I.laid (t':=tk) (o:=.dK (dH [] kvs)) kk (WD _) ⟨WT lm (by decide),Xv.mpr (Ne.symm (WU I.big)),_,rm,hd⟩,rfl,q _ I.fresh⟩
end
end L2
namespace M
open L2
section
variable{X:Cx}{K:W.Frag}{μ:Fp}{H:Hp}{S:ac}
noncomputable def oU:List D->Option (List (bt×D))
 | []=>U []
 | d::r=>match d with
  | .tup [k,v]=>(ee k).bind λkk=>(oU r).bind λz=>U ((kk,v)::z)
  | _=>Y
theorem ud:∀ {ds:List D} {vs:List V} {kvs:List (bt×D)},Reps K μ H vs ds->oU ds=U kvs->∃ ws:List (bt×V),PairV K H vs ws/\KR K μ H ws kvs
 | _,_,_,.nil,h=>by cases h;exact⟨[],.nil,.nil⟩
 | _,_,_,.cons (d:=d) r t,h=>by
  unfold oU at h
  split at h
  ·obtain⟨k,h1,h⟩:=KE.mp h
   obtain⟨z,h2,h⟩:=KE.mp h
   cases h
   obtain⟨ws,p1,p2⟩:=ud t h2
   obtain⟨a,xs,rfl,hq,rr⟩:=Rep.sqT r
   cases rr with
   | cons ra rb=>cases rb with
    | cons rc rd=>
     cases rd
     have:=ig h1 ra
     subst this
     exact⟨_,.cons hq p1,.cons rc p2⟩
  ·cases h
noncomputable def nu(S:ac)(ds:List D):Option D:=match ds with
 | [.lst xs]=>(oU xs).bind λkvs=>if kvs.length<=500 then U (.dct ((cF [] kvs).map (·.1)) ((cF [] kvs).map (·.2))) else Y
 | _=>Y
def Ff(hc:X.calm=true):CallR X (.type "dict") (JB X.K (aJ nu)):=CallR.imp (Fd hc) λxs H Q ⟨μ,S,ds,d,S',hS,hr,hm,post⟩=>by
 obtain⟨rfl,hm⟩:=dW hm
 unfold nu at hm
 split at hm
 ·obtain⟨kvs,h1,h2⟩:=KE.mp hm
  split at h2
  ·rename_i hl
   cases h2
   obtain⟨v,rfl,rv⟩:=hr.one
   obtain⟨a,ys,rfl,hq,nq,rr⟩:=rv.sqL
   obtain⟨ws,pv,kr⟩:=ud rr h1
   refine⟨a,ys,ws,rfl,.inl (.inl hq),pv,by rw [kr.length];exact hl,λq hn=>?_⟩
   obtain⟨e,s'⟩:=hS.laid (o:=.dK (dH [] ws)) hn
   have rm:=(kr.mono e).merge KR.nil
   have:=Rep.dct (K:=X.K) (bA (H:=H) (o:=.dK (dH [] ws))) (hS.notMem hn) rm.reps
   rw [rm.keys] at this
   exact post _ _ _ e s' this
  ·cases h2
 ·cases hm
end
end M
namespace HT
open SeqAt
end HT
namespace M
open L2
section
variable{X:Cx}{K:W.Frag}{μ:Fp}{H:Hp}{S:ac}
end
end M
namespace L2
end L2
namespace M
open L2
section
variable{X:Cx}{K:W.Frag}{H:Hp}{pos:Pos}
inductive iMs(K:W.Frag)(m:MA)(σ:L2.St)(H:Hp)(R:It->Hp->Prop):Prop
 | mk (μ:Fp) (S:ac) (env:bj) (xs:List D) (S':ac) (hS:SOk K μ S H) (hE:EOk K μ H σ env) (h:m env S=U (xs,S')) (post:∀ J H' μ',Ext μ H μ' H'->SOk K μ' S' H'->(∀ μ2 H2,Fq K μ2 H2 J xs)->R J H')
noncomputable def Ef(g:MG)(t:MT)(e:ME):List D->bj->ac->Option (List D×bj×ac)
 | [],env,S=>U ([],env,S)
 | d::ds,env,S=>(g d env S).bind λp=>(t p.1 p.2).bind λb=>if b.1=true then (e p.1 b.2).bind λq=>(Ef g t e ds p.1 q.2).bind λr=>U (q.1::r.1,r.2) else Ef g t e ds p.1 b.2
noncomputable def LG(g:MG)(t:MT)(mi2:MA)(g2:MG)(t2:MT)(e:ME):List D->bj->ac->Option (List D×ac)
 | [],_,S=>U ([],S)
 | d::ds,env,S=>(g d env S).bind λp=>(t p.1 p.2).bind λb=>if b.1=true then (mi2 p.1 b.2).bind λq=>(Ef g2 t2 e q.1 p.1 q.2).bind λr=>(LG g t mi2 g2 t2 e ds r.2.1 r.2.2).bind λz=>U (r.1++z.1,z.2) else LG g t mi2 g2 t2 e ds p.1 b.2
variable{elt tg iter tg2 iter2:Expr}{ifs ifs2:List Expr}{scope:Scope}{spos py:Pos}{N':List Str}{cap:List (Option Nat)}{mi mi2:MA}{g g2:MG}{t t2:MT}{me:ME}{y:Str}{i:Nat}
end
structure RA(P:Program)(w:World)(K:W.Frag)(mg:Str->Option Value)(base:Heap)(k:Nat)(a:Addr)(n:Nat)(f:List D->ac->Option (D×ac)):Prop where
 ex:∃ (fd:FuncData) (ps:List Str),ps.length=n/\FnOk P w K mg base GO k a fd ps (Kk K n f)/\W.keepIn K (.ref a)=true/\Binds K fd ps []
theorem Fn.at{P:Program}{w:World}{K:W.Frag}{mg:Str->Option Value}{base:Heap}{k n:Nat}{x:Str}{a:Addr}{f:List D->ac->Option (D×ac)}(F:Fn P w K mg base k x n f)(h:mg x=U (.ref a)):RA P w K mg base k a n f:=by
 obtain⟨b,fd,ps,h1,h2,h3,h4,h5⟩:=F.ex
 rw [h] at h3;cases h3
 exact⟨fd,ps,h1,h2,h4,h5⟩
inductive FRel(P:Program)(w:World)(K:W.Frag)(mg:Str->Option Value)(base:Heap)(k:Nat):List (bt×Value)->List (bt×Nat×(List D->ac->Option (D×ac)))->Prop
 | nil:FRel P w K mg base k [] []
 | cons {y:bt} {a:Addr} {n:Nat} {f:List D->ac->Option (D×ac)} {vs:List (bt×Value)} {l:List (bt×Nat×(List D->ac->Option (D×ac)))} (h:RA P w K mg base k a n f) (t:FRel P w K mg base k vs l):FRel P w K mg base k ((y,.ref a)::vs) ((y,n,f)::l)
noncomputable def Ai:List (bt×Nat×(List D->ac->Option (D×ac)))->bt->Option (Nat×(List D->ac->Option (D×ac)))
 | [],_=>Y
 | (y,p)::l,k=>if y=k then U p else Ai l k
section
variable{P:Program}{w:World}{K:W.Frag}{mg:Str->Option Value}{base:Heap}{k:Nat}
theorem FRel.val{y:bt}{p:Nat×(List D->ac->Option (D×ac))}:∀ {vs l},FRel P w K mg base k vs l->Ai l y=U p->∃ a,valueAt vs y=U (.ref a)/\RA P w K mg base k a p.1 p.2
 | _,_,.nil,q=>by cases q
 | _,_,.cons (y:=y') (a:=a) h t,q=>by
  unfold Ai at q
  split at q
  ·rename_i e;cases q;exact⟨a,by simp [valueAt,e],h⟩
  ·rename_i e
   obtain⟨b,h1,h2⟩:=FRel.val t q
   refine⟨b,?_,h2⟩
   rw [<- h1]
   simp [valueAt,e]
structure FTab(P:Program)(w:World)(K:W.Frag)(mg:Str->Option Value)(base:Heap)(k:Nat)(x:Str)(l:List (bt×Nat×(List D->ac->Option (D×ac)))):Prop where
 ex:∃ (a:Addr) (vs:List (bt×Value)),mg x=U (.ref a)/\(∀ (P:Program) (h:Heap),K.In h->h.DictOf (bQ P w) a vs)/\FRel P w K mg base k vs l
end
theorem EOk.setN{K:W.Frag}{μ:Fp}{H:Hp}{x:Option V}:∀ {σ:L2.St} {env:bj} (i:Nat),EOk K μ H σ env->EOk K μ H (σ.set i x) (env.set i Y)
 | _,_,_,.nil=>.nil
 | _,_,0,.no t=>.no t
 | _,_,0,.yes _ t=>.no t
 | _,_,i+1,.no t=>.no (EOk.setN i t)
 | _,_,i+1,.yes h t=>.yes h (EOk.setN i t)
section
variable{X:Cx}{k i:Nat}{x b:Str}{e ix:Expr}{es:List Expr}{mi:ME}{ms:MA}{p pb pt ps pa pc pr:Pos}{l:List (bt×Nat×(List D->ac->Option (D×ac)))}
def Lb{t:TA}(hN:X.N[i]?=U b)(hv:Ss X.env.scope b)(hr:Room k X.A)(ha:PA X (e::es) t)(hd:(b == ("__debug__":Str))=false)(hc:(b == ("__classdict__":Str))=false)
  (he:starEach (e::es) X.env=(false,eval e X.env)::starEach es X.env) (hpl:(backTo pc (starEach es X.env)).any (·.1)=false) :
  PE X (.Call (.Name b p) (e::es) [] pc) (λσ H Q=>∃ a n f,σ[i]?=U (U (.ref a))/\RA X.prog X.w X.K X.mg X.base k a n f/\Fy (Kk X.K n f) [] E0 t σ H Q):=by
 intro pins s σ H Q I ⟨a,n,f,hσ,F,h⟩
 obtain⟨fd,qs,hn,F,hk,hb⟩:=F.ex
 refine Yq (dh (KP hN hv hd hc pins s σ H (λv H'=>v=.ref a/\H'=H) I ⟨_,hσ,rfl,rfl⟩) λu s1 ⟨v,H1,I1,r,e1,e2⟩=>?_)
 subst e1 e2
 cases r
 refine W.callWith_K (h₀:=X.base) I1.ok.mod.kin hk (dh (ha pc pins s1 σ H1 _ I1 h) λus s2 ⟨vs,H2,I2,r2,q⟩=>⟨I2.kIn,?_⟩) he hpl
 exact Dn F hr hb .nil Ld I2 r2 q
noncomputable def iw(l:List (bt×Nat×(List D->ac->Option (D×ac))))(i:Nat)(mi:ME)(ms:MA):MS:=λenv S=>(mi env S).bind λp=>(ee p.1).bind λk=>(Ai l k).bind λq=>(ms (env.set i Y) p.2).bind λr=>if r.1.length=q.1 then (q.2 r.1 r.2).bind λz=>U (.rt z.1 z.2) else Y
def Np(g:FTab X.prog X.w X.K X.mg X.base k x l)(hg:Gl X x)(hx:(x == ("__debug__":Str))=false)(hi:DE X ix mi)(hs:oi ix)(hr:Room k X.A)(ha:DA X (e::es) ms)(nd:X.N.Nodup)(hN:X.N[i]?=U b)(hl:Oe X.env.scope b)(hv:Ss X.env.scope b)
  (hf:X.fn b=true\/X.env.scope.names.lookup b=U .local) (hd:(b == ("__debug__":Str))=false) (hc:(b == ("__classdict__":Str))=false) (hlen:i<X.N.length)
  (he:starEach (e::es) X.env=(false,eval e X.env)::starEach es X.env) (hpl:(backTo pc (starEach es X.env)).any (·.1)=false) :
  vH X [.Assign [.Name b pb] (.Subscript (.Name x pt) ix ps) pa,.Return (U (.Call (.Name b p) (e::es) [] pc)) pr] (iw l i mi ms):=by
 obtain⟨a,vs,h1,h2,h3⟩:=g.ex
 intro pins s σ H E I h
 have hlσ:i < σ.length:=by
  have:σ.length=X.N.length:=I.len
  omega
 refine AE (KH (i:=i) nd hN hl (KU (Me h2) (yy (v:=.ref a) hg h1 rfl hx) hi hs) rfl hf) (FD (KI (Lb hN hv hr ha hd hc he hpl))) pins s σ H E I ?_
 obtain⟨μ,S,env,o,hS,hE,hm,post⟩:=h
 obtain⟨⟨y,S1⟩,e1,hm⟩:=KE.mp hm
 obtain⟨z,e2,hm⟩:=KE.mp hm
 obtain⟨q,e3,hm⟩:=KE.mp hm
 obtain⟨fa,v1,F⟩:=h3.val e3
 refine⟨μ,S,env,y,S1,hS,hE,e1,λu H1 μ1 ex s1 r1=>⟨z,.ref fa,.ref fa,rfl,ig e2 r1,v1,rfl,?_⟩⟩
 obtain⟨⟨ws,S2⟩,e4,hm⟩:=KE.mp hm
 dsimp only at hm
 split at hm
 ·rename_i hn
  obtain⟨⟨d,S3⟩,e5,hm⟩:=KE.mp hm
  cases hm
  refine⟨fa,q.1,q.2,by rw [WV hlσ],F,Ao ⟨μ1,S1,env.set i Y,d,S3,s1,(hE.mono ex).setN i,?_,Post.ext ex post⟩⟩
  show (ms (env.set i Y) S1).bind _=_
  rw [e4]
  exact(WI hn).trans e5
 ·cases hm
end
inductive FNs(mg:Str->Option Value):List (bt×Value)->List (Str×Str)->Prop
 | nil:FNs mg [] []
 | cons {x y:Str} {a:Addr} {vs:List (bt×Value)} {l:List (Str×Str)} (h:mg y=U (.ref a)) (t:FNs mg vs l):FNs mg ((.inr x,.ref a)::vs) ((x,y)::l)
structure FNm(w:World)(K:W.Frag)(mg:Str->Option Value)(x:Str)(l:List (Str×Str)):Prop where
 ex:∃ (a:Addr) (vs:List (bt×Value)),mg x=U (.ref a)/\(∀ (P:Program) (h:Heap),K.In h->h.DictOf (bQ P w) a vs)/\FNs mg vs l
def UT{w:World}{K:W.Frag}{mg:Str->Option Value}{x:Str}{a:Addr}{es:List DictEntry}{n:Nat}{vs:List (bt×Value)}{l:List (Str×Str)}(hg:mg x=U (.ref a))(hl:K.lookup a=U ⟨.type "dict",Y,.dict es.toArray n,#[]⟩)(t:TabLit w es vs)(hn:(vs.map (·.1)).Nodup)(r:FNs mg vs l):FNm w K mg x l:=
 ⟨a,vs,hg,Aj hl (λP=>by simpa using t.pairs) (λP e he=>t.keys e (by simpa using he)) hn,r⟩
section
variable{P:Program}{w:World}{K:W.Frag}{mg:Str->Option Value}{base:Heap}{k:Nat}
def FFs(P:Program)(w:World)(K:W.Frag)(mg:Str->Option Value)(base:Heap)(k:Nat):List (Str×Str)->List (bt×Nat×(List D->ac->Option (D×ac)))->Prop
 | [],[]=>True
 | (x,y)::l,(z,n,f)::r=>z=.inr x/\Fn P w K mg base k y n f/\FFs P w K mg base k l r
 | _,_=>False
theorem FNs.rel:∀ {vs l r},FNs mg vs l->FFs P w K mg base k l r->FRel P w K mg base k vs r
 | _,_,[],.nil,_=>.nil
 | _,_,(z,n,f)::r,.cons h t,q=>by
  obtain⟨q1,q2,q3⟩:=q
  subst q1
  exact .cons (q2.at h) (t.rel q3)
def Qg{x:Str}{l:List (Str×Str)}{r:List (bt×Nat×(List D->ac->Option (D×ac)))}(T:FNm w K mg x l)(h:FFs P w K mg base k l r):FTab P w K mg base k x r:=by
 obtain⟨a,vs,h1,h2,h3⟩:=T.ex
 exact⟨a,vs,h1,h2,h3.rel h⟩
theorem FRel.up{k':Nat}(h:k<=k'):∀ {vs l},FRel P w K mg base k vs l->FRel P w K mg base k' vs l
 | _,_,.nil=>.nil
 | _,_,.cons q t=>.cons (by obtain⟨fd,ps,a,b,c⟩:=q.ex;exact⟨fd,ps,a,b.mono h,c⟩) (t.up h)
theorem FTab.up{k':Nat}{x:Str}{l:List (bt×Nat×(List D->ac->Option (D×ac)))}(T:FTab P w K mg base k x l)(h:k<=k'):FTab P w K mg base k' x l:=by
 obtain⟨a,vs,h1,h2,h3⟩:=T.ex
 exact⟨a,vs,h1,h2,h3.up h⟩
end
section
variable{X:Cx}{e:Expr}{m:ME}{pos:Pos}
noncomputable def IH(_:ac)(x y:D):Option D:=match x,y with
 | .int i,.int j=>U (.int (i+j))
 | _,_=>Y
def Vs{i:Nat}{x:Str}{pos':Pos}(hN:X.N.Nodup)(hi:X.N[i]?=U x)(hx:X.env.scope.names.lookup x=U .local)(he:DE X e m) :
  DS X (.AugAssign (.Name x pos') .Add e pos) (aF (ar IH (ab i) m) (ah i)):=PS.imp (Tf hN hi (.inl hx) he UL (.inr hx)) λE σ H h=>by
 obtain⟨μ,S,env,o,hS,hE,hm,post⟩:=h
 obtain⟨⟨d,S1⟩,h1,hm⟩:=KE.mp hm
 cases hm
 obtain⟨⟨a,S2⟩,h2,h1⟩:=KE.mp h1
 obtain⟨⟨b,S3⟩,h3,h1⟩:=KE.mp h1
 obtain⟨a',h4,h2⟩:=KE.mp h2
 cases h2
 obtain⟨d',h5,h1⟩:=KE.mp h1
 cases h1
 dsimp only at h5
 obtain⟨p,q,rfl,rfl,rfl⟩:∃ p q,a=.int p/\b=.int q/\d=.int (p+q):=by
  cases a <;> first | cases h5 | skip
  cases b <;> first | cases h5 | skip
  exact⟨_,_,rfl,rfl,rfl⟩
 obtain⟨v,e1,r⟩:=hE.get (xo h4)
 refine⟨v,e1,μ,S,env,_,_,hS,hE,h3,λw H1 μ1 e1 s1 r1=>⟨p,q,r.int_inv,r1.int_inv,?_⟩⟩
 exact post _ H1 μ1 e1 s1 ((hE.mono e1).set (.int _) i)
end
section
variable{X:Cx}{K:W.Frag}{μ μ':Fp}{H H':Hp}{S S':ac}{pos:Pos}
noncomputable def eH(g:MG)(body:MS)(xs:List D)(r:Nat):Nat->Nat->bj->ac->Option nH
 | 0,_,_,_=>Y
 | f+1,i,env,S=>match S[r]? with
  | some (.lst ys)=>match xs[i]?,ys[i]? with
   | some x,U y=>(g (.tup [x,y]) env S).bind λp=>(body p.1 p.2).bind λo=>match o with
    | .nx e s=>eH g body xs r f (i+1) e s
    | .ct e s=>eH g body xs r f (i+1) e s
    | .bk e s=>U (.nx e s)
    | .rt d s=>U (.rt d s)
   | _,_=>U (.nx env S)
  | _=>Y
noncomputable def jw(ms:MA)(g:MG)(body:MS):MS:=λenv S=>(ms env S).bind λp=>match p.1 with
 | [.tup xs,.ref r]=>eH g body xs r 2000 0 env p.2
 | _=>Y
def QH{a b:Expr}{es:List Expr}{k:Nat}{tp p2 p3:Pos}{body:List Stmt}{ms:MA}{g:MG}{mb:MS}(hp:PassesOwn (model X.prog X.w) X.A X.env X.xe)(hc:X.calm=true)(hz:X.mg "zip" = Y)(ha:DA X [a,b] ms)(hgl:Gl X "zip")
  (hs:starEach [a,b] X.env=[(false,eval a X.env),(false,eval b X.env)]) (hs2:starEach [b] X.env=[(false,eval b X.env)]) (hg:DG X (.Tuple es k tp) g) (hb:vH X body mb):DS X (.For (.Tuple es k tp) (.Call (.Name "zip" p2) [a,b] [] p3) body [] pos) (jw ms g mb):=
 PS.imp (Dq hp hc (OQ hgl hz ha hs hs2) hg hb λ_=>rfl) λE σ H ⟨μ,S,env,o,hS,hE,hm,post⟩=>by
 obtain⟨⟨ds,S1⟩,h1,hm⟩:=KE.mp hm
 refine⟨μ,S,env,ds,S1,hS,hE,h1,λvs H1 μ1 e1 s1 r1=>?_⟩
 dsimp only at hm
 split at hm
 ·rename_i xs r
  obtain⟨v,u,rfl,rv,ru⟩:=r1.two
  have rv':=rv
  obtain⟨a0,ws,rfl,hqa,rs⟩:=rv.sqT
  cases ru with
  | @ref b0 _ hb0=>
   have cell:∀ {μ' H' S' xs},Ext μ1 H1 μ' H'->SOk X.K μ' S' H'->S'[r]?=U (.lst xs)->∃ vs,H' b0=U (.lst vs)/\Reps X.K μ' H' vs xs:=λ{μ' H' S' xs} e s q=>by
    obtain⟨l,ql,_⟩:=e.pre
    have ha':μ'.cs[r]?=U b0:=by rw [ql,WE (Wo.mp hb0).1];exact hb0
    exact s.cell r b0 _ ha' q
   have hq0:∃ vs,my X.K H1 b0 vs:=by
    unfold eH at hm
    split at hm
    ·rename_i ys q
     obtain⟨vs,hv,_⟩:=cell s1.ext s1 q
     exact⟨vs,.inl (.inl hv)⟩
    ·cases hm
   refine⟨a0,b0,rfl,⟨ws,hqa⟩,hq0,?_⟩
   refine⟨λi n σ H=>∃ μ' S' env' o',Ext μ1 H1 μ' H/\SOk X.K μ' S' H/\EOk X.K μ' H σ env'/\eH g mb xs r n i env' S'=U o'/\PostS X.K μ' H o' E,
    ⟨2000,μ1,S1,env,o,s1.ext,s1,hE.mono e1,hm,post.ext e1⟩,?_⟩
   rintro i n σ' H' ⟨μ',S',env',o',e',s',r',hl,post'⟩
   cases n with
   | zero=>cases hl
   | succ n=>
    unfold eH at hl
    split at hl
    ·rename_i ys q
     obtain⟨vs,hv,rvs⟩:=cell e' s' q
     have hsq:my X.K H' b0 vs:=.inl (.inl hv)
     obtain⟨a1,ws',hb1,hqa',rs'⟩:=(rv'.mono e').sqT
     cases hb1
     split at hl
     ·rename_i x y hx hy0
      obtain⟨w,hw,rw0⟩:=rs'.get hx
      obtain⟨w2,hw2,rw2⟩:=rvs.get hy0
      refine .inr ⟨⟨ws',vs,w,w2,hqa',hsq,hw,hw2⟩,λσ2 H2=>∃ μ2 S2 env2 o2,Ext μ1 H1 μ2 H2/\SOk X.K μ2 S2 H2/\EOk X.K μ2 H2 σ2 env2/\eH g mb xs r n (i+1) env2 S2=U o2/\PostS X.K μ2 H2 o2 E,
       λσ2 H2 ⟨μ2,S2,env2,o2,q1,q2,q3,q4,q5⟩=>⟨n,by omega,μ2,S2,env2,o2,q1,q2,q3,q4,q5⟩,λz H2 hz2=>?_⟩
      obtain⟨pp,v',u',rfl,hpn,rfl,hv1,hv2⟩:=hz2
      have ev:v'=w:=by have:=hv1 ws' hqa';rw [hw] at this;exact(WH this).symm
      have eu:u'=w2:=by have:=hv2 vs hsq;rw [hw2] at this;exact(WH this).symm
      subst ev eu
      obtain⟨eL,sL⟩:=s'.laid (o:=.tup [v',u']) hpn
      obtain⟨⟨env3,S3⟩,h3,hl⟩:=KE.mp hl
      obtain⟨o4,h4,hl⟩:=KE.mp hl
      refine⟨μ',S',env',.tup [x,y],env3,S3,sL,r'.mono eL,.tup bA (s'.notMem hpn) (.cons (rw0.mono eL) (.cons (rw2.mono eL) .nil)),h3,λσ3 H3 μ3 e3 s3 r3=>⟨μ3,S3,env3,o4,s3,r3,h4,?_⟩⟩
      have eT:Ext μ1 H1 μ3 H3:=(e'.trans eL).trans e3
      have pT:PostS X.K μ3 H3 o' E:=post'.ext (eL.trans e3)
      cases o4 with
      | nx e5 s5=>exact λσ6 H6 μ6 e6 s6 r6=>⟨μ6,s5,e5,o',eT.trans e6,s6,r6,hl,pT.ext e6⟩
      | ct e5 s5=>exact λσ6 H6 μ6 e6 s6 r6=>⟨μ6,s5,e5,o',eT.trans e6,s6,r6,hl,pT.ext e6⟩
      | bk e5 s5=>cases hl;exact pT
      | rt d5 s5=>cases hl;exact pT
     ·rename_i hno
      cases hl
      refine .inl ⟨⟨ws',vs,hqa',hsq,?_⟩,post' σ' H' μ' s'.ext s' r'⟩
      rw [rs'.length,rvs.length]
      by_cases h1:xs.length<=i
      ·exact .inl h1
      ·refine .inr (Nat.le_of_not_lt λh2=>?_)
       exact hno _ _ (Wv (Nat.lt_of_not_le h1)) (Wv h2)
    ·cases hl
 ·cases hm
end
end M
namespace MI
open L2 M
@[irreducible] noncomputable def mC(d:D):ME:=M.mC d
def uH{d:D}:mC d=M.mC d:=by unfold mC;rfl
@[irreducible] noncomputable def ab(i:Nat):ME:=M.ab i
def yX{i:Nat}:ab i=M.ab i:=by unfold ab;rfl
@[irreducible] noncomputable def ar(f:ac->D->D->Option D)(a b:ME):ME:=M.ar f a b
def jt{f:ac->D->D->Option D}{a b:ME}:ar f a b=M.ar f a b:=by unfold ar;rfl
@[irreducible] noncomputable def ax(m:ME):MT:=M.ax m
def uC{m:ME}:ax m=M.ax m:=by unfold ax;rfl
@[irreducible] noncomputable def cT(f g:ac->D->D->Option D)(a b c:ME):ME:=M.cT f g a b c
def qQ{f g:ac->D->D->Option D}{a b c:ME}:cT f g a b c=M.cT f g a b c:=by unfold cT;rfl
@[irreducible] noncomputable def cQ(m:ME):MT:=M.cQ m
def yY{m:ME}:cQ m=M.cQ m:=by unfold cQ;rfl
@[irreducible] noncomputable def dc(a b:MT):MT:=M.dc a b
def uI{a b:MT}:dc a b=M.dc a b:=by unfold dc;rfl
@[irreducible] noncomputable def eG(a b:MT):MT:=M.eG a b
def yZ{a b:MT}:eG a b=M.eG a b:=by unfold eG;rfl
@[irreducible] noncomputable def dB(a:MT):MT:=M.dB a
def By{a:MT}:dB a=M.dB a:=by unfold dB;rfl
@[irreducible] noncomputable def dA(a b:ME):ME:=M.LI a b
def Gd{a b:ME}:dA a b=M.LI a b:=by unfold dA;rfl
@[irreducible] noncomputable def vE(a b:ME):ME:=M.Ue a b
def Ly{a b:ME}:vE a b=M.Ue a b:=by unfold vE;rfl
@[irreducible] noncomputable def gF(a:ME):ME:=M.LA a
def Bx{a:ME}:gF a=M.LA a:=by unfold gF;rfl
@[irreducible] noncomputable def mD(t:MT)(a b:ME):ME:=M.mD t a b
def LD{t:MT}{a b:ME}:mD t a b=M.mD t a b:=by unfold mD;rfl
@[irreducible] noncomputable def ai:MA:=M.ai 
def za  : ai  = M.ai  := by unfold ai;rfl
@[irreducible] noncomputable def aa(a:ME)(r:MA):MA:=M.aa a r
def BI{a:ME}{r:MA}:aa a r=M.aa a r:=by unfold aa;rfl
@[irreducible] noncomputable def aO(ms:MA):ME:=M.aO ms
def FR{ms:MA}:aO ms=M.aO ms:=by unfold aO;rfl
@[irreducible] noncomputable def eQ(ms:MA):ME:=M.eQ ms
def FW{ms:MA}:eQ ms=M.eQ ms:=by unfold eQ;rfl
@[irreducible] noncomputable def dI(ms:MA):ME:=M.dI ms
def BB{ms:MA}:dI ms=M.dI ms:=by unfold dI;rfl
@[irreducible] noncomputable def CM(f:ac->D->Option D)(a:ME):ME:=M.CM f a
def Lx{f:ac->D->Option D}{a:ME}:CM f a=M.CM f a:=by unfold CM;rfl
@[irreducible] noncomputable def bw:MO:=M.bw 
def xf  : bw  = M.bw  := by unfold bw;rfl
@[irreducible] noncomputable def bR(m:ME):MO:=M.bR m
def Bw{m:ME}:bR m=M.bR m:=by unfold bR;rfl
@[irreducible] noncomputable def bu(a:ME)(lo hi:MO):ME:=M.bu a lo hi
def xc{a:ME}{lo hi:MO}:bu a lo hi=M.bu a lo hi:=by unfold bu;rfl
@[irreducible] noncomputable def ba(f:List D->ac->Option (D×ac))(ms:MA):ME:=M.ba f ms
def gG{f:List D->ac->Option (D×ac)}{ms:MA}:ba f ms=M.ba f ms:=by unfold ba;rfl
@[irreducible] noncomputable def dR(T:String)(m:ME):ME:=M.dR T m
def FX{T:String}{m:ME}:dR T m=M.dR T m:=by unfold dR;rfl
@[irreducible] noncomputable def ao(n:Nat)(f:List D->ac->Option (D×ac))(ms:MA):ME:=M.ao n f ms
def qR{n:Nat}{f:List D->ac->Option (D×ac)}{ms:MA}:ao n f ms=M.ao n f ms:=by unfold ao;rfl
@[irreducible] noncomputable def aS:MS:=M.aS 
def pU  : aS  = M.aS  := by unfold aS;rfl
@[irreducible] noncomputable def ay(a b:MS):MS:=M.ay a b
def FS{a b:MS}:ay a b=M.ay a b:=by unfold ay;rfl
@[irreducible] noncomputable def aX(m:ME):MS:=M.aX m
def FT{m:ME}:aX m=M.aX m:=by unfold aX;rfl
@[irreducible] noncomputable def cV(m:ME):MS:=M.cV m
def BF{m:ME}:cV m=M.cV m:=by unfold cV;rfl
@[irreducible] noncomputable def bz(t:MT)(a b:MS):MS:=M.bz t a b
def FY{t:MT}{a b:MS}:bz t a b=M.bz t a b:=by unfold bz;rfl
@[irreducible] noncomputable def ah(i:Nat):MG:=M.ah i
def qk{i:Nat}:ah i=M.ah i:=by unfold ah;rfl
@[irreducible] noncomputable def aC:vD:=M.aC 
def Cd  : aC  = M.aC  := by unfold aC;rfl
@[irreducible] noncomputable def af(g:MG)(gs:vD):vD:=M.af g gs
def xE{g:MG}{gs:vD}:af g gs=M.af g gs:=by unfold af;rfl
@[irreducible] noncomputable def aK(n:Nat)(gs:vD):MG:=M.aK n gs
def ng{n:Nat}{gs:vD}:aK n gs=M.aK n gs:=by unfold aK;rfl
@[irreducible] noncomputable def fM(o i:ME):MG:=M.fM o i
def Cc{o i:ME}:fM o i=M.fM o i:=by unfold fM;rfl
@[irreducible] noncomputable def aF(m:ME)(g:MG):MS:=M.aF m g
def ja{m:ME}{g:MG}:aF m g=M.aF m g:=by unfold aF;rfl
@[irreducible] noncomputable def cB(ms:MA):MA:=M.cB ms
def uE{ms:MA}:cB ms=M.cB ms:=by unfold cB;rfl
@[irreducible] noncomputable def dC(ms:MA):MA:=M.dC ms
def uD{ms:MA}:dC ms=M.dC ms:=by unfold dC;rfl
@[irreducible] noncomputable def iZ(mi:MA)(g:MG)(body:MS):MS:=M.iZ mi g body
def FZ{mi:MA}{g:MG}{body:MS}:iZ mi g body=M.iZ mi g body:=by unfold iZ;rfl
@[irreducible] noncomputable def bI(mi:MA)(g:MG)(t:MT)(e:ME)(cap:List (Option Nat)):ME:=M.bI mi g t e cap
def uG{mi:MA}{g:MG}{t:MT}{e:ME}{cap:List (Option Nat)}:bI mi g t e cap=M.bI mi g t e cap:=by unfold bI;rfl
@[irreducible] noncomputable def db(m:ME):MA:=M.db m
def zb{m:ME}:db m=M.db m:=by unfold db;rfl
@[irreducible] noncomputable def bY:MT:=M.bY 
def Bv  : bY  = M.bY  := by unfold bY;rfl
@[irreducible] noncomputable def da(f:MF)(o:ME)(ms:MA):ME:=M.da f o ms
def Bz{f:MF}{o:ME}{ms:MA}:da f o ms=M.da f o ms:=by unfold da;rfl
@[irreducible] noncomputable def eS(ms:MA):MA:=M.eS ms
def BE{ms:MA}:eS ms=M.eS ms:=by unfold eS;rfl
@[irreducible] noncomputable def mz(i j:Nat)(ms:MA):MS:=M.mz i j ms
def FU{i j:Nat}{ms:MA}:mz i j ms=M.mz i j ms:=by unfold mz;rfl
@[irreducible] noncomputable def jV(o:ME)(ms:MA):ME:=M.jV o ms
def Gc{o:ME}{ms:MA}:jV o ms=M.jV o ms:=by unfold jV;rfl
@[irreducible] noncomputable def mQ(ms:MA):MA:=M.mQ ms
def FQ{ms:MA}:mQ ms=M.mQ ms:=by unfold mQ;rfl
@[irreducible] noncomputable def gZ(ms:List (ME×ME)):ME:=M.gZ ms
def BH{ms:List (ME×ME)}:gZ ms=M.gZ ms:=by unfold gZ;rfl
@[irreducible] noncomputable def eU(ms:List (ME×ME)):ME:=M.eU ms
def xj{ms:List (ME×ME)}:eU ms=M.eU ms:=by unfold eU;rfl
@[irreducible] noncomputable def dQ(f:MF)(o:ME)(ms:MA):ME:=M.dQ f o ms
def xh{f:MF}{o:ME}{ms:MA}:dQ f o ms=M.dQ f o ms:=by unfold dQ;rfl
@[irreducible] noncomputable def dO(m:ME)(g:MG)(body:MS):MS:=M.dO m g body
def BD{m:ME}{g:MG}{body:MS}:dO m g body=M.dO m g body:=by unfold dO;rfl
@[irreducible] noncomputable def eR(ms:MA):ME:=M.eR ms
def xi{ms:MA}:eR ms=M.eR ms:=by unfold eR;rfl
@[irreducible] noncomputable def eO(t:MT)(body:MS):MS:=M.eO t body
def wZ{t:MT}{body:MS}:eO t body=M.eO t body:=by unfold eO;rfl
@[irreducible] noncomputable def df(l:List (bt×D))(a:ME):ME:=M.df l a
def xa{l:List (bt×D)}{a:ME}:df l a=M.df l a:=by unfold df;rfl
@[irreducible] noncomputable def iw(l:List (bt×Nat×(List D->ac->Option (D×ac))))(i:Nat)(mi:ME)(ms:MA):MS:=M.iw l i mi ms
def BG{i:Nat}{mi:ME}{ms:MA}:iw l i mi ms=M.iw l i mi ms:=by unfold iw;rfl
@[irreducible] noncomputable def jw(ms:MA)(g:MG)(body:MS):MS:=M.jw ms g body
def BC{ms:MA}{g:MG}{body:MS}:jw ms g body=M.jw ms g body:=by unfold jw;rfl
def Eg{f:List D->ac->Option (D×ac)}:ao 0 f ai=M.ao 0 f M.ai:=by rw [qR,za]
def Ec{f:ac->D->D->Option D}{a b:ME}:ax (ar f a b)=M.ax (M.ar f a b):=by rw [uC,jt]
def Ed{f g:ac->D->D->Option D}{a b c:ME}:ax (cT f g a b c)=M.ax (M.cT f g a b c):=by rw [uC,qQ]
def lQ{m:ME}{i:Nat}:aF m (ah i)=M.aF m (M.ah i):=by rw [ja,qk]
def BJ{mi:MA}{g:MG}{t:MT}{e:ME}{cap:List (Option Nat)}{i:Nat}:aF (bI mi g t e cap) (ah i)=M.aF (M.bI mi g t e cap) (M.ah i):=by rw [ja,qk,uG]
section
variable{X:Cx}{e:Expr}{es:List Expr}{s:Stmt}{ss:List Stmt}
def cj{m m':ME}(h:m=m')(d:DE X e m'):DE X e m:=by rw [h];exact d
def CC{m m':MT}(h:m=m')(d:DT X e m'):DT X e m:=by rw [h];exact d
def GG{m m':MT}(h:m=m')(d:DW X e m'):DW X e m:=by rw [h];exact d
def Sr{m m':MA}(h:m=m')(d:DA X es m'):DA X es m:=by rw [h];exact d
def Sq{o:Option Expr}{m m':MO}(h:m=m')(d:DO X o m'):DO X o m:=by rw [h];exact d
def GH{m m':MG}(h:m=m')(d:DG X e m'):DG X e m:=by rw [h];exact d
def NT{m m':vD}(h:m=m')(d:Wl X es m'):Wl X es m:=by rw [h];exact d
def xP{tg:Expr}{m m':MA}(h:m=m')(d:DI X tg e m'):DI X tg e m:=by rw [h];exact d
def VQ{m m':MT}(h:m=m')(d:Sx X es m'):Sx X es m:=by rw [h];exact d
def iB{m m':MS}(h:m=m')(d:DS X s m'):DS X s m:=by rw [h];exact d
def Fa{m m':MS}(h:m=m')(d:vH X ss m'):vH X ss m:=by rw [h];exact d
end
inductive GI where
 | fn (n:Nat) (f:List D->ac->Option (D×ac))
 | con (d:D)
 | blt
 | tab (l:List (bt×D))
 | ftab (l:List (bt×Nat×(List D->ac->Option (D×ac))))
structure CI where
 N:List Str
 sc:Scope
 all:Bool
 gs:List (Str×GI)
 mt:List Nat
def GOk(X:Cx)(k:Nat)(x:Str):GI->Prop
 | .fn n f=>Fn X.prog X.w X.K X.mg X.base k x n f
 | .con d=>GC X.K X.mg x d
 | .blt=>X.mg x=Y
 | .tab l=>sr X.w X.K X.mg x l
 | .ftab l=>FTab X.prog X.w X.K X.mg X.base k x l
structure jT(k:Nat)(c:CI)(X:Cx):Prop where
 N:X.N=c.N
 nd:c.N.Nodup
 sc:X.env.scope=c.sc
 fk:c.sc.kind=.function
 fn:c.all=true->∀ x,X.fn x=true
 calm:X.calm=true
 room:Room k X.A
 xe:X.xe=λ_ _=>False
 gs:∀ p∈c.gs,GOk X k p.1 p.2
def iO:ME:=λ_ _=>Y
def wp:MT:=λ_ _=>Y
def ju:MS:=λ_ _=>Y
def wq:MA:=λ_ _=>Y
def Mn:MG:=λ_ _ _=>Y
section
variable{X:Cx}{k:Nat}{c:CI}{e:Expr}{pos:Pos}
def cw:DE X e iO:=λ_ _ _ _ _ _ ⟨_,_,_,_,_,_,_,h,_⟩=>by cases h
def qu:DT X e wp:=λ_ _ _ _ _ _ ⟨_,_,_,_,_,_,_,h,_⟩=>by cases h
def ku{s:Stmt}:DS X s ju:=λ_ _ _ _ _ _ ⟨_,_,_,_,_,_,h,_⟩=>by cases h
def Nv{s:Stmt}{g:MG}:DS X s (aF iO g):=by
 rw [show aF iO g=ju from by rw [ja];rfl]
 exact ku
def Vo{s:List Stmt}:vH X s ju:=λ_ _ _ _ _ _ ⟨_,_,_,_,_,_,h,_⟩=>by cases h
def da_no{es:List Expr}:DA X es wq:=λ_ _ _ _ _ _ _ ⟨_,_,_,_,_,_,_,h,_⟩=>by cases h
def vq{tg:Expr}:DI X tg e wq:=λ_ _ _ _ _ _ ⟨_,_,_,_,_,_,_,h,_⟩=>by cases h
def Cw:DG X e Mn:=λ_ _ _ _ _ _ _ _ _ ⟨_,_,_,_,_,_,_,_,_,h,_⟩=>by cases h
def ou(x:Str):List Str->Option Nat
 | []=>Y
 | y::r=>if x == y then U 0 else (ou x r).map (· + 1)
theorem cZ{x:Str}:∀ {l:List Str} {i:Nat},ou x l=U i->l[i]?=U x
 | y::r,i,h=>by
  unfold ou at h
  split at h
  ·rename_i e;cases h;simp at e;simp [e]
  ·cases q:ou x r with
   | none=>rw [q] at h;cases h
   | some j=>rw [q] at h;cases h;simpa using cZ q
def fK(x:Str):Bool:=!(x == ("__debug__":Str)) && !(x == ("__classdict__":Str)) && !(x == ("__name__":Str))
def cR{x:Str}(h:fK x=true):(x == ("__debug__":Str))=false:=by
 unfold fK at h;rw [Wq,Wq] at h;simpa only [Bool.not_eq_true'] using h.1.1
def AT{x:Str}(h:fK x=true):(x == ("__classdict__":Str))=false:=by
 unfold fK at h;rw [Wq,Wq] at h;simpa only [Bool.not_eq_true'] using h.1.2
def gD{x:Str}(h:fK x=true):x ≠ "__name__":=by
 unfold fK at h;rw [Wq,Wq] at h
 have:=h.2
 rw [Bool.not_eq_true'] at this
 intro z;rw [z] at this;simp at this
def Se(c:CI)(x:Str):Option GI:=match c.sc.names.lookup x with | some .globalImplicit=>if fK x then c.gs.lookup x else Y | _=>Y
def jz{g:GI}{x:Str}(C:jT k c X)(h:Se c x=U g):Gl X x/\fK x=true/\GOk X k x g:=by
 unfold Se at h
 split at h
 ·rename_i e
  split at h
  ·rename_i o
   refine⟨?_,o,C.gs _ (XX h)⟩
   show X.env.scope.names.lookup x=_
   rw [C.sc,e]
  ·cases h
 ·cases h
def EI(c:CI)(x:Str):ME:=match c.sc.names.lookup x with
 | some .globalImplicit=>match Se c x with | some (.con d)=>mC d | _=>iO
 | some .local=>match ou x c.N with | some i=>if fK x then ab i else iO | none=>iO
 | some .cell=>match ou x c.N with | some i=>if fK x then ab i else iO | none=>iO
 | some .free=>match ou x c.N with | some i=>if fK x then ab i else iO | none=>iO
 | _=>iO
def pg(C:jT k c X){x:Str}(hv:Ss c.sc x):DE X (.Name x pos) (match ou x c.N with | some i=>if fK x then ab i else iO | none=>iO):=by
 split
 ·rename_i i e
  split
  ·rename_i o
   exact cj yX <| M.Vz (by rw [C.N];exact cZ e) (by rw [C.sc];exact hv) (cR o) (AT o)
  ·exact cw
 ·exact cw
def IJ(C:jT k c X)(x:Str):DE X (.Name x pos) (EI c x):=by
 unfold EI
 split
 ·split
  ·rename_i d e
   obtain⟨g,o,G⟩:=jz C e
   exact cj uH <| M.QU G g (cR o)
  ·exact cw
 ·rename_i e;exact pg C (.inl e)
 ·rename_i e;exact pg C (.inr (.inl e))
 ·rename_i e;exact pg C (.inr (.inr e))
 ·exact cw
def Gy:Const->ME
 | .int i=>mC (.int i)
 | .bool b=>mC (.bl b)
 | .none=>mC .non
 | .str x=>mC (.str x)
 | _=>iO
def EL(v:Const){j:Nat}:DE X (.Constant v j pos) (Gy v):=by
 cases v <;> first | exact cj uH <| M.VG | exact cj uH <| M.de_bl | exact cj uH <| M.VD | exact cj uH <| M.VB | exact cw
def MZ(z:Bool)(op:Operator)(a b:ME):ME:=match op with
 | .Add=>ar aR a b
 | .Sub=>ar oz a b
 | .Mult=>ar cz a b
 | .Mod=>ar lW a b
 | .FloorDiv=>ar IF a b
 | .Pow=>ar wv a b
 | _=>iO
def MY{z:Bool}{op:Operator}{a b:Expr}{ma mb:ME}(ha:DE X a ma)(hb:DE X b mb):DE X (.BinOp a op b pos) (MZ z op ma mb):=by
 cases op <;> first | exact cw | skip
 ·exact cj jt <| M.xL Pm ha hb
 ·exact cj jt <| M.xL TM ha hb
 ·exact cj jt <| M.xL Pl ha hb
 ·exact cj jt <| M.xL TR ha hb
 ·exact cj jt <| M.xL TN ha hb
 ·exact cj jt <| M.xL TV ha hb
def evUn(op:UnaryOp)(a:ME):ME:=match op with
 | .Not=>gF a
 | .USub=>CM UX a
 | _=>iO
def Qv{op:UnaryOp}{a:Expr}{ma:ME}(ha:DE X a ma):DE X (.UnaryOp op a pos) (evUn op ma):=by
 cases op <;> first | exact cw | skip
 ·exact cj Bx <| M.QS ha
 ·exact cj Lx <| M.de_un Ol ha
def EZ:CmpOp->Option (ac->D->D->Option D)
 | .Eq=>U bW
 | .NotEq=>U gv
 | .Lt=>U Qq
 | .LtE=>U Qr
 | .Gt=>U fGt
 | .GtE=>U fGe
 | .In=>U kR
 | .NotIn=>U rf
 | .Is=>U wy
 | .IsNot=>U nh
def og{op:CmpOp}{f:ac->D->D->Option D}(r:Room k X.A)(h:EZ op=U f):OpR X (compareOp op) (on X.K f):=by
 cases op <;> cases h
 ·exact op_Eq r.units
 ·exact op_Ne r.units
 ·exact op_Lt
 ·exact op_Le
 ·exact op_Gt
 ·exact op_Ge
 ·exact op_Is
 ·exact Lh
 ·exact op_In r.units
 ·exact Lg r.units
def lM:Expr->Bool
 | .Set _ _ _=>false
 | _=>true
def iW{op:CmpOp}(h:lM e=true):behindInMarks op e=false:=by cases e <;> first | rfl | cases h
def kg(h:lM e=true)(x:Value):foldedSetIterable e X.env x=pure x:=by cases e <;> first | rfl | cases h
def MX(c:CI)(E:CI->Expr->ME)(a:Expr)(ops:List CmpOp)(bs:List Expr):ME:=match ops,bs with
 | [op],[b]=>if lM b then (match EZ op with | some f=>ar f (E c a) (E c b) | none=>iO) else iO
 | [op,op'],[b,d]=>if lM d then (match EZ op,EZ op' with | some f,U g=>cT f g (E c a) (E c b) (E c d) | _,_=>iO) else iO
 | _,_=>iO
def EM(c:CI)(E:CI->Expr->ME)(a:Expr)(ops:List CmpOp)(bs:List Expr):MT:=match ops,bs with
 | [op],[b]=>if lM b then (match EZ op with | some f=>ax (ar f (E c a) (E c b)) | none=>wp) else wp
 | [op,op'],[b,d]=>if lM d then (match EZ op,EZ op' with | some f,U g=>ax (cT f g (E c a) (E c b) (E c d)) | _,_=>wp) else wp
 | _,_=>wp
section
variable{E:CI->Expr->ME}{T:CI->Expr->MT}
def MW(C:jT k c X)(hE:∀ e,DE X e (E c e)){a:Expr}{ops:List CmpOp}{bs:List Expr}:DE X (.Compare a ops bs pos) (MX c E a ops bs):=by
 unfold MX
 split
 ·split
  ·rename_i hm
   split
   ·rename_i f h;exact cj jt <| M.VI (og C.room h) (hE _) (hE _) (iW hm)
   ·exact cw
  ·exact cw
 ·split
  ·rename_i hm
   split
   ·rename_i f g h1 h2;exact cj qQ <| M.NL (og C.room h1) (og C.room h2) (hE _) (hE _) (hE _) (iW hm)
   ·exact cw
  ·exact cw
 ·exact cw
def IP(C:jT k c X)(hE:∀ e,DE X e (E c e)){a:Expr}{ops:List CmpOp}{bs:List Expr}:DT X (.Compare a ops bs pos) (EM c E a ops bs):=by
 unfold EM
 split
 ·split
  ·rename_i hm
   split
   ·rename_i f h;exact CC Ec <| M.Vn (og C.room h) (hE _) (hE _) (iW hm)
   ·exact qu
  ·exact qu
 ·split
  ·rename_i hm
   split
   ·rename_i f g h1 h2;exact CC Ed <| M.No (og C.room h1) (og C.room h2) (hE _) (hE _) (hE _) (iW hm)
   ·exact qu
  ·exact qu
 ·exact qu
def Ch(f:ME->ME->ME):List ME->ME
 | []=>iO
 | [m]=>m
 | m::r=>f m (Ch f r)
def vc(f:MT->MT->MT):List MT->MT
 | []=>wp
 | [m]=>m
 | m::r=>f m (vc f r)
theorem xG{E:Expr->ME}(hE:∀ e,DE X e (E e)):∀ vs:List Expr,DE X (.BoolOp .And vs pos) (Ch dA (vs.map E))
 | []=>cw
 | [e]=>NH (hE e)
 | e::e'::r=>cj Gd <| M.QZ (hE e) (xG hE (e'::r))
theorem Cg{E:Expr->ME}(hE:∀ e,DE X e (E e)):∀ vs:List Expr,DE X (.BoolOp .Or vs pos) (Ch vE (vs.map E))
 | []=>cw
 | [e]=>NH (hE e)
 | e::e'::r=>cj Ly <| M.VC (hE e) (Cg hE (e'::r))
def IB{E:Expr->MT}(hE:∀ e,DT X e (E e)):∀ vs:List Expr,DT X (.BoolOp .And vs pos) (vc dc (vs.map E))
 | []=>qu
 | [e]=>QC (GA (hE e))
 | e::e'::r=>QC (GG uI <| M.Nm (hE e) (foldT_andW hE (e'::r) (by simp)))
where foldT_andW {E:Expr->MT} (hE:∀ e,DT X e (E e)):∀ vs:List Expr,vs≠[]->DW X (.BoolOp .And vs pos) (vc dc (vs.map E))
 | [],h=>absurd rfl h
 | [e],_=>GA (hE e)
 | e::e'::r,_=>GG uI <| M.Nm (hE e) (foldT_andW hE (e'::r) (by simp))
def Mp{E:Expr->MT}(hE:∀ e,DT X e (E e)):∀ vs:List Expr,DT X (.BoolOp .Or vs pos) (vc eG (vs.map E))
 | []=>qu
 | [e]=>QC (Nl (hE e))
 | e::e'::r=>QC (GG yZ <| M.Sl (hE e) (foldT_orW hE (e'::r) (by simp)))
where foldT_orW {E:Expr->MT} (hE:∀ e,DT X e (E e)):∀ vs:List Expr,vs≠[]->DW X (.BoolOp .Or vs pos) (vc eG (vs.map E))
 | [],h=>absurd rfl h
 | [e],_=>Nl (hE e)
 | e::e'::r,_=>GG yZ <| M.Sl (hE e) (foldT_orW hE (e'::r) (by simp))
def ci:Expr->Bool
 | .Starred _ _=>false
 | _=>true
def bF{es:List Expr}(h:ci e=true):starEach (e::es) X.env=(false,eval e X.env)::starEach es X.env:=by cases e <;> first | rfl | cases h
theorem hJ:∀ {es:List Expr},es.all ci=true->(backTo pos (starEach es X.env)).any (·.1)=false
 | [],_=>rfl
 | e::es,h=>by
  rw [XM,Wq] at h
  rw [bF h.1]
  show (false||(backTo pos (starEach es X.env)).any (·.1))=false
  rw [hJ h.2];rfl
def vG(E:Expr->ME):List Expr->MA
 | []=>ai
 | e::r=>if ci e then aa (E e) (vG E r) else wq
theorem fh{E:Expr->ME}(hE:∀ e,DE X e (E e)):∀ es:List Expr,DA X es (vG E es)
 | []=>Sr za <| M.VJ
 | e::r=>by
  unfold vG
  split
  ·rename_i h;exact Sr BI <| M.Rc (hE e) (fh hE r) (bF h)
  ·exact da_no
def evO(E:Expr->ME):Option Expr->MO
 | none=>bw
 | some e=>bR (E e)
def MQ{E:Expr->ME}(hE:∀ e,DE X e (E e)):∀ o:Option Expr,DO X o (evO E o)
 | none=>Sq xf <| M.QP
 | some e=>Sq Bw <| M.QO (hE e)
def Al(c:CI):Expr->Option (List (bt×D))
 | .Name x _=>match Se c x with | some (.tab l)=>U l | _=>Y
 | _=>Y
def CU{a:Expr}{l:List (bt×D)}(C:jT k c X)(h:Al c a=U l):∃ x p,a=.Name x p/\Gl X x/\fK x=true/\sr X.w X.K X.mg x l:=by
 unfold Al at h
 split at h
 ·split at h
  ·rename_i e
   cases h
   obtain⟨g,o,G⟩:=jz C e
   exact⟨_,_,rfl,g,o,G⟩
  ·cases h
 ·cases h
def Si(c:CI)(E:Expr->ME)(a i:Expr):ME:=match i with
 | .Slice lo hi st _=>match st with | none=>bu (E a) (evO E lo) (evO E hi) | some st=>(match lo,hi with | none,Y=>iO | _,_=>iO)
 | i=>match Al c a with | some l=>df l (E i) | none=>ar aw (E a) (E i)
def II(C:jT k c X){E:Expr->ME}(hE:∀ e,DE X e (E e))(a i:Expr)(hs:oi i:=by intro _ _;rfl):DE X (.Subscript a i pos) (match Al c a with | some l=>df l (E i) | none=>ar aw (E a) (E i)):=by
 cases ht:Al c a with
 | none=>exact cj jt <| M.VF (by have:=C.room.units;omega) (hE a) (hE _) hs
 | some l=>
  obtain⟨x,p,rfl,g,o,G⟩:=CU C ht
  exact cj xa (M.NF G g (cR o) (hE _) hs)
def ML(C:jT k c X){E:Expr->ME}(hE:∀ e,DE X e (E e))(a i:Expr):DE X (.Subscript a i pos) (Si c E a i):=by
 cases i with
 | Slice lo hi st p=>
  cases st with
  | none=>exact cj xc <| M.NG (hE a) (MQ hE lo) (MQ hE hi)
  | some st=>
   cases lo with
   | none=>
    cases hi with
    | none=>exact cw
    | some _=>exact cw
   | some _=>exact cw
 | _=>exact II C hE a _
def um:Expr->Option Str
 | .Name x _=>U x
 | _=>Y
def mN{x:Str}(h:um e=U x):∃ p,e=.Name x p:=by cases e <;> cases h;exact⟨_,rfl⟩
def rp:Expr->Option (Str×List Expr)
 | .Call f es [] _=>(um f).map λx=>(x,es)
 | _=>Y
def kw{x:Str}{es:List Expr}(h:rp e=U (x,es)):∃ p p2,e=.Call (.Name x p) es [] p2:=by
 cases e with
 | Call f es' ks p2=>
  cases ks with
  | nil=>
   obtain⟨y,h1,h2⟩:=aaf.mp h
   cases h2
   obtain⟨p,rfl⟩:=mN h1
   exact⟨p,p2,rfl⟩
  | cons _ _=>cases h
 | _=>cases h
def mw(c:CI)(x:Str):Bool:=match Se c x with | some .blt=>true | _=>false
def lh{x:Str}(C:jT k c X)(h:mw c x=true):X.mg x=Y/\Gl X x/\fK x=true:=by
 unfold mw at h
 split at h
 ·rename_i e;obtain⟨a,b,d⟩:=jz C e;exact⟨d,a,b⟩
 ·cases h
def Dc(c:CI)(es:List Expr):Option Expr:=match es with
 | [e1]=>match rp e1 with
  | some (y,[a])=>if y == "set" && mw c y&&ci a then U a else Y
  | _=>Y
 | _=>Y
def Ar{es:List Expr}{a:Expr}(h:Dc c es=U a):∃ p p2,es=[.Call (.Name "set" p) [a] [] p2]/\mw c "set" = true/\ci a=true:=by
 unfold Dc at h
 split at h
 ·split at h
  ·rename_i hc
   split at h
   ·rename_i hb
    cases h
    rw [Wq,Wq] at hb
    obtain⟨p,p2,rfl⟩:=kw hc
    have z:=hb.1.1
    rw [beq_iff_eq] at z;subst z
    exact⟨p,p2,rfl,hb.1.2,hb.2⟩
   ·cases h
  ·cases h
 ·cases h
def tW(c:CI)(es:List Expr):Option Expr:=match es with
 | [e1]=>match rp e1 with
  | some (y,[a])=>if y == "range" && mw c y&&ci a then U a else Y
  | _=>Y
 | _=>Y
def vQ{es:List Expr}{a:Expr}(h:tW c es=U a):∃ p p2,es=[.Call (.Name "range" p) [a] [] p2]/\mw c "range" = true/\ci a=true:=by
 unfold tW at h
 split at h
 ·split at h
  ·rename_i hc
   split at h
   ·rename_i hb
    cases h
    rw [Wq,Wq] at hb
    obtain⟨p,p2,rfl⟩:=kw hc
    have z:=hb.1.1
    rw [beq_iff_eq] at z;subst z
    exact⟨p,p2,rfl,hb.1.2,hb.2⟩
   ·cases h
  ·cases h
 ·cases h
def VW(z:Bool)(x:Str):Option (List D->ac->Option (D×ac)):=
 if x == "len" then U (aJ eg) else if x == "int" then U (aJ lv) else if x == "max" then U (aJ oK) else if x == "min" then U (aJ Co)
 else if x == "list" then U (aJ (cr .lst)) else if x == "tuple" then U (aJ (cr .tup)) else if x == "all" then U (aJ zF) else if x == "dict" && z then U (aJ nu) else Y
set_option maxHeartbeats 800000 in
def Rj{zz:Bool}{x:Str}{f:List D->ac->Option (D×ac)}{es:List Expr}{ms:MA}{p:Pos}(C:jT k c X)(h:VW zz x=U f)(hm:X.mg x=Y)(hg:Gl X x)(o:fK x=true)(hs:(e::es).all ci=true)(ha:DA X (e::es) ms) :
  DE X (.Call (.Name x p) (e::es) [] pos) (ba f ms):=by
 rw [XM,Wq] at hs
 have q1:=bF (X:=X) (es:=es) hs.1
 have q2:=hJ (X:=X) (pos:=pos) hs.2
 unfold VW at h
 split at h
 ·rename_i z;cases h;rw [beq_iff_eq] at z;subst z;exact cj gG <| M.qw NU hm boot_len ha hg (gD o) (cR o) q1 q2
 split at h
 ·rename_i z;cases h;rw [beq_iff_eq] at z;subst z;exact cj gG <| M.oa NV hm boot_int ha hg (gD o) (cR o) q1 q2
 split at h
 ·rename_i z;cases h;rw [beq_iff_eq] at z;subst z;exact cj gG <| M.qw (Ju C.calm) hm boot_max ha hg (gD o) (cR o) q1 q2
 split at h
 ·rename_i z;cases h;rw [beq_iff_eq] at z;subst z;exact cj gG <| M.qw (Jt C.calm) hm boot_min ha hg (gD o) (cR o) q1 q2
 split at h
 ·rename_i z;cases h;rw [beq_iff_eq] at z;subst z;exact cj gG <| M.oa Jw hm boot_list ha hg (gD o) (cR o) q1 q2
 split at h
 ·rename_i z;cases h;rw [beq_iff_eq] at z;subst z;exact cj gG <| M.oa Fe hm boot_tuple ha hg (gD o) (cR o) q1 q2
 split at h
 ·rename_i z;cases h;rw [beq_iff_eq] at z;subst z;exact cj gG <| M.qw (NW C.calm) hm boot_all ha hg (gD o) (cR o) q1 q2
 split at h
 ·rename_i z;cases h;rw [Wq,beq_iff_eq] at z;obtain⟨z,_⟩:=z;subst z;exact cj gG <| M.oa (Ff C.calm) hm boot_dict ha hg (gD o) (cR o) q1 q2
 cases h
def SI(x:Str):Option String:=if x == "int" then U "int" else if x == "bool" then U "bool" else if x == "str" then U "str" else if x == "tuple" then U "tuple" else if x == "list" then U "list" else if x == "dict" then U "dict" else Y
def Fw{x:Str}{T:String}(h:SI x=U T):bootBuiltins x=U (.type T)/\(T = "int"\/T = "bool"\/T = "str"\/T = "tuple"\/T = "list"\/T = "dict"):=by
 unfold SI at h
 split at h
 ·rename_i z;cases h;rw [beq_iff_eq] at z;subst z;exact⟨boot_int,by simp⟩
 split at h
 ·rename_i z;cases h;rw [beq_iff_eq] at z;subst z;exact⟨boot_bool,by simp⟩
 split at h
 ·rename_i z;cases h;rw [beq_iff_eq] at z;subst z;exact⟨boot_str,by simp⟩
 split at h
 ·rename_i z;cases h;rw [beq_iff_eq] at z;subst z;exact⟨boot_tuple,by simp⟩
 split at h
 ·rename_i z;cases h;rw [beq_iff_eq] at z;subst z;exact⟨boot_list,by simp⟩
 split at h
 ·rename_i z;cases h;rw [beq_iff_eq] at z;subst z;exact⟨boot_dict,by simp⟩
 cases h
def Sj(c:CI)(E:Expr->ME):List Expr->ME
 | [a,t]=>match um t with
  | some y=>match Se c y,SI y with | some .blt,U T=>if ci a then dR T (E a) else iO | _,_=>iO
  | none=>iO
 | _=>iO
def zI(c:CI)(E:Expr->ME)(x:Str)(es:List Expr):ME:=match Se c x with
 | some (.fn n f)=>match es with
  | []=>if n == 0 then ao 0 f ai else iO
  | e::r=>if (e::r).all ci then ao n f (vG E (e::r)) else iO
 | some .blt=>if x == "isinstance" then Sj c E es else match (if x == "len" then Dc c es else Y) with
  | some a=>iO
  | none=>match (if x == "list" then tW c es else Y) with
  | some a=>eR (vG E [a])
  | none=>match VW (c.mt.contains 400000) x,es with
   | some f,e::r=>if (e::r).all ci then ba f (vG E (e::r)) else iO
   | _,_=>iO
 | _=>iO
def IQ(C:jT k c X){E:Expr->ME}(hE:∀ e,DE X e (E e)){x:Str}{es:List Expr}{p:Pos}:DE X (.Call (.Name x p) es [] pos) (zI c E x es):=by
 unfold zI
 split
 ·rename_i n f hg
  obtain⟨g,o,G⟩:=jz C hg
  split
  ·split
   ·rename_i hn
    have:n=0:=by simpa using hn
    subst this
    exact cj Eg <| M.NM G C.room g (cR o)
   ·exact cw
  ·split
   ·rename_i hs
    have hs':=hs
    rw [XM,Wq] at hs
    exact cj qR <| M.QY G C.room (fh hE _) g (cR o) (bF hs.1) (hJ hs.2)
   ·exact cw
 ·rename_i hg
  obtain⟨g,o,G⟩:=jz C hg
  split
  ·rename_i z
   rw [beq_iff_eq] at z;subst z
   unfold Sj
   split
   ·split
    ·rename_i y hy
     obtain⟨p2,rfl⟩:=mN hy
     split
     ·rename_i T h1 h2
      obtain⟨g',o',G'⟩:=jz C h1
      split
      ·rename_i hs
       exact cj FX <| M.Je G G' (Fw h2).1 (hE _) (Fw h2).2 g g' (gD o') (cR o') (bF hs) rfl rfl
      ·exact cw
     ·exact cw
    ·exact cw
   ·exact cw
  ·split
   ·rename_i a ha
    split at ha
    ·rename_i z
     rw [beq_iff_eq] at z;subst z
     obtain⟨p3,p4,rfl,hb,hs⟩:=Ar ha
     obtain⟨m2,g2,o2⟩:=lh C hb
     exact cw
    ·cases ha
   ·split
    ·rename_i a ha
     split at ha
     ·rename_i z
      rw [beq_iff_eq] at z;subst z
      obtain⟨p3,p4,rfl,hb,hs⟩:=vQ ha
      obtain⟨m2,g2,o2⟩:=lh C hb
      exact cj xi (M.NJ C.calm G m2 g g2 (fh hE _) (bF hs))
     ·cases ha
    ·split
     ·rename_i _ f e r hf
      split
      ·rename_i hs
       exact Rj C (by assumption) G g o hs (fh hE _)
      ·exact cw
     ·exact cw
 ·exact cw
def Fh:Expr->Option (Expr×Str×Pos)
 | .Attribute o nm ap=>U (o,nm,ap)
 | _=>Y
def CH{o:Expr}{nm:Str}{ap:Pos}(h:Fh e=U (o,nm,ap)):e=.Attribute o nm ap:=by cases e <;> cases h;rfl
def Lo(x:Str):Option MF:=if x == "append" then U ce else if x == "count" then U nY else if x == "index" then U nj else Y
def Ln{x:Str}{f:MF}(C:jT k c X)(h:Lo x=U f):∃ id,Slot "list" x id/\typeOf (.builtin id)=pure (.type "method_descriptor")/\MtR X id (Og X.K f):=by
 unfold Lo at h
 split at h
 ·rename_i z;cases h;rw [beq_iff_eq] at z;subst z;exact⟨_,aaL,F.type_list_append,HM⟩
 split at h
 ·rename_i z;cases h;rw [beq_iff_eq] at z;subst z;exact⟨_,Zv,F.type_list_count,AY C.room.units⟩
 split at h
 ·rename_i z;cases h;rw [beq_iff_eq] at z;subst z;exact⟨_,F.slot_list_index,F.type_list_index,Lm C.room.units⟩
 cases h
def DK(x:Str):Option MF:=if x == "get" then U sj else if x == "update" then U vg else Y
def HP{x:Str}{f:MF}(C:jT k c X)(h:DK x=U f):∃ id,Slot "dict" x id/\typeOf (.builtin id)=pure (.type "method_descriptor")/\MtR X id (Og X.K f):=by
 unfold DK at h
 split at h
 ·rename_i z;cases h;rw [beq_iff_eq] at z;subst z;exact⟨_,YD,F.type_dict_get,Pw (by have:=C.room.units;omega)⟩
 split at h
 ·rename_i z;cases h;rw [beq_iff_eq] at z;subst z;exact⟨_,aaM,F.type_dict_update,Pv⟩
 cases h
theorem Ap:∀ {es:List Expr},es.all ci=true->(backTo pos (starEach es X.env)).all (λx=>!x.1)=true
 | [],_=>rfl
 | e::es,h=>by
  rw [XM,Wq] at h
  rw [bF h.1]
  show (true&&(backTo pos (starEach es X.env)).all (λx=>!x.1))=true
  rw [Ap h.2];rfl
def Th(o:Expr):Bool:=match o with | .Call _ _ _ _=>false | _=>true
def zH(z:Bool)(E:Expr->ME)(o:Expr)(nm:Str)(ap cp:Pos)(es:List Expr):ME:=match Th o,es with
 | true,e::r=>if (e::r).all ci&&(decide ((e::r).length<30)&&ap.endLine == cp.line) then
   (if nm == "count" then jV (E o) (vG E (e::r)) else match DK nm with | some f=>dQ f (E o) (vG E (e::r)) | none=>match Lo nm with | some f=>da f (E o) (vG E (e::r)) | none=>iO) else iO
 | _,_=>iO
def IK{z:Bool}(C:jT k c X){E:Expr->ME}(hE:∀ e,DE X e (E e)){o:Expr}{nm:Str}{ap:Pos}{es:List Expr}:DE X (.Call (.Attribute o nm ap) es [] pos) (zH z E o nm ap pos es):=by
 unfold zH
 split
 ·rename_i e r hx
  split
  ·rename_i h
   rw [Wq,Wq] at h
   have hs:=h.1
   rw [XM,Wq] at hs
   have few:((backTo pos (starEach (e::r) X.env)).all (λx=>!x.1)&&(backToKw pos (keywordEach [] X.env)).all (λx=>x.1.isSome)&&decide ((e::r).length+([]:List Keyword).length+(if ([]:List Keyword).isEmpty then 0 else 1)<30))=true:=by
    rw [Ap h.1]
    show (true&&decide ((e::r).length+0+0<30))=true
    exact h.2.1
   split
   ·rename_i hc
    rw [beq_iff_eq] at hc;subst hc
    exact cj Gc (M.VH C.room.units (hE _) (fh hE _) (vA hx) few h.2.2 (bF hs.1) (hJ hs.2))
   ·split
    ·rename_i f hf
     obtain⟨id,h1,h2,h3⟩:=HP C hf
     exact cj xh (M.NI h1 h2 h3 (hE _) (fh hE _) (vA hx) few h.2.2 (bF hs.1) (hJ hs.2))
    ·split
     ·rename_i f hf
      obtain⟨id,h1,h2,h3⟩:=Ln C hf
      exact cj Bz (M.GD h1 h2 h3 (hE _) (fh hE _) (vA hx) few h.2.2 (bF hs.1) (hJ hs.2))
     ·exact cw
  ·exact cw
 ·exact cw
def AU:Expr->Bool
 | .Slice _ _ _ _=>false
 | _=>true
def IM(G:Expr->MG):List Expr->vD
 | []=>aC
 | e::r=>af (if ci e then G e else Mn) (IM G r)
def sR(c:CI)(x:Str):MG:=match c.sc.names.lookup x,ou x c.N with
 | some .local,U i=>ah i
 | some .cell,U i=>if c.all then ah i else Mn
 | _,_=>Mn
def Qy(c:CI)(E:Expr->ME):Expr->MG
 | .Name x _=>sR c x
 | .Subscript o i _=>if AU i then fM (E o) (E i) else Mn
 | _=>Mn
def MU(c:CI)(E:Expr->ME):Expr->MG
 | .Tuple es _ _=>if es.all ci then aK es.length (IM (λe=>match e with | .Tuple es _ _=>if es.all ci then aK es.length (IM (Qy c E) es) else Mn | e=>Qy c E e) es) else Mn
 | e=>Qy c E e
def Qw(C:jT k c X)(x:Str):DG X (.Name x pos) (sR c x):=by
 unfold sR
 split
 ·rename_i h1 h2
  exact GH qk <| M.GB (by rw [C.N];exact C.nd) (by rw [C.N];exact cZ h2) (by rw [C.sc];exact .inl h1) (.inr (by rw [C.sc];exact h1))
 ·rename_i h1 h2
  split
  ·rename_i ha
   exact GH qk <| M.GB (by rw [C.N];exact C.nd) (by rw [C.N];exact cZ h2) (by rw [C.sc];exact .inr h1) (.inl (C.fn ha x))
  ·exact Cw
 ·exact Cw
def Qx(C:jT k c X){E:Expr->ME}(hE:∀ e,DE X e (E e))(e:Expr):DG X e (Qy c E e):=by
 cases e with
 | Name x p=>exact Qw C x
 | Subscript o i p=>
  show DG X _ (if AU i then fM (E o) (E i) else Mn)
  split
  ·rename_i h
   refine GH Cc (M.Vw (hE o) (hE i) ?_)
   cases i <;> first | (intro _;rfl) | cases h
  ·exact Cw
 | _=>exact Cw
def rq{es:List Expr}(h:ci e=true):assignEach (e::es) X.env=(false,assign e X.env)::assignEach es X.env:=by cases e <;> first | rfl | cases h
theorem zW:∀ {es:List Expr},es.all ci=true->(assignEach es X.env).length=es.length/\(assignEach es X.env).findIdx? (·.1)=Y
 | [],_=>⟨rfl,rfl⟩
 | e::es,h=>by
  rw [XM,Wq] at h
  rw [rq h.1]
  obtain⟨a,b⟩:=zW h.2
  exact⟨by simp [a],by simp [Yd,b]⟩
theorem Gx{G:Expr->MG}(hG:∀ e,DG X e (G e)):∀ es:List Expr,es.all ci=true->Wl X es (IM G es)
 | [],_=>NT Cd <| M.QR
 | e::r,h=>by
  rw [XM,Wq] at h
  unfold IM
  rw [WI h.1]
  exact NT xE <| M.ND (hG e) (Gx hG r h.2) (by rw [rq h.1];rfl)
def Gw(C:jT k c X){G:Expr->MG}(hG:∀ e,DG X e (G e))(es:List Expr)(j:Nat):DG X (.Tuple es j pos) (if es.all ci then aK es.length (IM G es) else Mn):=by
 split
 ·rename_i h
  exact GH ng <| M.Vv C.calm (Gx hG es h) (zW h).1 (zW h).2
 ·exact Cw
def ph(C:jT k c X){E:Expr->ME}(hE:∀ e,DE X e (E e))(e:Expr):DG X e (MU c E e):=by
 have h1:=Qx C hE
 cases e with
 | Tuple es j p=>
  refine Gw C (λe=>?_) es j
  cases e with
  | Tuple es j p=>exact Gw C h1 es j
  | _=>exact h1 _
 | _=>exact h1 _
def evI(c:CI)(E:Expr->ME)(tg it:Expr):MA:=match rp it with
 | some (x,es)=>if x == "enumerate" && mw c x then (match tg,es with
   | .Tuple _ _ _,[a]=>if ci a then eS (vG E [a]) else wq
   | _,_=>wq) else if x == "zip" && mw c x then (match tg,es with
   | .Tuple _ _ tp,[a,b]=>if ci a&&ci b then (mQ (vG E [a,b])) else wq
   | _,_=>wq) else if x == "range" && mw c x then (match es with
   | [a]=>if ci a then cB (vG E [a]) else wq
   | [a,b]=>if ci a&&ci b then dC (vG E [a,b]) else wq
   | _=>wq) else db (E it)
 | none=>db (E it)
def EJ(C:jT k c X){E:Expr->ME}(hE:∀ e,DE X e (E e)){tg it:Expr}:DI X tg it (evI c E tg it):=by
 unfold evI
 split
 ·rename_i x es he
  obtain⟨p,p2,rfl⟩:=kw he
  split
  ·rename_i hx
   rw [Wq] at hx
   obtain⟨m,g,o⟩:=lh C hx.2
   have z:=hx.1
   rw [beq_iff_eq] at z;subst z
   split
   ·split
    ·rename_i h
     exact xP BE (M.QQ m (fh hE _) g (bF h))
    ·exact vq
   ·exact vq
  split
  ·rename_i hx
   rw [Wq] at hx
   obtain⟨m,g,o⟩:=lh C hx.2
   have z:=hx.1
   rw [beq_iff_eq] at z;subst z
   split
   ·split
    ·rename_i h
     rw [Wq] at h
     exact xP FQ (M.Vu m (fh hE _) g (by rw [bF h.1,bF h.2];rfl) (bF h.2))
    ·exact vq
   ·exact vq
  split
  ·rename_i hx
   rw [Wq] at hx
   obtain⟨m,g,o⟩:=lh C hx.2
   have z:=hx.1
   rw [beq_iff_eq] at z;subst z
   split
   ·split
    ·rename_i h
     exact xP uE <| M.Jc m (fh hE _) g (bF h)
    ·exact vq
   ·split
    ·rename_i h
     rw [Wq] at h
     exact xP uD <| M.Jb m (fh hE _) g (by rw [bF h.1,bF h.2];rfl) (bF h.2)
    ·exact vq
   ·exact vq
  ·exact xP zb <| M.EX (hE _)
 ·exact xP zb <| M.EX (hE _)
def Sa(c:CI)(it:Expr):Bool:=match rp it with | some (x,_)=>(x == "enumerate" || x == "zip" || x == "range")&&mw c x | none=>false
def mH(scope sc:Scope):Scope:={ scope with names:=scope.names.map λx=>match x with | (n,k)=>if (k == NameKind.free&&sc.kind == .function&&sc.names.lookup n == U .cell)=true then (n,.cell) else (n,k) }
def RG(scope:Scope)(env:Env):relabel scope env=mH scope env.scope:=rfl
def CG(scope:Scope):List Str:=(scope.names.filter λx=>x.2 == .local && !(x.1 == (".0":Str))).map (·.1)++(scope.names.filter λx=>x.2 == .free).map (·.1)
def zV(c:CI)(scope:Scope):List (Option Nat):=(scope.names.filter λx=>x.2 == .local && !(x.1 == (".0":Str))).map (λ_=>Y)++(scope.names.filter λx=>x.2 == .free).map (λx=>ou x.1 c.N)
def VX(c:CI)(scope:Scope):Bool:=
 scope.kind == .function&&(scope.names.all λx=>x.2 != .cell)&&(scope.names.all λx=>x.2 != .local||scope.names.lookup x.1 == U .local)
 && (scope.names.all λx=>x.2 != .free||c.sc.names.lookup x.1 == U .cell||c.sc.names.lookup x.1 == U .free)
 && wB c.N (CG scope) (λy=>c.sc.names.lookup y) (λy=>(mH scope c.sc).names.lookup y) (zV c scope) (CG scope)&&decide (CG scope).Nodup
def NX(c:CI)(scope:Scope):CI:=⟨CG scope,mH scope c.sc,false,c.gs,c.mt⟩
def GJ{scope:Scope}(C:jT k c X)(h:VX c scope=true):BlockOk X (CG scope) scope (zV c scope)/\∀ A s H fp,jT k (NX c scope) (qC X (CG scope) scope A s H fp):=by
 unfold VX at h
 simp only [Wq,XB,beq_iff_eq] at h
 obtain⟨⟨⟨⟨⟨h1,h2⟩,h3⟩,h4⟩,h5⟩,h6⟩:=h
 refine⟨blk h6 h1 h2 h3 ?_ ?_,λA s H fp=>⟨rfl,h6,?_,h1,(λz=>nomatch z),C.calm,C.room,rfl,C.gs⟩⟩
 ·show (scope.names.all λx=>x.2 != .free||X.env.scope.names.lookup x.1 == U .cell||X.env.scope.names.lookup x.1 == U .free)=true
  rw [C.sc];exact h4
 ·show wB X.N (CG scope) (λy=>X.env.scope.names.lookup y) (λy=>(mH scope X.env.scope).names.lookup y) (zV c scope) (CG scope)=true
  rw [C.sc,C.N];exact h5
 ·show mH scope X.env.scope=_
  rw [C.sc];rfl
def evTs(T:Expr->MT):List Expr->MT
 | []=>bY
 | [e]=>T e
 | _=>wp
def Gs{T:Expr->MT}(hT:∀ e,DT X e (T e)):∀ es:List Expr,Sx X es (evTs T es)
 | []=>VQ Bv <| M.Nn
 | [e]=>QA (hT e)
 | _::_::_=>λ_ _ _ _ _ _ ⟨_,_,_,_,_,_,_,h,_⟩=>by cases h
def nv(c:CI)(E:CI->Expr->ME)(T:CI->Expr->MT)(elt:Expr)(gens:List Comprehension)(scope:Scope)(line:Nat):ME:=match gens with
 | [⟨tg,it,ifs,a⟩]=>if a == 0&&lM it&&VX c scope then if c.mt.contains (line+100000) then iO else bI (evI c (E c) tg it) (MU (NX c scope) (E (NX c scope)) tg) (evTs (T (NX c scope)) ifs) (E (NX c scope) elt) (zV c scope) else iO
 | _=>iO
def xI(C:jT k c X)(hE:∀ c X,jT k c X->∀ e,DE X e (E c e))(hT:∀ c X,jT k c X->∀ e,DT X e (T c e)){elt:Expr}{gens:List Comprehension}{scope:Scope}{line:Nat}:DE X (.ListComp elt gens scope pos) (nv c E T elt gens scope line):=by
 unfold nv
 split
 ·rename_i tg it ifs a
  split
  ·rename_i h
   simp only [Wq,beq_iff_eq] at h
   obtain⟨⟨h0,h1⟩,h2⟩:=h
   subst h0
   obtain⟨B,C'⟩:=GJ C h2
   split
   ·exact cw
   ·exact cj uG <| M.QX C.calm B (EJ C (hE _ _ C)) (λA s H fp=>ph (C' A s H fp) (hE _ _ (C' A s H fp)) tg) (λA s H fp=>Gs (hT _ _ (C' A s H fp)) ifs) (λA s H fp=>hE _ _ (C' A s H fp) elt) (kg h1)
  ·exact cw
 ·exact cw
def Vi(E:Expr->ME):List (Option Expr)->List Expr->Option (List (ME×ME))
 | [],[]=>U []
 | some k::ks,v::vs=>(Vi E ks vs).bind λr=>U ((E k,E v)::r)
 | _,_=>Y
theorem Gu{E:Expr->ME}(hE:∀ e,DE X e (E e)):∀ {ks:List (Option Expr)} {vs:List Expr} {ms:List (ME×ME)},Vi E ks vs=U ms->DPs X pos ks vs ms/\ks.all (·.isSome)=true/\ks.length=vs.length
 | [],[],ms,h=>by cases h;exact⟨QM,rfl,rfl⟩
 | some k::ks,v::vs,ms,h=>by
  obtain⟨r,h1,h2⟩:=KE.mp h
  cases h2
  obtain⟨a,b,d⟩:=Gu hE h1
  exact⟨Nx (hE k) (hE v) a,by rw [XM,b];rfl,by rw [WG,WG,d]⟩
 | [],_::_,_,h=>by cases h
 | none::_,_,_,h=>by cases h
 | some _::_,[],_,h=>by cases h
def EK(c:CI)(E:Expr->ME)(ks:List (Option Expr))(vs:List Expr)(line:Nat):ME:=match ks with
 | []=>if vs.isEmpty && !c.mt.contains line then mC (.dct [] []) else iO
 | k::r=>if (k::r).length<=15 then (match Vi E (k::r) vs with | some ms=>if c.mt.contains line then eU ms else gZ ms | none=>iO) else iO
def IN{E:Expr->ME}(hE:∀ e,DE X e (E e))(ks:List (Option Expr))(vs:List Expr)(line:Nat):DE X (.Dict ks vs pos) (EK c E ks vs line):=by
 unfold EK
 split
 ·split
  ·rename_i h
   rw [Wq] at h
   have:vs=[]:=by simpa using h.1
   subst this
   exact cj uH <| M.QV
  ·exact cw
 ·rename_i k r
  split
  ·rename_i hl
   split
   ·rename_i ms h
    obtain⟨a,b,d⟩:=Gu (pos:=pos) hE h
    split
    ·exact cj xj (M.NK a b d (by simp) hl)
    ·exact cj BH (M.QW a b d (by simp) hl)
   ·exact cw
  ·exact cw
def MR(E:Expr->ME):List Expr->ME
 | []=>iO
 | _=>iO
def IL{E:Expr->ME}(hE:∀ e,DE X e (E e)):∀ es:List Expr,DE X (.JoinedStr es pos) (MR E es)
 | []=>cw
 | _::_=>cw
def Sk(E:Expr->ME)(v:Expr)(cv:Int)(f:Option Expr):ME:=match cv,f with
 | _,_=>iO
def MV{E:Expr->ME}(hE:∀ e,DE X e (E e)){v:Expr}{cv:Int}{f:Option Expr}:DE X (.FormattedValue v cv f pos) (Sk E v cv f):=by
 exact cw
def RF(E:CI->Expr->ME)(T:CI->Expr->MT)(c:CI):Expr->ME
 | .Constant v _ _=>Gy v
 | .Name x _=>EI c x
 | .BinOp a op b p=>MZ (c.mt.contains (p.line+200000)) op (E c a) (E c b)
 | .UnaryOp op a _=>evUn op (E c a)
 | .Compare a ops bs _=>MX c E a ops bs
 | .BoolOp op vs _=>match op with | .And=>Ch dA (vs.map (E c)) | .Or=>Ch vE (vs.map (E c))
 | .IfExp t a b _=>mD (T c t) (E c a) (E c b)
 | .Tuple es _ _=>aO (vG (E c) es)
 | .List es pos=>if c.mt.contains pos.line then dI (vG (E c) es) else eQ (vG (E c) es)
 | .Dict ks vs pos=>EK c (E c) ks vs pos.line
 | .Subscript a i _=>Si c (E c) a i
 | .Call f es ks p=>match um f,Fh f,ks with | some x,_,[]=>zI c (E c) x es | none,U (o,nm,ap),[]=>zH (c.mt.contains 500000) (E c) o nm ap p es | _,_,_=>iO
 | .ListComp elt gens scope p=>nv c E T elt gens scope p.line
 | .JoinedStr es _=>MR (E c) es
 | .FormattedValue v cv f _=>Sk (E c) v cv f
 | _=>iO
def RD(E:CI->Expr->ME)(T:CI->Expr->MT)(c:CI):Expr->MT
 | .UnaryOp op a p=>match op with | .Not=>dB (T c a) | op=>cQ (E c (.UnaryOp op a p))
 | .BoolOp op vs _=>match op with | .And=>vc dc (vs.map (T c)) | .Or=>vc eG (vs.map (T c))
 | .Compare a ops bs _=>EM c E a ops bs
 | .IfExp _ _ _ _=>wp
 | e=>cQ (E c e)
def Ki(hE:∀ c X,jT k c X->∀ e,DE X e (E c e))(hT:∀ c X,jT k c X->∀ e,DT X e (T c e))(C:jT k c X)(e:Expr):DE X e (RF E T c e):=by
 have h1:=hE c X C
 have h2:=hT c X C
 cases e with
 | Constant v j p=>exact EL v
 | Name x p=>exact IJ C x
 | BinOp a op b p=>
  show DE X _ (MZ (c.mt.contains (p.line+200000)) op (E c a) (E c b))
  exact MY (z:=c.mt.contains (p.line+200000)) (h1 a) (h1 b)
 | UnaryOp op a p=>exact Qv (h1 a)
 | Compare a ops bs p=>exact MW C h1
 | BoolOp op vs p=>cases op with | And=>exact xG h1 vs | Or=>exact Cg h1 vs
 | IfExp t a b p=>exact cj LD <| M.de_if (h2 t) (h1 a) (h1 b)
 | Tuple es j p=>exact cj FR <| M.VA (fh h1 es)
 | List es p=>
  show DE X _ (if c.mt.contains p.line then dI (vG (E c) es) else eQ (vG (E c) es))
  split
  ·exact cj BB <| M.QT (fh h1 es)
  ·exact cj FW <| M.VE (fh h1 es)
 | Dict ks vs p=>exact IN h1 ks vs p.line
 | Subscript a i p=>exact ML C h1 a i
 | Call f es ks p=>
  show DE X _ (match um f,Fh f,ks with | some x,_,[]=>zI c (E c) x es | none,U (o,nm,ap),[]=>zH (c.mt.contains 500000) (E c) o nm ap p es | _,_,_=>iO)
  split
  ·rename_i x h
   obtain⟨p2,rfl⟩:=mN h
   exact IQ C h1
  ·rename_i o nm ap _ ha
   have:=CH ha
   subst this
   exact IK C h1
  ·exact cw
 | ListComp elt gens scope p=>exact xI C hE hT
 | JoinedStr es p=>exact IL h1 es
 | FormattedValue v cv f p=>exact MV h1
 | _=>exact cw
def Kg(hE:∀ c X,jT k c X->∀ e,DE X e (E c e))(hT:∀ c X,jT k c X->∀ e,DT X e (T c e))(C:jT k c X)(e:Expr):DT X e (RD E T c e):=by
 have h1:=hE c X C
 have h2:=hT c X C
 cases e with
 | UnaryOp op a p=>cases op <;> first | exact CC By <| M.Vm (h2 a) | exact CC yY <| M.Cq (h1 _)
 | BoolOp op vs p=>cases op with | And=>exact IB h2 vs | Or=>exact Mp h2 vs
 | Compare a ops bs p=>exact IP C h1
 | IfExp t a b p=>exact qu
 | _=>exact CC yY <| M.Cq (h1 _)
def ev:Nat->(CI->Expr->ME)×(CI->Expr->MT)
 | 0=>(λ_ _=>iO,λ_ _=>wp)
 | n+1=>(RF (ev n).1 (ev n).2,RD (ev n).1 (ev n).2)
theorem sk:∀ n:Nat,(∀ c X,jT k c X->∀ e,DE X e ((ev n).1 c e))/\(∀ c X,jT k c X->∀ e,DT X e ((ev n).2 c e))
 | 0=>⟨λ_ _ _ _=>cw,λ_ _ _ _=>qu⟩
 | n+1=>⟨λ_ _ C e=>Ki (sk n).1 (sk n).2 C e,λ_ _ C e=>Kg (sk n).1 (sk n).2 C e⟩
def lN:Expr->Bool
 | .ListComp _ _ _ _=>false
 | .SetComp _ _ _ _=>false
 | .DictComp _ _ _ _ _=>false
 | _=>true
def il{t:Option Expr}{l:Nat}(h:lN e=true):swapsWith e t l X.env=pure false:=by cases e <;> first | rfl | cases h
def xx:Expr->Bool
 | .Tuple _ _ _=>true
 | .List _ _=>true
 | _=>false
def DB{t:Expr}(h:xx t=false\/xx e=false):swappedStores [t] e X.env=pure Y:=by
 rcases h with h | h
 ·cases t <;> first | rfl | cases h
 ·cases t <;> first | rfl | (cases e <;> first | rfl | cases h)
def Nf(c:CI)(E:CI->Expr->ME)(T:CI->Expr->MT)(x:Str)(px:Pos)(e:Expr):MS:=match e with
 | .ListComp elt gens scope p=>if c.all&&(c.sc.names.lookup x == U .local&&px.line == p.line && !(scope.names.any λy=>y.1 == x&&(y.2 == .local||y.2 == .cell))) then aF (nv c E T elt gens scope p.line) (sR c x) else if c.all&&c.sc.names.lookup x == U .cell then aF (nv c E T elt gens scope p.line) (sR c x) else ju
 | e=>if lN e then aF (E c e) (sR c x) else ju
def Tz:Expr->Option (Str×Pos×Str×Pos)
 | .Tuple [.Name x px,.Name y py] _ _=>U (x,px,y,py)
 | _=>Y
def HC{t:Expr}{x y:Str}{px py:Pos}(h:Tz t=U (x,px,y,py)):∃ k p,t=.Tuple [.Name x px,.Name y py] k p:=by
 unfold Tz at h
 split at h
 ·cases h;exact⟨_,_,rfl⟩
 ·cases h
def SJ:Expr->Option (Expr×Expr)
 | .Tuple [a,b] _ _=>U (a,b)
 | _=>Y
def Hb{t a b:Expr}(h:SJ t=U (a,b)):∃ k p,t=.Tuple [a,b] k p:=by
 unfold SJ at h
 split at h
 ·cases h;exact⟨_,_,rfl⟩
 ·cases h
def CW{x y:Str}{px py p p2:Pos}{k k2:Nat}{a b:Expr}(h:(X.env.kindOf x == U NameKind.local&&X.env.kindOf y == U NameKind.local)=false):swappedStores [.Tuple [.Name x px,.Name y py] k p] (.Tuple [a,b] k2 p2) X.env=pure Y:=by
 unfold swappedStores
 simp only
 split
 ·rfl
 split
 ·rfl
 rw [WI]
 generalize hg:List.filterMap _ [Expr.Name x px,Expr.Name y py]=L
 have hL:L.length<=1:=by
  rw [<- hg,XO,XO]
  cases hx:(X.env.kindOf x == U NameKind.local) with
  | false=>simp only [hx,Ym,WZ,XW];split <;> simp
  | true=>
   have hy:(X.env.kindOf y == U NameKind.local)=false:=by rw [hx,YS] at h;exact h
   simp only [hy,Ym,WZ,XW];split <;> simp
 have h2:(L.length != [Expr.Name x px,Expr.Name y py].length)=true:=by
  rw [bne_iff_ne];show L.length≠2;omega
 rw [h2];rfl
def FK(c:CI)(x y:Str):Bool:=!(c.sc.names.lookup x == U .local&&c.sc.names.lookup y == U .local)
def Gv(c:CI)(E:CI->Expr->ME)(t e:Expr):Option MS:=match Tz t,SJ e with
 | some (x,px,y,py),U (a,b)=>if FK c x y then U (aF (E c e) (MU c (E c) t)) else match ou x c.N,ou y c.N with
  | some i,U j=>if (c.all&&c.sc.names.lookup x == U .local&&c.sc.names.lookup y == U .local && !(x == y)&&py.line == px.line&&tZ a&&tZ b && !(foldedForSure 8 a&&foldedForSure 8 b) && !(constantsAlone 8 a&&constantsAlone 8 b) && !(i == j))=true then U (mz i j (vG (E c) [a,b])) else Y
  | _,_=>Y
 | _,_=>Y
def MN(C:jT k c X){E:CI->Expr->ME}(hE:∀ e,DE X e (E c e)){t:Expr}{m:MS}(h:Gv c E t e=U m):DS X (.Assign [t] e pos) m:=by
 unfold Gv at h
 split at h
 ·rename_i x px y py a b h1 h2
  obtain⟨k1,p1,rfl⟩:=HC h1
  obtain⟨k2,p2,rfl⟩:=Hb h2
  split at h
  ·rename_i hn
   cases h
   refine iB ja <| M.Nw (hE _) (ph C hE _) rfl (CW ?_) rfl
   unfold FK at hn
   rw [Bool.not_eq_true'] at hn
   show (X.env.scope.names.lookup x == U NameKind.local&&X.env.scope.names.lookup y == U NameKind.local)=false
   rw [C.sc];exact hn
  split at h
  ·rename_i i j hi hj
   split at h
   ·rename_i hc
    cases h
    simp only [Wq,beq_iff_eq,Bool.not_eq_true'] at hc
    obtain⟨⟨⟨⟨⟨⟨⟨⟨⟨_,hx⟩,hy⟩,hne⟩,hl⟩,ha⟩,hb⟩,hf⟩,hcn⟩,hij⟩:=hc
    have hx':X.env.scope.names.lookup x=U .local:=by rw [C.sc];exact hx
    have hy':X.env.scope.names.lookup y=U .local:=by rw [C.sc];exact hy
    have hbk:X.env.blockKind=.function:=by unfold Env.blockKind;rw [C.sc,C.fk];rfl
    exact iB FU (M.Vq C.calm (by rw [C.N];exact C.nd) (by rw [C.N];exact cZ hi) (by rw [C.N];exact cZ hj) (by simpa using hij) hx' hy' (fh hE _) (Ke hbk hx' hy' hne (by simpa using hl) ha hb hf hcn))
   ·cases h
  ·cases h
 ·cases h
def Ng(c:CI)(E:CI->Expr->ME)(T:CI->Expr->MT)(t e:Expr):MS:=match t with
 | .Name x px=>Nf c E T x px e
 | t=>match Gv c E t e with
 | some m=>m
 | none=>if lN e&&ci t&&(!xx t || !xx e) then aF (E c e) (MU c (E c) t) else ju
def pV{m:ME}{s:Stmt}:DS X s (aF m Mn):=λ_ _ _ _ _ _ ⟨_,_,_,_,_,_,h,_⟩=>by
 rw [ja] at h
 obtain⟨_,_,h⟩:=KE.mp h
 cases h
def IR(C:jT k c X)(hE:∀ c X,jT k c X->∀ e,DE X e (E c e))(hT:∀ c X,jT k c X->∀ e,DT X e (T c e)){x:Str}{px:Pos}:DS X (.Assign [.Name x px] e pos) (Nf c E T x px e):=by
 have h1:=hE c X C
 have gen:∀ e,lN e=true->DS X (.Assign [.Name x px] e pos) (aF (E c e) (sR c x)):=λe hn=>by
  unfold sR
  split
  ·rename_i h1' h2
   exact iB lQ <| M.EO (by rw [C.N];exact C.nd) (by rw [C.N];exact cZ h2) (by rw [C.sc];exact .inl h1') (h1 e) (il hn) (.inr (by rw [C.sc];exact h1'))
  ·rename_i h1' h2
   split
   ·rename_i ha
    exact iB lQ <| M.EO (by rw [C.N];exact C.nd) (by rw [C.N];exact cZ h2) (by rw [C.sc];exact .inr h1') (h1 e) (il hn) (.inl (C.fn ha x))
   ·exact pV
  ·exact pV
 cases e with
 | ListComp elt gens scope p=>
  show DS X _ (if c.all&&(c.sc.names.lookup x == U .local&&px.line == p.line && !(scope.names.any λy=>y.1 == x&&(y.2 == .local||y.2 == .cell))) then aF (nv c E T elt gens scope p.line) (sR c x) else if c.all&&c.sc.names.lookup x == U .cell then aF (nv c E T elt gens scope p.line) (sR c x) else ju)
  split
  ·rename_i hw
   rw [Wq] at hw
   have hw1:=hw.2
   simp only [Wq,beq_iff_eq] at hw1
   have hl:=hw1.1.1
   unfold sR
   rw [hl]
   cases hi:ou x c.N with
   | none=>exact pV
   | some i=>
    have sw:(pure (X.env.blockKind == .function&&X.env.scope.names.lookup x == U .local&&px.line == p.line && !(scope.names.any λy=>y.1 == x&&(y.2 == .local||y.2 == .cell))):Sem Bool)=pure true:=by
     have hb:X.env.blockKind=.function:=by unfold Env.blockKind;rw [C.sc,C.fk];rfl
     rw [hb,C.sc]
     have:=hw.2
     simp only [Bool.and_assoc] at this ⊢
     rw [this];rfl
    unfold nv
    split
    ·rename_i tg it ifs a
     split
     ·rename_i h
      simp only [Wq,beq_iff_eq] at h
      obtain⟨⟨h0,h1'⟩,h2⟩:=h
      subst h0
      obtain⟨B,C'⟩:=GJ C h2
      split
      ·exact Nv
      ·exact iB BJ <| M.EN (by rw [C.N];exact C.nd) (by rw [C.N];exact cZ hi) (by rw [C.sc];exact .inl hl) C.calm B (EJ C (hE _ _ C)) (λA s H fp=>ph (C' A s H fp) (hE _ _ (C' A s H fp)) tg) (λA s H fp=>Gs (hT _ _ (C' A s H fp)) ifs) (λA s H fp=>hE _ _ (C' A s H fp) elt) sw (kg h1') (.inr (by rw [C.sc];exact hl))
     ·intro _ _ _ _ _ _ ⟨_,_,_,_,_,_,h,_⟩
      rw [ja] at h
      obtain⟨_,z,h⟩:=KE.mp h
      cases z
    ·intro _ _ _ _ _ _ ⟨_,_,_,_,_,_,h,_⟩
     rw [ja] at h
     obtain⟨_,z,h⟩:=KE.mp h
     cases z
  ·split
   ·rename_i hw
    rw [Wq,beq_iff_eq] at hw
    unfold sR
    rw [hw.2]
    cases hi:ou x c.N with
    | none=>exact pV
    | some i=>
     dsimp only
     rw [WI hw.1]
     refine iB lQ <| M.EO (by rw [C.N];exact C.nd) (by rw [C.N];exact cZ hi) (by rw [C.sc];exact .inr hw.2) (xI C hE hT) ?_ (.inl (C.fn hw.1 x))
     show (pure (X.env.blockKind == .function&&X.env.scope.names.lookup x == U .local&&px.line == p.line && !(scope.names.any λy=>y.1 == x&&(y.2 == .local||y.2 == .cell))):Sem Bool)=pure false
     rw [C.sc,hw.2]
     have:((U NameKind.cell:Option NameKind) == U .local)=false:=by decide
     rw [this,Yn];rfl
   ·exact ku
 | SetComp _ _ _ _=>exact ku
 | DictComp _ _ _ _ _=>exact ku
 | _=>exact gen _ rfl
def Nd(C:jT k c X)(hE:∀ c X,jT k c X->∀ e,DE X e (E c e))(hT:∀ c X,jT k c X->∀ e,DT X e (T c e)){t:Expr}:DS X (.Assign [t] e pos) (Ng c E T t e):=by
 have gen:∀ t,DS X (.Assign [t] e pos) (match Gv c E t e with | some m=>m | none=>if lN e&&ci t&&(!xx t || !xx e) then aF (E c e) (MU c (E c) t) else ju):=λt=>by
  split
  ·rename_i h
   exact MN C (hE _ _ C) h
  split
  ·rename_i h
   simp only [Wq,YE,Bool.not_eq_true'] at h
   refine iB ja <| M.Nw (hE _ _ C e) (ph C (hE _ _ C) t) (il h.1.1) (DB h.2) ?_
   rw [rq h.1.2];rfl
  ·exact ku
 cases t with
 | Name x px=>exact IR C hE hT
 | _=>exact gen _
def su:List MS->MS
 | []=>aS
 | [m]=>m
 | m::r=>ay m (su r)
theorem jX{F:Stmt->MS}(h:∀ s,DS X s (F s)):∀ ss:List Stmt,vH X ss (su (ss.map F))
 | []=>Fa pU <| M.QE
 | [s]=>QD (h s)
 | s::s'::r=>Fa FS <| M.Nq (h s) (jX h (s'::r))
def Ey:Expr->Bool
 | .Constant (.str _) _ _=>true
 | _=>false
def Nc(c:CI)(E:Expr->ME)(op:Operator)(e:Expr):Expr->MS
 | .Name x _=>match op,c.sc.names.lookup x,ou x c.N with
  | .Add,U .local,U i=>aF (ar IH (ab i) (E e)) (ah i)
  | _,_,_=>ju
 | _=>ju
def Nb{E:Expr->ME}(C:jT k c X)(hE:∀ e,DE X e (E e)){op:Operator}(e:Expr)(t:Expr):DS X (.AugAssign t op e pos) (Nc c E op e t):=by
 unfold Nc
 split
 ·split
  ·rename_i h1 h2
   exact iB (by rw [lQ,jt,yX]) (M.Vs (by rw [C.N];exact C.nd) (by rw [C.N];exact cZ h2) (by rw [C.sc];exact h1) (hE e))
  ·exact ku
 ·exact ku
def Oh(c:CI)(tg it:Expr):Option (Expr×Expr):=match tg,rp it with
 | .Tuple _ _ tp,U (x,[a,b])=>if x == "zip" && mw c x&&ci a&&ci b&&c.mt.contains (tp.line+800000) then U (a,b) else Y
 | _,_=>Y
def GS{tg it a b:Expr}(h:Oh c tg it=U (a,b)):∃ es j tp p2 p3,tg=.Tuple es j tp/\it=.Call (.Name "zip" p2) [a,b] [] p3/\mw c "zip" = true/\ci a=true/\ci b=true:=by
 unfold Oh at h
 split at h
 ·rename_i hc
  split at h
  ·rename_i hb
   cases h
   simp only [Wq] at hb
   obtain⟨p,p2,rfl⟩:=kw hc
   have z:=hb.1.1.1.1
   rw [beq_iff_eq] at z;subst z
   exact⟨_,_,_,_,_,rfl,rfl,hb.1.1.1.2,hb.1.1.2,hb.1.2⟩
  ·cases h
 ·cases h
def RE(E:CI->Expr->ME)(T:CI->Expr->MT)(F:CI->Stmt->MS)(c:CI):Stmt->MS
 | .Return o _=>match o with | some e=>aX (E c e) | none=>λ_ S=>U (.rt .non S)
 | .Pass _=>aS
 | .Break _=>λenv S=>U (.bk env S)
 | .Continue _=>λenv S=>U (.ct env S)
 | .Expr e _=>if Ey e then aS else if lN e then cV (E c e) else ju
 | .If t a b _=>bz (T c t) (su (a.map (F c))) (su (b.map (F c)))
 | .Assign ts e _=>match ts with | [t]=>Ng c E T t e | _=>ju
 | .AugAssign t op e _=>Nc c (E c) op e t
 | .While tst body els _=>match els with | []=>eO (T c tst) (su (body.map (F c))) | _=>ju
 | .For tg it body els _=>match els with | []=>if lM it then (match Oh c tg it with | some (a,b)=>jw (vG (E c) [a,b]) (MU c (E c) tg) (su (body.map (F c))) | none=>if Sa c it then iZ (evI c (E c) tg it) (MU c (E c) tg) (su (body.map (F c))) else dO (E c it) (MU c (E c) tg) (su (body.map (F c)))) else ju | _=>ju
 | _=>ju
def Kh{F:CI->Stmt->MS}(hE:∀ c X,jT k c X->∀ e,DE X e (E c e))(hT:∀ c X,jT k c X->∀ e,DT X e (T c e))(hF:∀ c X,jT k c X->∀ e,DS X e (F c e))(C:jT k c X)(s:Stmt):DS X s (RE E T F c s):=by
 have h1:=hE c X C
 have h2:=hT c X C
 have h3:=hF c X C
 cases s with
 | Return o p=>cases o with | none=>exact QF | some e=>exact iB FT <| M.Vp (h1 e)
 | Pass p=>exact iB pU <| M.QG
 | Break p=>exact Nu
 | Continue p=>exact Cs
 | Expr e p=>
  show DS X _ (if Ey e then aS else if lN e then cV (E c e) else ju)
  split
  ·rename_i h
   unfold Ey at h
   split at h
   ·exact iB pU <| M.Vr
   ·cases h
  ·split
   ·rename_i h;exact iB BF <| M.QK (h1 e) (il h)
   ·exact ku
 | If t a b p=>exact iB FY <| M.ds_if (h2 t) (jX h3 a) (jX h3 b)
 | Assign ts e p=>
  show DS X _ (match ts with | [t]=>Ng c E T t e | _=>ju)
  split
  ·exact Nd C hE hT
  ·exact ku
 | AugAssign t op e p=>exact Nb C h1 e t
 | While tst body els p=>
  cases els with
  | nil=>exact iB wZ <| M.Nr (by rw [C.xe];exact Zb) (h2 tst) (jX h3 body)
  | cons _ _=>exact ku
 | For tg it body els p=>
  cases els with
  | nil=>
   show DS X _ (if lM it then (match Oh c tg it with | some (a,b)=>jw (vG (E c) [a,b]) (MU c (E c) tg) (su (body.map (F c))) | none=>if Sa c it then iZ (evI c (E c) tg it) (MU c (E c) tg) (su (body.map (F c))) else dO (E c it) (MU c (E c) tg) (su (body.map (F c)))) else ju)
   split
   ·rename_i h
    split
    ·rename_i a b hz
     obtain⟨es,j,tp,p2,p3,rfl,rfl,hb,ha1,ha2⟩:=GS hz
     obtain⟨m,g,o⟩:=lh C hb
     exact iB BC <| M.QH (by rw [C.xe];exact Zb) C.calm m (fh h1 _) g (by rw [bF ha1,bF ha2];rfl) (bF ha2) (ph C h1 _) (jX h3 body)
    split
    ·exact iB FZ <| M.Nt (by rw [C.xe];exact Zb) C.calm (EJ C h1) (ph C h1 tg) (jX h3 body) (kg h)
    ·exact iB BD <| M.QJ (by rw [C.xe];exact Zb) C.calm (h1 it) (ph C h1 tg) (jX h3 body) (kg h)
   ·exact ku
  | cons _ _=>exact ku
 | _=>exact ku
def evS(n:Nat):Nat->CI->Stmt->MS
 | 0=>λ_ _=>ju
 | m+1=>RE (ev n).1 (ev n).2 (evS n m)
theorem MM(n:Nat):∀ m:Nat,∀ c X,jT k c X->∀ s,DS X s (evS n m c s)
 | 0=>λ_ _ _ _=>ku
 | m+1=>λ_ _ C s=>Kh (sk n).1 (sk n).2 (MM n m) C s
def VO:Stmt->Option (Str×Str×Expr)
 | .Assign [.Name b _] (.Subscript (.Name x _) (.Subscript o q p) _) _=>U (b,x,.Subscript o q p)
 | _=>Y
def Jh{s:Stmt}{b x:Str}{ix:Expr}(h:VO s=U (b,x,ix)):oi ix/\∃ pb pt ps pa,s=.Assign [.Name b pb] (.Subscript (.Name x pt) ix ps) pa:=by
 unfold VO at h
 split at h
 ·cases h;exact⟨by intro _ _;rfl,_,_,_,_,rfl⟩
 ·cases h
def VN:Stmt->Option (Str×Expr×List Expr)
 | .Return (U (.Call (.Name b _) (e::es) [] _)) _=>U (b,e,es)
 | _=>Y
def Jg{s:Stmt}{b:Str}{e:Expr}{es:List Expr}(h:VN s=U (b,e,es)):∃ p pc pr,s=.Return (U (.Call (.Name b p) (e::es) [] pc)) pr:=by
 unfold VN at h
 split at h
 ·cases h;exact⟨_,_,_,rfl⟩
 ·cases h
def Sm(c:CI)(b x:Str)(ix:Expr)(e:Expr)(es:List Expr):Option MS:=match ou b c.N,Se c x with
 | some i,U (.ftab l)=>if fK b&&c.sc.names.lookup b == U .local&&(e::es).all ci then U (iw l i ((ev 40).1 c ix) (vG ((ev 40).1 c) (e::es))) else Y
 | _,_=>Y
def zO(c:CI):List Stmt->Option MS
 | [s,t]=>match VO s,VN t with
  | some (b,x,ix),U (b',e,es)=>if b' == b then Sm c b x ix e es else Y
  | _,_=>Y
 | _=>Y
def Ja(C:jT k c X){body:List Stmt}{m:MS}(h:zO c body=U m):vH X body m:=by
 unfold zO at h
 split at h
 ·rename_i s t
  split at h
  ·rename_i b x ix b' e es h1 h2
   obtain⟨hs,pb,pt,ps,pa,rfl⟩:=Jh h1
   obtain⟨p,pc,pr,rfl⟩:=Jg h2
   split at h
   ·rename_i hb
    rw [beq_iff_eq] at hb;subst hb
    unfold Sm at h
    split at h
    ·rename_i i l hi hg
     obtain⟨g,o,G⟩:=jz C hg
     split at h
     ·rename_i hc
      simp only [Wq,beq_iff_eq] at hc
      obtain⟨⟨o1,h3⟩,h4⟩:=hc
      cases h
      rw [XM,Wq] at h4
      exact Fa BG <| M.Np G g (cR o) ((sk 40).1 _ _ C ix) hs C.room (fh ((sk 40).1 _ _ C) _) (by rw [C.N];exact C.nd) (by rw [C.N];exact cZ hi) (by rw [C.sc];exact .inl h3) (by rw [C.sc];exact .inl h3) (.inr (by rw [C.sc];exact h3)) (cR o1) (AT o1)
       (by rw [C.N];exact(Wo.mp (cZ hi)).1) (bF h4.1) (hJ h4.2)
     ·cases h
    ·cases h
   ·cases h
  ·cases h
 ·cases h
def gY(c:CI)(body:List Stmt):MS:=match zO c body with
 | some m=>m
 | none=>su (body.map (evS 40 20 c))
def Na(C:jT k c X)(body:List Stmt):vH X body (gY c body):=by
 unfold gY
 cases h:zO c body with
 | some m=>exact Ja C h
 | none=>exact jX (MM 40 20 c X C) body
end
end
def iq(N:List Str)(st:Stmt)(gs:List (Str×GI))(mt:List Nat):CI:=⟨N,az st,true,gs,mt⟩
def GK(P:Program)(w:World)(K:W.Frag)(mg:Str->Option Value)(base:Heap)(k:Nat)(p:Str×GI):Prop:=match p.2 with
 | .fn n f=>Fn P w K mg base k p.1 n f
 | .con d=>GC K mg p.1 d
 | .blt=>mg p.1=Y
 | .tab l=>sr w K mg p.1 l
 | .ftab l=>FTab P w K mg base k p.1 l
def bC{P:Program}{w:World}{K:W.Frag}{mg:Str->Option Value}{base:Heap}{k:Nat}{x:Str}{st:Stmt}{N ps:List Str}{gs:List (Str×GI)}{mt:List Nat}
  (F:bN K mg x st) (Sc:aV N ps (az st)) (hb:Ac x st ps) (hg:∀ p∈gs,GK P w K mg base k p) :
  Fn P w K mg base (k+1) x ps.length (aP N (gY (iq N st gs mt) (aN st)) ps.length):=
 Vx F Sc hb λa cdv A outer s H E hr=>Na (k:=k) ⟨rfl,Sc.nd,rfl,Sc.kind,λ_ _=>rfl,rfl,hr,rfl,λp hp=>by
  have:=hg p hp
  obtain⟨x,g⟩:=p
  cases g <;> exact this⟩ _
def GKs(P:Program)(w:World)(K:W.Frag)(mg:Str->Option Value)(base:Heap)(k:Nat):List (Str×GI)->Prop
 | []=>True
 | p::r=>GK P w K mg base k p/\GKs P w K mg base k r
theorem GKs.mem{P:Program}{w:World}{K:W.Frag}{mg:Str->Option Value}{base:Heap}{k:Nat}:∀ {gs:List (Str×GI)},GKs P w K mg base k gs->∀ p∈gs,GK P w K mg base k p
 | q::r,h,p,hp=>by
  rcases WM.mp hp with rfl | hp
  ·exact h.1
  ·exact GKs.mem h.2 p hp
def Ul{P:Program}{w:World}{K:W.Frag}{mg:Str->Option Value}{k:Nat}{st:Stmt}{N:List Str}{gs:List (Str×GI)}{mt:List Nat}{fa:Addr}(F:bN K mg "law" st)(hfa:mg "law" = U (.ref fa))(Sc:aV N ["_law_script"] (az st))
  (hbt:∀ (kV doc pm:Value) (an:Option Addr) (cdv ct v:Value),bindArgs (W.fnOf "law" "law" (je st) (aN st) (az st) .none kV doc pm an cdv ct) ⟨[v],[]⟩=pure [(("_law_script":Str),v)])
  (hg:∀ base,GKs P w K mg base k gs) :
  ∃ fd:FuncData,(∀ (s:Shared) (v:Value),BindsTo s fd ⟨[v],[]⟩ [("_law_script",v)])/\∀ base:Heap,K.In base->base.Ns mainGlobals mg->FnOk P w K mg base GO (k+1) fa fd ["_law_script"] (Kk K 1 (aP N (gY (iq N st gs mt) (aN st)) 1)):=
 Uk F hfa Sc hbt λbase a cdv A outer s H E hr=>Na (k:=k) ⟨rfl,Sc.nd,rfl,Sc.kind,λ_ _=>rfl,rfl,hr,rfl,λp hp=>by
  have:=GKs.mem (hg base) p hp
  obtain⟨x,g⟩:=p
  cases g <;> exact this⟩ _
section
variable{P:List Value->Prop}
def iT(h:P []):∀ us:List Value,us.length=0->P us:=λus e=>by rw [XI e];exact h
def cE{n:Nat}(h:∀ a,∀ us:List Value,us.length=n->P (a::us)):∀ us:List Value,us.length=n+1->P us:=λus e=>by
 cases us with
 | nil=>cases e
 | cons a us=>exact h a us (Nat.succ.inj e)
end
def Kz(N:List Str)(st:Stmt)(gs:List (Str×GI))(mt:List Nat)(x:Str)(a:Nat):Nat->List D->ac->Option (D×ac)
 | 0=>λ_ _=>Y
 | n+1=>aP N (gY (iq N st ((x,.fn a (Kz N st gs mt x a n))::gs) mt) (aN st)) a
section
variable{P:Program}{w:World}{K:W.Frag}{mg:Str->Option Value}{base:Heap}{k:Nat}{x:Str}{st:Stmt}{N ps:List Str}{gs:List (Str×GI)}{mt:List Nat}
theorem GK.up{k':Nat}(h:k<=k'):∀ {p:Str×GI},GK P w K mg base k p->GK P w K mg base k' p
 | (_,.fn _ _),g=>Fn.up g h
 | (_,.con _),g=>g
 | (_,.blt),g=>g
 | (_,.tab _),g=>g
 | (_,.ftab _),g=>FTab.up g h
def Qk(F:bN K mg x st)(Sc:aV N ps (az st))(hb:Ac x st ps):Fn P w K mg base (k+1) x ps.length (λ_ _=>Y):=by
 obtain⟨a,fd,F,hmg⟩:=F.ex
 exact Sg F Sc hmg (F.binds hb) λcdv A outer s H E hr=>⟨ju,Vo,λds S d S' _ _ _ h=>by cases h⟩
theorem Ky(F:bN K mg x st)(Sc:aV N ps (az st))(hb:Ac x st ps)(hg:GKs P w K mg base k gs):∀ n,Fn P w K mg base (k+1+n) x ps.length (Kz N st gs mt x ps.length n)
 | 0=>Qk F Sc hb
 | n+1=>bC (k:=k+1+n) F Sc hb λp hp=>by
  rcases WM.mp hp with rfl | hp
  ·exact Ky F Sc hb hg n
  ·exact GK.up (by omega) (GKs.mem hg p hp)
end
def kE(P:Params)(x:Str)(t:Nat)(v:Value):DictEntry:=⟨PyData.keyHash P x,.str x t,v⟩
def kC(x:Str)(t l n a b:Nat)(u v:Value)(c d:Nat):Obj:=⟨.type "code",Y,.fields #[.str x t,.str x (t+1),.str "/claim/cut.py" (t+2),.int l 0,.int n 0,.int 0 0,.int 0 0,.int 3 0,.ref a,.bool true,.int 181 0,.ref b,.none,u,v,.ref c,.int d 0,.int l 0,.str "/claim/cut.py" (d+1)],#[]⟩
def kF(x:Str)(st:Stmt)(m:Str)(t c:Nat):Obj:=⟨.type "function",Y,.func (W.fnOf x x (je st) (aN st) (az st) .none .none .none (.str m t) Y (.ref c) .none),#[]⟩
def cS{K:W.Frag}{h:Heap}{mg:Str->Option Value}(X:K.In h)(G:h.Ns mainGlobals mg){x:Str}{st:Stmt}(m:Str)(f t c:Nat)(e:(W.nsIn K mainGlobals x,K.lookup f,W.codeIn K (.ref c) x,W.keepIn K (.ref f))=(U (U (.ref f)),U (kF x st m t c),true,true)):bN K mg x st:=by
 have e1:=congrArg (·.1) e
 have e2:=congrArg (·.2.1) e
 have e3:=congrArg (·.2.2.1) e
 have e4:=congrArg (·.2.2.2) e
 exact⟨_,_,UO (st:=st) (show K.lookup f=U ⟨.type "function",Y,.func (W.fnOf x x (je st) (aN st) (az st) .none .none .none (.str m t) Y (.ref c) .none),#[]⟩ from e2) e3 e4,Yr X G e1⟩
def iX{N:List Str}{c:CI}{b:List Stmt}{m:MS}{n:Nat}(h:gY c b=m):aP N (gY c b) n=aP N m n:=by rw [h]
section
variable{env e:bj}{S S':ac}{x y d:D}{f g:ac->D->D->Option D}{a b c:ME}{ms:MA}{t u:MT}{k l:Bool}{p q:MS}{tg:MG}
@[simp high] theorem ob{α β:Type}{a:α}{f:α->Option β}:(U a).bind f=f a:=id rfl
@[simp high] theorem obn{α β:Type}{f:α->Option β}:(Y:Option α).bind f=Y:=id rfl
@[simp high] theorem oj{α:Type}{a:Option α}:(U a).join=a:=rfl
@[simp high] theorem bG{α:Type}{a:α}{l:List α}:(a::l)[0]?=U a:=rfl
@[simp high] theorem bP{α:Type}{a b:α}{l:List α}:(a::b::l)[1]?=U b:=rfl
@[simp high] theorem bO{α:Type}{a:α}{l:List α}{i:Nat}:(a::l)[i+1]?=l[i]?:=rfl
@[simp high] theorem eN{α:Type}{a b:α}{l:List α}:(a::l).set 0 b=b::l:=rfl
@[simp high] theorem eV{α:Type}{a b:α}{l:List α}{i:Nat}:(a::l).set (i+1) b=a::l.set i b:=rfl
def wu(S:ac)(z:D):Option (D×ac):=U (z,S)
@[simp] theorem aj:wu S d=U (d,S):=rfl
@[simp] theorem bf:mC d env S=U (d,S):=by rw [uH];rfl
@[simp] theorem ak{i:Nat}:ab i env S=(env[i]?).join.bind (wu S):=by rw [yX];rfl
def UC(f:ac->D->D->Option D)(x:D)(q:D×ac):Option (D×ac):=(f q.2 x q.1).bind (wu q.2)
def kOp1(f:ac->D->D->Option D)(b:ME)(env:bj)(q:D×ac):Option (D×ac):=(b env q.2).bind (UC f q.1)
@[simp] theorem av:kOp1 f b env (x,S)=(b env S).bind (UC f x):=id rfl
@[simp] theorem au:UC f x (y,S)=(f S x y).bind (wu S):=id rfl
@[simp] theorem aE:ar f a b env S=(a env S).bind (kOp1 f b env):=by rw [jt];rfl
def RQ(q:D×ac):Option (Bool×ac):=match q.1 with | .bl k=>U (k,q.2) | _=>Y
@[simp] theorem aD:RQ (.bl k,S)=U (k,S):=id rfl
@[simp] theorem aG:ax a env S=(a env S).bind RQ:=by rw [uC];rfl
def UG(g:ac->D->D->Option D)(y:D)(q:D×ac):Option (D×ac):=(g q.2 y q.1).bind (wu q.2)
def Ma(g:ac->D->D->Option D)(c:ME)(env:bj)(y:D)(S:ac)(z:D):Option (D×ac):=match z with
 | .bl true=>(c env S).bind (UG g y)
 | .bl false=>U (.bl false,S)
 | _=>Y
def PY(f g:ac->D->D->Option D)(c:ME)(env:bj)(x:D)(q:D×ac):Option (D×ac):=(f q.2 x q.1).bind (Ma g c env q.1 q.2)
def UH(f g:ac->D->D->Option D)(b c:ME)(env:bj)(q:D×ac):Option (D×ac):=(b env q.2).bind (PY f g c env q.1)
@[simp] theorem kCh1_s:UH f g b c env (x,S)=(b env S).bind (PY f g c env x):=id rfl
@[simp] theorem kCh2_s:PY f g c env x (y,S)=(f S x y).bind (Ma g c env y S):=id rfl
@[simp] theorem kChz_t:Ma g c env y S (.bl true)=(c env S).bind (UG g y):=id rfl
@[simp] theorem kChz_f:Ma g c env y S (.bl false)=U (.bl false,S):=id rfl
@[simp] theorem kCh3_s:UG g y (x,S)=(g S y x).bind (wu S):=id rfl
@[simp] theorem mChain_s:cT f g a b c env S=(a env S).bind (UH f g b c env):=by
 rw [qQ];unfold M.cT UH PY Ma
 congr 1
def BL(q:D×ac):Option (Bool×ac):=(tO q.2 q.1).bind λk=>U (k,q.2)
@[simp] theorem eX:BL (.bl k,S)=U (k,S):=id rfl
@[simp] theorem kTru_n:BL (.non,S)=U (false,S):=id rfl
@[simp] theorem kTru_i{i:Int}:BL (.int i,S)=U (i != 0,S):=id rfl
@[simp] theorem kTru_t{xs:List D}:BL (.tup xs,S)=U (!xs.isEmpty,S):=id rfl
@[simp] theorem kTru_l{xs:List D}:BL (.lst xs,S)=U (!xs.isEmpty,S):=id rfl
@[simp] theorem dP:cQ a env S=(a env S).bind BL:=by rw [yY];rfl
def Md(u:MT)(env:bj)(q:Bool×ac):Option (Bool×ac):=if q.1=true then u env q.2 else U (false,q.2)
def UB(u:MT)(env:bj)(q:Bool×ac):Option (Bool×ac):=if q.1=true then U (true,q.2) else u env q.2
def RU(q:Bool×ac):Option (Bool×ac):=U (!q.1,q.2)
@[simp] theorem nV:Md u env (true,S)=u env S:=id rfl
@[simp] theorem zw:Md u env (false,S)=U (false,S):=id rfl
@[simp] theorem zl:UB u env (true,S)=U (true,S):=id rfl
@[simp] theorem lT:UB u env (false,S)=u env S:=id rfl
@[simp] theorem jb:RU (k,S)=U (!k,S):=id rfl
@[simp] theorem nT:dc t u env S=(t env S).bind (Md u env):=by rw [uI];rfl
@[simp] theorem iN:eG t u env S=(t env S).bind (UB u env):=by rw [yZ];rfl
@[simp] theorem iY:dB t env S=(t env S).bind RU:=by rw [By];rfl
@[simp] theorem kh:bY env S=U (true,S):=by rw [Bv];rfl
def PZ(b:ME)(env:bj)(q:D×ac):Option (D×ac):=(tO q.2 q.1).bind λk=>if k=true then b env q.2 else U (q.1,q.2)
def RT(b:ME)(env:bj)(q:D×ac):Option (D×ac):=(tO q.2 q.1).bind λk=>if k=true then U (q.1,q.2) else b env q.2
@[simp] theorem qY:PZ b env (.bl true,S)=b env S:=id rfl
@[simp] theorem Mc:PZ b env (.bl false,S)=U (.bl false,S):=id rfl
@[simp] theorem kOr_t:RT b env (.bl true,S)=U (.bl true,S):=id rfl
@[simp] theorem kOr_f:RT b env (.bl false,S)=b env S:=id rfl
@[simp] theorem lR:dA a b env S=(a env S).bind (PZ b env):=by rw [Gd];rfl
@[simp] theorem RL:vE a b env S=(a env S).bind (RT b env):=by rw [Ly];rfl
def BN(q:D×ac):Option (D×ac):=(tO q.2 q.1).bind λk=>U (.bl (!k),q.2)
@[simp] theorem PP{xs:List D}:BN (.lst xs,S)=U (.bl (!!xs.isEmpty),S):=id rfl
@[simp] theorem kNotV_t{xs:List D}:BN (.tup xs,S)=U (.bl (!!xs.isEmpty),S):=id rfl
@[simp] theorem kOr_c{d:D}{ds:List D}:RT b env (.lst (d::ds),S)=U (.lst (d::ds),S):=id rfl
@[simp] theorem kOr_e:RT b env (.lst [],S)=b env S:=id rfl
@[simp] theorem kNotV_s:BN (.bl k,S)=U (.bl (!k),S):=id rfl
@[simp] theorem FV:gF a env S=(a env S).bind BN:=by rw [Bx];rfl
def kIf(a b:ME)(env:bj)(q:Bool×ac):Option (D×ac):=if q.1=true then a env q.2 else b env q.2
@[simp] theorem BO:kIf a b env (true,S)=a env S:=id rfl
@[simp] theorem Gg:kIf a b env (false,S)=b env S:=id rfl
@[simp] theorem mS:mD t a b env S=(t env S).bind (kIf a b env):=by rw [LD];rfl
@[simp] theorem aA:ai env S=U ([],S):=by rw [za];rfl
def Es(x:D)(q:List D×ac):Option (List D×ac):=U (x::q.1,q.2)
def LZ(ms:MA)(env:bj)(q:D×ac):Option (List D×ac):=(ms env q.2).bind (Es q.1)
@[simp] theorem al{xs:List D}:Es x (xs,S)=U (x::xs,S):=id rfl
@[simp] theorem am:LZ ms env (x,S)=(ms env S).bind (Es x):=id rfl
@[simp] theorem aq:aa a ms env S=(a env S).bind (LZ ms env):=by rw [BI];rfl
def cy(q:List D×ac):Option (D×ac):=if q.1.length<=sizeLine then U (.tup q.1,q.2) else Y
def oq(q:List D×ac):Option (D×ac):=if q.1.length<=sizeLine then U (.lst q.1,q.2) else Y
def qa(q:List D×ac):Option (D×ac):=if q.1.length<=sizeLine then U (.ref q.2.length,q.2++[.lst q.1]) else Y
def sz{n:Nat}(h:n<=1000):n<=sizeLine:=WT h (by decide)
def aY{xs:List D}(h:xs.length<=1000):cy (xs,S)=U (.tup xs,S):=WI (sz h)
def eK{xs:List D}(h:xs.length<=1000):oq (xs,S)=U (.lst xs,S):=WI (sz h)
def jx{xs:List D}(h:xs.length<=1000):qa (xs,S)=U (.ref S.length,S++[.lst xs]):=WI (sz h)
@[simp] theorem bg:aO ms env S=(ms env S).bind cy:=by rw [FR];rfl
@[simp] theorem jv:eQ ms env S=(ms env S).bind oq:=by rw [FW];rfl
@[simp] theorem nQ:dI ms env S=(ms env S).bind qa:=by rw [BB];rfl
def RY(f:List D->ac->Option (D×ac))(q:List D×ac):Option (D×ac):=f q.1 q.2
@[simp] theorem bU{f:List D->ac->Option (D×ac)}{xs:List D}:RY f (xs,S)=f xs S:=id rfl
@[simp] theorem bT{f:List D->ac->Option (D×ac)}:ba f ms env S=(ms env S).bind (RY f):=by rw [gG];rfl
def qX(n:Nat)(f:List D->ac->Option (D×ac))(q:List D×ac):Option (D×ac):=if q.1.length=n then f q.1 q.2 else Y
@[simp] theorem kCallN_0{f:List D->ac->Option (D×ac)}:qX 0 f ([],S)=f [] S:=id rfl
@[simp] theorem uO{f:List D->ac->Option (D×ac)}:qX 1 f ([x],S)=f [x] S:=id rfl
@[simp] theorem bh{f:List D->ac->Option (D×ac)}:qX 2 f ([x,y],S)=f [x,y] S:=id rfl
@[simp] theorem bM{f:List D->ac->Option (D×ac)}{z:D}:qX 3 f ([x,y,z],S)=f [x,y,z] S:=id rfl
@[simp] theorem Mb{f:List D->ac->Option (D×ac)}{z w:D}:qX 4 f ([x,y,z,w],S)=f [x,y,z,w] S:=id rfl
@[simp] theorem aM{n:Nat}{f:List D->ac->Option (D×ac)}:ao n f ms env S=(ms env S).bind (qX n f):=by rw [qR];rfl
def kIsI(T:String)(q:D×ac):Option (D×ac):=(lu T q.2 q.1).bind (wu q.2)
@[simp] theorem LX{T:String}:kIsI T (x,S)=(lu T S x).bind (wu S):=id rfl
@[simp] theorem LC{T:String}:dR T a env S=(a env S).bind (kIsI T):=by rw [FX];rfl
def kUn(f:ac->D->Option D)(q:D×ac):Option (D×ac):=(f q.2 q.1).bind (wu q.2)
@[simp] theorem kUn_s{f:ac->D->Option D}:kUn f (x,S)=(f S x).bind (wu S):=id rfl
@[simp] theorem mUn_s{f:ac->D->Option D}:CM f a env S=(a env S).bind (kUn f):=by rw [Lx];rfl
@[simp] theorem cL:bw env S=U (Y,S):=by rw [xf];rfl
def RS(q:D×ac):Option (Option Int×ac):=match q.1 with | .int i=>U (U i,q.2) | _=>Y
@[simp] theorem dm{i:Int}:RS (.int i,S)=U (U i,S):=id rfl
@[simp] theorem dj:bR a env S=(a env S).bind RS:=by rw [Bw];rfl
def iP(x:D)(l:Option Int)(q:Option Int×ac):Option (D×ac):=match x with
 | .tup xs=>U (.tup (iQ xs l q.1),q.2)
 | .lst xs=>U (.lst (iQ xs l q.1),q.2)
 | .rol xs=>U (.lst (iQ xs l q.1),q.2)
 | .ref r=>match q.2[r]? with | some (.lst xs)=>U (.lst (iQ xs l q.1),q.2) | _=>Y
 | _=>Y
def Uw(hi:MO)(env:bj)(x:D)(q:Option Int×ac):Option (D×ac):=(hi env q.2).bind (iP x q.1)
def kSl1(lo hi:MO)(env:bj)(q:D×ac):Option (D×ac):=(lo env q.2).bind (Uw hi env q.1)
@[simp] theorem eZ{lo hi:MO}:kSl1 lo hi env (x,S)=(lo env S).bind (Uw hi env x):=id rfl
@[simp] theorem eY{hi:MO}{l:Option Int}:Uw hi env x (l,S)=(hi env S).bind (iP x l):=id rfl
@[simp] theorem kI{xs:List D}{l h:Option Int}:iP (.tup xs) l (h,S)=U (.tup (iQ xs l h),S):=id rfl
@[simp] theorem Uv{xs:List D}{l h:Option Int}:iP (.lst xs) l (h,S)=U (.lst (iQ xs l h),S):=id rfl
@[simp] theorem kSl3_r{xs:List D}{l h:Option Int}:iP (.rol xs) l (h,S)=U (.lst (iQ xs l h),S):=id rfl
@[simp] theorem cH{lo hi:MO}:bu a lo hi env S=(a env S).bind (kSl1 lo hi env):=by rw [xc];rfl
@[simp] theorem bv:aS env S=U (.nx env S):=by rw [pU];rfl
def LS(q:MS):nH->Option nH
 | .nx e S=>q e S
 | .rt d S=>U (.rt d S)
 | .bk e S=>U (.bk e S)
 | .ct e S=>U (.ct e S)
@[simp] theorem aH:LS q (.nx e S)=q e S:=id rfl
@[simp] theorem bV:LS q (.rt d S)=U (.rt d S):=id rfl
@[simp] theorem kSeq_bk:LS q (.bk e S)=U (.bk e S):=id rfl
@[simp] theorem kSeq_ct:LS q (.ct e S)=U (.ct e S):=id rfl
@[simp] theorem aT:ay p q env S=(p env S).bind (LS q):=by rw [FS];unfold M.ay;congr 1;funext o;cases o <;> rfl
def kRt(q:D×ac):Option nH:=U (.rt q.1 q.2)
@[simp] theorem bx:kRt (d,S)=U (.rt d S):=id rfl
@[simp] theorem aZ:aX a env S=(a env S).bind kRt:=by rw [FT];rfl
def RW(env:bj)(q:D×ac):Option nH:=U (.nx env q.2)
@[simp] theorem ip:RW env (d,S)=U (.nx env S):=id rfl
@[simp] theorem io:cV a env S=(a env S).bind (RW env):=by rw [BF];rfl
def PR(p q:MS)(env:bj)(r:Bool×ac):Option nH:=if r.1=true then p env r.2 else q env r.2
@[simp] theorem bK:PR p q env (true,S)=p env S:=id rfl
@[simp] theorem bE:PR p q env (false,S)=q env S:=id rfl
@[simp] theorem bi:bz t p q env S=(t env S).bind (PR p q env):=by rw [FY];rfl
def kNx(q:bj×ac):Option nH:=U (.nx q.1 q.2)
@[simp] theorem bL:kNx (e,S)=U (.nx e S):=id rfl
def kAsg(tg:MG)(env:bj)(q:D×ac):Option nH:=(tg q.1 env q.2).bind kNx
@[simp] theorem bo:kAsg tg env (d,S)=(tg d env S).bind kNx:=id rfl
@[simp] theorem bn:aF a tg env S=(a env S).bind (kAsg tg env):=by rw [ja];rfl
@[simp] theorem aU{i:Nat}:ah i d env S=U (env.set i (U d),S):=by rw [qk];rfl
@[simp] theorem bH:aC [] env S=U (env,S):=by rw [Cd];rfl
def kGs(gs:vD)(r:List D)(q:bj×ac):Option (bj×ac):=gs r q.1 q.2
@[simp] theorem cI{gs:vD}{r:List D}:kGs gs r (e,S)=gs r e S:=id rfl
@[simp] theorem bp{gs:vD}{r:List D}:af tg gs (d::r) env S=(tg d env S).bind (kGs gs r):=by rw [xE];rfl
def gTupD_of{n:Nat}{gs:vD}{xs:List D}(h:xs.length=n):aK n gs (.tup xs) env S=gs xs env S:=by rw [ng];exact WI h
@[simp] theorem bS{gs:vD}:aK 2 gs (.tup [x,y]) env S=gs [x,y] env S:=by rw [ng];rfl
@[simp] theorem tE{gs:vD}{z:D}:aK 3 gs (.tup [x,y,z]) env S=gs [x,y,z] env S:=by rw [ng];rfl
@[simp] theorem tD{gs:vD}{z w:D}:aK 4 gs (.tup [x,y,z,w]) env S=gs [x,y,z,w] env S:=by rw [ng];rfl
def BM(env:bj)(d:D)(r:Nat)(k:Int)(S:ac):Option (bj×ac):=match S[r]? with
 | some (.lst xs)=>(Iq xs.length k).bind λj=>U (env,S.set r (.lst (xs.set j d)))
 | _=>Y
def Ge(env:bj)(d o:D)(q:D×ac):Option (bj×ac):=match o,q.1 with
 | .ref r,.int k=>BM env d r k q.2
 | _,_=>Y
def LR(i:ME)(env:bj)(d:D)(q:D×ac):Option (bj×ac):=(i env q.2).bind (Ge env d q.1)
@[simp] theorem kSub1_s:LR a env d (x,S)=(a env S).bind (Ge env d x):=id rfl
@[simp] theorem kSub2_s{r:Nat}{i:Int}:Ge env d (.ref r) (.int i,S)=BM env d r i S:=id rfl
def uL{r:Nat}{i:Int}{xs:List D}{j:Nat}(h:S[r]?=U (.lst xs))(hj:Iq xs.length i=U j):BM env d r i S=U (env,S.set r (.lst (xs.set j d))):=by
 unfold BM;rw [h];show (Iq xs.length i).bind _=_;rw [hj];rfl
@[simp] theorem gSubD_s:fM a b d env S=(a env S).bind (LR b env d):=by
 rw [Cc];unfold M.fM LR Ge BM;congr 1
def kFor(tg:MG)(p:MS)(env:bj)(q:List D×ac):Option nH:=cn tg p q.1 env q.2
@[simp] theorem uM{xs:List D}:kFor tg p env (xs,S)=cn tg p xs env S:=id rfl
@[simp] theorem uF:iZ ms tg p env S=(ms env S).bind (kFor tg p env):=by rw [FZ];rfl
def Il(tg:MG)(p:MS)(xs:List D):nH->Option nH
 | .nx e s=>cn tg p xs e s
 | .ct e s=>cn tg p xs e s
 | .bk e s=>U (.nx e s)
 | .rt d s=>U (.rt d s)
def kLp1(tg:MG)(p:MS)(xs:List D)(q:bj×ac):Option nH:=(p q.1 q.2).bind (Il tg p xs)
@[simp] theorem kJ{xs:List D}:kLp1 tg p xs (e,S)=(p e S).bind (Il tg p xs):=id rfl
@[simp] theorem jc{xs:List D}:Il tg p xs (.nx e S)=cn tg p xs e S:=id rfl
@[simp] theorem kLp2_ct{xs:List D}:Il tg p xs (.ct e S)=cn tg p xs e S:=id rfl
@[simp] theorem kLp2_bk{xs:List D}:Il tg p xs (.bk e S)=U (.nx e S):=id rfl
@[simp] theorem Gf{xs:List D}:Il tg p xs (.rt d S)=U (.rt d S):=id rfl
@[simp] theorem nR:cn tg p [] env S=U (.nx env S):=id rfl
def dw{xs:List D}:cn tg p (d::xs) env S=(tg d env S).bind (kLp1 tg p xs):=by
 show (tg d env S).bind _=_
 first | rfl | (congr 1;funext q;show (p q.1 q.2).bind _=(p q.1 q.2).bind _;congr 1;funext o;cases o <;> rfl)
def Er(q:D×ac):Option (List D×ac):=match q.1 with | .lst xs=>U (xs,q.2) | .rol xs=>U (xs,q.2) | .tup xs=>U (xs,q.2) | _=>Y
@[simp] theorem zm{xs:List D}:Er (.lst xs,S)=U (xs,S):=id rfl
@[simp] theorem kItS_r{xs:List D}:Er (.rol xs,S)=U (xs,S):=id rfl
@[simp] theorem LW{xs:List D}:Er (.tup xs,S)=U (xs,S):=id rfl
@[simp] theorem du:db a env S=(a env S).bind Er:=by rw [zb];rfl
def RR(q:List D×ac):Option (List D×ac):=match q.1 with | [.int j]=>if -(2 ^ 62)<=j/\j<2 ^ 62 then U (cJ 0 j.toNat,q.2) else Y | _=>Y
def qV{j:Int}(h:-1000000<=j)(h':j<=1000000):RR ([.int j],S)=U (cJ 0 j.toNat,S):=WI ⟨by omega,by omega⟩
@[simp] theorem jk:cB ms env S=(ms env S).bind RR:=by rw [uE];rfl
def kR2(q:List D×ac):Option (List D×ac):=match q.1 with | [.int i,.int j]=>if -(2 ^ 62)<=i/\i<2 ^ 62/\-(2 ^ 62)<=j/\j<2 ^ 62 then U (cJ i (j - i).toNat,q.2) else Y | _=>Y
@[simp] theorem mRange2_s:dC ms env S=(ms env S).bind kR2:=by rw [uD];rfl
def Et(q:List D×ac):Option (D×ac):=U (.lst q.1,q.2)
def oE(g:MG)(t:MT)(e:ME)(cap:List (Option Nat))(env:bj)(q:List D×ac):Option (D×ac):=if q.1.length<=sizeLine then (dS g t e q.1 (wA cap env) q.2).bind Et else Y
def lg{cap:List (Option Nat)}{xs:List D}(h:xs.length<=1000):oE tg t a cap env (xs,S)=(dS tg t a xs (wA cap env) S).bind Et:=WI (sz h)
@[simp] theorem mU{xs:List D}:Et (xs,S)=U (.lst xs,S):=id rfl
@[simp] theorem bZ{cap:List (Option Nat)}:bI ms tg t a cap env S=(ms env S).bind (oE tg t a cap env):=by rw [uG];rfl
def UE(x:D)(q:List D×ac):Option (List D×ac):=U (x::q.1,q.2)
def UF(g:MG)(t:MT)(e:ME)(xs:List D)(env:bj)(q:D×ac):Option (List D×ac):=(dS g t e xs env q.2).bind (UE q.1)
def PX(g:MG)(t:MT)(e:ME)(xs:List D)(env:bj)(q:Bool×ac):Option (List D×ac):=if q.1=true then (e env q.2).bind (UF g t e xs env) else dS g t e xs env q.2
def kCl1(g:MG)(t:MT)(e:ME)(xs:List D)(q:bj×ac):Option (List D×ac):=(t q.1 q.2).bind (PX g t e xs q.1)
@[simp] theorem zu{xs:List D}:kCl1 tg t a xs (e,S)=(t e S).bind (PX tg t a xs e):=id rfl
@[simp] theorem zt{xs:List D}:PX tg t a xs e (true,S)=(a e S).bind (UF tg t a xs e):=id rfl
@[simp] theorem Eu{xs:List D}:PX tg t a xs e (false,S)=dS tg t a xs e S:=id rfl
@[simp] theorem zr{xs:List D}:UF tg t a xs e (d,S)=(dS tg t a xs e S).bind (UE d):=id rfl
@[simp] theorem zq{xs:List D}:UE d (xs,S)=U (d::xs,S):=id rfl
@[simp] theorem Uh:dS tg t a [] env S=U ([],S):=id rfl
def iy{xs:List D}:dS tg t a (d::xs) env S=(tg d env S).bind (kCl1 tg t a xs):=id rfl
section
variable{g2:MG}{t2:MT}{xs:List D}{mi2:MA}
end
def zo(n:Nat)(f:List D->ac->Option (D×ac))(q:List D×ac):Option nH:=if q.1.length=n then (f q.1 q.2).bind kRt else Y
def RX(l:List (bt×Nat×(List D->ac->Option (D×ac))))(i:Nat)(ms:MA)(env:bj)(q:D×ac):Option nH:=(ee q.1).bind λk=>(Ai l k).bind λp=>(ms (env.set i Y) q.2).bind (zo p.1 p.2)
def LY{l:List (bt×Nat×(List D->ac->Option (D×ac)))}{i n:Nat}{f:List D->ac->Option (D×ac)}{k:bt}(h:ee d=U k)(h':Ai l k=U (n,f)):RX l i ms env (d,S)=(ms (env.set i Y) S).bind (zo n f):=by
 show (ee d).bind _=_
 rw [h];show (Ai l k).bind _=_;rw [h'];rfl
def Io{n:Nat}{f:List D->ac->Option (D×ac)}{xs:List D}(h:xs.length=n):zo n f (xs,S)=(f xs S).bind kRt:=WI h
def PC{l:List (bt×Nat×(List D->ac->Option (D×ac)))}{i:Nat}:iw l i a ms env S=(a env S).bind (RX l i ms env):=by rw [BG];rfl
@[simp] theorem kM{i j:Int}:aR S (.int i) (.int j)=U (.int (i+j)):=id rfl
def gO{xs ys:List D}(h:xs.length+ys.length<=1000):aR S (.tup xs) (.tup ys)=U (.tup (xs++ys)):=WI (sz h)
def EF{xs ys:List D}(h:xs.length+ys.length<=1000):aR S (.lst xs) (.lst ys)=U (.lst (xs++ys)):=WI (sz h)
@[simp] theorem zD{i j:Int}:oz S (.int i) (.int j)=U (.int (i - j)):=id rfl
@[simp] theorem fLt_i{i j:Int}:Qq S (.int i) (.int j)=U (.bl (decide (i<j))):=id rfl
@[simp] theorem fLe_i{i j:Int}:Qr S (.int i) (.int j)=U (.bl (decide (i<=j))):=id rfl
@[simp] theorem fGt_i{i j:Int}:fGt S (.int i) (.int j)=U (.bl (decide (j<i))):=id rfl
@[simp] theorem fGe_i{i j:Int}:fGe S (.int i) (.int j)=U (.bl (decide (j<=i))):=id rfl
@[simp] theorem fNeg_i{i:Int}:UX S (.int i)=U (.int (-i)):=id rfl
def jG{i j:Int}(h:0<j):lW S (.int i) (.int j)=U (.int (i % j)):=WI (WA h)
def MD{i j:Int}(h:0<j)(h':j<1073741824):IF S (.int i) (.int j)=U (.int (i / j)):=WI (by show (decide (0<j)&&decide (j<1073741824))=true;rw [WA h,WA h'];rfl)
def Mx{i j:Int}(h:(decide (0<=j)&&decide (j<=1000000)&&decide (i.natAbs<2 ^ 64))=true):wv S (.int i) (.int j)=U (.int (i ^ j.toNat)):=WI h
def jF{i j:Int}(h:pL i j=true):cz S (.int i) (.int j)=U (.int (i * j)):=WI h
def qO{i j:Int}(h:-18446744073709551616<i)(h':i<18446744073709551616):pL i j=true:=by
 unfold pL;rw [WA (p:=i.natAbs<18446744073709551616) (by omega)];rfl
def yK{i j:Int}(h:-18446744073709551616<j)(h':j<18446744073709551616):pL i j=true:=by
 unfold pL;rw [WA (p:=j.natAbs<18446744073709551616) (by omega)];simp
@[simp] theorem fIx_t{xs:List D}{i:Int}:aw S (.tup xs) (.int i)=mE xs i:=id rfl
@[simp] theorem fIx_l{xs:List D}{i:Int}:aw S (.lst xs) (.int i)=mE xs i:=id rfl
@[simp] theorem fIx_r{xs:List D}{i:Int}:aw S (.rol xs) (.int i)=mE xs i:=id rfl
def qo{r:Nat}{xs:List D}{i:Int}(h:S[r]?=U (.lst xs)):aw S (.ref r) (.int i)=mE xs i:=by
 have:iU S (.ref r)=U xs:=by simp only [iU,h]
 have t:Am S (.ref r)=Y:=by simp only [Am,h]
 unfold aw;rw [t]
 show (iU S (.ref r)).bind _=_;rw [this];rfl
def Oa{α:Type}{xs:List α}{i:Int}(h0:0<=i)(h:i<xs.length):mE xs i=U (xs[i.toNat]'(by omega)):=by
 unfold mE Iq;rw [WI h0,WI h];show xs[i.toNat]?=_;rw [Wv]
@[simp] theorem vj{xs:List D}:aJ eg [.tup xs] S=U (.int xs.length,S):=id rfl
@[simp] theorem Vb{xs:List D}:aJ eg [.lst xs] S=U (.int xs.length,S):=id rfl
@[simp] theorem Va{xs:List D}:aJ eg [.rol xs] S=U (.int xs.length,S):=id rfl
@[simp] theorem fInt1_i{i:Int}:aJ lv [.int i] S=U (.int i,S):=id rfl
@[simp] theorem qq:aJ lv [.bl k] S=U (.int (if k then 1 else 0),S):=id rfl
@[simp] theorem fMax2_i{i j:Int}:aJ oK [.int i,.int j] S=U (.int (if j>i then j else i),S):=id rfl
@[simp] theorem Qo{i j:Int}:aJ Co [.int i,.int j] S=U (.int (if j<i then j else i),S):=id rfl
@[simp] theorem fSeq1_t{g:List D->D}{xs:List D}:aJ (cr g) [.tup xs] S=U (g xs,S):=id rfl
@[simp] theorem fW{g:List D->D}{xs:List D}:aJ (cr g) [.lst xs] S=U (g xs,S):=id rfl
def MH{xs:List D}{bs:List Bool}(h:mf xs=U bs):aJ zF [.lst xs] S=U (.bl (bs.all id),S):=by
 show ((mf xs).bind _).bind _=_;rw [h];rfl
@[simp] theorem mx:wy S x .non=U (.bl (mV x .non)):=id rfl
@[simp] theorem fIs_b:wy S x (.bl k)=U (.bl (mV x (.bl k))):=id rfl
@[simp] theorem qp:nh S x .non=U (.bl (!mV x .non)):=id rfl
@[simp] theorem fIsNot_b:nh S x (.bl k)=U (.bl (!mV x (.bl k))):=id rfl
def lX(h:cP 40 x=true)(h':cP 40 y=true):bW S x y=U (.bl (jJ x y)):=WI ⟨h,h'⟩
def rh(h:cP 40 x=true)(h':cP 40 y=true):gv S x y=U (.bl (!jJ x y)):=WI ⟨h,h'⟩
@[simp] theorem kL{i j:Int}:bW S (.int i) (.int j)=U (.bl (i == j)):=lX (by simp [cP]) (by simp [cP])
@[simp] theorem My{i j:Int}:gv S (.int i) (.int j)=U (.bl (!(i == j))):=rh (by simp [cP]) (by simp [cP])
@[simp] theorem fEq_bb:bW S (.bl k) (.bl l)=U (.bl (k == l)):=lX (by simp [cP]) (by simp [cP])
@[simp] theorem cD{i j:Str}:bW S (.str i) (.str j)=U (.bl (i == j)):=lX (by simp [cP]) (by simp [cP])
@[simp] theorem rg{i j:Str}:gv S (.str i) (.str j)=U (.bl (!(i == j))):=rh (by simp [cP]) (by simp [cP])
def jH{ys:List D}(hs:iU S y=U ys)(h:cP 40 x=true)(h':ys.all (cP 39)=true):kR S x y=U (.bl (ys.any λd=>jJ d x)):=by
 unfold kR;rw [hs];exact WI ⟨h,h'⟩
def IC{ys:List D}(hs:iU S y=U ys)(h:cP 40 x=true)(h':ys.all (cP 39)=true):rf S x y=U (.bl (!ys.any λd=>jJ d x)):=by
 unfold rf;rw [hs];exact WI ⟨h,h'⟩
def Go{xs:List D}{k:Int}(h0:0<=k)(h1:k<=100000)(h:xs.length * k.toNat<=1000):cz S (.tup xs) (.int k)=U (.tup (List.replicate k.toNat xs).flatten):=WI ⟨by omega,by omega,sz h⟩
def eI(f:MF)(x:D)(q:List D×ac):Option (D×ac):=f x q.1 q.2
def rQ(f:MF)(ms:MA)(env:bj)(q:D×ac):Option (D×ac):=if sM q.2 q.1=true then (ms env q.2).bind (eI f q.1) else Y
@[simp] theorem im{f:MF}:da f a ms env S=(a env S).bind (rQ f ms env):=by rw [Bz];rfl
@[simp] theorem kMeth_l{f:MF}{xs:List D}:rQ f ms env (.lst xs,S)=(ms env S).bind (eI f (.lst xs)):=id rfl
def pZ{f:MF}{r:Nat}{xs:List D}(h:S[r]?=U (.lst xs)):rQ f ms env (.ref r,S)=(ms env S).bind (eI f (.ref r)):=by
 unfold rQ;exact WI (by simp only [sM,h])
@[simp] theorem dJ{f:MF}{xs:List D}:eI f x (xs,S)=f x xs S:=id rfl
def lx{r:Nat}{xs:List D}(h:S[r]?=U (.lst xs))(hz:xs.length<1000):ce (.ref r) [y] S=U (.non,S.set r (.lst (xs++[y]))):=by
 simp only [ce,h];exact WI (WQ hz (by decide))
def BP(q:List D×ac):Option (List D×ac):=match q.1 with | [.tup xs]=>U (eM 0 xs,q.2) | _=>Y
@[simp] theorem kEnum_s{xs:List D}:BP ([.tup xs],S)=U (eM 0 xs,S):=id rfl
@[simp] theorem nS:eS ms env S=(ms env S).bind BP:=by rw [BE];rfl
def Qd{ns:List Int}(h:ns.length<64):rT S (.lst (ns.map .int))=U ns:=by
 unfold rT
 rw [WI (show sM S (.lst (ns.map D.int))=true from rfl)]
 show (pe (ns.map D.int)).bind _=_
 rw [uS];exact WI h
def kPar(i j:Nat)(env:bj)(q:List D×ac):Option nH:=match q.1 with | [v,w]=>U (.nx ((env.set i (U v)).set j (U w)) q.2) | _=>Y
@[simp] theorem Ud{i j:Nat}:mz i j ms env S=(ms env S).bind (kPar i j env):=by rw [FU];rfl
@[simp] theorem Uz{i j:Nat}:kPar i j env ([x,y],S)=U (.nx ((env.set i (U x)).set j (U y)) S):=id rfl
def PV(ms:MA)(env:bj)(q:D×ac):Option (D×ac):=if JW q.1=true then (ms env q.2).bind (eI fX q.1) else if sM q.2 q.1=true then (ms env q.2).bind (eI nY q.1) else Y
@[simp] theorem LH:jV a ms env S=(a env S).bind (PV ms env):=by rw [Gc];rfl
@[simp] theorem kCnt_t{xs:List D}:PV ms env (.tup xs,S)=(ms env S).bind (eI fX (.tup xs)):=id rfl
@[simp] theorem kCnt_l{xs:List D}:PV ms env (.lst xs,S)=(ms env S).bind (eI nY (.lst xs)):=id rfl
def IG{xs:List D}(h:cP 40 x=true)(h':xs.all (cP 39)=true):fX (.tup xs) [x] S=U (.int (xs.countP λd=>jJ d x),S):=by
 show (if JW (.tup xs)=true then vk (.tup xs) [x] S else Y)=_
 rw [WI (show JW (.tup xs)=true from rfl)]
 exact WI ⟨h,h'⟩
def kZip(q:List D×ac):Option (List D×ac):=match q.1 with | [.tup xs,.tup ys]=>U (kz xs ys,q.2) | _=>Y
@[simp] theorem kZip_s{xs ys:List D}:kZip ([.tup xs,.tup ys],S)=U (kz xs ys,S):=id rfl
@[simp] theorem mZip_s:mQ ms env S=(ms env S).bind kZip:=by rw [FQ];rfl
@[simp] theorem JK{xs ys:List D}:kz (x::xs) (y::ys)=.tup [x,y]::kz xs ys:=id rfl
@[simp] theorem zipD_nl{xs:List D}:kz [] xs=[]:=by cases xs <;> rfl
@[simp] theorem zipD_nr{xs:List D}:kz xs []=[]:=by cases xs <;> rfl
def Ux(k:bt)(d:D)(z:List (bt×D)×ac):Option (List (bt×D)×ac):=U ((k,d)::z.1,z.2)
def PN(r:List (ME×ME))(env:bj)(k:bt)(q:D×ac):Option (List (bt×D)×ac):=(kD r env q.2).bind (Ux k q.1)
def kPr2(b:ME)(r:List (ME×ME))(env:bj)(S:ac)(k:bt):Option (List (bt×D)×ac):=(b env S).bind (PN r env k)
def Uy(b:ME)(r:List (ME×ME))(env:bj)(q:D×ac):Option (List (bt×D)×ac):=(ee q.1).bind (kPr2 b r env q.2)
@[simp] theorem oX:kD [] env S=U ([],S):=id rfl
@[simp] theorem mR{r:List (ME×ME)}:kD ((a,b)::r) env S=(a env S).bind (Uy b r env):=id rfl
@[simp] theorem kPr1_i{i:Int}{r:List (ME×ME)}:Uy b r env (.int i,S)=(b env S).bind (PN r env (.inl i)):=id rfl
@[simp] theorem Eo{i:Str}{r:List (ME×ME)}:Uy b r env (.str i,S)=(b env S).bind (PN r env (.inr i)):=id rfl
@[simp] theorem Em{k:bt}{r:List (ME×ME)}:PN r env k (d,S)=(kD r env S).bind (Ux k d):=id rfl
@[simp] theorem El{k:bt}{z:List (bt×D)}:Ux k d (z,S)=U ((k,d)::z,S):=id rfl
def uN(z:List (bt×D)×ac):Option (D×ac):=if z.1.length<=15 then U (.dct ((cF [] z.1).map (·.1)) ((cF [] z.1).map (·.2)),z.2) else Y
def zp(z:List (bt×D)×ac):Option (D×ac):=if z.1.length<=15 then U (.ref z.2.length,z.2++[.dct ((cF [] z.1).map (·.1)) ((cF [] z.1).map (·.2))]) else Y
@[simp] theorem Ga{ps:List (ME×ME)}:gZ ps env S=(kD ps env S).bind uN:=by rw [BH];rfl
@[simp] theorem LF{ps:List (ME×ME)}:eU ps env S=(kD ps env S).bind zp:=by rw [xj];rfl
theorem BV{k:bt}:∀ {l:List (bt×D)},k ∉ l.map (·.1)->Iz l k=false
 | [],_=>rfl
 | p::r,h=>by
  rw [Wx,WM,aaE] at h
  unfold Iz;rw [if_neg (λz=>h.1 z.symm)];exact BV h.2
theorem oW:∀ {l m:List (bt×D)},((m++l).map (·.1)).Nodup->cF m l=m++l
 | [],m,_=>by rw [WS];rfl
 | p::r,m,h=>by
  show cF (KB m p.1 p.2) r=_
  have hn:p.1 ∉ m.map (·.1):=by
   rw [Xt,Wx,Yi] at h
   intro z;exact h.2.2 _ z _ Wr rfl
  unfold KB;rw [BV hn,if_neg Bool.false_ne_true]
  rw [oW (by rw [WR];exact h),WR];rfl
def nP{l:List (bt×D)}(h:(l.map (·.1)).Nodup):cF [] l=l:=oW (m:=[]) h
def BQ{l:List (bt×D)}(h:(l.map (·.1)).Nodup)(hl:l.length<=15):uN (l,S)=U (.dct (l.map (·.1)) (l.map (·.2)),S):=by
 unfold uN;rw [WI hl];simp only [nP h]
def Ip{l:List (bt×D)}(h:(l.map (·.1)).Nodup)(hl:l.length<=15):zp (l,S)=U (.ref S.length,S++[.dct (l.map (·.1)) (l.map (·.2))]):=by
 unfold zp;rw [WI hl];simp only [nP h]
theorem tI{α β:Type}:∀ (l:List (α×β)),(l.map (·.1)).zip (l.map (·.2))=l
 | []=>rfl
 | p::r=>by rw [Wx,Wx,List.zip_cons_cons,tI r]
@[simp] theorem fIx_dct{ks:List bt}{vs:List D}:aw S (.dct ks vs) y=(ee y).bind (fY (ks.zip vs)):=id rfl
def kDict_nd{l:List (bt×D)}(h:(l.map (·.1)).Nodup)(hl:l.length<=15):uN (l,S)=U (.dct (l.map (·.1)) (l.map (·.2)),S):=by
 unfold uN;rw [WI hl];simp only [nP h]
def fIx_d{l:List (bt×D)}{k:bt}(h:ee y=U k):aw S (.dct (l.map (·.1)) (l.map (·.2))) y=fY l k:=by
 show (ee y).bind (λk=>fY ((l.map (·.1)).zip (l.map (·.2))) k)=_
 rw [h,tI];rfl
def Vc{r:Nat}{l:List (bt×D)}{k:bt}(hr:S[r]?=U (.dct (l.map (·.1)) (l.map (·.2))))(h:ee y=U k):aw S (.ref r) y=fY l k:=by
 have:Am S (.ref r)=U l:=by simp only [Am,hr,tI]
 unfold aw;rw [this];show (ee y).bind _=_;rw [h];rfl
def Qt{l:List (bt×D)}{k:bt}(h:ee y=U k):sj (.dct (l.map (·.1)) (l.map (·.2))) [y,d] S=U ((fY l k).getD d,S):=by
 show ((U ((l.map (·.1)).zip (l.map (·.2)))).bind _)=_
 rw [tI];show (ee y).bind _=_;rw [h];rfl
def qW(f:MF)(ms:MA)(env:bj)(q:D×ac):Option (D×ac):=if NN q.2 q.1=true then (ms env q.2).bind (eI f q.1) else Y
def oZ(l:List (bt×D))(q:D×ac):Option (D×ac):=(ee q.1).bind λk=>(fY l k).bind λd=>U (d,q.2)
@[simp] theorem pS{l:List (bt×D)}:df l a env S=(a env S).bind (oZ l):=by rw [xa];rfl
@[simp] theorem BA{f:MF}:dQ f a ms env S=(a env S).bind (qW f ms env):=by rw [xh];rfl
@[simp] theorem LV{f:MF}{ks:List bt}{vs:List D}:qW f ms env (.dct ks vs,S)=(ms env S).bind (eI f (.dct ks vs)):=id rfl
def LU{f:MF}{r:Nat}{ks:List bt}{vs:List D}(h:S[r]?=U (.dct ks vs)):qW f ms env (.ref r,S)=(ms env S).bind (eI f (.ref r)):=by
 unfold qW;exact WI (by simp only [NN,h])
@[simp] theorem valD_nil{k:bt}:fY [] k=Y:=id rfl
@[simp] theorem GX{k k':bt}{l:List (bt×D)}:fY ((k',d)::l) k=if k'=k then U d else fY l k:=id rfl
@[simp] theorem keyOf_i{i:Int}:ee (.int i)=U (.inl i):=id rfl
@[simp] theorem zj{i:Str}:ee (.str i)=U (.inr i):=id rfl
def Qn{r:Nat}{l m:List (bt×D)}(hr:S[r]?=U (.dct (l.map (·.1)) (l.map (·.2))))(hl:l.length+m.length<=1000) :
  vg (.ref r) [.dct (m.map (·.1)) (m.map (·.2))] S=U (.non,S.set r (.dct ((cF l m).map (·.1)) ((cF l m).map (·.2)))):=by
 simp only [vg,hr,tI]
 exact WI (by rw [Ww,Ww];exact sz hl)
def mT(tg:MG)(p:MS)(env:bj)(q:D×ac):Option nH:=match q.1 with
 | .ref r=>fL tg p r 2000 0 env q.2
 | .lst xs=>cn tg p xs env q.2
 | .rol xs=>cn tg p xs env q.2
 | .tup xs=>cn tg p xs env q.2
 | _=>Y
@[simp] theorem lP:dO a tg p env S=(a env S).bind (mT tg p env):=by rw [BD];rfl
@[simp] theorem kForD_l{xs:List D}:mT tg p env (.lst xs,S)=cn tg p xs env S:=id rfl
@[simp] theorem kForD_o{xs:List D}:mT tg p env (.rol xs,S)=cn tg p xs env S:=id rfl
@[simp] theorem zn{xs:List D}:mT tg p env (.tup xs,S)=cn tg p xs env S:=id rfl
@[simp] theorem kForD_r{r:Nat}:mT tg p env (.ref r,S)=fL tg p r 2000 0 env S:=id rfl
def RV(tg:MG)(p:MS)(env:bj)(q:List D×ac):Option nH:=match q.1 with
 | [.tup xs,.ref r]=>eH tg p xs r 2000 0 env q.2
 | _=>Y
@[simp] theorem Pz:jw ms tg p env S=(ms env S).bind (RV tg p env):=by rw [BC];rfl
@[simp] theorem PU{xs:List D}{r:Nat}:RV tg p env ([.tup xs,.ref r],S)=eH tg p xs r 2000 0 env S:=id rfl
def Ur(tg:MG)(p:MS)(xs:List D)(r f i:Nat):nH->Option nH
 | .nx e s=>eH tg p xs r f i e s
 | .ct e s=>eH tg p xs r f i e s
 | .bk e s=>U (.nx e s)
 | .rt d s=>U (.rt d s)
def kZl1(tg:MG)(p:MS)(xs:List D)(r f i:Nat)(q:bj×ac):Option nH:=(p q.1 q.2).bind (Ur tg p xs r f i)
@[simp] theorem Us{xs:List D}{r f i:Nat}:kZl1 tg p xs r f i (env,S)=(p env S).bind (Ur tg p xs r f i):=id rfl
@[simp] theorem PL{xs:List D}{r f i:Nat}:Ur tg p xs r f i (.nx env S)=eH tg p xs r f i env S:=id rfl
def Ia{xs ys:List D}{r f i:Nat}{x y:D}(h:S[r]?=U (.lst ys))(hx:xs[i]?=U x)(hy:ys[i]?=U y):eH tg p xs r (f+1) i env S=(tg (.tup [x,y]) env S).bind (kZl1 tg p xs r f (i+1)):=by
 rw [eH,h]
 simp only [hx,hy]
 show (tg (.tup [x,y]) env S).bind _=_
 refine congrArg _ (funext λq=>congrArg _ (funext λo=>?_))
 cases o <;> rfl
def Ee{xs ys:List D}{r f i:Nat}(h:S[r]?=U (.lst ys))(hx:xs[i]?=Y):eH tg p xs r (f+1) i env S=U (.nx env S):=by
 rw [eH,h]
 simp only [hx]
def Ik(tg:MG)(p:MS)(r f i:Nat):nH->Option nH
 | .nx e s=>fL tg p r f i e s
 | .ct e s=>fL tg p r f i e s
 | .bk e s=>U (.nx e s)
 | .rt d s=>U (.rt d s)
def kRl1(tg:MG)(p:MS)(r f i:Nat)(q:bj×ac):Option nH:=(p q.1 q.2).bind (Ik tg p r f i)
@[simp] theorem kRl1_s{r f i:Nat}:kRl1 tg p r f i (e,S)=(p e S).bind (Ik tg p r f i):=id rfl
@[simp] theorem kRl2_nx{r f i:Nat}:Ik tg p r f i (.nx e S)=fL tg p r f i e S:=id rfl
@[simp] theorem kRl2_ct{r f i:Nat}:Ik tg p r f i (.ct e S)=fL tg p r f i e S:=id rfl
@[simp] theorem kRl2_bk{r f i:Nat}:Ik tg p r f i (.bk e S)=U (.nx e S):=id rfl
@[simp] theorem kRl2_rt{r f i:Nat}:Ik tg p r f i (.rt d S)=U (.rt d S):=id rfl
def Ug{r f i:Nat}{xs:List D}(h:S[r]?=U (.lst xs))(hx:xs.length<=i):fL tg p r (f+1) i env S=U (.nx env S):=by
 have hx':xs[i]?=Y:=by simpa using hx
 unfold fL;rw [h];simp only [hx']
def Ep(q:List D×ac):Option (D×ac):=match q.1 with | [.int j]=>if 0<=j/\j<=1000 then U (.lst (cJ 0 j.toNat),q.2) else Y | _=>Y
@[simp] theorem LB:eR ms env S=(ms env S).bind Ep:=by rw [xi];rfl
def Im{j:Int}(h0:0<=j)(h1:j<=1000):Ep ([.int j],S)=U (.lst (cJ 0 j.toNat),S):=WI ⟨h0,h1⟩
def Ut(t:MT)(p:MS)(f:Nat):nH->Option nH
 | .nx e s=>gE t p f e s
 | .ct e s=>gE t p f e s
 | .bk e s=>U (.nx e s)
 | .rt d s=>U (.rt d s)
def kWh(t:MT)(p:MS)(f:Nat)(env:bj)(q:Bool×ac):Option nH:=if q.1=true then (p env q.2).bind (Ut t p f) else U (.nx env q.2)
@[simp] theorem Lw:eO t p env S=gE t p 5000 env S:=by rw [wZ];rfl
def HZ{f:Nat}:gE t p (f+1) env S=(t env S).bind (kWh t p f env):=by
 show (t env S).bind _=_
 first | rfl | (congr 1;done)
@[simp] theorem kWh_t{f:Nat}:kWh t p f env (true,S)=(p env S).bind (Ut t p f):=id rfl
@[simp] theorem kWh_f{f:Nat}:kWh t p f env (false,S)=U (.nx env S):=id rfl
@[simp] theorem PM{f:Nat}:Ut t p f (.nx e S)=gE t p f e S:=id rfl
def Qp{ns:List Int}(h:ns.length<64)(h0:ns≠[]):aJ oK [.lst (ns.map .int)] S=U (.int (kA ns),S):=by
 show ((oK S [.lst (ns.map D.int)]).bind _)=_
 have:oK S [.lst (ns.map D.int)]=U (.int (kA ns)):=by
  show ((rT S (.lst (ns.map D.int))).bind _)=_
  rw [Qd h]
  show (if ns.isEmpty=true then Y else U (D.int (kA ns)))=_
  rw [if_neg (by cases ns with | nil=>exact absurd rfl h0 | cons _ _=>simp)]
 rw [this];rfl
def Gq{x y:D}{xs ys:List D}(h:(zx x||zx y)=true)(h1:rN S x=U xs)(h2:rN S y=U ys)(hl:xs.length+ys.length<=1000):aR S x y=U (.lst (xs++ys)):=by
 unfold aR;rw [WI h,h1,h2];exact WI (sz hl)
def szM{n:Nat}(h:n<=1000000):n<=sizeLine:=WT h (by decide)
theorem Hc:∀ ys:List Str,Fz (ys.map .str)=U ys
 | []=>rfl
 | y::r=>by
  have:=Hc r
  show (Fz (r.map .str)).bind _=_
  rw [this];rfl
def HE:nH->Option (D×ac)
 | .rt d S'=>U (d,S')
 | .nx _ S'=>U (.non,S')
 | .bk _ _=>Y
 | .ct _ _=>Y
@[simp] theorem aI:HE (.rt d S)=U (d,S):=id rfl
@[simp] theorem outM_nx:HE (.nx e S)=U (.non,S):=id rfl
def bd{N:List Str}{m:MS}{n:Nat}{ds:List D}{S:ac}(h:ds.length=n):aP N m n ds S=(m (aB N ds) S).bind HE:=by
 unfold aP;rw [WI h];first | rfl | (congr 1;funext o;cases o <;> rfl)
@[simp] theorem rep0:List.replicate 0 (Y:Option D)=[]:=id rfl
end
def tq:MS:=
 ay (bz (ax (ar fGt (ar aw (ab 0) (mC (.int 0))) (mC (.int 0)))) (ay (aF (ar lW (ar aw (ab 0) (mC (.int 0))) (ab 1)) (ah 2)) (ay (aF (ar IF (ar aw (ab 0) (mC (.int 0))) (ab 1)) (fM (ab 0) (mC (.int 0)))) (aX (ab 2)))) (aS)) (ay (aF (ar aR (ar aw (ab 0) (mC (.int 2))) (mC (.int 1))) (fM (ab 0) (mC (.int 2)))) (ay (aF (ar lW (ar aR (ar aR (ar cz (ar aw (ab 0) (mC (.int 1))) (mC (.int 48271))) (mC (.int 12345))) (ar cz (mC (.int 7)) (ar aw (ab 0) (mC (.int 2))))) (mC (.int 2147483647))) (fM (ab 0) (mC (.int 1)))) (aX (ar lW (ar IF (ar lW (ar cz (ar aw (ab 0) (mC (.int 1))) (ar aw (ab 0) (mC (.int 1)))) (mC (.int 1999999973))) (mC (.int 64))) (ab 1)))))
def Ek:MS:=
 ay (aF (mC (.int 1)) (ah 0)) (ay (iZ (cB (aa (mC (.int 10)) (ai))) (ah 1) (aF (ar cz (ab 0) (ar wv (mC (.int 10)) (mC (.int 60)))) (ah 0))) (aX (ab 0)))
def nU:MS:=
 ay (bz (ax (ar Qq (ab 1) (ba (aJ eg) (aa (ab 0) (ai))))) (aX (ar aw (ab 0) (ab 1))) (aS)) (aX (mC (.int 0)))
def tw(cellAt far:List D->ac->Option (D×ac)):MS:=
 ay (aF (ao 2 cellAt (aa (ab 0) (aa (ar lW (ab 1) (ba (aJ oK) (aa (mC (.int 1)) (aa (ba (aJ eg) (aa (ab 0) (ai))) (ai))))) (ai)))) (ah 2)) (ay (aF (ar lW (ar cz (ar aR (ar aR (ar lW (ab 2) (mC (.int 2147483629))) (ar cz (ar cz (mC (.int 7919)) (ab 1)) (ab 1))) (mC (.int 11))) (mC (.int 48271))) (mC (.int 2147483647))) (ah 3)) (ay (aF (ar lW (ar aR (ar aR (ar cz (ab 3) (mC (.int 39373))) (ar cz (mC (.int 7)) (ab 1))) (mC (.int 1))) (mC (.int 2147483629))) (ah 3)) (ay (bz (ax (ar Qq (ab 2) (ar wv (mC (.int 10)) (mC (.int 18))))) (aF (mC (.int 0)) (ah 2)) (aS)) (aX (dI (aa (ar lW (ab 2) (ao 0 far ai)) (aa (ab 3) (aa (mC (.int 0)) (ai)))))))))
def Wa{a b c:D}:mE [a,b,c] 0=U a/\mE [a,b,c] 1=U b/\mE [a,b,c] 2=U c:=⟨rfl,rfl,rfl⟩
def Pk(S:ac)(r:Nat):Prop:=∃ a b c:Int,S[r]?=U (.lst [.int a,.int b,.int c])/\0<=a/\0<=b/\b<2147483647
def p60:Int:=1000000000000000000000000000000000000000000000000000000000000
def TD:(10:Int) ^ (60:Int).toNat=p60:=by decide +kernel
def TC:p60.natAbs<=2 ^ (200 * 1):=by decide +kernel
def Pc:0<p60:=by decide +kernel
def Pd{i:Int}(h:i.natAbs<2 ^ 4000):pL i p60=true:=by
 unfold pL
 rw [WA h,WA (p:=p60.natAbs<2 ^ 4000) (by decide +kernel)]
 simp
def Mw:MS:=aF (ar cz (ab 0) (ar wv (mC (.int 10)) (mC (.int 60)))) (ah 0)
def UW{S:ac}:wv S (.int 10) (.int 60)=U (.int p60):=by
 have h:=Mx (S:=S) (i:=10) (j:=60) (by decide +kernel)
 rw [TD] at h
 exact h
def Mv{S:ac}{a p:Int}{o:Option D}(h1:wv S (.int 10) (.int 60)=U (.int p))(h2:cz S (.int a) (.int p)=U (.int (a * p))):Mw [U (.int a),o] S=U (.nx [U (.int (a * p)),o] S):=by
 simp [Mw,h1,h2]
def Qm{S:ac}{a:Int}{o:Option D}(h:pL a p60=true):Mw [U (.int a),o] S=U (.nx [U (.int (a * p60)),o] S):=Mv UW (jF h)
def farL{S:ac}{B:Nat}(hB:∀ i:Int,i.natAbs<B->pL i p60=true)(l:List D):∀ (a:Int) (o:Option D),0<a->a.natAbs * 2 ^ (200 * l.length)<B->∃ q o',cn (ah 1) Mw l [U (.int a),o] S=U (.nx [U (.int q),o'] S)/\0<q:=by
 induction l with
 | nil=>exact λa o h _=>⟨a,o,rfl,h⟩
 | cons d l ih=>
  intro a o h hb
  have h1:a.natAbs<B:=aaH (Nat.le_mul_of_pos_right _ (Nat.pow_pos (by decide))) hb
  obtain⟨q,o',e,hq⟩:=ih (a * p60) (U d) (Int.mul_pos h Pc) (by
   rw [Int.natAbs_mul]
   refine aaH ?_ hb
   rw [WG,Nat.mul_add,Nat.pow_add,Nat.mul_assoc]
   refine aaB _ ?_
   rw [Zz]
   exact aaB _ TC)
  refine⟨q,o',?_,hq⟩
  rw [dw,aU,ob,kJ]
  show (Mw [U (.int a),U d] S).bind _=_
  rw [Qm (hB a h1),ob,jc]
  exact e
def Mu{S:ac}{N:List Str}(hN:N.length=2):∃ q:Int,aP N Ek 0 [] S=U (.int q,S)/\0<q:=by
 obtain⟨q,o',e,hq⟩:=farL (S:=S) (λi h=>Pd h) (cJ 0 10) 1 Y (by decide) (by decide +kernel)
 refine⟨q,?_,hq⟩
 rw [bd (show ([]:List D).length=0 from rfl)]
 have:aB N []=[Y,Y]:=by simp [aB,hN,List.replicate]
 rw [this]
 have k1:RR ([.int 10],S)=U (cJ 0 10,S):=qV (by decide) (by decide)
 have e':cn (ah 1) (aF (ar cz (ab 0) (ar wv (mC (.int 10)) (mC (.int 60)))) (ah 0)) (cJ 0 10) [U (.int 1),Y] S=U (.nx [U (.int q),o'] S):=e
 simp only [Ek,aT,bn,bf,ob,bo,aU,eN,bL,aH,uF,jk,aq,am,aA,al,k1,uM,e',aZ,ak,bG,oj,aj,bx,aI]
def Hu{S:ac}{r:Nat}{m:Int}{N:List Str}(hN:N.length=3)(h:Pk S r)(h0:0<m)(h1:m<1073741824) :
  ∃ q S',aP N tq 2 [.ref r,.int m] S=U (.int q,S')/\0<=q/\q<m/\Pk S' r/\(∀ j,j≠r->S'[j]?=S[j]?)/\S'.length=S.length:=by
 obtain⟨a,b,c,h,ha,hb,hb'⟩:=h
 have hr:r<S.length:=(Wo.mp h).1
 have hm:∀ x:Int,0<=x % m/\x % m<m:=λx=>⟨Ys _ (by omega),Zr _ h0⟩
 have hst:aB N [.ref r,.int m]=[U (.ref r),U (.int m),Y]:=by simp [aB,hN]
 rw [bd (show [D.ref r,D.int m].length=2 from rfl),hst]
 have hs:∀ c:Cell,(S.set r c)[r]?=U c:=λc=>WV hr
 by_cases hp:0<a
 ·refine⟨a % m,S.set r (.lst [.int (a / m),.int b,.int c]),?_,(hm a).1,(hm a).2,⟨a / m,b,c,hs _,Int.ediv_nonneg ha (by omega),hb,hb'⟩,λj hj=>by rw [WO (Ne.symm hj)],by simp⟩
  have w:=uL (env:=[U (.ref r),U (.int m),U (.int (a % m))]) (d:=.int (a / m)) h (show Iq _ 0=U 0 from rfl)
  simp [tq,qo h,hp,jG h0,MD h0 h1,Wa,w]
 ·have hB:∀ x:Int,0<=x % 2147483647/\x % 2147483647<2147483647:=λx=>⟨Ys _ (by decide),Zr _ (by decide)⟩
  let b':=(b * 48271+12345+7 * (c+1)) % 2147483647
  have hb2:=hB (b * 48271+12345+7 * (c+1))
  have m3:pL b' b'=true:=qO (by omega) (by omega)
  have s1:(S.set r (.lst [.int a,.int b,.int (c+1)]))[r]?=U (.lst [.int a,.int b,.int (c+1)]):=hs _
  have s2:((S.set r (.lst [.int a,.int b,.int (c+1)])).set r (.lst [.int a,.int b',.int (c+1)]))[r]?=U (.lst [.int a,.int b',.int (c+1)]):=WV (by simpa using hr)
  refine⟨b' * b' % 1999999973 / 64 % m,(S.set r (.lst [.int a,.int b,.int (c+1)])).set r (.lst [.int a,.int b',.int (c+1)]),?_,(hm _).1,(hm _).2,⟨a,b',c+1,s2,ha,(hB _).1,(hB _).2⟩,λj hj=>by rw [WO (Ne.symm hj),WO (Ne.symm hj)],by simp⟩
  have e1:cz (S.set r (.lst [.int a,.int b,.int (c+1)])) (.int b) (.int 48271)=U (.int (b * 48271)):=jF (yK (by decide) (by decide))
  have e2:cz (S.set r (.lst [.int a,.int b,.int (c+1)])) (.int 7) (.int (c+1))=U (.int (7 * (c+1))):=jF (qO (by decide) (by decide))
  have e3:∀ S x,lW S (.int x) (.int 2147483647)=U (.int (x % 2147483647)):=λ_ _=>jG (by decide)
  have e4:∀ S x,lW S (.int x) (.int 1999999973)=U (.int (x % 1999999973)):=λ_ _=>jG (by decide)
  have e5:∀ S x,IF S (.int x) (.int 64)=U (.int (x / 64)):=λ_ _=>MD (by decide) (by decide)
  have w1:=uL (env:=[U (.ref r),U (.int m),Y]) (d:=.int (c+1)) h (show Iq _ 2=U 2 from rfl)
  have w2:=uL (env:=[U (.ref r),U (.int m),Y]) (d:=.int b') s1 (show Iq _ 1=U 1 from rfl)
  simp [tq,qo h,qo s1,qo s2,hp,jG h0,Wa,e1,e2,e3,e4,e5,w1]
  rw [show (b * 48271+12345+7 * (c+1)) % 2147483647=b' from rfl,w2]
  simp [qo (hs _),Wa,jF m3,e4,e5,jG h0]
def CB{S:ac}{ns:List Int}{k:Int}{N:List Str}(hN:N.length=2)(h0:0<=k):∃ v,aP N nU 2 [.rol (ns.map .int),.int k] S=U (.int v,S):=by
 rw [bd (show [D.rol (ns.map .int),D.int k].length=2 from rfl)]
 have hst:aB N [D.rol (ns.map .int),D.int k]=[U (D.rol (ns.map .int)),U (.int k)]:=by simp [aB,hN]
 rw [hst]
 by_cases h:k<ns.length
 ·have e:mE (ns.map D.int) k=U (.int (ns[k.toNat]'(by omega))):=by
   rw [Oa h0 (by simpa using h)];simp
  exact⟨ns[k.toNat]'(by omega),by simp [nU,h,e]⟩
 ·exact⟨0,by simp [nU,h]⟩
def Wi{S:ac}{a b c:Int}(ha:0<=a)(hb:0<=b)(hb':b<2147483647):Pk (S++[.lst [.int a,.int b,.int c]]) S.length:=⟨a,b,c,by simp,ha,hb,hb'⟩
def Ih{S:ac}{ns:List Int}{k:Int}{N:List Str}{cellAt far:List D->ac->Option (D×ac)}(hN:N.length=4)(h0:0<=k)(h1:k<=100000)
  (hc:∀ S k,0<=k->∃ v,cellAt [.rol (ns.map .int),.int k] S=U (.int v,S)) (hf:∀ S,∃ q,far [] S=U (.int q,S)/\0<q) :
  ∃ a b,aP N (tw cellAt far) 2 [.rol (ns.map .int),.int k] S=U (.ref S.length,S++[.lst [.int a,.int b,.int 0]])/\0<=a/\0<=b/\b<2147483647:=by
 rw [bd (show [D.rol (ns.map .int),D.int k].length=2 from rfl)]
 have hst:aB N [D.rol (ns.map .int),D.int k]=[U (D.rol (ns.map .int)),U (.int k),Y,Y]:=by simp [aB,hN,List.replicate]
 rw [hst]
 have hmx:0<(if (ns.length:Int)>1 then (ns.length:Int) else 1):=by split <;> omega
 obtain⟨v,hv⟩:=hc S (k % (if (ns.length:Int)>1 then (ns.length:Int) else 1)) (Ys _ (by omega))
 obtain⟨q,hq,q0⟩:=hf S
 have e1:∀ S x,lW S (.int x) (.int 2147483629)=U (.int (x % 2147483629)):=λ_ _=>jG (by decide)
 have e2:∀ S x,lW S (.int x) (.int 2147483647)=U (.int (x % 2147483647)):=λ_ _=>jG (by decide)
 have e3:∀ S x,lW S (.int x) (.int q)=U (.int (x % q)):=λ_ _=>jG q0
 have p1:∀ S,cz S (.int 7919) (.int k)=U (.int (7919 * k)):=λ_=>jF (qO (by decide) (by decide))
 have p2:∀ S,cz S (.int (7919 * k)) (.int k)=U (.int (7919 * k * k)):=λ_=>jF (yK (by omega) (by omega))
 have p3:∀ S x,cz S (.int x) (.int 48271)=U (.int (x * 48271)):=λ_ _=>jF (yK (by decide) (by decide))
 have p4:∀ S x,cz S (.int x) (.int 39373)=U (.int (x * 39373)):=λ_ _=>jF (yK (by decide) (by decide))
 have p5:∀ S,cz S (.int 7) (.int k)=U (.int (7 * k)):=λ_=>jF (qO (by decide) (by decide))
 have pw:∀ S,wv S (.int 10) (.int 18)=U (.int 1000000000000000000):=λS=>by
  have h:=Mx (S:=S) (i:=10) (j:=18) (by decide +kernel)
  rwa [show (10:Int) ^ (18:Int).toNat=1000000000000000000 by decide +kernel] at h
 have hb:∀ x:Int,0<=x % 2147483629/\x % 2147483629<2147483647:=λx=>⟨Ys _ (by decide),by have:=Zr x (show (0:Int)<2147483629 by decide);omega⟩
 have kl:∀ S x y,qa ([.int x,.int y,.int 0],S)=U (.ref S.length,S++[.lst [.int x,.int y,.int 0]]):=λ_ _ _=>jx (by simp)
 by_cases h:v<1000000000000000000
 ·refine⟨0 % q,(((v % 2147483629+7919 * k * k+11) * 48271 % 2147483647) * 39373+7 * k+1) % 2147483629,?_,Ys _ (by omega),(hb _).1,(hb _).2⟩
  simp [-Int.zero_emod,tw,jG hmx,hv,e1,e2,e3,p1,p2,p3,p4,p5,pw,h,hq,kl]
 ·refine⟨v % q,(((v % 2147483629+7919 * k * k+11) * 48271 % 2147483647) * 39373+7 * k+1) % 2147483629,?_,Ys _ (by omega),(hb _).1,(hb _).2⟩
  simp [tw,jG hmx,hv,e1,e2,e3,p1,p2,p3,p4,p5,pw,h,hq,kl]
theorem Cf{tg:MG}{p:MS}(I:bj->ac->Prop):∀ (xs:List D),(∀ d∈xs,∀ env S,I env S->∃ env1 S1 env2 S2,tg d env S=U (env1,S1)/\p env1 S1=U (.nx env2 S2)/\I env2 S2) ->
  ∀ env S,I env S->∃ env' S',cn tg p xs env S=U (.nx env' S')/\I env' S'
 | [],_,env,S,h=>⟨env,S,rfl,h⟩
 | d::xs,hs,env,S,h=>by
  obtain⟨env1,S1,env2,S2,e1,e2,h2⟩:=hs d Wr env S h
  obtain⟨env',S',e3,h3⟩:=Cf I xs (λd hd=>hs d (Wu _ hd)) env2 S2 h2
  exact⟨env',S',by rw [dw,e1,ob,kJ,e2,ob,jc,e3],h3⟩
def DL{lo:Int}{n:Nat}{d:D}(h:d∈cJ lo n):∃ i:Nat,i<n/\d=.int (lo+(i:Int)):=by
 obtain⟨i,hi⟩:=Yx.mp h
 exact⟨i,tV lo n i d hi⟩
def nr:D->Bool
 | .ref _=>false
 | _=>true
abbrev PF:=List D->ac->Option (D×ac)
def Fo(pick:PF):Prop:=∀ (S:ac) (r:Nat) (m:Int),Pk S r->0<m->m<1073741824->∃ q S',pick [.ref r,.int m] S=U (.int q,S')/\0<=q/\q<m/\Pk S' r/\(∀ j,j≠r->S'[j]?=S[j]?)/\S'.length=S.length
def zf(pick:PF):MS:=
 ay (aF (ar aw (eQ (aa (mC (.str "rows")) (aa (mC (.str "readers")) (aa (mC (.str "writers")) (aa (mC (.str "turns")) (aa (mC (.str "passes")) (ai))))))) (ao 2 pick (aa (ab 0) (aa (mC (.int 5)) (ai))))) (ah 1)) (ay (aF (ar aw (eQ (aa (mC (.int 0)) (aa (mC (.int 0)) (aa (mC (.int 1)) (aa (mC (.int 2)) (aa (mC (.int 3)) (aa (mC (.int 5)) (ai)))))))) (ao 2 pick (aa (ab 0) (aa (mC (.int 6)) (ai))))) (ah 2)) (ay (aF (ar cz (ar aw (eQ (aa (mC (.int 0)) (aa (mC (.int 1)) (aa (mC (.int 2)) (aa (mC (.int 9)) (ai)))))) (ao 2 pick (aa (ab 0) (aa (mC (.int 4)) (ai))))) (ba (aJ lv) (aa (ar bW (ab 1) (mC (.str "passes"))) (ai)))) (ah 3)) (aX (aO (aa (ab 1) (aa (ab 2) (aa (ab 3) (aa (ao 2 pick (aa (ab 0) (aa (mC (.int 2)) (ai)))) (ai)))))))))
def Rq{q:Int}(h0:0<=q)(h1:q<6):∃ i:Int,mE [D.int 0,D.int 0,D.int 1,D.int 2,D.int 3,D.int 5] q=U (.int i)/\0<=i/\i<=5:=by
 obtain rfl | rfl | rfl | rfl | rfl | rfl:q=0\/q=1\/q=2\/q=3\/q=4\/q=5:=by omega
 all_goals exact⟨_,rfl,by decide,by decide⟩
def NY{q:Int}(h0:0<=q)(h1:q<4):∃ i:Int,mE [D.int 0,D.int 1,D.int 2,D.int 9] q=U (.int i)/\0<=i/\i<=9:=by
 obtain rfl | rfl | rfl | rfl:q=0\/q=1\/q=2\/q=3:=by omega
 all_goals exact⟨_,rfl,by decide,by decide⟩
def forR{tg:MG}{p:MS}{lo:Int}(I:Nat->bj->ac->Prop)(n:Nat)(step:∀ i,i<n->∀ env S,I i env S->∃ env1 S1 env2 S2,tg (.int (lo+(i:Int))) env S=U (env1,S1)/\p env1 S1=U (.nx env2 S2)/\I (i+1) env2 S2) :
  ∀ env S,I 0 env S->∃ env' S',cn tg p (cJ lo n) env S=U (.nx env' S')/\I n env' S':=by
 have gen:∀ (m k:Nat),k+m=n->∀ env S,I k env S->∃ env' S',cn tg p ((List.range' k m).map λ(i:Nat)=>D.int (lo+(i:Int))) env S=U (.nx env' S')/\I n env' S':=by
  intro m
  induction m with
  | zero=>exact λk hk env S h=>⟨env,S,rfl,by rw [<- hk];exact h⟩
  | succ m ih=>
   intro k hk env S h
   obtain⟨env1,S1,env2,S2,e1,e2,h2⟩:=step k (by omega) env S h
   obtain⟨env',S',e3,h3⟩:=ih (k+1) (by omega) env2 S2 h2
   refine⟨env',S',?_,h3⟩
   rw [List.range'_succ,Wx,dw,e1,ob,kJ,e2,ob,jc,e3]
 intro env S h
 have:=gen n 0 (by omega) env S h
 unfold cJ
 rw [List.range_eq_range']
 exact this
def EntOk(n:Int)(xs:List D)(d:D):Prop:=∃ (g:Int) (w:Str) (m:Int) (t:D),d=.tup [.int g,.str w,.int m,t]/\0<=g/\g<n/\(w = "read"\/w = "write")/\0<=m/\m<=999/\(t=.non\/∃ k,t=.int k/\1<=k/\k<=9)/\mE xs g=U (.str "out")
def EntOk.up{n n':Int}{xs:List D}{d:D}(h:EntOk n xs d)(hn:n<=n'):EntOk n' xs d:=by
 obtain⟨g,w,m,t,e,h0,h1,r⟩:=h
 exact⟨g,w,m,t,e,h0,by omega,r⟩
def nX{S:ac}{g:List D->D}{q:Nat}{xs:List D}(h:S[q]?=U (.lst xs)):aJ (cr g) [.ref q] S=U (g xs,S):=by
 have e:iU S (.ref q)=U xs:=by simp only [iU,h]
 show ((iU S (.ref q)).bind _).bind _=_
 rw [e];rfl
def Ew(x:Str):Prop:=x = "rows"\/x = "readers"\/x = "writers"\/x = "turns"\/x = "passes"
def Rp{q:Int}(h0:0<=q)(h1:q<5):∃ x:Str,mE [D.str "rows",D.str "readers",D.str "writers",D.str "turns",D.str "passes"] q=U (.str x)/\Ew x:=by
 obtain rfl | rfl | rfl | rfl | rfl:q=0\/q=1\/q=2\/q=3\/q=4:=by omega
 ·exact⟨_,rfl,.inl rfl⟩
 ·exact⟨_,rfl,.inr (.inl rfl)⟩
 ·exact⟨_,rfl,.inr (.inr (.inl rfl))⟩
 ·exact⟨_,rfl,.inr (.inr (.inr (.inl rfl)))⟩
 ·exact⟨_,rfl,.inr (.inr (.inr (.inr rfl)))⟩
def Keep(r:Nat)(S S':ac):Prop:=(∀ j,j≠r->S'[j]?=S[j]?)/\S'.length=S.length
theorem Keep.trans{r:Nat}{S S' S'':ac}(h:Keep r S S')(h':Keep r S' S''):Keep r S S'':=⟨λj z=>(h'.1 j z).trans (h.1 j z),h'.2.trans h.2⟩
structure Wh(x:Str)(a b c:Int):Prop where
 w:Ew x
 a0:0<=a
 a5:a<=5
 b0:0<=b
 b9:b<=9
 c0:0<=c
 c1:c<=1
def Hr{pick:PF}(hp:Fo pick){S:ac}{r:Nat}{N:List Str}(hN:N.length=4)(h:Pk S r):∃ x a b c S',aP N (zf pick) 1 [.ref r] S=U (.tup [.str x,.int a,.int b,.int c],S')/\Wh x a b c/\Pk S' r/\Keep r S S':=by
 have hst:aB N [D.ref r]=[U (.ref r),Y,Y,Y]:=by simp [aB,hN,List.replicate]
 rw [bd (show [D.ref r].length=1 from rfl),hst]
 obtain⟨q1,S1,e1,l1,g1,P1,K1⟩:=hp _ _ 5 h (by decide) (by decide)
 obtain⟨q2,S2,e2,l2,g2,P2,K2⟩:=hp _ _ 6 P1 (by decide) (by decide)
 obtain⟨q3,S3,e3,l3,g3,P3,K3⟩:=hp _ _ 4 P2 (by decide) (by decide)
 obtain⟨q4,S4,e4,l4,g4,P4,K4⟩:=hp _ _ 2 P3 (by decide) (by decide)
 obtain⟨x,i1,wx⟩:=Rp l1 g1
 obtain⟨a,i2,a0,a5⟩:=Rq l2 g2
 obtain⟨b,i3,b0,b9⟩:=NY l3 g3
 have k1:∀ S,oq ([D.str "rows",D.str "readers",D.str "writers",D.str "turns",D.str "passes"],S)=U (.lst [D.str "rows",D.str "readers",D.str "writers",D.str "turns",D.str "passes"],S):=λS=>eK (by simp)
 have k2:∀ S,oq ([D.int 0,D.int 0,D.int 1,D.int 2,D.int 3,D.int 5],S)=U (.lst [D.int 0,D.int 0,D.int 1,D.int 2,D.int 3,D.int 5],S):=λS=>eK (by simp)
 have k3:∀ S,oq ([D.int 0,D.int 1,D.int 2,D.int 9],S)=U (.lst [D.int 0,D.int 1,D.int 2,D.int 9],S):=λS=>eK (by simp)
 have k4:∀ S (a b c d:D),cy ([a,b,c,d],S)=U (.tup [a,b,c,d],S):=λS a b c d=>aY (by simp)
 have m1:∀ S (z:Bool),cz S (.int b) (.int (if z=true then 1 else 0))=U (.int (b * (if z=true then 1 else 0))):=λS z=>jF (qO (by omega) (by omega))
 refine⟨x,a,b * (if (x == ("passes":Str))=true then 1 else 0),q4,S4,?_,⟨wx,a0,a5,by split <;> omega,by split <;> omega,l4,by omega⟩,P4,Keep.trans K1 (Keep.trans K2 (Keep.trans K3 K4))⟩
 simp [-beq_iff_eq,zf,k1,k2,k3,k4,e1,e2,e3,e4,i1,i2,i3,m1]
def lS(F:PF):MS:=
 ay (bz (cQ (dR "dict" (ab 1))) (ay (bz (eG (dB (cQ (dR "dict" (ab 0)))) (ax (ar gv (ba (aJ eg) (aa (ab 0) (ai))) (ba (aJ eg) (aa (ab 1) (ai)))))) (aX (mC (.bl false))) (aS)) (ay (aF (iO) (ah 2)) (aX (ba (aJ zF) (aa (bI (db (ab 1)) (ah 0) (bY) (dA (ar kR (ab 0) (ab 2)) (dA (ao 2 F (aa (ar aw (ab 3) (ab 0)) (aa (ab 0) (ai)))) (ao 2 F (aa (ar aw (ab 2) (ab 0)) (aa (ar aw (ab 1) (ab 0)) (ai)))))) [Y,U 1,U 0,U 2]) (ai)))))) (aS)) (ay (bz (eG (cQ (dR "list" (ab 1))) (cQ (dR "tuple" (ab 1)))) (ay (bz (eG (ax (ar gv (dR "list" (ab 0)) (dR "list" (ab 1)))) (ax (ar gv (dR "tuple" (ab 0)) (dR "tuple" (ab 1))))) (aX (mC (.bl false))) (aS)) (aX (dA (ar bW (ba (aJ eg) (aa (ab 0) (ai))) (ba (aJ eg) (aa (ab 1) (ai)))) (ba (aJ zF) (aa (bI (mQ (aa (ab 0) (aa (ab 1) (ai)))) (aK 2 (af (ah 0) (af (ah 1) (aC)))) (bY) (ao 2 F (aa (ab 0) (aa (ab 1) (ai)))) [Y,Y]) (ai)))))) (aS)) (ay (bz (ax (ar wy (ab 1) (mC .non))) (aX (ar wy (ab 0) (mC .non))) (aS)) (ay (bz (cQ (dR "str" (ab 1))) (aX (dA (dR "str" (ab 0)) (ar bW (ab 0) (ab 1)))) (aS)) (ay (bz (eG (cQ (dR "bool" (ab 1))) (cQ (dR "bool" (ab 0)))) (aX (dA (dR "bool" (ab 0)) (dA (dR "bool" (ab 1)) (ar bW (ab 0) (ab 1))))) (aS)) (aX (dA (dR "int" (ab 0)) (ar bW (ab 0) (ab 1))))))))
def iL:Nat->D->Bool
 | 0,_=>false
 | _+1,.non=>true
 | _+1,.bl _=>true
 | _+1,.int _=>true
 | _+1,.str _=>true
 | j+1,.tup xs=>decide (xs.length<=1000)&&xs.all (iL j)
 | _+1,_=>false
def Vd{S:ac}{d:D}{j:Nat}(h:iL j d=true):lu "dict" S d=U (.bl false)/\lu "list" S d=U (.bl false):=by
 cases j with
 | zero=>cases h
 | succ j=>cases d <;> first | exact⟨rfl,rfl⟩ | (exfalso;simp [iL] at h)
theorem oA:∀ xs:List D,(kz xs xs).length=xs.length
 | []=>rfl
 | x::r=>by rw [JK,WG,WG,oA r]
theorem qz:∀ n:Nat,mf (List.replicate n (D.bl true))=U (List.replicate n true)
 | 0=>rfl
 | n+1=>by
  rw [WX,WX]
  have:=qz n
  simp only [mf,this];rfl
def UY{S:ac}{k l:Bool}:gv S (.bl k) (.bl l)=U (.bl (!(k == l))):=rh (by simp [cP]) (by simp [cP])
theorem Kt{F:PF}{S:ac}{t1 t2:Option D}:∀ (xs:List D) (a b:Option D),(∀ d∈xs,F [d,d] S=U (.bl true,S))->dS (aK 2 (af (ah 0) (af (ah 1) (aC)))) (bY) (ao 2 F (aa (ab 0) (aa (ab 1) (ai)))) (kz xs xs) [a,b] S=U (List.replicate xs.length (.bl true),S)
 | [],a,b,_=>by simp
 | x::r,a,b,h=>by
  have h1:=h x (by simp)
  have h2:=Kt (t1:=t1) (t2:=t2) r (U x) (U x) λd hd=>h d (Wu _ hd)
  rw [JK,iy]
  simp [h1,h2,WX]
theorem AC{R:Nat->PF}{N:List Str}(hN:N.length=3)(hR:∀ j,R (j+1)=aP N (lS (R j)) 2){S:ac}:∀ (j:Nat) (d:D),iL j d=true->R j [d,d] S=U (.bl true,S)
 | 0,d,h=>by cases d <;> cases h
 | j+1,d,h=>by
  have hst:aB N [d,d]=[U d,U d,Y]:=by simp [aB,hN,List.replicate]
  rw [hR,bd (show [d,d].length=2 from rfl),hst]
  obtain⟨i1,i2⟩:=Vd (S:=S) h
  cases d with
  | tup xs=>
   have hx:xs.length<=1000/\xs.all (iL j)=true:=by simpa [iL] using h
   have it:lu "tuple" S (.tup xs)=U (.bl true):=rfl
   have hl:=Kt (F:=R j) (S:=S) (t1:=Y) (t2:=Y) xs Y Y λd hd=>AC hN hR j d (WJ.mp hx.2 d hd)
   have kc:oE (aK 2 (af (ah 0) (af (ah 1) (aC)))) (bY) (ao 2 (R j) (aa (ab 0) (aa (ab 1) (ai)))) [Y,Y] [U (.tup xs),U (.tup xs),Y] (kz xs xs,S)=U (.lst (List.replicate xs.length (.bl true)),S):=by
    rw [lg (by rw [oA];exact hx.1)]
    show (dS _ _ _ (kz xs xs) [Y,Y] S).bind _=_
    rw [hl];rfl
   have fa:aJ zF [.lst (List.replicate xs.length (D.bl true))] S=U (.bl true,S):=by
    rw [MH (qz _)];simp
   simp [lS,i1,i2,it,UY,kc,fa]
  | non=>simp [lS,i1,i2,show lu "tuple" S .non=U (.bl false) from rfl,mV]
  | bl k=>simp [lS,i1,i2,show lu "tuple" S (.bl k)=U (.bl false) from rfl,show lu "str" S (.bl k)=U (.bl false) from rfl,show lu "bool" S (.bl k)=U (.bl true) from rfl,mV]
  | int i=>simp [lS,i1,i2,show lu "tuple" S (.int i)=U (.bl false) from rfl,show lu "str" S (.int i)=U (.bl false) from rfl,show lu "bool" S (.int i)=U (.bl false) from rfl,show lu "int" S (.int i)=U (.bl true) from rfl,mV]
  | str x=>simp [lS,i1,i2,show lu "tuple" S (.str x)=U (.bl false) from rfl,show lu "str" S (.str x)=U (.bl true) from rfl,mV]
  | lst _=>simp [iL] at h
  | rol _=>simp [iL] at h
  | dct _ _=>simp [iL] at h
  | ref _=>simp [iL] at h
def ir{S:ac}{c:Cell}:(S++[c])[S.length]?=U c:=by simp
def GM{S:ac}{c d:Cell}:(S++[c]).set S.length d=S++[d]:=by
 rw [List.set_append,if_neg (XY _)];simp
inductive Wd where | out | reads | rising | writes | raised
deriving DecidableEq
def Wd.s:Wd->Str
 | .out=>"out"
 | .reads=>"reads"
 | .rising=>"rising"
 | .writes=>"writes"
 | .raised=>"raised"
def Wd.eq(a b:Wd):(a.s == b.s)=decide (a=b):=by cases a <;> cases b <;> decide +kernel
structure En where
 g:Nat
 wr:Bool
 m:Int
 t:Option Int
def be(b:Bool):Str:=if b then "write" else "read"
def po(b:Bool):(be b == ("write":Str))=b:=by cases b <;> decide +kernel
def sU(b:Bool):(be b == ("read":Str)) = !b:=by cases b <;> decide +kernel
def bJ:Option Int->D
 | none=>.non
 | some k=>.int k
def En.d(e:En):D:=.tup [.int (e.g:Nat),.str (be e.wr),.int e.m,bJ e.t]
abbrev Rm:=List Wd×List En
def Wd.d(w:Wd):D:=.str w.s
def cx(ws:List Wd):D:=.tup (ws.map Wd.d)
def cf(es:List En):D:=.tup (es.map En.d)
def aQ(R:Rm):D:=.tup [cx R.1,cf R.2]
inductive Rw where | rows | readers | writers | turns | passes
deriving DecidableEq
def Rw.s:Rw->Str
 | .rows=>"rows"
 | .readers=>"readers"
 | .writers=>"writers"
 | .turns=>"turns"
 | .passes=>"passes"
def Rw.eq(a b:Rw):(a.s == b.s)=decide (a=b):=by cases a <;> cases b <;> decide +kernel
structure Rl where
 w:Rw
 a:Int
 b:Int
 c:Int
def Rl.d(r:Rl):D:=.tup [.str r.w.s,.int r.a,.int r.b,.int r.c]
structure Rl.Ok(r:Rl):Prop where
 a0:0<=r.a
 a5:r.a<=5
 b0:0<=r.b
 b9:r.b<=9
 c0:0<=r.c
 c1:r.c<=1
def Iv{x:Str}(h:Ew x):∃ w:Rw,x=w.s:=by
 rcases h with rfl | rfl | rfl | rfl | rfl
 ·exact⟨.rows,rfl⟩
 ·exact⟨.readers,rfl⟩
 ·exact⟨.writers,rfl⟩
 ·exact⟨.turns,rfl⟩
 ·exact⟨.passes,rfl⟩
section
variable{α:Type}{enc:α->D}{p:α->Bool}{f:α->D}{t:MT}{e:ME}{rest:bj}{S:ac}
theorem So:∀ (xs:List α) (a:Option D),(∀ x∈xs,t (U (enc x)::rest) S=U (p x,S))->(∀ x∈xs,p x=true->e (U (enc x)::rest) S=U (f x,S))->dS (ah 0) t e (xs.map enc) (a::rest) S=U ((xs.filter p).map f,S)
 | [],a,_,_=>by simp
 | x::r,a,h,h2=>by
  have ih:=So r (U (enc x)) (λy hy=>h y (Wu _ hy)) λy hy=>h2 y (Wu _ hy)
  rw [Wx,iy,aU,ob,eN,zu,h x (by simp),ob]
  cases hp:p x with
  | true=>rw [zt,h2 x (by simp) hp,ob,zr,ih,ob,zq,YQ hp,Wx]
  | false=>rw [Eu,ih,YR (by simp [hp])]
def eW{cap:List (Option Nat)}{env:bj}{a:Option D}{xs:List α}(hc:wA cap env=a::rest)(hl:xs.length<=1000)(h:∀ x∈xs,t (U (enc x)::rest) S=U (p x,S))(h2:∀ x∈xs,p x=true->e (U (enc x)::rest) S=U (f x,S)) :
  oE (ah 0) t e cap env (xs.map enc,S)=U (.lst ((xs.filter p).map f),S):=by
 rw [lg (by rw [Ww];exact hl),hc,So xs a h h2,ob,mU]
theorem Sn:∀ (xs:List α) (k:Nat) (a b:Option D),(∀ i x,xs[i]?=U x->t (U (.int ((k+i:Nat):Int))::U (enc x)::rest) S=U (p x,S))->dS (aK 2 (af (ah 0) (af (ah 1) (aC)))) t (ab 0) (eM k (xs.map enc)) (a::b::rest) S=U (((xs.zipIdx k).filter λq=>p q.1).map λq=>.int (q.2:Int),S)
 | [],k,a,b,_=>by simp [eM]
 | x::r,k,a,b,h=>by
  have ih:=Sn r (k+1) (U (.int (k:Int))) (U (enc x)) (λi y hy=>by
   have:=h (i+1) y (by simpa using hy)
   rw [show k+(i+1)=k+1+i by omega] at this
   exact this)
  have h0:=h 0 x rfl
  rw [aap] at h0
  rw [Wx,eM,iy,bS,bp,aU,ob,eN,cI,bp,aU,ob,eV,eN,cI,bH,ob,zu,h0,ob,Ya]
  cases hp:p x with
  | true=>
   rw [zt,ak,bG,oj,ob,aj,ob,zr,ih,ob,zq,YQ (p:=λq:α×Nat=>p q.1) (a:=(x,k)) hp,Wx]
  | false=>rw [Eu,ih,YR (p:=λq:α×Nat=>p q.1) (a:=(x,k)) (by simp [hp])]
def zk{cap:List (Option Nat)}{env:bj}{a b:Option D}{xs:List α}(hc:wA cap env=a::b::rest)(hl:xs.length<=1000)(h:∀ (i:Nat) x,xs[i]?=U x->t (U (.int (i:Int))::U (enc x)::rest) S=U (p x,S)) :
  oE (aK 2 (af (ah 0) (af (ah 1) (aC)))) t (ab 0) cap env (eM 0 (xs.map enc),S)=U (.lst ((xs.zipIdx.filter λq=>p q.1).map λq=>.int (q.2:Int)),S):=by
 rw [lg (by rw [nZ,Ww];exact hl),hc,Sn xs 0 a b (λi x hx=>by rw [Zc];exact h i x hx),ob,mU]
end
def NZ{α:Type}{xs:List α}{i:Nat}{x:α}(h:xs[i]?=U x):mE xs (i:Int)=U x:=by
 have hl:=(Wo.mp h).1
 rw [Oa (by omega) (by omega)]
 rw [Wo] at h
 obtain⟨_,h⟩:=h
 simpa using h
def at4(x a b c:D):mE [x,a,b,c] 0=U x/\mE [x,a,b,c] 1=U a/\mE [x,a,b,c] 2=U b/\mE [x,a,b,c] 3=U c:=⟨rfl,rfl,rfl,rfl⟩
def at2(x a:D):mE [x,a] 0=U x/\mE [x,a] 1=U a:=⟨rfl,rfl⟩
section
variable{S:ac}{e:En}{r:Rl}{R:Rm}
def En.ix0:aw S e.d (.int 0)=U (.int (e.g:Nat)):=rfl
def En.ix1:aw S e.d (.int 1)=U (.str (be e.wr)):=rfl
def En.ix2:aw S e.d (.int 2)=U (.int e.m):=rfl
def En.ix3:aw S e.d (.int 3)=U (bJ e.t):=rfl
def Rl.ix0:aw S r.d (.int 0)=U (.str r.w.s):=rfl
def Rl.ix1:aw S r.d (.int 1)=U (.int r.a):=rfl
def Rl.ix2:aw S r.d (.int 2)=U (.int r.b):=rfl
def Rl.ix3:aw S r.d (.int 3)=U (.int r.c):=rfl
def Rm.ix0:aw S (aQ R) (.int 0)=U (cx R.1):=rfl
def Rm.ix1:aw S (aQ R) (.int 1)=U (cf R.2):=rfl
def rE{ws:List Wd}{i:Nat}{w:Wd}(h:ws[i]?=U w):aw S (cx ws) (.int (i:Int))=U w.d:=by
 show mE (ws.map Wd.d) (i:Int)=_
 exact NZ (by rw [XV,h];rfl)
def Ni{es:List En}{i:Nat}{e:En}(h:es[i]?=U e):aw S (cf es) (.int (i:Int))=U e.d:=by
 show mE (es.map En.d) (i:Int)=_
 exact NZ (by rw [XV,h];rfl)
end
def Ku{n d i:Nat}:HT.fH n d (U (i:Int))=min i n:=by
 show (if (i:Int)<0 then ((i:Int)+(n:Int)).toNat else min (i:Int).toNat n)=_
 rw [if_neg (by omega),Xr]
def Kv{n d:Nat}:HT.fH n d Y=d:=rfl
def Ji{α:Type}(xs:List α)(i:Nat)(h:i<=xs.length):iQ xs Y (U (i:Int))=xs.take i:=by
 unfold iQ
 rw [Ku,Kv,ZN h];simp
def oe{α:Type}(xs:List α)(i:Nat)(h:i<=xs.length):iQ xs (U (i:Int)) Y=xs.drop i:=by
 unfold iQ
 rw [Ku,Kv,ZN h,YW (by simp)]
def Ej:MS:=aX (ar aR (ar aR (bu (ab 0) (bw) (bR (ab 1))) (aO (aa (ab 2) (ai)))) (bu (ab 0) (bR (ar aR (ab 1) (mC (.int 1)))) (bw)))
def Km{α:Type}(xs:List α)(i:Nat)(h:i<xs.length)(x:α):xs.take i++[x]++xs.drop (i+1)=xs.set i x:=by
 rw [List.set_eq_take_append_cons_drop,WI h];simp
def OF{N:List Str}(hN:N.length=3){S:ac}{ws:List Wd}{i:Nat}{w:Wd}(h:i<ws.length)(hl:ws.length<=100):aP N Ej 3 [cx ws,.int (i:Int),w.d] S=U (cx (ws.set i w),S):=by
 have hst:aB N [cx ws,D.int (i:Int),w.d]=[U (cx ws),U (.int (i:Int)),U w.d]:=by simp [aB,hN]
 rw [bd (show [cx ws,D.int (i:Int),w.d].length=3 from rfl),hst]
 have k1:cy ([w.d],S)=U (.tup [w.d],S):=aY (by simp)
 have c1:iQ (ws.map Wd.d) Y (U (i:Int))=(ws.take i).map Wd.d:=by rw [Ji _ _ (by rw [Ww];omega),Yj]
 have c2:iQ (ws.map Wd.d) (U ((i:Int)+1)) Y=(ws.drop (i+1)).map Wd.d:=by
  rw [show ((i:Int)+1)=((i+1:Nat):Int) by omega,oe _ _ (by rw [Ww];omega),Zp]
 have a1:aR S (.tup ((ws.take i).map Wd.d)) (.tup [w.d])=U (.tup ((ws.take i).map Wd.d++[w.d])):=gO (by simp;omega)
 have a2:aR S (.tup ((ws.take i).map Wd.d++[w.d])) (.tup ((ws.drop (i+1)).map Wd.d))=U (.tup ((ws.take i).map Wd.d++[w.d]++(ws.drop (i+1)).map Wd.d)):=gO (by simp;omega)
 have e:(ws.take i).map Wd.d++[w.d]++(ws.drop (i+1)).map Wd.d=(ws.set i w).map Wd.d:=by
  rw [<- Km ws i h w];simp
 rw [e] at a2
 simp only [Ej,cx,aZ,aE,cH,ak,bG,bO,bP,oj,ob,aj,eZ,cL,eY,dj,dm,kI,c1,av,bg,aq,am,aA,al,k1,au,a1,bf,kM,c2,a2,bx,aI]
section
variable{S:ac}{ws:List Wd}{es:List En}{ms:MA}{env:bj}
def Vj(a b:Wd):jJ a.d b.d=decide (a=b):=Wd.eq a b
def TX{n:Nat}:((ws.map Wd.d).all (cP n))=true:=by
 rw [WJ];intro d hd;obtain⟨w,_,rfl⟩:=WP.mp hd;cases n <;> rfl
def xV(w:Wd):fX (cx ws) [w.d] S=U (.int (ws.count w:Nat),S):=by
 have h:=IG (S:=S) (x:=w.d) (xs:=ws.map Wd.d) rfl TX
 rw [show cx ws=.tup (ws.map Wd.d) from rfl,h]
 congr 4
 rw [List.countP_map]
 apply List.countP_congr
 intro a _
 simp [Vj]
def pk:PV ms env (cx ws,S)=(ms env S).bind (eI fX (cx ws)):=rfl
def xU:aJ eg [cx ws] S=U (.int (ws.length:Nat),S):=by
 rw [show cx ws=.tup (ws.map Wd.d) from rfl,vj,Ww]
def Nh:aJ eg [cf es] S=U (.int (es.length:Nat),S):=by
 rw [show cf es=.tup (es.map En.d) from rfl,vj,Ww]
end
def qT(r:Rl)(ws:List Wd)(wr:Bool):Bool:=
 if ws.count .reads+ws.count .rising+ws.count .out<ws.length then false
 else if wr then decide (ws.count .reads+ws.count .rising=0)
 else decide (ws.count .rising=0)&&(decide (r.a=0)||decide (((ws.count .reads+ws.count .rising:Nat):Int)<r.a))
def zg:MS:=
 ay (aF (ar aR (jV (ab 1) (aa (mC (.str "reads")) (ai))) (jV (ab 1) (aa (mC (.str "rising")) (ai)))) (ah 3)) (ay (bz (ax (ar Qq (ar aR (ab 3) (jV (ab 1) (aa (mC (.str "out")) (ai)))) (ba (aJ eg) (aa (ab 1) (ai))))) (aX (mC (.bl false))) (aS)) (ay (bz (ax (ar bW (ab 2) (mC (.str "write")))) (aX (ar bW (ab 3) (mC (.int 0)))) (aS)) (aX (dA (ar bW (jV (ab 1) (aa (mC (.str "rising")) (ai))) (mC (.int 0))) (vE (ar bW (ar aw (ab 0) (mC (.int 1))) (mC (.int 0))) (ar Qq (ab 3) (ar aw (ab 0) (mC (.int 1)))))))))
def LL{N:List Str}(hN:N.length=4){S:ac}{r:Rl}{ws:List Wd}{wr:Bool}:aP N zg 3 [r.d,cx ws,.str (be wr)] S=U (.bl (qT r ws wr),S):=by
 have hst:aB N [r.d,cx ws,D.str (be wr)]=[U r.d,U (cx ws),U (.str (be wr)),Y]:=by simp [aB,hN,List.replicate]
 rw [bd (show [r.d,cx ws,D.str (be wr)].length=3 from rfl),hst]
 have c1:∀ S,fX (cx ws) [.str "reads"] S=U (.int (ws.count .reads:Nat),S):=λS=>xV .reads
 have c2:∀ S,fX (cx ws) [.str "rising"] S=U (.int (ws.count .rising:Nat),S):=λS=>xV .rising
 have c3:∀ S,fX (cx ws) [.str "out"] S=U (.int (ws.count .out:Nat),S):=λS=>xV .out
 unfold qT
 simp only [zg,aT,bn,aE,LH,ak,bG,bP,bO,oj,ob,aj,pk,aq,bf,am,aA,al,dJ,c1,c2,c3,av,au,kM,bo,aU,eN,eV,bL,aH,bi,aG,bT,bU,xU,fLt_i,aD]
 by_cases h1:ws.count .reads+ws.count .rising+ws.count .out<ws.length
 ·have:decide (((ws.count Wd.reads:Nat):Int)+((ws.count Wd.rising:Nat):Int)+((ws.count Wd.out:Nat):Int)<((ws.length:Nat):Int))=true:=WA (by omega)
  rw [this,WI h1];simp
 ·have:decide (((ws.count Wd.reads:Nat):Int)+((ws.count Wd.rising:Nat):Int)+((ws.count Wd.out:Nat):Int)<((ws.length:Nat):Int))=false:=WC (by omega)
  rw [this,if_neg h1]
  cases wr with
  | true=>
   have e:(be true == ("write":Str))=true:=po true
   have e2:(((ws.count Wd.reads:Nat):Int)+((ws.count Wd.rising:Nat):Int) == 0)=decide (ws.count Wd.reads+ws.count Wd.rising=0):=by
    rw [Xc];simp;omega
   simp [e,e2]
  | false=>
   have e:(be false == ("write":Str))=false:=po false
   have e2:(((ws.count Wd.rising:Nat):Int) == 0)=decide (ws.count Wd.rising=0):=by rw [Xc];simp
   have e3:(r.a == 0)=decide (r.a=0):=rfl
   by_cases h2:ws.count Wd.rising=0
   ·by_cases h3:r.a=0
    ·simp [e,e2,Rl.ix1,h2,h3,pk,c2]
    ·simp [e,e2,Rl.ix1,h2,h3,pk,c2,Xv.mpr h3]
   ·simp [e,e2,Rl.ix1,h2,pk,c2]
def js{α:Type}(xs:List α)(i:Nat):iQ xs Y (U (i:Int))=xs.take i:=by
 unfold iQ
 rw [Ku,Kv];simp only [ZV,Nat.sub_zero]
 rcases Nat.le_total i xs.length with h | h
 ·rw [ZN h]
 ·rw [Nat.min_eq_right h,YW (WD _),YW h]
def ni(i:Nat):D:=.int (i:Int)
def nl(l:List Nat):D:=.lst (l.map ni)
def Pe(a b:List Nat):List Nat:=if a=[] then b else a
def Ad(p:En->Bool)(es:List En):List Nat:=(es.zipIdx.filter λq=>p q.1).map (·.2)
def pd{p:En->Bool}{es:List En}{i:Nat}(h:i∈Ad p es):i<es.length:=by
 unfold Ad at h
 obtain⟨q,hq,rfl⟩:=WP.mp h
 have:=(Xm.mp hq).1
 have:=List.snd_lt_of_mem_zipIdx this
 omega
def Ir{es:List En}:Ad (λ_=>false) es=[]:=by unfold Ad;simp
def Lk{p:En->Bool}{es:List En}:D.lst ((es.zipIdx.filter λq=>p q.1).map λq=>.int (q.2:Int))=nl (Ad p es):=by
 unfold nl Ad ni;rw [Xn];rfl
def UA{b:ME}{env:bj}{S:ac}{l:List Nat}:RT b env (nl l,S)=if l=[] then b env S else U (nl l,S):=by
 cases l with
 | nil=>rfl
 | cons _ _=>rw [if_neg (by simp)];exact kOr_c
def Uu{S:ac}{l:List Nat}{n:Nat}:iP (nl l) Y (U (n:Int),S)=U (nl (l.take n),S):=by
 unfold nl;rw [Uv,js,Yj]
def ul(n:Nat):D.lst (cJ 0 n)=nl (List.range n):=by
 unfold cJ nl ni;congr 1;apply Zk;intro i _;rw [Int.zero_add]
def PQ{S:ac}{l:List Nat}:Er (nl l,S)=U (l.map ni,S):=rfl
def Ce(r:Rl)(es:List En):List Nat:=match r.w with
 | .rows=>(List.range es.length).take 1
 | .readers=>(Pe (Ad (λe=>!e.wr) es) (Ad (λe=>e.wr) es)).take 1
 | .passes=>(List.range es.length).filter λi=>decide (kA (0::(es.take i).map λe=>e.m+1)<=r.b)
 | .turns=>(Pe (Ad (λe=>decide (e.m=1)) es) (Pe (Ad (λe=>e.wr) es) (Ad (λe=>!e.wr) es))).take 1
 | .writers=>(Pe (Ad (λe=>e.wr) es) (Ad (λe=>!e.wr) es)).take 1
def qZ{r:Rl}{es:List En}{i:Nat}(h:i∈Ce r es):i<es.length:=by
 have ho:∀ {a b:List Nat},i∈Pe a b->i∈a\/i∈b:=λ{a b} h=>by unfold Pe at h;split at h <;> simp [h]
 unfold Ce at h
 split at h
 ·exact Zi.mp (Xs h)
 ·exact(ho (Xs h)).elim pd pd
 ·exact Zi.mp (Xm.mp h).1
 ·exact(ho (Xs h)).elim pd λh=>(ho h).elim pd pd
 ·exact(ho (Xs h)).elim pd pd
def frR:ME:=bI (eS (aa (ab 1) (ai))) (aK 2 (af (ah 0) (af (ah 1) (aC)))) (ax (ar bW (ar aw (ab 1) (mC (.int 1))) (mC (.str "read")))) (ab 0) [Y,Y]
def frW:ME:=bI (eS (aa (ab 1) (ai))) (aK 2 (af (ah 0) (af (ah 1) (aC)))) (ax (ar bW (ar aw (ab 1) (mC (.int 1))) (mC (.str "write")))) (ab 0) [Y,Y]
def frT:ME:=bI (eS (aa (ab 1) (ai))) (aK 2 (af (ah 0) (af (ah 1) (aC)))) (dc (ax (ar bW (ar aw (ab 2) (mC (.int 0))) (mC (.str "turns")))) (ax (ar bW (ar aw (ab 1) (mC (.int 2))) (mC (.int 1))))) (ab 0) [Y,Y,U 0]
def Mo:ME:=bI (db (bu (ab 2) (bw) (bR (ab 0)))) (ah 0) (bY) (ar aR (ar aw (ab 0) (mC (.int 2))) (mC (.int 1))) [Y]
def frP:ME:=bI (cB (aa (ba (aJ eg) (aa (ab 1) (ai))) (ai))) (ah 0) (ax (ar Qr (ba (aJ oK) (aa (ar aR (eQ (aa (mC (.int 0)) (ai))) Mo) (ai))) (ar aw (ab 1) (mC (.int 2))))) (ab 0) [Y,U 0,U 1]
def qU:MS:=
 ay (aF frR (ah 2)) (ay (aF frW (ah 3)) (ay (bz (ax (ar bW (ar aw (ab 0) (mC (.int 0))) (mC (.str "rows")))) (aX (bu (eR (aa (ba (aJ eg) (aa (ab 1) (ai))) (ai))) (bw) (bR (mC (.int 1))))) (aS)) (ay (bz (ax (ar bW (ar aw (ab 0) (mC (.int 0))) (mC (.str "readers")))) (aX (bu (vE (ab 2) (ab 3)) (bw) (bR (mC (.int 1))))) (aS)) (ay (bz (ax (ar bW (ar aw (ab 0) (mC (.int 0))) (mC (.str "passes")))) (aX frP) (aS)) (ay (aF frT (ah 4)) (aX (bu (vE (ab 4) (vE (ab 3) (ab 2))) (bw) (bR (mC (.int 1))))))))))
section
variable{S:ac}{r:Rl}{es:List En}
def zJ{ms:MA}{env:bj}:BP ([cf es],S)=U (eM 0 (es.map En.d),S):=rfl
def UR{a c d e:Option D}(hl:es.length<=100):frR [a,U (cf es),c,d,e] S=U (nl (Ad (λe=>!e.wr) es),S):=by
 have k:=zk (S:=S) (t:=ax (ar bW (ar aw (ab 1) (mC (.int 1))) (mC (.str "read")))) (cap:=[Y,Y]) (env:=[a,U (cf es),c,d,e]) (enc:=En.d) (p:=λe=>!e.wr) (xs:=es) rfl (by omega) (λi x _=>by simp [En.ix1,-beq_iff_eq,sU])
 rw [Lk (p:=λe=>!e.wr)] at k
 simp only [frR,bZ,nS,aq,ak,bG,bP,bO,oj,ob,aj,am,aA,al,zJ (ms:=ai) (env:=[]),k]
def UP{a c d e:Option D}(hl:es.length<=100):frW [a,U (cf es),c,d,e] S=U (nl (Ad (λe=>e.wr) es),S):=by
 have k:=zk (S:=S) (t:=ax (ar bW (ar aw (ab 1) (mC (.int 1))) (mC (.str "write")))) (cap:=[Y,Y]) (env:=[a,U (cf es),c,d,e]) (enc:=En.d) (p:=λe=>e.wr) (xs:=es) rfl (by omega) (λi x _=>by simp [En.ix1,-beq_iff_eq,po])
 rw [Lk] at k
 simp only [frW,bZ,nS,aq,ak,bG,bP,bO,oj,ob,aj,am,aA,al,zJ (ms:=ai) (env:=[]),k]
def UQ{c d e:Option D}(hl:es.length<=100):frT [U r.d,U (cf es),c,d,e] S=U (nl (Ad (λe=>decide (r.w=.turns)&&decide (e.m=1)) es),S):=by
 have hw:(r.w.s == ("turns":Str))=decide (r.w=.turns):=Rw.eq r.w .turns
 have k:=zk (S:=S) (t:=dc (ax (ar bW (ar aw (ab 2) (mC (.int 0))) (mC (.str "turns")))) (ax (ar bW (ar aw (ab 1) (mC (.int 2))) (mC (.int 1))))) (cap:=[Y,Y,U 0]) (env:=[U r.d,U (cf es),c,d,e]) (enc:=En.d) (p:=λe=>decide (r.w=.turns)&&decide (e.m=1)) (xs:=es) rfl (by omega) (λi x _=>by
  cases h:decide (r.w=.turns) with
  | true=>simp [En.ix2,Rl.ix0,-beq_iff_eq,hw,h];rfl
  | false=>simp [En.ix2,Rl.ix0,-beq_iff_eq,hw,h])
 rw [Lk (p:=λe=>decide (r.w=.turns)&&decide (e.m=1))] at k
 simp only [frT,bZ,nS,aq,ak,bG,bP,bO,oj,ob,aj,am,aA,al,zJ (ms:=ai) (env:=[]),k]
def Qh{i:Nat}{b:Option D}(hl:es.length<=60):Mo [U (.int (i:Int)),b,U (cf es)] S=U (.lst (((es.take i).map λe=>e.m+1).map .int),S):=by
 have k:=eW (S:=S) (t:=bY) (e:=ar aR (ar aw (ab 0) (mC (.int 2))) (mC (.int 1))) (cap:=[Y]) (env:=[U (.int (i:Int)),b,U (cf es)]) (rest:=[]) (a:=Y) (enc:=En.d) (p:=λ_=>true) (f:=λe=>.int (e.m+1)) (xs:=es.take i) rfl (by simp;omega) (λx _=>kh) (λx _ _=>by simp [En.ix2])
 have e:iP (cf es) Y (U (i:Int),S)=U (.tup ((es.take i).map En.d),S):=by
  rw [show cf es=.tup (es.map En.d) from rfl,kI,js,Yj]
 rw [XD.mpr (λ_ _=>rfl)] at k
 simp only [Mo,bZ,du,cH,ak,bG,bP,bO,oj,ob,aj,eZ,cL,eY,dj,dm,e,LW,k,Xn]
 rfl
def US{c d e:Option D}(hl:es.length<=60):frP [U r.d,U (cf es),c,d,e] S=U (nl ((List.range es.length).filter λi=>decide (kA (0::(es.take i).map λe=>e.m+1)<=r.b)),S):=by
 have k:=eW (S:=S) (t:=(ax (ar Qr (ba (aJ oK) (aa (ar aR (eQ (aa (mC (.int 0)) (ai))) Mo) (ai))) (ar aw (ab 1) (mC (.int 2)))))) (e:=ab 0) (cap:=[Y,U 0,U 1]) (env:=[U r.d,U (cf es),c,d,e]) (rest:=[U r.d,U (cf es)]) (a:=Y) (enc:=ni) (p:=λi=>decide (kA (0::(es.take i).map λe=>e.m+1)<=r.b)) (f:=ni) (xs:=List.range es.length) rfl (by simp;omega) (λi _=>by
  have h0:Mo [U (ni i),U r.d,U (cf es)] S=U (.lst (((es.take i).map λe=>e.m+1).map .int),S):=Qh hl
  have h1:oq ([.int 0],S)=U (.lst [.int 0],S):=eK (by simp)
  have h2:aR S (.lst [.int 0]) (.lst (((es.take i).map λe=>e.m+1).map .int))=U (.lst ((0::(es.take i).map λe=>e.m+1).map .int)):=EF (by simp;omega)
  have h3:aJ oK [.lst ((0::(es.take i).map λe=>e.m+1).map .int)] S=U (.int (kA (0::(es.take i).map λe=>e.m+1)),S):=Qp (by simp;omega) (by simp)
  simp only [aG,aE,bT,aq,jv,bf,ob,am,aA,al,h1,av,h0,au,h2,aj,bU,h3,ak,bG,bP,bO,oj,Rl.ix2,fLe_i,aD]) (λi _ _=>by simp)
 have e1:RR ([.int (es.length:Nat)],S)=U ((List.range es.length).map ni,S):=by
  rw [qV (by omega) (by omega)]
  have:=ul es.length
  simp only [nl,D.lst.injEq] at this
  rw [Xr,this]
 simp only [frP,bZ,jk,aq,bT,ak,bG,bP,bO,oj,ob,aj,am,aA,al,bU,Nh,e1,k]
 rfl
def EB{N:List Str}(hN:N.length=5)(hl:es.length<=60):aP N qU 2 [r.d,cf es] S=U (nl (Ce r es),S):=by
 have hst:aB N [r.d,cf es]=[U r.d,U (cf es),Y,Y,Y]:=by simp [aB,hN,List.replicate]
 rw [bd (show [r.d,cf es].length=2 from rfl),hst]
 have a:(es.length:Nat)<=100:=by omega
 have w1:(r.w.s == ("rows":Str))=decide (r.w=.rows):=Rw.eq r.w .rows
 have w2:(r.w.s == ("readers":Str))=decide (r.w=.readers):=Rw.eq r.w .readers
 have w3:(r.w.s == ("passes":Str))=decide (r.w=.passes):=Rw.eq r.w .passes
 have lr:Ep ([.int (es.length:Nat)],S)=U (nl (List.range es.length),S):=by rw [Im (by omega) (by omega),Xr,ul]
 have s1:∀ l:List Nat,iP (nl l) Y (U 1,S)=U (nl (l.take 1),S):=λl=>Uu (n:=1)
 have o1:∀ (b:ME) env (l:List Nat),RT b env (nl l,S)=if l=[] then b env S else U (nl l,S):=λb env l=>UA
 simp only [qU,aT,bn,UR a,UP a,ob,bo,aU,eN,eV,bL,aH,bi,aG,aE,ak,bG,bP,bO,oj,aj,bf,av,Rl.ix0,au,cD,aD,w1,w2,w3]
 unfold Ce
 cases hw:r.w <;> rw [hw] at w1 w2 w3 <;> simp [cH,LB,Nh,lr,s1,o1,US hl,UQ a,hw,Pe,Rl.ix0,w1,w2,w3,-beq_iff_eq]
 ·split <;> simp [s1]
 ·rw [Ir,WI rfl];split <;> simp [s1]
 ·split
  ·split <;> simp [s1]
  ·simp [s1]
end
structure ROk(R:Rm):Prop where
 out:∀ e∈R.2,R.1[e.g]?=U .out
 nd:(R.2.map (·.g)).Nodup
theorem DH:∀ (n:Nat) (l:List Nat),l.Nodup->(∀ x∈l,x<n)->l.length<=n
 | 0,l,_,h=>by cases l with | nil=>exact WD _ | cons x _=>exact absurd (h x (by simp)) (by omega)
 | n+1,l,hn,h=>by
  by_cases hm:n∈l
  ·have:=DH n (l.erase n) (hn.erase n) λx hx=>by
    have h1:=h x (List.mem_of_mem_erase hx)
    have h2:x≠n:=λz=>by rw [z] at hx;exact(List.Nodup.not_mem_erase hn) hx
    omega
   rw [List.length_erase_of_mem hm] at this
   omega
  ·have:=DH n l hn λx hx=>by
    have h1:=h x hx
    have h2:x≠n:=λz=>hm (z ▸ hx)
    omega
   omega
def ROk.lt{R:Rm}(h:ROk R){e:En}(he:e∈R.2):e.g<R.1.length:=(Wo.mp (h.out e he)).1
def ROk.len{R:Rm}(h:ROk R):R.2.length<=R.1.length:=by
 have:=DH R.1.length (R.2.map (·.g)) h.nd λx hx=>by obtain⟨e,he,rfl⟩:=WP.mp hx;exact h.lt he
 rwa [Ww] at this
structure Ev where
 w:Str
 g:Nat
def Ev.d(e:Ev):D:=.tup [.str e.w,.int (e.g:Nat)]
def nG(ws:List Wd):List Nat:=(List.range ws.length).filter λg=>decide (ws[g]?=U .rising)&&decide (ws.count .out+1=ws.length)
def mn(r:Rl)(ws:List Wd)(es:List En):List Nat:=(Ce r es).filter λi=>match es[i]? with | some e=>qT r ws e.wr | none=>false
def qy(r:Rl)(e:En):En:={ e with m:=e.m+(if r.w=.passes then 1 else 0) }
def sO(r:Rl)(R:Rm)(i:Nat)(e:En):Rm:=(R.1.set e.g (if e.wr then .writes else .reads),(R.2.take i).map (qy r)++R.2.drop (i+1))
def jU(r:Rl)(R:Rm):Rm×List Ev:=match nG R.1 with
 | g::_=>((R.1.set g .raised,R.2),[⟨"steps",g⟩])
 | []=>match mn r R.1 R.2 with
  | i::_=>match R.2[i]? with
   | some e=>(sO r R i e,[⟨"in",e.g⟩])
   | none=>(R,[])
  | []=>(R,[])
def rG(r:Rl):Nat->Rm->Rm×List Ev
 | 0,R=>(R,[])
 | n+1,R=>let a:=jU r R;let b:=rG r n a.1;(b.1,a.2++b.2)
def DU(r:Rl)(es:List En):(es.map (qy r)).map (·.g)=es.map (·.g):=by rw [Xn];rfl
def Qf{r:Rl}{R:Rm}{i:Nat}{e:En}(h:ROk R)(hi:R.2[i]?=U e):ROk (sO r R i e):=by
 obtain⟨ws,es⟩:=R
 have hs:es=es.take i++e::es.drop (i+1):=by
  obtain⟨hl,he⟩:=Wo.mp hi
  rw [<- he,List.getElem_cons_drop,Yw]
 have hnd:((es.take i).map (·.g)++e.g::(es.drop (i+1)).map (·.g)).Nodup:=by
  have:=h.nd
  dsimp only at this
  rw [hs] at this
  simpa using this
 rw [Yi,XU] at hnd
 obtain⟨n1,⟨n2,n3⟩,n4⟩:=hnd
 refine⟨λx hx=>?_,?_⟩
 ·show (ws.set e.g _)[x.g]?=_
  have key:∃ y∈es,y.g=x.g/\x.g≠e.g:=by
   rcases WK.mp hx with hx | hx
   ·obtain⟨y,hy,rfl⟩:=WP.mp hx
    refine⟨y,Xs hy,rfl,λz=>?_⟩
    exact n4 _ (WP.mpr ⟨y,hy,rfl⟩) _ Wr z
   ·refine⟨x,Zg hx,rfl,λz=>n2 ?_⟩
    rw [<- z];exact WP.mpr ⟨x,hx,rfl⟩
  obtain⟨y,hy,e1,ne⟩:=key
  rw [WO (Ne.symm ne),<- e1]
  exact h.out y hy
 ·show (((es.take i).map (qy r)++es.drop (i+1)).map (·.g)).Nodup
  rw [Xt,DU,Yi]
  exact⟨n1,n3,λa ha b hb=>n4 a ha b (Wu _ hb)⟩
def mj{ws:List Wd}{g:Nat}(h:g∈nG ws):ws[g]?=U .rising:=by
 have:=(Xm.mp h).2
 rw [Wq] at this
 exact Xq this.1
def qF{r:Rl}{R:Rm}(h:ROk R):ROk (jU r R).1/\(jU r R).1.1.length=R.1.length:=by
 unfold jU
 split
 ·rename_i g l hg
  have hr:R.1[g]?=U .rising:=mj (by rw [hg];exact Wr)
  refine⟨⟨λe he=>?_,h.nd⟩,by simp⟩
  show (R.1.set g .raised)[e.g]?=_
  have h1:=h.out e he
  rw [WO (λz=>by rw [z,h1] at hr;cases hr)]
  exact h1
 ·split
  ·split
   ·rename_i e he
    exact⟨Qf h he,by simp [sO]⟩
   ·exact⟨h,rfl⟩
  ·exact⟨h,rfl⟩
theorem Kq{r:Rl}:∀ (n:Nat) {R:Rm},ROk R->ROk (rG r n R).1/\(rG r n R).1.1.length=R.1.length
 | 0,R,h=>⟨h,rfl⟩
 | n+1,R,h=>by
  obtain⟨h1,h2⟩:=qF (r:=r) h
  obtain⟨h3,h4⟩:=Kq n h1
  exact⟨h3,h4.trans h2⟩
def sW:ME:=bI (cB (aa (ba (aJ eg) (aa (ab 2) (ai))) (ai))) (ah 0) (dc (ax (ar bW (ar aw (ab 1) (ab 0)) (mC (.str "rising")))) (ax (ar bW (jV (ab 1) (aa (mC (.str "out")) (ai))) (ar oz (ba (aJ eg) (aa (ab 1) (ai))) (mC (.int 1)))))) (ab 0) [Y,U 2]
def ye(fronts lets:PF):ME:=bI (db (ao 2 fronts (aa (ab 0) (aa (ab 3) (ai))))) (ah 0) (cQ (ao 3 lets (aa (ab 1) (aa (ab 3) (aa (ar aw (ar aw (ab 2) (ab 0)) (mC (.int 1))) (ai)))))) (ab 0) [Y,U 0,U 3,U 2]
def yf:ME:=bI (db (bu (ab 3) (bw) (bR (ar aw (ab 7) (mC (.int 0)))))) (ah 0) (bY) (ar aR (ar aR (bu (ab 0) (bw) (bR (mC (.int 2)))) (aO (aa (ar aR (ar aw (ab 0) (mC (.int 2))) (ba (aJ lv) (aa (ar bW (ar aw (ab 1) (mC (.int 0))) (mC (.str "passes"))) (ai)))) (ai)))) (bu (ab 0) (bR (mC (.int 3))) (bw))) [Y,U 0]
def De(put:PF):MS:=ay (aF (ao 3 put (aa (ab 2) (aa (ar aw (ab 6) (mC (.int 0))) (aa (mC (.str "raised")) (ai))))) (ah 2)) (cV (da ce (ab 4) (aa (aO (aa (mC (.str "steps")) (aa (ar aw (ab 6) (mC (.int 0))) (ai)))) (ai))))
def SU(put:PF):MS:=ay (aF (ar aw (ab 3) (ar aw (ab 7) (mC (.int 0)))) (aK 4 (af (ah 8) (af (ah 9) (af (ah 10) (af (ah 11) (aC))))))) (ay (aF (ao 3 put (aa (ab 2) (aa (ab 8) (aa (ar aw (eQ (aa (mC (.str "reads")) (aa (mC (.str "writes")) (ai)))) (ba (aJ lv) (aa (ar bW (ab 9) (mC (.str "write"))) (ai)))) (ai))))) (ah 2)) (ay (aF yf (ah 12)) (ay (aF (ar aR (ba (aJ (cr .tup)) (aa (ab 12) (ai))) (bu (ab 3) (bR (ar aR (ar aw (ab 7) (mC (.int 0))) (mC (.int 1)))) (bw))) (ah 3)) (cV (da ce (ab 4) (aa (aO (aa (mC (.str "in")) (aa (ab 8) (ai)))) (ai)))))))
def qG(fronts lets put:PF):MS:=ay (aF sW (ah 6)) (ay (aF (ye fronts lets) (ah 7)) (bz (ax (ar gv (ab 6) (eQ (ai)))) (De put) (bz (ax (ar gv (ab 7) (eQ (ai)))) (SU put) (aS))))
def oY(fronts lets put:PF):MS:=
 ay (aF (ab 1) (aK 2 (af (ah 2) (af (ah 3) (aC))))) (ay (aF (dI (ai)) (ah 4)) (ay (iZ (cB (aa (ar cz (mC (.int 2)) (ba (aJ eg) (aa (ab 2) (ai)))) (ai))) (ah 5) (qG fronts lets put)) (aX (aO (aa (aO (aa (ab 2) (aa (ab 3) (ai)))) (aa (ab 4) (ai)))))))
structure Jz(fronts lets put:PF):Prop where
 f:∀ (S:ac) (r:Rl) (es:List En),es.length<=60->fronts [r.d,cf es] S=U (nl (Ce r es),S)
 l:∀ (S:ac) (r:Rl) (ws:List Wd) (wr:Bool),lets [r.d,cx ws,.str (be wr)] S=U (.bl (qT r ws wr),S)
 p:∀ (S:ac) (ws:List Wd) (i:Nat) (w:Wd),i<ws.length->ws.length<=100->put [cx ws,.int (i:Int),w.d] S=U (cx (ws.set i w),S)
section
variable{S:ac}{ws:List Wd}{es:List En}{r:Rl}
def KA{S:ac}{n:Nat}(h:n<=1000):RR ([.int (n:Int)],S)=U ((List.range n).map ni,S):=by
 rw [qV (by omega) (by omega)]
 have:=ul n
 simp only [nl,D.lst.injEq] at this
 rw [Xr,this]
def tj{S:ac}{i:Nat}{l:List Nat}:aw S (nl (i::l)) (.int 0)=U (.int (i:Int)):=by
 show mE ((i::l).map ni) ((0:Nat):Int)=_
 exact NZ rfl
def Dg{a0 a1 a3 a4 a5 a6 a7 a8 a9 b0 b1 b2:Option D}(hl:ws.length<=60):sW [a0,a1,U (cx ws),a3,a4,a5,a6,a7,a8,a9,b0,b1,b2] S=U (nl (nG ws),S):=by
 have k:=eW (S:=S) (t:=dc (ax (ar bW (ar aw (ab 1) (ab 0)) (mC (.str "rising")))) (ax (ar bW (jV (ab 1) (aa (mC (.str "out")) (ai))) (ar oz (ba (aJ eg) (aa (ab 1) (ai))) (mC (.int 1)))))) (e:=ab 0) (cap:=[Y,U 2]) (env:=[a0,a1,U (cx ws),a3,a4,a5,a6,a7,a8,a9,b0,b1,b2]) (rest:=[U (cx ws)]) (a:=Y) (enc:=ni) (p:=λg=>decide (ws[g]?=U .rising)&&decide (ws.count .out+1=ws.length)) (f:=ni) (xs:=List.range ws.length) rfl (by simp;omega) (λg hg=>by
  have hg:=Zi.mp hg
  have e1:ws[g]?=U ws[g]:=Wv hg
  have e2:aw S (cx ws) (ni g)=U (ws[g]).d:=rE e1
  have e3:bW S (ws[g]).d (.str "rising")=U (.bl (decide (ws[g]=.rising))):=by
   show bW S (.str (ws[g]).s) (.str "rising")=_
   rw [cD];exact congrArg (λb=>U (D.bl b)) (Wd.eq ws[g] .rising)
  have e4:∀ S,fX (cx ws) [.str "out"] S=U (.int (ws.count .out:Nat),S):=λS=>xV .out
  have e5:(((ws.count Wd.out:Nat):Int) == (ws.length:Nat) - 1)=decide (ws.count .out+1=ws.length):=by rw [Xc];simp;omega
  simp only [nT,aG,aE,ak,bG,bP,bO,oj,ob,aj,av,e2,au,bf,e3,aD,e1,XC]
  cases hd:decide (ws[g]=.rising) with
  | true=>simp only [nV,LH,ak,bP,bG,bO,oj,ob,aj,pk,aq,bf,am,aA,al,dJ,e4,av,aE,bT,bU,xU,au,zD,kL,aD,e5,aG,YS]
  | false=>simp only [zw,Ym]) (λg _ _=>by simp)
 simp only [sW,bZ,jk,aq,bT,ak,bG,bP,bO,oj,ob,aj,am,aA,al,bU,xU,KA (show ws.length<=1000 by omega),k]
 rfl
def Hi{fronts lets put:PF}(O:Jz fronts lets put){a1 a4 a5 a6 a7 a8 a9 b0 b1 b2:Option D}(hl:es.length<=60):ye fronts lets [U r.d,a1,U (cx ws),U (cf es),a4,a5,a6,a7,a8,a9,b0,b1,b2] S=U (nl (mn r ws es),S):=by
 have hlen:(Ce r es).length<=1000:=by
  have h1:(Ce r es).length<=60\/(Ce r es).length<=es.length:=by
   unfold Ce;split
   ·left;simp;omega
   ·left;simp;omega
   ·right;exact WT (XG _ _) (by simp)
   ·left;simp;omega
   ·left;simp;omega
  omega
 have k:=eW (S:=S) (t:=cQ (ao 3 lets (aa (ab 1) (aa (ab 3) (aa (ar aw (ar aw (ab 2) (ab 0)) (mC (.int 1))) (ai)))))) (e:=ab 0) (cap:=[Y,U 0,U 3,U 2]) (env:=[U r.d,a1,U (cx ws),U (cf es),a4,a5,a6,a7,a8,a9,b0,b1,b2]) (rest:=[U r.d,U (cf es),U (cx ws)]) (a:=Y) (enc:=ni) (p:=λi=>match es[i]? with | some e=>qT r ws e.wr | none=>false) (f:=ni) (xs:=Ce r es) rfl hlen (λi hi=>by
  have e1:es[i]?=U (es[i]'(qZ hi)):=Wv (qZ hi)
  have e2:aw S (cf es) (ni i)=U (es[i]'(qZ hi)).d:=Ni e1
  simp only [dP,aM,aq,ak,bG,bP,bO,oj,ob,aj,am,aE,av,e2,au,bf,En.ix1,aA,al,bM,O.l,eX,e1]) (λg _ _=>by simp)
 simp only [ye,bZ,du,aM,aq,ak,bG,bP,bO,oj,ob,aj,am,aA,al,bh,O.f S r es hl,PQ,k]
 rfl
def VU{e:En}{b:Option D}:(ar aR (ar aR (bu (ab 0) (bw) (bR (mC (.int 2)))) (aO (aa (ar aR (ar aw (ab 0) (mC (.int 2))) (ba (aJ lv) (aa (ar bW (ar aw (ab 1) (mC (.int 0))) (mC (.str "passes"))) (ai)))) (ai)))) (bu (ab 0) (bR (mC (.int 3))) (bw))) [U e.d,U r.d] S=U ((qy r e).d,S):=by
 have w3:(r.w.s == ("passes":Str))=decide (r.w=.passes):=Rw.eq r.w .passes
 have c1:iP e.d Y (U 2,S)=U (.tup [.int (e.g:Nat),.str (be e.wr)],S):=rfl
 have c2:iP e.d (U 3) (Y,S)=U (.tup [bJ e.t],S):=rfl
 have k1:∀ x,cy ([x],S)=U (.tup [x],S):=λx=>aY (by simp)
 have a1:∀ x y z,aR S (.tup [x,y]) (.tup [z])=U (.tup [x,y,z]):=λx y z=>gO (by simp)
 have a2:∀ x y z w,aR S (.tup [x,y,z]) (.tup [w])=U (.tup [x,y,z,w]):=λx y z w=>gO (by simp)
 simp only [aE,cH,ak,bG,bP,bO,oj,ob,aj,eZ,cL,eY,dj,bf,dm,c1,av,bg,aq,am,bT,En.ix2,Rl.ix0,au,cD,w3,aA,al,bU,qq,kM,k1,a1,c2,a2]
 unfold qy En.d
 by_cases h:r.w=.passes <;> simp [h]
def Dh{i:Nat}{l:List Nat}{a1 a2 a4 a5 a6 a8 a9 b0 b1 b2:Option D}(hl:es.length<=60):yf [U r.d,a1,a2,U (cf es),a4,a5,a6,U (nl (i::l)),a8,a9,b0,b1,b2] S=U (.lst (((es.take i).map (qy r)).map En.d),S):=by
 have k:=eW (S:=S) (t:=bY) (e:=ar aR (ar aR (bu (ab 0) (bw) (bR (mC (.int 2)))) (aO (aa (ar aR (ar aw (ab 0) (mC (.int 2))) (ba (aJ lv) (aa (ar bW (ar aw (ab 1) (mC (.int 0))) (mC (.str "passes"))) (ai)))) (ai)))) (bu (ab 0) (bR (mC (.int 3))) (bw))) (cap:=[Y,U 0]) (env:=[U r.d,a1,a2,U (cf es),a4,a5,a6,U (nl (i::l)),a8,a9,b0,b1,b2]) (rest:=[U r.d]) (a:=Y) (enc:=En.d) (p:=λ_=>true) (f:=λe=>(qy r e).d) (xs:=es.take i) rfl (by simp;omega) (λx _=>kh) (λx _ _=>VU (b:=Y))
 rw [XD.mpr (λ_ _=>rfl)] at k
 have e:iP (cf es) Y (U (i:Int),S)=U (.tup ((es.take i).map En.d),S):=by
  rw [show cf es=.tup (es.map En.d) from rfl,kI,js,Yj]
 have e0:aw S (nl (i::l)) (.int 0)=U (.int (i:Int)):=tj
 simp only [yf,bZ,du,cH,aE,ak,bG,bP,bO,oj,ob,aj,eZ,cL,eY,dj,av,bf,au,e0,dm,e,LW,k,Xn]
 rfl
def ED{l:List Nat}:gv S (nl l) (.lst [])=U (.bl (!decide (l=[]))):=by
 have ok:cP 40 (nl l)=true:=by
  show (l.map ni).all (cP 39)=true
  rw [WJ];intro d hd;obtain⟨i,_,rfl⟩:=WP.mp hd;rfl
 rw [rh ok rfl]
 cases l with
 | nil=>rfl
 | cons _ _=>rfl
def EH{evs:List Ev}{v:Ev}(h:evs.length<500):ce (.ref S.length) [v.d] (S++[.lst (evs.map Ev.d)])=U (.non,S++[.lst ((evs++[v]).map Ev.d)]):=by
 rw [lx ir (by rw [Ww];omega),GM];simp
def zG{evs:List Ev}{f:MF}{ms:MA}{env:bj}:rQ f ms env (.ref S.length,S++[.lst (evs.map Ev.d)])=(ms env (S++[.lst (evs.map Ev.d)])).bind (eI f (.ref S.length)):=pZ ir
def Hh{fronts lets put:PF}(O:Jz fronts lets put){g:Nat}{l:List Nat}{evs:List Ev}{a0 a1 a3 a5 a7 a8 a9 b0 b1 b2:Option D}(hg:g<ws.length)(hl:ws.length<=60)(he:evs.length<500) :
  De put [a0,a1,U (cx ws),a3,U (.ref S.length),a5,U (nl (g::l)),a7,a8,a9,b0,b1,b2] (S++[.lst (evs.map Ev.d)])=U (.nx [a0,a1,U (cx (ws.set g .raised)),a3,U (.ref S.length),a5,U (nl (g::l)),a7,a8,a9,b0,b1,b2] (S++[.lst ((evs++[Ev.mk "steps" g]).map Ev.d)])):=by
 have p1:∀ S,put [cx ws,.int (g:Int),.str "raised"] S=U (cx (ws.set g .raised),S):=λS=>O.p S ws g .raised hg (by omega)
 have k2:∀ S (x y:D),cy ([x,y],S)=U (.tup [x,y],S):=λS x y=>aY (by simp)
 have ap:ce (.ref S.length) [.tup [.str "steps",.int (g:Int)]] (S++[.lst (evs.map Ev.d)])=U (.non,S++[.lst ((evs++[Ev.mk "steps" g]).map Ev.d)]):=EH (v:=⟨"steps",g⟩) he
 simp only [De,aT,bn,aM,aq,ak,bG,bP,bO,oj,ob,aj,am,aE,bf,av,au,tj,aA,al,bM,p1,bo,aU,eN,eV,bL,aH,io,im,zG,bg,k2,dJ,ap,ip]
def Ox{fronts lets put:PF}(O:Jz fronts lets put){i:Nat}{l:List Nat}{e:En}{evs:List Ev}{a1 a5 a6 a8 a9 b0 b1 b2:Option D}(hi:es[i]?=U e)(hg:e.g<ws.length)(hl:ws.length<=60)(hl2:es.length<=60)(he:evs.length<500) :
  ∃ c8 c9 d0 d1 d2,SU put [U r.d,a1,U (cx ws),U (cf es),U (.ref S.length),a5,a6,U (nl (i::l)),a8,a9,b0,b1,b2] (S++[.lst (evs.map Ev.d)])=U (.nx [U r.d,a1,U (cx (sO r (ws,es) i e).1),U (cf (sO r (ws,es) i e).2),U (.ref S.length),a5,a6,U (nl (i::l)),c8,c9,d0,d1,d2] (S++[.lst ((evs++[Ev.mk "in" e.g]).map Ev.d)])):=by
 have hlt:=(Wo.mp hi).1
 have p1:∀ S,put [cx ws,.int (e.g:Int),(if e.wr then Wd.writes else Wd.reads).d] S=U (cx (ws.set e.g (if e.wr then .writes else .reads)),S):=λS=>O.p S ws e.g _ hg (by omega)
 have k2:∀ S (x y:D),cy ([x,y],S)=U (.tup [x,y],S):=λS x y=>aY (by simp)
 have l2:∀ S (x y:D),oq ([x,y],S)=U (.lst [x,y],S):=λS x y=>eK (by simp)
 have ap:ce (.ref S.length) [.tup [.str "in",.int (e.g:Int)]] (S++[.lst (evs.map Ev.d)])=U (.non,S++[.lst ((evs++[Ev.mk "in" e.g]).map Ev.d)]):=EH (v:=⟨"in",e.g⟩) he
 have x1:∀ S,aw S (cf es) (.int (i:Int))=U e.d:=λS=>Ni hi
 have wd:∀ S,aw S (.lst [.str "reads",.str "writes"]) (.int (if e.wr=true then 1 else 0))=U (if e.wr then Wd.writes else Wd.reads).d:=λS=>by cases e.wr <;> rfl
 have g4:∀ env S,aK 4 (af (ah 8) (af (ah 9) (af (ah 10) (af (ah 11) (aC))))) e.d env S=(af (ah 8) (af (ah 9) (af (ah 10) (af (ah 11) (aC))))) [.int (e.g:Nat),.str (be e.wr),.int e.m,bJ e.t] env S:=λenv S=>tD
 have cd:iQ (es.map En.d) (U ((i:Int)+1)) Y=(es.drop (i+1)).map En.d:=by
  rw [show ((i:Int)+1)=((i+1:Nat):Int) by omega,oe _ _ (by rw [Ww];omega),Zp]
 have sd:∀ S,iP (cf es) (U ((i:Int)+1)) (Y,S)=U (.tup ((es.drop (i+1)).map En.d),S):=λS=>by
  rw [show cf es=.tup (es.map En.d) from rfl,kI,cd]
 have ad:∀ S,aR S (.tup (((es.take i).map (qy r)).map En.d)) (.tup ((es.drop (i+1)).map En.d))=U (cf (sO r (ws,es) i e).2):=λS=>by
  rw [gO (by simp;omega),<- Xt];rfl
 refine⟨U (.int (e.g:Nat)),U (.str (be e.wr)),U (.int e.m),U (bJ e.t),U (.lst (((es.take i).map (qy r)).map En.d)),?_⟩
 ·simp only [SU,aT,bn,aE,ak,bG,bP,bO,oj,ob,aj,av,bf,au,tj,x1,bo,g4,bp,aU,cI,bH,eN,eV,bL,aH,aM,aq,am,jv,aA,al,l2,bT,cD,po,bU,qq,wd,bM,p1,Dh hl2,fW,cH,eZ,dj,kM,dm,eY,cL,sd,ad,io,im,zG,bg,k2,dJ,ap,ip]
  try rfl
def Hg{fronts lets put:PF}(O:Jz fronts lets put){R:Rm}(h:ROk R)(hl:R.1.length<=50){evs:List Ev}{a1 a5 a6 a7 a8 a9 b0 b1 b2:Option D}(he:evs.length<500) :
  ∃ c6 c7 c8 c9 d0 d1 d2,qG fronts lets put [U r.d,a1,U (cx R.1),U (cf R.2),U (.ref S.length),a5,a6,a7,a8,a9,b0,b1,b2] (S++[.lst (evs.map Ev.d)])=U (.nx [U r.d,a1,U (cx (jU r R).1.1),U (cf (jU r R).1.2),U (.ref S.length),a5,c6,c7,c8,c9,d0,d1,d2] (S++[.lst ((evs++(jU r R).2).map Ev.d)])):=by
 obtain⟨ws,es⟩:=R
 have hl2:es.length<=60:=by have:=h.len;simp only at this hl;omega
 have hl1:ws.length<=60:=by simp only at hl;omega
 have k0:∀ S,oq ([],S)=U (.lst [],S):=λS=>eK (by simp)
 have e1:∀ (T:ac) (a6:Option D),sW [U r.d,a1,U (cx ws),U (cf es),U (.ref S.length),a5,a6,a7,a8,a9,b0,b1,b2] T=U (nl (nG ws),T):=λT a6=>Dg hl1
 have e2:∀ (T:ac) (a6 a7:Option D),ye fronts lets [U r.d,a1,U (cx ws),U (cf es),U (.ref S.length),a5,a6,a7,a8,a9,b0,b1,b2] T=U (nl (mn r ws es),T):=λT a6 a7=>Hi O hl2
 unfold jU
 dsimp only
 cases hA:nG ws with
 | cons g l=>
  have hr:ws[g]?=U .rising:=mj (by rw [hA];exact Wr)
  have hg:g<ws.length:=(Wo.mp hr).1
  rw [hA] at e1
  have e3:=Hh O (S:=S) (ws:=ws) (g:=g) (l:=l) (evs:=evs) (a0:=U r.d) (a1:=a1) (a3:=U (cf es)) (a5:=a5) (a7:=U (nl (mn r ws es))) (a8:=a8) (a9:=a9) (b0:=b0) (b1:=b1) (b2:=b2) hg hl1 he
  refine⟨U (nl (g::l)),U (nl (mn r ws es)),a8,a9,b0,b1,b2,?_⟩
  simp only [qG,aT,bn,e1,e2,ob,bo,aU,eN,eV,bL,aH,bi,aG,aE,ak,bG,bP,bO,oj,aj,av,jv,aA,k0,au,ED,aD,reduceCtorEq,Yo,Xj,bK,e3]
 | nil=>
  rw [hA] at e1
  cases hB:mn r ws es with
  | nil=>
   rw [hB] at e2
   refine⟨U (nl []),U (nl []),a8,a9,b0,b1,b2,?_⟩
   simp only [qG,aT,bn,e1,e2,ob,bo,aU,eN,eV,bL,aH,bi,aG,aE,ak,bG,bP,bO,oj,aj,av,jv,aA,k0,au,ED,aD,Yf,Xa,bE,bv,WS]
  | cons i l=>
   rw [hB] at e2
   have hi:i∈mn r ws es:=by rw [hB];exact Wr
   have hlt:i<es.length:=qZ (Xm.mp hi).1
   have ei:es[i]?=U es[i]:=Wv hlt
   have hg:(es[i]).g<ws.length:=h.lt (R:=(ws,es)) (ZD hlt)
   obtain⟨c8,c9,d0,d1,d2,e3⟩:=Ox O (S:=S) (ws:=ws) (es:=es) (r:=r) (i:=i) (l:=l) (evs:=evs) (a1:=a1) (a5:=a5) (a6:=U (nl [])) (a8:=a8) (a9:=a9) (b0:=b0) (b1:=b1) (b2:=b2) ei hg hl1 hl2 he
   dsimp only
   rw [ei]
   refine⟨U (nl []),U (nl (i::l)),c8,c9,d0,d1,d2,?_⟩
   simp only [qG,aT,bn,e1,e2,ob,bo,aU,eN,eV,bL,aH,bi,aG,aE,ak,bG,bP,bO,oj,aj,av,jv,aA,k0,au,ED,aD,Yf,Xa,bE,reduceCtorEq,Yo,Xj,bK,e3]
def FA{R:Rm}:(jU r R).2.length<=1:=by
 unfold jU
 split
 ·simp
 ·split
  ·split <;> simp
  ·simp
def Aq{fronts lets put:PF}(O:Jz fronts lets put){N:List Str}(hN:N.length=13){R:Rm}(h:ROk R)(hl:R.1.length<=50) :
  aP N (oY fronts lets put) 2 [r.d,aQ R] S=U (.tup [aQ (rG r (2 * R.1.length) R).1,.ref S.length],S++[.lst ((rG r (2 * R.1.length) R).2.map Ev.d)]):=by
 have hst:aB N [r.d,aQ R]=[U r.d,U (aQ R),Y,Y,Y,Y,Y,Y,Y,Y,Y,Y,Y]:=by simp [aB,hN,List.replicate]
 rw [bd (show [r.d,aQ R].length=2 from rfl),hst]
 obtain⟨env',S',e,R',evs',c5,c6,c7,c8,c9,d0,d1,d2,o1,o2,o3,o4,rfl,rfl⟩:=forR (tg:=ah 5) (p:=qG fronts lets put) (lo:=0) (λi env T=>∃ (R':Rm) (evs':List Ev) (c5 c6 c7 c8 c9 d0 d1 d2:Option D),ROk R'/\R'.1.length=R.1.length/\evs'.length<=i/\(i<=2 * R.1.length->rG r (2 * R.1.length) R=((rG r (2 * R.1.length - i) R').1,evs'++(rG r (2 * R.1.length - i) R').2)) /\
   env=[U r.d,U (aQ R),U (cx R'.1),U (cf R'.2),U (.ref S.length),c5,c6,c7,c8,c9,d0,d1,d2]/\T=S++[.lst (evs'.map Ev.d)]) (2 * R.1.length) (λi hi env T hI=>by
  obtain⟨R',evs',c5,c6,c7,c8,c9,d0,d1,d2,o1,o2,o3,o4,rfl,rfl⟩:=hI
  obtain⟨f6,f7,f8,f9,g0,g1,g2,e⟩:=Hg O (r:=r) (S:=S) (R:=R') o1 (by omega) (evs:=evs') (a1:=U (aQ R)) (a5:=U (.int (0+(i:Int)))) (a6:=c6) (a7:=c7) (a8:=c8) (a9:=c9) (b0:=d0) (b1:=d1) (b2:=d2) (by omega)
  obtain⟨q1,q2⟩:=qF (r:=r) o1
  have fw:=FA (r:=r) (R:=R')
  refine⟨_,_,_,_,aU,e,(jU r R').1,evs'++(jU r R').2,_,f6,f7,f8,f9,g0,g1,g2,q1,q2.trans o2,by rw [WB];omega,λhn=>?_,rfl,rfl⟩
  rw [o4 (by omega),show 2 * R.1.length - i=(2 * R.1.length - (i+1))+1 by omega]
  simp only [rG,WR]) [U r.d,U (aQ R),U (cx R.1),U (cf R.2),U (.ref S.length),Y,Y,Y,Y,Y,Y,Y,Y] (S++[.lst []]) ⟨R,[],Y,Y,Y,Y,Y,Y,Y,Y,h,rfl,WD _,λ_=>by simp,rfl,rfl⟩
 have o5:=o4 (WD _)
 rw [Zy] at o5
 simp only [rG,WS] at o5
 have k0:qa ([],S)=U (.ref S.length,S++[.lst []]):=jx (by simp)
 have k2:∀ S (x y:D),cy ([x,y],S)=U (.tup [x,y],S):=λS x y=>aY (by simp)
 have mu:∀ S,cz S (.int 2) (.int (R.1.length:Nat))=U (.int (2 * (R.1.length:Nat))):=λS=>jF (qO (by decide) (by decide))
 have kr:∀ S,RR ([.int (2 * (R.1.length:Nat))],S)=U (cJ 0 (2 * R.1.length),S):=λS=>by
  rw [qV (by omega) (by omega)];congr 3
 have g2:∀ env S,aK 2 (af (ah 2) (af (ah 3) (aC))) (aQ R) env S=(af (ah 2) (af (ah 3) (aC))) [cx R.1,cf R.2] env S:=λenv S=>bS
 rw [o5]
 simp only [oY,aT,bn,ak,bG,bP,bO,oj,ob,aj,bo,g2,bp,aU,cI,bH,eN,eV,bL,aH,nQ,aA,k0,uF,jk,aq,aE,bf,av,bT,am,al,bU,xU,au,mu,kr,uM,e,aZ,bg,k2,bx,aI]
 rfl
end
inductive Ak where | up | down | leave | stop
deriving DecidableEq
def Ak.s:Ak->Str
 | .up=>"up"
 | .down=>"down"
 | .leave=>"leave"
 | .stop=>"stop"
inductive Dd where
 | ask (wr:Bool) (g:Nat) (t:Option Int)
 | act (k:Ak) (g:Nat)
 | tick
def Dd.d:Dd->D
 | .ask wr g t=>.tup [.str (be wr),.int (g:Int),bJ t]
 | .act k g=>.tup [.str k.s,.int (g:Int)]
 | .tick=>.tup [.str "tick"]
def Aa(t:Option Int):Prop:=∀ k,t=U k->0<=k/\k<=9
def Dd.Ok(n:Nat):Dd->Prop
 | .ask _ g t=>g<n/\Aa t
 | .act _ g=>g<n
 | .tick=>True
def pX(pick:PF):MS:=
 ay (aF (ao 2 pick (aa (ab 0) (aa (ab 1) (ai)))) (ah 2)) (ay (aF (ao 2 pick (aa (ab 0) (aa (mC (.int 12)) (ai)))) (ah 3)) (ay (bz (ax (ar Qq (ab 3) (mC (.int 6)))) (aX (aO (aa (ar aw (eQ (aa (mC (.str "read")) (aa (mC (.str "write")) (ai)))) (ar lW (ab 3) (mC (.int 2)))) (aa (ab 2) (aa (ar aw (eQ (aa (mC .non) (aa (mC .non) (aa (mC .non) (aa (mC (.int 0)) (aa (mC (.int 1)) (aa (mC (.int 9)) (ai)))))))) (ao 2 pick (aa (ab 0) (aa (mC (.int 6)) (ai))))) (ai)))))) (aS)) (ay (bz (ax (ar bW (ab 3) (mC (.int 11)))) (aX (aO (aa (mC (.str "tick")) (ai)))) (aS)) (aX (aO (aa (ar aw (eQ (aa (mC (.str "up")) (aa (mC (.str "down")) (aa (mC (.str "leave")) (aa (mC (.str "leave")) (aa (mC (.str "stop")) (ai))))))) (ar oz (ab 3) (mC (.int 6)))) (aa (ab 2) (ai))))))))
def Rt{q:Int}(h0:0<=q)(h1:q<6):∃ t:Option Int,mE [D.non,D.non,D.non,D.int 0,D.int 1,D.int 9] q=U (bJ t)/\Aa t:=by
 have n:Aa Y:=λk h=>by cases h
 have s:∀ j:Int,0<=j->j<=9->Aa (U j):=λj a b k h=>by cases h;exact⟨a,b⟩
 obtain rfl | rfl | rfl | rfl | rfl | rfl:q=0\/q=1\/q=2\/q=3\/q=4\/q=5:=by omega
 ·exact⟨Y,rfl,n⟩
 ·exact⟨Y,rfl,n⟩
 ·exact⟨Y,rfl,n⟩
 ·exact⟨U 0,rfl,s 0 (by decide) (by decide)⟩
 ·exact⟨U 1,rfl,s 1 (by decide) (by decide)⟩
 ·exact⟨U 9,rfl,s 9 (by decide) (by decide)⟩
def VZ{q:Int}(h0:6<=q)(h1:q<11):∃ k:Ak,mE [D.str "up",D.str "down",D.str "leave",D.str "leave",D.str "stop"] (q - 6)=U (.str k.s):=by
 obtain rfl | rfl | rfl | rfl | rfl:q=6\/q=7\/q=8\/q=9\/q=10:=by omega
 ·exact⟨.up,rfl⟩
 ·exact⟨.down,rfl⟩
 ·exact⟨.leave,rfl⟩
 ·exact⟨.leave,rfl⟩
 ·exact⟨.stop,rfl⟩
def at_wr{q:Int}:∃ wr:Bool,mE [D.str "read",D.str "write"] (q % 2)=U (.str (be wr)):=by
 obtain h | h:q % 2=0\/q % 2=1:=by omega
 ·exact⟨false,by rw [h];rfl⟩
 ·exact⟨true,by rw [h];rfl⟩
def NE{pick:PF}(hp:Fo pick){S:ac}{r n:Nat}{N:List Str}(hN:N.length=4)(P:Pk S r)(h1:1<=n)(h9:n<=9):∃ (dd:Dd) (S':ac),aP N (pX pick) 2 [.ref r,.int (n:Int)] S=U (dd.d,S')/\dd.Ok n/\Pk S' r/\Keep r S S':=by
 have hst:aB N [D.ref r,.int (n:Int)]=[U (.ref r),U (.int (n:Int)),Y,Y]:=by simp [aB,hN,List.replicate]
 rw [bd (show [D.ref r,D.int (n:Int)].length=2 from rfl),hst]
 obtain⟨g,S1,e1,g0,g1,P1,K1⟩:=hp _ _ (n:Int) P (by omega) (by omega)
 obtain⟨q,S2,e2,q0,q1,P2,K2⟩:=hp _ _ 12 P1 (by decide) (by decide)
 obtain⟨g',rfl⟩:∃ g':Nat,g=(g':Int):=⟨g.toNat,by omega⟩
 have md:∀ S,lW S (.int q) (.int 2)=U (.int (q % 2)):=λS=>jG (by decide)
 by_cases h6:q<6
 ·obtain⟨l,S3,e3,l0,l1,P3,K3⟩:=hp _ _ 6 P2 (by decide) (by decide)
  obtain⟨t,et,ot⟩:=Rt l0 l1
  obtain⟨wr,ew⟩:=at_wr (q:=q)
  have k1:∀ S,oq ([D.str "read",D.str "write"],S)=U (.lst [D.str "read",D.str "write"],S):=λS=>eK (by simp)
  have k2:∀ S,oq ([D.non,D.non,D.non,D.int 0,D.int 1,D.int 9],S)=U (.lst [D.non,D.non,D.non,D.int 0,D.int 1,D.int 9],S):=λS=>eK (by simp)
  have k3:∀ S (a b c:D),cy ([a,b,c],S)=U (.tup [a,b,c],S):=λS a b c=>aY (by simp)
  refine⟨.ask wr g' t,S3,?_,⟨by omega,ot⟩,P3,Keep.trans K1 (Keep.trans K2 K3)⟩
  simp [pX,e1,e2,h6,k1,md,ew,e3,k2,et,k3,Dd.d]
 ·by_cases h11:q=11
  ·subst h11
   have k1:∀ S (a:D),cy ([a],S)=U (.tup [a],S):=λS a=>aY (by simp)
   refine⟨.tick,S2,?_,trivial,P2,Keep.trans K1 K2⟩
   simp [pX,e1,e2,k1,Dd.d]
  ·obtain⟨k,ek⟩:=VZ (q:=q) (by omega) (by omega)
   have k1:∀ S,oq ([D.str "up",D.str "down",D.str "leave",D.str "leave",D.str "stop"],S)=U (.lst [D.str "up",D.str "down",D.str "leave",D.str "leave",D.str "stop"],S):=λS=>eK (by simp)
   have k2:∀ S (a b:D),cy ([a,b],S)=U (.tup [a,b],S):=λS a b=>aY (by simp)
   refine⟨.act k g',S2,?_,(by show g'<n;omega),P2,Keep.trans K1 K2⟩
   simp [pX,e1,e2,h6,Xv.mpr h11,k1,ek,k2,Dd.d]
def bB(es:List En)(g:Nat):Bool:=es.any λe=>decide (e.g=g)
def gP(R:Rm):Dd->Bool
 | .tick=>true
 | .ask _ g _=>decide (R.1[g]?=U .out) && !bB R.2 g
 | .act .up g=>decide (R.1[g]?=U .reads)
 | .act .down g=>decide (R.1[g]?=U .writes)||decide (R.1[g]?=U .raised)
 | .act .leave g=>decide (R.1[g]?≠U .out)
 | .act .stop g=>bB R.2 g||decide (R.1[g]?=U .rising)
def zT:ME:=ar kR (ar aw (ab 1) (mC (.int 1))) (bI (db (ab 3)) (ah 0) (bY) (ar aw (ab 0) (mC (.int 0))) [Y])
def VT:ME:=eU [(mC (.str "read"),dA (ar bW (ab 4) (mC (.str "out"))) (gF (ab 5))),(mC (.str "write"),dA (ar bW (ab 4) (mC (.str "out"))) (gF (ab 5))),(mC (.str "up"),ar bW (ab 4) (mC (.str "reads")))]
def VS:ME:=gZ [(mC (.str "down"),ar kR (ab 4) (aO (aa (mC (.str "writes")) (aa (mC (.str "raised")) (ai))))),(mC (.str "leave"),ar gv (ab 4) (mC (.str "out"))),(mC (.str "stop"),vE (ab 5) (ar bW (ab 4) (mC (.str "rising"))))]
def zh:MS:=
 ay (aF (ab 0) (aK 2 (af (ah 2) (af (ah 3) (aC))))) (ay (bz (ax (ar bW (ab 1) (aO (aa (mC (.str "tick")) (ai))))) (aX (mC (.bl true))) (aS)) (ay (aF (ar aw (ab 2) (ar aw (ab 1) (mC (.int 1)))) (ah 4)) (ay (aF zT (ah 5)) (ay (aF VT (ah 6)) (ay (cV (dQ vg (ab 6) (aa VS (ai)))) (aX (ar aw (ab 6) (ar aw (ab 1) (mC (.int 0))))))))))
def tm(r:Rl)(w:Wd)(es:List En):List En:=if r.w=.turns/\w=.writes then es.map (λe=>if e.wr then e else { e with m:=1 }) else es
def mkC:ME:=bI (db (ab 2)) (ah 0) (bY) (mD (ax (ar bW (ar aw (ab 0) (mC (.int 1))) (mC (.str "read")))) (ar aR (ar aR (bu (ab 0) (bw) (bR (mC (.int 2)))) (aO (aa (mC (.int 1)) (ai)))) (bu (ab 0) (bR (mC (.int 3))) (bw))) (ab 0)) [Y]
def lf:MS:=
 ay (bz (eG (ax (ar gv (ar aw (ab 0) (mC (.int 0))) (mC (.str "turns")))) (ax (ar gv (ab 1) (mC (.str "writes"))))) (aX (ab 2)) (aS)) (aX (ba (aJ (cr .tup)) (aa mkC (ai))))
section
variable{S:ac}{ws:List Wd}{es:List En}{r:Rl}
def MC{g:Nat}:kR S (.int (g:Int)) (.lst (es.map λe=>.int (e.g:Int)))=U (.bl (bB es g)):=by
 rw [jH (ys:=es.map λe=>D.int (e.g:Int)) rfl rfl (by rw [WJ];intro d hd;obtain⟨e,_,rfl⟩:=WP.mp hd;rfl)]
 unfold bB
 rw [Ze]
 congr 2
 induction es with
 | nil=>rfl
 | cons e l ih=>
  rw [XE,XE,ih]
  congr 1
  show ((e.g:Int) == (g:Int))=_
  rw [Xc];simp;omega
def gsC{b:Option D}{cap:List (Option Nat)}{env:bj}(hc:wA cap env=[b])(hl:es.length<=100):oE (ah 0) bY (ar aw (ab 0) (mC (.int 0))) cap env (es.map En.d,S)=U (.lst (es.map λe=>.int (e.g:Int)),S):=by
 have k:=eW (S:=S) (t:=bY) (e:=ar aw (ab 0) (mC (.int 0))) (cap:=cap) (env:=env) (rest:=[]) (a:=b) (enc:=En.d) (p:=λ_=>true) (f:=λe=>.int (e.g:Int)) (xs:=es) hc (by omega) (λx _=>kh) (λx _ _=>by simp [En.ix0])
 rw [XD.mpr (λ_ _=>rfl)] at k
 exact k
def dX:Er (cf es,S)=U (es.map En.d,S):=rfl
def Ex:Dd->Bool
 | .tick=>true
 | _=>false
def Dd.tick_ne{dd:Dd}:bW S dd.d (.tup [.str "tick"])=U (.bl (Ex dd)):=by
 cases dd with
 | tick=>rw [lX rfl rfl];rfl
 | ask wr g t=>
  rw [lX (by cases t <;> rfl) rfl]
  show U (D.bl (_&&false))=U (D.bl false)
  rw [Yn]
 | act k g=>
  rw [lX rfl rfl]
  show U (D.bl (_&&false))=U (D.bl false)
  rw [Yn]
def nk{a b:Wd}:bW S a.d (.str b.s)=U (.bl (decide (a=b))):=by
 show bW S (.str a.s) (.str b.s)=_
 rw [cD,Wd.eq]
def vi{a b:Wd}:gv S a.d (.str b.s)=U (.bl (!decide (a=b))):=by
 show gv S (.str a.s) (.str b.s)=_
 rw [rg,Wd.eq]
def EE{a:Wd}:kR S a.d (.tup [.str "writes",.str "raised"])=U (.bl (decide (a=.writes)||decide (a=.raised))):=by
 have h:([D.str "writes",D.str "raised"].any λd=>jJ d a.d)=(decide (a=.writes)||decide (a=.raised)):=by cases a <;> decide +kernel
 rw [jH (ys:=[.str "writes",.str "raised"]) rfl rfl rfl,h]
def lZ(w:Wd)(s:Bool):List (bt×D):=[(.inr "read",.bl (decide (w=.out) && !s)),(.inr "write",.bl (decide (w=.out) && !s)),(.inr "up",.bl (decide (w=.reads)))]
def lY(w:Wd)(s:Bool):List (bt×D):=[(.inr "down",.bl (decide (w=.writes)||decide (w=.raised))),(.inr "leave",.bl (!decide (w=.out))),(.inr "stop",.bl (s||decide (w=.rising)))]
def Ri{w:Wd}{s:Bool}{a0 a1 a2 a3 a6:Option D}:VT [a0,a1,a2,a3,U w.d,U (.bl s),a6] S=U (.ref S.length,S++[.dct ((lZ w s).map (·.1)) ((lZ w s).map (·.2))]):=by
 have e1:∀ S,bW S w.d (.str "out")=U (.bl (decide (w=.out))):=λS=>nk (b:=.out)
 have e2:∀ S,bW S w.d (.str "reads")=U (.bl (decide (w=.reads))):=λS=>nk (b:=.reads)
 have ka:∀ x:Bool,PZ (gF (ab 5)) [a0,a1,a2,a3,U w.d,U (.bl s),a6] (.bl x,S)=U (.bl (x && !s),S):=λx=>by cases x <;> simp
 have kd:zp ([(.inr "read",.bl (decide (w=.out) && !s)),(.inr "write",.bl (decide (w=.out) && !s)),(.inr "up",.bl (decide (w=.reads)))],S)=U (.ref S.length,S++[.dct ((lZ w s).map (·.1)) ((lZ w s).map (·.2))]):=Ip (l:=lZ w s) (show [(Sum.inr "read":bt),.inr "write",.inr "up"].Nodup by decide +kernel) (by show 3<=15;decide)
 simp only [VT,LF,mR,bf,ob,Eo,lR,aE,ak,bG,bP,bO,oj,aj,av,au,e1,ka,Em,e2,oX,El,kd]
def Rh{w:Wd}{s:Bool}{a0 a1 a2 a3 a6:Option D}:VS [a0,a1,a2,a3,U w.d,U (.bl s),a6] S=U (.dct ((lY w s).map (·.1)) ((lY w s).map (·.2)),S):=by
 have e1:∀ S,gv S w.d (.str "out")=U (.bl (!decide (w=.out))):=λS=>vi (b:=.out)
 have e2:∀ S,bW S w.d (.str "rising")=U (.bl (decide (w=.rising))):=λS=>nk (b:=.rising)
 have k2:∀ S (x y:D),cy ([x,y],S)=U (.tup [x,y],S):=λS x y=>aY (by simp)
 have ka:RT (ar bW (ab 4) (mC (.str "rising"))) [a0,a1,a2,a3,U w.d,U (.bl s),a6] (.bl s,S)=U (.bl (s||decide (w=.rising)),S):=by cases s <;> simp [e2]
 have kd:uN ([(.inr "down",.bl (decide (w=.writes)||decide (w=.raised))),(.inr "leave",.bl (!decide (w=.out))),(.inr "stop",.bl (s||decide (w=.rising)))],S)=U (.dct ((lY w s).map (·.1)) ((lY w s).map (·.2)),S):=BQ (l:=lY w s) (show [(Sum.inr "down":bt),.inr "leave",.inr "stop"].Nodup by decide +kernel) (by show 3<=15;decide)
 simp only [VS,Ga,mR,bf,ob,Eo,aE,ak,bG,bP,bO,oj,aj,av,bg,aq,am,aA,al,k2,au,EE,Em,e1,RL,ka,oX,El,kd]
def dg:Dd->Str
 | .ask wr _ _=>be wr
 | .act k _=>k.s
 | .tick=>"tick"
def bb:Dd->Nat
 | .ask _ g _=>g
 | .act _ g=>g
 | .tick=>0
def VR{w:Wd}{s:Bool}{R:Rm}{dd:Dd}(hs:s=bB R.2 (bb dd))(hw:R.1[bb dd]?=U w)(ht:dd≠.tick):fY (cF (lZ w s) (lY w s)) (.inr (dg dd))=U (.bl (gP R dd)):=by
 have hm:cF (lZ w s) (lY w s)=lZ w s++lY w s:=oW (show [(Sum.inr "read":bt),.inr "write",.inr "up",.inr "down",.inr "leave",.inr "stop"].Nodup by decide +kernel)
 rw [hm]
 cases dd with
 | tick=>exact absurd rfl ht
 | ask wr g t=>
  simp only [bb] at hw hs
  cases wr
  ·simp (decide:=true) [lZ,lY,fY,dg,be,gP,hw,hs]
  ·simp (decide:=true) [lZ,lY,fY,dg,be,gP,hw,hs]
 | act k g=>
  simp only [bb] at hw hs
  cases k <;> simp (decide:=true) [lZ,lY,fY,dg,Ak.s,gP,hw,hs]
def Rg{N:List Str}(hN:N.length=7){R:Rm}{dd:Dd}(hl:R.2.length<=60)(hd:dd.Ok R.1.length):∃ T,aP N zh 2 [aQ R,dd.d] S=U (.bl (gP R dd),S++T):=by
 have hst:aB N [aQ R,dd.d]=[U (aQ R),U dd.d,Y,Y,Y,Y,Y]:=by simp [aB,hN,List.replicate]
 rw [bd (show [aQ R,dd.d].length=2 from rfl),hst]
 obtain⟨ws,es⟩:=R
 have k1:∀ S (x:D),cy ([x],S)=U (.tup [x],S):=λS x=>aY (by simp)
 have g2:∀ env S,aK 2 (af (ah 2) (af (ah 3) (aC))) (aQ (ws,es)) env S=(af (ah 2) (af (ah 3) (aC))) [cx ws,cf es] env S:=λenv S=>bS
 by_cases ht:dd=.tick
 ·subst ht
  refine⟨[],?_⟩
  simp only [zh,aT,bn,ak,bG,bP,bO,oj,ob,aj,bo,g2,bp,aU,cI,bH,eN,eV,bL,aH,bi,aG,aE,av,bg,aq,bf,am,aA,al,k1,au,Dd.tick_ne,aD,bK,aZ,bx,bV,aI,WS,gP,Ex]
 ·have hf:Ex dd=false:=by cases dd <;> first | rfl | exact absurd rfl ht
  have x1:∀ S,aw S dd.d (.int 1)=U (.int (bb dd:Int)):=λS=>by cases dd <;> first | rfl | exact absurd rfl ht
  have x0:∀ S,aw S dd.d (.int 0)=U (.str (dg dd)):=λS=>by cases dd <;> first | rfl | exact absurd rfl ht
  have hg:bb dd<ws.length:=by cases dd with
   | ask _ _ _=>exact hd.1
   | act _ _=>exact hd
   | tick=>exact absurd rfl ht
  have hw:ws[bb dd]?=U ws[bb dd]:=Wv hg
  have xw:∀ S,aw S (cx ws) (.int (bb dd:Int))=U (ws[bb dd]).d:=λS=>rE hw
  have st:∀ (S:ac) (a4 a5 a6:Option D),zT [U (aQ (ws,es)),U dd.d,U (cx ws),U (cf es),a4,a5,a6] S=U (.bl (bB es (bb dd)),S):=λS a4 a5 a6=>by
   simp only [zT,aE,ak,bG,bP,bO,oj,ob,aj,av,bf,au,x1,bZ,du,dX,gsC (es:=es) (cap:=[Y]) (env:=[U (aQ (ws,es)),U dd.d,U (cx ws),U (cf es),a4,a5,a6]) rfl (by simp only at hl;omega),MC]
  have up:vg (.ref S.length) [.dct ((lY (ws[bb dd]) (bB es (bb dd))).map (·.1)) ((lY (ws[bb dd]) (bB es (bb dd))).map (·.2))] (S++[.dct ((lZ (ws[bb dd]) (bB es (bb dd))).map (·.1)) ((lZ (ws[bb dd]) (bB es (bb dd))).map (·.2))])=U (.non,S++[.dct ((cF (lZ (ws[bb dd]) (bB es (bb dd))) (lY (ws[bb dd]) (bB es (bb dd)))).map (·.1)) ((cF (lZ (ws[bb dd]) (bB es (bb dd))) (lY (ws[bb dd]) (bB es (bb dd)))).map (·.2))]):=by
   rw [Qn ir (by show 3+3<=1000;decide),GM]
  have md:∀ f ms env (c:List bt) (d:List D),qW f ms env (.ref S.length,S++[.dct c d])=(ms env (S++[.dct c d])).bind (eI f (.ref S.length)):=λf ms env c d=>LU ir
  have fin:aw (S++[.dct ((cF (lZ (ws[bb dd]) (bB es (bb dd))) (lY (ws[bb dd]) (bB es (bb dd)))).map (·.1)) ((cF (lZ (ws[bb dd]) (bB es (bb dd))) (lY (ws[bb dd]) (bB es (bb dd)))).map (·.2))]) (.ref S.length) (.str (dg dd))=U (.bl (gP (ws,es) dd)):=by
   rw [Vc ir zj];exact VR rfl hw ht
  refine⟨[.dct ((cF (lZ (ws[bb dd]) (bB es (bb dd))) (lY (ws[bb dd]) (bB es (bb dd)))).map (·.1)) ((cF (lZ (ws[bb dd]) (bB es (bb dd))) (lY (ws[bb dd]) (bB es (bb dd)))).map (·.2))],?_⟩
  simp only [zh,aT,bn,ak,bG,bP,bO,oj,ob,aj,bo,g2,bp,aU,cI,bH,eN,eV,bL,aH,bi,aG,aE,av,bg,aq,bf,am,aA,al,k1,au,Dd.tick_ne,hf,aD,bE,bv,x1,xw,st,Ri,io,BA,md,Rh,dJ,up,ip,aZ,x0,fin,bx,aI]
def mk_d{e:En}:(mD (ax (ar bW (ar aw (ab 0) (mC (.int 1))) (mC (.str "read")))) (ar aR (ar aR (bu (ab 0) (bw) (bR (mC (.int 2)))) (aO (aa (mC (.int 1)) (ai)))) (bu (ab 0) (bR (mC (.int 3))) (bw))) (ab 0)) [U e.d] S=U ((if e.wr then e else { e with m:=1 }:En).d,S):=by
 have c1:iP e.d Y (U 2,S)=U (.tup [.int (e.g:Nat),.str (be e.wr)],S):=rfl
 have c2:iP e.d (U 3) (Y,S)=U (.tup [bJ e.t],S):=rfl
 have k1:∀ x,cy ([x],S)=U (.tup [x],S):=λx=>aY (by simp)
 have a1:∀ x y z,aR S (.tup [x,y]) (.tup [z])=U (.tup [x,y,z]):=λx y z=>gO (by simp)
 have a2:∀ x y z w,aR S (.tup [x,y,z]) (.tup [w])=U (.tup [x,y,z,w]):=λx y z w=>gO (by simp)
 have wr:(be e.wr == ("read":Str)) = !e.wr:=sU e.wr
 simp only [mS,aG,aE,ak,bG,oj,ob,aj,av,bf,au,En.ix1,cD,wr,aD]
 cases h:e.wr with
 | true=>simp
 | false=>
  simp only [Xj,BO,aE,cH,ak,bG,oj,ob,aj,eZ,cL,eY,dj,bf,dm,c1,av,bg,aq,am,aA,al,k1,au,a1,c2,a2]
  unfold En.d
  simp [h]
def DR{N:List Str}(hN:N.length=3){w:Wd}(hl:es.length<=60):aP N lf 3 [r.d,w.d,cf es] S=U (cf (tm r w es),S):=by
 have hst:aB N [r.d,w.d,cf es]=[U r.d,U w.d,U (cf es)]:=by simp [aB,hN]
 rw [bd (show [r.d,w.d,cf es].length=3 from rfl),hst]
 have w1:(r.w.s == ("turns":Str))=decide (r.w=.turns):=Rw.eq r.w .turns
 have e1:gv S (.str r.w.s) (.str "turns")=U (.bl (!decide (r.w=.turns))):=by rw [rg,w1]
 have e2:gv S w.d (.str "writes")=U (.bl (!decide (w=.writes))):=vi (b:=.writes)
 have k:=eW (S:=S) (t:=bY) (e:=mD (ax (ar bW (ar aw (ab 0) (mC (.int 1))) (mC (.str "read")))) (ar aR (ar aR (bu (ab 0) (bw) (bR (mC (.int 2)))) (aO (aa (mC (.int 1)) (ai)))) (bu (ab 0) (bR (mC (.int 3))) (bw))) (ab 0)) (cap:=[Y]) (env:=[U r.d,U w.d,U (cf es)]) (rest:=[]) (a:=Y) (enc:=En.d) (p:=λ_=>true) (f:=λe=>(if e.wr then e else { e with m:=1 }:En).d) (xs:=es) rfl (by omega) (λx _=>kh) (λx _ _=>mk_d)
 rw [XD.mpr (λ_ _=>rfl)] at k
 have kc:mkC [U r.d,U w.d,U (cf es)] S=U (.lst (es.map λe=>(if e.wr then e else { e with m:=1 }:En).d),S):=by
  simp only [mkC,bZ,du,ak,bG,bP,bO,oj,ob,aj,dX,k]
 unfold tm
 by_cases h1:r.w=.turns
 ·rw [WA h1] at e1
  by_cases h2:w=.writes
  ·rw [WI ⟨h1,h2⟩]
   rw [WA h2] at e2
   simp only [lf,aT,bi,iN,aG,aE,ak,bG,bP,bO,oj,ob,aj,av,bf,au,Rl.ix0,e1,Xa,aD,lT,e2,bE,bv,aH,aZ,bT,aq,kc,am,aA,al,bU,fW,bx,aI]
   unfold cf;rw [Xn];rfl
  ·rw [if_neg (λz=>h2 z.2)]
   rw [WC h2] at e2
   simp only [lf,aT,bi,iN,aG,aE,ak,bG,bP,bO,oj,ob,aj,av,bf,au,Rl.ix0,e1,Xa,Xj,aD,lT,e2,bK,aZ,bx,bV,aI]
 ·rw [if_neg (λz=>h1 z.1)]
  rw [WC h1] at e1
  simp only [lf,aT,bi,iN,aG,aE,ak,bG,bP,bO,oj,ob,aj,av,bf,au,Rl.ix0,e1,Xj,aD,zl,bK,aZ,bx,bV,aI]
end
def cU(l:List Ev):D:=.tup (l.map Ev.d)
def aW(r:Rl)(R:Rm):Rm×List Ev:=rG r (2 * R.1.length) R
def kP(wr:Bool)(g:Nat)(t:Option Int):En:=⟨g,wr,0,if t=U 0 then U 1 else t⟩
def sT(r:Rl)(R:Rm)(wr:Bool)(g:Nat)(t:Option Int):Rm×List Ev:=
 let a:=aW r (R.1,R.2++[kP wr g t])
 if bB a.1.2 g=false then a
 else if t=U 0 then ((a.1.1,a.1.2.filter λe=>decide (e.g≠g)),a.2++[⟨"no",g⟩])
 else (a.1,a.2++[⟨"waits",g⟩])
def ga(e:En):En:={ e with t:=e.t.map (· - 1) }
def oB(r:Rl)(R:Rm):Rm×List Ev:=
 let a:=aW r (R.1,(R.2.map ga).filter λe=>decide (e.t≠U 0))
 (a.1,(((R.2.map ga).filter λe=>decide (e.t=U 0)).map λe=>⟨"ends",e.g⟩)++a.2)
def fZ(k:Ak)(g:Nat):List Ev:=match k with
 | .up=>[]
 | .stop=>[⟨"ends",g⟩]
 | .down=>[⟨"down",g⟩]
 | .leave=>[⟨"out",g⟩]
def gz(k:Ak)(w:Wd):Wd:=match k with
 | .up=>.rising
 | .down=>.reads
 | .leave=>.out
 | .stop=>if w=.rising then .reads else .out
def rA(r:Rl)(k:Ak)(w:Wd)(g:Nat)(es:List En):List En:=(if k=.down\/k=.leave then tm r w es else es).filter λe=>decide (e.g≠g)
def mB(r:Rl)(R:Rm)(k:Ak)(g:Nat)(w:Wd):Rm×List Ev:=
 let a:=aW r (R.1.set g (gz k w),rA r k w g R.2)
 (a.1,fZ k g++a.2++(if a.1.1[g]?=U .rising then [⟨"waits",g⟩] else []))
def fo(r:Rl)(R:Rm)(dd:Dd):Option (Rm×List Ev):=
 if gP R dd=false then Y else match dd with
 | .tick=>U (oB r R)
 | .ask wr g t=>U (sT r R wr g t)
 | .act k g=>if k=.up/\(r.c=0\/Wd.rising∈R.1) then U (R,[⟨"no",g⟩]) else match R.1[g]? with
  | some w=>U (mB r R k g w)
  | none=>Y
def gA{es:List En}{g:Nat}(h:bB es g=false){e:En}(he:e∈es):e.g≠g:=λz=>by
 have:bB es g=true:=XA.mpr ⟨e,he,by simp [z]⟩
 rw [h] at this;cases this
theorem ROk.filter{ws:List Wd}{es:List En}(h:ROk (ws,es))(p:En->Bool):ROk (ws,es.filter p):=
 ⟨λe he=>h.out e (Xm.mp he).1,List.Sublist.nodup (List.Sublist.map _ (List.filter_sublist)) h.nd⟩
def ROk.mapE{ws:List Wd}{es:List En}(h:ROk (ws,es))(f:En->En)(hf:∀ e,(f e).g=e.g):ROk (ws,es.map f):=
 ⟨λe he=>by obtain⟨x,hx,rfl⟩:=WP.mp he;rw [hf];exact h.out x hx,by
  show ((es.map f).map (·.g)).Nodup
  rw [Xn,show ((·.g) ∘ f)=(λe:En=>e.g) from funext hf];exact h.nd⟩
def ROk.setW{ws:List Wd}{es:List En}(h:ROk (ws,es))(g:Nat)(w:Wd)(hg:∀ e∈es,e.g≠g):ROk (ws.set g w,es):=
 ⟨λe he=>by show (ws.set g w)[e.g]?=_;rw [WO (Ne.symm (hg e he))];exact h.out e he,h.nd⟩
def dN{r:Rl}{R:Rm}(h:ROk R):ROk (aW r R).1/\(aW r R).1.1.length=R.1.length:=Kq _ h
def tG{R:Rm}{wr:Bool}{g:Nat}{t:Option Int}(h:ROk R)(hw:R.1[g]?=U .out)(hs:bB R.2 g=false):ROk (R.1,R.2++[kP wr g t]):=
 ⟨λe he=>by
  rcases WK.mp he with he | he
  ·exact h.out e he
  ·rw [WL.mp he];exact hw,by
  show ((R.2++[kP wr g t]).map (·.g)).Nodup
  rw [Xt,Yi]
  refine⟨h.nd,by simp,λa ha b hb=>?_⟩
  obtain⟨e,he,rfl⟩:=WP.mp ha
  simp [kP] at hb
  rw [hb];exact gA hs he⟩
def Ub{r:Rl}{w:Wd}{ws:List Wd}{es:List En}(h:ROk (ws,es)):ROk (ws,tm r w es):=by
 unfold tm;split
 ·exact h.mapE _ λe=>by split <;> rfl
 ·exact h
def tH{r:Rl}{k:Ak}{w:Wd}{g:Nat}{ws:List Wd}{es:List En}(h:ROk (ws,es))(w':Wd):ROk (ws.set g w',rA r k w g es):=by
 unfold rA
 refine ROk.setW (ROk.filter ?_ _) g w' λe he=>Xq (Xm.mp he).2
 split
 ·exact Ub h
 ·exact h
def fQ{r:Rl}{R:Rm}{dd:Dd}{x:Rm×List Ev}(h:ROk R)(hx:fo r R dd=U x):ROk x.1/\x.1.1.length=R.1.length:=by
 unfold fo at hx
 split at hx
 ·cases hx
 ·rename_i hc
  have hc:gP R dd=true:=by simpa using hc
  cases dd with
  | tick=>
   cases hx
   obtain⟨a,b⟩:=dN (r:=r) (R:=(R.1,(R.2.map ga).filter λe=>decide (e.t≠U 0))) (ROk.filter (ROk.mapE h ga λe=>rfl) _)
   exact⟨a,b⟩
  | ask wr g t=>
   cases hx
   simp only [gP,Wq,XB,Bool.not_eq_true'] at hc
   obtain⟨a,b⟩:=dN (r:=r) (tG (wr:=wr) (t:=t) h hc.1 hc.2)
   unfold sT
   dsimp only
   split
   ·exact⟨a,b⟩
   ·split
    ·exact⟨ROk.filter a _,b⟩
    ·exact⟨a,b⟩
  | act k g=>
   dsimp only at hx
   split at hx
   ·cases hx;exact⟨h,rfl⟩
   ·split at hx
    ·rename_i w hw
     cases hx
     obtain⟨a,b⟩:=dN (r:=r) (tH (r:=r) (k:=k) (w:=w) (g:=g) h (gz k w))
     exact⟨a,b.trans (by simp)⟩
    ·cases hx
def Wb:ME:=bI (db (ar aw (ab 1) (mC (.int 1)))) (ah 0) (bY) (ar aw (ab 0) (mC (.int 0))) [Y]
def Fi:ME:=bI (db (ar aw (ab 1) (mC (.int 1)))) (ah 0) (ax (ar gv (ar aw (ab 0) (mC (.int 0))) (ab 1))) (ab 0) [Y,U 4]
def uK(settled:PF):MS:=
 ay (aF (ab 2) (aK 3 (af (ah 3) (af (ah 4) (af (ah 5) (aC)))))) (ay (aF (aO (aa (ab 4) (aa (ab 3) (aa (mC (.int 0)) (aa (mD (ax (ar bW (ab 5) (mC (.int 0)))) (mC (.int 1)) (ab 5)) (ai)))))) (ah 6)) (ay (aF (ao 2 settled (aa (ab 0) (aa (aO (aa (ar aw (ab 1) (mC (.int 0))) (aa (ar aR (ar aw (ab 1) (mC (.int 1))) (aO (aa (ab 6) (ai)))) (ai)))) (ai)))) (aK 2 (af (ah 1) (af (ah 7) (aC))))) (ay (bz (ax (ar rf (ab 4) Wb)) (aX (aO (aa (ab 1) (aa (ba (aJ (cr .tup)) (aa (ab 7) (ai))) (ai))))) (aS)) (ay (bz (ax (ar bW (ab 5) (mC (.int 0)))) (aX (aO (aa (aO (aa (ar aw (ab 1) (mC (.int 0))) (aa (ba (aJ (cr .tup)) (aa Fi (ai))) (ai)))) (aa (ba (aJ (cr .tup)) (aa (ar aR (ab 7) (eQ (aa (aO (aa (mC (.str "no")) (aa (ab 4) (ai)))) (ai)))) (ai))) (ai))))) (aS)) (aX (aO (aa (ab 1) (aa (ba (aJ (cr .tup)) (aa (ar aR (ab 7) (eQ (aa (aO (aa (mC (.str "waits")) (aa (ab 4) (ai)))) (ai)))) (ai))) (ai)))))))))
def zN:ME:=bI (db (ab 4)) (ah 0) (bY) (ar aR (bu (ab 0) (bw) (bR (mC (.int 3)))) (aO (aa (mD (ax (ar wy (ar aw (ab 0) (mC (.int 3))) (mC .non))) (mC .non) (ar oz (ar aw (ab 0) (mC (.int 3))) (mC (.int 1)))) (ai)))) [Y]
def EV:ME:=bI (db (ab 5)) (ah 0) (ax (ar bW (ar aw (ab 0) (mC (.int 3))) (mC (.int 0)))) (aO (aa (mC (.str "ends")) (aa (ar aw (ab 0) (mC (.int 0))) (ai)))) [Y]
def ET:ME:=bI (db (ab 5)) (ah 0) (ax (ar gv (ar aw (ab 0) (mC (.int 3))) (mC (.int 0)))) (ab 0) [Y]
def vp(settled:PF):MS:=ay (aF zN (ah 5)) (ay (aF EV (ah 6)) (ay (aF (ao 2 settled (aa (ab 0) (aa (aO (aa (ab 3) (aa (ba (aJ (cr .tup)) (aa ET (ai))) (ai)))) (ai)))) (aK 2 (af (ah 1) (af (ah 7) (aC))))) (aX (aO (aa (ab 1) (aa (ba (aJ (cr .tup)) (aa (ar aR (ab 6) (ab 7)) (ai))) (ai)))))))
def zM:ME:=ar cz (eQ (aa (aO (aa (mD (ax (ar bW (ab 8) (mC (.str "stop")))) (mC (.str "ends")) (mD (ax (ar bW (ab 8) (mC (.str "down")))) (mC (.str "down")) (mC (.str "out")))) (aa (ab 9) (ai)))) (ai))) (ba (aJ lv) (aa (ar gv (ab 8) (mC (.str "up"))) (ai)))
def zL:ME:=ar aw (gZ [(mC (.str "up"),mC (.str "rising")),(mC (.str "down"),mC (.str "reads")),(mC (.str "leave"),mC (.str "out")),(mC (.str "stop"),ar aw (eQ (aa (mC (.str "out")) (aa (mC (.str "reads")) (ai)))) (ba (aJ lv) (aa (ar bW (ab 10) (mC (.str "rising"))) (ai))))]) (ab 8)
def ES:ME:=ar cz (eQ (aa (aO (aa (mC (.str "waits")) (aa (ab 9) (ai)))) (ai))) (ba (aJ lv) (aa (ar bW (ar aw (ar aw (ab 1) (mC (.int 0))) (ab 9)) (mC (.str "rising"))) (ai)))
def EU:ME:=bI (db (ab 4)) (ah 0) (ax (ar gv (ar aw (ab 0) (mC (.int 0))) (ab 1))) (ab 0) [Y,U 9]
def NA(settled marked put:PF):MS:=ay (aF (ar aw (ab 3) (ab 9)) (ah 10)) (ay (aF zM (ah 11)) (ay (bz (ax (ar kR (ab 8) (aO (aa (mC (.str "down")) (aa (mC (.str "leave")) (ai)))))) (aF (ao 3 marked (aa (ab 0) (aa (ab 10) (aa (ab 4) (ai))))) (ah 4)) (aS)) (ay (aF (ba (aJ (cr .tup)) (aa EU (ai))) (ah 4)) (ay (aF zL (ah 12)) (ay (aF (ao 2 settled (aa (ab 0) (aa (aO (aa (ao 3 put (aa (ab 3) (aa (ab 9) (aa (ab 12) (ai))))) (aa (ab 4) (ai)))) (ai)))) (aK 2 (af (ah 1) (af (ah 7) (aC))))) (ay (aF ES (ah 13)) (aX (aO (aa (ab 1) (aa (ba (aJ (cr .tup)) (aa (ar aR (ar aR (ab 11) (ab 7)) (ab 13)) (ai))) (ai)))))))))))
def kj(can asked settled marked put:PF):MS:=
 ay (bz (dB (cQ (ao 2 can (aa (ab 1) (aa (ab 2) (ai)))))) (aX (mC .non)) (aS)) (ay (aF (ab 1) (aK 2 (af (ah 3) (af (ah 4) (aC))))) (ay (bz (ax (ar bW (ar aw (ab 2) (mC (.int 0))) (mC (.str "tick")))) (vp settled) (aS)) (ay (aF (bu (ab 2) (bw) (bR (mC (.int 2)))) (aK 2 (af (ah 8) (af (ah 9) (aC))))) (ay (bz (ax (ar kR (ab 8) (aO (aa (mC (.str "read")) (aa (mC (.str "write")) (ai)))))) (aX (ao 3 asked (aa (ab 0) (aa (ab 1) (aa (ab 2) (ai)))))) (aS)) (ay (bz (dc (ax (ar bW (ab 8) (mC (.str "up")))) (eG (ax (ar bW (ar aw (ab 0) (mC (.int 3))) (mC (.int 0)))) (ax (ar kR (mC (.str "rising")) (ab 3))))) (aX (aO (aa (ab 1) (aa (aO (aa (aO (aa (mC (.str "no")) (aa (ab 9) (ai)))) (ai))) (ai))))) (aS)) (NA settled marked put))))))
def oh(settled:PF):Prop:=∀ (S:ac) (r:Rl) (R:Rm),ROk R->R.1.length<=50->settled [r.d,aQ R] S=U (.tup [aQ (aW r R).1,.ref S.length],S++[.lst ((aW r R).2.map Ev.d)])
theorem nM{r:Rl}:∀ (n:Nat) {R:Rm},(rG r n R).2.length<=n
 | 0,R=>WD _
 | n+1,R=>by
  have h1:=FA (r:=r) (R:=R)
  have h2:=nM (r:=r) n (R:=(jU r R).1)
  show ((jU r R).2++(rG r n (jU r R).1).2).length<=_
  rw [WB];omega
section
variable{S:ac}{ws:List Wd}{es:List En}{r:Rl}{R:Rm}
def jI{t:Option Int}:bW S (bJ t) (.int 0)=U (.bl (decide (t=U 0))):=by
 cases t with
 | none=>exact lX rfl rfl
 | some k=>
  show bW S (.int k) (.int 0)=_
  rw [kL];congr 2;rw [Xc];simp
def Cn{t:Option Int}:gv S (bJ t) (.int 0)=U (.bl (!decide (t=U 0))):=by
 cases t with
 | none=>exact rh rfl rfl
 | some k=>
  show gv S (.int k) (.int 0)=_
  rw [My];congr 3;rw [Xc];simp
def Kx{g:Nat}{b:Option D}{cap:List (Option Nat)}{env:bj}(hc:wA cap env=[b,U (.int (g:Int))])(hl:es.length<=100):oE (ah 0) (ax (ar gv (ar aw (ab 0) (mC (.int 0))) (ab 1))) (ab 0) cap env (es.map En.d,S)=U (.lst ((es.filter λe=>decide (e.g≠g)).map En.d),S):=by
 exact eW (S:=S) (t:=ax (ar gv (ar aw (ab 0) (mC (.int 0))) (ab 1))) (e:=ab 0) (cap:=cap) (env:=env) (rest:=[U (.int (g:Int))]) (a:=b) (enc:=En.d) (p:=λe=>decide (e.g≠g)) (f:=En.d) (xs:=es) hc (by omega) (λx _=>by
  have:(!((x.g:Int) == (g:Int)))=decide (x.g≠g):=by rw [Xc];simp;omega
  simp [En.ix0,-beq_iff_eq,this]) (λx _ _=>by simp)
def MK{S:ac}{l:List Ev}:aJ (cr .tup) [.ref S.length] (S++[.lst (l.map Ev.d)])=U (cU l,S++[.lst (l.map Ev.d)]):=nX ir
def Vh{S:ac}{l:List Ev}{v:Ev}(h:l.length<=500):aR (S++[.lst (l.map Ev.d)]) (.ref S.length) (.lst [v.d])=U (.lst ((l++[v]).map Ev.d)):=by
 rw [Gq (xs:=l.map Ev.d) (ys:=[v.d]) rfl (by simp only [rN,ir]) rfl (by simp;omega)];simp
def Gr{S:ac}{k l:List Ev}(h:l.length<=500)(h':k.length<=400):aR (S++[.lst (l.map Ev.d)]) (.lst (k.map Ev.d)) (.ref S.length)=U (.lst ((k++l).map Ev.d)):=by
 rw [Gq (xs:=k.map Ev.d) (ys:=l.map Ev.d) rfl rfl (by simp only [rN,ir]) (by simp;omega)];simp
def ID{g:Nat}:rf S (.int (g:Int)) (.lst (es.map λe=>.int (e.g:Int)))=U (.bl (!bB es g)):=by
 have h:=MC (S:=S) (es:=es) (g:=g)
 have ok:(es.map λe=>D.int (e.g:Int)).all (cP 39)=true:=by rw [WJ];intro d hd;obtain⟨e,_,rfl⟩:=WP.mp hd;rfl
 rw [jH (ys:=es.map λe=>D.int (e.g:Int)) rfl rfl ok] at h
 rw [IC (ys:=es.map λe=>D.int (e.g:Int)) rfl rfl ok]
 simp only [XC,D.bl.injEq] at h
 rw [h]
def Jx{settled:PF}(O:oh settled){N:List Str}(hN:N.length=8){wr:Bool}{g:Nat}{t:Option Int}(h:ROk R)(hl:R.1.length<=50)(hw:R.1[g]?=U .out)(hs:bB R.2 g=false) :
  ∃ T,aP N (uK settled) 3 [r.d,aQ R,(Dd.ask wr g t).d] S=U (.tup [aQ (sT r R wr g t).1,cU (sT r R wr g t).2],S++T):=by
 have hst:aB N [r.d,aQ R,(Dd.ask wr g t).d]=[U r.d,U (aQ R),U (Dd.ask wr g t).d,Y,Y,Y,Y,Y]:=by simp [aB,hN,List.replicate]
 rw [bd (show [r.d,aQ R,(Dd.ask wr g t).d].length=3 from rfl),hst]
 have hA:=tG (wr:=wr) (t:=t) h hw hs
 have hO:=O S r (R.1,R.2++[kP wr g t]) hA hl
 obtain⟨q1,q2⟩:=dN (r:=r) hA
 have qf:(aW r (R.1,R.2++[kP wr g t])).2.length<=100:=WT (nM _) (by show 2 * R.1.length<=100;omega)
 have ql:(aW r (R.1,R.2++[kP wr g t])).1.2.length<=50:=WT q1.len (by rw [q2];exact hl)
 unfold sT
 generalize hE:aW r (R.1,R.2++[kP wr g t])=A at *
 obtain⟨R',evs⟩:=A
 dsimp only at *
 have k2:∀ S (x y:D),cy ([x,y],S)=U (.tup [x,y],S):=λS x y=>aY (by simp)
 have k1:∀ S (x:D),cy ([x],S)=U (.tup [x],S):=λS x=>aY (by simp)
 have l1:∀ S (x:D),oq ([x],S)=U (.lst [x],S):=λS x=>eK (by simp)
 have k4:∀ S (x y z w:D),cy ([x,y,z,w],S)=U (.tup [x,y,z,w],S):=λS x y z w=>aY (by simp)
 have g3:∀ env S,aK 3 (af (ah 3) (af (ah 4) (af (ah 5) (aC)))) (Dd.ask wr g t).d env S=(af (ah 3) (af (ah 4) (af (ah 5) (aC)))) [.str (be wr),.int (g:Int),bJ t] env S:=λenv S=>tE
 have kif:∀ env:bj,kIf (mC (.int 1)) (ab 5) [U r.d,U (aQ R),U (Dd.ask wr g t).d,U (.str (be wr)),U (.int (g:Int)),U (bJ t),Y,Y] (decide (t=U 0),S)=U (bJ (if t=U 0 then U 1 else t),S):=λenv=>by
  by_cases ht:t=U 0
  ·simp [ht];rfl
  ·simp [ht]
 have ad:∀ S,aR S (cf R.2) (.tup [.tup [.int (g:Int),.str (be wr),.int 0,bJ (if t=U 0 then U 1 else t)]])=U (cf (R.2++[kP wr g t])):=λS=>by
  have:=h.len
  rw [show cf R.2=.tup (R.2.map En.d) from rfl,gO (by simp;omega)]
  unfold cf;rw [Xt];rfl
 have hO':settled [r.d,.tup [cx R.1,cf (R.2++[kP wr g t])]] S=U (.tup [aQ R',.ref S.length],S++[.lst (evs.map Ev.d)]):=hO
 have gs:∀ (T:ac) (a6:Option D),Wb [U r.d,U (aQ R'),U (Dd.ask wr g t).d,U (.str (be wr)),U (.int (g:Int)),U (bJ t),a6,U (.ref S.length)] T=U (.lst (R'.2.map λe=>.int (e.g:Int)),T):=λT a6=>by
  simp only [Wb,bZ,du,aE,ak,bG,bP,bO,oj,ob,aj,av,bf,au,Rm.ix1,dX,gsC (es:=R'.2) (cap:=[Y]) (env:=[U r.d,U (aQ R'),U (Dd.ask wr g t).d,U (.str (be wr)),U (.int (g:Int)),U (bJ t),a6,U (.ref S.length)]) rfl (by omega)]
 have rs:∀ (T:ac) (a6:Option D),Fi [U r.d,U (aQ R'),U (Dd.ask wr g t).d,U (.str (be wr)),U (.int (g:Int)),U (bJ t),a6,U (.ref S.length)] T=U (.lst ((R'.2.filter λe=>decide (e.g≠g)).map En.d),T):=λT a6=>by
  simp only [Fi,bZ,du,aE,ak,bG,bP,bO,oj,ob,aj,av,bf,au,Rm.ix1,dX,Kx (es:=R'.2) (g:=g) (cap:=[Y,U 4]) (env:=[U r.d,U (aQ R'),U (Dd.ask wr g t).d,U (.str (be wr)),U (.int (g:Int)),U (bJ t),a6,U (.ref S.length)]) rfl (by omega)]
 have no:∀ w:Str,aR (S++[.lst (evs.map Ev.d)]) (.ref S.length) (.lst [.tup [.str w,.int (g:Int)]])=U (.lst ((evs++[Ev.mk w g]).map Ev.d)):=λw=>Vh (v:=⟨w,g⟩) (by omega)
 refine⟨[.lst (evs.map Ev.d)],?_⟩
 simp only [uK,aT,bn,ak,bG,bP,bO,oj,ob,aj,bo,g3,bp,aU,cI,bH,eN,eV,bL,aH,bg,aq,am,bf,mS,aG,aE,av,au,jI,aD,kif [],aA,al,k4,aM,Rm.ix0,Rm.ix1,k1,ad,k2,bh,hO',bS,bi,gs,ID]
 cases hb:bB R'.2 g with
 | false=>simp only [Xj,bK,aZ,bg,aq,ak,bG,bP,bO,oj,ob,aj,am,bT,aA,al,bU,MK,k2,bx,bV,aI,WI]
 | true=>
  simp only [Xa,bE,bv,ob,aH,reduceCtorEq,if_neg,not_false_eq_true]
  by_cases ht:t=U 0
  ·have fe:∀ S,bW S (bJ t) (.int 0)=U (.bl true):=λS=>by rw [jI,WA ht]
   simp only [WI ht,aT,bi,aG,fe,aD,bK,aZ,bg,aq,ak,bG,bP,bO,oj,ob,aj,am,aE,av,bf,au,Rm.ix0,bT,rs,aA,al,bU,fW,k2,jv,l1,no,bx,bV,aI]
   rfl
  ·have fe:∀ S,bW S (bJ t) (.int 0)=U (.bl false):=λS=>by rw [jI,WC ht]
   simp only [if_neg ht,aT,bi,aG,fe,aD,bE,bv,ob,aH,aZ,bg,aq,ak,bG,bP,bO,oj,aj,am,aE,av,bf,au,bT,aA,al,bU,fW,k2,jv,l1,no,bx,aI]
   rfl
end
structure Wk(can asked settled marked put:PF):Prop where
 c:∀ (S:ac) (R:Rm) (dd:Dd),R.2.length<=60->dd.Ok R.1.length->∃ T,can [aQ R,dd.d] S=U (.bl (gP R dd),S++T)
 a:∀ (S:ac) (r:Rl) (R:Rm) (wr:Bool) (g:Nat) (t:Option Int),ROk R->R.1.length<=50->R.1[g]?=U .out->bB R.2 g=false->∃ T,asked [r.d,aQ R,(Dd.ask wr g t).d] S=U (.tup [aQ (sT r R wr g t).1,cU (sT r R wr g t).2],S++T)
 s:oh settled
 m:∀ (S:ac) (r:Rl) (w:Wd) (es:List En),es.length<=60->marked [r.d,w.d,cf es] S=U (cf (tm r w es),S)
 p:∀ (S:ac) (ws:List Wd) (i:Nat) (w:Wd),i<ws.length->ws.length<=100->put [cx ws,.int (i:Int),w.d] S=U (cx (ws.set i w),S)
section
variable{S:ac}{ws:List Wd}{es:List En}{r:Rl}{R:Rm}
def Vy{e:En}:(ar aR (bu (ab 0) (bw) (bR (mC (.int 3)))) (aO (aa (mD (ax (ar wy (ar aw (ab 0) (mC (.int 3))) (mC .non))) (mC .non) (ar oz (ar aw (ab 0) (mC (.int 3))) (mC (.int 1)))) (ai)))) [U e.d] S=U ((ga e).d,S):=by
 have c1:iP e.d Y (U 3,S)=U (.tup [.int (e.g:Nat),.str (be e.wr),.int e.m],S):=rfl
 have k1:∀ x,cy ([x],S)=U (.tup [x],S):=λx=>aY (by simp)
 have a2:∀ x y z w,aR S (.tup [x,y,z]) (.tup [w])=U (.tup [x,y,z,w]):=λx y z w=>gO (by simp)
 have cu:∀ a b c d:D,iQ [a,b,c,d] Y (U 3)=[a,b,c]:=λ_ _ _ _=>rfl
 obtain⟨g,wr,m,t⟩:=e
 cases t with
 | none=>simp [at4,cu,bJ,mV,k1,a2,ga,En.d]
 | some k=>simp [at4,cu,bJ,mV,k1,a2,ga,En.d]
def IW{settled:PF}(O:oh settled){a2 a5 a6 a7 a8 a9 b0 b1 b2 b3:Option D}(h:ROk R)(hl:R.1.length<=50) :
  ∃ T,(vp settled [U r.d,U (aQ R),a2,U (cx R.1),U (cf R.2),a5,a6,a7,a8,a9,b0,b1,b2,b3] S).bind HE=U (.tup [aQ (oB r R).1,cU (oB r R).2],S++T)/\vp settled [U r.d,U (aQ R),a2,U (cx R.1),U (cf R.2),a5,a6,a7,a8,a9,b0,b1,b2,b3] S=U (.rt (.tup [aQ (oB r R).1,cU (oB r R).2]) (S++T)):=by
 have hle:=h.len
 have f1:zN [U r.d,U (aQ R),a2,U (cx R.1),U (cf R.2),a5,a6,a7,a8,a9,b0,b1,b2,b3] S=U (.lst ((R.2.map ga).map En.d),S):=by
  have k:=eW (S:=S) (t:=bY) (e:=ar aR (bu (ab 0) (bw) (bR (mC (.int 3)))) (aO (aa (mD (ax (ar wy (ar aw (ab 0) (mC (.int 3))) (mC .non))) (mC .non) (ar oz (ar aw (ab 0) (mC (.int 3))) (mC (.int 1)))) (ai)))) (cap:=[Y]) (env:=[U r.d,U (aQ R),a2,U (cx R.1),U (cf R.2),a5,a6,a7,a8,a9,b0,b1,b2,b3]) (rest:=[]) (a:=Y) (enc:=En.d) (p:=λ_=>true) (f:=λe=>(ga e).d) (xs:=R.2) rfl (by omega) (λx _=>kh) (λx _ _=>Vy)
  rw [XD.mpr (λ_ _=>rfl)] at k
  simp only [zN,bZ,du,ak,bG,bP,bO,oj,ob,aj,dX,k,Xn]
  rfl
 generalize hF:R.2.map ga=fs at f1
 have hfl:fs.length<=50:=by rw [<- hF,Ww];omega
 have k2:∀ S (x y:D),cy ([x,y],S)=U (.tup [x,y],S):=λS x y=>aY (by simp)
 have f2:EV [U r.d,U (aQ R),a2,U (cx R.1),U (cf R.2),U (.lst (fs.map En.d)),a6,a7,a8,a9,b0,b1,b2,b3] S=U (.lst (((fs.filter λe=>decide (e.t=U 0)).map λe=>Ev.mk "ends" e.g).map Ev.d),S):=by
  have k:=eW (S:=S) (t:=ax (ar bW (ar aw (ab 0) (mC (.int 3))) (mC (.int 0)))) (e:=aO (aa (mC (.str "ends")) (aa (ar aw (ab 0) (mC (.int 0))) (ai)))) (cap:=[Y]) (env:=[U r.d,U (aQ R),a2,U (cx R.1),U (cf R.2),U (.lst (fs.map En.d)),a6,a7,a8,a9,b0,b1,b2,b3]) (rest:=[]) (a:=Y) (enc:=En.d) (p:=λe=>decide (e.t=U 0)) (f:=λe=>(Ev.mk "ends" e.g).d) (xs:=fs) rfl (by omega) (λx _=>by simp [En.ix3,jI]) (λx _ _=>by simp [En.ix0,k2,Ev.d])
  simp only [EV,bZ,du,ak,bG,bP,bO,oj,ob,aj,zm,k,Xn]
  rfl
 have f3:∀ a6,ET [U r.d,U (aQ R),a2,U (cx R.1),U (cf R.2),U (.lst (fs.map En.d)),a6,a7,a8,a9,b0,b1,b2,b3] S=U (.lst ((fs.filter λe=>decide (e.t≠U 0)).map En.d),S):=λa6=>by
  have k:=eW (S:=S) (t:=ax (ar gv (ar aw (ab 0) (mC (.int 3))) (mC (.int 0)))) (e:=ab 0) (cap:=[Y]) (env:=[U r.d,U (aQ R),a2,U (cx R.1),U (cf R.2),U (.lst (fs.map En.d)),a6,a7,a8,a9,b0,b1,b2,b3]) (rest:=[]) (a:=Y) (enc:=En.d) (p:=λe=>decide (e.t≠U 0)) (f:=En.d) (xs:=fs) rfl (by omega) (λx _=>by simp [En.ix3,Cn]) (λx _ _=>by simp)
  simp only [ET,bZ,du,ak,bG,bP,bO,oj,ob,aj,zm,k]
 have hA:ROk (R.1,fs.filter λe=>decide (e.t≠U 0)):=by rw [<- hF];exact ROk.filter (ROk.mapE h ga λe=>rfl) _
 have hO:=O S r (R.1,fs.filter λe=>decide (e.t≠U 0)) hA hl
 have qf:(aW r (R.1,fs.filter λe=>decide (e.t≠U 0))).2.length<=100:=WT (nM _) (by show 2 * R.1.length<=100;omega)
 unfold oB
 rw [hF]
 generalize hE:aW r (R.1,fs.filter λe=>decide (e.t≠U 0))=A at *
 obtain⟨R',evs⟩:=A
 dsimp only at *
 have hO':settled [r.d,.tup [cx R.1,.tup ((fs.filter λe=>decide (e.t≠U 0)).map En.d)]] S=U (.tup [aQ R',.ref S.length],S++[.lst (evs.map Ev.d)]):=hO
 have ad:=Gr (S:=S) (k:=(fs.filter λe=>decide (e.t=U 0)).map λe=>Ev.mk "ends" e.g) (l:=evs) (by omega) (by rw [Ww];exact WT (XG _ _) (by omega))
 have key:vp settled [U r.d,U (aQ R),a2,U (cx R.1),U (cf R.2),a5,a6,a7,a8,a9,b0,b1,b2,b3] S=U (.rt (.tup [aQ R',cU (((fs.filter λe=>decide (e.t=U 0)).map λe=>Ev.mk "ends" e.g)++evs)]) (S++[.lst (evs.map Ev.d)])):=by
  simp only [vp,aT,bn,f1,ob,bo,aU,eN,eV,bL,aH,f2,aM,aq,ak,bG,bP,bO,oj,aj,am,bg,bT,f3,aA,al,bU,fW,k2,bh,hO',bS,bp,cI,bH,aZ,aE,av,au,ad,bx]
  rfl
 exact⟨[.lst (evs.map Ev.d)],by rw [key,ob,aI],key⟩
def Gp{xs:List D}{k:Int}(h0:0<=k)(h1:k<=100000)(h:xs.length * k.toNat<=1000):cz S (.lst xs) (.int k)=U (.lst (List.replicate k.toNat xs).flatten):=WI ⟨by omega,by omega,sz h⟩
def Mz{x:D}{b:Bool}:cz S (.lst [x]) (.int (if b=true then 1 else 0))=U (.lst (if b=true then [x] else [])):=by
 cases b
 ·exact Gp (by decide) (by decide) (by simp)
 ·exact Gp (by decide) (by decide) (by simp)
def akS(k j:Ak):(k.s == j.s)=decide (k=j):=by cases k <;> cases j <;> decide +kernel
def zE{k j:Ak}:bW S (.str k.s) (.str j.s)=U (.bl (decide (k=j))):=by rw [cD,akS]
def EW{k:Ak}{g:Nat}{a0 a1 a2 a3 a4 a5 a6 a7 b0 b1 b2 b3:Option D}:zM [a0,a1,a2,a3,a4,a5,a6,a7,U (.str k.s),U (.int (g:Int)),b0,b1,b2,b3] S=U (.lst ((fZ k g).map Ev.d),S):=by
 have e1:bW S (.str k.s) (.str "stop")=U (.bl (decide (k=.stop))):=zE (j:=.stop)
 have e2:bW S (.str k.s) (.str "down")=U (.bl (decide (k=.down))):=zE (j:=.down)
 have e3:gv S (.str k.s) (.str "up")=U (.bl (!decide (k=.up))):=by rw [rg];exact congrArg (λb=>U (D.bl (!b))) (akS k .up)
 have k2:∀ S (x y:D),cy ([x,y],S)=U (.tup [x,y],S):=λS x y=>aY (by simp)
 have l1:∀ S (x:D),oq ([x],S)=U (.lst [x],S):=λS x=>eK (by simp)
 cases k <;> simp only [zM,aE,jv,aq,bg,mS,aG,ak,bG,bP,bO,oj,ob,aj,av,bf,au,e1,e2,e3,aD,reduceCtorEq,Yo,Yf,BO,Gg,am,aA,al,k2,l1,bT,bU,qq,Mz,fZ] <;> rfl
def ER{k:Ak}{w:Wd}{a0 a1 a2 a3 a4 a5 a6 a7 a9 b1 b2 b3:Option D}:zL [a0,a1,a2,a3,a4,a5,a6,a7,U (.str k.s),a9,U w.d,b1,b2,b3] S=U ((gz k w).d,S):=by
 have e1:bW S w.d (.str "rising")=U (.bl (decide (w=.rising))):=nk (b:=.rising)
 have l2:∀ S (x y:D),oq ([x,y],S)=U (.lst [x,y],S):=λS x y=>eK (by simp)
 have ix:aw S (.lst [.str "out",.str "reads"]) (.int (if decide (w=.rising)=true then 1 else 0))=U (if w=.rising then Wd.reads else Wd.out).d:=by by_cases h:w=.rising <;> simp [h] <;> rfl
 have kd:∀ x,uN ([(.inr "up",.str "rising"),(.inr "down",.str "reads"),(.inr "leave",.str "out"),(.inr "stop",x)],S)=U (.dct ([((Sum.inr "up":bt),D.str "rising"),(.inr "down",.str "reads"),(.inr "leave",.str "out"),(.inr "stop",x)].map (·.1)) ([((Sum.inr "up":bt),D.str "rising"),(.inr "down",.str "reads"),(.inr "leave",.str "out"),(.inr "stop",x)].map (·.2)),S):=λx=>BQ (show [(Sum.inr "up":bt),.inr "down",.inr "leave",.inr "stop"].Nodup by decide +kernel) (by show 4<=15;decide)
 have fx:∀ x,aw S (.dct ([((Sum.inr "up":bt),D.str "rising"),(.inr "down",.str "reads"),(.inr "leave",.str "out"),(.inr "stop",x)].map (·.1)) ([((Sum.inr "up":bt),D.str "rising"),(.inr "down",.str "reads"),(.inr "leave",.str "out"),(.inr "stop",x)].map (·.2))) (.str k.s)=U (match k with | .up=>.str "rising" | .down=>.str "reads" | .leave=>.str "out" | .stop=>x):=λx=>by
  rw [fIx_d zj];cases k <;> simp (decide:=true) [Ak.s]
 simp only [zL,aE,Ga,mR,bf,ob,Eo,Em,jv,aq,am,aA,al,l2,av,bT,ak,bG,bP,bO,oj,aj,au,e1,bU,qq,ix,oX,El,kd,fx]
 cases k <;> rfl
def IY{g:Nat}{R':Rm}{w:Wd}{a0 a2 a3 a4 a5 a6 a7 a8 b0 b1 b2 b3:Option D}(hw:R'.1[g]?=U w):ES [a0,U (aQ R'),a2,a3,a4,a5,a6,a7,a8,U (.int (g:Int)),b0,b1,b2,b3] S=U (.lst ((if w=.rising then [Ev.mk "waits" g] else []).map Ev.d),S):=by
 have k2:∀ S (x y:D),cy ([x,y],S)=U (.tup [x,y],S):=λS x y=>aY (by simp)
 have l1:∀ S (x:D),oq ([x],S)=U (.lst [x],S):=λS x=>eK (by simp)
 have x1:aw S (cx R'.1) (.int (g:Int))=U w.d:=rE hw
 have e1:bW S w.d (.str "rising")=U (.bl (decide (w=.rising))):=nk (b:=.rising)
 simp only [ES,aE,jv,aq,bg,bf,ob,am,ak,bG,bP,bO,oj,aj,aA,al,k2,l1,av,bT,au,Rm.ix0,x1,e1,bU,qq,Mz]
 by_cases h:w=.rising <;> simp [h] <;> rfl
def IZ{g:Nat}{a0 a1 a2 a3 a5 a6 a7 a8 b0 b1 b2 b3:Option D}(hl:es.length<=100):EU [a0,a1,a2,a3,U (cf es),a5,a6,a7,a8,U (.int (g:Int)),b0,b1,b2,b3] S=U (.lst ((es.filter λe=>decide (e.g≠g)).map En.d),S):=by
 simp only [EU,bZ,du,ak,bG,bP,bO,oj,ob,aj,dX,Kx (es:=es) (g:=g) (cap:=[Y,U 9]) (env:=[a0,a1,a2,a3,U (cf es),a5,a6,a7,a8,U (.int (g:Int)),b0,b1,b2,b3]) rfl hl]
def Vg{k:Ak}:kR S (.str k.s) (.tup [.str "down",.str "leave"])=U (.bl (decide (k=.down\/k=.leave))):=by
 have h:([D.str "down",D.str "leave"].any λd=>jJ d (.str k.s))=decide (k=.down\/k=.leave):=by cases k <;> decide +kernel
 rw [jH (ys:=[.str "down",.str "leave"]) rfl rfl rfl,h]
def Px{w:Wd}:(tm r w es).length=es.length:=by unfold tm;split <;> simp
def Nz{can asked settled marked put:PF}(O:Wk can asked settled marked put){k:Ak}{g:Nat}{w:Wd}{a2 a5 a6 a7 b0 b1 b2 b3:Option D}(h:ROk R)(hl:R.1.length<=50)(hw:R.1[g]?=U w) :
  ∃ T,NA settled marked put [U r.d,U (aQ R),a2,U (cx R.1),U (cf R.2),a5,a6,a7,U (.str k.s),U (.int (g:Int)),b0,b1,b2,b3] S=U (.rt (.tup [aQ (mB r R k g w).1,cU (mB r R k g w).2]) (S++T)):=by
 have hle:=h.len
 have hg:g<R.1.length:=(Wo.mp hw).1
 have x1:∀ S,aw S (cx R.1) (.int (g:Int))=U w.d:=λS=>rE hw
 have k2:∀ S (x y:D),cy ([x,y],S)=U (.tup [x,y],S):=λS x y=>aY (by simp)
 have mk:∀ env S,env=[U r.d,U (aQ R),a2,U (cx R.1),U (cf R.2),a5,a6,a7,U (.str k.s),U (.int (g:Int)),U w.d,U (.lst ((fZ k g).map Ev.d)),b2,b3]->bz (ax (ar kR (ab 8) (aO (aa (mC (.str "down")) (aa (mC (.str "leave")) (ai)))))) (aF (ao 3 marked (aa (ab 0) (aa (ab 10) (aa (ab 4) (ai))))) (ah 4)) (aS) env S=U (.nx [U r.d,U (aQ R),a2,U (cx R.1),U (cf (if k=.down\/k=.leave then tm r w R.2 else R.2)),a5,a6,a7,U (.str k.s),U (.int (g:Int)),U w.d,U (.lst ((fZ k g).map Ev.d)),b2,b3] S):=λenv S he=>by
  subst he
  simp only [bi,aG,aE,ak,bG,bP,bO,oj,ob,aj,av,bg,aq,bf,am,aA,al,k2,au,Vg,aD]
  by_cases hk:k=.down\/k=.leave
  ·rw [WA hk,WI hk]
   simp only [bK,bn,aM,aq,ak,bG,bP,bO,oj,ob,aj,am,aA,al,bM,O.m S r w R.2 (by omega),bo,aU,eN,eV,bL]
  ·rw [WC hk,if_neg hk]
   simp only [bE,bv]
 have hel:(if k=.down\/k=.leave then tm r w R.2 else R.2).length<=100:=by split <;> (try rw [Px]) <;> omega
 have hA:=tH (r:=r) (k:=k) (w:=w) (g:=g) h (gz k w)
 have hO:=O.s S r (R.1.set g (gz k w),rA r k w g R.2) hA (by simp;exact hl)
 obtain⟨q1,q2⟩:=dN (r:=r) hA
 have qf:(aW r (R.1.set g (gz k w),rA r k w g R.2)).2.length<=100:=WT (nM _) (by show 2 * (R.1.set g (gz k w)).length<=100;rw [YB];omega)
 have pp:∀ S,put [cx R.1,.int (g:Int),(gz k w).d] S=U (cx (R.1.set g (gz k w)),S):=λS=>O.p S R.1 g _ hg (by omega)
 unfold mB
 generalize hE:aW r (R.1.set g (gz k w),rA r k w g R.2)=A at *
 obtain⟨R',evs⟩:=A
 dsimp only at *
 have hg':g<R'.1.length:=by rw [q2,YB];exact hg
 have hw':R'.1[g]?=U R'.1[g]:=Wv hg'
 have hO':settled [r.d,.tup [cx (R.1.set g (gz k w)),.tup (((if k=.down\/k=.leave then tm r w R.2 else R.2).filter λe=>decide (e.g≠g)).map En.d)]] S=U (.tup [aQ R',.ref S.length],S++[.lst (evs.map Ev.d)]):=hO
 have fl:(fZ k g).length<=1:=by cases k <;> simp [fZ]
 have ad:=Gr (S:=S) (k:=fZ k g) (l:=evs) (by omega) (by omega)
 have ad2:aR (S++[.lst (evs.map Ev.d)]) (.lst ((fZ k g++evs).map Ev.d)) (.lst ((if R'.1[g]=.rising then [Ev.mk "waits" g] else []).map Ev.d))=U (.lst ((fZ k g++evs++(if R'.1[g]=.rising then [Ev.mk "waits" g] else [])).map Ev.d)):=by
  rw [EF (by rw [Ww,Ww,WB];split <;> simp <;> omega),<- Xt]
 refine⟨[.lst (evs.map Ev.d)],?_⟩
 rw [hw']
 simp only [NA,aT,bn,aE,ak,bG,bP,bO,oj,ob,aj,av,au,x1,bo,aU,eN,eV,bL,aH,EW,mk _ _ rfl,bT,aq,IZ hel,am,aA,al,bU,fW,ER,aM,bg,bM,pp,k2,bh,hO',bS,bp,cI,bH,IY hw',aZ,ad,ad2,bx,XC]
 rfl
def wP{S:ac}:kR S (.str "rising") (cx ws)=U (.bl (decide (Wd.rising∈ws))):=by
 rw [jH (ys:=ws.map Wd.d) rfl rfl TX]
 congr 2
 rw [Ze]
 induction ws with
 | nil=>rfl
 | cons a l ih=>
  rw [XE,ih]
  show (jJ a.d (Wd.rising).d||_)=_
  rw [Vj,Xc]
  simp
  constructor
  ·rintro(h | h)
   ·exact .inl h.symm
   ·exact .inr h
  ·rintro(h | h)
   ·exact .inl h.symm
   ·exact .inr h
def Cy{dd:Dd}(h:dd≠.tick):(dg dd == ("tick":Str))=false:=by
 cases dd with
 | tick=>exact absurd rfl h
 | ask wr g t=>show (be wr == ("tick":Str))=false;cases wr <;> decide +kernel
 | act k g=>show (k.s == ("tick":Str))=false;cases k <;> decide +kernel
def MB{x:Str}{b:Bool}(hb:([D.str "read",D.str "write"].any λd=>jJ d (.str x))=b):kR S (.str x) (.tup [.str "read",.str "write"])=U (.bl b):=by
 rw [jH (ys:=[.str "read",.str "write"]) rfl rfl rfl,hb]
def qv:Option (Rm×List Ev)->D
 | none=>.non
 | some x=>.tup [aQ x.1,cU x.2]
def Ny{can asked settled marked put:PF}(O:Wk can asked settled marked put){N:List Str}(hN:N.length=14){dd:Dd}(h:ROk R)(hl:R.1.length<=50)(hd:dd.Ok R.1.length) :
  ∃ T,aP N (kj can asked settled marked put) 3 [r.d,aQ R,dd.d] S=U (qv (fo r R dd),S++T):=by
 have hst:aB N [r.d,aQ R,dd.d]=[U r.d,U (aQ R),U dd.d,Y,Y,Y,Y,Y,Y,Y,Y,Y,Y,Y]:=by simp [aB,hN,List.replicate]
 rw [bd (show [r.d,aQ R,dd.d].length=3 from rfl),hst]
 have hle:=h.len
 obtain⟨T0,hc⟩:=O.c S R dd (by omega) hd
 have g2:∀ env S,aK 2 (af (ah 3) (af (ah 4) (aC))) (aQ R) env S=(af (ah 3) (af (ah 4) (aC))) [cx R.1,cf R.2] env S:=λenv S=>bS
 have k2:∀ S (x y:D),cy ([x,y],S)=U (.tup [x,y],S):=λS x y=>aY (by simp)
 have k1:∀ S (x:D),cy ([x],S)=U (.tup [x],S):=λS x=>aY (by simp)
 unfold fo
 cases hb:gP R dd with
 | false=>
  rw [hb] at hc
  refine⟨T0,?_⟩
  simp only [kj,aT,bi,iY,dP,aM,aq,ak,bG,bP,bO,oj,ob,aj,am,aA,al,bh,hc,eX,jb,Xj,bK,aZ,bf,bx,bV,aI,WI,qv]
 | true=>
  rw [hb] at hc
  rw [if_neg (by decide)]
  by_cases ht:dd=.tick
  ·subst ht
   have xt:∀ S,aw S (Dd.tick).d (.int 0)=U (.str "tick"):=λS=>rfl
   have et:∀ S,bW S (.str "tick") (.str "tick")=U (.bl true):=λS=>by rw [cD,beq_self_eq_true]
   obtain⟨T,_,e⟩:=IW O.s (S:=S++T0) (r:=r) (R:=R) (a2:=U (Dd.tick).d) (a5:=Y) (a6:=Y) (a7:=Y) (a8:=Y) (a9:=Y) (b0:=Y) (b1:=Y) (b2:=Y) (b3:=Y) h hl
   refine⟨T0++T,?_⟩
   simp only [kj,aT,bi,iY,dP,aM,aq,ak,bG,bP,bO,oj,ob,aj,am,aA,al,bh,hc,eX,jb,Xa,bE,bv,aH,bn,bo,g2,bp,aU,cI,bH,eN,eV,bL,aG,aE,av,bf,au,xt,et,aD,bK,e,bV,aI,WR,qv]
  ·have et0:=Cy ht
   cases dd with
   | tick=>exact absurd rfl ht
   | ask wr g t=>
    have x0:∀ S,aw S (Dd.ask wr g t).d (.int 0)=U (.str (be wr)):=λS=>rfl
    have et:∀ S,bW S (.str (be wr)) (.str "tick")=U (.bl false):=λS=>by rw [cD];exact congrArg (λb=>U (D.bl b)) et0
    have sl:∀ S,iP (Dd.ask wr g t).d Y (U 2,S)=U (.tup [.str (be wr),.int (g:Int)],S):=λS=>rfl
    simp only [gP,Wq,XB,Bool.not_eq_true'] at hb
    obtain⟨T,e⟩:=O.a (S++T0) r R wr g t h hl hb.1 hb.2
    have fi:∀ S,kR S (.str (be wr)) (.tup [.str "read",.str "write"])=U (.bl true):=λS=>MB (by cases wr <;> decide +kernel)
    refine⟨T0++T,?_⟩
    simp only [kj,aT,bi,iY,dP,aM,aq,ak,bG,bP,bO,oj,ob,aj,am,aA,al,bh,hc,eX,jb,Xa,bE,bv,aH,bn,bo,g2,bp,aU,cI,bH,eN,eV,bL,aG,aE,av,bf,au,x0,et,aD,cH,eZ,cL,eY,dj,dm,sl,bS,bg,k2,fi,bK,aZ,bM,e,bx,bV,aI,WR,qv]
   | act k g=>
    have x0:∀ S,aw S (Dd.act k g).d (.int 0)=U (.str k.s):=λS=>rfl
    have et:∀ S,bW S (.str k.s) (.str "tick")=U (.bl false):=λS=>by rw [cD];exact congrArg (λb=>U (D.bl b)) et0
    have sl:∀ S,iP (Dd.act k g).d Y (U 2,S)=U (.tup [.str k.s,.int (g:Int)],S):=λS=>rfl
    have fi:∀ S,kR S (.str k.s) (.tup [.str "read",.str "write"])=U (.bl false):=λS=>MB (by cases k <;> decide +kernel)
    have fu:∀ S,bW S (.str k.s) (.str "up")=U (.bl (decide (k=.up))):=λS=>zE (j:=.up)
    have fc:(r.c == 0)=decide (r.c=0):=rfl
    have hg:g<R.1.length:=hd
    have hw:R.1[g]?=U R.1[g]:=Wv hg
    have ev1:D.tup [.tup [.str "no",.int (g:Int)]]=cU [⟨"no",g⟩]:=rfl
    obtain⟨T,e⟩:=Nz O (S:=S++T0) (r:=r) (R:=R) (k:=k) (g:=g) (a2:=U (Dd.act k g).d) (a5:=Y) (a6:=Y) (a7:=Y) (b0:=Y) (b1:=Y) (b2:=Y) (b3:=Y) h hl hw
    by_cases hu:k=.up/\(r.c=0\/Wd.rising∈R.1)
    ·refine⟨T0,?_⟩
     dsimp only
     rw [WI hu]
     have hu1:=WA hu.1
     by_cases hz:r.c=0
     ·simp only [kj,aT,bi,iY,dP,aM,aq,ak,bG,bP,bO,oj,ob,aj,am,aA,al,bh,hc,eX,jb,Xa,bE,bv,aH,bn,bo,g2,bp,aU,cI,bH,eN,eV,bL,aG,aE,av,bf,au,x0,et,aD,cH,eZ,cL,eY,dj,dm,sl,bS,bg,k2,fi,nT,fu,hu1,nV,iN,Rl.ix3,kL,fc,WA hz,zl,bK,aZ,k1,bx,bV,aI,qv,ev1]
     ·have hr:Wd.rising∈R.1:=hu.2.resolve_left hz
      simp only [kj,aT,bi,iY,dP,aM,aq,ak,bG,bP,bO,oj,ob,aj,am,aA,al,bh,hc,eX,jb,Xa,bE,bv,aH,bn,bo,g2,bp,aU,cI,bH,eN,eV,bL,aG,aE,av,bf,au,x0,et,aD,cH,eZ,cL,eY,dj,dm,sl,bS,bg,k2,fi,nT,fu,hu1,nV,iN,Rl.ix3,kL,fc,WC hz,lT,wP,WA hr,bK,aZ,k1,bx,bV,aI,qv,ev1]
    ·refine⟨T0++T,?_⟩
     dsimp only
     rw [if_neg hu,hw]
     dsimp only
     have tst:∀ (T:ac) (a5 a6 a7 b0 b1 b2 b3:Option D),dc (ax (ar bW (ab 8) (mC (.str "up")))) (eG (ax (ar bW (ar aw (ab 0) (mC (.int 3))) (mC (.int 0)))) (ax (ar kR (mC (.str "rising")) (ab 3)))) [U r.d,U (aQ R),U (Dd.act k g).d,U (cx R.1),U (cf R.2),a5,a6,a7,U (.str k.s),U (.int (g:Int)),b0,b1,b2,b3] T=U (false,T):=λT a5 a6 a7 b0 b1 b2 b3=>by
      simp only [nT,aG,aE,ak,bG,bP,bO,oj,ob,aj,av,bf,au,fu,aD]
      by_cases hk:k=.up
      ·have hz:¬ r.c=0:=λz=>hu ⟨hk,.inl z⟩
       have hr:¬ Wd.rising∈R.1:=λz=>hu ⟨hk,.inr z⟩
       rw [WA hk]
       simp only [nV,iN,aG,aE,ak,bG,bP,bO,oj,ob,aj,av,bf,au,Rl.ix3,kL,fc,WC hz,aD,lT,wP,WC hr]
      ·rw [WC hk,zw]
     simp only [kj,aT,bi,iY,dP,aM,aq,ak,bG,bP,bO,oj,ob,aj,am,aA,al,bh,hc,eX,jb,Xa,bE,bv,aH,bn,bo,g2,bp,aU,cI,bH,eN,eV,bL,aG,aE,av,bf,au,x0,et,aD,cH,eZ,cL,eY,dj,dm,sl,bS,bg,k2,fi,tst,e,aI,WR,qv]
end
def Grow(r:Nat)(S S':ac):Prop:=S.length<=S'.length/\∀ j,j<S.length->j≠r->S'[j]?=S[j]?
def Grow.of{r:Nat}{S S':ac}(h:Keep r S S'):Grow r S S':=⟨Zd h.2.symm,λj _ hj=>h.1 j hj⟩
theorem Grow.trans{r:Nat}{S S' S'':ac}(h:Grow r S S')(h':Grow r S' S''):Grow r S S'':=⟨WT h.1 h'.1,λj hj hr=>(h'.2 j (WQ hj h.1) hr).trans (h.2 j hj hr)⟩
def Pk.appT{S T:ac}{r:Nat}(h:Pk S r):Pk (S++T) r:=by
 obtain⟨a,b,d,h,z⟩:=h
 exact⟨a,b,d,by rw [WE (Wo.mp h).1];exact h,z⟩
def Pk.lt{S:ac}{r:Nat}(h:Pk S r):r<S.length:=by
 obtain⟨a,b,d,h,z⟩:=h
 exact(Wo.mp h).1
structure Formed(R:Rm):Prop where
 ok:ROk R
 m0:∀ e∈R.2,0<=e.m/\e.m<=999
 t1:∀ e∈R.2,∀ k,e.t=U k->1<=k/\k<=9
theorem ve{α:Type}{x:α}:∀ n:Nat,(List.replicate n [x]).flatten=List.replicate n x
 | 0=>rfl
 | n+1=>by rw [WX,Xw,ve n,WX];rfl
def yq(deed done:PF):MS:=ay (aF (ao 2 deed (aa (ab 0) (aa (ab 2) (ai)))) (ah 7)) (ay (aF (ao 3 done (aa (ab 1) (aa (ab 4) (aa (ab 7) (ai))))) (ah 8)) (bz (ax (ar nh (ab 8) (mC .non))) (ay (cV (da ce (ab 5) (aa (ab 7) (ai)))) (aF (ar aw (ab 8) (mC (.int 0))) (ah 4))) (aS)))
def Ei(deed done:PF):MS:=
 ay (aF (aO (aa (ar cz (aO (aa (mC (.str "out")) (ai))) (ab 2)) (aa (aO (ai)) (ai)))) (ah 4)) (ay (aF (dI (ai)) (ah 5)) (ay (iZ (cB (aa (ab 3) (ai))) (ah 6) (yq deed done)) (aX (aO (aa (ba (aJ (cr .tup)) (aa (ab 5) (ai))) (aa (ab 4) (ai)))))))
structure Sw(deed done:PF):Prop where
 de:∀ (S:ac) (r n:Nat),Pk S r->1<=n->n<=5->∃ (dd:Dd) (S':ac),deed [.ref r,.int (n:Int)] S=U (dd.d,S')/\dd.Ok n/\Pk S' r/\Keep r S S'
 dn:∀ (S:ac) (rl:Rl) (R:Rm) (dd:Dd),ROk R->R.1.length<=50->dd.Ok R.1.length->∃ T,done [rl.d,aQ R,dd.d] S=U (qv (fo rl R dd),S++T)
def bX(n:Nat):Rm:=(List.replicate n .out,[])
def jm{n:Nat}:ROk (bX n):=⟨λe h=>by simp [bX] at h,by simp [bX]⟩
inductive Behind(r:Rl)(n:Nat):List Dd->Rm->Prop
 | nil:Behind r n [] (bX n)
 | snoc {l:List Dd} {R:Rm} {d:Dd} {x:Rm×List Ev} (h:Behind r n l R) (hd:d.Ok n) (e:fo r R d=U x):Behind r n (l++[d]) x.1
def Behind.ok{r:Rl}{n:Nat}{l:List Dd}{R:Rm}(h:Behind r n l R):ROk R/\R.1.length=n:=by
 induction h with
 | nil=>exact⟨jm,by simp [bX]⟩
 | snoc h hd e ih=>obtain⟨a,b⟩:=fQ ih.1 e;exact⟨a,b.trans ih.2⟩
def OA{deed done:PF}(O:Sw deed done){S:ac}{r n m:Nat}{rl:Rl}{N:List Str}(hN:N.length=9)(P:Pk S r)(h1:1<=n)(h5:n<=5)(hm:m<=400) :
  ∃ (l:List Dd) (R:Rm) (S':ac),aP N (Ei deed done) 4 [.ref r,rl.d,.int (n:Int),.int (m:Int)] S=U (.tup [.tup (l.map Dd.d),aQ R],S')/\Behind rl n l R/\l.length<=m/\Pk S' r/\Grow r S S':=by
 have hst:aB N [D.ref r,rl.d,D.int (n:Int),D.int (m:Int)]=[U (.ref r),U rl.d,U (.int (n:Int)),U (.int (m:Int)),Y,Y,Y,Y,Y]:=by simp [aB,hN,List.replicate]
 rw [bd (show [D.ref r,rl.d,D.int (n:Int),D.int (m:Int)].length=4 from rfl),hst]
 have hq:S.length≠r:=λz=>by have:=P.lt;omega
 have k1:∀ S (x:D),cy ([x],S)=U (.tup [x],S):=λS x=>aY (by simp)
 have k0:∀ S,cy ([],S)=U (.tup [],S):=λS=>aY (by simp)
 have k2:∀ S (x y:D),cy ([x,y],S)=U (.tup [x,y],S):=λS x y=>aY (by simp)
 have kl:qa ([],S)=U (.ref S.length,S++[.lst []]):=jx (by simp)
 have mu:∀ S,cz S (.tup [.str "out"]) (.int (n:Int))=U (cx (bX n).1):=λS=>by
  rw [Go (by omega) (by omega) (by simp;omega),Xr]
  show U (D.tup _)=U (D.tup ((List.replicate n Wd.out).map Wd.d))
  congr 2
  rw [List.map_replicate,ve];rfl
 have kr:∀ S,RR ([.int (m:Int)],S)=U (cJ 0 m,S):=λS=>by rw [qV (by omega) (by omega),Xr]
 obtain⟨env',S',e2,R,l,o6,o7,o8,rfl,P3,hc,B,hle,hz,fr⟩:=forR (tg:=ah 6) (p:=yq deed done) (lo:=0) (λi env T=>∃ (R:Rm) (l:List Dd) (o6 o7 o8:Option D),env=[U (.ref r),U rl.d,U (.int (n:Int)),U (.int (m:Int)),U (aQ R),U (.ref S.length),o6,o7,o8]/\Pk T r/\T[S.length]?=U (.lst (l.map Dd.d))/\Behind rl n l R/\l.length<=i/\S.length<=T.length/\∀ j,j≠r->j<S.length->T[j]?=S[j]?) m
  (λi hi env T hI=>by
   obtain⟨R,l,o6,o7,o8,rfl,P,hc,B,hle,hz,fr⟩:=hI
   obtain⟨ok,hn⟩:=B.ok
   obtain⟨dd,S1,e1,od,P1,K1⟩:=O.de T r n P h1 h5
   obtain⟨T2,e3⟩:=O.dn S1 rl R dd ok (by omega) (by rw [hn];exact od)
   have hql:S.length<T.length:=(Wo.mp hc).1
   have c1:(S1++T2)[S.length]?=U (.lst (l.map Dd.d)):=by
    rw [WE (by rw [K1.2];exact hql),K1.1 _ hq,hc]
   have fr1:∀ j,j≠r->j<S.length->(S1++T2)[j]?=S[j]?:=λj jr jl=>by
    rw [WE (by rw [K1.2];omega),K1.1 j jr,fr j jr jl]
   cases hd:fo rl R dd with
   | none=>
    rw [hd] at e3
    have e3':done [rl.d,aQ R,dd.d] S1=U (.non,S1++T2):=e3
    refine⟨_,_,_,_,aU,?_,R,l,U (.int (0+(i:Int))),U dd.d,U .non,rfl,P1.appT,c1,B,by omega,by simp;rw [K1.2];omega,fr1⟩
    simp only [yq,aT,bn,aM,aq,ak,bG,bP,bO,oj,ob,aj,am,aA,al,bh,e1,bo,aU,eN,eV,bL,aH,bM,e3',bi,aG,aE,av,bf,au,qp,mV,Xa,aD,bE,bv]
   | some x=>
    rw [hd] at e3
    have e3':done [rl.d,aQ R,dd.d] S1=U (.tup [aQ x.1,cU x.2],S1++T2):=e3
    have ap:ce (.ref S.length) [dd.d] (S1++T2)=U (.non,(S1++T2).set S.length (.lst ((l++[dd]).map Dd.d))):=by
     rw [lx c1 (by rw [Ww];omega)];simp
    have km:∀ f ms env,rQ f ms env (.ref S.length,S1++T2)=(ms env (S1++T2)).bind (eI f (.ref S.length)):=λf ms env=>pZ c1
    have hql2:S.length<(S1++T2).length:=(Wo.mp c1).1
    refine⟨_,_,_,_,aU,?_,x.1,l++[dd],U (.int (0+(i:Int))),U dd.d,U (.tup [aQ x.1,cU x.2]),rfl,?_,WV hql2,B.snoc od hd,by simp;omega,by rw [YB];omega,λj jr jl=>?_⟩
    ·simp only [yq,aT,bn,aM,aq,ak,bG,bP,bO,oj,ob,aj,am,aA,al,bh,e1,bo,aU,eN,eV,bL,aH,bM,e3',bi,aG,aE,av,bf,au,qp,mV,Xj,aD,bK,io,im,km,dJ,ap,ip,fIx_t,at2]
    ·obtain⟨a,b,c,h,z⟩:=P1.appT (T:=T2)
     exact⟨a,b,c,by rw [WO hq];exact h,z⟩
    ·rw [WO (by omega)];exact fr1 j jr jl)
  [U (.ref r),U rl.d,U (.int (n:Int)),U (.int (m:Int)),U (aQ (bX n)),U (.ref S.length),Y,Y,Y] (S++[.lst []]) ⟨bX n,[],Y,Y,Y,rfl,P.appT,by simp,.nil,WD _,by simp,λj _ jl=>WE jl⟩
 have fe:aJ (cr .tup) [.ref S.length] S'=U (.tup (l.map Dd.d),S'):=nX hc
 refine⟨l,R,S',?_,B,hle,P3,⟨hz,λj jl jr=>fr j jr jl⟩⟩
 have er:∀ S,cy ([cx (bX n).1,.tup []],S)=U (aQ (bX n),S):=λS=>k2 S _ _
 simp only [Ei,aT,bn,bg,aq,aE,bf,ob,am,aA,al,k1,av,ak,bG,bP,bO,oj,aj,au,mu,k0,er,bo,aU,eN,eV,bL,aH,nQ,kl,uF,jk,kr,uM,e2,aZ,bT,bU,fe,k2,bx,aI]
section
variable{α:Type}{enc:α->D}{p:Nat->α->Bool}{f:Nat->α->D}{t:MT}{e:ME}{rest:bj}{S:ac}
theorem NP:∀ (xs:List α) (k:Nat) (a b:Option D),(∀ i x,xs[i]?=U x->t (U (.int ((k+i:Nat):Int))::U (enc x)::rest) S=U (p (k+i) x,S))->(∀ i x,xs[i]?=U x->e (U (.int ((k+i:Nat):Int))::U (enc x)::rest) S=U (f (k+i) x,S))->dS (aK 2 (af (ah 0) (af (ah 1) (aC)))) t e (eM k (xs.map enc)) (a::b::rest) S=U (((xs.zipIdx k).filter λq=>p q.2 q.1).map λq=>f q.2 q.1,S)
 | [],k,a,b,_,_=>by simp [eM]
 | x::r,k,a,b,h,h2=>by
  have ih:=NP r (k+1) (U (.int (k:Int))) (U (enc x)) (λi y hy=>by
   have:=h (i+1) y (by simpa using hy)
   rw [show k+(i+1)=k+1+i by omega] at this
   exact this) (λi y hy=>by
   have:=h2 (i+1) y (by simpa using hy)
   rw [show k+(i+1)=k+1+i by omega] at this
   exact this)
  have h0:=h 0 x rfl
  have h20:=h2 0 x rfl
  rw [aap] at h0 h20
  rw [Wx,eM,iy,bS,bp,aU,ob,eN,cI,bp,aU,ob,eV,eN,cI,bH,ob,zu,h0,ob,Ya]
  cases hp:p k x with
  | true=>
   rw [zt,h20,ob,zr,ih,ob,zq,YQ (p:=λq:α×Nat=>p q.2 q.1) (a:=(x,k)) hp,Wx]
  | false=>rw [Eu,ih,YR (p:=λq:α×Nat=>p q.2 q.1) (a:=(x,k)) (by simp [hp])]
def PK{cap:List (Option Nat)}{env:bj}{a b:Option D}{xs:List α}(hc:wA cap env=a::b::rest)(hl:xs.length<=1000)(h:∀ (i:Nat) x,xs[i]?=U x->t (U (.int (i:Int))::U (enc x)::rest) S=U (p i x,S))(h2:∀ (i:Nat) x,xs[i]?=U x->e (U (.int (i:Int))::U (enc x)::rest) S=U (f i x,S)) :
  oE (aK 2 (af (ah 0) (af (ah 1) (aC)))) t e cap env (eM 0 (xs.map enc),S)=U (.lst ((xs.zipIdx.filter λq=>p q.2 q.1).map λq=>f q.2 q.1),S):=by
 rw [lg (by rw [nZ,Ww];exact hl),hc,NP xs 0 a b (λi x hx=>by rw [Zc];exact h i x hx) (λi x hx=>by rw [Zc];exact h2 i x hx),ob,mU]
end
def tz(p:Wd->Bool)(ws:List Wd):List Nat:=(ws.zipIdx.filter λq=>p q.1).map (·.2)
def mem_zi{α:Type}{xs:List α}{x:α}{i:Nat}:(x,i)∈xs.zipIdx↔xs[i]?=U x:=by
 rw [List.mem_zipIdx_iff_getElem?]
def mem_ixW{p:Wd->Bool}{ws:List Wd}{i:Nat}:i∈tz p ws↔∃ w,ws[i]?=U w/\p w=true:=by
 unfold tz
 rw [WP]
 constructor
 ·rintro⟨⟨w,j⟩,h,rfl⟩
  obtain⟨h1,h2⟩:=Xm.mp h
  exact⟨w,mem_zi.mp h1,h2⟩
 ·rintro⟨w,h1,h2⟩
  exact⟨(w,i),Xm.mpr ⟨mem_zi.mpr h1,h2⟩,rfl⟩
def nt(l:List Nat):D:=.tup (l.map ni)
def Qb{p:Wd->Bool}{ws:List Wd}:D.lst ((ws.zipIdx.filter λq=>p q.1).map λq=>.int (q.2:Int))=nl (tz p ws):=by
 unfold nl tz ni;rw [Xn];rfl
def Du:MS:=aX (ba (aJ (cr .tup)) (aa (bI (eS (aa (ar aw (ab 0) (mC (.int 0))) (ai))) (aK 2 (af (ah 0) (af (ah 1) (aC)))) (ax (ar kR (ab 1) (ab 2))) (ab 0) [Y,Y,U 1]) (ai)))
def Ft{ws:List Wd}{S:ac}:BP ([cx ws],S)=U (eM 0 (ws.map Wd.d),S):=rfl
def Ve{S:ac}{w:Wd}{l:List Wd}:kR S w.d (cx l)=U (.bl (decide (w∈l))):=by
 rw [jH (ys:=l.map Wd.d) rfl rfl TX]
 congr 2
 rw [Ze]
 induction l with
 | nil=>rfl
 | cons a l ih=>
  rw [XE,ih]
  show (jJ a.d w.d||_)=_
  rw [Vj,Xc]
  simp
  constructor
  ·rintro(h | h)
   ·exact .inl h.symm
   ·exact .inr h
  ·rintro(h | h)
   ·exact .inl h.symm
   ·exact .inr h
def UM{N:List Str}(hN:N.length=2){S:ac}{R:Rm}{l:List Wd}(hl:R.1.length<=100):aP N Du 2 [aQ R,cx l] S=U (nt (tz (λw=>decide (w∈l)) R.1),S):=by
 have hst:aB N [aQ R,cx l]=[U (aQ R),U (cx l)]:=by simp [aB,hN]
 rw [bd (show [aQ R,cx l].length=2 from rfl),hst]
 have k:=zk (S:=S) (t:=ax (ar kR (ab 1) (ab 2))) (cap:=[Y,Y,U 1]) (env:=[U (aQ R),U (cx l)]) (rest:=[U (cx l)]) (a:=Y) (b:=Y) (enc:=Wd.d) (p:=λw=>decide (w∈l)) (xs:=R.1) rfl (by omega) (λi x _=>by simp only [aG,aE,ak,bG,bP,bO,oj,ob,aj,av,au,Ve,aD])
 rw [Qb (p:=λw=>decide (w∈l))] at k
 have fs:aJ (cr .tup) [nl (tz (λw=>decide (w∈l)) R.1)] S=U (nt (tz (λw=>decide (w∈l)) R.1),S):=fW
 simp only [Du,aZ,bT,aq,bZ,nS,aE,ak,bG,bP,bO,oj,ob,aj,av,bf,au,Rm.ix0,am,aA,al,Ft,k,bU,fs,bx,aI]
def jW(R:Rm)(g:Nat):D:=if R.1[g]?=U .rising then .str "up" else match R.2.find? λe=>decide (e.g=g) with
 | some e=>.str (be e.wr)
 | none=>.non
def mF:MS:=bz (ax (ar bW (ar aw (ab 2) (mC (.int 0))) (ab 1))) (aX (ar aw (ab 2) (mC (.int 1)))) (aS)
def mI(gw:PF):MS:=ay (bz (ax (ar kR (ab 1) (ao 2 gw (aa (ab 0) (aa (aO (aa (mC (.str "rising")) (ai))) (ai)))))) (aX (mC (.str "up"))) (aS)) (ay (dO (ar aw (ab 0) (mC (.int 1))) (ah 2) mF) (aX (mC .non)))
def Of(gw:PF):Prop:=∀ (S:ac) (R:Rm) (l:List Wd),R.1.length<=100->gw [aQ R,cx l] S=U (nt (tz (λw=>decide (w∈l)) R.1),S)
def Vf{S:ac}{g:Nat}{l:List Nat}:kR S (.int (g:Int)) (nt l)=U (.bl (decide (g∈l))):=by
 rw [jH (ys:=l.map ni) rfl rfl (by rw [WJ];intro d hd;obtain⟨i,_,rfl⟩:=WP.mp hd;rfl)]
 congr 2
 rw [Ze]
 induction l with
 | nil=>rfl
 | cons a l ih=>
  rw [XE,ih]
  show (((a:Int) == (g:Int))||_)=_
  rw [Xc]
  simp
  constructor
  ·rintro(h | h)
   ·exact .inl (by omega)
   ·exact .inr h
  ·rintro(h | h)
   ·exact .inl (by omega)
   ·exact .inr h
theorem wF{S:ac}{R:Rm}{g:Nat}:∀ (es:List En) (a:Option D),cn (ah 2) mF (es.map En.d) [U (aQ R),U (.int (g:Int)),a] S=(match es.find? λe=>decide (e.g=g) with | some e=>U (.rt (.str (be e.wr)) S) | none=>U (.nx [U (aQ R),U (.int (g:Int)),match es.getLast? with | some e=>U e.d | none=>a] S))
 | [],a=>by simp
 | e::l,a=>by
  have ih:=wF (S:=S) (R:=R) (g:=g) l (U e.d)
  have c:((e.g:Int) == (g:Int))=decide (e.g=g):=by rw [Xc];simp;omega
  rw [Wx,dw,aU,ob,eV,eV,eN,kJ]
  simp only [mF,bi,aG,aE,ak,bG,bP,bO,oj,ob,aj,av,bf,au,En.ix0,kL,c,aD,Xh]
  cases hd:decide (e.g=g) with
  | true=>simp only [bK,aZ,aE,ak,bG,bP,bO,oj,ob,aj,av,bf,au,En.ix1,bx,Gf]
  | false=>
   rw [bE,bv,ob,jc]
   show cn (ah 2) mF _ _ _=_
   rw [ih]
   cases hf:l.find? λe=>decide (e.g=g) with
   | some x=>rfl
   | none=>
    dsimp only
    congr 4
    cases l with
    | nil=>rfl
    | cons y l=>rw [List.getLast?_cons_cons];cases hh:(y::l).getLast? with
     | none=>simp at hh
     | some z=>rfl
def JR{gw:PF}(O:Of gw){N:List Str}(hN:N.length=3){S:ac}{R:Rm}{g:Nat}(hl:R.1.length<=100):aP N (mI gw) 2 [aQ R,.int (g:Int)] S=U (jW R g,S):=by
 have hst:aB N [aQ R,.int (g:Int)]=[U (aQ R),U (.int (g:Int)),Y]:=by simp [aB,hN,List.replicate]
 rw [bd (show [aQ R,D.int (g:Int)].length=2 from rfl),hst]
 have o1:gw [aQ R,.tup [.str "rising"]] S=U (nt (tz (λw=>decide (w∈[Wd.rising])) R.1),S):=O S R [.rising] hl
 have k1:cy ([.str "rising"],S)=U (.tup [.str "rising"],S):=aY (by simp)
 have mm:decide (g∈tz (λw=>decide (w∈[Wd.rising])) R.1)=decide (R.1[g]?=U .rising):=by
  rw [decide_eq_decide,mem_ixW]
  constructor
  ·rintro⟨w,h1,h2⟩;rw [h1];simpa using h2
  ·intro h;exact⟨.rising,h,by simp⟩
 have ek:mT (ah 2) mF [U (aQ R),U (.int (g:Int)),Y] (cf R.2,S)=cn (ah 2) mF (R.2.map En.d) [U (aQ R),U (.int (g:Int)),Y] S:=rfl
 simp only [mI,aT,bi,aG,aE,ak,bG,bP,bO,oj,ob,aj,av,aM,aq,am,bg,bf,aA,al,k1,bh,o1,au,Vf,mm,aD]
 unfold jW
 by_cases h:R.1[g]?=U .rising
 ·rw [WA h,WI h];simp
 ·rw [WC h,if_neg h]
  simp only [bE,bv,ob,aH,aT,lP,aE,ak,bG,bP,bO,oj,aj,av,bf,au,Rm.ix1,ek,wF]
  cases R.2.find? λe=>decide (e.g=g) with
  | some e=>simp
  | none=>simp
def cG(ws:List Wd)(g:Nat):List Wd:=(ws.zipIdx.filter λq=>!decide (q.1=.out) && !decide (q.2=g)).map (·.1)
def dY(r:Rl)(R:Rm)(g:Nat):Bool:=
 if R.1[g]?=U .rising then (cG R.1 g).isEmpty else match R.2.find? λe=>decide (e.g=g) with
 | none=>false
 | some e=>if e.wr then (cG R.1 g).isEmpty else (cG R.1 g).all (λw=>decide (w=.reads))&&(decide (r.a=0)||decide (((cG R.1 g).length:Int)<r.a))
def vw:ME:=bI (eS (aa (ar aw (ab 1) (mC (.int 0))) (ai))) (aK 2 (af (ah 0) (af (ah 1) (aC)))) (dc (ax (ar gv (ab 1) (mC (.str "out")))) (ax (ar gv (ab 0) (ab 2)))) (ab 1) [Y,Y,U 2]
def NS:ME:=bI (db (ab 4)) (ah 0) (bY) (ar bW (ab 0) (mC (.str "reads"))) [Y]
def gl(wait:PF):MS:=
 ay (aF (ao 2 wait (aa (ab 1) (aa (ab 2) (ai)))) (ah 3)) (ay (bz (ax (ar wy (ab 3) (mC .non))) (aX (mC (.bl false))) (aS)) (ay (aF vw (ah 4)) (ay (bz (ax (ar gv (ab 3) (mC (.str "read")))) (aX (gF (ab 4))) (aS)) (ay (aF (ar aw (ab 0) (mC (.int 1))) (ah 5)) (aX (dA (ba (aJ zF) (aa NS (ai))) (vE (ar bW (ab 5) (mC (.int 0))) (ar Qq (ba (aJ eg) (aa (ab 4) (ai))) (ab 5)))))))))
def rB(wait:PF):Prop:=∀ (S:ac) (R:Rm) (g:Nat),R.1.length<=100->wait [aQ R,.int (g:Int)] S=U (jW R g,S)
section
variable{S:ac}{R:Rm}{r:Rl}{g:Nat}
def nE{a0 a3 a4 a5:Option D}(hl:R.1.length<=100):vw [a0,U (aQ R),U (.int (g:Int)),a3,a4,a5] S=U (.lst ((cG R.1 g).map Wd.d),S):=by
 have k:=PK (S:=S) (t:=dc (ax (ar gv (ab 1) (mC (.str "out")))) (ax (ar gv (ab 0) (ab 2)))) (e:=ab 1) (cap:=[Y,Y,U 2]) (env:=[a0,U (aQ R),U (.int (g:Int)),a3,a4,a5]) (rest:=[U (.int (g:Int))]) (a:=Y) (b:=Y) (enc:=Wd.d) (p:=λi w=>!decide (w=.out) && !decide (i=g)) (f:=λ_ w=>w.d) (xs:=R.1) rfl (by omega) (λi w _=>by
  have e1:gv S w.d (.str "out")=U (.bl (!decide (w=.out))):=vi (b:=.out)
  have c:((i:Int) == (g:Int))=decide (i=g):=by rw [Xc];simp;omega
  simp only [nT,aG,aE,ak,bG,bP,bO,oj,ob,aj,av,bf,au,e1,aD]
  cases hd:decide (w=.out) with
  | true=>simp
  | false=>simp only [Xj,nV,aG,aE,ak,bG,bP,bO,oj,ob,aj,av,au,My,c,aD,YS]) (λi w _=>by simp)
 simp only [vw,bZ,nS,aq,aE,ak,bG,bP,bO,oj,ob,aj,av,bf,au,Rm.ix0,am,aA,al,Ft,k]
 unfold cG
 rw [Xn];rfl
theorem vz{α:Type}{p:α->Bool}:∀ l:List α,mf (l.map λx=>D.bl (p x))=U (l.map p)
 | []=>rfl
 | x::l=>by
  have:=vz (p:=p) l
  rw [Wx,Wx]
  simp only [mf,this];rfl
def NR{l:List Wd}{a0 a1 a2 a3 a5:Option D}(hl:l.length<=100):NS [a0,a1,a2,a3,U (.lst (l.map Wd.d)),a5] S=U (.lst (l.map λw=>.bl (decide (w=.reads))),S):=by
 have k:=eW (S:=S) (t:=bY) (e:=ar bW (ab 0) (mC (.str "reads"))) (cap:=[Y]) (env:=[a0,a1,a2,a3,U (.lst (l.map Wd.d)),a5]) (rest:=[]) (a:=Y) (enc:=Wd.d) (p:=λ_=>true) (f:=λw=>.bl (decide (w=.reads))) (xs:=l) rfl (by omega) (λx _=>kh) (λx _ _=>by
  have e1:bW S x.d (.str "reads")=U (.bl (decide (x=.reads))):=nk (b:=.reads)
  simp only [aE,ak,bG,oj,ob,aj,av,bf,au,e1])
 rw [XD.mpr (λ_ _=>rfl)] at k
 simp only [NS,bZ,du,ak,bG,bP,bO,oj,ob,aj,zm,k]
def Ro:(cG R.1 g).length<=R.1.length:=by
 unfold cG;rw [Ww];exact WT (XG _ _) (by simp)
def Jl{wait:PF}(O:rB wait){N:List Str}(hN:N.length=6)(hl:R.1.length<=100):aP N (gl wait) 3 [r.d,aQ R,.int (g:Int)] S=U (.bl (dY r R g),S):=by
 have hst:aB N [r.d,aQ R,.int (g:Int)]=[U r.d,U (aQ R),U (.int (g:Int)),Y,Y,Y]:=by simp [aB,hN,List.replicate]
 rw [bd (show [r.d,aQ R,D.int (g:Int)].length=3 from rfl),hst]
 have bl:=Ro (R:=R) (g:=g)
 unfold dY
 have e1:=O S R g hl
 have fa:aJ zF [.lst ((cG R.1 g).map λw=>.bl (decide (w=.reads)))] S=U (.bl ((cG R.1 g).all λw=>decide (w=.reads)),S):=by
  rw [MH (vz _)];congr 3;rw [List.all_map];rfl
 have fl:aJ eg [.lst ((cG R.1 g).map Wd.d)] S=U (.int ((cG R.1 g).length:Nat),S):=by rw [Vb,Ww]
 have nb:BN (.lst ((cG R.1 g).map Wd.d),S)=U (.bl (cG R.1 g).isEmpty,S):=by
  rw [PP];cases cG R.1 g <;> rfl
 unfold jW at e1
 by_cases h:R.1[g]?=U .rising
 ·rw [WI h] at e1 ⊢
  have ne:gv S (.str "up") (.str "read")=U (.bl true):=by rw [rg];rfl
  simp only [gl,aT,bn,aM,aq,ak,bG,bP,bO,oj,ob,aj,am,aA,al,bh,e1,bo,aU,eN,eV,bL,aH,bi,aG,aE,av,bf,au,mx,mV,aD,bE,bv,nE hl,ne,bK,aZ,FV,nb,bx,bV,aI]
 ·rw [if_neg h] at e1 ⊢
  cases hf:R.2.find? λe=>decide (e.g=g) with
  | none=>
   rw [hf] at e1
   simp only [gl,aT,bn,aM,aq,ak,bG,bP,bO,oj,ob,aj,am,aA,al,bh,e1,bo,aU,eN,eV,bL,aH,bi,aG,aE,av,bf,au,mx,mV,aD,bK,aZ,bx,bV,aI]
  | some e=>
   rw [hf] at e1
   dsimp only at e1 ⊢
   have ne:gv S (.str (be e.wr)) (.str "read")=U (.bl e.wr):=by rw [rg,sU,Bool.not_not]
   cases hw:e.wr with
   | true=>
    rw [hw] at e1 ne
    simp only [gl,aT,bn,aM,aq,ak,bG,bP,bO,oj,ob,aj,am,aA,al,bh,e1,bo,aU,eN,eV,bL,aH,bi,aG,aE,av,bf,au,mx,mV,aD,bE,bv,nE hl,ne,bK,aZ,FV,nb,bx,bV,aI,WI]
   | false=>
    rw [hw] at e1 ne
    have e3:(r.a == 0)=decide (r.a=0):=rfl
    simp only [gl,aT,bn,aM,aq,ak,bG,bP,bO,oj,ob,aj,am,aA,al,bh,e1,bo,aU,eN,eV,bL,aH,bi,aG,aE,av,bf,au,mx,mV,aD,bE,bv,nE hl,ne,aZ,lR,bT,NR (show (cG R.1 g).length<=100 by omega),bU,fa,Rl.ix1,WZ,XW]
    cases hA:(cG R.1 g).all λw=>decide (w=.reads) with
    | false=>simp
    | true=>
     cases hz:decide (r.a=0) with
     | true=>simp [e3,hz]
     | false=>simp [e3,hz,fl,-beq_iff_eq]
end
def zC:List (bt×D):=[(.inr "rows",.non),(.inr "readers",.str "read"),(.inr "writers",.str "write"),(.inr "turns",.str "write")]
def CO:List (bt×D):=[(.inr "read",.str "reads"),(.inr "write",.str "writes")]
def UV:Rw->D
 | .rows=>.non
 | .readers=>.str "read"
 | _=>.str "write"
def sP(w:Rw)(e:En):Bool:=match w with
 | .rows=>false
 | .readers=>!e.wr
 | _=>e.wr
def UU{S:ac}{w:Rw}(h:w≠.passes):oZ zC (.str w.s,S)=U (UV w,S):=by
 cases w <;> first | exact absurd rfl h | simp (decide:=true) [oZ,ee,fY,zC,UV,Rw.s]
def JO{S:ac}{b:Bool}:oZ CO (.str (be b),S)=U ((if b then Wd.writes else Wd.reads).d,S):=by
 cases b <;> simp (decide:=true) [oZ,ee,fY,CO,be,Wd.d,Wd.s]
def Qu{S:ac}{w:Rw}{e:En}:bW S (.str (be e.wr)) (UV w)=U (.bl (sP w e)):=by
 have h1:bW S (.str (be e.wr)) (.str "read")=U (.bl (!e.wr)):=by rw [cD,sU]
 have h2:bW S (.str (be e.wr)) (.str "write")=U (.bl e.wr):=by rw [cD,po]
 cases w with
 | rows=>exact lX rfl rfl
 | readers=>exact h1
 | _=>exact h2
def kT(w:Rw)(e:En):Bool:=decide (w=.turns)&&decide (e.m=1)
def kn(w:Rw)(es:List En):List Nat:=(es.filter (kT w)).map (·.g)++(es.filter (sP w)).map (·.g)++es.map (·.g)
def oo:Option Nat->D
 | none=>.non
 | some g=>.int (g:Int)
def vd:ME:=bI (db (ab 1)) (ah 0) (dc (ax (ar bW (ab 1) (mC (.str "turns")))) (ax (ar bW (ar aw (ab 0) (mC (.int 2))) (mC (.int 1))))) (ar aw (ab 0) (mC (.int 0))) [Y,U 0]
def Mr:ME:=bI (db (ab 1)) (ah 0) (ax (ar bW (ar aw (ab 0) (mC (.int 1))) (df zC (ab 1)))) (ar aw (ab 0) (mC (.int 0))) [Y,U 0]
def Mt:ME:=bI (db (ab 1)) (ah 0) (bY) (ar aw (ab 0) (mC (.int 0))) [Y]
def lK:MS:=ay (aF vd (ah 2)) (ay (aF Mr (ah 3)) (ay (aF (ar aR (ar aR (ab 2) (ab 3)) Mt) (ah 4)) (aX (mD (cQ (ab 4)) (ar aw (ab 4) (mC (.int 0))) (mC .non)))))
section
variable{S:ac}{es:List En}{w:Rw}{r:Rl}{R:Rm}
def DC{l:List En}:D.lst (l.map λe=>.int (e.g:Int))=nl (l.map (·.g)):=by unfold nl;rw [Xn];rfl
def Ci{a2 a3 a4:Option D}(hl:es.length<=100):vd [U (.str w.s),U (cf es),a2,a3,a4] S=U (nl ((es.filter (kT w)).map (·.g)),S):=by
 have hw:(w.s == ("turns":Str))=decide (w=.turns):=Rw.eq w .turns
 have k:=eW (S:=S) (t:=dc (ax (ar bW (ab 1) (mC (.str "turns")))) (ax (ar bW (ar aw (ab 0) (mC (.int 2))) (mC (.int 1))))) (e:=ar aw (ab 0) (mC (.int 0))) (cap:=[Y,U 0]) (env:=[U (.str w.s),U (cf es),a2,a3,a4]) (rest:=[U (.str w.s)]) (a:=Y) (enc:=En.d) (p:=kT w) (f:=λe=>.int (e.g:Int)) (xs:=es) rfl (by omega) (λx _=>by
  unfold kT
  cases h:decide (w=.turns) with
  | true=>simp [En.ix2,-beq_iff_eq,hw,h];rfl
  | false=>simp [-beq_iff_eq,hw,h]) (λx _ _=>by simp [En.ix0])
 simp only [vd,bZ,du,ak,bG,bP,bO,oj,ob,aj,dX,k,DC]
def Mq{a2 a3 a4:Option D}(hw:w≠.passes)(hl:es.length<=100):Mr [U (.str w.s),U (cf es),a2,a3,a4] S=U (nl ((es.filter (sP w)).map (·.g)),S):=by
 have k:=eW (S:=S) (t:=ax (ar bW (ar aw (ab 0) (mC (.int 1))) (df zC (ab 1)))) (e:=ar aw (ab 0) (mC (.int 0))) (cap:=[Y,U 0]) (env:=[U (.str w.s),U (cf es),a2,a3,a4]) (rest:=[U (.str w.s)]) (a:=Y) (enc:=En.d) (p:=sP w) (f:=λe=>.int (e.g:Int)) (xs:=es) rfl (by omega) (λx _=>by
  simp only [aG,aE,ak,bG,bP,bO,oj,ob,aj,av,bf,au,En.ix1,pS,UU hw,Qu,aD]) (λx _ _=>by simp [En.ix0])
 simp only [Mr,bZ,du,ak,bG,bP,bO,oj,ob,aj,dX,k,DC]
def Ms{a0 a2 a3 a4:Option D}(hl:es.length<=100):Mt [a0,U (cf es),a2,a3,a4] S=U (nl (es.map (·.g)),S):=by
 have k:=gsC (S:=S) (es:=es) (b:=Y) (cap:=[Y]) (env:=[a0,U (cf es),a2,a3,a4]) rfl hl
 simp only [Mt,bZ,du,ak,bG,bP,bO,oj,ob,aj,dX,k,DC]
def Ll{a b:List Nat}(h:a.length+b.length<=1000):aR S (nl a) (nl b)=U (nl (a++b)):=by
 unfold nl;rw [EF (by simp;omega),<- Xt]
def zB{N:List Str}(hN:N.length=5)(hw:w≠.passes)(hl:es.length<=100):aP N lK 2 [.str w.s,cf es] S=U (oo (kn w es).head?,S):=by
 have hst:aB N [.str w.s,cf es]=[U (.str w.s),U (cf es),Y,Y,Y]:=by simp [aB,hN,List.replicate]
 rw [bd (show [D.str w.s,cf es].length=2 from rfl),hst]
 have l1:=XG (kT w) es
 have l2:=XG (sP w) es
 have a1:aR S (nl ((es.filter (kT w)).map (·.g))) (nl ((es.filter (sP w)).map (·.g)))=U (nl ((es.filter (kT w)).map (·.g)++(es.filter (sP w)).map (·.g))):=Ll (by simp;omega)
 have a2:aR S (nl ((es.filter (kT w)).map (·.g)++(es.filter (sP w)).map (·.g))) (nl (es.map (·.g)))=U (nl (kn w es)):=Ll (by simp;omega)
 have tr:BL (nl (kn w es),S)=U (!decide (kn w es=[]),S):=by
  cases kn w es <;> rfl
 simp only [lK,aT,bn,Ci hl,Mq hw hl,ob,bo,aU,eN,eV,bL,aH,aE,ak,bG,bP,bO,oj,aj,av,au,a1,Ms hl,a2,aZ,mS,dP,tr]
 cases hf:kn w es with
 | nil=>simp [oo]
 | cons g l=>simp [oo,tj]
def mM(r:Rl)(R:Rm):List En->Option Nat
 | []=>Y
 | e::l=>if dY r R e.g then U e.g else if r.b<=e.m then Y else mM r R l
def rK(r:Rl)(R:Rm):Option Nat:=if r.w=.passes then mM r R R.2 else match (kn r.w R.2).head? with
 | none=>Y
 | some g=>if dY r R g then U g else Y
def om(cg:PF):Prop:=(∀ (S:ac) (r:Rl) (R:Rm) (g:Nat),R.1.length<=100->cg [r.d,aQ R,.int (g:Int)] S=U (.bl (dY r R g),S))/\(∀ (S:ac) (r:Rl) (ws:List Wd),ws.length<=100->cg [r.d,aQ (ws,[]),.non] S=U (.bl false,S))
def uj(cg:PF):MS:=ay (bz (cQ (ao 3 cg (aa (ab 0) (aa (ab 1) (aa (ab 2) (ai)))))) (aX (ab 2)) (aS)) (bz (ax (ar fGe (ab 4) (ar aw (ab 0) (mC (.int 2))))) (aX (mC .non)) (aS))
def HK:MG:=aK 4 (af (ah 2) (af (ah 3) (af (ah 4) (af (ah 5) (aC)))))
def lJ(cg:PF):MS:=ay (dO (ar aw (ab 1) (mC (.int 1))) HK (uj cg)) (aX (mC .non))
def Pq{e:En}{a0 a1 a2 a3 a4 a5:Option D}:HK e.d [a0,a1,a2,a3,a4,a5] S=U ([a0,a1,U (.int (e.g:Int)),U (.str (be e.wr)),U (.int e.m),U (bJ e.t)],S):=by
 have g4:HK e.d [a0,a1,a2,a3,a4,a5] S=(af (ah 2) (af (ah 3) (af (ah 4) (af (ah 5) (aC))))) [.int (e.g:Nat),.str (be e.wr),.int e.m,bJ e.t] [a0,a1,a2,a3,a4,a5] S:=tD
 rw [g4]
 simp only [bp,aU,ob,cI,bH,eN,eV]
def npEnd:Option Nat->Option D->Option D->Option D->Option D->Option D->Option D->ac->nH->Prop
 | some g,_,_,_,_,_,_,S,o=>o=.rt (.int (g:Int)) S
 | none,a0,a1,_,_,_,_,S,o=>o=.rt .non S\/∃ b2 b3 b4 b5,o=.nx [a0,a1,b2,b3,b4,b5] S
theorem wU{cg:PF}(O:om cg)(hl:R.1.length<=100):∀ (es:List En) (a2 a3 a4 a5:Option D),∃ o,cn HK (uj cg) (es.map En.d) [U r.d,U (aQ R),a2,a3,a4,a5] S=U o/\npEnd (mM r R es) (U r.d) (U (aQ R)) a2 a3 a4 a5 S o
 | [],a2,a3,a4,a5=>⟨.nx [U r.d,U (aQ R),a2,a3,a4,a5] S,by simp,.inr ⟨_,_,_,_,rfl⟩⟩
 | e::l,a2,a3,a4,a5=>by
  obtain⟨o,ih,q⟩:=wU O hl l (U (.int (e.g:Int))) (U (.str (be e.wr))) (U (.int e.m)) (U (bJ e.t))
  have c1:=O.1 S r R e.g hl
  rw [Wx,dw,Pq,ob,kJ]
  simp only [uj,aT,bi,dP,aM,aq,ak,bG,bP,bO,oj,ob,aj,am,aA,al,bM,c1,eX]
  unfold mM
  cases hc:dY r R e.g with
  | true=>exact⟨.rt (.int (e.g:Int)) S,by simp,rfl⟩
  | false=>
   rw [if_neg (by decide)]
   by_cases hb:r.b<=e.m
   ·rw [WI hb]
    refine⟨.rt .non S,?_,.inl rfl⟩
    simp [Rl.ix2,hb]
   ·rw [if_neg hb]
    refine⟨o,?_,?_⟩
    ·have:¬ (e.m≥r.b):=hb
     simp [Rl.ix2,this,-ge_iff_le]
     exact ih
    ·cases hp:mM r R l with
     | none=>rw [hp] at q;exact q
     | some g=>rw [hp] at q;exact q
def yI{cg:PF}(O:om cg){N:List Str}(hN:N.length=6)(hl:R.1.length<=100):aP N (lJ cg) 2 [r.d,aQ R] S=U (oo (mM r R R.2),S):=by
 have hst:aB N [r.d,aQ R]=[U r.d,U (aQ R),Y,Y,Y,Y]:=by simp [aB,hN,List.replicate]
 rw [bd (show [r.d,aQ R].length=2 from rfl),hst]
 obtain⟨o,e,q⟩:=wU (S:=S) (r:=r) O hl R.2 Y Y Y Y
 have ek:mT HK (uj cg) [U r.d,U (aQ R),Y,Y,Y,Y] (cf R.2,S)=cn HK (uj cg) (R.2.map En.d) [U r.d,U (aQ R),Y,Y,Y,Y] S:=rfl
 simp only [lJ,aT,lP,aE,ak,bG,bP,bO,oj,ob,aj,av,bf,au,Rm.ix1,ek,e]
 cases hp:mM r R R.2 with
 | none=>
  rw [hp] at q
  rcases q with rfl | ⟨b2,b3,b4,b5,rfl⟩ <;> simp [oo]
 | some g=>
  rw [hp] at q
  have q:o=.rt (.int (g:Int)) S:=q
  subst q;simp [oo]
def oS(np fm cg:PF):MS:=ay (bz (ax (ar bW (ar aw (ab 0) (mC (.int 0))) (mC (.str "passes")))) (aX (ao 2 np (aa (ab 0) (aa (ab 1) (ai))))) (aS)) (ay (aF (ao 2 fm (aa (ar aw (ab 0) (mC (.int 0))) (aa (ar aw (ab 1) (mC (.int 1))) (ai)))) (ah 2)) (aX (mD (cQ (ao 3 cg (aa (ab 0) (aa (ab 1) (aa (ab 2) (ai)))))) (ab 2) (mC .non))))
def IA(h:(kn w es).head?=Y):es=[]:=by
 have:kn w es=[]:=by simpa using h
 unfold kn at this
 rw [List.append_eq_nil_iff] at this
 simpa using this.2
def DF{np fm cg:PF}(hp:∀ (S:ac) (r:Rl) (R:Rm),R.1.length<=100->np [r.d,aQ R] S=U (oo (mM r R R.2),S))(hf:∀ (S:ac) (w:Rw) (es:List En),w≠.passes->es.length<=100->fm [.str w.s,cf es] S=U (oo (kn w es).head?,S))(hc:om cg)
  {N:List Str} (hN:N.length=3) (hl:R.1.length<=100) (hl2:R.2.length<=100):aP N (oS np fm cg) 2 [r.d,aQ R] S=U (oo (rK r R),S):=by
 have hst:aB N [r.d,aQ R]=[U r.d,U (aQ R),Y]:=by simp [aB,hN,List.replicate]
 rw [bd (show [r.d,aQ R].length=2 from rfl),hst]
 have w3:(r.w.s == ("passes":Str))=decide (r.w=.passes):=Rw.eq r.w .passes
 unfold rK
 simp only [oS,aT,bi,aG,aE,ak,bG,bP,bO,oj,ob,aj,av,bf,au,Rl.ix0,cD,w3,aD]
 by_cases hw:r.w=.passes
 ·rw [WA hw,WI hw]
  simp only [bK,aZ,aM,aq,ak,bG,bP,bO,oj,ob,aj,am,aA,al,bh,hp S r R hl,bx,bV,aI]
 ·rw [WC hw,if_neg hw]
  have f1:=hf S r.w R.2 hw hl2
  simp only [bE,bv,ob,aH,aT,bn,aM,aq,aE,ak,bG,bP,bO,oj,aj,av,bf,au,Rl.ix0,Rm.ix1,am,aA,al,bh,f1,bo,aU,eN,eV,bL,aZ,mS,dP,bM]
  cases hh:(kn r.w R.2).head? with
  | none=>
   obtain⟨ws,es⟩:=R
   have:es=[]:=IA hh
   subst this
   have c2:=hc.2 S r ws hl
   simp only [oo,c2,ob,eX]
   simp
  | some g=>
   have c1:=hc.1 S r R g hl
   simp only [oo,c1,ob,eX]
   cases dY r R g <;> simp [oo]
end
section
variable{ws:List Wd}{es:List En}{r:Rl}{R:Rm}{g:Nat}
def JE(ws:List Wd):List Wd:=ws.filter λw=>!decide (w=.out)
theorem CN{α:Type}{p:α->Bool}:∀ (xs:List α) (k:Nat),((xs.zipIdx k).filter λq=>p q.1).map (·.1)=xs.filter p
 | [],_=>rfl
 | x::l,k=>by
  rw [Ya,Xu,Xu]
  have ih:=CN (p:=p) l (k+1)
  split
  ·rw [Wx,ih]
  ·exact ih
def Fg(h:ws[g]?=U .out):cG ws g=JE ws:=by
 unfold cG JE
 rw [<- CN ws 0]
 congr 1
 apply YK
 intro q hq
 have hq':ws[q.2]?=U q.1:=mem_zi.mp (show (q.1,q.2)∈ws.zipIdx from hq)
 by_cases hg:q.2=g
 ·rw [hg,h] at hq'
  have:=WH hq'
  simp [<- this]
 ·simp [hg]
theorem besK{p:Wd->Bool}:∀ (ws:List Wd) (k g:Nat) (w:Wd),ws[g]?=U w->p w=true->((ws.zipIdx k).filter λq=>p q.1 && !decide (q.2=k+g)).length+1=(ws.filter p).length
 | [],k,g,w,h,_=>by simp at h
 | x::l,k,0,w,h,hp=>by
  simp at h;subst h
  rw [Ya,Xu,Xu,WI hp,WG,<- CN l (k+1),Ww]
  simp only [hp,aap,Yf,Xa,Yn,WZ,XW]
  congr 2
  apply YK
  intro q hq
  have:k+1<=q.2:=(List.mem_zipIdx hq).1
  have hne:q.2≠k:=by omega
  simp [hne]
 | x::l,k,g+1,w,h,hp=>by
  have ih:=besK (p:=p) l (k+1) g w (by simpa using h) hp
  have e:k+(g+1)=(k+1)+g:=by omega
  rw [e,Ya,Xu,Xu]
  have hne:¬ (k=k+1+g):=by omega
  cases hx:p x with
  | false=>simp only [hx,Ym,WZ,XW];exact ih
  | true=>simp only [hx,hne,Yo,Xj,Bool.and_self,YN,WG];omega
def zy:(JE ws).length+ws.count .out=ws.length:=by
 unfold JE
 have:=List.length_eq_countP_add_countP (λw:Wd=>w == .out) (l:=ws)
 rw [List.count,this,ZI,Nat.add_comm]
 congr 1
 rw [ZI]
 congr 1
 apply YK
 intro w _
 cases w <;> rfl
def Ob(h:ws[g]?=U .rising):(cG ws g).isEmpty=decide (ws.count .out+1=ws.length):=by
 have k:=besK (p:=λw=>!decide (w=.out)) ws 0 g .rising h rfl
 have l:=zy (ws:=ws)
 unfold JE at l
 unfold cG
 simp only [Zc] at k
 rw [Xc,XB,List.isEmpty_iff,List.map_eq_nil_iff]
 constructor
 ·intro e;rw [e] at k;simp only [Yg] at k;omega
 ·intro e;apply XI;omega
theorem cnt5:∀ ws:List Wd,ws.count .out+ws.count .reads+ws.count .rising+ws.count .writes+ws.count .raised=ws.length
 | []=>rfl
 | w::l=>by
  have:=cnt5 l
  cases w <;> simp [YC] <;> omega
def Ix:(JE ws).all (λw=>decide (w=.reads))=decide (ws.count .out+ws.count .reads=ws.length):=by
 have l:=zy (ws:=ws)
 have c:(JE ws).countP (λw=>decide (w=.reads))=ws.count .reads:=by
  unfold JE
  rw [List.countP_filter,List.count]
  congr 1
  funext w;cases w <;> rfl
 have d:=List.countP_le_length (p:=λw:Wd=>decide (w=.reads)) (l:=JE ws)
 rw [Xc,XB,WJ]
 have e:=List.countP_eq_length (p:=λw:Wd=>decide (w=.reads)) (l:=JE ws)
 constructor
 ·intro h;have:=e.mpr h;omega
 ·intro h;exact e.mp (by omega)
def Ql(h:ROk R){e:En}(he:e∈R.2):(R.2.find? λx=>decide (x.g=e.g))=U e:=by
 have hn:=h.nd
 generalize R.2=es at hn he
 induction es with
 | nil=>cases he
 | cons x l ih=>
  rw [Wx,XU] at hn
  rw [Xh]
  rcases WM.mp he with rfl | he
  ·simp
  ·have:x.g≠e.g:=λz=>hn.1 (by rw [z];exact WP.mpr ⟨e,he,rfl⟩)
   simp only [this,Yo]
   exact ih hn.2 he
def Ui(h:ROk R){e:En}(he:e∈R.2):dY r R e.g=qT r R.1 e.wr:=by
 have ho:=h.out e he
 unfold dY qT
 rw [ho,if_neg (by simp),Ql h he,Fg ho]
 have c:=cnt5 R.1
 have l:=zy (ws:=R.1)
 dsimp only
 cases hw:e.wr with
 | true=>
  simp only [YN]
  by_cases h1:R.1.count .reads+R.1.count .rising+R.1.count .out<R.1.length
  ·rw [WI h1]
   cases hi:JE R.1 with
   | nil=>rw [hi] at l;simp at l;omega
   | cons _ _=>rfl
  ·rw [if_neg h1]
   rw [Xc,List.isEmpty_iff,XB]
   constructor
   ·intro hi;rw [hi] at l;simp at l;omega
   ·intro hi;apply XI;omega
 | false=>
  simp only [WZ,XW,Ix]
  by_cases h1:R.1.count .reads+R.1.count .rising+R.1.count .out<R.1.length
  ·rw [WI h1,WC (by omega)];rfl
  ·rw [if_neg h1]
   by_cases h2:R.1.count .rising=0
   ·have:(JE R.1).length=R.1.count .reads+R.1.count .rising:=by omega
    rw [this,WA (by omega),WA h2]
   ·rw [WC (by omega),WC h2];rfl
theorem xp{p:Wd->Bool}:∀ (ws:List Wd) (k:Nat),((ws.zipIdx k).filter λq=>p q.1).map (·.2)=(List.range' k ws.length).filter λi=>match ws[i - k]? with | some w=>p w | none=>false
 | [],k=>rfl
 | w::l,k=>by
  have ih:=xp (p:=p) l (k+1)
  rw [Ya,WG,List.range'_succ,Xu,Xu]
  have e:(List.range' (k+1) l.length).filter (λi=>match (w::l)[i - k]? with | some w=>p w | none=>false)=(List.range' (k+1) l.length).filter λi=>match l[i - (k+1)]? with | some w=>p w | none=>false:=by
   apply YK
   intro i hi
   have:k+1<=i:=(List.mem_range'_1.mp hi).1
   rw [show i - k=(i - (k+1))+1 by omega,YO]
  simp only [Zy,aac]
  cases hp:p w with
  | true=>rw [WI rfl,WI rfl,Wx,ih,e]
  | false=>rw [if_neg (by decide),if_neg (by decide),ih,e]
theorem vf{α:Type}{p q:α->Bool}:∀ {l:List α},(∀ x∈l,p x=q x)->l.find? p=l.find? q
 | [],_=>rfl
 | x::l,h=>by rw [Xh,Xh,h x Wr,vf λy hy=>h y (Wu _ hy)]
def Hs:(tz (λw=>decide (w=.rising)) R.1).find? (dY r R)=(nG R.1).head?:=by
 have e:tz (λw=>decide (w=.rising)) R.1=(List.range R.1.length).filter λi=>match R.1[i]? with | some w=>decide (w=.rising) | none=>false:=by
  have k:=xp (p:=λw=>decide (w=.rising)) R.1 0
  rw [List.range_eq_range']
  exact k
 rw [e,List.find?_filter]
 unfold nG
 rw [List.head?_filter]
 apply vf
 intro i hi
 by_cases h:R.1[i]?=U .rising
 ·rw [h]
  have:dY r R i=(cG R.1 i).isEmpty:=by unfold dY;rw [WI h]
  simp only [Yf,YS]
  rw [this,Ob h]
  simp
 ·rw [WC h,Ym]
  cases hw:R.1[i]? with
  | none=>rfl
  | some w=>
   have:¬ (w=.rising):=λz=>h (by rw [hw,z])
   simp [this]
theorem BR{p:En->Bool}:∀ (es:List En) (k:Nat),(((es.zipIdx k).filter λq=>p q.1).map (·.2)).head?=(es.findIdx? p).map (· + k)
 | [],_=>rfl
 | e::l,k=>by
  have ih:=BR (p:=p) l (k+1)
  rw [Ya,Xu,Yd]
  cases hp:p e with
  | true=>simp
  | false=>
   simp only [WZ,XW]
   rw [ih]
   cases l.findIdx? p with
   | none=>rfl
   | some i=>simp;omega
def jy{p:En->Bool}{es:List En}:(Ad p es).head?=es.findIdx? p:=by
 unfold Ad;rw [BR];simp
theorem xH{p:En->Bool}:∀ es:List En,((es.filter p).map (·.g)).head?=(es.findIdx? p).bind λi=>es[i]?.map (·.g)
 | []=>rfl
 | e::l=>by
  have ih:=xH (p:=p) l
  rw [Xu,Yd]
  cases hp:p e with
  | true=>simp
  | false=>
   simp only [WZ,XW]
   rw [ih]
   cases l.findIdx? p with
   | none=>rfl
   | some i=>simp
def tB{a b:List Nat}:(Pe a b).head?=a.head?.or b.head?:=by
 unfold Pe;cases a <;> simp
def BU{a b:List Nat}:(a++b).head?=a.head?.or b.head?:=by cases a <;> simp
def nW{l:List Nat}:(l.take 1).head?=l.head?:=by cases l <;> simp
def kK{p q:En->Bool}(hpq:∀ e,p e = !q e){es:List En}(h:es.findIdx? p=Y):es.findIdx? q=(if es=[] then Y else U 0):=by
 cases es with
 | nil=>rfl
 | cons e l=>
  rw [ZU] at h
  have:=h e Wr
  rw [hpq] at this
  have hq:q e=true:=by simpa using this
  rw [Yd,hq];simp
def Ae(es:List En)(o:Option Nat):Option Nat:=o.bind λi=>es[i]?.map (·.g)
def Oc:(es.map (·.g)).head?=Ae es (if es=[] then Y else U 0):=by cases es <;> simp [Ae]
def Gn{p:En->Bool}{i:Nat}(h:es.findIdx? p=U i):i<es.length:=(Zq.mp h).1
def Qj(hw:r.w≠.passes):(kn r.w es).head?=Ae es (Ce r es).head?:=by
 have f0:∀ p,((es.filter p).map (·.g)).head?=Ae es (es.findIdx? p):=λp=>xH es
 have ff:es.findIdx? (λ_=>false)=Y:=by rw [ZU];intros;rfl
 unfold kn Ce
 rw [BU,BU,f0,f0,Oc]
 cases hr:r.w with
 | passes=>exact absurd hr hw
 | rows=>
  have e1:kT .rows=λ_=>false:=rfl
  have e2:sP .rows=λ_=>false:=rfl
  rw [e1,e2,ff,nW]
  cases es <;> simp [Ae,aah]
 | readers=>
  have e1:kT .readers=λ_=>false:=rfl
  have e2:sP .readers=λe=>!e.wr:=rfl
  dsimp only
  rw [e1,e2,ff,nW,tB,jy,jy]
  show (Ae es _).or _=_
  cases hf:es.findIdx? λe=>!e.wr with
  | none=>rw [kK (q:=λe=>e.wr) (λ_=>rfl) hf];rfl
  | some i=>have:=Gn hf;simp [Ae,Wv this]
 | writers=>
  have e1:kT .writers=λ_=>false:=rfl
  have e2:sP .writers=λe=>e.wr:=rfl
  dsimp only
  rw [e1,e2,ff,nW,tB,jy,jy]
  show (Ae es _).or _=_
  cases hf:es.findIdx? λe=>e.wr with
  | none=>rw [kK (q:=λe=>!e.wr) (λe=>by simp) hf];rfl
  | some i=>have:=Gn hf;simp [Ae,Wv this]
 | turns=>
  have e1:kT .turns=λe=>decide (e.m=1):=by funext e;simp [kT]
  have e2:sP .turns=λe=>e.wr:=rfl
  dsimp only
  rw [e1,e2,nW,tB,tB,jy,jy,jy]
  cases hm:es.findIdx? λe=>decide (e.m=1) with
  | some i=>have:=Gn hm;simp [Ae,Wv this]
  | none=>
   show (Ae es _).or _=_
   cases hf:es.findIdx? λe=>e.wr with
   | none=>rw [kK (q:=λe=>!e.wr) (λe=>by simp) hf];rfl
   | some i=>have:=Gn hf;simp [Ae,Wv this]
def maxL_le{b:Int}{l:List Int}:kA (0::l)<=b↔0<=b/\∀ x∈l,x<=b:=by
 obtain⟨h1,h2⟩:=qP (ns:=0::l) (by simp)
 constructor
 ·intro h
  exact⟨aar (h2 0 Wr) h,λx hx=>aar (h2 x (Wu _ hx)) h⟩
 ·intro⟨h0,h⟩
  rcases WM.mp h1 with e | e
  ·rw [e];exact h0
  ·exact h _ e
def AJ(r:Rl)(ws:List Wd)(es:List En)(i:Nat):Bool:=(match es[i]? with | some e=>qT r ws e.wr | none=>false)&&decide (kA (0::(es.take i).map λe=>e.m+1)<=r.b)
theorem wS(hb:0<=r.b)(hc:∀ e∈es,dY r R e.g=qT r R.1 e.wr):∀ (l p:List En),es=p++l->(∀ e∈p,e.m+1<=r.b)->mM r R l=Ae es ((List.range' p.length l.length).find? (AJ r R.1 es))
 | [],p,_,_=>by simp [mM,Ae]
 | e::l,p,he,hp=>by
  have ei:es[p.length]?=U e:=by rw [he];simp
  have et:es.take p.length=p:=by rw [he];simp
  have hm:e∈es:=by rw [he];simp
  have q0:AJ r R.1 es p.length=qT r R.1 e.wr:=by
   unfold AJ
   rw [ei,et]
   have:kA (0::p.map λe=>e.m+1)<=r.b:=maxL_le.mpr ⟨hb,λx hx=>by obtain⟨y,hy,rfl⟩:=WP.mp hx;exact hp y hy⟩
   simp [this]
  rw [WG,List.range'_succ,Xh,q0]
  unfold mM
  rw [hc e hm]
  cases hl:qT r R.1 e.wr with
  | true=>simp [Ae,ei]
  | false=>
   rw [if_neg (by decide)]
   by_cases hbm:r.b<=e.m
   ·rw [WI hbm]
    have:(List.range' (p.length+1) l.length).find? (AJ r R.1 es)=Y:=by
     rw [aaJ]
     intro i hi
     have h1:=(List.mem_range'_1.mp hi).1
     have:¬ (kA (0::(es.take i).map λe=>e.m+1)<=r.b):=λz=>by
      have:=(maxL_le.mp z).2 (e.m+1) (WP.mpr ⟨e,?_,rfl⟩)
      ·omega
      ·rw [List.mem_take_iff_getElem]
       refine⟨p.length,?_,?_⟩
       ·have:=(Wo.mp ei).1;omega
       ·exact(Wo.mp ei).2
     unfold AJ;rw [WC this,Yn];decide
    rw [this];rfl
   ·rw [if_neg hbm]
    have ih:=wS hb hc l (p++[e]) (by rw [he];simp) (λx hx=>by
     rcases WK.mp hx with hx | hx
     ·exact hp x hx
     ·have:x=e:=by simpa using hx
      rw [this];omega)
    rw [ih];simp
def Qi(hw:r.w≠.passes):(Ce r es).length<=1:=by
 unfold Ce
 cases hr:r.w <;> first | exact absurd hr hw | (simp only [Yb];omega)
def Ps(h:ROk R)(hb:0<=r.b):rK r R=Ae R.2 (mn r R.1 R.2).head?:=by
 have hc:∀ e∈R.2,dY r R e.g=qT r R.1 e.wr:=λe he=>Ui h he
 unfold rK
 by_cases hw:r.w=.passes
 ·rw [WI hw,wS hb hc R.2 [] rfl (λ_ z=>by cases z)]
  congr 1
  unfold mn Ce
  rw [hw]
  dsimp only
  rw [List.filter_filter,List.head?_filter,Yg,<- List.range_eq_range']
  rfl
 ·rw [if_neg hw,Qj hw]
  have h1:=Qi (es:=R.2) hw
  unfold mn
  cases hf:Ce r R.2 with
  | nil=>rfl
  | cons i l=>
   rw [hf] at h1
   have:l=[]:=by cases l with | nil=>rfl | cons _ _=>simp at h1
   subst this
   have hi:i<R.2.length:=qZ (r:=r) (by rw [hf];exact Wr)
   have ei:R.2[i]?=U R.2[i]:=Wv hi
   have:=hc R.2[i] (ZD hi)
   simp only [List.head?_cons,Ae,Option.bind_some,ei,Option.map_some,Xu,this]
   cases qT r R.1 (R.2[i]).wr <;> simp [ei]
def oM(r:Rl)(R:Rm):Option Ev:=match (tz (λw=>decide (w=.rising)) R.1).find? (dY r R) with
 | some g=>U ⟨"steps",g⟩
 | none=>(rK r R).map λg=>⟨"in",g⟩
inductive Fl(r:Rl)(R:Rm):Option Ev->Rm->List Ev->Prop
 | up (g:Nat) (h:R.1[g]?=U .rising):Fl r R (U ⟨"steps",g⟩) (R.1.set g .raised,R.2) [⟨"steps",g⟩]
 | go (i:Nat) (e:En) (h:R.2[i]?=U e):Fl r R (U ⟨"in",e.g⟩) (sO r R i e) [⟨"in",e.g⟩]
 | no:Fl r R Y R []
def xM(h:ROk R)(hb:0<=r.b):Fl r R (oM r R) (jU r R).1 (jU r R).2:=by
 unfold oM jU
 rw [Hs,Ps h hb]
 cases ha:nG R.1 with
 | cons g l=>exact .up g (mj (by rw [ha];exact Wr))
 | nil=>
  dsimp only [List.head?_nil]
  cases hs:mn r R.1 R.2 with
  | nil=>exact .no
  | cons i l=>
   have hi:i<R.2.length:=qZ (r:=r) (Xm.mp (show i∈mn r R.1 R.2 by rw [hs];exact Wr)).1
   have ei:R.2[i]?=U R.2[i]:=Wv hi
   simp only [List.head?_cons,Ae,Option.bind_some,ei,Option.map_some]
   exact .go i _ ei
def Ua(R:Rm):Nat:=R.2.length+R.1.count .rising
theorem ly{a b:Wd}:∀ {ws:List Wd} {i:Nat},ws[i]?=U a->a≠b->∀ c,(ws.set i b).count c+(if a=c then 1 else 0)=ws.count c+(if b=c then 1 else 0)
 | [],i,h,_,c=>by simp at h
 | w::l,0,h,hn,c=>by
  simp at h;subst h
  rw [List.set_cons_zero,YC,YC]
  by_cases h1:w=c <;> by_cases h2:b=c <;> simp [h1,h2] <;> omega
 | w::l,i+1,h,hn,c=>by
  have:=ly (i:=i) (ws:=l) (by simpa using h) hn c
  rw [List.set_cons_succ,YC,YC]
  omega
def Hd{o:Option Ev}{R':Rm}{l:List Ev}(h:ROk R)(s:Fl r R o R' l):(o=Y/\R'=R/\l=[])\/(∃ v,o=U v/\l=[v]/\Ua R'+1=Ua R):=by
 cases s with
 | no=>exact .inl ⟨rfl,rfl,rfl⟩
 | up g hg=>
  refine .inr ⟨_,rfl,rfl,?_⟩
  have:=ly (b:=.raised) hg (by decide) .rising
  simp only [Ua]
  simp at this
  omega
 | go i e hi=>
  refine .inr ⟨_,rfl,rfl,?_⟩
  have ho:=h.out e (WN hi)
  have hl:=(Wo.mp hi).1
  have hc:(R.1.set e.g (if e.wr then .writes else .reads)).count .rising=R.1.count .rising:=by
   cases e.wr with
   | true=>have:=ly (b:=.writes) ho (by decide) .rising;simpa using this
   | false=>have:=ly (b:=.reads) ho (by decide) .rising;simpa using this
  simp only [Ua,sO,hc,WB,Ww,Yb,ZC]
  omega
def TZ(h:ROk R):Ua R<=2 * R.1.length:=by
 have:=h.len
 have:=List.count_le_length (a:=Wd.rising) (l:=R.1)
 unfold Ua;omega
theorem As(h:oM r R=Y)(hk:ROk R)(hb:0<=r.b):∀ n,rG r n R=(R,[])
 | 0=>rfl
 | n+1=>by
  have s:=xM hk hb
  rw [h] at s
  have e:jU r R=(R,[]):=by
   generalize hq:jU r R=q at s
   obtain⟨a,b⟩:=q
   dsimp only at s
   cases s;rfl
  show ((rG r n (jU r R).1).1,(jU r R).2++(rG r n (jU r R).1).2)=_
  rw [e,As h hk hb n];rfl
end
section
variable{S:ac}{ws:List Wd}{es:List En}{r:Rl}{R:Rm}{g:Nat}
def Qs{l:List Nat}:kR S .non (nt l)=U (.bl false):=by
 rw [jH (ys:=l.map ni) rfl rfl (by rw [WJ];intro d hd;obtain⟨i,_,rfl⟩:=WP.mp hd;rfl)]
 congr 2
 rw [List.any_eq_false]
 intro d hd;obtain⟨i,_,rfl⟩:=WP.mp hd
 show ¬ (false=true);decide
def JQ{gw:PF}(O:Of gw){N:List Str}(hN:N.length=3)(hl:ws.length<=100):aP N (mI gw) 2 [aQ (ws,[]),.non] S=U (.non,S):=by
 have hst:aB N [aQ (ws,[]),.non]=[U (aQ (ws,[])),U .non,Y]:=by simp [aB,hN,List.replicate]
 rw [bd (show [aQ (ws,[]),D.non].length=2 from rfl),hst]
 have o1:gw [aQ (ws,[]),.tup [.str "rising"]] S=U (nt (tz (λw=>decide (w∈[Wd.rising])) ws),S):=O S (ws,[]) [.rising] hl
 have k1:cy ([.str "rising"],S)=U (.tup [.str "rising"],S):=aY (by simp)
 have ek:∀ env,mT (ah 2) mF env (cf [],S)=U (.nx env S):=λenv=>by show cn (ah 2) mF [] env S=_;simp
 simp only [mI,aT,bi,aG,aE,ak,bG,bP,bO,oj,ob,aj,av,aM,aq,am,bg,bf,aA,al,k1,bh,o1,au,Qs,aD,bE,bv,aH,lP,Rm.ix1,ek,aZ,bx,aI]
def Jk{wait:PF}(O:∀ S:ac,wait [aQ (ws,[]),.non] S=U (.non,S)){N:List Str}(hN:N.length=6):aP N (gl wait) 3 [r.d,aQ (ws,[]),.non] S=U (.bl false,S):=by
 have hst:aB N [r.d,aQ (ws,[]),.non]=[U r.d,U (aQ (ws,[])),U .non,Y,Y,Y]:=by simp [aB,hN,List.replicate]
 rw [bd (show [r.d,aQ (ws,[]),D.non].length=3 from rfl),hst]
 simp only [gl,aT,bn,aM,aq,ak,bG,bP,bO,oj,ob,aj,am,aA,al,bh,O,bo,aU,eN,eV,bL,aH,bi,aG,aE,av,bf,au,mx,mV,aD,bK,aZ,bx,bV,aI]
def lI:MS:=ay (aF (ab 0) (aK 2 (af (ah 3) (af (ah 4) (aC))))) (aX (aO (aa (ar aR (ar aR (bu (ab 3) (bw) (bR (ab 1))) (aO (aa (ab 2) (ai)))) (bu (ab 3) (bR (ar aR (ab 1) (mC (.int 1)))) (bw))) (aa (ab 4) (ai)))))
def xW{N:List Str}(hN:N.length=5){w:Wd}(h:g<R.1.length)(hl:R.1.length<=100):aP N lI 3 [aQ R,.int (g:Int),w.d] S=U (aQ (R.1.set g w,R.2),S):=by
 have hst:aB N [aQ R,.int (g:Int),w.d]=[U (aQ R),U (.int (g:Int)),U w.d,Y,Y]:=by simp [aB,hN,List.replicate]
 rw [bd (show [aQ R,D.int (g:Int),w.d].length=3 from rfl),hst]
 have g2:∀ env S,aK 2 (af (ah 3) (af (ah 4) (aC))) (aQ R) env S=(af (ah 3) (af (ah 4) (aC))) [cx R.1,cf R.2] env S:=λenv S=>bS
 have c1:iP (cx R.1) Y (U (g:Int),S)=U (.tup ((R.1.take g).map Wd.d),S):=by
  rw [show cx R.1=.tup (R.1.map Wd.d) from rfl,kI,js,Yj]
 have c2:iP (cx R.1) (U ((g:Int)+1)) (Y,S)=U (.tup ((R.1.drop (g+1)).map Wd.d),S):=by
  rw [show cx R.1=.tup (R.1.map Wd.d) from rfl,kI,show ((g:Int)+1)=((g+1:Nat):Int) by omega,oe _ _ (by rw [Ww];omega),Zp]
 have k1:∀ x,cy ([x],S)=U (.tup [x],S):=λx=>aY (by simp)
 have k2:∀ x y,cy ([x,y],S)=U (.tup [x,y],S):=λx y=>aY (by simp)
 have a1:aR S (.tup ((R.1.take g).map Wd.d)) (.tup [w.d])=U (.tup ((R.1.take g++[w]).map Wd.d)):=by rw [gO (by simp;omega)];simp
 have a2:aR S (.tup ((R.1.take g++[w]).map Wd.d)) (.tup ((R.1.drop (g+1)).map Wd.d))=U (cx (R.1.set g w)):=by
  rw [gO (by simp;omega),<- Xt,Km _ _ h];rfl
 simp only [lI,aT,bn,ak,bG,bP,bO,oj,ob,aj,bo,g2,bp,aU,cI,bH,eN,eV,bL,aH,aZ,bg,aq,aE,cH,eZ,cL,eY,dj,dm,c1,av,am,aA,al,k1,au,a1,bf,kM,c2,a2,k2,bx,aI]
 rfl
theorem RZ:∀ {es:List En} {i:Nat} {e:En},(es.map (·.g)).Nodup->es[i]?=U e->(es.map λx=>D.int (x.g:Int)).findIdx? (λd=>jJ d (.int (e.g:Int)))=U i
 | [],i,e,_,h=>by simp at h
 | x::l,0,e,_,h=>by
  simp at h;subst h
  rw [Wx,Yd]
  have:jJ (.int (x.g:Int)) (.int (x.g:Int))=true:=by show ((x.g:Int) == (x.g:Int))=true;simp
  rw [this];rfl
 | x::l,i+1,e,hn,h=>by
  rw [Wx,XU] at hn
  have h':l[i]?=U e:=by simpa using h
  have ih:=RZ hn.2 h'
  rw [Wx,Yd]
  have:jJ (.int (x.g:Int)) (.int (e.g:Int))=false:=by
   show ((x.g:Int) == (e.g:Int))=false
   rw [Xv]
   intro z
   have:x.g=e.g:=by omega
   exact hn.1 (by rw [this];exact WP.mpr ⟨e,WN h',rfl⟩)
  rw [this,ih];rfl
def UD(hn:(es.map (·.g)).Nodup){i:Nat}{e:En}(h:es[i]?=U e)(hl:es.length<=100):nj (.lst (es.map λx=>D.int (x.g:Int))) [.int (e.g:Int)] S=U (.int (i:Int),S):=by
 unfold nj
 have h1:sM S (.lst (es.map λx=>D.int (x.g:Int)))=true:=rfl
 have h2:iU S (.lst (es.map λx=>D.int (x.g:Int)))=U (es.map λx=>D.int (x.g:Int)):=rfl
 have h3:cP 40 (.int (e.g:Int))=true/\(es.map λx=>D.int (x.g:Int)).all (cP 39)=true/\(es.map λx=>D.int (x.g:Int)).length<=sizeLine:=by
  refine⟨rfl,?_,sz (by rw [Ww];omega)⟩
  rw [WJ];intro d hd;obtain⟨x,_,rfl⟩:=WP.mp hd;rfl
 dsimp only
 rw [WI h1,h2]
 show (if _ then _ else Y)=_
 rw [WI h3,RZ hn h];rfl
def zc:ME:=bI (db (ab 6)) (aK 4 (af (ah 0) (af (ah 1) (af (ah 2) (af (ah 3) (aC)))))) (bY) (aO (aa (ab 0) (aa (ab 1) (aa (ar aR (ab 2) (mC (.int 1))) (aa (ab 3) (ai)))))) [Y,Y,Y,Y]
def liGs:ME:=bI (db (ab 4)) (ah 0) (bY) (ar aw (ab 0) (mC (.int 0))) [Y]
def qL(ww:PF):MS:=ay (aF (ab 1) (aK 2 (af (ah 3) (af (ah 4) (aC))))) (ay (aF (da nj liGs (aa (ab 2) (ai))) (ah 5)) (ay (aF (bu (ab 4) (bw) (bR (ab 5))) (ah 6)) (ay (bz (ax (ar bW (ar aw (ab 0) (mC (.int 0))) (mC (.str "passes")))) (aF (ba (aJ (cr .tup)) (aa zc (ai))) (ah 6)) (aS)) (aX (ao 3 ww (aa (aO (aa (ab 3) (aa (ar aR (ab 6) (bu (ab 4) (bR (ar aR (ab 5) (mC (.int 1)))) (bw))) (ai)))) (aa (ab 2) (aa (df CO (ar aw (ar aw (ab 4) (ab 5)) (mC (.int 1)))) (ai)))))))))
theorem NO{en:MG}{t:ME}{f:En->D}(he:∀ (e:En) (a b c d:Option D),en e.d [a,b,c,d] S=U ([U (.int (e.g:Int)),U (.str (be e.wr)),U (.int e.m),U (bJ e.t)],S))(ht:∀ e:En,t [U (.int (e.g:Int)),U (.str (be e.wr)),U (.int e.m),U (bJ e.t)] S=U (f e,S)) :
  ∀ (es:List En) (a b c d:Option D),dS en bY t (es.map En.d) [a,b,c,d] S=U (es.map f,S)
 | [],a,b,c,d=>by simp
 | e::l,a,b,c,d=>by
  have ih:=NO he ht l (U (.int (e.g:Int))) (U (.str (be e.wr))) (U (.int e.m)) (U (bJ e.t))
  rw [Wx,iy,he,ob,zu,kh,ob,zt,ht,ob,zr,ih,ob,zq,Wx]
def SE(e:En):En:={ e with m:=e.m+1 }
def Eh{a0 a1 a2 a3 a4 a5:Option D}(hl:es.length<=100):zc [a0,a1,a2,a3,a4,a5,U (cf es)] S=U (.lst ((es.map SE).map En.d),S):=by
 have k:=NO (S:=S) (en:=aK 4 (af (ah 0) (af (ah 1) (af (ah 2) (af (ah 3) (aC)))))) (t:=aO (aa (ab 0) (aa (ab 1) (aa (ar aR (ab 2) (mC (.int 1))) (aa (ab 3) (ai)))))) (f:=λe=>(SE e).d) (λe a b c d=>by
  have g4:aK 4 (af (ah 0) (af (ah 1) (af (ah 2) (af (ah 3) (aC))))) e.d [a,b,c,d] S=(af (ah 0) (af (ah 1) (af (ah 2) (af (ah 3) (aC))))) [.int (e.g:Nat),.str (be e.wr),.int e.m,bJ e.t] [a,b,c,d] S:=tD
  rw [g4];simp only [bp,aU,ob,cI,bH,eN,eV]) (λe=>by
  have k4:∀ x y z w,cy ([x,y,z,w],S)=U (.tup [x,y,z,w],S):=λx y z w=>aY (by simp)
  simp only [bg,aq,ak,bG,bP,bO,oj,ob,aj,am,aE,av,bf,au,kM,aA,al,k4]
  rfl) es Y Y Y Y
 simp only [zc,bZ,du,ak,bG,bP,bO,oj,ob,aj,dX]
 rw [lg (by rw [Ww];omega)]
 show (dS _ bY _ (es.map En.d) [Y,Y,Y,Y] S).bind _=_
 rw [k,ob,mU,Xn];rfl
def Ig{ww:PF}(hw:∀ (S:ac) (R:Rm) (g:Nat) (w:Wd),g<R.1.length->R.1.length<=100->ww [aQ R,.int (g:Int),w.d] S=U (aQ (R.1.set g w,R.2),S)){N:List Str}(hN:N.length=7)(h:ROk R){i:Nat}{e:En}(hi:R.2[i]?=U e)(hl:R.1.length<=50) :
  aP N (qL ww) 3 [r.d,aQ R,.int (e.g:Int)] S=U (aQ (sO r R i e),S):=by
 have hst:aB N [r.d,aQ R,.int (e.g:Int)]=[U r.d,U (aQ R),U (.int (e.g:Int)),Y,Y,Y,Y]:=by simp [aB,hN,List.replicate]
 rw [bd (show [r.d,aQ R,D.int (e.g:Int)].length=3 from rfl),hst]
 have hle:=h.len
 have hil:=(Wo.mp hi).1
 have g2:∀ env S,aK 2 (af (ah 3) (af (ah 4) (aC))) (aQ R) env S=(af (ah 3) (af (ah 4) (aC))) [cx R.1,cf R.2] env S:=λenv S=>bS
 have gs:∀ env:bj,oE (ah 0) bY (ar aw (ab 0) (mC (.int 0))) [Y] env (R.2.map En.d,S)=U (.lst (R.2.map λe=>.int (e.g:Int)),S):=λenv=>gsC (b:=Y) rfl (by omega)
 have km:∀ (ms:MA) env,rQ nj ms env (.lst (R.2.map λe=>.int (e.g:Int)),S)=(ms env S).bind (eI nj (.lst (R.2.map λe=>.int (e.g:Int)))):=λms env=>rfl
 have ki:=UD (S:=S) h.nd hi (by omega)
 have c1:iP (cf R.2) Y (U (i:Int),S)=U (cf (R.2.take i),S):=by
  rw [show cf R.2=.tup (R.2.map En.d) from rfl,kI,js];unfold cf;rw [Yj]
 have c2:iP (cf R.2) (U ((i:Int)+1)) (Y,S)=U (cf (R.2.drop (i+1)),S):=by
  rw [show cf R.2=.tup (R.2.map En.d) from rfl,kI,show ((i:Int)+1)=((i+1:Nat):Int) by omega,oe _ _ (by rw [Ww];omega)];unfold cf;rw [Zp]
 have w3:(r.w.s == ("passes":Str))=decide (r.w=.passes):=Rw.eq r.w .passes
 have x1:aw S (cf R.2) (.int (i:Int))=U e.d:=Ni hi
 have k2:∀ x y,cy ([x,y],S)=U (.tup [x,y],S):=λx y=>aY (by simp)
 have ad:∀ l:List En,l.length<=60->aR S (cf l) (cf (R.2.drop (i+1)))=U (cf (l++R.2.drop (i+1))):=λl hl'=>by
  unfold cf;rw [gO (by simp;omega),<- Xt]
 have wi:=λl=>hw S (R.1,l) e.g (if e.wr then .writes else .reads) (h.lt (WN hi)) (show R.1.length<=100 by omega)
 have wi':∀ l,ww [.tup [cx R.1,cf l],.int (e.g:Int),(if e.wr then Wd.writes else Wd.reads).d] S=U (aQ (R.1.set e.g (if e.wr then .writes else .reads),l),S):=wi
 have sq:aJ (cr .tup) [.lst (((R.2.take i).map SE).map En.d)] S=U (cf ((R.2.take i).map SE),S):=by rw [fW];rfl
 simp only [qL,liGs,aT,bn,ak,bG,bP,bO,oj,ob,aj,bo,g2,bp,aU,cI,bH,eN,eV,bL,aH,im,bZ,du,dX,gs,km,aq,am,aA,al,dJ,ki,cH,eZ,cL,eY,dj,dm,c1,bi,aG,aE,av,bf,au,Rl.ix0,cD,w3,aD]
 by_cases hp:r.w=.passes
 ·rw [WA hp]
  have e1:(R.2.take i).map (qy r)=(R.2.take i).map SE:=by
   apply Zk;intro x _;simp [qy,SE,hp]
  simp only [bK,bn,bT,aq,Eh (es:=R.2.take i) (by simp;omega),ob,am,aA,al,bU,sq,bo,aU,eN,eV,bL,aH,aZ,aM,bg,ak,bG,bP,bO,oj,aj,aE,av,cH,eZ,dj,bf,au,kM,dm,eY,cL,c2,ad _ (show ((R.2.take i).map SE).length<=60 by simp;omega),k2,pS,x1,En.ix1,JO,bM,wi',bx,aI]
  unfold sO;rw [e1]
 ·rw [WC hp]
  have e1:(R.2.take i).map (qy r)=R.2.take i:=by
   have:∀ x:En,qy r x=x:=λx=>by simp [qy,hp]
   rw [Zk (λx _=>this x),List.map_id']
  simp only [bE,bv,ob,aH,aZ,aM,aq,bg,ak,bG,bP,bO,oj,aj,am,aE,av,cH,eZ,dj,bf,au,kM,dm,eY,cL,c2,ad _ (show (R.2.take i).length<=60 by simp;omega),aA,al,k2,pS,x1,En.ix1,JO,bM,wi',bx,aI]
  unfold sO;rw [e1]
def sQ:Option Ev->D
 | none=>.non
 | some v=>v.d
def vv(cg:PF):MS:=bz (cQ (ao 3 cg (aa (ab 0) (aa (ab 1) (aa (ab 2) (ai)))))) (aX (aO (aa (mC (.str "steps")) (aa (ab 2) (ai))))) (aS)
def oT(gw cg nx:PF):MS:=ay (dO (ao 2 gw (aa (ab 1) (aa (aO (aa (mC (.str "rising")) (ai))) (ai)))) (ah 2) (vv cg)) (ay (aF (ao 2 nx (aa (ab 0) (aa (ab 1) (ai)))) (ah 2)) (aX (mD (ax (ar wy (ab 2) (mC .non))) (mC .non) (aO (aa (mC (.str "in")) (aa (ab 2) (ai)))))))
theorem xN{cg:PF}(O:om cg)(hl:R.1.length<=100):∀ (l:List Nat) (a:Option D),∃ b,cn (ah 2) (vv cg) (l.map ni) [U r.d,U (aQ R),a] S=U (match l.find? (dY r R) with | some g=>.rt (Ev.mk "steps" g).d S | none=>.nx [U r.d,U (aQ R),b] S)
 | [],a=>⟨a,by simp⟩
 | g::l,a=>by
  obtain⟨b,ih⟩:=xN O hl l (U (ni g))
  refine⟨b,?_⟩
  have c1:cg [r.d,aQ R,ni g] S=U (.bl (dY r R g),S):=O.1 S r R g hl
  have k2:∀ x y,cy ([x,y],S)=U (.tup [x,y],S):=λx y=>aY (by simp)
  rw [Wx,dw,aU,ob,eV,eV,eN,kJ]
  simp only [vv,bi,dP,aM,aq,ak,bG,bP,bO,oj,ob,aj,am,aA,al,bM,c1,eX,Xh]
  cases hc:dY r R g with
  | true=>simp only [bK,aZ,bg,aq,bf,ob,am,ak,bG,bP,bO,oj,aj,aA,al,k2,bx,Gf];rfl
  | false=>
   rw [bE,bv,ob,jc]
   exact ih
def EY{gw cg nx:PF}(hg:Of gw)(O:om cg)(hn:∀ (S:ac) (r:Rl) (R:Rm),R.1.length<=100->R.2.length<=100->nx [r.d,aQ R] S=U (oo (rK r R),S)){N:List Str}(hN:N.length=3)(hl:R.1.length<=100)(hl2:R.2.length<=100) :
  aP N (oT gw cg nx) 2 [r.d,aQ R] S=U (sQ (oM r R),S):=by
 have hst:aB N [r.d,aQ R]=[U r.d,U (aQ R),Y]:=by simp [aB,hN,List.replicate]
 rw [bd (show [r.d,aQ R].length=2 from rfl),hst]
 have o1:gw [aQ R,.tup [.str "rising"]] S=U (nt (tz (λw=>decide (w∈[Wd.rising])) R.1),S):=hg S R [.rising] hl
 have k1:cy ([.str "rising"],S)=U (.tup [.str "rising"],S):=aY (by simp)
 have k2:∀ x y,cy ([x,y],S)=U (.tup [x,y],S):=λx y=>aY (by simp)
 obtain⟨b,e⟩:=xN (S:=S) (r:=r) O hl (tz (λw=>decide (w∈[Wd.rising])) R.1) Y
 have ek:mT (ah 2) (vv cg) [U r.d,U (aQ R),Y] (nt (tz (λw=>decide (w∈[Wd.rising])) R.1),S)=cn (ah 2) (vv cg) ((tz (λw=>decide (w∈[Wd.rising])) R.1).map ni) [U r.d,U (aQ R),Y] S:=rfl
 have ew:(λw=>decide (w∈[Wd.rising]))=λw=>decide (w=Wd.rising):=by funext w;simp
 unfold oM
 simp only [oT,aT,lP,aM,aq,ak,bG,bP,bO,oj,ob,aj,am,bg,bf,aA,al,k1,bh,o1,ek,e]
 rw [ew]
 cases hf:(tz (λw=>decide (w=Wd.rising)) R.1).find? (dY r R) with
 | some g=>simp only [bV,ob,aI,sQ]
 | none=>
  have n1:=hn S r R hl hl2
  simp only [aH,aT,bn,aM,aq,ak,bG,bP,bO,oj,ob,aj,am,aA,al,bh,n1,bo,aU,eN,eV,bL,aZ,mS,aG,aE,av,bf,au,mx]
  cases rK r R with
  | none=>simp [oo,mV,sQ]
  | some g=>simp [oo,mV,sQ,k2,Ev.d]
def mL(ww li:PF):MS:=ay (aF (ab 2) (aK 2 (af (ah 3) (af (ah 4) (aC))))) (ay (bz (ax (ar bW (ab 3) (mC (.str "steps")))) (aX (ao 3 ww (aa (ab 1) (aa (ab 4) (aa (mC (.str "raised")) (ai)))))) (aS)) (aX (ao 3 li (aa (ab 0) (aa (ab 1) (aa (ab 4) (ai)))))))
def CF{ww li:PF}(hw:∀ (S:ac) (R:Rm) (g:Nat) (w:Wd),g<R.1.length->R.1.length<=100->ww [aQ R,.int (g:Int),w.d] S=U (aQ (R.1.set g w,R.2),S))
  (hi:∀ (S:ac) (r:Rl) (R:Rm) (i:Nat) (e:En),ROk R->R.2[i]?=U e->R.1.length<=50->li [r.d,aQ R,.int (e.g:Int)] S=U (aQ (sO r R i e),S)) {N:List Str} (hN:N.length=5) (h:ROk R) (hl:R.1.length<=50) {v:Ev} {R':Rm} {l:List Ev} (s:Fl r R (U v) R' l) :
  aP N (mL ww li) 3 [r.d,aQ R,v.d] S=U (aQ R',S):=by
 have hst:aB N [r.d,aQ R,v.d]=[U r.d,U (aQ R),U v.d,Y,Y]:=by simp [aB,hN,List.replicate]
 rw [bd (show [r.d,aQ R,v.d].length=3 from rfl),hst]
 have g2:∀ env S,aK 2 (af (ah 3) (af (ah 4) (aC))) v.d env S=(af (ah 3) (af (ah 4) (aC))) [.str v.w,.int (v.g:Nat)] env S:=λenv S=>bS
 simp only [mL,aT,bn,ak,bG,bP,bO,oj,ob,aj,bo,g2,bp,aU,cI,bH,eN,eV,bL,aH,bi,aG,aE,av,bf,au,cD]
 cases s with
 | up g hg=>
  have e1:(("steps":Str) == ("steps":Str))=true:=by decide
  have w1:ww [aQ R,.int (g:Int),.str "raised"] S=U (aQ (R.1.set g .raised,R.2),S):=hw S R g .raised (Wo.mp hg).1 (by omega)
  simp only [e1,aD,bK,aZ,aM,aq,ak,bG,bP,bO,oj,ob,aj,am,bf,aA,al,bM,w1,bx,bV,aI]
 | go i e he=>
  have e1:(("in":Str) == ("steps":Str))=false:=by decide
  have w1:=hi S r R i e h he hl
  simp only [e1,aD,bE,bv,aH,aZ,aM,aq,ak,bG,bP,bO,oj,ob,aj,am,aA,al,bM,w1,bx,aI]
def Db(br co:PF):MS:=ay (aF (ao 3 br (aa (ab 0) (aa (ab 1) (aa (ab 3) (ai))))) (ah 1)) (ay (cV (da ce (ab 2) (aa (ab 3) (ai)))) (aF (ao 2 co (aa (ab 0) (aa (ab 1) (ai)))) (ah 3)))
def CZ:MT:=ax (ar nh (ab 3) (mC .non))
def mJ(br co:PF):MS:=ay (aF (dI (ai)) (ah 2)) (ay (aF (ao 2 co (aa (ab 0) (aa (ab 1) (ai)))) (ah 3)) (ay (eO CZ (Db br co)) (aX (aO (aa (ab 1) (aa (ba (aJ (cr .tup)) (aa (ab 2) (ai))) (ai)))))))
structure Wg(br co:PF):Prop where
 c:∀ (S:ac) (r:Rl) (R:Rm),R.1.length<=100->R.2.length<=100->co [r.d,aQ R] S=U (sQ (oM r R),S)
 b:∀ (S:ac) (r:Rl) (R:Rm) (v:Ev) (R':Rm) (l:List Ev),ROk R->R.1.length<=50->Fl r R (U v) R' l->br [r.d,aQ R,v.d] S=U (aQ R',S)
theorem wK{br co:PF}(O:Wg br co)(hb:0<=r.b):∀ (n f:Nat) (R:Rm) (evs:List Ev),ROk R->R.1.length<=50->Ua R<=n->n<f->evs.length+n<=400 ->
  gE CZ (Db br co) f [U r.d,U (aQ R),U (.ref S.length),U (sQ (oM r R))] (S++[.lst (evs.map Ev.d)])=U (.nx [U r.d,U (aQ (rG r n R).1),U (.ref S.length),U .non] (S++[.lst ((evs++(rG r n R).2).map Ev.d)]))
 | n,0,R,evs,_,_,_,hf,_=>by omega
 | n,f+1,R,evs,h,hl,hm,hf,he=>by
  have s:=xM (r:=r) h hb
  rw [HZ]
  simp only [CZ,aG,aE,ak,bG,bP,bO,oj,ob,aj,av,bf,au,qp]
  rcases Hd h s with ⟨h1,h2,h3⟩ | ⟨v,h1,h2,h3⟩
  ·rw [h1,As h1 h hb n]
   simp only [sQ,mV,Xa,aD,ob,kWh_f,WS]
  ·cases n with
   | zero=>omega
   | succ n=>
    obtain⟨q1,q2⟩:=qF (r:=r) h
    have ih:=wK O hb n f (jU r R).1 (evs++[v]) q1 (by omega) (by omega) (by omega) (by simp;omega)
    rw [h1] at s ⊢
    have b1:∀ S,br [r.d,aQ R,v.d] S=U (aQ (jU r R).1,S):=λS=>O.b S r R v _ _ h hl s
    have c1:∀ S,co [r.d,aQ (jU r R).1] S=U (sQ (oM r (jU r R).1),S):=λS=>O.c S r _ (by omega) (by have:=q1.len;omega)
    have ap:ce (.ref S.length) [v.d] (S++[.lst (evs.map Ev.d)])=U (.non,S++[.lst ((evs++[v]).map Ev.d)]):=EH (by omega)
    have nn:mV (sQ (U v)) .non=false:=rfl
    have ev:sQ (U v)=v.d:=rfl
    rw [nn]
    simp only [Xj,aD,ob,kWh_t,Db,aT,bn,aM,aq,ak,bG,bP,bO,oj,aj,am,aA,al,bM,ev,b1,bo,aU,eN,eV,bL,aH,io,im,zG,dJ,ap,ip,bh,c1,PM]
    have e2:rG r (n+1) R=((rG r n (jU r R).1).1,(jU r R).2++(rG r n (jU r R).1).2):=rfl
    rw [e2,h2,<- WR]
    exact ih
def yr{br co:PF}(O:Wg br co)(hb:0<=r.b){N:List Str}(hN:N.length=4)(h:ROk R)(hl:R.1.length<=50) :
  aP N (mJ br co) 2 [r.d,aQ R] S=U (.tup [aQ (aW r R).1,cU (aW r R).2],S++[.lst ((aW r R).2.map Ev.d)]):=by
 have hst:aB N [r.d,aQ R]=[U r.d,U (aQ R),Y,Y]:=by simp [aB,hN,List.replicate]
 rw [bd (show [r.d,aQ R].length=2 from rfl),hst]
 have k0:qa ([],S)=U (.ref S.length,S++[.lst []]):=jx (by simp)
 have c1:∀ S,co [r.d,aQ R] S=U (sQ (oM r R),S):=λS=>O.c S r _ (by omega) (by have:=h.len;omega)
 have lp:=wK (S:=S) O hb (2 * R.1.length) 5000 R [] h hl (TZ h) (by omega) (by simp;omega)
 simp only [YH,YA] at lp
 have k2:∀ S x y,cy ([x,y],S)=U (.tup [x,y],S):=λS x y=>aY (by simp)
 unfold aW
 simp only [mJ,aT,bn,nQ,aA,ob,k0,bo,aU,eN,eV,bL,aH,aM,aq,ak,bG,bP,bO,oj,aj,am,al,bh,c1,Lw,lp,aZ,bg,bT,bU,MK,k2,bx,aI]
end
section
variable{S:ac}{r:Rl}{R:Rm}
def Cm{x:D}(h:cP 40 x=true):gv S x x=U (.bl false):=by
 rw [rh h h,nw 40 x h];rfl
end
section
variable{r:Rl}
structure Calm(ws:List Wd):Prop where
 only:∀ w∈ws,w=.out\/w=.reads
 one:1<=ws.count .reads
theorem Calm.set{ws:List Wd}(c:Calm ws){g:Nat}(hg:ws[g]?=U .out):Calm (ws.set g .reads)/\(ws.set g .reads).count .reads=ws.count .reads+1:=by
 have h:=ly (b:=.reads) hg (by decide) .reads
 simp at h
 have:=c.one
 refine⟨⟨λw hw=>?_,by omega⟩,h⟩
 rcases List.mem_or_eq_of_mem_set hw with z | z
 ·exact c.only w z
 ·exact .inr z
end
section
variable{α:Type}{enc:α->D}{p:α->Bool}{f:α->D}{t:MT}{e:ME}{rest:bj}{S:ac}{r:Nat}{xs:List α}
end
section
variable{r:Rl}{es:List En}
end
section
variable{α:Type}{enc:α->D}{f:α->Nat->D}{e:ME}{mi:MA}{S:ac}{n:Nat}{c:Option D}
end
section
variable{S:ac}{n:Nat}{a:Option D}
end
def pH(wait:PF):MS:=
 ay (bz (ax (ar bW (ar aw (ab 1) (mC (.int 0))) (mC (.str "tick")))) (aX (mC (.bl true))) (aS)) (ay (aF (bu (ab 1) (bw) (bR (mC (.int 2)))) (aK 2 (af (ah 2) (af (ah 3) (aC))))) (ay (aF (ar aw (ar aw (ab 0) (mC (.int 0))) (ab 3)) (ah 4)) (ay (bz (ax (ar bW (ab 2) (mC (.str "up")))) (aX (ar bW (ab 4) (mC (.str "reads")))) (aS)) (ay (bz (ax (ar bW (ab 2) (mC (.str "down")))) (aX (ar kR (ab 4) (mC (.tup [.str "writes",.str "raised"])))) (aS)) (ay (bz (ax (ar bW (ab 2) (mC (.str "leave")))) (aX (ar gv (ab 4) (mC (.str "out")))) (aS)) (ay (bz (ax (ar bW (ab 2) (mC (.str "stop")))) (aX (ar nh (ao 2 wait (aa (ab 0) (aa (ab 3) (ai)))) (mC .non))) (aS)) (aX (dA (ar bW (ab 4) (mC (.str "out"))) (ar wy (ao 2 wait (aa (ab 0) (aa (ab 3) (ai)))) (mC .non))))))))))
def EC{es:List En}{g:Nat}:(es.find? λe=>decide (e.g=g)).isSome=bB es g:=by
 unfold bB;rw [List.isSome_find?]
def lG{R:Rm}{g:Nat}:mV (jW R g) .non = !(decide (R.1[g]?=U .rising)||bB R.2 g):=by
 unfold jW
 rw [<- EC]
 by_cases h:R.1[g]?=U .rising
 ·rw [WI h,WA h];rfl
 ·rw [if_neg h,WC h]
  cases R.2.find? λe=>decide (e.g=g) with
  | none=>rfl
  | some e=>cases e.wr <;> rfl
def Jm{wait:PF}(O:rB wait){N:List Str}(hN:N.length=5){S:ac}{R:Rm}{dd:Dd}(hl:R.1.length<=100)(hd:dd.Ok R.1.length)(ht:dd≠.tick):aP N (pH wait) 2 [aQ R,dd.d] S=U (.bl (gP R dd),S):=by
 have hst:aB N [aQ R,dd.d]=[U (aQ R),U dd.d,Y,Y,Y]:=by simp [aB,hN,List.replicate]
 rw [bd (show [aQ R,dd.d].length=2 from rfl),hst]
 have x0:∀ S,aw S dd.d (.int 0)=U (.str (dg dd)):=λS=>by cases dd <;> first | rfl | exact absurd rfl ht
 have tk:bW S (.str (dg dd)) (.str "tick")=U (.bl false):=by rw [cD,Cy ht]
 have hg:bb dd<R.1.length:=by cases dd with
  | ask _ _ _=>exact hd.1
  | act _ _=>exact hd
  | tick=>exact absurd rfl ht
 have hw:R.1[bb dd]?=U R.1[bb dd]:=Wv hg
 have xw:∀ S,aw S (cx R.1) (.int (bb dd:Int))=U (R.1[bb dd]).d:=λS=>rE hw
 have sl:∀ S,iP dd.d Y (U 2,S)=U (.tup [.str (dg dd),.int (bb dd:Int)],S):=λS=>by cases dd <;> first | rfl | exact absurd rfl ht
 have g2:∀ x y env S,aK 2 (af (ah 2) (af (ah 3) (aC))) (.tup [x,y]) env S=(af (ah 2) (af (ah 3) (aC))) [x,y] env S:=λx y env S=>bS
 have rx:∀ S,aw S (aQ R) (.int 0)=U (cx R.1):=λS=>rfl
 have wt:∀ S,wait [aQ R,.int (bb dd:Int)] S=U (jW R (bb dd),S):=λS=>O S R _ hl
 simp only [pH,aT,bi,aG,aE,ak,bG,bP,bO,oj,ob,aj,av,bf,au,x0,tk,aD,bE,bv,aH,bn,cH,eZ,cL,eY,dj,dm,sl,bo,g2,bp,aU,cI,bH,eN,eV,bL,rx,xw]
 generalize hv:R.1[bb dd]=w at hw
 have e1:bW S w.d (.str "reads")=U (.bl (decide (w=.reads))):=nk (b:=.reads)
 have e2:gv S w.d (.str "out")=U (.bl (!decide (w=.out))):=vi (b:=.out)
 have e3:bW S w.d (.str "out")=U (.bl (decide (w=.out))):=nk (b:=.out)
 cases dd with
 | tick=>exact absurd rfl ht
 | act k g=>
  simp only [bb] at hw wt ⊢
  have wk:∀ j:Ak,bW S (.str (dg (.act k g))) (.str j.s)=U (.bl (decide (k=j))):=λj=>zE
  have w1:=wk .up
  have w2:=wk .down
  have w3:=wk .leave
  have w4:=wk .stop
  simp only [Ak.s] at w1 w2 w3 w4
  cases k with
  | up=>simp only [w1,aD,ob,Yf,bK,aZ,aE,ak,bG,bP,bO,oj,aj,av,bf,au,e1,bx,bV,aI,gP,hw,XC]
  | down=>simp (decide:=true) only [w1,w2,aD,ob,Yf,Yo,bE,bv,aH,bK,aT,bi,aG,aZ,aE,ak,bG,bP,bO,oj,aj,av,bf,au,EE,bx,bV,aI,gP,hw,XC]
  | leave=>simp (decide:=true) only [w1,w2,w3,aD,ob,Yf,Yo,bE,bv,aH,bK,aT,bi,aG,aZ,aE,ak,bG,bP,bO,oj,aj,av,bf,au,e2,bx,bV,aI,gP,hw,XC,ne_eq,decide_not]
  | stop=>
   simp (decide:=true) only [w1,w2,w3,w4,aD,ob,Yf,Yo,bE,bv,aH,bK,aT,bi,aG,aZ,aE,ak,bG,bP,bO,oj,aj,av,bf,au,aM,aq,am,aA,al,bh,wt,qp,lG,bx,bV,aI,gP,Bool.not_not,Bool.or_comm]
 | ask wr g t=>
  simp only [bb] at hw wt ⊢
  have w1:bW S (.str (dg (.ask wr g t))) (.str "up")=U (.bl false):=by rw [cD];cases wr <;> rfl
  have w2:bW S (.str (dg (.ask wr g t))) (.str "down")=U (.bl false):=by rw [cD];cases wr <;> rfl
  have w3:bW S (.str (dg (.ask wr g t))) (.str "leave")=U (.bl false):=by rw [cD];cases wr <;> rfl
  have w4:bW S (.str (dg (.ask wr g t))) (.str "stop")=U (.bl false):=by rw [cD];cases wr <;> rfl
  simp only [w1,w2,w3,w4,aD,ob,bE,bv,aH,aT,bi,aG,aZ,aE,ak,bG,bP,bO,oj,aj,av,bf,au,lR,e3]
  by_cases hw':w=.out
  ·subst hw'
   simp only [Yf,qY,aE,aM,aq,ak,bG,bP,bO,oj,ob,aj,am,aA,al,bh,wt,av,bf,au,mx,lG,bx,aI,gP,hw,XC]
   simp
  ·simp only [WC hw',Mc,ob,bx,aI,gP,hw,XC,Ym]
section
variable{r:Rl}{R:Rm}{g:Nat}
def Da(h:(jU r R).1.1[g]?=U .rising):R.1[g]?=U .rising:=by
 have key:∀ (i:Nat) (w:Wd),w≠.rising->(R.1.set i w)[g]?=U .rising->R.1[g]?=U .rising:=λi w hw q=>by
  by_cases e:i=g
  ·subst e
   by_cases hl:i<R.1.length
   ·rw [WV hl] at q;exact absurd (WH q) hw
   ·rw [aaq (by simp;omega)] at q;cases q
  ·rwa [WO e] at q
 unfold jU at h
 split at h
 ·exact key _ _ (by decide) h
 ·split at h
  ·split at h
   ·rename_i e _
    refine key _ _ ?_ h
    cases e.wr <;> decide
   ·exact h
  ·exact h
theorem oQ:∀ (n:Nat) {R:Rm},(rG r n R).1.1[g]?=U .rising->R.1[g]?=U .rising
 | 0,_,h=>h
 | n+1,R,h=>Da (oQ n (R:=(jU r R).1) h)
def He(h:bB (jU r R).1.2 g=true):bB R.2 g=true:=by
 obtain⟨e,he,hg⟩:=XA.mp h
 unfold jU at he
 split at he
 ·exact XA.mpr ⟨e,he,hg⟩
 ·split at he
  ·split at he
   ·rcases WK.mp he with he | he
    ·obtain⟨y,hy,rfl⟩:=WP.mp he
     exact XA.mpr ⟨y,Xs hy,hg⟩
    ·exact XA.mpr ⟨e,Zg he,hg⟩
   ·exact XA.mpr ⟨e,he,hg⟩
  ·exact XA.mpr ⟨e,he,hg⟩
theorem wM:∀ (n:Nat) {R:Rm},bB (rG r n R).1.2 g=true->bB R.2 g=true
 | 0,_,h=>h
 | n+1,R,h=>He (wM n (R:=(jU r R).1) h)
def uk(h:ROk R){w:Wd}(hw:R.1[g]?=U w)(ho:w≠.out):bB R.2 g=false:=by
 cases z:bB R.2 g with
 | false=>rfl
 | true=>
  obtain⟨e,he,hg⟩:=XA.mp z
  have:=h.out e he
  rw [Xq hg,hw] at this
  exact absurd (WH this) ho
def Cj{es:List En}(h:bB es g=false):(es.filter λe=>decide (e.g≠g))=es:=by
 rw [XD]
 intro e he
 exact WA (gA h he)
end
def GN(settled:PF):Prop:=∀ (S:ac) (r:Rl) (R:Rm),0<=r.b->ROk R->R.1.length<=50->settled [r.d,aQ R] S=U (.tup [aQ (aW r R).1,cU (aW r R).2],S++[.lst ((aW r R).2.map Ev.d)])
structure DeOk(settled wait gw ww:PF):Prop where
 s:GN settled
 w:rB wait
 g:Of gw
 ww:∀ (S:ac) (R:Rm) (g:Nat) (w:Wd),g<R.1.length->R.1.length<=100->ww [aQ R,.int (g:Int),w.d] S=U (aQ (R.1.set g w,R.2),S)
def EG{S:ac}{k l:List Ev}(h:k.length<=400)(h':l.length<=400):aR S (cU k) (cU l)=U (cU (k++l)):=by
 show aR S (.tup (k.map Ev.d)) (.tup (l.map Ev.d))=_
 rw [gO (by simp;omega),<- Xt];rfl
def yd{r:Rl}{R:Rm}(hl:R.1.length<=50):(aW r R).2.length<=100:=WT (nM _) (by omega)
def iV(x:Rm×List Ev):D:=.tup [aQ x.1,cU x.2]
def Dr:MS:=ay (aF (ab 0) (aK 2 (af (ah 2) (af (ah 3) (aC))))) (aX (aO (aa (ab 2) (aa (ba (aJ (cr .tup)) (aa (bI (db (ab 3)) (ah 0) (ax (ar gv (ar aw (ab 0) (mC (.int 0))) (ab 1))) (ab 0) [Y,U 1]) (ai))) (ai)))))
section
variable{S:ac}{r:Rl}{R:Rm}{g:Nat}{N:List Str}{settled wait gw ww wo sb tu ol:PF}
def SA(hN:N.length=4)(hl:R.2.length<=100):aP N Dr 2 [aQ R,.int (g:Int)] S=U (aQ (R.1,R.2.filter λe=>decide (e.g≠g)),S):=by
 have hst:aB N [aQ R,.int (g:Int)]=[U (aQ R),U (.int (g:Int)),Y,Y]:=by simp [aB,hN,List.replicate]
 rw [bd (show [aQ R,D.int (g:Int)].length=2 from rfl),hst]
 have g2:∀ env S,aK 2 (af (ah 2) (af (ah 3) (aC))) (aQ R) env S=(af (ah 2) (af (ah 3) (aC))) [cx R.1,cf R.2] env S:=λenv S=>bS
 have k2:∀ x y:D,cy ([x,y],S)=U (.tup [x,y],S):=λx y=>aY (by simp)
 have k:=Kx (S:=S) (es:=R.2) (g:=g) (b:=Y) (cap:=[Y,U 1]) (env:=[U (aQ R),U (.int (g:Int)),U (cx R.1),U (cf R.2)]) rfl hl
 simp only [Dr,aT,bn,ak,bG,bP,bO,oj,ob,aj,bo,g2,bp,aU,cI,bH,eN,eV,bL,aH,aZ,bg,aq,bT,bZ,du,dX,k,am,aA,al,bU,fW,k2,bx,aI]
 rfl
def Dt(settled:PF):MS:=ay (aF (ao 2 settled (aa (ab 0) (aa (ab 1) (ai)))) (aK 2 (af (ah 1) (af (ah 3) (aC))))) (aX (aO (aa (ab 1) (aa (ar aR (ab 2) (ab 3)) (ai)))))
def Rx(sb:PF):Prop:=∀ (S:ac) (r:Rl) (R:Rm) (l:List Ev),0<=r.b->ROk R->R.1.length<=50->l.length<=400->∃ T,sb [r.d,aQ R,cU l] S=U (iV ((aW r R).1,l++(aW r R).2),S++T)
def SW(O:GN settled)(hN:N.length=4){l:List Ev}(hb:0<=r.b)(h:ROk R)(hl:R.1.length<=50)(h4:l.length<=400):∃ T,aP N (Dt settled) 3 [r.d,aQ R,cU l] S=U (iV ((aW r R).1,l++(aW r R).2),S++T):=by
 have hst:aB N [r.d,aQ R,cU l]=[U r.d,U (aQ R),U (cU l),Y]:=by simp [aB,hN,List.replicate]
 rw [bd (show [r.d,aQ R,cU l].length=3 from rfl),hst]
 have o:=O S r R hb h hl
 have fw:=yd (r:=r) hl
 have g2:∀ (x y:D) env S,aK 2 (af (ah 1) (af (ah 3) (aC))) (.tup [x,y]) env S=(af (ah 1) (af (ah 3) (aC))) [x,y] env S:=λx y env S=>bS
 have k2:∀ S (x y:D),cy ([x,y],S)=U (.tup [x,y],S):=λS x y=>aY (by simp)
 have ec:∀ S,aR S (cU l) (cU (aW r R).2)=U (cU (l++(aW r R).2)):=λS=>EG h4 (by omega)
 refine⟨[.lst ((aW r R).2.map Ev.d)],?_⟩
 simp only [Dt,aT,bn,aM,aq,ak,bG,bP,bO,oj,ob,aj,am,aA,al,bh,o,bo,g2,bp,aU,cI,bH,eN,eV,bL,aH,aZ,bg,aE,av,au,ec,k2,bx,aI,iV]
def tuC:ME:=bI (db (ab 4)) (aK 4 (af (ah 0) (af (ah 1) (af (ah 2) (af (ah 3) (aC)))))) (bY) (aO (aa (ab 0) (aa (ab 1) (aa (mD (ax (ar bW (ab 1) (mC (.str "read")))) (mC (.int 1)) (ab 2)) (aa (ab 3) (ai)))))) [Y,Y,Y,Y]
def Ds:MS:=ay (aF (ab 1) (aK 2 (af (ah 3) (af (ah 4) (aC))))) (ay (bz (eG (ax (ar gv (ar aw (ab 0) (mC (.int 0))) (mC (.str "turns")))) (ax (ar gv (ar aw (ab 3) (ab 2)) (mC (.str "writes"))))) (aX (ab 1)) (aS)) (aX (aO (aa (ab 3) (aa (ba (aJ (cr .tup)) (aa tuC (ai))) (ai))))))
def LQ{e:ME}{f:En->D}{cap:List (Option Nat)}{env:bj}{a b c d:Option D}{es:List En}(hc:wA cap env=[a,b,c,d])(hl:es.length<=1000)(he:∀ x:En,e [U (.int (x.g:Nat)),U (.str (be x.wr)),U (.int x.m),U (bJ x.t)] S=U (f x,S)) :
  oE (aK 4 (af (ah 0) (af (ah 1) (af (ah 2) (af (ah 3) (aC)))))) bY e cap env (es.map En.d,S)=U (.lst (es.map f),S):=by
 rw [lg (by rw [Ww];exact hl),hc,NO (t:=e) (f:=f) (λx a b c d=>?_) he,ob,mU]
 rw [show x.d=.tup [.int (x.g:Nat),.str (be x.wr),.int x.m,bJ x.t] from rfl,tD]
 simp only [bp,aU,ob,eN,eV,cI,bH]
def JP{b:Bool}:(be b == ("read":Str)) = !b:=by cases b <;> decide +kernel
def TuOk(tu:PF):Prop:=∀ (S:ac) (r:Rl) (R:Rm) (g:Nat) (w:Wd),R.1[g]?=U w->R.2.length<=100->tu [r.d,aQ R,.int (g:Int)] S=U (aQ (R.1,tm r w R.2),S)
def SK(hN:N.length=5){w:Wd}(hw:R.1[g]?=U w)(hl:R.2.length<=100):aP N Ds 3 [r.d,aQ R,.int (g:Int)] S=U (aQ (R.1,tm r w R.2),S):=by
 have hst:aB N [r.d,aQ R,.int (g:Int)]=[U r.d,U (aQ R),U (.int (g:Int)),Y,Y]:=by simp [aB,hN,List.replicate]
 rw [bd (show [r.d,aQ R,D.int (g:Int)].length=3 from rfl),hst]
 have g2:∀ env S,aK 2 (af (ah 3) (af (ah 4) (aC))) (aQ R) env S=(af (ah 3) (af (ah 4) (aC))) [cx R.1,cf R.2] env S:=λenv S=>bS
 have k2:∀ x y:D,cy ([x,y],S)=U (.tup [x,y],S):=λx y=>aY (by simp)
 have k4:∀ x y z u:D,cy ([x,y,z,u],S)=U (.tup [x,y,z,u],S):=λx y z u=>aY (by simp)
 have xw:aw S (cx R.1) (.int (g:Int))=U w.d:=rE hw
 have x0:aw S r.d (.int 0)=U (.str r.w.s):=rfl
 have e1:gv S (.str r.w.s) (.str "turns")=U (.bl (!decide (r.w=.turns))):=by
  rw [rg];congr 2;cases r.w <;> decide +kernel
 have e2:gv S w.d (.str "writes")=U (.bl (!decide (w=.writes))):=vi (b:=.writes)
 have k:=LQ (S:=S) (es:=R.2) (cap:=[Y,Y,Y,Y]) (env:=[U r.d,U (aQ R),U (.int (g:Int)),U (cx R.1),U (cf R.2)]) (a:=Y) (b:=Y) (c:=Y) (d:=Y) (e:=aO (aa (ab 0) (aa (ab 1) (aa (mD (ax (ar bW (ab 1) (mC (.str "read")))) (mC (.int 1)) (ab 2)) (aa (ab 3) (ai)))))) (f:=λx=>(if x.wr then x else { x with m:=1 }).d) rfl (by omega) λx=>by
  obtain⟨xg,xwr,xm,xt⟩:=x
  cases xwr with
  | true=>
   have:bW S (.str (be true)) (.str "read")=U (.bl false):=by rw [cD,JP];rfl
   simp only [bg,aq,ak,bG,bP,bO,oj,ob,aj,am,mS,aG,aE,av,bf,au,this,aD,Gg,aA,al,k4]
   rfl
  | false=>
   have:bW S (.str (be false)) (.str "read")=U (.bl true):=by rw [cD,JP];rfl
   simp only [bg,aq,ak,bG,bP,bO,oj,ob,aj,am,mS,aG,aE,av,bf,au,this,aD,BO,aA,al,k4]
   rfl
 simp only [Ds,aT,bn,ak,bG,bP,bO,oj,ob,aj,bo,g2,bp,aU,cI,bH,eN,eV,bL,aH,bi,iN,aG,aE,av,bf,au,x0,e1,aD]
 unfold tm
 by_cases h1:r.w=.turns
 ·simp only [WA h1,Xa,lT,aG,aE,ak,bG,bP,bO,oj,ob,aj,av,bf,au,xw,e2,aD]
  by_cases h2:w=.writes
  ·simp only [WA h2,Xa,bE,bv,ob,aH,aZ,bg,aq,ak,bG,bP,bO,oj,aj,am,bT,tuC,bZ,du,dX,k,aA,al,bU,fW,k2,bx,aI]
   rw [WI ⟨h1,h2⟩]
   simp only [aQ,cf,Xn]
   rfl
  ·simp only [WC h2,Xj,bK,aZ,ak,bG,bP,bO,oj,ob,aj,bx,bV,aI]
   rw [if_neg (λz=>h2 z.2)]
 ·simp only [WC h1,Xj,zl,ob,bK,aZ,ak,bG,bP,bO,oj,aj,bx,bV,aI]
  rw [if_neg (λz=>h1 z.1)]
def yv(settled wait wo:PF):MS:=ay (aF (ab 2) (aK 3 (af (ah 3) (af (ah 4) (af (ah 5) (aC)))))) (ay (aF (ab 1) (aK 2 (af (ah 6) (af (ah 7) (aC))))) (ay (aF (aO (aa (ab 4) (aa (ab 3) (aa (mC (.int 0)) (aa (mD (ax (ar bW (ab 5) (mC (.int 0)))) (mC (.int 1)) (ab 5)) (ai)))))) (ah 8)) (ay (aF (ao 2 settled (aa (ab 0) (aa (aO (aa (ab 6) (aa (ar aR (ab 7) (aO (aa (ab 8) (ai)))) (ai)))) (ai)))) (aK 2 (af (ah 1) (af (ah 9) (aC))))) (ay (bz (ax (ar wy (ao 2 wait (aa (ab 1) (aa (ab 4) (ai)))) (mC .non))) (aX (aO (aa (ab 1) (aa (ab 9) (ai))))) (aS)) (ay (bz (ax (ar bW (ab 5) (mC (.int 0)))) (aX (aO (aa (ao 2 wo (aa (ab 1) (aa (ab 4) (ai)))) (aa (ar aR (ab 9) (aO (aa (aO (aa (mC (.str "no")) (aa (ab 4) (ai)))) (ai)))) (ai))))) (aS)) (aX (aO (aa (ab 1) (aa (ar aR (ab 9) (aO (aa (aO (aa (mC (.str "waits")) (aa (ab 4) (ai)))) (ai)))) (ai))))))))))
def We(wo:PF):Prop:=∀ (S:ac) (R:Rm) (g:Nat),R.2.length<=100->wo [aQ R,.int (g:Int)] S=U (aQ (R.1,R.2.filter λe=>decide (e.g≠g)),S)
def Rv(O:GN settled)(W:rB wait)(V:We wo)(hN:N.length=10){wr:Bool}{t:Option Int}(hb:0<=r.b)(h:ROk R)(hl:R.1.length<=50)(hw:R.1[g]?=U .out)(hs:bB R.2 g=false):∃ T,aP N (yv settled wait wo) 3 [r.d,aQ R,(Dd.ask wr g t).d] S=U (iV (sT r R wr g t),S++T):=by
 have hst:aB N [r.d,aQ R,(Dd.ask wr g t).d]=[U r.d,U (aQ R),U (Dd.ask wr g t).d,Y,Y,Y,Y,Y,Y,Y]:=by simp [aB,hN,List.replicate]
 rw [bd (show [r.d,aQ R,(Dd.ask wr g t).d].length=3 from rfl),hst]
 have hle:=h.len
 have ok:=tG (wr:=wr) (t:=t) h hw hs
 have g3:∀ env S,aK 3 (af (ah 3) (af (ah 4) (af (ah 5) (aC)))) (Dd.ask wr g t).d env S=(af (ah 3) (af (ah 4) (af (ah 5) (aC)))) [.str (be wr),.int (g:Int),bJ t] env S:=λenv S=>tE
 have g2:∀ env S,aK 2 (af (ah 6) (af (ah 7) (aC))) (aQ R) env S=(af (ah 6) (af (ah 7) (aC))) [cx R.1,cf R.2] env S:=λenv S=>bS
 have g2':∀ (x y:D) env S,aK 2 (af (ah 1) (af (ah 9) (aC))) (.tup [x,y]) env S=(af (ah 1) (af (ah 9) (aC))) [x,y] env S:=λx y env S=>bS
 have k1:∀ S (x:D),cy ([x],S)=U (.tup [x],S):=λS x=>aY (by simp)
 have k2:∀ S (x y:D),cy ([x,y],S)=U (.tup [x,y],S):=λS x y=>aY (by simp)
 have k4:∀ S (x y z u:D),cy ([x,y,z,u],S)=U (.tup [x,y,z,u],S):=λS x y z u=>aY (by simp)
 have hi:mD (ax (ar bW (ab 5) (mC (.int 0)))) (mC (.int 1)) (ab 5) [U r.d,U (aQ R),U (Dd.ask wr g t).d,U (.str (be wr)),U (.int (g:Int)),U (bJ t),U (cx R.1),U (cf R.2),Y,Y] S=U (bJ (if t=U 0 then U 1 else t),S):=by
  simp only [mS,aG,aE,ak,bG,bP,bO,oj,ob,aj,av,bf,au,jI,aD]
  by_cases z:t=U 0
  ·rw [WA z,WI z];simp only [BO,bf];rfl
  ·rw [WC z,if_neg z];simp only [Gg,ak,bG,bP,bO,oj,ob,aj]
 have ed:D.tup [.int (g:Int),.str (be wr),.int 0,bJ (if t=U 0 then U 1 else t)]=(kP wr g t).d:=rfl
 have ae:aR S (cf R.2) (.tup [(kP wr g t).d])=U (cf (R.2++[kP wr g t])):=by
  show aR S (.tup (R.2.map En.d)) _=_
  rw [gO (by simp;omega)];simp [cf]
 have so:=O S r (R.1,R.2++[kP wr g t]) hb ok hl
 have so':settled [r.d,.tup [cx R.1,cf (R.2++[kP wr g t])]] S=_:=so
 have fw:=yd (r:=r) (R:=(R.1,R.2++[kP wr g t])) hl
 have lnS:(aW r (R.1,R.2++[kP wr g t])).1.1.length=R.1.length:=(dN (r:=r) ok).2
 have okS:=(dN (r:=r) ok).1
 have ln2:=okS.len
 generalize hA:aW r (R.1,R.2++[kP wr g t])=A at so' fw lnS okS ln2
 have nr:¬ A.1.1[g]?=U .rising:=λz=>by
  rw [<- hA] at z
  have:=oQ _ z
  rw [hw] at this;cases this
 have wt:∀ S,wait [aQ A.1,.int (g:Int)] S=U (jW A.1 g,S):=λS=>W S A.1 g (by omega)
 have vo:∀ S,wo [aQ A.1,.int (g:Int)] S=U (aQ (A.1.1,A.1.2.filter λe=>decide (e.g≠g)),S):=λS=>V S A.1 g (by omega)
 have e1:∀ S (w:Str),aR S (cU A.2) (.tup [.tup [.str w,.int (g:Int)]])=U (cU (A.2++[⟨w,g⟩])):=λS w=>EG (l:=[⟨w,g⟩]) (by omega) (by simp)
 have wb:mV (jW A.1 g) .non = !bB A.1.2 g:=by rw [lG,WC nr,Bool.false_or]
 refine⟨[.lst (A.2.map Ev.d)],?_⟩
 simp only [yv,aT,bn,ak,bG,bP,bO,oj,ob,aj,bo,g3,bp,aU,cI,bH,eN,eV,bL,aH,g2,bg,aq,bf,hi,am,aA,al,k4,ed,aM,aE,av,k1,au,ae,k2,bh,so',g2',bi,aG,wt,mx,wb,aD]
 unfold sT
 rw [hA]
 dsimp only
 cases hst:bB A.1.2 g with
 | false=>
  rw [WI rfl]
  simp only [Xj,bK,aZ,bg,aq,ak,bG,bP,bO,oj,ob,aj,am,aA,al,k2,bx,bV,aI,iV]
 | true=>
  rw [if_neg (by decide)]
  simp only [Xa,bE,bv,ob,aH,aT,bi,aG,aE,ak,bG,bP,bO,oj,aj,av,bf,au,jI,aD]
  by_cases z:t=U 0
  ·rw [WA z,WI z]
   simp only [bK,aZ,bg,aq,aM,ak,bG,bP,bO,oj,ob,aj,am,aA,al,bh,vo,aE,av,bf,k2,k1,au,e1,bx,bV,aI,iV]
  ·rw [WC z,if_neg z]
   simp only [bE,bv,ob,aH,aZ,bg,aq,ak,bG,bP,bO,oj,aj,am,aA,al,aE,av,bf,k2,k1,au,e1,bx,aI,iV]
def Fk(h:ROk R){k:Ak}{w:Wd}(hs:bB R.2 g=false):rA r k w g R.2=if k=.down\/k=.leave then tm r w R.2 else R.2:=by
 unfold rA
 refine Cj ?_
 split
 ·unfold tm
  split
  ·unfold bB
   rw [Ze]
   refine Eq.trans ?_ hs
   unfold bB
   congr 1
   funext e
   show decide ((if e.wr=true then e else { e with m:=1 }).g=g)=_
   cases e.wr <;> rfl
  ·exact hs
 ·exact hs
def yt(settled wait gw ww:PF):MS:=ay (aF (ar aw (ab 2) (mC (.int 1))) (ah 3)) (ay (bz (eG (ax (ar bW (ar aw (ab 0) (mC (.int 3))) (mC (.int 0)))) (cQ (ao 2 gw (aa (ab 1) (aa (aO (aa (mC (.str "rising")) (ai))) (ai)))))) (aX (aO (aa (ab 1) (aa (aO (aa (aO (aa (mC (.str "no")) (aa (ab 3) (ai)))) (ai))) (ai))))) (aS)) (ay (aF (ao 2 settled (aa (ab 0) (aa (ao 3 ww (aa (ab 1) (aa (ab 3) (aa (mC (.str "rising")) (ai))))) (ai)))) (aK 2 (af (ah 1) (af (ah 4) (aC))))) (ay (bz (ax (ar wy (ao 2 wait (aa (ab 1) (aa (ab 3) (ai)))) (mC .non))) (aX (aO (aa (ab 1) (aa (ab 4) (ai))))) (aS)) (aX (aO (aa (ab 1) (aa (ar aR (ab 4) (aO (aa (aO (aa (mC (.str "waits")) (aa (ab 3) (ai)))) (ai)))) (ai))))))))
def SD(O:DeOk settled wait gw ww)(hN:N.length=5)(hb:0<=r.b)(h:ROk R)(hl:R.1.length<=50)(hw:R.1[g]?=U .reads):∃ T,aP N (yt settled wait gw ww) 3 [r.d,aQ R,(Dd.act .up g).d] S=U (iV (if r.c=0\/Wd.rising∈R.1 then (R,[⟨"no",g⟩]) else mB r R .up g .reads),S++T):=by
 have hst:aB N [r.d,aQ R,(Dd.act .up g).d]=[U r.d,U (aQ R),U (Dd.act .up g).d,Y,Y]:=by simp [aB,hN,List.replicate]
 rw [bd (show [r.d,aQ R,(Dd.act .up g).d].length=3 from rfl),hst]
 have hg:g<R.1.length:=(Wo.mp hw).1
 have x1:aw S (Dd.act .up g).d (.int 1)=U (.int (g:Int)):=rfl
 have x3:aw S r.d (.int 3)=U (.int r.c):=rfl
 have k1:∀ S (x:D),cy ([x],S)=U (.tup [x],S):=λS x=>aY (by simp)
 have k2:∀ S (x y:D),cy ([x,y],S)=U (.tup [x,y],S):=λS x y=>aY (by simp)
 have gr:gw [aQ R,.tup [.str "rising"]] S=U (nt (tz (λw=>decide (w∈[Wd.rising])) R.1),S):=O.g S R [.rising] (by omega)
 have tr:BL (nt (tz (λw=>decide (w∈[Wd.rising])) R.1),S)=U (decide (Wd.rising∈R.1),S):=by
  cases hx:tz (λw=>decide (w∈[Wd.rising])) R.1 with
  | nil=>
   have:¬ Wd.rising∈R.1:=λz=>by
    obtain⟨i,hi⟩:=Yx.mp z
    have:i∈tz (λw=>decide (w∈[Wd.rising])) R.1:=mem_ixW.mpr ⟨_,hi,by simp⟩
    rw [hx] at this;cases this
   rw [WC this];rfl
  | cons i l=>
   have:i∈tz (λw=>decide (w∈[Wd.rising])) R.1:=by rw [hx];exact Wr
   obtain⟨w,h1,h2⟩:=mem_ixW.mp this
   have e:w=.rising:=by simpa using h2
   subst e
   rw [WA (WN h1)];rfl
 have ref:(r.c=0\/Wd.rising∈R.1)->∀ env,env=[U r.d,U (aQ R),U (Dd.act .up g).d,U (.int (g:Int)),Y]->eG (ax (ar bW (ar aw (ab 0) (mC (.int 3))) (mC (.int 0)))) (cQ (ao 2 gw (aa (ab 1) (aa (aO (aa (mC (.str "rising")) (ai))) (ai))))) env S=U (true,S):=λz env he=>by
  subst he
  by_cases hc:r.c=0
  ·have:(r.c == 0)=true:=by rw [hc];rfl
   simp only [iN,aG,aE,ak,bG,bP,bO,oj,ob,aj,av,bf,au,x3,kL,this,aD,zl]
  ·have q:(r.c == 0)=false:=Xv.mpr hc
   simp only [iN,aG,aE,ak,bG,bP,bO,oj,ob,aj,av,bf,au,x3,kL,q,aD,lT,dP,aM,aq,am,bg,aA,al,k1,bh,gr,tr,WA (z.resolve_left hc)]
 by_cases z:r.c=0\/Wd.rising∈R.1
 ·rw [WI z]
  refine⟨[],?_⟩
  simp only [yt,aT,bn,aE,ak,bG,bP,bO,oj,ob,aj,av,bf,au,x1,bo,aU,eN,eV,bL,aH,bi,ref z _ rfl,bK,aZ,bg,aq,am,aA,al,k2,k1,bx,bV,aI,WS]
  rfl
 ·rw [if_neg z]
  have hc:(r.c == 0)=false:=Xv.mpr λq=>z (.inl q)
  have hr:¬ Wd.rising∈R.1:=λq=>z (.inr q)
  have hs:=uk h hw (by decide)
  have wwo:ww [aQ R,.int (g:Int),.str "rising"] S=U (aQ (R.1.set g .rising,R.2),S):=O.ww S R g .rising hg (by omega)
  have ok:ROk (R.1.set g .rising,R.2):=h.setW g .rising λe he=>gA hs he
  have so:=O.s S r (R.1.set g .rising,R.2) hb ok (by simp;omega)
  have fw:=yd (r:=r) (R:=(R.1.set g .rising,R.2)) (by simp;omega)
  have lnS:(aW r (R.1.set g .rising,R.2)).1.1.length=R.1.length:=(dN (r:=r) ok).2.trans (by simp)
  have ns:bB (aW r (R.1.set g .rising,R.2)).1.2 g=false:=by
   cases q:bB (aW r (R.1.set g .rising,R.2)).1.2 g with
   | false=>rfl
   | true=>have:=wM _ q;rw [hs] at this;cases this
  have aL:mB r R .up g .reads=((aW r (R.1.set g .rising,R.2)).1,(aW r (R.1.set g .rising,R.2)).2++(if (aW r (R.1.set g .rising,R.2)).1.1[g]?=U .rising then [⟨"waits",g⟩] else [])):=by
   unfold mB
   rw [Fk h hs,if_neg (by decide)]
   rfl
  rw [aL]
  generalize aW r (R.1.set g .rising,R.2)=A at so fw lnS ns
  have wt:∀ S,wait [aQ A.1,.int (g:Int)] S=U (jW A.1 g,S):=λS=>O.w S A.1 g (by omega)
  have g2:∀ (x y:D) env S,aK 2 (af (ah 1) (af (ah 4) (aC))) (.tup [x,y]) env S=(af (ah 1) (af (ah 4) (aC))) [x,y] env S:=λx y env S=>bS
  have e1:∀ S (w:Str),aR S (cU A.2) (.tup [.tup [.str w,.int (g:Int)]])=U (cU (A.2++[⟨w,g⟩])):=λS w=>EG (l:=[⟨w,g⟩]) (by omega) (by simp)
  have wb:mV (jW A.1 g) .non = !decide (A.1.1[g]?=U .rising):=by rw [lG,ns,Bool.or_false]
  refine⟨[.lst (A.2.map Ev.d)],?_⟩
  simp only [yt,aT,bn,aE,ak,bG,bP,bO,oj,ob,aj,av,bf,au,x1,bo,aU,eN,eV,bL,aH,bi,iN,aG,x3,kL,hc,aD,lT,dP,aM,aq,am,bg,aA,al,k1,bh,gr,tr,WC hr,bE,bv,bM,wwo,so,g2,bp,cI,bH,wt,mx,wb]
  by_cases q:A.1.1[g]?=U .rising
  ·rw [WA q,WI q]
   simp only [Xa,bE,bv,ob,aH,aZ,bg,aq,ak,bG,bP,bO,oj,aj,am,aA,al,aE,av,bf,k2,k1,au,e1,bx,aI,iV]
  ·rw [WC q,if_neg q,WS]
   simp only [Xj,bK,aZ,bg,aq,ak,bG,bP,bO,oj,ob,aj,am,aA,al,k2,bx,bV,aI,iV]
def pF(sb ww tu:PF)(x y:Str):MS:=ay (aF (ar aw (ab 2) (mC (.int 1))) (ah 3)) (aX (ao 3 sb (aa (ab 0) (aa (ao 3 ww (aa (ao 3 tu (aa (ab 0) (aa (ab 1) (aa (ab 3) (ai))))) (aa (ab 3) (aa (mC (.str x)) (ai))))) (aa (aO (aa (aO (aa (mC (.str y)) (aa (ab 3) (ai)))) (ai))) (ai))))))
def zY{k:Ak}{w w':Wd}{es:List En}(hg:g<R.1.length)(hk:gz k w=w')(hr:w'≠.rising)(he:rA r k w g R.2=es):mB r R k g w=((aW r (R.1.set g w',es)).1,fZ k g++(aW r (R.1.set g w',es)).2):=by
 unfold mB
 rw [hk,he]
 dsimp only
 rw [if_neg,WS]
 intro z
 have:=oQ _ z
 rw [WV hg] at this
 exact hr (WH this)
def Ct(SB:Rx sb)(WW:∀ (S:ac) (R:Rm) (g:Nat) (w:Wd),g<R.1.length->R.1.length<=100->ww [aQ R,.int (g:Int),w.d] S=U (aQ (R.1.set g w,R.2),S))(TU:TuOk tu)(hN:N.length=4)(hb:0<=r.b)(h:ROk R)(hl:R.1.length<=50){w w':Wd}{k:Ak}{y:Str}(hw:R.1[g]?=U w)(ho:w≠.out)(hk:k=.down\/k=.leave)(ht:gz k w=w')(hr:w'≠.rising)(hf:fZ k g=[⟨y,g⟩]) :
  ∃ T,aP N (pF sb ww tu w'.s y) 3 [r.d,aQ R,(Dd.act k g).d] S=U (iV (mB r R k g w),S++T):=by
 have hst:aB N [r.d,aQ R,(Dd.act k g).d]=[U r.d,U (aQ R),U (Dd.act k g).d,Y]:=by simp [aB,hN,List.replicate]
 rw [bd (show [r.d,aQ R,(Dd.act k g).d].length=3 from rfl),hst]
 have hg:g<R.1.length:=(Wo.mp hw).1
 have hle:=h.len
 have hs:=uk h hw ho
 have he:rA r k w g R.2=tm r w R.2:=by rw [Fk h hs,WI hk]
 rw [zY hg ht hr he,hf]
 have x1:aw S (Dd.act k g).d (.int 1)=U (.int (g:Int)):=rfl
 have k1:∀ S (x:D),cy ([x],S)=U (.tup [x],S):=λS x=>aY (by simp)
 have k2:∀ S (x y:D),cy ([x,y],S)=U (.tup [x,y],S):=λS x y=>aY (by simp)
 have t1:=TU S r R g w hw (by omega)
 have w1:ww [aQ (R.1,tm r w R.2),.int (g:Int),.str w'.s] S=U (aQ (R.1.set g w',tm r w R.2),S):=WW S (R.1,tm r w R.2) g w' hg (by show R.1.length<=100;omega)
 have ok:ROk (R.1.set g w',tm r w R.2):=by rw [<- he];exact tH h _
 obtain⟨T,s1⟩:=SB S r (R.1.set g w',tm r w R.2) [⟨y,g⟩] hb ok (by simp;omega) (by simp)
 refine⟨T,?_⟩
 have s1':sb [r.d,aQ (R.1.set g w',tm r w R.2),.tup [.tup [.str y,.int (g:Int)]]] S=_:=s1
 simp only [pF,aT,bn,aE,ak,bG,bP,bO,oj,ob,aj,av,bf,au,x1,bo,aU,eN,eV,bL,aH,aZ,aM,aq,am,aA,al,bM,t1,w1,bg,k2,k1,s1',bx,aI]
def pD(sb ww wo wait:PF):MS:=ay (aF (ar aw (ab 2) (mC (.int 1))) (ah 3)) (ay (bz (ax (ar bW (ao 2 wait (aa (ab 1) (aa (ab 3) (ai)))) (mC (.str "up")))) (aF (ao 3 ww (aa (ab 1) (aa (ab 3) (aa (mC (.str "reads")) (ai))))) (ah 4)) (aF (ao 2 wo (aa (ab 1) (aa (ab 3) (ai)))) (ah 4))) (aX (ao 3 sb (aa (ab 0) (aa (ab 4) (aa (aO (aa (aO (aa (mC (.str "ends")) (aa (ab 3) (ai)))) (ai))) (ai)))))))
def Fu:bW S (jW R g) (.str "up")=U (.bl (decide (R.1[g]?=U .rising))):=by
 unfold jW
 by_cases h:R.1[g]?=U .rising
 ·rw [WI h,WA h,cD];rfl
 ·rw [if_neg h,WC h]
  cases R.2.find? λe=>decide (e.g=g) with
  | none=>rw [lX rfl rfl];rfl
  | some e=>
   show bW S (.str (be e.wr)) (.str "up")=_
   rw [cD];cases e.wr <;> rfl
def Kf(SB:Rx sb)(WW:∀ (S:ac) (R:Rm) (g:Nat) (w:Wd),g<R.1.length->R.1.length<=100->ww [aQ R,.int (g:Int),w.d] S=U (aQ (R.1.set g w,R.2),S))(V:We wo)(W:rB wait)(hN:N.length=5)(hb:0<=r.b)(h:ROk R)(hl:R.1.length<=50){w:Wd}(hw:R.1[g]?=U w)(hc:gP R (.act .stop g)=true) :
  ∃ T,aP N (pD sb ww wo wait) 3 [r.d,aQ R,(Dd.act .stop g).d] S=U (iV (mB r R .stop g w),S++T):=by
 have hst:aB N [r.d,aQ R,(Dd.act .stop g).d]=[U r.d,U (aQ R),U (Dd.act .stop g).d,Y,Y]:=by simp [aB,hN,List.replicate]
 rw [bd (show [r.d,aQ R,(Dd.act .stop g).d].length=3 from rfl),hst]
 have hg:g<R.1.length:=(Wo.mp hw).1
 have hle:=h.len
 have x1:aw S (Dd.act .stop g).d (.int 1)=U (.int (g:Int)):=rfl
 have k1:∀ S (x:D),cy ([x],S)=U (.tup [x],S):=λS x=>aY (by simp)
 have k2:∀ S (x y:D),cy ([x,y],S)=U (.tup [x,y],S):=λS x y=>aY (by simp)
 have wt:wait [aQ R,.int (g:Int)] S=U (jW R g,S):=W S R g (by omega)
 have fin:∀ R':Rm,ROk R'->R'.1.length=R.1.length->mB r R .stop g w=((aW r R').1,fZ .stop g++(aW r R').2)->∃ T,sb [r.d,aQ R',.tup [.tup [.str "ends",.int (g:Int)]]] S=U (iV (mB r R .stop g w),S++T):=λR' ok hl' ha=>by
  obtain⟨T,s1⟩:=SB S r R' [⟨"ends",g⟩] hb ok (by omega) (by simp)
  refine⟨T,?_⟩
  rw [ha];exact s1
 by_cases hr:w=.rising
 ·subst hr
  have hs:=uk h hw (by decide)
  have he:rA r .stop .rising g R.2=R.2:=by rw [Fk h hs,if_neg (by decide)]
  have w1:ww [aQ R,.int (g:Int),.str "reads"] S=U (aQ (R.1.set g .reads,R.2),S):=WW S R g .reads hg (by omega)
  obtain⟨T,s1⟩:=fin (R.1.set g .reads,R.2) (h.setW g .reads λe q=>gA hs q) (by simp) (zY hg rfl (by decide) he)
  refine⟨T,?_⟩
  simp only [pD,aT,bn,aE,ak,bG,bP,bO,oj,ob,aj,av,bf,au,x1,bo,aU,eN,eV,bL,aH,bi,aG,aM,aq,am,aA,al,bh,wt,Fu,WA hw,aD,bK,bM,w1,aZ,bg,k2,k1,s1,bx,aI]
 ·have ho:w=.out:=by
   unfold gP at hc
   rw [YE] at hc
   rcases hc with q | q
   ·obtain⟨e,he,hge⟩:=XA.mp q
    have:=h.out e he
    rw [Xq hge,hw] at this
    exact WH this
   ·have:=Xq q;rw [hw] at this;exact absurd (WH this) hr
  subst ho
  have hn:¬ R.1[g]?=U .rising:=by rw [hw];intro z;cases z
  have v1:wo [aQ R,.int (g:Int)] S=U (aQ (R.1,R.2.filter λe=>decide (e.g≠g)),S):=V S R g (by omega)
  have hset:R.1.set g .out=R.1:=by
   obtain⟨q,e⟩:=Wo.mp hw
   rw [<- e];exact List.set_getElem_self q
  have ha:=zY (r:=r) (R:=R) (g:=g) (k:=.stop) (w:=.out) (w':=.out) (es:=R.2.filter λe=>decide (e.g≠g)) hg rfl (by decide) (by unfold rA;rw [if_neg (by decide)])
  rw [hset] at ha
  obtain⟨T,s1⟩:=fin (R.1,R.2.filter λe=>decide (e.g≠g)) (ROk.filter h _) rfl ha
  refine⟨T,?_⟩
  simp only [pD,aT,bn,aE,ak,bG,bP,bO,oj,ob,aj,av,bf,au,x1,bo,aU,eN,eV,bL,aH,bi,aG,aM,aq,am,aA,al,bh,wt,Fu,WC hn,aD,bE,v1,aZ,bg,k2,k1,bM,s1,bx,aI]
def pE:MS:=aX (mD (ax (ar wy (ab 0) (mC .non))) (mC .non) (ar oz (ab 0) (mC (.int 1))))
def LM(hN:N.length=1){t:Option Int}:aP N pE 1 [bJ t] S=U (bJ (t.map (· - 1)),S):=by
 have hst:aB N [bJ t]=[U (bJ t)]:=by simp [aB,hN]
 rw [bd (show [bJ t].length=1 from rfl),hst]
 cases t with
 | none=>
  have i1:mV (bJ Y) .non=true:=rfl
  simp only [pE,aZ,mS,aG,aE,ak,bG,oj,ob,aj,av,bf,au,mx,i1,aD,BO,bx,aI];rfl
 | some t=>
  have i1:mV (bJ (U t)) .non=false:=rfl
  have s1:oz S (bJ (U t)) (.int 1)=U (bJ (U (t - 1))):=zD
  simp only [pE,aZ,mS,aG,aE,ak,bG,oj,ob,aj,av,bf,au,mx,i1,aD,Gg,s1,bx,aI];rfl
def tkA(ol:PF):ME:=bI (db (ab 4)) (aK 4 (af (ah 0) (af (ah 1) (af (ah 2) (af (ah 3) (aC)))))) (bY) (aO (aa (ab 0) (aa (ab 1) (aa (ab 2) (aa (ao 1 ol (aa (ab 3) (ai))) (ai)))))) [Y,Y,Y,Y]
def tkB:ME:=bI (db (ab 5)) (ah 0) (ax (ar bW (ar aw (ab 0) (mC (.int 3))) (mC (.int 0)))) (aO (aa (mC (.str "ends")) (aa (ar aw (ab 0) (mC (.int 0))) (ai)))) [Y]
def tkC:ME:=bI (db (ab 5)) (ah 0) (ax (ar gv (ar aw (ab 0) (mC (.int 3))) (mC (.int 0)))) (ab 0) [Y]
def tY(sb ol:PF):MS:=ay (aF (ab 1) (aK 2 (af (ah 3) (af (ah 4) (aC))))) (ay (aF (tkA ol) (ah 5)) (ay (aF (ba (aJ (cr .tup)) (aa tkB (ai))) (ah 6)) (ay (aF (ba (aJ (cr .tup)) (aa tkC (ai))) (ah 7)) (aX (ao 3 sb (aa (ab 0) (aa (aO (aa (ab 3) (aa (ab 7) (ai)))) (aa (ab 6) (ai)))))))))
def JY(SB:Rx sb)(L:∀ (S:ac) (t:Option Int),ol [bJ t] S=U (bJ (t.map (· - 1)),S))(hN:N.length=8)(hb:0<=r.b)(h:ROk R)(hl:R.1.length<=50):∃ T,aP N (tY sb ol) 3 [r.d,aQ R,Dd.tick.d] S=U (iV (oB r R),S++T):=by
 have hst:aB N [r.d,aQ R,Dd.tick.d]=[U r.d,U (aQ R),U Dd.tick.d,Y,Y,Y,Y,Y]:=by simp [aB,hN,List.replicate]
 rw [bd (show [r.d,aQ R,Dd.tick.d].length=3 from rfl),hst]
 have hle:=h.len
 have g2:∀ env S,aK 2 (af (ah 3) (af (ah 4) (aC))) (aQ R) env S=(af (ah 3) (af (ah 4) (aC))) [cx R.1,cf R.2] env S:=λenv S=>bS
 have k2:∀ x y:D,cy ([x,y],S)=U (.tup [x,y],S):=λx y=>aY (by simp)
 have k4:∀ x y z u:D,cy ([x,y,z,u],S)=U (.tup [x,y,z,u],S):=λx y z u=>aY (by simp)
 have a:=LQ (S:=S) (es:=R.2) (cap:=[Y,Y,Y,Y]) (env:=[U r.d,U (aQ R),U Dd.tick.d,U (cx R.1),U (cf R.2),Y,Y,Y]) (a:=Y) (b:=Y) (c:=Y) (d:=Y) (e:=aO (aa (ab 0) (aa (ab 1) (aa (ab 2) (aa (ao 1 ol (aa (ab 3) (ai))) (ai)))))) (f:=λx=>(ga x).d) rfl (by omega) λx=>by
  simp only [bg,aq,ak,bG,bP,bO,oj,ob,aj,am,aM,aA,al,uO,L,k4];rfl
 have b:=eW (S:=S) (t:=ax (ar bW (ar aw (ab 0) (mC (.int 3))) (mC (.int 0)))) (e:=aO (aa (mC (.str "ends")) (aa (ar aw (ab 0) (mC (.int 0))) (ai)))) (cap:=[Y]) (env:=[U r.d,U (aQ R),U Dd.tick.d,U (cx R.1),U (cf R.2),U (.lst ((R.2.map ga).map En.d)),Y,Y]) (rest:=[]) (a:=Y) (enc:=En.d) (p:=λe=>decide (e.t=U 0)) (f:=λe=>Ev.d ⟨"ends",e.g⟩) (xs:=R.2.map ga) rfl (by rw [Ww];omega) (λe _=>by
  have x3:aw S e.d (.int 3)=U (bJ e.t):=rfl
  simp only [aG,aE,ak,bG,bP,bO,oj,ob,aj,av,bf,au,x3,jI,aD]) (λe _ _=>by
  simp only [bg,aq,bf,ob,am,aE,ak,bG,oj,aj,av,au,En.ix0,aA,al,k2];rfl)
 have c:=eW (S:=S) (t:=ax (ar gv (ar aw (ab 0) (mC (.int 3))) (mC (.int 0)))) (e:=ab 0) (cap:=[Y]) (env:=[U r.d,U (aQ R),U Dd.tick.d,U (cx R.1),U (cf R.2),U (.lst ((R.2.map ga).map En.d)),U (cU (((R.2.map ga).filter λe=>decide (e.t=U 0)).map λe=>⟨"ends",e.g⟩)),Y]) (rest:=[]) (a:=Y) (enc:=En.d) (p:=λe=>decide (e.t≠U 0)) (f:=En.d) (xs:=R.2.map ga) rfl (by rw [Ww];omega) (λe _=>by
  have x3:aw S e.d (.int 3)=U (bJ e.t):=rfl
  simp only [aG,aE,ak,bG,bP,bO,oj,ob,aj,av,bf,au,x3,Cn,aD,ne_eq,decide_not]) (λe _ _=>by simp only [ak,bG,oj,ob,aj])
 have ma:(R.2.map λx=>(ga x).d)=(R.2.map ga).map En.d:=by rw [Xn];rfl
 rw [ma] at a
 have it:∀ l:List D,Er (.lst l,S)=U (l,S):=λl=>zm
 have sb1:aJ (cr .tup) [.lst (((R.2.map ga).filter λe=>decide (e.t=U 0)).map λe=>Ev.d ⟨"ends",e.g⟩)] S=U (cU (((R.2.map ga).filter λe=>decide (e.t=U 0)).map λe=>⟨"ends",e.g⟩),S):=by
  rw [fW];unfold cU;rw [Xn];rfl
 have sc1:aJ (cr .tup) [.lst (((R.2.map ga).filter λe=>decide (e.t≠U 0)).map En.d)] S=U (cf ((R.2.map ga).filter λe=>decide (e.t≠U 0)),S):=fW
 obtain⟨T,s1⟩:=SB S r (R.1,(R.2.map ga).filter λe=>decide (e.t≠U 0)) (((R.2.map ga).filter λ(e:En)=>decide (e.t=U 0)).map λ(e:En)=>Ev.mk "ends" e.g) hb (ROk.filter (ROk.mapE h ga λe=>rfl) _) hl (by
  rw [Ww];exact WT (XG _ _) (by rw [Ww];omega))
 refine⟨T,?_⟩
 have s1':sb [r.d,.tup [cx R.1,cf ((R.2.map ga).filter λe=>decide (e.t≠U 0))],cU (((R.2.map ga).filter λe=>decide (e.t=U 0)).map λe=>⟨"ends",e.g⟩)] S=U (iV (oB r R),S++T):=s1
 simp only [tY,aT,bn,ak,bG,bP,bO,oj,ob,aj,bo,g2,bp,aU,cI,bH,eN,eV,bL,aH,tkA,bZ,du,dX,a,bT,aq,tkB,it,b,am,aA,al,bU,sb1,tkC,c,sc1,aZ,aM,bg,k2,bM,s1',bx,aI]
structure BrOk(ask up down leave stop tick:PF):Prop where
 a:∀ (S:ac) (r:Rl) (R:Rm) (wr:Bool) (g:Nat) (t:Option Int),0<=r.b->ROk R->R.1.length<=50->R.1[g]?=U .out->bB R.2 g=false->∃ T,ask [r.d,aQ R,(Dd.ask wr g t).d] S=U (iV (sT r R wr g t),S++T)
 u:∀ (S:ac) (r:Rl) (R:Rm) (g:Nat),0<=r.b->ROk R->R.1.length<=50->R.1[g]?=U .reads->∃ T,up [r.d,aQ R,(Dd.act .up g).d] S=U (iV (if r.c=0\/Wd.rising∈R.1 then (R,[⟨"no",g⟩]) else mB r R .up g .reads),S++T)
 d:∀ (S:ac) (r:Rl) (R:Rm) (g:Nat) (w:Wd),0<=r.b->ROk R->R.1.length<=50->R.1[g]?=U w->w≠.out->∃ T,down [r.d,aQ R,(Dd.act .down g).d] S=U (iV (mB r R .down g w),S++T)
 l:∀ (S:ac) (r:Rl) (R:Rm) (g:Nat) (w:Wd),0<=r.b->ROk R->R.1.length<=50->R.1[g]?=U w->w≠.out->∃ T,leave [r.d,aQ R,(Dd.act .leave g).d] S=U (iV (mB r R .leave g w),S++T)
 s:∀ (S:ac) (r:Rl) (R:Rm) (g:Nat) (w:Wd),0<=r.b->ROk R->R.1.length<=50->R.1[g]?=U w->gP R (.act .stop g)=true->∃ T,stop [r.d,aQ R,(Dd.act .stop g).d] S=U (iV (mB r R .stop g w),S++T)
 t:∀ (S:ac) (r:Rl) (R:Rm),0<=r.b->ROk R->R.1.length<=50->∃ T,tick [r.d,aQ R,Dd.tick.d] S=U (iV (oB r R),S++T)
def brL(ask up down leave stop tick:PF):List (bt×Nat×PF):=[(.inr "read",3,ask),(.inr "write",3,ask),(.inr "up",3,up),(.inr "down",3,down),(.inr "leave",3,leave),(.inr "stop",3,stop),(.inr "tick",3,tick)]
def pG(l:List (bt×Nat×PF)):MS:=iw l 3 (ar aw (ab 2) (mC (.int 0))) (aa (ab 0) (aa (ab 1) (aa (ab 2) (ai))))
def jK{l:List (bt×Nat×PF)}{f:PF}{x y z d:D}{w:Str}(hN:N.length=4)(hx:aw S z (.int 0)=U (.str w))(hv:Ai l (.inr w)=U (3,f)){S':ac}(hf:f [x,y,z] S=U (d,S')):aP N (pG l) 3 [x,y,z] S=U (d,S'):=by
 have hst:aB N [x,y,z]=[U x,U y,U z,Y]:=by simp [aB,hN,List.replicate]
 rw [bd (show [x,y,z].length=3 from rfl),hst]
 have kd:=λms env=>LY (S:=S) (d:=.str w) (ms:=ms) (env:=env) (i:=3) (l:=l) zj hv
 have k3:zo 3 f ([x,y,z],S)=(f [x,y,z] S).bind kRt:=Io rfl
 simp only [pG,PC,aE,ak,bG,bP,bO,oj,ob,aj,av,bf,au,hx,kd,eN,eV,aq,am,aA,al,k3,hf,bx,aI]
def HB{ask up down leave stop tick:PF}(B:BrOk ask up down leave stop tick)(hN:N.length=4){dd:Dd}{x:Rm×List Ev}(hb:0<=r.b)(h:ROk R)(hl:R.1.length<=50)(hd:dd.Ok R.1.length)(hx:fo r R dd=U x):∃ T,aP N (pG (brL ask up down leave stop tick)) 3 [r.d,aQ R,dd.d] S=U (iV x,S++T):=by
 unfold fo at hx
 split at hx
 ·cases hx
 rename_i hcan
 rw [Bool.not_eq_false] at hcan
 split at hx
 ·cases hx
  obtain⟨T,e⟩:=B.t S r R hb h hl
  exact⟨T,jK (w:="tick") hN rfl (by rfl) e⟩
 ·rename_i wr g t
  cases hx
  unfold gP at hcan
  rw [Wq] at hcan
  obtain⟨T,e⟩:=B.a S r R wr g t hb h hl (Xq hcan.1) (by simpa using hcan.2)
  refine⟨T,?_⟩
  cases wr
  ·exact jK (w:="read") hN rfl (by rfl) e
  ·exact jK (w:="write") hN rfl (by rfl) e
 ·rename_i k g
  have hg:g<R.1.length:=hd
  obtain⟨w,hw⟩:∃ w,R.1[g]?=U w:=⟨_,Wv hg⟩
  rw [hw] at hx
  dsimp only at hx
  cases k with
  | up=>
   have hr:R.1[g]?=U .reads:=Xq hcan
   rw [hw] at hr;cases hr
   obtain⟨T,e⟩:=B.u S r R g hb h hl hw
   refine⟨T,jK (w:="up") hN rfl (by rfl) ?_⟩
   rw [e]
   by_cases z:r.c=0\/Wd.rising∈R.1
   ·rw [WI ⟨rfl,z⟩] at hx;cases hx;rw [WI z]
   ·rw [if_neg (λq=>z q.2)] at hx;cases hx;rw [if_neg z]
  | down=>
   rw [if_neg (λq=>by cases q.1)] at hx;cases hx
   have ho:w≠.out:=λz=>by
    subst z
    have hc2:(decide (R.1[g]?=U Wd.writes)||decide (R.1[g]?=U Wd.raised))=true:=hcan
    rw [hw] at hc2;revert hc2;decide
   obtain⟨T,e⟩:=B.d S r R g w hb h hl hw ho
   exact⟨T,jK (w:="down") hN rfl (by rfl) e⟩
  | leave=>
   rw [if_neg (λq=>by cases q.1)] at hx;cases hx
   have ho:w≠.out:=λz=>by
    subst z
    exact(Xq hcan) hw
   obtain⟨T,e⟩:=B.l S r R g w hb h hl hw ho
   exact⟨T,jK (w:="leave") hN rfl (by rfl) e⟩
  | stop=>
   rw [if_neg (λq=>by cases q.1)] at hx;cases hx
   obtain⟨T,e⟩:=B.s S r R g w hb h hl hw hcan
   exact⟨T,jK (w:="stop") hN rfl (by rfl) e⟩
end
section
variable{S:ac}{N:List Str}{r:Rl}{R:Rm}{n:Nat}{dd:Dd}
def yu:MS:=aX (dA (dR "tuple" (ab 0)) (ar bW (ba (aJ eg) (aa (ab 0) (ai))) (ab 1)))
def Su(f:PF):Prop:=∀ (S:ac) (xs:List D) (k:Int),f [.tup xs,.int k] S=U (.bl (decide ((xs.length:Int)=k)),S)
def On(hN:N.length=2){xs:List D}{k:Int}:aP N yu 2 [.tup xs,.int k] S=U (.bl (decide ((xs.length:Int)=k)),S):=by
 have hst:aB N [D.tup xs,D.int k]=[U (.tup xs),U (.int k)]:=by simp [aB,hN]
 rw [bd (show [D.tup xs,D.int k].length=2 from rfl),hst]
 have it:lu "tuple" S (.tup xs)=U (.bl true):=rfl
 simp only [yu,aZ,lR,LC,ak,bG,bP,bO,oj,ob,aj,LX,it,qY,aE,bT,aq,am,aA,al,bU,vj,av,au,kL,bx,aI]
 rfl
def tX:MS:=aX (dA (dR "str" (ab 0)) (ar kR (ab 0) (ab 1)))
def Od(f:PF):Prop:=∀ (S:ac) (x:Str) (ys:List Str),x∈ys->f [.str x,.tup (ys.map .str)] S=U (.bl true,S)
def JN(hN:N.length=2){x:Str}{ys:List Str}(h:x∈ys):aP N tX 2 [.str x,.tup (ys.map .str)] S=U (.bl true,S):=by
 have hst:aB N [D.str x,D.tup (ys.map .str)]=[U (.str x),U (.tup (ys.map .str))]:=by simp [aB,hN]
 rw [bd (show [D.str x,D.tup (ys.map .str)].length=2 from rfl),hst]
 have it:lu "str" S (.str x)=U (.bl true):=rfl
 have fi:kR S (.str x) (.tup (ys.map .str))=U (.bl true):=by
  rw [jH (ys:=ys.map .str) rfl rfl (by rw [WJ];intro d hd;obtain⟨y,_,rfl⟩:=WP.mp hd;rfl)]
  have:((ys.map D.str).any λd=>jJ d (.str x))=true:=XA.mpr ⟨.str x,WP.mpr ⟨x,h,rfl⟩,by show (x == x)=true;simp⟩
  rw [this]
 simp only [tX,aZ,lR,LC,ak,bG,bP,bO,oj,ob,aj,LX,it,qY,aE,av,au,fi,bx,aI]
def qJ:MS:=aX (dA (dR "int" (ab 0)) (gF (dR "bool" (ab 0))))
def sX(whole:PF):MS:=aX (dA (ao 1 whole (aa (ab 0) (ai))) (cT Qr Qr (ab 1) (ab 0) (ab 2)))
def Sy(f:PF):Prop:=∀ (S:ac) (i lo hi:Int),f [.int i,.int lo,.int hi] S=U (.bl (decide (lo<=i)&&decide (i<=hi)),S)
def GU(hN:N.length=1){i:Int}:aP N qJ 1 [.int i] S=U (.bl true,S):=by
 have hst:aB N [D.int i]=[U (.int i)]:=by simp [aB,hN]
 rw [bd (show [D.int i].length=1 from rfl),hst]
 have i1:lu "int" S (.int i)=U (.bl true):=rfl
 have i2:lu "bool" S (.int i)=U (.bl false):=rfl
 simp [qJ,i1,i2]
def Rn{whole:PF}(W:∀ (S:ac) (i:Int),whole [.int i] S=U (.bl true,S))(hN:N.length=3){i lo hi:Int}:aP N (sX whole) 3 [.int i,.int lo,.int hi] S=U (.bl (decide (lo<=i)&&decide (i<=hi)),S):=by
 have hst:aB N [D.int i,D.int lo,D.int hi]=[U (.int i),U (.int lo),U (.int hi)]:=by simp [aB,hN]
 rw [bd (show [D.int i,D.int lo,D.int hi].length=3 from rfl),hst]
 by_cases h:lo<=i
 ·simp [sX,W,h]
 ·simp [sX,W,h]
def mK(tof word bet:PF):MS:=ay (bz (cQ (ao 2 tof (aa (ab 1) (aa (mC (.int 1)) (ai))))) (aX (ao 2 word (aa (ar aw (ab 1) (mC (.int 0))) (aa (aO (aa (mC (.str "tick")) (ai))) (ai))))) (aS)) (ay (bz (cQ (ao 2 tof (aa (ab 1) (aa (mC (.int 2)) (ai))))) (aX (dA (ao 2 word (aa (ar aw (ab 1) (mC (.int 0))) (aa (mC (.tup [.str "up",.str "down",.str "leave",.str "stop"])) (ai)))) (ao 3 bet (aa (ar aw (ab 1) (mC (.int 1))) (aa (mC (.int 0)) (aa (ar oz (ab 0) (mC (.int 1))) (ai))))))) (aS)) (ay (bz (dB (cQ (ao 2 tof (aa (ab 1) (aa (mC (.int 3)) (ai)))))) (aX (mC (.bl false))) (aS)) (ay (aF (ab 1) (aK 3 (af (ah 2) (af (ah 3) (af (ah 4) (aC)))))) (aX (dA (ao 2 word (aa (ab 2) (aa (mC (.tup [.str "read",.str "write"])) (ai)))) (dA (ao 3 bet (aa (ab 3) (aa (mC (.int 0)) (aa (ar oz (ab 0) (mC (.int 1))) (ai))))) (vE (ar wy (ab 4) (mC .non)) (ao 3 bet (aa (ab 4) (aa (mC (.int 0)) (aa (mC (.int 9)) (ai))))))))))))
def Jd{tof word bet:PF}(T:Su tof)(W:Od word)(B:Sy bet)(hN:N.length=5)(hd:dd.Ok n):aP N (mK tof word bet) 2 [.int (n:Int),dd.d] S=U (.bl true,S):=by
 have hst:aB N [D.int (n:Int),dd.d]=[U (.int (n:Int)),U dd.d,Y,Y,Y]:=by simp [aB,hN,List.replicate]
 rw [bd (show [D.int (n:Int),dd.d].length=2 from rfl),hst]
 cases dd with
 | tick=>
  have t1:tof [Dd.tick.d,.int 1] S=U (.bl true,S):=T S [.str "tick"] 1
  have x0:aw S Dd.tick.d (.int 0)=U (.str "tick"):=rfl
  have k1:cy ([.str "tick"],S)=U (.tup [.str "tick"],S):=aY (by simp)
  have w1:word [.str "tick",.tup [.str "tick"]] S=U (.bl true,S):=W S "tick" ["tick"] (by simp)
  simp only [mK,aT,bi,dP,aM,aq,ak,bG,bP,bO,oj,ob,aj,am,bf,aA,al,bh,t1,eX,bK,aZ,aE,av,au,x0,bg,k1,w1,bx,bV,aI]
 | act k g=>
  have hg:g<n:=hd
  have t1:tof [(Dd.act k g).d,.int 1] S=U (.bl false,S):=T S [.str k.s,.int (g:Int)] 1
  have t2:tof [(Dd.act k g).d,.int 2] S=U (.bl true,S):=T S [.str k.s,.int (g:Int)] 2
  have x0:aw S (Dd.act k g).d (.int 0)=U (.str k.s):=rfl
  have x1:aw S (Dd.act k g).d (.int 1)=U (.int (g:Int)):=rfl
  have w1:word [.str k.s,.tup [.str "up",.str "down",.str "leave",.str "stop"]] S=U (.bl true,S):=W S k.s ["up","down","leave","stop"] (by cases k <;> simp [Ak.s])
  have b1:bet [.int (g:Int),.int 0,.int ((n:Int) - 1)] S=U (.bl true,S):=by
   rw [B];congr 3;rw [WA (by omega),WA (by omega)];rfl
  simp only [mK,aT,bi,dP,aM,aq,ak,bG,bP,bO,oj,ob,aj,am,bf,aA,al,bh,t1,eX,bE,bv,aH,t2,bK,aZ,lR,aE,av,au,x0,w1,qY,x1,zD,bM,b1,bx,bV,aI]
 | ask wr g t=>
  have hg:g<n:=hd.1
  have t1:tof [(Dd.ask wr g t).d,.int 1] S=U (.bl false,S):=T S [.str (be wr),.int (g:Int),bJ t] 1
  have t2:tof [(Dd.ask wr g t).d,.int 2] S=U (.bl false,S):=T S [.str (be wr),.int (g:Int),bJ t] 2
  have t3:tof [(Dd.ask wr g t).d,.int 3] S=U (.bl true,S):=T S [.str (be wr),.int (g:Int),bJ t] 3
  have g3:∀ env S,aK 3 (af (ah 2) (af (ah 3) (af (ah 4) (aC)))) (Dd.ask wr g t).d env S=(af (ah 2) (af (ah 3) (af (ah 4) (aC)))) [.str (be wr),.int (g:Int),bJ t] env S:=λenv S=>tE
  have w1:word [.str (be wr),.tup [.str "read",.str "write"]] S=U (.bl true,S):=W S (be wr) ["read","write"] (by cases wr <;> simp [be])
  have b1:bet [.int (g:Int),.int 0,.int ((n:Int) - 1)] S=U (.bl true,S):=by
   rw [B];congr 3;rw [WA (by omega),WA (by omega)];rfl
  simp only [mK,aT,bi,dP,aM,aq,ak,bG,bP,bO,oj,ob,aj,am,bf,aA,al,bh,t1,eX,bE,bv,aH,t2,iY,t3,jb,Xa,bn,bo,g3,bp,aU,cI,bH,eN,eV,bL,aZ,lR,w1,qY,aE,av,au,zD,bM,b1,RL,mx]
  cases t with
  | none=>
   have i1:mV (bJ Y) .non=true:=rfl
   simp only [i1,kOr_t,ob,bx,aI]
  | some t=>
   have i1:mV (bJ (U t)) .non=false:=rfl
   obtain⟨l0,l9⟩:=hd.2 t rfl
   have b2:bet [bJ (U t),.int 0,.int 9] S=U (.bl true,S):=by
    rw [show bJ (U t)=.int t from rfl,B];congr 3;rw [WA l0,WA l9];rfl
   simp only [i1,kOr_f,aM,aq,ak,bG,bP,bO,oj,ob,aj,am,bf,aA,al,bM,b2,bx,aI]
def IV{x:Rm×List Ev}(h:fo r R dd=U x):gP R dd=true:=by
 unfold fo at h
 split at h
 ·cases h
 ·rename_i q;rw [Bool.not_eq_false] at q;exact q
def Fb{wait:PF}(hN:N.length=5):aP N (pH wait) 2 [aQ R,Dd.tick.d] S=U (.bl true,S):=by
 have hst:aB N [aQ R,Dd.tick.d]=[U (aQ R),U Dd.tick.d,Y,Y,Y]:=by simp [aB,hN,List.replicate]
 rw [bd (show [aQ R,Dd.tick.d].length=2 from rfl),hst]
 have x0:aw S Dd.tick.d (.int 0)=U (.str "tick"):=rfl
 have tk:bW S (.str "tick") (.str "tick")=U (.bl true):=by rw [cD];rfl
 simp only [pH,aT,bi,aG,aE,ak,bG,bP,bO,oj,ob,aj,av,bf,au,x0,tk,aD,bK,aZ,bx,bV,aI]
def jn{x:Rm×List Ev}(h:ROk R)(hl:R.1.length<=5)(hx:fo r R dd=U x):x.2.length<=15:=by
 have hle:=h.len
 have sf:∀ R':Rm,R'.1.length=R.1.length->(aW r R').2.length<=10:=λR' q=>WT (nM _) (by omega)
 unfold fo at hx
 split at hx
 ·cases hx
 rename_i hcan
 split at hx
 ·cases hx
  have:=sf (R.1,(R.2.map ga).filter λe=>decide (e.t≠U 0)) rfl
  have q:((R.2.map ga).filter λe=>decide (e.t=U 0)).length<=R.2.length:=WT (XG _ _) (by simp)
  unfold oB
  dsimp only
  rw [WB,Ww]
  omega
 ·rename_i wr g t
  cases hx
  have:=sf (R.1,R.2++[kP wr g t]) rfl
  unfold sT
  dsimp only
  split
  ·omega
  ·split
   ·rw [WB,XF];omega
   ·rw [WB,XF];omega
 ·rename_i k g
  split at hx
  ·cases hx;simp
  ·split at hx
   ·rename_i w hw
    cases hx
    have:=sf (R.1.set g (gz k w),rA r k w g R.2) (by simp)
    have f1:(fZ k g).length<=1:=by cases k <;> simp [fZ]
    unfold mB
    dsimp only
    rw [WB,WB]
    split
    ·rw [XF];omega
    ·rw [Yg];omega
   ·cases hx
end
abbrev Rs:=List (Rm×List Ev)
inductive Ws(r:Rl):Rm->List Dd->Rs->Prop
 | nil {R:Rm}:Ws r R [] []
 | cons {R:Rm} {d:Dd} {x:Rm×List Ev} {l:List Dd} {xs:Rs} (h:fo r R d=U x) (t:Ws r x.1 l xs):Ws r R (d::l) (x::xs)
def rP:Rm->Rs->Rm
 | R,[]=>R
 | _,x::xs=>rP x.1 xs
def JX:Rm->Rs->List (Rm×Rm×List Ev)
 | _,[]=>[]
 | R,x::xs=>(R,x.1,x.2)::JX x.1 xs
def Fv(z:Rm×Rm×List Ev):D:=.tup [aQ z.1,aQ z.2.1,cU z.2.2]
section
variable{r:Rl}{R:Rm}{l:List Dd}{xs:Rs}{n:Nat}
def Ws.len(h:Ws r R l xs):xs.length=l.length:=by
 induction h with
 | nil=>rfl
 | cons _ _ ih=>rw [WG,WG,ih]
def Ws.snoc(h:Ws r R l xs){d:Dd}{x:Rm×List Ev}(hx:fo r (rP R xs) d=U x):Ws r R (l++[d]) (xs++[x])/\rP R (xs++[x])=x.1:=by
 induction h with
 | nil=>exact⟨.cons hx .nil,rfl⟩
 | cons q t ih=>exact⟨.cons q (ih hx).1,(ih hx).2⟩
theorem Ws.take(h:Ws r R l xs):∀ c:Nat,Ws r R (l.take c) (xs.take c):=by
 induction h with
 | nil=>intro c;rw [Zo,Zo];exact .nil
 | cons q t ih=>
  intro c
  cases c with
  | zero=>exact .nil
  | succ c=>exact .cons q (ih c)
def Behind.ws(h:Behind r n l R):(∃ xs,Ws r (bX n) l xs/\rP (bX n) xs=R)/\∀ d∈l,d.Ok n:=by
 induction h with
 | nil=>exact⟨⟨[],.nil,rfl⟩,λd z=>by cases z⟩
 | snoc h hd e ih=>
  obtain⟨⟨xs,w,q⟩,o⟩:=ih
  rw [<- q] at e
  obtain⟨w',q'⟩:=w.snoc e
  refine⟨⟨_,w',q'⟩,λd hd'=>?_⟩
  rcases WK.mp hd' with z | z
  ·exact o d z
  ·rw [WL.mp z];exact hd
def Ws.ok(h:Ws r R l xs):ROk R->ROk (rP R xs)/\(rP R xs).1.length=R.1.length:=by
 induction h with
 | nil=>exact λh=>⟨h,rfl⟩
 | cons q t ih=>exact λh=>⟨(ih (fQ h q).1).1,(ih (fQ h q).1).2.trans (fQ h q).2⟩
def Ws.few(h:Ws r R l xs):ROk R->R.1.length<=5->∀ x∈xs,x.2.length<=100:=by
 induction h with
 | nil=>exact λ_ _ x z=>by cases z
 | cons q t ih=>
  intro h h5 x hx
  rcases WM.mp hx with rfl | hx
  ·exact WT (jn h h5 q) (by decide)
  ·exact ih (fQ h q).1 (by rw [(fQ h q).2];exact h5) x hx
end
def qM:MS:=aX (aO (aa (ar cz (aO (aa (mC (.str "out")) (ai))) (ab 0)) (aa (aO (ai)) (ai))))
def Nk{S:ac}{n i:Nat}{env:bj}(h5:n<=5)(hv:ab i env S=U (.int (n:Int),S)):aO (aa (ar cz (aO (aa (mC (.str "out")) (ai))) (ab i)) (aa (aO (ai)) (ai))) env S=U (aQ (bX n),S):=by
 have k1:∀ x:D,cy ([x],S)=U (.tup [x],S):=λx=>aY (by simp)
 have k0:cy ([],S)=U (.tup [],S):=aY (by simp)
 have k2:∀ x y:D,cy ([x,y],S)=U (.tup [x,y],S):=λx y=>aY (by simp)
 have m:cz S (.tup [.str "out"]) (.int (n:Int))=U (cx (List.replicate n .out)):=by
  rw [Go (by omega) (by omega) (by rw [Xr,XF];omega),Xr,ve]
  simp [cx,Wd.d,Wd.s]
 simp only [bg,aq,aE,bf,ob,am,aA,al,k1,av,hv,au,m,aj,k0,k2]
 rfl
def IT{N:List Str}(hN:N.length=1){S:ac}{n:Nat}(h5:n<=5):aP N qM 1 [.int (n:Int)] S=U (aQ (bX n),S):=by
 have hst:aB N [D.int (n:Int)]=[U (.int (n:Int))]:=by simp [aB,hN]
 rw [bd (show [D.int (n:Int)].length=1 from rfl),hst]
 have e:=Nk (S:=S) (n:=n) (i:=0) (env:=[U (.int (n:Int))]) h5 (by simp only [ak,bG,oj,ob,aj])
 rw [qM,aZ,e]
 simp only [ob,bx,aI]
def Kp(q:Nat)(S S':ac):Prop:=∀ i,i≠q->i<S.length->S'[i]?=S[i]?/\i<S'.length
theorem Kp.trans{q:Nat}{S S1 S2:ac}(a:Kp q S S1)(b:Kp q S1 S2):Kp q S S2:=λi h h'=>⟨(b i h (a i h h').2).1.trans (a i h h').1,(b i h (a i h h').2).2⟩
structure Ry(deed can done emp:PF):Prop where
 d:∀ (S:ac) (n:Nat) (dd:Dd),dd.Ok n->deed [.int (n:Int),dd.d] S=U (.bl true,S)
 c:∀ (S:ac) (R:Rm) (dd:Dd),R.1.length<=100->dd.Ok R.1.length->gP R dd=true->can [aQ R,dd.d] S=U (.bl true,S)
 o:∀ (S:ac) (r:Rl) (R:Rm) (dd:Dd) (x:Rm×List Ev),0<=r.b->ROk R->R.1.length<=50->dd.Ok R.1.length->fo r R dd=U x->∃ T,done [r.d,aQ R,dd.d] S=U (iV x,S++T)
 e:∀ (S:ac) (n:Nat),n<=5->emp [.int (n:Int)] S=U (aQ (bX n),S)
def xX(deed can done:PF):MS:=ay (bz (eG (dB (cQ (ao 2 deed (aa (ab 1) (aa (ab 6) (ai)))))) (dB (cQ (ao 2 can (aa (ab 3) (aa (ab 6) (ai))))))) (ju) (aS)) (ay (aF (ao 3 done (aa (ab 0) (aa (ab 3) (aa (ab 6) (ai))))) (aK 2 (af (ah 7) (af (ah 8) (aC))))) (ay (cV (da ce (ab 4) (aa (aO (aa (ab 3) (aa (ab 7) (aa (ab 8) (ai))))) (ai)))) (aF (ab 7) (ah 3))))
def oR(deed can done emp:PF):MS:=ay (aF (ao 1 emp (aa (ab 1) (ai))) (ah 3)) (ay (aF (dI (ai)) (ah 4)) (ay (iZ (eS (aa (ab 2) (ai))) (aK 2 (af (ah 5) (af (ah 6) (aC)))) (xX deed can done)) (aX (ab 4))))
section
variable{r:Rl}{n q:Nat}{deed can done emp:PF}
def GV(O:Ry deed can done emp)(hb:0<=r.b){S:ac}{R:Rm}{dd:Dd}{x:Rm×List Ev}{zs:List D}{a2 a5 a7 a8:Option D}(h:ROk R)(hn:R.1.length=n)(h5:n<=5)(hd:dd.Ok n)(hx:fo r R dd=U x)(hq:S[q]?=U (.lst zs))(hz:zs.length<=500) :
  ∃ b8 S',xX deed can done [U r.d,U (.int (n:Int)),a2,U (aQ R),U (.ref q),a5,U dd.d,a7,a8] S=U (.nx [U r.d,U (.int (n:Int)),a2,U (aQ x.1),U (.ref q),a5,U dd.d,U (aQ x.1),b8] S')/\S'[q]?=U (.lst (zs++[Fv (R,x.1,x.2)]))/\Kp q S S':=by
 have d1:=O.d S n dd hd
 have c1:=O.c S R dd (by omega) (by rw [hn];exact hd) (IV hx)
 obtain⟨T,o1⟩:=O.o S r R dd x hb h (by omega) (by rw [hn];exact hd) hx
 have o1':done [r.d,aQ R,dd.d] S=U (.tup [aQ x.1,cU x.2],S++T):=o1
 have g2:∀ (u v:D) env S,aK 2 (af (ah 7) (af (ah 8) (aC))) (.tup [u,v]) env S=(af (ah 7) (af (ah 8) (aC))) [u,v] env S:=λu v env S=>bS
 have k3:∀ S (u v w:D),cy ([u,v,w],S)=U (.tup [u,v,w],S):=λS u v w=>aY (by simp)
 have cq:(S++T)[q]?=U (.lst zs):=by rw [WE (Wo.mp hq).1];exact hq
 have ap:ce (.ref q) [.tup [aQ R,aQ x.1,cU x.2]] (S++T)=U (.non,(S++T).set q (.lst (zs++[Fv (R,x.1,x.2)]))):=lx cq (by omega)
 have km:∀ f ms env,rQ f ms env (.ref q,S++T)=(ms env (S++T)).bind (eI f (.ref q)):=λf ms env=>pZ cq
 refine⟨U (cU x.2),(S++T).set q (.lst (zs++[Fv (R,x.1,x.2)])),?_,WV (Wo.mp cq).1,λi h h'=>⟨by rw [WO (Ne.symm h),WE h'],by rw [YB,WB];omega⟩⟩
 simp only [xX,aT,bi,iN,iY,dP,aM,aq,ak,bG,bP,bO,oj,ob,aj,am,aA,al,bh,d1,eX,jb,Xa,lT,c1,bE,bv,aH,bn,bM,o1',bo,g2,bp,aU,cI,bH,eN,eV,bL,io,im,km,bg,k3,dJ,ap,ip]
def GW(O:Ry deed can done emp)(hb:0<=r.b){a2:Option D}(h5:n<=5){R:Rm}{l:List Dd}{xs:Rs}(w:Ws r R l xs):∀ (k:Nat) (S:ac) (zs:List D) (a5 a6 a7 a8:Option D),ROk R->R.1.length=n->(∀ d∈l,d.Ok n)->S[q]?=U (.lst zs)->zs.length+l.length<=400 ->
  ∃ b5 b6 b7 b8 S',cn (aK 2 (af (ah 5) (af (ah 6) (aC)))) (xX deed can done) (eM k (l.map Dd.d)) [U r.d,U (.int (n:Int)),a2,U (aQ R),U (.ref q),a5,a6,a7,a8] S=U (.nx [U r.d,U (.int (n:Int)),a2,U (aQ (rP R xs)),U (.ref q),b5,b6,b7,b8] S')/\S'[q]?=U (.lst (zs++(JX R xs).map Fv))/\Kp q S S':=by
 induction w with
 | nil=>
  intro k S zs a5 a6 a7 a8 h hn hd hq hz
  exact⟨a5,a6,a7,a8,S,nR,by simp only [JX,YH,WS];exact hq,λi _ h=>⟨rfl,h⟩⟩
 | @cons R d x l xs hx t ih=>
  intro k S zs a5 a6 a7 a8 h hn hd hq hz
  rw [WG] at hz
  obtain⟨b8,S1,e1,q1,P1⟩:=GV O hb (a2:=a2) (a5:=U (.int (k:Int))) (a7:=a7) (a8:=a8) h hn h5 (hd d Wr) hx hq (by omega)
  obtain⟨h',hl'⟩:=fQ h hx
  obtain⟨c5,c6,c7,c8,S2,e2,q2,P2⟩:=ih (k+1) S1 _ (U (.int (k:Int))) (U d.d) (U (aQ x.1)) b8 h' (hl'.trans hn) (λd' z=>hd d' (Wu _ z)) q1 (by rw [WB,XF];omega)
  refine⟨c5,c6,c7,c8,S2,?_,?_,P1.trans P2⟩
  ·rw [Wx,eM,dw,bS]
   simp only [bp,aU,ob,eN,eV,cI,bH,kJ,e1,jc,e2,rP]
  ·rw [q2,JX,Wx,WR];rfl
def CP(O:Ry deed can done emp)(hb:0<=r.b){N:List Str}(hN:N.length=9){S:ac}{l:List Dd}{xs:Rs}(h5:n<=5)(w:Ws r (bX n) l xs)(hd:∀ d∈l,d.Ok n)(hl:l.length<=300) :
  ∃ S',aP N (oR deed can done emp) 3 [r.d,.int (n:Int),.tup (l.map Dd.d)] S=U (.ref S.length,S')/\S'[S.length]?=U (.lst ((JX (bX n) xs).map Fv))/\∀ i,i<S.length->S'[i]?=S[i]?:=by
 have hst:aB N [r.d,.int (n:Int),.tup (l.map Dd.d)]=[U r.d,U (.int (n:Int)),U (.tup (l.map Dd.d)),Y,Y,Y,Y,Y,Y]:=by simp [aB,hN,List.replicate]
 rw [bd (show [r.d,D.int (n:Int),D.tup (l.map Dd.d)].length=3 from rfl),hst]
 have e0:=O.e S n h5
 have kl:qa ([],S)=U (.ref S.length,S++[.lst []]):=jx (by simp)
 obtain⟨b5,b6,b7,b8,S',e,hq,P⟩:=GW (q:=S.length) O hb (a2:=U (.tup (l.map Dd.d))) h5 w 0 (S++[.lst []]) [] Y Y Y Y jm (by simp [bX]) hd ir (by simp;omega)
 refine⟨S',?_,by simpa using hq,λi h=>(P i (by omega) (by rw [WB];omega)).1.trans (WE h)⟩
 have ke:∀ S,BP ([.tup (l.map Dd.d)],S)=U (eM 0 (l.map Dd.d),S):=λS=>rfl
 simp only [oR,aT,bn,aM,aq,ak,bG,bP,bO,oj,ob,aj,am,aA,al,uO,e0,bo,aU,eN,eV,bL,aH,nQ,kl,uF,nS,ke,uM,e,aZ,bx,aI]
end
def vF:Str:="in"
def oP:Str:="steps"
def JF(wr:Bool):Wd:=if wr then .writes else .reads
section
variable{r:Rl}{R:Rm}
def Kj{g:Nat}{w:Wd}(h:ROk R)(hw:R.1[g]?=U w)(hn:w≠.out)(hr:w≠.rising):(jU r R).1.1[g]?=U w:=by
 unfold jU
 split
 ·rename_i g' l hg
  have h1:=mj (ws:=R.1) (g:=g') (by rw [hg];exact Wr)
  show (R.1.set g' .raised)[g]?=_
  rw [WO (λz=>by rw [z,hw] at h1;exact hr (WH h1))]
  exact hw
 ·split
  ·split
   ·rename_i e he
    have h1:=h.out e (WN he)
    show (R.1.set e.g _)[g]?=_
    rw [WO (λz=>by rw [z,hw] at h1;exact hn (WH h1))]
    exact hw
   ·exact hw
  ·exact hw
def SQ(h:ROk R){e:Ev}(he:e∈(jU r R).2)(hi:(e.w == vF)=true):∃ x∈R.2,x.g=e.g/\(jU r R).1.1[e.g]?=U (JF x.wr):=by
 unfold jU at he ⊢
 split
 ·rename_i g' l hg
  rw [hg] at he
  rw [WL.mp he] at hi
  exact absurd hi (show ¬ (("steps":Str) == vF)=true by decide +kernel)
 ·rename_i hg
  rw [hg] at he
  dsimp only at he
  split
  ·rename_i i l hs
   rw [hs] at he
   dsimp only at he
   split
   ·rename_i x hx
    rw [hx] at he
    rw [WL.mp he]
    have hm:=WN hx
    refine⟨x,hm,rfl,?_⟩
    show (R.1.set x.g _)[x.g]?=_
    rw [WV (h.lt hm)];rfl
   ·rename_i hx
    rw [hx] at he
    cases he
  ·rename_i hs
   rw [hs] at he
   cases he
def Ot{y:En}(hy:y∈(jU r R).1.2):∃ x∈R.2,x.g=y.g/\x.wr=y.wr:=by
 unfold jU at hy
 split at hy
 ·exact⟨y,hy,rfl,rfl⟩
 ·split at hy
  ·split at hy
   ·rcases WK.mp hy with z | z
    ·obtain⟨x,hx,rfl⟩:=WP.mp z
     exact⟨x,Xs hx,rfl,rfl⟩
    ·exact⟨y,Zg z,rfl,rfl⟩
   ·exact⟨y,hy,rfl,rfl⟩
  ·exact⟨y,hy,rfl,rfl⟩
theorem At{g:Nat}{w:Wd}(hn:w≠.out)(hr:w≠.rising):∀ (n:Nat) {R:Rm},ROk R->R.1[g]?=U w->(rG r n R).1.1[g]?=U w
 | 0,R,_,hw=>hw
 | n+1,R,h,hw=>At hn hr n (R:=(jU r R).1) (qF h).1 (Kj h hw hn hr)
def Ml(wr:Bool):JF wr≠.out/\JF wr≠.rising:=by cases wr <;> exact⟨by decide,by decide⟩
theorem Df:∀ (n:Nat) {R:Rm},ROk R->∀ {e:Ev},e∈(rG r n R).2->(e.w == vF)=true->∃ x∈R.2,x.g=e.g/\(rG r n R).1.1[e.g]?=U (JF x.wr)
 | 0,R,_,e,he,_=>by cases he
 | n+1,R,h,e,he,hi=>by
  rcases WK.mp he with z | z
  ·obtain⟨x,hx,hg,hw⟩:=SQ h z hi
   exact⟨x,hx,hg,At (Ml _).1 (Ml _).2 n (R:=(jU r R).1) (qF h).1 hw⟩
  ·obtain⟨x,hx,hg,hw⟩:=Df n (R:=(jU r R).1) (qF h).1 z hi
   obtain⟨y,hy,e1,e2⟩:=Ot hx
   exact⟨y,hy,e1.trans hg,by rw [e2];exact hw⟩
def kS(R:Rm)(d:Dd)(g:Nat):Str:=match R.2.find? λe=>decide (e.g=g) with
 | some e=>be e.wr
 | none=>dg d
theorem Gm:∀ {es:List En},(es.map (·.g)).Nodup->∀ {x:En},x∈es->es.find? (λe=>decide (e.g=x.g))=U x
 | y::es,hn,x,hx=>by
  rw [Wx,XU] at hn
  rw [Xh]
  rcases WM.mp hx with rfl | hx
  ·rw [WA rfl]
  ·rw [WC (λz=>hn.1 (WP.mpr ⟨x,hx,z.symm⟩))]
   exact Gm hn.2 hx
def wE{d:Dd}{g:Nat}{x:En}(h:ROk R)(hx:x∈R.2)(hg:x.g=g):kS R d g=be x.wr:=by
 subst hg;unfold kS;rw [Gm h.nd hx]
def QN{d:Dd}{x:Rm×List Ev}(h:ROk R)(hx:fo r R d=U x){e:Ev}(he:e∈x.2)(hi:(e.w == vF)=true):∃ wr,x.1.1[e.g]?=U (JF wr)/\kS R d e.g=be wr:=by
 have base:∀ R':Rm,ROk R'->(∀ y∈R'.2,∃ x∈R.2,x.g=y.g/\x.wr=y.wr)->e∈(aW r R').2->∃ wr,(aW r R').1.1[e.g]?=U (JF wr)/\kS R d e.g=be wr:=λR' h' hm he=>by
  obtain⟨y,hy,hg,hw⟩:=Df _ h' he hi
  obtain⟨z,hz,e1,e2⟩:=hm y hy
  exact⟨y.wr,hw,by rw [wE h hz (e1.trans hg),e2]⟩
 have no:∀ {w:Str} {g:Nat},(w == vF)=false->e=⟨w,g⟩->False:=λhw z=>by rw [z] at hi;rw [show ((⟨_,_⟩:Ev).w == vF)=_ from hw] at hi;cases hi
 unfold fo at hx
 split at hx
 ·cases hx
 rename_i hc
 have hc:gP R d=true:=by simpa using hc
 cases d with
 | tick=>
  cases hx
  rcases WK.mp he with z | z
  ·obtain⟨y,_,q⟩:=WP.mp z
   exact(no (show (("ends":Str) == vF)=false by decide +kernel) q.symm).elim
  ·refine base _ (ROk.filter (ROk.mapE h ga λe=>rfl) _) (λy hy=>?_) z
   obtain⟨q,hq,rfl⟩:=WP.mp (Xm.mp hy).1
   exact⟨q,hq,rfl,rfl⟩
 | ask wr g t=>
  cases hx
  simp only [gP,Wq,XB,Bool.not_eq_true'] at hc
  have ok:=tG (wr:=wr) (t:=t) h hc.1 hc.2
  have main:e∈(aW r (R.1,R.2++[kP wr g t])).2->∃ wr',(aW r (R.1,R.2++[kP wr g t])).1.1[e.g]?=U (JF wr')/\kS R (.ask wr g t) e.g=be wr':=λhe=>by
   obtain⟨y,hy,hg,hw⟩:=Df _ ok he hi
   refine⟨y.wr,hw,?_⟩
   rcases WK.mp hy with z | z
   ·exact wE h z hg
   ·rw [WL.mp z] at hg ⊢
    unfold kS
    rw [aaJ.mpr (λa ha=>by rw [<- hg];exact λz=>gA hc.2 ha (Xq z))]
    rfl
  unfold sT at he ⊢
  dsimp only at he ⊢
  split
  ·rename_i hs
   rw [WI hs] at he
   exact main he
  ·rename_i hs
   rw [if_neg hs] at he
   split
   ·rename_i ht
    rw [WI ht] at he
    rcases WK.mp he with z | z
    ·exact main z
    ·exact(no (show (("no":Str) == vF)=false by decide +kernel) (WL.mp z)).elim
   ·rename_i ht
    rw [if_neg ht] at he
    rcases WK.mp he with z | z
    ·exact main z
    ·exact(no (show (("waits":Str) == vF)=false by decide +kernel) (WL.mp z)).elim
 | act k g=>
  dsimp only at hx
  split at hx
  ·cases hx
   exact(no (show (("no":Str) == vF)=false by decide +kernel) (WL.mp he)).elim
  ·split at hx
   ·rename_i w hw
    cases hx
    rcases WK.mp he with z | z
    ·rcases WK.mp z with z | z
     ·cases k with
      | up=>cases z
      | down=>exact(no (show (("down":Str) == vF)=false by decide +kernel) (WL.mp z)).elim
      | leave=>exact(no (show (("out":Str) == vF)=false by decide +kernel) (WL.mp z)).elim
      | stop=>exact(no (show (("ends":Str) == vF)=false by decide +kernel) (WL.mp z)).elim
     ·refine base _ (tH h _) (λy hy=>?_) z
      have hy:=(Xm.mp hy).1
      split at hy
      ·unfold tm at hy
       split at hy
       ·obtain⟨q,hq,rfl⟩:=WP.mp hy
        exact⟨q,hq,by split <;> rfl,by split <;> rfl⟩
       ·exact⟨y,hy,rfl,rfl⟩
      ·exact⟨y,hy,rfl,rfl⟩
    ·split at z
     ·exact(no (show (("waits":Str) == vF)=false by decide +kernel) (WL.mp z)).elim
     ·cases z
   ·cases hx
end
def Oi(R:Rm)(g:Nat):Bool:=decide (R.1[g]?=U .writes)||decide (R.1[g]?=U .raised)
def qt(R:Rm):Dd->Bool
 | .act .down g=>Oi R g
 | .act .leave g=>Oi R g
 | _=>false
abbrev Pg:=Nat×Str×Nat
def jZ(p:Pg):D:=.tup [.int (p.1:Int),.str p.2.1,.int (p.2.2:Int)]
def JC(R:Rm)(d:Dd)(k:Nat)(e:Ev):List Pg:=if (e.w == vF)=true then [(e.g,kS R d e.g,k)] else if (e.w == oP)=true then [(e.g,"up",k)] else []
def vY(R:Rm)(d:Dd)(k:Nat):Nat:=if qt R d=true then k+1 else k
def wR:Nat->Rm->List Dd->Rs->List Pg
 | k,R,d::l,x::xs=>x.2.flatMap (JC R d (vY R d k))++wR (vY R d k) x.1 l xs
 | _,_,_,_=>[]
def yw{R:Rm}{d:Dd}{k:Nat}{e:Ev}:(JC R d k e).length<=1:=by
 unfold JC;split
 ·exact WD _
 ·split <;> simp
theorem sY{R:Rm}{d:Dd}{k:Nat}:∀ es:List Ev,(es.flatMap (JC R d k)).length<=es.length
 | []=>WD _
 | e::es=>by
  rw [Zu,WB,WG]
  have:=sY (R:=R) (d:=d) (k:=k) es
  have:=yw (R:=R) (d:=d) (k:=k) (e:=e)
  omega
def KO{r:Rl}{R:Rm}{l:List Dd}{xs:Rs}(w:Ws r R l xs):∀ (k c:Nat),∃ t,wR k R l xs=wR k R (l.take c) (xs.take c)++t:=by
 induction w with
 | nil=>intro k c;exact⟨[],by rw [Zo,Zo];rfl⟩
 | cons q t ih=>
  intro k c
  cases c with
  | zero=>exact⟨_,by rw [List.take_zero,List.take_zero];rfl⟩
  | succ c=>
   obtain⟨u,e⟩:=ih (vY _ _ k) c
   exact⟨u,by rw [aaD,aaD,wR,wR,e,WR]⟩
def FE{r:Rl}{R:Rm}{l:List Dd}{xs:Rs}(w:Ws r R l xs):ROk R->R.1.length<=5->∀ k:Nat,(wR k R l xs).length<=15 * l.length:=by
 induction w with
 | nil=>intro _ _ k;exact Yz _
 | @cons R d x l xs q t ih=>
  intro h h5 k
  rw [wR,WB,WG]
  have a:=jn h h5 q
  obtain⟨h',hl⟩:=fQ h q
  have b:=ih h' (by omega) (vY R d k)
  have c:=sY (R:=R) (d:=d) (k:=vY R d k) x.2
  omega
section
variable{S:ac}{r:Rl}{R:Rm}{n q c:Nat}
def Ra(d:Dd):aw S d.d (.int 0)=U (.str (dg d)):=by cases d <;> rfl
def Qc:Dd->Bool
 | .act .down _=>true
 | .act .leave _=>true
 | _=>false
def Vt{d:Dd}{a b:Str}(hab:(a = "down"/\b = "leave")\/(a = "leave"/\b = "down")):kR S (.str (dg d)) (.tup [.str a,.str b])=U (.bl (Qc d)):=by
 rw [jH (ys:=[.str a,.str b]) rfl rfl rfl]
 have e:∀ a b:Str,jJ (.str a) (.str b)=(a == b):=λa b=>rfl
 simp only [XE,List.any_nil,Bool.or_false,e]
 have z:∀ k:Ak,(a == k.s||b == k.s)=(match k with | .down=>true | .leave=>true | _=>false):=by rcases hab with ⟨rfl,rfl⟩ | ⟨rfl,rfl⟩ <;> (intro k;cases k <;> decide +kernel)
 have y:∀ wr:Bool,(a == be wr||b == be wr)=false:=by rcases hab with ⟨rfl,rfl⟩ | ⟨rfl,rfl⟩ <;> (intro k;cases k <;> decide +kernel)
 have x:(a == "tick" || b == "tick")=false:=by rcases hab with ⟨rfl,rfl⟩ | ⟨rfl,rfl⟩ <;> decide +kernel
 cases d with
 | tick=>exact congrArg _ (congrArg _ x)
 | ask wr g t=>exact congrArg _ (congrArg _ (y wr))
 | act k g=>rw [show dg (.act k g)=k.s from rfl,z];cases k <;> rfl
def iu:MS:=aX (dA (ar kR (ar aw (ab 1) (mC (.int 0))) (aO (aa (mC (.str "down")) (aa (mC (.str "leave")) (ai))))) (ar kR (ar aw (ar aw (ab 0) (mC (.int 0))) (ar aw (ab 1) (mC (.int 1)))) (mC (.tup [.str "writes",.str "raised"]))))
def Ab(f:PF):Prop:=∀ (S:ac) (R:Rm) (d:Dd),d.Ok R.1.length->f [aQ R,d.d] S=U (.bl (qt R d),S)
def JM{g:Nat}(hg:g<R.1.length):aw S (cx R.1) (.int (g:Int))=U (R.1[g]).d/\kR S (R.1[g]).d (.tup [.str "writes",.str "raised"])=U (.bl (Oi R g)):=by
 have hw:R.1[g]?=U R.1[g]:=Wv hg
 refine⟨rE hw,?_⟩
 rw [EE];unfold Oi;rw [hw]
 have e:∀ a b:Wd,decide (U a=U b)=decide (a=b):=λa b=>by simp only [XC]
 rw [e,e]
def Nj{N:List Str}(hN:N.length=2){d:Dd}(hd:d.Ok R.1.length):aP N iu 2 [aQ R,d.d] S=U (.bl (qt R d),S):=by
 have hst:aB N [aQ R,d.d]=[U (aQ R),U d.d]:=by simp [aB,hN,List.replicate]
 rw [bd (show [aQ R,d.d].length=2 from rfl),hst]
 have k2:∀ u v:D,cy ([u,v],S)=U (.tup [u,v],S):=λu v=>aY (by simp)
 have x0:aw S (aQ R) (.int 0)=U (cx R.1):=rfl
 have hh:∀ (k:Ak) (g:Nat),d=.act k g->(k=.down\/k=.leave)->aP N iu 2 [aQ R,d.d] S=aP N iu 2 [aQ R,d.d] S->(iu [U (aQ R),U d.d] S).bind HE=U (.bl (Oi R g),S):=λk g hk hc _=>by
  subst hk
  obtain⟨w1,w2⟩:=JM (S:=S) (R:=R) (g:=g) hd
  have d1:aw S (Dd.act k g).d (.int 1)=U (.int (g:Int)):=rfl
  have di:kR S (.str (dg (.act k g))) (.tup [.str "down",.str "leave"])=U (.bl true):=by rw [Vt (.inl ⟨rfl,rfl⟩)];rcases hc with rfl | rfl <;> rfl
  simp only [iu,aZ,lR,aE,ak,bf,bG,bP,bO,oj,ob,aj,av,au,Ra,bg,aq,am,aA,al,k2,di,qY,x0,d1,w1,w2,bx,aI]
 have nn:Qc d=false->qt R d=false->(iu [U (aQ R),U d.d] S).bind HE=U (.bl (qt R d),S):=λh1 h2=>by
  have di:kR S (.str (dg d)) (.tup [.str "down",.str "leave"])=U (.bl false):=by rw [Vt (.inl ⟨rfl,rfl⟩),h1]
  simp only [iu,aZ,lR,aE,ak,bf,bG,bP,bO,oj,ob,aj,av,au,Ra,bg,aq,am,aA,al,k2,di,Mc,bx,aI,h2]
 cases d with
 | tick=>exact nn rfl rfl
 | ask wr g t=>exact nn rfl rfl
 | act k g=>
  cases k with
  | up=>exact nn rfl rfl
  | stop=>exact nn rfl rfl
  | down=>exact hh .down g rfl (.inl rfl) rfl
  | leave=>exact hh .leave g rfl (.inr rfl) rfl
def JL:List (bt×D):=[(.inr "reads",.str "read"),(.inr "writes",.str "write")]
def ww_ix{wr:Bool}:oZ JL ((JF wr).d,S)=U (.str (be wr),S):=by
 cases wr <;> simp (decide:=true) [oZ,ee,fY,JL,be,Wd.d,Wd.s,JF]
def Hz:MS:=bz (ax (ar bW (ab 9) (mC (.str "in")))) (cV (da ce (ab 4) (aa (aO (aa (ab 10) (aa (df JL (ar aw (ar aw (ab 7) (mC (.int 0))) (ab 10))) (aa (ab 3) (ai))))) (ai)))) (bz (ax (ar bW (ab 9) (mC (.str "steps")))) (cV (da ce (ab 4) (aa (aO (aa (ab 10) (aa (mC (.str "up")) (aa (ab 3) (ai))))) (ai)))) (aS))
def tgE:MG:=aK 2 (af (ah 9) (af (ah 10) (aC)))
def uc(ends:PF):MS:=ay (bz (cQ (ao 2 ends (aa (ab 6) (aa (ab 5) (ai))))) (aF (ar IH (ab 3) (mC (.int 1))) (ah 3)) (aS)) (dO (ab 8) tgE Hz)
def tgP:MG:=aK 2 (af (ah 5) (af (aK 3 (af (ah 6) (af (ah 7) (af (ah 8) (aC))))) (aC)))
def qK(walked ends:PF):MS:=ay (aF (mC (.int 0)) (ah 3)) (ay (aF (dI (ai)) (ah 4)) (ay (jw (aa (ab 2) (aa (ao 3 walked (aa (ab 0) (aa (ab 1) (aa (ab 2) (ai))))) (ai))) tgP (uc ends)) (aX (ba (aJ (cr .tup)) (aa (ab 4) (ai))))))
def Ko(q:Nat)(S S':ac):Prop:=∀ i,i≠q->S'[i]?=S[i]?
def OV{x:Rm}{d:Dd}{k:Nat}{zs:List Pg}{a0 a1 a2 a5 a6 a8:Option D}(e:Ev)(hq:S[q]?=U (.lst (zs.map jZ)))(hz:zs.length<999)(hw:(e.w == vF)=true->∃ wr,x.1[e.g]?=U (JF wr)/\kS R d e.g=be wr) :
  ∃ S',Hz [a0,a1,a2,U (.int (k:Int)),U (.ref q),a5,a6,U (aQ x),a8,U (.str e.w),U (.int (e.g:Int))] S=U (.nx [a0,a1,a2,U (.int (k:Int)),U (.ref q),a5,a6,U (aQ x),a8,U (.str e.w),U (.int (e.g:Int))] S')/\S'[q]?=U (.lst ((zs++JC R d k e).map jZ))/\Ko q S S':=by
 have k3:∀ u v w:D,cy ([u,v,w],S)=U (.tup [u,v,w],S):=λu v w=>aY (by simp)
 have km:=λms env=>pZ (f:=ce) (ms:=ms) (env:=env) hq
 have ap:=λy=>lx (y:=y) hq (by rw [Ww];omega)
 have hlt:=(Wo.mp hq).1
 have e1:bW S (.str e.w) (.str "in")=U (.bl (e.w == vF)):=cD
 have e2:bW S (.str e.w) (.str "steps")=U (.bl (e.w == oP)):=cD
 have st:∀ p:Pg,(S.set q (.lst (zs.map jZ++[jZ p])))[q]?=U (.lst ((zs++[p]).map jZ)):=λp=>by rw [WV hlt,Xt];rfl
 have ko:∀ c:Cell,Ko q S (S.set q c):=λc i hi=>WO (Ne.symm hi)
 simp only [Hz,bi,aG,aE,ak,bf,bG,bP,bO,oj,ob,aj,av,au,e1,aD]
 unfold JC
 cases h1:(e.w == vF) with
 | true=>
  obtain⟨wr,hx,hwa⟩:=hw h1
  have x0:aw S (aQ x) (.int 0)=U (cx x.1):=rfl
  have x1:aw S (cx x.1) (.int (e.g:Int))=U (JF wr).d:=rE hx
  refine⟨_,?_,st (e.g,kS R d e.g,k),ko _⟩
  simp only [bK,io,im,ak,bG,bP,bO,oj,ob,aj,km,aq,bg,am,pS,aE,av,bf,au,x0,x1,ww_ix,aA,al,k3,dJ,ap,ip]
  rw [hwa];rfl
 | false=>
  simp only [bE,bi,aG,aE,ak,bf,bG,bP,bO,oj,ob,aj,av,au,e2,aD]
  cases h2:(e.w == oP) with
  | true=>
   refine⟨_,?_,st (e.g,"up",k),ko _⟩
   simp only [bK,io,im,ak,bG,bP,bO,oj,ob,aj,km,aq,bg,am,bf,aA,al,k3,dJ,ap,ip]
   rfl
  | false=>
   refine⟨S,?_,?_,λ_ _=>rfl⟩
   ·simp only [bE,bv]
   ·simp only [WZ,XW,WS];exact hq
theorem AH{x:Rm}{d:Dd}{k:Nat}{a0 a1 a2 a5 a6 a8:Option D}:∀ (es:List Ev) (S:ac) (zs:List Pg) (a9 a10:Option D),S[q]?=U (.lst (zs.map jZ))->zs.length+es.length<999->(∀ e∈es,(e.w == vF)=true->∃ wr,x.1[e.g]?=U (JF wr)/\kS R d e.g=be wr) ->
  ∃ b9 b10 S',cn tgE Hz (es.map Ev.d) [a0,a1,a2,U (.int (k:Int)),U (.ref q),a5,a6,U (aQ x),a8,a9,a10] S=U (.nx [a0,a1,a2,U (.int (k:Int)),U (.ref q),a5,a6,U (aQ x),a8,b9,b10] S')/\S'[q]?=U (.lst ((zs++es.flatMap (JC R d k)).map jZ))/\Ko q S S'
 | [],S,zs,a9,a10,hq,_,_=>⟨a9,a10,S,nR,by rw [List.flatMap_nil,WS];exact hq,λ_ _=>rfl⟩
 | e::es,S,zs,a9,a10,hq,hz,hw=>by
  rw [WG] at hz
  obtain⟨S1,e1,q1,K1⟩:=OV (x:=x) (d:=d) (R:=R) (k:=k) (a0:=a0) (a1:=a1) (a2:=a2) (a5:=a5) (a6:=a6) (a8:=a8) e hq (by omega) (hw e Wr)
  have l1:=yw (R:=R) (d:=d) (k:=k) (e:=e)
  obtain⟨b9,b10,S2,e2,q2,K2⟩:=AH (x:=x) (d:=d) (k:=k) (a0:=a0) (a1:=a1) (a2:=a2) (a5:=a5) (a6:=a6) (a8:=a8) es S1 _ (U (.str e.w)) (U (.int (e.g:Int))) q1 (by rw [WB];omega) λe' z=>hw e' (Wu _ z)
  refine⟨b9,b10,S2,?_,by rw [q2,Zu,WR],λi hi=>(K2 i hi).trans (K1 i hi)⟩
  rw [Wx,dw,show Ev.d e=.tup [.str e.w,.int (e.g:Int)] from rfl,tgE,bS]
  simp only [bp,aU,ob,eN,eV,cI,bH,kJ,e1,jc]
  exact e2
def Hx{ends:PF}(E:Ab ends){x:Rm×List Ev}{d:Dd}{k:Nat}{zs:List Pg}{a0 a1 a2 a9 a10:Option D}(h:ROk R)(hd:d.Ok R.1.length)(h5:R.1.length<=5)(hx:fo r R d=U x)(hq:S[q]?=U (.lst (zs.map jZ)))(hz:zs.length<980) :
  ∃ b9 b10 S',uc ends [a0,a1,a2,U (.int (k:Int)),U (.ref q),U d.d,U (aQ R),U (aQ x.1),U (cU x.2),a9,a10] S=U (.nx [a0,a1,a2,U (.int (vY R d k:Int)),U (.ref q),U d.d,U (aQ R),U (aQ x.1),U (cU x.2),b9,b10] S')/\S'[q]?=U (.lst ((zs++x.2.flatMap (JC R d (vY R d k))).map jZ))/\Ko q S S':=by
 have few:=jn h h5 hx
 obtain⟨b9,b10,S',e,hq',K⟩:=AH (x:=x.1) (d:=d) (R:=R) (k:=vY R d k) (a0:=a0) (a1:=a1) (a2:=a2) (a5:=U d.d) (a6:=U (aQ R)) (a8:=U (cU x.2)) x.2 S zs a9 a10 hq (by omega) λe he hi=>QN h hx he hi
 refine⟨b9,b10,S',?_,hq',K⟩
 have nx:bz (cQ (ao 2 ends (aa (ab 6) (aa (ab 5) (ai))))) (aF (ar IH (ab 3) (mC (.int 1))) (ah 3)) (aS) [a0,a1,a2,U (.int (k:Int)),U (.ref q),U d.d,U (aQ R),U (aQ x.1),U (cU x.2),a9,a10] S=U (.nx [a0,a1,a2,U (.int (vY R d k:Int)),U (.ref q),U d.d,U (aQ R),U (aQ x.1),U (cU x.2),a9,a10] S):=by
  have ag:IH S (.int (k:Int)) (.int 1)=U (.int ((k+1:Nat):Int)):=by show U (D.int ((k:Int)+1))=_;rw [Int.natCast_add];rfl
  simp only [bi,dP,aM,aq,ak,bG,bP,bO,oj,ob,aj,am,aA,al,bh,E S R d hd,eX]
  unfold vY
  cases qt R d with
  | true=>simp only [bK,bn,aE,ak,bf,bG,bP,bO,oj,ob,aj,av,au,ag,bo,aU,eN,eV,bL,YN]
  | false=>simp only [bE,bv,WZ,XW]
 have kf:∀ env,mT tgE Hz env (cU x.2,S)=cn tgE Hz (x.2.map Ev.d) env S:=λenv=>zn
 simp only [uc,aT,nx,ob,aH,lP,ak,bG,bP,bO,oj,aj,kf,e]
def Hy{ends:PF}(E:Ab ends){a0 a1 a2:Option D}(hqc:c≠q){l:List Dd}{xs:Rs}(w:Ws r R l xs):∀ (pre prez:List D) (i f k:Nat) (S:ac) (zs:List Pg) (a5 a6 a7 a8 a9 a10:Option D),pre.length=i->prez.length=i->l.length<f->S[c]?=U (.lst (prez++(JX R xs).map Fv))->S[q]?=U (.lst (zs.map jZ))->zs.length+15 * l.length<980->ROk R->R.1.length=n->n<=5->(∀ d∈l,d.Ok n) ->
  ∃ b3 b5 b6 b7 b8 b9 b10 S',eH tgP (uc ends) (pre++l.map Dd.d) c f i [a0,a1,a2,U (.int (k:Int)),U (.ref q),a5,a6,a7,a8,a9,a10] S=U (.nx [a0,a1,a2,b3,U (.ref q),b5,b6,b7,b8,b9,b10] S')/\S'[q]?=U (.lst ((zs++wR k R l xs).map jZ))/\Ko q S S':=by
 induction w with
 | nil=>
  intro pre prez i f k S zs a5 a6 a7 a8 a9 a10 h1 h2 hf hc hq hz h hn h5 hd
  obtain⟨f',rfl⟩:∃ f',f=f'+1:=⟨f - 1,by simp at hf;omega⟩
  refine⟨_,a5,a6,a7,a8,a9,a10,S,Ee hc ?_,by rw [show wR k _ [] []=[] from rfl,WS];exact hq,λ_ _=>rfl⟩
  rw [YH,WS,aaq];omega
 | @cons R d x l xs hx t ih=>
  intro pre prez i f k S zs a5 a6 a7 a8 a9 a10 h1 h2 hf hc hq hz h hn h5 hd
  rw [WG] at hf hz
  obtain⟨f',rfl⟩:∃ f',f=f'+1:=⟨f - 1,by omega⟩
  obtain⟨b9,b10,S1,e1,q1,K1⟩:=Hx (S:=S) E (k:=k) (a0:=a0) (a1:=a1) (a2:=a2) (a9:=a9) (a10:=a10) h (by rw [hn];exact hd d Wr) (by omega) hx hq (by omega)
  obtain⟨h',hl'⟩:=fQ h hx
  have few:=jn h (by omega) hx
  have pl:=sY (R:=R) (d:=d) (k:=vY R d k) x.2
  have hc1:S1[c]?=U (.lst ((prez++[Fv (R,x.1,x.2)])++(JX x.1 xs).map Fv)):=by rw [K1 c hqc,hc,JX,Wx,WR];rfl
  obtain⟨b3,b5,b6,b7,b8,c9,c10,S2,e2,q2,K2⟩:=ih (pre++[d.d]) (prez++[Fv (R,x.1,x.2)]) (i+1) f' (vY R d k) S1 _ (U d.d) (U (aQ R)) (U (aQ x.1)) (U (cU x.2)) b9 b10 (by rw [WB,h1];rfl) (by rw [WB,h2];rfl) (by omega) hc1 q1 (by rw [WB];omega) h' (hl'.trans hn) h5 λd' z=>hd d' (Wu _ z)
  refine⟨b3,b5,b6,b7,b8,c9,c10,S2,?_,by rw [q2,wR,WR],λi hi=>(K2 i hi).trans (K1 i hi)⟩
  have gx:(pre++(d::l).map Dd.d)[i]?=U d.d:=by rw [Xg (by omega),h1,Zy];rfl
  have gy:(prez++(JX R (x::xs)).map Fv)[i]?=U (Fv (R,x.1,x.2)):=by rw [Xg (by omega),h2,Zy];rfl
  rw [Ia hc gx gy,tgP,bS]
  simp only [bp,aU,ob,eN,eV,cI,bH,Fv,tE,Us,e1,PL]
  rw [Wx,<- e2,WR];rfl
def HD{walked ends:PF}(E:Ab ends){N:List Str}(hN:N.length=11){l:List Dd}{xs:Rs}(h5:n<=5)(w:Ws r (bX n) l xs)(hd:∀ d∈l,d.Ok n)(hl:l.length<=65)
  (hw:∀ S,∃ S',walked [r.d,.int (n:Int),.tup (l.map Dd.d)] S=U (.ref S.length,S')/\S'[S.length]?=U (.lst ((JX (bX n) xs).map Fv))/\∀ i,i<S.length->S'[i]?=S[i]?):∃ S',aP N (qK walked ends) 3 [r.d,.int (n:Int),.tup (l.map Dd.d)] S=U (.tup ((wR 0 (bX n) l xs).map jZ),S')/\∀ i,i<S.length->S'[i]?=S[i]?:=by
 have hst:aB N [r.d,.int (n:Int),.tup (l.map Dd.d)]=[U r.d,U (.int (n:Int)),U (.tup (l.map Dd.d)),Y,Y,Y,Y,Y,Y,Y,Y]:=by simp [aB,hN,List.replicate]
 rw [bd (show [r.d,D.int (n:Int),D.tup (l.map Dd.d)].length=3 from rfl),hst]
 have kl:qa ([],S)=U (.ref S.length,S++[.lst []]):=jx (by simp)
 obtain⟨S1,e1,q1,K1⟩:=hw (S++[.lst []])
 have hlen:(S++[Cell.lst []]).length=S.length+1:=by simp
 rw [hlen] at e1 q1 K1
 have hq:S1[S.length]?=U (.lst (([]:List Pg).map jZ)):=by rw [K1 _ (by omega)];simp
 obtain⟨b3,b5,b6,b7,b8,b9,b10,S',e,hq',K⟩:=Hy (n:=n) (q:=S.length) (c:=S.length+1) E (a0:=U r.d) (a1:=U (.int (n:Int))) (a2:=U (.tup (l.map Dd.d))) (by omega) w [] [] 0 2000 0 S1 [] Y Y Y Y Y Y rfl rfl (by omega) q1 hq (by simp;omega) jm (by simp [bX]) h5 hd
 refine⟨S',?_,λi hi=>(K i (by omega)).trans ((K1 i (by omega)).trans (WE hi))⟩
 rw [YA] at e hq'
 have sq:aJ (cr .tup) [.ref S.length] S'=U (.tup ((wR 0 (bX n) l xs).map jZ),S'):=nX hq'
 have e':eH tgP (uc ends) (l.map Dd.d) (S.length+1) 2000 0 [U r.d,U (.int (n:Int)),U (.tup (l.map Dd.d)),U (.int 0),U (.ref S.length),Y,Y,Y,Y,Y,Y] S1=_:=e
 simp only [qK,aT,bn,bf,ob,bo,aU,eN,eV,bL,aH,nQ,aA,kl,Pz,aq,ak,bG,bP,bO,oj,aj,am,aM,al,bM,e1,PU,e',aZ,bT,bU,sq,bx,aI]
end
end MI
section
set_option maxHeartbeats 4000000
namespace K19
open L2 MI
open M hiding mC ab ar ax cT cQ dc eG dB dA vE gF mD ai aa aO eQ dI CM bw bR bu ba dR ao aS ay aX cV bz ah aC af aK fM aF cB dC iZ bI db bY da eS mz jV mQ gZ eU dQ dO eR eO df iw jw
def fJ(i:Nat):Stmt:=PySem.Challenge.pw_manyreaders_k19_pages_numbered.main.body.getD i (.Pass ⟨0,0,0,0⟩)
abbrev dG:Stmt:=fJ 49
abbrev ic:Stmt:=fJ 51
abbrev gi:Stmt:=fJ 50
abbrev gg:Stmt:=fJ 52
abbrev gk:Stmt:=fJ 54
abbrev ib:Stmt:=fJ 58
abbrev eE:Stmt:=fJ 56
abbrev gh:Stmt:=fJ 57
abbrev dF:Stmt:=fJ 59
abbrev ie:Stmt:=fJ 60
abbrev fG:Stmt:=fJ 63
abbrev eD:Stmt:=fJ 61
abbrev gj:Stmt:=fJ 62
abbrev ia:Stmt:=fJ 55
abbrev fF:Stmt:=fJ 65
abbrev nO:Stmt:=fJ 9
abbrev el:Stmt:=fJ 10
abbrev hX:Stmt:=fJ 19
abbrev jf:Stmt:=fJ 13
abbrev lb:Stmt:=fJ 17
abbrev gc:Stmt:=fJ 20
abbrev jh:Stmt:=fJ 18
abbrev la:Stmt:=fJ 22
abbrev gb:Stmt:=fJ 11
abbrev kZ:Stmt:=fJ 24
abbrev fB:Stmt:=fJ 23
abbrev jg:Stmt:=fJ 21
abbrev dD:Stmt:=fJ 12
abbrev ge:Stmt:=fJ 33
abbrev hZ:Stmt:=fJ 34
abbrev cY:Stmt:=fJ 41
abbrev kY:Stmt:=fJ 40
abbrev fE:Stmt:=fJ 35
abbrev eC:Stmt:=fJ 36
abbrev fD:Stmt:=fJ 37
abbrev hU:Stmt:=fJ 39
abbrev fC:Stmt:=fJ 38
abbrev qH:Stmt:=fJ 32
abbrev ej:Stmt:=fJ 4
abbrev ji:Stmt:=fJ 3
abbrev hV:Stmt:=fJ 1
abbrev fA:Stmt:=fJ 2
abbrev jj:Stmt:=fJ 30
abbrev lc:Stmt:=fJ 31
abbrev kW:Stmt:=fJ 45
abbrev dE:Stmt:=fJ 47
abbrev nN:Stmt:=fJ 46
abbrev gf:Stmt:=fJ 53
abbrev cK:Stmt:=fJ 64
abbrev wN:Stmt:=fJ 66
def vy:List (bt×D):=[(.inr "rows",.non),(.inr "readers",(.str "read")),(.inr "writers",(.str "write")),(.inr "turns",(.str "write"))]
def iS:D:=(.int 9)
def kO:D:=(.tup [(.str "up"),(.str "down"),(.str "leave"),(.str "stop")])
def zU:D:=(.tup [(.str "read"),(.str "write")])
def kN:List (bt×D):=[(.inr "reads",(.str "read")),(.inr "writes",(.str "write"))]
def oO:List (bt×D):=[(.inr "read",(.str "reads")),(.inr "write",(.str "writes"))]
def eh:D:=(.tup [(.str "writes"),(.str "raised")])
structure iC(w:World)(K:W.Frag)(mg:Str->Option Value):Prop where
 d__law_cell_at:bN K mg "_law_cell_at" dG
 d__law_far:bN K mg "_law_far" ic
 d__law_left:bN K mg "_law_left" gi
 d__law_pick:bN K mg "_law_pick" gg
 d__law_deed:bN K mg "_law_deed" gk
 d__law_put:bN K mg "_law_put" ib
 d__law_fronts:bN K mg "_law_fronts" eE
 d__law_lets:bN K mg "_law_lets" gh
 d__law_settled:bN K mg "_law_settled" dF
 d__law_can:bN K mg "_law_can" ie
 d__law_asked:bN K mg "_law_asked" fG
 d__law_marked:bN K mg "_law_marked" eD
 d__law_done:bN K mg "_law_done" gj
 d__law_row:bN K mg "_law_row" ia
 d__law_pages:bN K mg "_law_pages" fF
 d_empty:bN K mg "empty" nO
 d_guests_with:bN K mg "guests_with" el
 d_foremost:bN K mg "foremost" hX
 d_waiting:bN K mg "waiting" jf
 d_can_go:bN K mg "can_go" lb
 d_next_past:bN K mg "next_past" gc
 d_next_in:bN K mg "next_in" jh
 d_coming:bN K mg "coming" la
 d_with_word:bN K mg "with_word" gb
 d_let_in:bN K mg "let_in" kZ
 d_brought_by:bN K mg "brought_by" fB
 d_settled:bN K mg "settled" jg
 d_without_wait:bN K mg "without_wait" dD
 d_bring_ask:bN K mg "bring_ask" ge
 d_bring_up:bN K mg "bring_up" hZ
 d_settled_behind:bN K mg "settled_behind" cY
 d_turned:bN K mg "turned" kY
 d_bring_down:bN K mg "bring_down" fE
 d_bring_leave:bN K mg "bring_leave" eC
 d_bring_stop:bN K mg "bring_stop" fD
 d_one_less:bN K mg "one_less" hU
 d_bring_tick:bN K mg "bring_tick" fC
 d_done:bN K mg "done" qH
 d_is_tuple_of:bN K mg "is_tuple_of" ej
 d_is_word:bN K mg "is_word" ji
 d_is_whole:bN K mg "is_whole" hV
 d_is_between:bN K mg "is_between" fA
 d_is_deed:bN K mg "is_deed" jj
 d_can_do:bN K mg "can_do" lc
 d_walked:bN K mg "walked" kW
 d_ends_writing:bN K mg "ends_writing" dE
 d_pages:bN K mg "pages" nN
 d__law_rule:bN K mg "_law_rule" gf
 d__law_same:bN K mg "_law_same" cK
 d_law:bN K mg "law" wN
 z_all:mg "all" = Y
 z_bool:mg "bool" = Y
 z_dict:mg "dict" = Y
 z_enumerate:mg "enumerate" = Y
 z_int:mg "int" = Y
 z_isinstance:mg "isinstance" = Y
 z_len:mg "len" = Y
 z_list:mg "list" = Y
 z_max:mg "max" = Y
 z_min:mg "min" = Y
 z_range:mg "range" = Y
 z_str:mg "str" = Y
 z_tuple:mg "tuple" = Y
 z_zip:mg "zip" = Y
 g_BRINGS:FNm w K mg "BRINGS" [("read","bring_ask"),("write","bring_ask"),("up","bring_up"),("down","bring_down"),("leave","bring_leave"),("stop","bring_stop"),("tick","bring_tick")]
 g_FAVOURED:sr w K mg "FAVOURED" vy
 g_GREATEST_LEFT:GC K mg "GREATEST_LEFT" iS
 g_GUEST_WORDS:GC K mg "GUEST_WORDS" kO
 g_WANTS:GC K mg "WANTS" zU
 g_WANT_WITHIN:sr w K mg "WANT_WITHIN" kN
 g_WORD_WITHIN:sr w K mg "WORD_WITHIN" oO
 g_WRITING_WORDS:GC K mg "WRITING_WORDS" eh
section
variable{P:Program}{w:World}{K:W.Frag}{mg:Str->Option Value}{base:Heap}
def fz:List Str:=["_law_script","_law_k"]
def mZ:List (Str×GI):=[("len",.blt)]
def fg:=aP fz (gY (iq fz dG mZ []) (aN dG)) 2
def sC:aV fz ["_law_script","_law_k"] (az dG):=by ac_rfl
def sG(T:iC w K mg):Fn P w K mg base 1 "_law_cell_at" 2 fg:=
 bC T.d__law_cell_at sC (λ_ _ _ _ _ _=>cE λ_=>cE λ_=>iT rfl) (GKs.mem (gs:=mZ) ⟨T.z_len,trivial⟩)
def jR:List Str:=["_law_far_here","_law_k"]
def uZ:List (Str×GI):=[("range",.blt)]
def jD:=aP jR (gY (iq jR ic uZ []) (aN ic)) 0
def AA:aV jR [] (az ic):=by ac_rfl
def AR(T:iC w K mg):Fn P w K mg base 1 "_law_far" 0 jD:=
 bC T.d__law_far AA (λ_ _ _ _ _ _=>iT rfl) (GKs.mem (gs:=uZ) ⟨T.z_range,trivial⟩)
def iI:List Str:=["_law_script","_law_k","_law_cell","_law_seed"]
def se:List (Str×GI):=[("_law_cell_at",.fn 2 fg),("max",.blt),("_law_far",.fn 0 jD),("len",.blt)]
def gu:=aP iI (gY (iq iI gi se [206]) (aN gi)) 2
def yn:aV iI ["_law_script","_law_k"] (az gi):=by ac_rfl
def yG(T:iC w K mg):Fn P w K mg base 2 "_law_left" 2 gu:=
 bC T.d__law_left yn (λ_ _ _ _ _ _=>cE λ_=>cE λ_=>iT rfl) (GKs.mem (gs:=se) ⟨(sG T).up (by decide),T.z_max,(AR T).up (by decide),T.z_len,trivial⟩)
def ky:List Str:=["_law_left_here","_law_many","_law_digit"]
def rZ:List (Str×GI):=[]
def ca:=aP ky (gY (iq ky gg rZ []) (aN gg)) 2
def yl:aV ky ["_law_left_here","_law_many"] (az gg):=by ac_rfl
def lL(T:iC w K mg):Fn P w K mg base 1 "_law_pick" 2 ca:=
 bC T.d__law_pick yl (λ_ _ _ _ _ _=>cE λ_=>cE λ_=>iT rfl) (GKs.mem (gs:=rZ) trivial)
def iK:List Str:=["_law_left_here","_law_n","_law_guest","_law_way"]
def sh:List (Str×GI):=[("_law_pick",.fn 2 ca)]
def iA:=aP iK (gY (iq iK gk sh []) (aN gk)) 2
def yp:aV iK ["_law_left_here","_law_n"] (az gk):=by ac_rfl
def yH(T:iC w K mg):Fn P w K mg base 2 "_law_deed" 2 iA:=
 bC T.d__law_deed yp (λ_ _ _ _ _ _=>cE λ_=>cE λ_=>iT rfl) (GKs.mem (gs:=sh) ⟨(lL T).up (by decide),trivial⟩)
def jQ:List Str:=["_law_within","_law_guest","_law_word"]
def uY:List (Str×GI):=[]
def dU:=aP jQ (gY (iq jQ ib uY []) (aN ib)) 3
def Az:aV jQ ["_law_within","_law_guest","_law_word"] (az ib):=by ac_rfl
def rJ(T:iC w K mg):Fn P w K mg base 1 "_law_put" 3 dU:=
 bC T.d__law_put Az (λ_ _ _ _ _ _=>cE λ_=>cE λ_=>cE λ_=>iT rfl) (GKs.mem (gs:=uY) trivial)
def fV:List Str:=["_law_rule_here","_law_waits","_law_reading","_law_writing","_law_tagged"]
def oJ:List (Str×GI):=[("enumerate",.blt),("list",.blt),("range",.blt),("len",.blt),("max",.blt)]
def fP:=aP fV (gY (iq fV eE oJ []) (aN eE)) 2
def tU:aV fV ["_law_rule_here","_law_waits"] (az eE):=by ac_rfl
def uh(T:iC w K mg):Fn P w K mg base 1 "_law_fronts" 2 fP:=
 bC T.d__law_fronts tU (λ_ _ _ _ _ _=>cE λ_=>cE λ_=>iT rfl) (GKs.mem (gs:=oJ) ⟨T.z_enumerate,T.z_list,T.z_range,T.z_len,T.z_max,trivial⟩)
def iH:List Str:=["_law_rule_here","_law_within","_law_want","_law_reading"]
def sa:List (Str×GI):=[("len",.blt)]
def iz:=aP iH (gY (iq iH gh sa []) (aN gh)) 3
def ym:aV iH ["_law_rule_here","_law_within","_law_want"] (az gh):=by ac_rfl
def yF(T:iC w K mg):Fn P w K mg base 1 "_law_lets" 3 iz:=
 bC T.d__law_lets ym (λ_ _ _ _ _ _=>cE λ_=>cE λ_=>cE λ_=>iT rfl) (GKs.mem (gs:=sa) ⟨T.z_len,trivial⟩)
def fv:List Str:=["_law_rule_here","_law_room","_law_within","_law_waits","_law_events","_law_turn","_law_alone","_law_some","_law_guest","_law_want","_law_mark","_law_rest","_law_ahead"]
def mY:List (Str×GI):=[("range",.blt),("len",.blt),("_law_put",.fn 3 dU),("_law_fronts",.fn 2 fP),("_law_lets",.fn 3 iz),("tuple",.blt),("int",.blt)]
def cM:=aP fv (gY (iq fv dF mY [265]) (aN dF)) 2
def sy:aV fv ["_law_rule_here","_law_room"] (az dF):=by ac_rfl
def mr(T:iC w K mg):Fn P w K mg base 2 "_law_settled" 2 cM:=
 bC T.d__law_settled sy (λ_ _ _ _ _ _=>cE λ_=>cE λ_=>iT rfl) (GKs.mem (gs:=mY) ⟨T.z_range,T.z_len,(rJ T).up (by decide),(uh T).up (by decide),(yF T).up (by decide),T.z_tuple,T.z_int,trivial⟩)
def jS:List Str:=["_law_room","_law_deed_here","_law_within","_law_waits","_law_here","_law_stays","_law_fits"]
def vb:List (Str×GI):=[]
def jE:=aP jS (gY (iq jS ie vb [285]) (aN ie)) 2
def AB:aV jS ["_law_room","_law_deed_here"] (az ie):=by ac_rfl
def AS(T:iC w K mg):Fn P w K mg base 1 "_law_can" 2 jE:=
 bC T.d__law_can AB (λ_ _ _ _ _ _=>cE λ_=>cE λ_=>iT rfl) (GKs.mem (gs:=vb) trivial)
def gX:List Str:=["_law_rule_here","_law_room","_law_deed_here","_law_word","_law_guest","_law_rest","_law_entry","_law_events"]
def qj:List (Str×GI):=[("_law_settled",.fn 2 cM),("tuple",.blt)]
def gN:=aP gX (gY (iq gX fG qj []) (aN fG)) 3
def vP:aV gX ["_law_rule_here","_law_room","_law_deed_here"] (az fG):=by ac_rfl
def vX(T:iC w K mg):Fn P w K mg base 3 "_law_asked" 3 gN:=
 bC T.d__law_asked vP (λ_ _ _ _ _ _=>cE λ_=>cE λ_=>cE λ_=>iT rfl) (GKs.mem (gs:=qj) ⟨(mr T).up (by decide),T.z_tuple,trivial⟩)
def fU:List Str:=["_law_rule_here","_law_here","_law_waits"]
def oI:List (Str×GI):=[("tuple",.blt)]
def fO:=aP fU (gY (iq fU eD oI []) (aN eD)) 3
def tT:aV fU ["_law_rule_here","_law_here","_law_waits"] (az eD):=by ac_rfl
def ug(T:iC w K mg):Fn P w K mg base 1 "_law_marked" 3 fO:=
 bC T.d__law_marked tT (λ_ _ _ _ _ _=>cE λ_=>cE λ_=>cE λ_=>iT rfl) (GKs.mem (gs:=oI) ⟨T.z_tuple,trivial⟩)
def iJ:List Str:=["_law_rule_here","_law_room","_law_deed_here","_law_within","_law_waits","_law_fewer","_law_gone","_law_events","_law_word","_law_guest","_law_here","_law_first","_law_there","_law_more"]
def sg:List (Str×GI):=[("tuple",.blt),("_law_settled",.fn 2 cM),("_law_can",.fn 2 jE),("_law_asked",.fn 3 gN),("int",.blt),("_law_marked",.fn 3 fO),("_law_put",.fn 3 dU)]
def cX:=aP iJ (gY (iq iJ gj sg []) (aN gj)) 3
def yo:aV iJ ["_law_rule_here","_law_room","_law_deed_here"] (az gj):=by ac_rfl
def pK(T:iC w K mg):Fn P w K mg base 4 "_law_done" 3 cX:=
 bC T.d__law_done yo (λ_ _ _ _ _ _=>cE λ_=>cE λ_=>cE λ_=>iT rfl) (GKs.mem (gs:=sg) ⟨T.z_tuple,(mr T).up (by decide),(AS T).up (by decide),(vX T).up (by decide),T.z_int,(ug T).up (by decide),(rJ T).up (by decide),trivial⟩)
def jP:List Str:=["_law_left_here","_law_rule_here","_law_n","_law_many","_law_room","_law_row_here","_law_turn","_law_deed_here","_law_found"]
def uX:List (Str×GI):=[("range",.blt),("_law_deed",.fn 2 iA),("_law_done",.fn 3 cX),("tuple",.blt)]
def ik:=aP jP (gY (iq jP ia uX [235]) (aN ia)) 4
def Ay:aV jP ["_law_left_here","_law_rule_here","_law_n","_law_many"] (az ia):=by ac_rfl
def AQ(T:iC w K mg):Fn P w K mg base 5 "_law_row" 4 ik:=
 bC T.d__law_row Ay (λ_ _ _ _ _ _=>cE λ_=>cE λ_=>cE λ_=>cE λ_=>iT rfl) (GKs.mem (gs:=uX) ⟨T.z_range,(yH T).up (by decide),(pK T).up (by decide),T.z_tuple,trivial⟩)
def gW:List Str:=["_law_rule_here","_law_n","_law_row_here","_law_room","_law_number","_law_found","_law_deed_here","_law_within","_law_waits","_law_wants","_law_events","_law_word","_law_guest"]
def qi:List (Str×GI):=[("tuple",.blt),("dict",.blt),("_law_done",.fn 3 cX)]
def dr:=aP gW (gY (iq gW fF qi [344,400000]) (aN fF)) 3
def vO:aV gW ["_law_rule_here","_law_n","_law_row_here"] (az fF):=by ac_rfl
def vW(T:iC w K mg):Fn P w K mg base 5 "_law_pages" 3 dr:=
 bC T.d__law_pages vO (λ_ _ _ _ _ _=>cE λ_=>cE λ_=>cE λ_=>iT rfl) (GKs.mem (gs:=qi) ⟨T.z_tuple,T.z_dict,(pK T).up (by decide),trivial⟩)
def qB:List Str:=["n"]
def Gj:List (Str×GI):=[]
def lV:=aP qB (gY (iq qB nO Gj []) (aN nO)) 1
def Ks:aV qB ["n"] (az nO):=by ac_rfl
def Lj(T:iC w K mg):Fn P w K mg base 1 "empty" 1 lV:=
 bC T.d_empty Ks (λ_ _ _ _ _ _=>cE λ_=>iT rfl) (GKs.mem (gs:=Gj) trivial)
def fS:List Str:=["room","words"]
def oG:List (Str×GI):=[("tuple",.blt),("enumerate",.blt)]
def cm:=aP fS (gY (iq fS el oG []) (aN el)) 2
def tR:aV fS ["room","words"] (az el):=by ac_rfl
def jq(T:iC w K mg):Fn P w K mg base 1 "guests_with" 2 cm:=
 bC T.d_guests_with tR (λ_ _ _ _ _ _=>cE λ_=>cE λ_=>iT rfl) (GKs.mem (gs:=oG) ⟨T.z_tuple,T.z_enumerate,trivial⟩)
def jN:List Str:=["word","waits","turned","favoured","ranked"]
def uV:List (Str×GI):=[("FAVOURED",.tab vy)]
def lU:=aP jN (gY (iq jN hX uV []) (aN hX)) 2
def Aw:aV jN ["word","waits"] (az hX):=by ac_rfl
def AN(T:iC w K mg):Fn P w K mg base 1 "foremost" 2 lU:=
 bC T.d_foremost Aw (λ_ _ _ _ _ _=>cE λ_=>cE λ_=>iT rfl) (GKs.mem (gs:=uV) ⟨T.g_FAVOURED,trivial⟩)
def jo:List Str:=["room","guest","entry"]
def xz:List (Str×GI):=[("guests_with",.fn 2 cm)]
def cb:=aP jo (gY (iq jo jf xz []) (aN jf)) 2
def Di:aV jo ["room","guest"] (az jf):=by ac_rfl
def jp(T:iC w K mg):Fn P w K mg base 2 "waiting" 2 cb:=
 bC T.d_waiting Di (λ_ _ _ _ _ _=>cE λ_=>cE λ_=>iT rfl) (GKs.mem (gs:=xz) ⟨(jq T).up (by decide),trivial⟩)
def lE:List Str:=["rule","room","guest","want","beside","most"]
def Ca:List (Str×GI):=[("waiting",.fn 2 cb),("all",.blt),("enumerate",.blt),("len",.blt)]
def gI:=aP lE (gY (iq lE lb Ca []) (aN lb)) 3
def Ho:aV lE ["rule","room","guest"] (az lb):=by ac_rfl
def qN(T:iC w K mg):Fn P w K mg base 3 "can_go" 3 gI:=
 bC T.d_can_go Ho (λ_ _ _ _ _ _=>cE λ_=>cE λ_=>cE λ_=>iT rfl) (GKs.mem (gs:=Ca) ⟨(jp T).up (by decide),T.z_all,T.z_enumerate,T.z_len,trivial⟩)
def iE:List Str:=["rule","room","guest","want","mark","left"]
def rW:List (Str×GI):=[("can_go",.fn 3 gI)]
def kq:=aP iE (gY (iq iE gc rW []) (aN gc)) 2
def yh:aV iE ["rule","room"] (az gc):=by ac_rfl
def yC(T:iC w K mg):Fn P w K mg base 4 "next_past" 2 kq:=
 bC T.d_next_past yh (λ_ _ _ _ _ _=>cE λ_=>cE λ_=>iT rfl) (GKs.mem (gs:=rW) ⟨(qN T).up (by decide),trivial⟩)
def lB:List Str:=["rule","room","guest"]
def xB:List (Str×GI):=[("foremost",.fn 2 lU),("next_past",.fn 2 kq),("can_go",.fn 3 gI)]
def lq:=aP lB (gY (iq lB jh xB []) (aN jh)) 2
def Dk:aV lB ["rule","room"] (az jh):=by ac_rfl
def Dx(T:iC w K mg):Fn P w K mg base 5 "next_in" 2 lq:=
 bC T.d_next_in Dk (λ_ _ _ _ _ _=>cE λ_=>cE λ_=>iT rfl) (GKs.mem (gs:=xB) ⟨(AN T).up (by decide),(yC T).up (by decide),(qN T).up (by decide),trivial⟩)
def nL:List Str:=["rule","room","guest"]
def BZ:List (Str×GI):=[("guests_with",.fn 2 cm),("next_in",.fn 2 lq),("can_go",.fn 3 gI)]
def ls:=aP nL (gY (iq nL la BZ []) (aN la)) 2
def Hn:aV nL ["rule","room"] (az la):=by ac_rfl
def HH(T:iC w K mg):Fn P w K mg base 6 "coming" 2 ls:=
 bC T.d_coming Hn (λ_ _ _ _ _ _=>cE λ_=>cE λ_=>iT rfl) (GKs.mem (gs:=BZ) ⟨(jq T).up (by decide),(Dx T).up (by decide),(qN T).up (by decide),trivial⟩)
def iD:List Str:=["room","guest","word","within","waits"]
def rV:List (Str×GI):=[]
def bD:=aP iD (gY (iq iD gb rV []) (aN gb)) 3
def yg:aV iD ["room","guest","word"] (az gb):=by ac_rfl
def fI(T:iC w K mg):Fn P w K mg base 1 "with_word" 3 bD:=
 bC T.d_with_word yg (λ_ _ _ _ _ _=>cE λ_=>cE λ_=>cE λ_=>iT rfl) (GKs.mem (gs:=rV) trivial)
def nK:List Str:=["rule","room","guest","within","waits","place","ahead"]
def BY:List (Str×GI):=[("with_word",.fn 3 bD),("tuple",.blt),("WORD_WITHIN",.tab oO)]
def qm:=aP nK (gY (iq nK kZ BY []) (aN kZ)) 3
def Hm:aV nK ["rule","room","guest"] (az kZ):=by ac_rfl
def HG(T:iC w K mg):Fn P w K mg base 2 "let_in" 3 qm:=
 bC T.d_let_in Hm (λ_ _ _ _ _ _=>cE λ_=>cE λ_=>cE λ_=>iT rfl) (GKs.mem (gs:=BY) ⟨(fI T).up (by decide),T.z_tuple,T.g_WORD_WITHIN,trivial⟩)
def gR:List Str:=["rule","room","event","word","guest"]
def qd:List (Str×GI):=[("let_in",.fn 3 qm),("with_word",.fn 3 bD)]
def gJ:=aP gR (gY (iq gR fB qd []) (aN fB)) 3
def vK:aV gR ["rule","room","event"] (az fB):=by ac_rfl
def vS(T:iC w K mg):Fn P w K mg base 3 "brought_by" 3 gJ:=
 bC T.d_brought_by vK (λ_ _ _ _ _ _=>cE λ_=>cE λ_=>cE λ_=>iT rfl) (GKs.mem (gs:=qd) ⟨(HG T).up (by decide),(fI T).up (by decide),trivial⟩)
def lA:List Str:=["rule","room","events","event"]
def xA:List (Str×GI):=[("coming",.fn 2 ls),("brought_by",.fn 3 gJ),("tuple",.blt)]
def cO:=aP lA (gY (iq lA jg xA [61]) (aN jg)) 2
def Dj:aV lA ["rule","room"] (az jg):=by ac_rfl
def oV(T:iC w K mg):Fn P w K mg base 7 "settled" 2 cO:=
 bC T.d_settled Dj (λ_ _ _ _ _ _=>cE λ_=>cE λ_=>iT rfl) (GKs.mem (gs:=xA) ⟨(HH T).up (by decide),(vS T).up (by decide),T.z_tuple,trivial⟩)
def fq:List Str:=["room","guest","within","waits"]
def mW:List (Str×GI):=[("tuple",.blt)]
def cC:=aP fq (gY (iq fq dD mW []) (aN dD)) 2
def sv:aV fq ["room","guest"] (az dD):=by ac_rfl
def mq(T:iC w K mg):Fn P w K mg base 1 "without_wait" 2 cC:=
 bC T.d_without_wait sv (λ_ _ _ _ _ _=>cE λ_=>cE λ_=>iT rfl) (GKs.mem (gs:=mW) ⟨T.z_tuple,trivial⟩)
def iF:List Str:=["rule","room","deed","want","guest","left","within","waits","entry","events"]
def rX:List (Str×GI):=[("settled",.fn 2 cO),("waiting",.fn 2 cb),("without_wait",.fn 2 cC)]
def gq:=aP iF (gY (iq iF ge rX []) (aN ge)) 3
def yi:aV iF ["rule","room","deed"] (az ge):=by ac_rfl
def pJ(T:iC w K mg):Fn P w K mg base 8 "bring_ask" 3 gq:=
 bC T.d_bring_ask yi (λ_ _ _ _ _ _=>cE λ_=>cE λ_=>cE λ_=>iT rfl) (GKs.mem (gs:=rX) ⟨(oV T).up (by decide),(jp T).up (by decide),(mq T).up (by decide),trivial⟩)
def jO:List Str:=["rule","room","deed","guest","events"]
def uW:List (Str×GI):=[("settled",.fn 2 cO),("guests_with",.fn 2 cm),("with_word",.fn 3 bD),("waiting",.fn 2 cb)]
def jC:=aP jO (gY (iq jO hZ uW []) (aN hZ)) 3
def Ax:aV jO ["rule","room","deed"] (az hZ):=by ac_rfl
def AO(T:iC w K mg):Fn P w K mg base 8 "bring_up" 3 jC:=
 bC T.d_bring_up Ax (λ_ _ _ _ _ _=>cE λ_=>cE λ_=>cE λ_=>iT rfl) (GKs.mem (gs:=uW) ⟨(oV T).up (by decide),(jq T).up (by decide),(fI T).up (by decide),(jp T).up (by decide),trivial⟩)
def dM:List Str:=["rule","room","first","events"]
def lj:List (Str×GI):=[("settled",.fn 2 cO)]
def bq:=aP dM (gY (iq dM cY lj []) (aN cY)) 3
def pA:aV dM ["rule","room","first"] (az cY):=by ac_rfl
def eJ(T:iC w K mg):Fn P w K mg base 8 "settled_behind" 3 bq:=
 bC T.d_settled_behind pA (λ_ _ _ _ _ _=>cE λ_=>cE λ_=>cE λ_=>iT rfl) (GKs.mem (gs:=lj) ⟨(oV T).up (by decide),trivial⟩)
def nJ:List Str:=["rule","room","guest","within","waits"]
def BX:List (Str×GI):=[("tuple",.blt)]
def gH:=aP nJ (gY (iq nJ kY BX []) (aN kY)) 3
def Hl:aV nJ ["rule","room","guest"] (az kY):=by ac_rfl
def wT(T:iC w K mg):Fn P w K mg base 1 "turned" 3 gH:=
 bC T.d_turned Hl (λ_ _ _ _ _ _=>cE λ_=>cE λ_=>cE λ_=>iT rfl) (GKs.mem (gs:=BX) ⟨T.z_tuple,trivial⟩)
def gU:List Str:=["rule","room","deed","guest"]
def qh:List (Str×GI):=[("settled_behind",.fn 3 bq),("with_word",.fn 3 bD),("turned",.fn 3 gH)]
def gM:=aP gU (gY (iq gU fE qh []) (aN fE)) 3
def vN:aV gU ["rule","room","deed"] (az fE):=by ac_rfl
def vV(T:iC w K mg):Fn P w K mg base 9 "bring_down" 3 gM:=
 bC T.d_bring_down vN (λ_ _ _ _ _ _=>cE λ_=>cE λ_=>cE λ_=>iT rfl) (GKs.mem (gs:=qh) ⟨(eJ T).up (by decide),(fI T).up (by decide),(wT T).up (by decide),trivial⟩)
def fT:List Str:=["rule","room","deed","guest"]
def oH:List (Str×GI):=[("settled_behind",.fn 3 bq),("with_word",.fn 3 bD),("turned",.fn 3 gH)]
def fN:=aP fT (gY (iq fT eC oH []) (aN eC)) 3
def tS:aV fT ["rule","room","deed"] (az eC):=by ac_rfl
def uf(T:iC w K mg):Fn P w K mg base 9 "bring_leave" 3 fN:=
 bC T.d_bring_leave tS (λ_ _ _ _ _ _=>cE λ_=>cE λ_=>cE λ_=>iT rfl) (GKs.mem (gs:=oH) ⟨(eJ T).up (by decide),(fI T).up (by decide),(wT T).up (by decide),trivial⟩)
def gT:List Str:=["rule","room","deed","guest","calmer"]
def qg:List (Str×GI):=[("settled_behind",.fn 3 bq),("waiting",.fn 2 cb),("with_word",.fn 3 bD),("without_wait",.fn 2 cC)]
def gL:=aP gT (gY (iq gT fD qg []) (aN fD)) 3
def vM:aV gT ["rule","room","deed"] (az fD):=by ac_rfl
def vU(T:iC w K mg):Fn P w K mg base 9 "bring_stop" 3 gL:=
 bC T.d_bring_stop vM (λ_ _ _ _ _ _=>cE λ_=>cE λ_=>cE λ_=>iT rfl) (GKs.mem (gs:=qg) ⟨(eJ T).up (by decide),(jp T).up (by decide),(fI T).up (by decide),(mq T).up (by decide),trivial⟩)
def jL:List Str:=["left"]
def uT:List (Str×GI):=[]
def ii:=aP jL (gY (iq jL hU uT []) (aN hU)) 1
def Au:aV jL ["left"] (az hU):=by ac_rfl
def AL(T:iC w K mg):Fn P w K mg base 1 "one_less" 1 ii:=
 bC T.d_one_less Au (λ_ _ _ _ _ _=>cE λ_=>iT rfl) (GKs.mem (gs:=uT) trivial)
def gS:List Str:=["rule","room","deed","within","waits","shorter","ended","kept"]
def qe:List (Str×GI):=[("tuple",.blt),("settled_behind",.fn 3 bq),("one_less",.fn 1 ii)]
def gK:=aP gS (gY (iq gS fC qe []) (aN fC)) 3
def vL:aV gS ["rule","room","deed"] (az fC):=by ac_rfl
def vT(T:iC w K mg):Fn P w K mg base 9 "bring_tick" 3 gK:=
 bC T.d_bring_tick vL (λ_ _ _ _ _ _=>cE λ_=>cE λ_=>cE λ_=>iT rfl) (GKs.mem (gs:=qe) ⟨T.z_tuple,(eJ T).up (by decide),(AL T).up (by decide),trivial⟩)
def CD:List (bt×Nat×(List D->ac->Option (D×ac))):=[(.inr "read",3,gq),(.inr "write",3,gq),(.inr "up",3,jC),(.inr "down",3,gM),(.inr "leave",3,fN),(.inr "stop",3,gL),(.inr "tick",3,gK)]
def vC:List Str:=["rule","room","deed","bring"]
def Mm:List (Str×GI):=[("BRINGS",.ftab CD)]
def pf:=aP vC (gY (iq vC qH Mm []) (aN qH)) 3
def Oy:aV vC ["rule","room","deed"] (az qH):=by ac_rfl
def Po(T:iC w K mg):Fn P w K mg base 10 "done" 3 pf:=
 bC T.d_done Oy (λ_ _ _ _ _ _=>cE λ_=>cE λ_=>cE λ_=>iT rfl) (GKs.mem (gs:=Mm) ⟨Qg T.g_BRINGS ⟨rfl,(pJ T).up (by decide),rfl,(pJ T).up (by decide),rfl,(AO T).up (by decide),rfl,(vV T).up (by decide),rfl,(uf T).up (by decide),rfl,(vU T).up (by decide),rfl,(vT T).up (by decide),trivial⟩,trivial⟩)
def fR:List Str:=["thing","many"]
def oF:List (Str×GI):=[("isinstance",.blt),("tuple",.blt),("len",.blt)]
def cW:=aP fR (gY (iq fR ej oF []) (aN ej)) 2
def tQ:aV fR ["thing","many"] (az ej):=by ac_rfl
def ue(T:iC w K mg):Fn P w K mg base 1 "is_tuple_of" 2 cW:=
 bC T.d_is_tuple_of tQ (λ_ _ _ _ _ _=>cE λ_=>cE λ_=>iT rfl) (GKs.mem (gs:=oF) ⟨T.z_isinstance,T.z_tuple,T.z_len,trivial⟩)
def lC:List Str:=["thing","words"]
def xC:List (Str×GI):=[("isinstance",.blt),("str",.blt)]
def gp:=aP lC (gY (iq lC ji xC []) (aN ji)) 2
def Dl:aV lC ["thing","words"] (az ji):=by ac_rfl
def Dy(T:iC w K mg):Fn P w K mg base 1 "is_word" 2 gp:=
 bC T.d_is_word Dl (λ_ _ _ _ _ _=>cE λ_=>cE λ_=>iT rfl) (GKs.mem (gs:=xC) ⟨T.z_isinstance,T.z_str,trivial⟩)
def jM:List Str:=["thing"]
def uU:List (Str×GI):=[("isinstance",.blt),("int",.blt),("bool",.blt)]
def jA:=aP jM (gY (iq jM hV uU []) (aN hV)) 1
def Av:aV jM ["thing"] (az hV):=by ac_rfl
def AM(T:iC w K mg):Fn P w K mg base 1 "is_whole" 1 jA:=
 bC T.d_is_whole Av (λ_ _ _ _ _ _=>cE λ_=>iT rfl) (GKs.mem (gs:=uU) ⟨T.z_isinstance,T.z_int,T.z_bool,trivial⟩)
def gQ:List Str:=["thing","low","high"]
def qc:List (Str×GI):=[("is_whole",.fn 1 jA)]
def dq:=aP gQ (gY (iq gQ fA qc []) (aN fA)) 3
def vJ:aV gQ ["thing","low","high"] (az fA):=by ac_rfl
def vR(T:iC w K mg):Fn P w K mg base 2 "is_between" 3 dq:=
 bC T.d_is_between vJ (λ_ _ _ _ _ _=>cE λ_=>cE λ_=>cE λ_=>iT rfl) (GKs.mem (gs:=qc) ⟨(AM T).up (by decide),trivial⟩)
def lD:List Str:=["n","thing","want","guest","left"]
def xD:List (Str×GI):=[("is_tuple_of",.fn 2 cW),("is_word",.fn 2 gp),("WANTS",.con zU),("is_between",.fn 3 dq),("GUEST_WORDS",.con kO),("GREATEST_LEFT",.con iS)]
def ij:=aP lD (gY (iq lD jj xD []) (aN jj)) 2
def Dm:aV lD ["n","thing"] (az jj):=by ac_rfl
def Dz(T:iC w K mg):Fn P w K mg base 3 "is_deed" 2 ij:=
 bC T.d_is_deed Dm (λ_ _ _ _ _ _=>cE λ_=>cE λ_=>iT rfl) (GKs.mem (gs:=xD) ⟨(ue T).up (by decide),(Dy T).up (by decide),T.g_WANTS,(vR T).up (by decide),T.g_GUEST_WORDS,T.g_GREATEST_LEFT,trivial⟩)
def lF:List Str:=["room","deed","word","guest","within"]
def Cb:List (Str×GI):=[("WRITING_WORDS",.con eh),("waiting",.fn 2 cb)]
def jB:=aP lF (gY (iq lF lc Cb []) (aN lc)) 2
def Hq:aV lF ["room","deed"] (az lc):=by ac_rfl
def HI(T:iC w K mg):Fn P w K mg base 3 "can_do" 2 jB:=
 bC T.d_can_do Hq (λ_ _ _ _ _ _=>cE λ_=>cE λ_=>iT rfl) (GKs.mem (gs:=Cb) ⟨T.g_WRITING_WORDS,(jp T).up (by decide),trivial⟩)
def nI:List Str:=["rule","n","row","room","steps","place","deed","behind","events"]
def BW:List (Str×GI):=[("empty",.fn 1 lV),("enumerate",.blt),("done",.fn 3 pf),("is_deed",.fn 2 ij),("can_do",.fn 2 jB)]
def ll:=aP nI (gY (iq nI kW BW [173]) (aN kW)) 3
def Hk:aV nI ["rule","n","row"] (az kW):=by ac_rfl
def HF(T:iC w K mg):Fn P w K mg base 11 "walked" 3 ll:=
 bC T.d_walked Hk (λ_ _ _ _ _ _=>cE λ_=>cE λ_=>cE λ_=>iT rfl) (GKs.mem (gs:=BW) ⟨(Lj T).up (by decide),T.z_enumerate,(Po T).up (by decide),(Dz T).up (by decide),(HI T).up (by decide),trivial⟩)
def ft:List Str:=["room","deed"]
def mX:List (Str×GI):=[("WRITING_WORDS",.con eh)]
def dL:=aP ft (gY (iq ft dE mX []) (aN dE)) 2
def sx:aV ft ["room","deed"] (az dE):=by ac_rfl
def sE(T:iC w K mg):Fn P w K mg base 1 "ends_writing" 2 dL:=
 bC T.d_ends_writing sx (λ_ _ _ _ _ _=>cE λ_=>cE λ_=>iT rfl) (GKs.mem (gs:=mX) ⟨T.g_WRITING_WORDS,trivial⟩)
def qA:List Str:=["rule","n","row","number","met","deed","before","behind","events","word","guest"]
def Gi:List (Str×GI):=[("zip",.blt),("tuple",.blt),("walked",.fn 3 ll),("ends_writing",.fn 2 dL),("WANT_WITHIN",.tab kN)]
def jd:=aP qA (gY (iq qA nN Gi [183,800184]) (aN nN)) 3
def Kr:aV qA ["rule","n","row"] (az nN):=by ac_rfl
def Li(T:iC w K mg):Fn P w K mg base 12 "pages" 3 jd:=
 bC T.d_pages Kr (λ_ _ _ _ _ _=>cE λ_=>cE λ_=>cE λ_=>iT rfl) (GKs.mem (gs:=Gi) ⟨T.z_zip,T.z_tuple,(HF T).up (by decide),(sE T).up (by decide),T.g_WANT_WITHIN,trivial⟩)
def iG:List Str:=["_law_left_here","_law_word","_law_most","_law_times"]
def rY:List (Str×GI):=[("_law_pick",.fn 2 ca),("int",.blt)]
def gt:=aP iG (gY (iq iG gf rY []) (aN gf)) 1
def yk:aV iG ["_law_left_here"] (az gf):=by ac_rfl
def yE(T:iC w K mg):Fn P w K mg base 2 "_law_rule" 1 gt:=
 bC T.d__law_rule yk (λ_ _ _ _ _ _=>cE λ_=>iT rfl) (GKs.mem (gs:=rY) ⟨(lL T).up (by decide),T.z_int,trivial⟩)
def N__law_same:List Str:=["_law_found","_law_due","_law_keys"]
def gn:List (Str×GI):=[("isinstance",.blt),("dict",.blt),("str",.blt),("all",.blt),("list",.blt),("tuple",.blt),("bool",.blt),("int",.blt),("len",.blt),("zip",.blt)]
def gB:=Kz N__law_same cK gn [] "_law_same" 2
def cN:=gB 8
def yJ:N__law_same.Nodup:=by decide +kernel
def yj:aV N__law_same ["_law_found","_law_due"] (az cK):=⟨rfl,rfl,rfl,yJ,rfl,by decide +kernel,by decide +kernel⟩
def yD(T:iC w K mg):Fn P w K mg base 9 "_law_same" 2 cN:=
 Ky (gs:=gn) (k:=0) T.d__law_same yj (λ_ _ _ _ _ _=>cE λ_=>cE λ_=>iT rfl) ⟨T.z_isinstance,T.z_dict,T.z_str,T.z_all,T.z_list,T.z_tuple,T.z_bool,T.z_int,T.z_len,T.z_zip,trivial⟩ 8
def CL:List Str:=["_law_script","_law_k","_law_left_here","_law_rule_here","_law_n","_law_row_here","_law_room","_law_due","_law_cut","_law_begun"]
def Sd:List (Str×GI):=[("range",.blt),("_law_left",.fn 2 gu),("_law_row",.fn 4 ik),("_law_pages",.fn 3 dr),("_law_pick",.fn 2 ca),("pages",.fn 3 jd),("min",.blt),("_law_rule",.fn 1 gt),("len",.blt),("_law_same",.fn 2 cN)]
def Ck:=aP CL (gY (iq CL wN Sd []) (aN wN)) 1
def SV:aV CL ["_law_script"] (az wN):=by ac_rfl
def UN(T:iC w K mg):GKs P w K mg base 12 Sd:=⟨T.z_range,(yG T).up (by decide),(AQ T).up (by decide),(vW T).up (by decide),(lL T).up (by decide),(Li T).up (by decide),T.z_min,(yE T).up (by decide),T.z_len,(yD T).up (by decide),trivial⟩
end
def Wc{l:W.OpenLaw}{w:World}{K:W.Frag}{h:Heap}{mg:Str->Option Value}{fa:Addr}(X:K.In h)(G:h.Ns mainGlobals mg)(hfa:mg "law" = U (.ref fa))(T:iC w K mg) :
  ∃ fd:FuncData,(∀ (s:Shared) (v:Value),BindsTo s fd ⟨[v],[]⟩ [("_law_script",v)])/\∀ base:Heap,K.In base->base.Ns mainGlobals mg->FnOk l.prog w K mg base GO 13 fa fd ["_law_script"] (Kk K 1 Ck):=
 Ul T.d_law hfa SV (λ_ _ _ _ _ _ _=>rfl) λbase=>UN T
def walk{l:W.OpenLaw}{q:Program}{loose:List Str}{XP:(Str->Option Value)->Heap->Prop}{YP:World->Heap->Prop}{d:DefRec}{K:Params->W.Frag}(hn:l.most=U 63)(hdf:d.params.defaults=[])(hnm:d.name = "law")
  (hY:∀ (w:World) (h:Heap),YP w h->(K w.params).In h) (hlaw:∀ ns:List Int,ns.length<=63->∃ S',Ck [.rol (ns.map .int)] []=U (.bl true,S'))
  (F:∀ (w:World) (mg:Str->Option Value) (h:Heap),(K w.params).In h->h.Ns mainGlobals mg->iC w (K w.params) mg) :
  W.WalkO q loose XP YP l.row.toRowW d [] (λf vs=>PySem.call f vs):=
 L2.Oj (n:=63) (k:=13) (x:="_law_script") (CX:=λ_=>GO) (sp:=λw=>Kk (K w.params) 1 Ck) hn (by decide) hdf ⟨rfl,by decide,by decide⟩ hY
  (λw mg fa h KX G hmg=>Wc KX G (hnm ▸ hmg) (F w mg h KX G)) (λ_ _ a ns hl _ hS=>Uj hlaw hl hS) λ_ _ _ _ _ z=>z
end K19
end
section
set_option maxHeartbeats 4000000
namespace K19
open L2 MI
open M hiding mC ab ar ax cT cQ dc eG dB dA vE gF mD ai aa aO eQ dI CM bw bR bu ba dR ao aS ay aX cV bz ah aC af aK fM aF cB dC iZ bI db bY da eS mz jV mQ gZ eU dQ dO eR eO df iw jw
def uA:MS:=
 nU
def sK:fg=aP fz uA 2:=iX rfl
def Ea:MS:=
 Ek
def Bh:jD=aP jR Ea 0:=iX rfl
def Bs:MS:=
 tw fg jD
def yS:gu=aP iI Bs 2:=iX rfl
def Bq:MS:=
 tq
def yQ:ca=aP ky Bq 2:=iX rfl
def Bu:MS:=
 pX ca
def yU:iA=aP iK Bu 2:=iX rfl
def DZ:MS:=
 Ej
def Bg:dU=aP jQ DZ 3:=iX rfl
def wn:MS:=
 qU
def uv:fP=aP fV wn 2:=iX rfl
def Br:MS:=
 zg
def yR:iz=aP iH Br 3:=iX rfl
def uz:MS:=
 oY fP iz dU
def sJ:cM=aP fv uz 2:=iX rfl
def Eb:MS:=
 zh
def Bi:jE=aP jS Eb 2:=iX rfl
def yW:MS:=
 uK cM
def wj:gN=aP gX yW 3:=iX rfl
def wm:MS:=
 lf
def uu:fO=aP fU wm 3:=iX rfl
def Bt:MS:=
 kj jE gN cM fO dU
def yT:cX=aP iJ Bt 3:=iX rfl
def DY:MS:=
 Ei iA cX
def Bf:ik=aP jP DY 4:=iX rfl
def pR:MS:=
 ay (aF (aO (aa (ar cz (aO (aa (mC (.str "out")) (ai))) (ab 1)) (aa (aO (ai)) (ai)))) (ah 3)) (ay (aF (mC (.int 0)) (ah 4)) (ay (aF (dI (ai)) (ah 5)) (ay (dO (ab 2) (ah 6) (ay (aF (ab 3) (aK 2 (af (ah 7) (af (ah 8) (aC))))) (ay (aF (ba (aJ nu) (aa (bI (db (ab 8)) (ah 0) (bY) (bu (ab 0) (bw) (bR (mC (.int 2)))) [Y]) (ai))) (ah 9)) (ay (aF (ao 3 cX (aa (ab 0) (aa (ab 3) (aa (ab 6) (ai))))) (aK 2 (af (ah 3) (af (ah 10) (aC))))) (ay (bz (dc (ax (ar kR (ar aw (ab 6) (mC (.int 0))) (aO (aa (mC (.str "leave")) (aa (mC (.str "down")) (ai)))))) (ax (ar kR (ar aw (ab 7) (ar aw (ab 6) (mC (.int 1)))) (aO (aa (mC (.str "writes")) (aa (mC (.str "raised")) (ai))))))) (aF (ar aR (ab 4) (mC (.int 1))) (ah 4)) (aS)) (dO (ab 10) (aK 2 (af (ah 11) (af (ah 12) (aC)))) (ay (bz (ax (ar bW (ab 11) (mC (.str "in")))) (cV (da ce (ab 5) (aa (aO (aa (ab 12) (aa (dQ sj (ab 9) (aa (ab 12) (aa (ar aw (ab 6) (mC (.int 0))) (ai)))) (aa (ab 4) (ai))))) (ai)))) (aS)) (bz (ax (ar bW (ab 11) (mC (.str "steps")))) (cV (da ce (ab 5) (aa (aO (aa (ab 12) (aa (mC (.str "up")) (aa (ab 4) (ai))))) (ai)))) (aS))))))))) (aX (ba (aJ (cr .tup)) (aa (ab 5) (ai)))))))
def wg:dr=aP gW pR 3:=iX rfl
def FP:MS:=
 aX (aO (aa (ar cz (aO (aa (mC (.str "out")) (ai))) (ab 0)) (aa (aO (ai)) (ai))))
def Lq:lV=aP qB FP 1:=iX rfl
def wl:MS:=
 Du
def ur:cm=aP fS wl 2:=iX rfl
def DX:MS:=
 lK
def Bd:lU=aP jN DX 2:=iX rfl
def HW:MS:=
 mI cm
def uo:cb=aP jo HW 2:=iX rfl
def Lv:MS:=
 gl cb
def wW:gI=aP lE Lv 3:=iX rfl
def Bn:MS:=
 lJ gI
def yM:kq=aP iE Bn 2:=iX rfl
def HY:MS:=
 oS kq lU gI
def DN:lq=aP lB HY 2:=iX rfl
def Lu:MS:=
 oT cm gI lq
def HU:ls=aP nL Lu 2:=iX rfl
def Bk:MS:=
 lI
def yL:bD=aP iD Bk 3:=iX rfl
def Lr:MS:=
 qL bD
def HS:qm=aP nK Lr 3:=iX rfl
def yV:MS:=
 mL bD qm
def wa:gJ=aP gR yV 3:=iX rfl
def HX:MS:=
 mJ gJ ls
def DM:cO=aP lA HX 2:=iX rfl
def mO:MS:=
 ay (aF (ab 0) (aK 2 (af (ah 2) (af (ah 3) (aC))))) (aX (aO (aa (ab 2) (aa (ba (aJ (cr .tup)) (aa (bI (db (ab 3)) (ah 0) (ax (ar gv (ar aw (ab 0) (mC (.int 0))) (ab 1))) (ab 0) [Y,U 1]) (ai))) (ai)))))
def sH:cC=aP fq mO 2:=iX rfl
def rL:MS:=
 ay (aF (ab 2) (aK 3 (af (ah 3) (af (ah 4) (af (ah 5) (aC)))))) (ay (aF (ab 1) (aK 2 (af (ah 6) (af (ah 7) (aC))))) (ay (aF (aO (aa (ab 4) (aa (ab 3) (aa (mC (.int 0)) (aa (mD (ax (ar bW (ab 5) (mC (.int 0)))) (mC (.int 1)) (ab 5)) (ai)))))) (ah 8)) (ay (aF (ao 2 cO (aa (ab 0) (aa (aO (aa (ab 6) (aa (ar aR (ab 7) (aO (aa (ab 8) (ai)))) (ai)))) (ai)))) (aK 2 (af (ah 1) (af (ah 9) (aC))))) (ay (bz (ax (ar wy (ao 2 cb (aa (ab 1) (aa (ab 4) (ai)))) (mC .non))) (aX (aO (aa (ab 1) (aa (ab 9) (ai))))) (aS)) (ay (bz (ax (ar bW (ab 5) (mC (.int 0)))) (aX (aO (aa (ao 2 cC (aa (ab 1) (aa (ab 4) (ai)))) (aa (ar aR (ab 9) (aO (aa (aO (aa (mC (.str "no")) (aa (ab 4) (ai)))) (ai)))) (ai))))) (aS)) (aX (aO (aa (ab 1) (aa (ar aR (ab 9) (aO (aa (aO (aa (mC (.str "waits")) (aa (ab 4) (ai)))) (ai)))) (ai))))))))))
def yN:gq=aP iF rL 3:=iX rfl
def uy:MS:=
 ay (aF (ar aw (ab 2) (mC (.int 1))) (ah 3)) (ay (bz (eG (ax (ar bW (ar aw (ab 0) (mC (.int 3))) (mC (.int 0)))) (cQ (ao 2 cm (aa (ab 1) (aa (aO (aa (mC (.str "rising")) (ai))) (ai)))))) (aX (aO (aa (ab 1) (aa (aO (aa (aO (aa (mC (.str "no")) (aa (ab 3) (ai)))) (ai))) (ai))))) (aS)) (ay (aF (ao 2 cO (aa (ab 0) (aa (ao 3 bD (aa (ab 1) (aa (ab 3) (aa (mC (.str "rising")) (ai))))) (ai)))) (aK 2 (af (ah 1) (af (ah 4) (aC))))) (ay (bz (ax (ar wy (ao 2 cb (aa (ab 1) (aa (ab 3) (ai)))) (mC .non))) (aX (aO (aa (ab 1) (aa (ab 4) (ai))))) (aS)) (aX (aO (aa (ab 1) (aa (ar aR (ab 4) (aO (aa (aO (aa (mC (.str "waits")) (aa (ab 3) (ai)))) (ai)))) (ai))))))))
def Be:jC=aP jO uy 3:=iX rfl
def le:MS:=
 ay (aF (ao 2 cO (aa (ab 0) (aa (ab 1) (ai)))) (aK 2 (af (ah 1) (af (ah 3) (aC))))) (aX (aO (aa (ab 1) (aa (ar aR (ab 2) (ab 3)) (ai)))))
def pM:bq=aP dM le 3:=iX rfl
def Bm:MS:=
 ay (aF (ab 1) (aK 2 (af (ah 3) (af (ah 4) (aC))))) (ay (bz (eG (ax (ar gv (ar aw (ab 0) (mC (.int 0))) (mC (.str "turns")))) (ax (ar gv (ar aw (ab 3) (ab 2)) (mC (.str "writes"))))) (aX (ab 1)) (aS)) (aX (aO (aa (ab 3) (aa (ba (aJ (cr .tup)) (aa (bI (db (ab 4)) (aK 4 (af (ah 0) (af (ah 1) (af (ah 2) (af (ah 3) (aC)))))) (bY) (aO (aa (ab 0) (aa (ab 1) (aa (mD (ax (ar bW (ab 1) (mC (.str "read")))) (mC (.int 1)) (ab 2)) (aa (ab 3) (ai)))))) [Y,Y,Y,Y]) (ai))) (ai))))))
def HR:gH=aP nJ Bm 3:=iX rfl
def pQ:MS:=
 ay (aF (ar aw (ab 2) (mC (.int 1))) (ah 3)) (aX (ao 3 bq (aa (ab 0) (aa (ao 3 bD (aa (ao 3 gH (aa (ab 0) (aa (ab 1) (aa (ab 3) (ai))))) (aa (ab 3) (aa (mC (.str "reads")) (ai))))) (aa (aO (aa (aO (aa (mC (.str "down")) (aa (ab 3) (ai)))) (ai))) (ai))))))
def wf:gM=aP gU pQ 3:=iX rfl
def oD:MS:=
 ay (aF (ar aw (ab 2) (mC (.int 1))) (ah 3)) (aX (ao 3 bq (aa (ab 0) (aa (ao 3 bD (aa (ao 3 gH (aa (ab 0) (aa (ab 1) (aa (ab 3) (ai))))) (aa (ab 3) (aa (mC (.str "out")) (ai))))) (aa (aO (aa (aO (aa (mC (.str "out")) (aa (ab 3) (ai)))) (ai))) (ai))))))
def ut:fN=aP fT oD 3:=iX rfl
def pP:MS:=
 ay (aF (ar aw (ab 2) (mC (.int 1))) (ah 3)) (ay (bz (ax (ar bW (ao 2 cb (aa (ab 1) (aa (ab 3) (ai)))) (mC (.str "up")))) (aF (ao 3 bD (aa (ab 1) (aa (ab 3) (aa (mC (.str "reads")) (ai))))) (ah 4)) (aF (ao 2 cC (aa (ab 1) (aa (ab 3) (ai)))) (ah 4))) (aX (ao 3 bq (aa (ab 0) (aa (ab 4) (aa (aO (aa (aO (aa (mC (.str "ends")) (aa (ab 3) (ai)))) (ai))) (ai)))))))
def we:gL=aP gT pP 3:=iX rfl
def uw:MS:=
 aX (mD (ax (ar wy (ab 0) (mC .non))) (mC .non) (ar oz (ab 0) (mC (.int 1))))
def Bb:ii=aP jL uw 1:=iX rfl
def pO:MS:=
 ay (aF (ab 1) (aK 2 (af (ah 3) (af (ah 4) (aC))))) (ay (aF (bI (db (ab 4)) (aK 4 (af (ah 0) (af (ah 1) (af (ah 2) (af (ah 3) (aC)))))) (bY) (aO (aa (ab 0) (aa (ab 1) (aa (ab 2) (aa (ao 1 ii (aa (ab 3) (ai))) (ai)))))) [Y,Y,Y,Y]) (ah 5)) (ay (aF (ba (aJ (cr .tup)) (aa (bI (db (ab 5)) (ah 0) (ax (ar bW (ar aw (ab 0) (mC (.int 3))) (mC (.int 0)))) (aO (aa (mC (.str "ends")) (aa (ar aw (ab 0) (mC (.int 0))) (ai)))) [Y]) (ai))) (ah 6)) (ay (aF (ba (aJ (cr .tup)) (aa (bI (db (ab 5)) (ah 0) (ax (ar gv (ar aw (ab 0) (mC (.int 3))) (mC (.int 0)))) (ab 0) [Y]) (ai))) (ah 7)) (aX (ao 3 bq (aa (ab 0) (aa (aO (aa (ab 3) (aa (ab 7) (ai)))) (aa (ab 6) (ai)))))))))
def wc:gK=aP gS pO 3:=iX rfl
def Ls:MS:=
 iw CD 3 (ar aw (ab 2) (mC (.int 0))) (aa (ab 0) (aa (ab 1) (aa (ab 2) (ai))))
def Py:pf=aP vC Ls 3:=iX rfl
def oC:MS:=
 aX (dA (dR "tuple" (ab 0)) (ar bW (ba (aJ eg) (aa (ab 0) (ai))) (ab 1)))
def uq:cW=aP fR oC 2:=iX rfl
def wX:MS:=
 aX (dA (dR "str" (ab 0)) (ar kR (ab 0) (ab 1)))
def DP:gp=aP lC wX 2:=iX rfl
def ux:MS:=
 aX (dA (dR "int" (ab 0)) (gF (dR "bool" (ab 0))))
def Bc:jA=aP jM ux 1:=iX rfl
def pN:MS:=
 aX (dA (ao 1 jA (aa (ab 0) (ai))) (cT Qr Qr (ab 1) (ab 0) (ab 2)))
def vZ:dq=aP gQ pN 3:=iX rfl
def wY:MS:=
 ay (bz (cQ (ao 2 cW (aa (ab 1) (aa (mC (.int 1)) (ai))))) (aX (ao 2 gp (aa (ar aw (ab 1) (mC (.int 0))) (aa (aO (aa (mC (.str "tick")) (ai))) (ai))))) (aS)) (ay (bz (cQ (ao 2 cW (aa (ab 1) (aa (mC (.int 2)) (ai))))) (aX (dA (ao 2 gp (aa (ar aw (ab 1) (mC (.int 0))) (aa (mC kO) (ai)))) (ao 3 dq (aa (ar aw (ab 1) (mC (.int 1))) (aa (mC (.int 0)) (aa (ar oz (ab 0) (mC (.int 1))) (ai))))))) (aS)) (ay (bz (dB (cQ (ao 2 cW (aa (ab 1) (aa (mC (.int 3)) (ai)))))) (aX (mC (.bl false))) (aS)) (ay (aF (ab 1) (aK 3 (af (ah 2) (af (ah 3) (af (ah 4) (aC)))))) (aX (dA (ao 2 gp (aa (ab 2) (aa (mC zU) (ai)))) (dA (ao 3 dq (aa (ab 3) (aa (mC (.int 0)) (aa (ar oz (ab 0) (mC (.int 1))) (ai))))) (vE (ar wy (ab 4) (mC .non)) (ao 3 dq (aa (ab 4) (aa (mC (.int 0)) (aa (mC iS) (ai))))))))))))
def DQ:ij=aP lD wY 2:=iX rfl
def Bo:MS:=
 ay (bz (ax (ar bW (ar aw (ab 1) (mC (.int 0))) (mC (.str "tick")))) (aX (mC (.bl true))) (aS)) (ay (aF (bu (ab 1) (bw) (bR (mC (.int 2)))) (aK 2 (af (ah 2) (af (ah 3) (aC))))) (ay (aF (ar aw (ar aw (ab 0) (mC (.int 0))) (ab 3)) (ah 4)) (ay (bz (ax (ar bW (ab 2) (mC (.str "up")))) (aX (ar bW (ab 4) (mC (.str "reads")))) (aS)) (ay (bz (ax (ar bW (ab 2) (mC (.str "down")))) (aX (ar kR (ab 4) (mC eh))) (aS)) (ay (bz (ax (ar bW (ab 2) (mC (.str "leave")))) (aX (ar gv (ab 4) (mC (.str "out")))) (aS)) (ay (bz (ax (ar bW (ab 2) (mC (.str "stop")))) (aX (ar nh (ao 2 cb (aa (ab 0) (aa (ab 3) (ai)))) (mC .non))) (aS)) (aX (dA (ar bW (ab 4) (mC (.str "out"))) (ar wy (ao 2 cb (aa (ab 0) (aa (ab 3) (ai)))) (mC .non))))))))))
def HV:jB=aP lF Bo 2:=iX rfl
def Bl:MS:=
 ay (aF (ao 1 lV (aa (ab 1) (ai))) (ah 3)) (ay (aF (dI (ai)) (ah 4)) (ay (iZ (eS (aa (ab 2) (ai))) (aK 2 (af (ah 5) (af (ah 6) (aC)))) (ay (bz (eG (dB (cQ (ao 2 ij (aa (ab 1) (aa (ab 6) (ai)))))) (dB (cQ (ao 2 jB (aa (ab 3) (aa (ab 6) (ai))))))) (ju) (aS)) (ay (aF (ao 3 pf (aa (ab 0) (aa (ab 3) (aa (ab 6) (ai))))) (aK 2 (af (ah 7) (af (ah 8) (aC))))) (ay (cV (da ce (ab 4) (aa (aO (aa (ab 3) (aa (ab 7) (aa (ab 8) (ai))))) (ai)))) (aF (ab 7) (ah 3)))))) (aX (ab 4))))
def HQ:ll=aP nI Bl 3:=iX rfl
def mP:MS:=
 aX (dA (ar kR (ar aw (ab 1) (mC (.int 0))) (aO (aa (mC (.str "down")) (aa (mC (.str "leave")) (ai))))) (ar kR (ar aw (ar aw (ab 0) (mC (.int 0))) (ar aw (ab 1) (mC (.int 1)))) (mC eh)))
def sI:dL=aP ft mP 2:=iX rfl
def FO:MS:=
 ay (aF (mC (.int 0)) (ah 3)) (ay (aF (dI (ai)) (ah 4)) (ay (jw (aa (ab 2) (aa (ao 3 ll (aa (ab 0) (aa (ab 1) (aa (ab 2) (ai))))) (ai))) (aK 2 (af (ah 5) (af (aK 3 (af (ah 6) (af (ah 7) (af (ah 8) (aC))))) (aC)))) (ay (bz (cQ (ao 2 dL (aa (ab 6) (aa (ab 5) (ai))))) (aF (ar IH (ab 3) (mC (.int 1))) (ah 3)) (aS)) (dO (ab 8) (aK 2 (af (ah 9) (af (ah 10) (aC)))) (bz (ax (ar bW (ab 9) (mC (.str "in")))) (cV (da ce (ab 4) (aa (aO (aa (ab 10) (aa (df kN (ar aw (ar aw (ab 7) (mC (.int 0))) (ab 10))) (aa (ab 3) (ai))))) (ai)))) (bz (ax (ar bW (ab 9) (mC (.str "steps")))) (cV (da ce (ab 4) (aa (aO (aa (ab 10) (aa (mC (.str "up")) (aa (ab 3) (ai))))) (ai)))) (aS)))))) (aX (ba (aJ (cr .tup)) (aa (ab 4) (ai))))))
def Lp:jd=aP qA FO 3:=iX rfl
def Bp:MS:=
 zf ca
def yP:gt=aP iG Bp 1:=iX rfl
def rM(cN:List D->ac->Option (D×ac)):MS:=
 lS cN
def yO(j:Nat):gB (j+1)=aP N__law_same (rM (gB j)) 2:=by
 unfold gB
 show aP N__law_same (gY (iq N__law_same cK (("_law_same",.fn 2 (Kz N__law_same cK gn [] "_law_same" 2 j))::gn) []) (aN cK)) 2=_
 generalize Kz N__law_same cK gn [] "_law_same" 2 j=F
 rw [show gY (iq N__law_same cK (("_law_same",.fn 2 F)::gn) []) (aN cK)=rM F from rfl]
def RK:MS:=
 ay (iZ (cB (aa (ar aR (mC (.int 1)) (ba (aJ Co) (aa (mC (.int 6)) (aa (ba (aJ eg) (aa (ab 0) (ai))) (ai))))) (ai))) (ah 1) (ay (aF (ao 2 gu (aa (ab 0) (aa (ab 1) (ai)))) (ah 2)) (ay (mz 3 4 (aa (ao 1 gt (aa (ab 2) (ai))) (aa (ar aR (mC (.int 1)) (ao 2 ca (aa (ab 2) (aa (mC (.int 5)) (ai))))) (ai)))) (ay (aF (ao 4 ik (aa (ab 2) (aa (ab 3) (aa (ab 4) (aa (ar aw (eQ (aa (mC (.int 0)) (aa (mC (.int 6)) (aa (mC (.int 25)) (aa (mC (.int 60)) (ai)))))) (ao 2 ca (aa (ab 2) (aa (mC (.int 4)) (ai))))) (ai)))))) (aK 2 (af (ah 5) (af (ah 6) (aC))))) (ay (aF (ao 3 dr (aa (ab 3) (aa (ab 4) (aa (ab 5) (ai))))) (ah 7)) (ay (aF (ao 2 ca (aa (ab 2) (aa (ar aR (ba (aJ eg) (aa (ab 5) (ai))) (mC (.int 1))) (ai)))) (ah 8)) (ay (aF (ao 3 jd (aa (ab 3) (aa (ab 4) (aa (bu (ab 5) (bw) (bR (ab 8))) (ai))))) (ah 9)) (ay (bz (eG (dB (cQ (ao 2 cN (aa (ao 3 jd (aa (ab 3) (aa (ab 4) (aa (ab 5) (ai))))) (aa (ab 7) (ai)))))) (dB (cQ (ao 2 cN (aa (ab 9) (aa (bu (ab 7) (bw) (bR (ba (aJ eg) (aa (ab 9) (ai))))) (ai))))))) (aX (mC (.bl false))) (aS)) (bz (eG (ax (ar gv (ba (aJ eg) (aa (ab 9) (ai))) (ba (aJ eg) (aa (ao 3 dr (aa (ab 3) (aa (ab 4) (aa (bu (ab 5) (bw) (bR (ab 8))) (ai))))) (ai))))) (ax (ar gv (ao 3 jd (aa (ab 3) (aa (ab 4) (aa (ab 5) (ai))))) (ab 7)))) (aX (mC (.bl false))) (aS)))))))))) (aX (mC (.bl true)))
def Uc:Ck=aP CL RK 1:=iX rfl
end K19
end
section
namespace K19
open MI L2
open M hiding mC ab ar ax cT cQ dc eG dB dA vE gF mD ai aa aO eQ dI CM bw bR bu ba dR ao aS ay aX cV bz ah aC af aK fM aF cB dC iZ bI db bY da eS mz jV mQ gZ eU dQ dO eR eO df iw jw
def ub:Fo ca:=λS r m h h0 h1=>by rw [yQ];exact Hu rfl h h0 h1
def left{S:ac}{ns:List Int}{k:Int}(h0:0<=k)(h1:k<=100000):∃ a b,gu [.rol (ns.map .int),.int k] S=U (.ref S.length,S++[.lst [.int a,.int b,.int 0]])/\0<=a/\0<=b/\b<2147483647:=by
 rw [yS]
 exact Ih (N:=iI) (cellAt:=fg) (far:=jD) rfl h0 h1 (λS k h=>by rw [sK];exact CB (N:=fz) rfl h) (λS=>by rw [Bh];exact Mu (N:=jR) rfl)
def RI(S:ac)(ws:List Wd)(i:Nat)(w:Wd)(h:i<ws.length)(hl:ws.length<=100):dU [cx ws,.int (i:Int),w.d] S=U (cx (ws.set i w),S):=by
 rw [Bg];exact OF (N:=jQ) rfl h hl
def seOk:Jz fP iz dU:=
 ⟨λS r es hl=>by rw [uv];exact EB (N:=fV) rfl hl,λS r ws wr=>by rw [yR];exact LL (N:=iH) rfl,RI⟩
def wL:oh cM:=λS r R h hl=>by
 rw [sJ];exact Aq seOk (N:=fv) rfl h hl
def doOk:Wk jE gN cM fO dU:=
 ⟨λS R dd hl hd=>by rw [Bi];exact Rg (N:=jS) rfl hl hd,
 λS r R wr g t h hl hw hs=>by rw [wj];exact Jx wL (N:=gX) rfl h hl hw hs,
 wL,λS r w es hl=>by rw [uu];exact DR (N:=fU) rfl hl,RI⟩
def rowOk:Sw iA cX:=
 ⟨λS r n P h1 h5=>by rw [yU];exact NE ub (N:=iK) rfl P h1 (by omega),
 λS rl R dd h hl hd=>by rw [yT];exact Ny doOk (N:=iJ) rfl h hl hd⟩
def row{S:ac}{r n m:Nat}{rl:Rl}(P:Pk S r)(h1:1<=n)(h5:n<=5)(hm:m<=400):∃ (l:List Dd) (R:Rm) (S':ac),ik [.ref r,rl.d,.int (n:Int),.int (m:Int)] S=U (.tup [.tup (l.map Dd.d),aQ R],S')/\Behind rl n l R/\l.length<=m/\Pk S' r/\Grow r S S':=by
 rw [Bf];exact OA rowOk (N:=jP) rfl P h1 h5 hm
def rule{S:ac}{r:Nat}(P:Pk S r):∃ (rl:Rl) (S':ac),gt [.ref r] S=U (rl.d,S')/\rl.Ok/\Pk S' r/\Keep r S S':=by
 rw [yP]
 obtain⟨x,a,b,c,S',e,R,P',K⟩:=Hr (pick:=ca) ub (N:=iG) rfl P
 obtain⟨w,rfl⟩:=Iv R.w
 exact⟨⟨w,a,b,c⟩,S',e,⟨R.a0,R.a5,R.b0,R.b9,R.c0,R.c1⟩,P',K⟩
def Qe:Of cm:=λS R l hl=>by rw [ur];exact UM (N:=fS) rfl hl
def tJ:rB cb:=λS R g hl=>by rw [uo];exact JR Qe (N:=jo) rfl hl
def zQ:om gI:=⟨λS r R g hl=>by rw [wW];exact Jl tJ (N:=lE) rfl hl,λS r ws hl=>by rw [wW];exact Jk (λS=>by rw [uo];exact JQ Qe (N:=jo) rfl hl) (N:=lE) rfl⟩
def TY(S:ac)(r:Rl)(R:Rm)(hl:R.1.length<=100)(hl2:R.2.length<=100):lq [r.d,aQ R] S=U (oo (rK r R),S):=by
 rw [DN]
 exact DF (λS r R hl=>by rw [yM];exact yI zQ (N:=iE) rfl hl) (λS w es hw hl=>by rw [Bd];exact zB (N:=jN) rfl hw hl) zQ (N:=lB) rfl hl hl2
def NQ(S:ac)(r:Rl)(R:Rm)(hl:R.1.length<=100)(hl2:R.2.length<=100):ls [r.d,aQ R] S=U (sQ (oM r R),S):=by
 rw [HU];exact EY Qe zQ TY (N:=nL) rfl hl hl2
def GT(S:ac)(R:Rm)(g:Nat)(w:Wd)(h:g<R.1.length)(hl:R.1.length<=100):bD [aQ R,.int (g:Int),w.d] S=U (aQ (R.1.set g w,R.2),S):=by
 rw [yL];exact xW (N:=iD) rfl h hl
def stOk:Wg gJ ls:=⟨NQ,λS r R v R' l h hl s=>by
 rw [wa]
 exact CF GT (λS r R i e h hi hl=>by rw [HS];exact Ig GT (N:=nK) rfl h hi hl) (N:=gR) rfl h hl s⟩
def KF{S:ac}{r:Rl}{R:Rm}(hb:0<=r.b)(h:ROk R)(hl:R.1.length<=50):cO [r.d,aQ R] S=U (.tup [aQ (aW r R).1,cU (aW r R).2],S++[.lst ((aW r R).2.map Ev.d)]):=by
 rw [DM];exact yr stOk hb (N:=lA) rfl h hl
def FC{S:ac}{d:D}(h:iL 8 d=true):cN [d,d] S=U (.bl true,S):=AC (R:=gB) (N:=N__law_same) rfl yO 8 d h
def Kn:GN cO:=λS r R hb h hl=>KF hb h hl
def woOk:We cC:=λS R g hl=>by rw [sH,show mO=Dr from rfl];exact SA (N:=fq) rfl hl
def Oz:Rx bq:=λS r R l hb h hl h4=>by rw [pM,show le=Dt cO from rfl];exact SW Kn (N:=dM) rfl hb h hl h4
def tuOk:TuOk gH:=λS r R g w hw hl=>by rw [HR,show Bm=Ds from rfl];exact SK (N:=nJ) rfl hw hl
def olOk(S:ac)(t:Option Int):ii [bJ t] S=U (bJ (t.map (· - 1)),S):=by rw [Bb,show uw=pE from rfl];exact LM (N:=jL) rfl
def deOk:DeOk cO cb cm bD:=⟨Kn,tJ,Qe,GT⟩
def brOk:BrOk gq jC gM fN gL gK:=
 ⟨λS r R wr g t hb h hl hw hs=>by rw [yN,show rL=yv cO cb cC from rfl];exact Rv Kn tJ woOk (N:=iF) rfl hb h hl hw hs,
 λS r R g hb h hl hw=>by rw [Be,show uy=yt cO cb cm bD from rfl];exact SD deOk (N:=jO) rfl hb h hl hw,
 λS r R g w hb h hl hw ho=>by rw [wf,show pQ=pF bq bD gH Wd.reads.s "down" from rfl];exact Ct Oz GT tuOk (N:=gU) rfl hb h hl hw ho (.inl rfl) rfl (by decide) rfl,
 λS r R g w hb h hl hw ho=>by rw [ut,show oD=pF bq bD gH Wd.out.s "out" from rfl];exact Ct Oz GT tuOk (N:=fT) rfl hb h hl hw ho (.inr rfl) rfl (by decide) rfl,
 λS r R g w hb h hl hw hc=>by rw [we,show pP=pD bq bD cC cb from rfl];exact Kf Oz GT woOk tJ (N:=gT) rfl hb h hl hw hc,
 λS r R hb h hl=>by rw [wc,show pO=tY bq ii from rfl];exact JY Oz olOk (N:=gS) rfl hb h hl⟩
def pdone{S:ac}{r:Rl}{R:Rm}{dd:Dd}{x:Rm×List Ev}(hb:0<=r.b)(h:ROk R)(hl:R.1.length<=50)(hd:dd.Ok R.1.length)(hx:fo r R dd=U x):∃ T,pf [r.d,aQ R,dd.d] S=U (iV x,S++T):=by
 rw [Py,show Ls=pG (brL gq jC gM fN gL gK) from rfl];exact HB brOk (N:=vC) rfl hb h hl hd hx
def tofOk:Su cW:=λS xs k=>by rw [uq,show oC=yu from rfl];exact On (N:=fR) rfl
def Sz:Od gp:=λS x ys h=>by rw [DP,show wX=tX from rfl];exact JN (N:=lC) rfl h
def betOk:Sy dq:=λS i lo hi=>by rw [vZ,show pN=sX jA from rfl];exact Rn (λS i=>by rw [Bc,show ux=qJ from rfl];exact GU (N:=jM) rfl) (N:=gQ) rfl
def UJ{S:ac}{n:Nat}{dd:Dd}(hd:dd.Ok n):ij [.int (n:Int),dd.d] S=U (.bl true,S):=by
 rw [DQ,show wY=mK cW gp dq from rfl];exact Jd tofOk Sz betOk (N:=lD) rfl hd
def canDo{S:ac}{R:Rm}{dd:Dd}(hl:R.1.length<=100)(hd:dd.Ok R.1.length)(hc:gP R dd=true):jB [aQ R,dd.d] S=U (.bl true,S):=by
 rw [HV,show Bo=pH cb from rfl]
 by_cases ht:dd=.tick
 ·subst ht;exact Fb (N:=lF) rfl
 ·rw [Jm tJ (N:=lF) rfl hl hd ht,hc]
def LO{S:ac}{r:Rl}{R:Rm}{dd:Dd}(h:ROk R)(hl:R.1.length<=50)(hd:dd.Ok R.1.length):∃ T,cX [r.d,aQ R,dd.d] S=U (qv (fo r R dd),S++T):=rowOk.dn S r R dd h hl hd
def Qz(S:ac)(n:Nat)(h5:n<=5):lV [.int (n:Int)] S=U (aQ (bX n),S):=by rw [Lq,show FP=qM from rfl];exact IT (N:=qB) rfl h5
def rnOk:Ry ij jB pf lV:=⟨λS n dd hd=>UJ hd,λS R dd hl hd hc=>canDo hl hd hc,λS r R dd x hb h hl hd hx=>pdone hb h hl hd hx,Qz⟩
def SC{S:ac}{r:Rl}{n:Nat}{l:List Dd}{xs:Rs}(hb:0<=r.b)(h5:n<=5)(w:Ws r (bX n) l xs)(hd:∀ d∈l,d.Ok n)(hl:l.length<=100):∃ S',ll [r.d,.int (n:Int),.tup (l.map Dd.d)] S=U (.ref S.length,S')/\S'[S.length]?=U (.lst ((JX (bX n) xs).map Fv))/\∀ i,i<S.length->S'[i]?=S[i]?:=by
 rw [HQ,show Bl=oR ij jB pf lV from rfl];exact CP rnOk hb (N:=nI) rfl h5 w hd (by omega)
def Vk:Ab dL:=λS R d hd=>by rw [sI,show mP=iu from rfl];exact Nj (N:=ft) rfl hd
def yz{S:ac}{r:Rl}{n:Nat}{l:List Dd}{xs:Rs}(hb:0<=r.b)(h5:n<=5)(w:Ws r (bX n) l xs)(hd:∀ d∈l,d.Ok n)(hl:l.length<=60):∃ S',jd [r.d,.int (n:Int),.tup (l.map Dd.d)] S=U (.tup ((wR 0 (bX n) l xs).map jZ),S')/\∀ i,i<S.length->S'[i]?=S[i]?:=by
 rw [Lp,show FO=qK ll dL from rfl]
 exact HD Vk (N:=qA) rfl h5 w hd (by omega) λS=>SC hb h5 w hd (by omega)
def PH(es:List En):List (bt×D):=es.map λe=>(.inl (e.g:Int),.str (be e.wr))
theorem AK:∀ es:List En,oU (es.map λe=>D.tup [.int (e.g:Int),.str (be e.wr)])=U (PH es)
 | []=>rfl
 | e::es=>by
  have ih:=AK es
  rw [Wx]
  show ((oU (es.map λe=>D.tup [.int (e.g:Int),.str (be e.wr)])).bind λz=>U ((Sum.inl (e.g:Int),D.str (be e.wr))::z))=_
  rw [ih];rfl
theorem JT{g:Nat}:∀ es:List En,fY (PH es) (.inl (g:Int))=(es.find? λe=>decide (e.g=g)).map λe=>.str (be e.wr)
 | []=>rfl
 | e::es=>by
  have ih:=JT (g:=g) es
  show fY ((Sum.inl (e.g:Int),D.str (be e.wr))::PH es) _=_
  rw [GX,Xh]
  by_cases h:e.g=g
  ·subst h;simp
  ·have h':¬ ((Sum.inl (e.g:Int):bt)=.inl (g:Int)):=λz=>h (by have:=aaA z;omega)
   rw [if_neg h',ih]
   simp [h]
def kv_nd{es:List En}(h:(es.map (·.g)).Nodup):((PH es).map (·.1)).Nodup:=by
 have e:(PH es).map (·.1)=(es.map (·.g)).map λg:Nat=>(Sum.inl (g:Int):bt):=by unfold PH;rw [Xn,Xn];rfl
 rw [e]
 exact List.pairwise_map.mpr (h.imp λhne z=>hne (by have:=aaA z;omega))
def JD(R:Rm):D:=.dct ((PH R.2).map (·.1)) ((PH R.2).map (·.2))
def wkC:ME:=bI (db (ab 8)) (ah 0) (bY) (bu (ab 0) (bw) (bR (mC (.int 2)))) [Y]
def Ie:MS:=ay (bz (ax (ar bW (ab 11) (mC (.str "in")))) (cV (da ce (ab 5) (aa (aO (aa (ab 12) (aa (dQ sj (ab 9) (aa (ab 12) (aa (ar aw (ab 6) (mC (.int 0))) (ai)))) (aa (ab 4) (ai))))) (ai)))) (aS)) (bz (ax (ar bW (ab 11) (mC (.str "steps")))) (cV (da ce (ab 5) (aa (aO (aa (ab 12) (aa (mC (.str "up")) (aa (ab 4) (ai))))) (ai)))) (aS))
def tgL:MG:=aK 2 (af (ah 11) (af (ah 12) (aC)))
def LK:MS:=bz (dc (ax (ar kR (ar aw (ab 6) (mC (.int 0))) (aO (aa (mC (.str "leave")) (aa (mC (.str "down")) (ai)))))) (ax (ar kR (ar aw (ab 7) (ar aw (ab 6) (mC (.int 1)))) (aO (aa (mC (.str "writes")) (aa (mC (.str "raised")) (ai))))))) (aF (ar aR (ab 4) (mC (.int 1))) (ah 4)) (aS)
def uJ:MS:=ay (aF (ab 3) (aK 2 (af (ah 7) (af (ah 8) (aC))))) (ay (aF (ba (aJ nu) (aa wkC (ai))) (ah 9)) (ay (aF (ao 3 cX (aa (ab 0) (aa (ab 3) (aa (ab 6) (ai))))) (aK 2 (af (ah 3) (af (ah 10) (aC))))) (ay LK (dO (ab 10) tgL Ie))))
def RO:MS:=ay (aF (aO (aa (ar cz (aO (aa (mC (.str "out")) (ai))) (ab 1)) (aa (aO (ai)) (ai)))) (ah 3)) (ay (aF (mC (.int 0)) (ah 4)) (ay (aF (dI (ai)) (ah 5)) (ay (dO (ab 2) (ah 6) uJ) (aX (ba (aJ (cr .tup)) (aa (ab 5) (ai)))))))
def PD{S:ac}{q:Nat}{R:Rm}{d:Dd}{k:Nat}{zs:List Pg}{a0 a1 a2 a3 a7 a8 a10:Option D}(e:Ev)(hq:S[q]?=U (.lst (zs.map jZ)))(hz:zs.length<999) :
  ∃ S',Ie [a0,a1,a2,a3,U (.int (k:Int)),U (.ref q),U d.d,a7,a8,U (JD R),a10,U (.str e.w),U (.int (e.g:Int))] S=U (.nx [a0,a1,a2,a3,U (.int (k:Int)),U (.ref q),U d.d,a7,a8,U (JD R),a10,U (.str e.w),U (.int (e.g:Int))] S')/\S'[q]?=U (.lst ((zs++JC R d k e).map jZ))/\S'.length=S.length/\Ko q S S':=by
 have k3:∀ u v w:D,cy ([u,v,w],S)=U (.tup [u,v,w],S):=λu v w=>aY (by simp)
 have km:=λms env=>pZ (f:=ce) (ms:=ms) (env:=env) hq
 have ap:=λy=>lx (y:=y) hq (by rw [Ww];omega)
 have hlt:=(Wo.mp hq).1
 have e1:∀ S,bW S (.str e.w) (.str "in")=U (.bl (e.w == vF)):=λS=>cD
 have e2:∀ S,bW S (.str e.w) (.str "steps")=U (.bl (e.w == oP)):=λS=>cD
 have st:∀ p:Pg,(S.set q (.lst (zs.map jZ++[jZ p])))[q]?=U (.lst ((zs++[p]).map jZ)):=λp=>by rw [WV hlt,Xt];rfl
 have ko:∀ c:Cell,Ko q S (S.set q c):=λc i hi=>WO (Ne.symm hi)
 simp only [Ie,aT,bi,aG,aE,ak,bf,bG,bP,bO,oj,ob,aj,av,au,e1,aD]
 unfold JC
 cases h1:(e.w == vF) with
 | true=>
  have h2:(e.w == oP)=false:=by rw [beq_iff_eq] at h1;rw [h1];exact(show (vF == oP)=false by decide +kernel)
  have gd:sj (JD R) [.int (e.g:Int),.str (dg d)] S=U (.str (kS R d e.g),S):=by
   unfold JD;rw [Qt (k:=.inl (e.g:Int)) rfl,JT];unfold kS
   cases R.2.find? λx=>decide (x.g=e.g) <;> rfl
  have kd:∀ ms env,qW sj ms env (JD R,S)=(ms env S).bind (eI sj (JD R)):=λms env=>LV
  refine⟨_,?_,st (e.g,kS R d e.g,k),by simp,ko _⟩
  simp only [bK,io,im,ak,bG,bP,bO,oj,ob,aj,km,aq,bg,am,BA,kd,aE,av,bf,au,Ra,aA,al,dJ,gd,k3,ap,ip,aH,bi,aG,e2,h2,aD,bE,bv]
  rfl
 | false=>
  simp only [bE,bv,aH,bi,aG,aE,ak,bf,bG,bP,bO,oj,ob,aj,av,au,e2,aD]
  cases h2:(e.w == oP) with
  | true=>
   refine⟨_,?_,st (e.g,"up",k),by simp,ko _⟩
   simp only [bK,io,im,ak,bG,bP,bO,oj,ob,aj,km,aq,bg,am,bf,aA,al,k3,dJ,ap,ip]
   rfl
  | false=>
   refine⟨S,?_,?_,rfl,λ_ _=>rfl⟩
   ·simp only [bE,bv]
   ·simp only [WZ,XW,WS];exact hq
theorem BK{q:Nat}{R:Rm}{d:Dd}{k:Nat}{a0 a1 a2 a3 a7 a8 a10:Option D}:∀ (es:List Ev) (S:ac) (zs:List Pg) (a11 a12:Option D),S[q]?=U (.lst (zs.map jZ))->zs.length+es.length<999 ->
  ∃ b11 b12 S',cn tgL Ie (es.map Ev.d) [a0,a1,a2,a3,U (.int (k:Int)),U (.ref q),U d.d,a7,a8,U (JD R),a10,a11,a12] S=U (.nx [a0,a1,a2,a3,U (.int (k:Int)),U (.ref q),U d.d,a7,a8,U (JD R),a10,b11,b12] S')/\S'[q]?=U (.lst ((zs++es.flatMap (JC R d k)).map jZ))/\S'.length=S.length/\Ko q S S'
 | [],S,zs,a11,a12,hq,_=>⟨a11,a12,S,nR,by rw [List.flatMap_nil,WS];exact hq,rfl,λ_ _=>rfl⟩
 | e::es,S,zs,a11,a12,hq,hz=>by
  rw [WG] at hz
  obtain⟨S1,e1,q1,L1,K1⟩:=PD (d:=d) (R:=R) (k:=k) (a0:=a0) (a1:=a1) (a2:=a2) (a3:=a3) (a7:=a7) (a8:=a8) (a10:=a10) e hq (by omega)
  have l1:=yw (R:=R) (d:=d) (k:=k) (e:=e)
  obtain⟨b9,b10,S2,e2,q2,L2,K2⟩:=BK (R:=R) (d:=d) (k:=k) (a0:=a0) (a1:=a1) (a2:=a2) (a3:=a3) (a7:=a7) (a8:=a8) (a10:=a10) es S1 _ (U (.str e.w)) (U (.int (e.g:Int))) q1 (by rw [WB];omega)
  refine⟨b9,b10,S2,?_,by rw [q2,Zu,WR],L2.trans L1,λi hi=>(K2 i hi).trans (K1 i hi)⟩
  rw [Wx,dw,show Ev.d e=.tup [.str e.w,.int (e.g:Int)] from rfl,tgL,bS]
  simp only [bp,aU,ob,eN,eV,cI,bH,kJ,e1,jc]
  exact e2
def LJ{S:ac}{R:Rm}{d:Dd}{k:Nat}{a0 a1 a2 a3 a5 a8 a9 a10 a11 a12:Option D}(hd:d.Ok R.1.length):LK [a0,a1,a2,a3,U (.int (k:Int)),a5,U d.d,U (cx R.1),a8,a9,a10,a11,a12] S=U (.nx [a0,a1,a2,a3,U (.int (vY R d k:Int)),a5,U d.d,U (cx R.1),a8,a9,a10,a11,a12] S):=by
 have k2:∀ u v:D,cy ([u,v],S)=U (.tup [u,v],S):=λu v=>aY (by simp)
 have di:=Vt (S:=S) (d:=d) (a:="leave") (b:="down") (.inr ⟨rfl,rfl⟩)
 have ag:aR S (.int (k:Int)) (.int 1)=U (.int ((k+1:Nat):Int)):=by show U (D.int ((k:Int)+1))=_;rw [Int.natCast_add];rfl
 simp only [LK,bi,nT,aG,aE,ak,bf,bG,bP,bO,oj,ob,aj,av,au,Ra,bg,aq,am,aA,al,k2,di,aD]
 have yes:∀ (a:Ak) (g:Nat),d=.act a g->Qc d=true->qt R d=Oi R g->PR (aF (ar aR (ab 4) (mC (.int 1))) (ah 4)) (aS) [a0,a1,a2,a3,U (.int (k:Int)),a5,U d.d,U (cx R.1),a8,a9,a10,a11,a12] (Oi R g,S)=U (.nx [a0,a1,a2,a3,U (.int (vY R d k:Int)),a5,U d.d,U (cx R.1),a8,a9,a10,a11,a12] S):=λa g hg h1 h2=>by
  unfold vY
  rw [h2]
  cases Oi R g with
  | true=>simp only [bK,bn,aE,ak,bf,bG,bP,bO,oj,ob,aj,av,au,ag,bo,aU,eN,eV,bL,YN]
  | false=>simp only [bE,bv,WZ,XW]
 cases hi:Qc d with
 | false=>
  have he:qt R d=false:=by
   cases d with
   | act k g=>cases k <;> first | rfl | cases hi
   | _=>rfl
  simp only [zw,ob,bE,bv]
  unfold vY;rw [he,if_neg Bool.false_ne_true]
 | true=>
  have:∃ a g,d=.act a g/\qt R d=Oi R g:=by
   cases d with
   | act k g=>cases k <;> first | exact⟨_,_,rfl,rfl⟩ | cases hi
   | _=>cases hi
  obtain⟨a,g,rfl,he⟩:=this
  obtain⟨w1,w2⟩:=JM (S:=S) (R:=R) (g:=g) hd
  have d1:aw S (Dd.act a g).d (.int 1)=U (.int (g:Int)):=rfl
  simp only [nV,aG,aE,ak,bf,bG,bP,bO,oj,ob,aj,av,au,d1,w1,bg,aq,am,aA,al,k2,w2,aD]
  exact yes a g rfl hi he
def wk_ok{S:ac}{R:Rm}{env:bj}(h:ROk R)(h5:R.1.length<=5)(hv:ab 8 env S=U (cf R.2,S)):ba (aJ nu) (aa wkC (ai)) env S=U (JD R,S):=by
 have hle:=h.len
 have s2:∀ e:En,iP e.d Y (U 2,S)=U (.tup [.int (e.g:Int),.str (be e.wr)],S):=λe=>rfl
 have kc:=eW (S:=S) (t:=bY) (e:=bu (ab 0) (bw) (bR (mC (.int 2)))) (cap:=[Y]) (env:=env) (rest:=[]) (a:=Y) (enc:=En.d) (p:=λ_=>true) (f:=λe=>.tup [.int (e.g:Int),.str (be e.wr)]) (xs:=R.2) rfl (by omega) (λ_ _=>kh) (λe _ _=>by
   simp only [cH,ak,bG,oj,ob,aj,eZ,cL,eY,dj,bf,dm,s2])
 rw [XD.mpr (λ_ _=>rfl)] at kc
 have dl:aJ nu [.lst (R.2.map λe=>.tup [.int (e.g:Int),.str (be e.wr)])] S=U (JD R,S):=by
  show ((oU (R.2.map λe=>D.tup [.int (e.g:Int),.str (be e.wr)])).bind _).bind _=_
  rw [AK,ob,WI (by unfold PH;rw [Ww];omega),nP (kv_nd h.nd)]
  rfl
 simp only [bT,aq,wkC,bZ,du,hv,ob,dX,kc,am,aA,al,bU,dl]
def Ib{S:ac}{q n:Nat}{r:Rl}{R:Rm}{d:Dd}{x:Rm×List Ev}{k:Nat}{zs:List Pg}{a1 a2 a7 a8 a9 a10 a11 a12:Option D}(h:ROk R)(hn:R.1.length=n)(h5:n<=5)(hd:d.Ok n)(hx:fo r R d=U x)(hq:S[q]?=U (.lst (zs.map jZ)))(hz:zs.length<980) :
  ∃ b7 b8 b9 b10 b11 b12 S',uJ [U r.d,a1,a2,U (aQ R),U (.int (k:Int)),U (.ref q),U d.d,a7,a8,a9,a10,a11,a12] S=U (.nx [U r.d,a1,a2,U (aQ x.1),U (.int (vY R d k:Int)),U (.ref q),U d.d,b7,b8,b9,b10,b11,b12] S')/\S'[q]?=U (.lst ((zs++x.2.flatMap (JC R d (vY R d k))).map jZ))/\Kp q S S'/\S.length<=S'.length:=by
 subst hn
 obtain⟨T,e2⟩:=LO (S:=S) (r:=r) (R:=R) (dd:=d) h (by omega) hd
 rw [hx] at e2
 have e2':cX [r.d,aQ R,d.d] S=U (.tup [aQ x.1,cU x.2],S++T):=e2
 have few:=jn h h5 hx
 have cq:(S++T)[q]?=U (.lst (zs.map jZ)):=by rw [WE (Wo.mp hq).1];exact hq
 obtain⟨b11,b12,S',e,hq',L,K⟩:=BK (R:=R) (d:=d) (k:=vY R d k) (a0:=U r.d) (a1:=a1) (a2:=a2) (a3:=U (aQ x.1)) (a7:=U (cx R.1)) (a8:=U (cf R.2)) (a10:=U (cU x.2)) x.2 (S++T) zs a11 a12 cq (by omega)
 have g2:∀ (u v:D) env S,aK 2 (af (ah 7) (af (ah 8) (aC))) (.tup [u,v]) env S=(af (ah 7) (af (ah 8) (aC))) [u,v] env S:=λu v env S=>bS
 have g3:∀ (u v:D) env S,aK 2 (af (ah 3) (af (ah 10) (aC))) (.tup [u,v]) env S=(af (ah 3) (af (ah 10) (aC))) [u,v] env S:=λu v env S=>bS
 have gr:∀ env S,aK 2 (af (ah 7) (af (ah 8) (aC))) (aQ R) env S=(af (ah 7) (af (ah 8) (aC))) [cx R.1,cf R.2] env S:=λenv S=>bS
 have wk:∀ a3 a9 a10 a11 a12,ba (aJ nu) (aa wkC (ai)) [U r.d,a1,a2,a3,U (.int (k:Int)),U (.ref q),U d.d,U (cx R.1),U (cf R.2),a9,a10,a11,a12] S=U (JD R,S):=λa3 a9 a10 a11 a12=>wk_ok h h5 (by simp only [ak,bG,bP,bO,oj,ob,aj])
 have kf:∀ env S,mT tgL Ie env (cU x.2,S)=cn tgL Ie (x.2.map Ev.d) env S:=λenv S=>zn
 refine⟨U (cx R.1),U (cf R.2),U (JD R),U (cU x.2),b11,b12,S',?_,hq',λi hi hl=>⟨(K i hi).trans (WE hl),?_⟩,?_⟩
 ·simp only [uJ,aT,bn,ak,bG,bP,bO,oj,ob,aj,bo,gr,bp,aU,eN,eV,cI,bH,bL,aH,wk,aM,aq,am,aA,al,bM,e2',g3,LJ hd,lP,kf,e]
 ·rw [L,WB];omega
 ·rw [L,WB];omega
def Ic{q n:Nat}{r:Rl}{a1 a2:Option D}(h5:n<=5){R:Rm}{l:List Dd}{xs:Rs}(w:Ws r R l xs):∀ (k:Nat) (S:ac) (zs:List Pg) (a6 a7 a8 a9 a10 a11 a12:Option D),ROk R->R.1.length=n->(∀ d∈l,d.Ok n)->S[q]?=U (.lst (zs.map jZ))->zs.length+15 * l.length<980 ->
  ∃ b3 b4 b6 b7 b8 b9 b10 b11 b12 S',cn (ah 6) uJ (l.map Dd.d) [U r.d,a1,a2,U (aQ R),U (.int (k:Int)),U (.ref q),a6,a7,a8,a9,a10,a11,a12] S=U (.nx [U r.d,a1,a2,b3,b4,U (.ref q),b6,b7,b8,b9,b10,b11,b12] S')/\S'[q]?=U (.lst ((zs++wR k R l xs).map jZ))/\Kp q S S':=by
 induction w with
 | nil=>
  intro k S zs a6 a7 a8 a9 a10 a11 a12 h hn hd hq hz
  exact⟨_,_,a6,a7,a8,a9,a10,a11,a12,S,nR,by rw [show wR k _ [] []=[] from rfl,WS];exact hq,λi _ h=>⟨rfl,h⟩⟩
 | @cons R d x l xs hx t ih=>
  intro k S zs a6 a7 a8 a9 a10 a11 a12 h hn hd hq hz
  rw [WG] at hz
  obtain⟨b7,b8,b9,b10,b11,b12,S1,e1,q1,P1,_⟩:=Ib (k:=k) (a1:=a1) (a2:=a2) (a7:=a7) (a8:=a8) (a9:=a9) (a10:=a10) (a11:=a11) (a12:=a12) h hn h5 (hd d Wr) hx hq (by omega)
  obtain⟨h',hl'⟩:=fQ h hx
  have few:=jn h (by omega) hx
  have pl:=sY (R:=R) (d:=d) (k:=vY R d k) x.2
  obtain⟨c3,c4,c6,c7,c8,c9,c10,c11,c12,S2,e2,q2,P2⟩:=ih (vY R d k) S1 _ (U d.d) b7 b8 b9 b10 b11 b12 h' (hl'.trans hn) (λd' z=>hd d' (Wu _ z)) q1 (by rw [WB];omega)
  refine⟨c3,c4,c6,c7,c8,c9,c10,c11,c12,S2,?_,by rw [q2,wR,WR],P1.trans P2⟩
  rw [Wx,dw]
  simp only [aU,ob,eN,eV,kJ,e1,jc,e2]
def RP{S:ac}{n:Nat}{r:Rl}{l:List Dd}{xs:Rs}(h5:n<=5)(w:Ws r (bX n) l xs)(hd:∀ d∈l,d.Ok n)(hl:l.length<=60):∃ S',dr [r.d,.int (n:Int),.tup (l.map Dd.d)] S=U (.tup ((wR 0 (bX n) l xs).map jZ),S')/\∀ i,i<S.length->S'[i]?=S[i]?:=by
 rw [wg,show pR=RO from rfl,bd (show [r.d,D.int (n:Int),D.tup (l.map Dd.d)].length=3 from rfl),show aB gW [r.d,D.int (n:Int),D.tup (l.map Dd.d)]=[U r.d,U (.int (n:Int)),U (.tup (l.map Dd.d)),Y,Y,Y,Y,Y,Y,Y,Y,Y,Y] from rfl]
 have e0:=Nk (S:=S) (n:=n) (i:=1) (env:=[U r.d,U (.int (n:Int)),U (.tup (l.map Dd.d)),Y,Y,Y,Y,Y,Y,Y,Y,Y,Y]) h5 (by simp only [ak,bG,bP,bO,oj,ob,aj])
 have kl:qa ([],S)=U (.ref S.length,S++[.lst []]):=jx (by simp)
 obtain⟨b3,b4,b6,b7,b8,b9,b10,b11,b12,S',e,hq,P⟩:=Ic (q:=S.length) (a1:=U (.int (n:Int))) (a2:=U (.tup (l.map Dd.d))) h5 w 0 (S++[.lst []]) [] Y Y Y Y Y Y Y jm (by simp [bX]) hd ir (by simp;omega)
 rw [YA] at hq
 have sq:aJ (cr .tup) [.ref S.length] S'=U (.tup ((wR 0 (bX n) l xs).map jZ),S'):=nX hq
 have e':cn (ah 6) uJ (l.map Dd.d) [U r.d,U (.int (n:Int)),U (.tup (l.map Dd.d)),U (aQ (bX n)),U (.int 0),U (.ref S.length),Y,Y,Y,Y,Y,Y,Y] (S++[.lst []])=_:=e
 refine⟨S',?_,λi h=>(P i (by omega) (by rw [WB];omega)).1.trans (WE h)⟩
 simp only [RO,aT,bn,e0,ob,bo,aU,eN,eV,bL,aH,bf,nQ,aA,kl,lP,ak,bG,bP,bO,oj,aj,zn,e',aZ,bT,aq,am,al,bU,sq,bx,aI]
def Pk_k{S S':ac}{p:Nat}(P:Pk S p)(h:∀ i,i<S.length->S'[i]?=S[i]?):Pk S' p:=by
 have hl:=P.lt
 obtain⟨a,b,d,e,z⟩:=P
 exact⟨a,b,d,by rw [h p hl];exact e,z⟩
def RJ:ME:=ar aw (eQ (aa (mC (.int 0)) (aa (mC (.int 6)) (aa (mC (.int 25)) (aa (mC (.int 60)) (ai)))))) (ao 2 ca (aa (ab 2) (aa (mC (.int 4)) (ai))))
def SR:ME:=bu (ab 5) (bw) (bR (ab 8))
def Tl:ME:=ao 3 jd (aa (ab 3) (aa (ab 4) (aa (ab 5) (ai))))
def RN:MS:=bz (eG (dB (cQ (ao 2 cN (aa Tl (aa (ab 7) (ai)))))) (dB (cQ (ao 2 cN (aa (ab 9) (aa (bu (ab 7) (bw) (bR (ba (aJ eg) (aa (ab 9) (ai))))) (ai))))))) (aX (mC (.bl false))) (aS)
def RM:MS:=bz (eG (ax (ar gv (ba (aJ eg) (aa (ab 9) (ai))) (ba (aJ eg) (aa (ao 3 dr (aa (ab 3) (aa (ab 4) (aa SR (ai))))) (ai))))) (ax (ar gv Tl (ab 7)))) (aX (mC (.bl false))) (aS)
def turn:MS:=ay (aF (ao 2 gu (aa (ab 0) (aa (ab 1) (ai)))) (ah 2)) (ay (mz 3 4 (aa (ao 1 gt (aa (ab 2) (ai))) (aa (ar aR (mC (.int 1)) (ao 2 ca (aa (ab 2) (aa (mC (.int 5)) (ai))))) (ai)))) (ay (aF (ao 4 ik (aa (ab 2) (aa (ab 3) (aa (ab 4) (aa RJ (ai)))))) (aK 2 (af (ah 5) (af (ah 6) (aC))))) (ay (aF (ao 3 dr (aa (ab 3) (aa (ab 4) (aa (ab 5) (ai))))) (ah 7)) (ay (aF (ao 2 ca (aa (ab 2) (aa (ar aR (ba (aJ eg) (aa (ab 5) (ai))) (mC (.int 1))) (ai)))) (ah 8)) (ay (aF (ao 3 jd (aa (ab 3) (aa (ab 4) (aa SR (ai))))) (ah 9)) (ay RN RM))))))
def Rr{q:Int}(h0:0<=q)(h1:q<4):∃ k:Nat,mE [D.int 0,D.int 6,D.int 25,D.int 60] q=U (.int (k:Int))/\k<=60:=by
 have:q=0\/q=1\/q=2\/q=3:=by omega
 rcases this with rfl | rfl | rfl | rfl
 ·exact⟨0,rfl,by decide⟩
 ·exact⟨6,rfl,by decide⟩
 ·exact⟨25,rfl,by decide⟩
 ·exact⟨60,rfl,by decide⟩
def FB{l:List Pg}(hl:l.length<=1000):iL 8 (.tup (l.map jZ))=true:=by
 show (decide ((l.map jZ).length<=1000)&&_)=true
 rw [WA (by rw [Ww];omega),YS,WJ]
 intro d hd
 obtain⟨b,_,rfl⟩:=WP.mp hd
 rfl
def ok_pg{l:List Pg}:cP 40 (.tup (l.map jZ))=true:=by
 show ((l.map jZ).all (cP 39))=true
 rw [WJ]
 intro d hd
 obtain⟨b,_,rfl⟩:=WP.mp hd
 rfl
def Om{S:ac}{ns:List Int}{k:Int}{a2 a3 a4 a5 a6 a7 a8 a9:Option D}(h0:0<=k)(h1:k<=100000) :
  ∃ b2 b3 b4 b5 b6 b7 b8 b9 S',turn [U (.rol (ns.map .int)),U (.int k),a2,a3,a4,a5,a6,a7,a8,a9] S=U (.nx [U (.rol (ns.map .int)),U (.int k),b2,b3,b4,b5,b6,b7,b8,b9] S'):=by
 obtain⟨p,q,e1,p0,q0,q1⟩:=left (S:=S) (ns:=ns) h0 h1
 have P1:=Wi (S:=S) (c:=0) p0 q0 q1
 obtain⟨r,S2,e2,Rk,P2,K2⟩:=rule P1
 obtain⟨m,S3,e3,m0,m5,P3,K3⟩:=ub _ _ 5 P2 (by decide) (by decide)
 obtain⟨n,hn⟩:∃ n:Nat,1+m=(n:Int):=⟨(1+m).toNat,by omega⟩
 obtain⟨j,S4,e4,j0,j4,P4,K4⟩:=ub _ _ 4 P3 (by decide) (by decide)
 obtain⟨c,ec,hc⟩:=Rr j0 j4
 have k4:∀ S,oq ([D.int 0,D.int 6,D.int 25,D.int 60],S)=U (.lst [D.int 0,D.int 6,D.int 25,D.int 60],S):=λS=>eK (by simp)
 have xl:∀ S,aw S (.lst [D.int 0,D.int 6,D.int 25,D.int 60]) (.int j)=U (.int (c:Int)):=λS=>by rw [fIx_l];exact ec
 obtain⟨l,R,S5,e5,B,hlen,P5,G5⟩:=row (rl:=r) (n:=n) (m:=c) P4 (by omega) (by omega) (by omega)
 obtain⟨⟨xs,w,hR⟩,hd⟩:=B.ws
 obtain⟨S6,e6,K6⟩:=RP (S:=S5) (by omega) w hd (by omega)
 obtain⟨i,S7,e7,i0,i1,P7,K7⟩:=ub _ _ ((l.length:Int)+1) (Pk_k P5 K6) (by omega) (by omega)
 obtain⟨d,hi⟩:∃ d:Nat,i=(d:Int):=⟨i.toNat,by omega⟩
 subst hi
 have w':=w.take d
 have hd':∀ x∈l.take d,x.Ok n:=λx z=>hd x (Xs z)
 have hl':(l.take d).length<=60:=WT (by rw [Yb];omega) (show l.length<=60 by omega)
 obtain⟨S8,e8,_⟩:=yz (S:=S7) Rk.b0 (by omega) w' hd' hl'
 obtain⟨S9,e9,_⟩:=yz (S:=S8) Rk.b0 (by omega) w hd (by omega)
 obtain⟨S10,e10,_⟩:=RP (S:=S9) (by omega) w' hd' hl'
 obtain⟨S11,e11,_⟩:=yz (S:=S10) Rk.b0 (by omega) w hd (by omega)
 have L1:=FE w jm (by simp [bX];omega) 0
 have L2:=FE w' jm (by simp [bX];omega) 0
 obtain⟨t,et⟩:=KO w 0 d
 generalize hA:wR 0 (bX n) l xs=A at *
 generalize hB:wR 0 (bX n) (l.take d) (xs.take d)=B' at *
 have sl:∀ S,iP (.tup (l.map Dd.d)) Y (U (d:Int),S)=U (.tup ((l.take d).map Dd.d),S):=λS=>by rw [kI,js,Yj]
 have sl2:∀ S,iP (.tup (A.map jZ)) Y (U (B'.length:Int),S)=U (.tup (B'.map jZ),S):=λS=>by rw [kI,js,<- Yj,et,List.take_left]
 have g2:∀ (u v:D) env S,aK 2 (af (ah 5) (af (ah 6) (aC))) (.tup [u,v]) env S=(af (ah 5) (af (ah 6) (aC))) [u,v] env S:=λu v env S=>bS
 have fl:∀ S,aJ eg [.tup (l.map Dd.d)] S=U (.int (l.length:Nat),S):=λS=>by rw [vj,Ww]
 have fb:∀ S,aJ eg [.tup (B'.map jZ)] S=U (.int (B'.length:Nat),S):=λS=>by rw [vj,Ww]
 have sA:∀ S,cN [.tup (A.map jZ),.tup (A.map jZ)] S=U (.bl true,S):=λS=>FC (FB (by omega))
 have sB:∀ S,cN [.tup (B'.map jZ),.tup (B'.map jZ)] S=U (.bl true,S):=λS=>FC (FB (by omega))
 have n1:∀ S,gv S (.int (B'.length:Nat)) (.int (B'.length:Nat))=U (.bl false):=λS=>Cm rfl
 have n2:∀ S,gv S (.tup (A.map jZ)) (.tup (A.map jZ))=U (.bl false):=λS=>Cm ok_pg
 refine⟨U (.ref S.length),U r.d,U (.int (n:Int)),U (.tup (l.map Dd.d)),U (aQ R),U (.tup (A.map jZ)),U (.int (d:Int)),U (.tup (B'.map jZ)),S11,?_⟩
 simp only [turn,aT,bn,aM,aq,ak,bG,bP,bO,oj,ob,aj,am,aA,al,bh,e1,bo,aU,eN,eV,bL,aH,Ud,uO,e2,aE,bf,av,e3,au,kM,hn,Uz,RJ,jv,k4,e4,xl,Mb,e5,g2,bp,cI,bH,bM,e6,bT,bU,fl,e7,SR,cH,eZ,cL,eY,dj,dm,sl,e8,RN,bi,iN,iY,dP,Tl,e9,sA,eX,jb,Xa,lT,fb,sl2,sB,bE,bv,RM,aG,e10,n1,aD,e11,n2]
def LN:∀ ns:List Int,ns.length<=63->∃ S',Ck [.rol (ns.map .int)] []=U (.bl true,S'):=λns hl=>by
 rw [Uc,bd (show [D.rol (ns.map .int)].length=1 from rfl),show aB CL [D.rol (ns.map .int)]=[U (.rol (ns.map .int)),Y,Y,Y,Y,Y,Y,Y,Y,Y] from rfl]
 have hm:RK=ay (iZ (cB (aa (ar aR (mC (.int 1)) (ba (aJ Co) (aa (mC (.int 6)) (aa (ba (aJ eg) (aa (ab 0) (ai))) (ai))))) (ai))) (ah 1) turn) (aX (mC (.bl true))):=rfl
 rw [hm]
 generalize hk:1+(if (ns.length:Int)<6 then (ns.length:Int) else 6)=k
 have hk':0<=k/\k<=26:=by rw [<- hk];split <;> omega
 have k1:RR ([.int k],[])=U (cJ 0 k.toNat,[]):=qV (by omega) (by omega)
 obtain⟨env',S',e,a1,a2,a3,a4,a5,a6,a7,a8,a9,rfl⟩:=Cf (tg:=ah 1) (p:=turn) (λenv _=>∃ a1 a2 a3 a4 a5 a6 a7 a8 a9,env=[U (.rol (ns.map .int)),a1,a2,a3,a4,a5,a6,a7,a8,a9]) (cJ 0 k.toNat) (λd hd env S hI=>by
  obtain⟨a1,a2,a3,a4,a5,a6,a7,a8,a9,rfl⟩:=hI
  obtain⟨i,hi,rfl⟩:=DL hd
  obtain⟨b2,b3,b4,b5,b6,b7,b8,b9,S2,e⟩:=Om (S:=S) (ns:=ns) (k:=0+(i:Int)) (a2:=a2) (a3:=a3) (a4:=a4) (a5:=a5) (a6:=a6) (a7:=a7) (a8:=a8) (a9:=a9) (by omega) (by omega)
  exact⟨_,_,_,_,aU,e,_,_,_,_,_,_,_,_,_,rfl⟩) [U (.rol (ns.map .int)),Y,Y,Y,Y,Y,Y,Y,Y,Y] [] ⟨_,_,_,_,_,_,_,_,_,rfl⟩
 refine⟨S',?_⟩
 simp only [aT,uF,jk,aq,aE,bf,ob,av,bT,am,ak,bG,oj,aj,aA,al,bU,Va,Qo,au,kM,Ww,hk,k1,uM,e,aH,aZ,bx,aI]
end K19
end
namespace PySem.W.Fast
def tw1099375900341343234:=0
def tw11454577756761677232:=0
def tw12435956934511739362:=0
def tw12679899601094413802:=0
def tw14446122781070543869:=0
def tw3329067064222927662:=0
def tw3879219507456047739:=0
def tw715279469486589193:=0
def tw5177458461308144684:=0
def tw18341950157410687694:=0
def tw10127192816383491199:=0
def tw286968066943743949:=0
def tw15509208890495302665:=0
def tw7775127822419469012:=0
def tw10627453139324995154:=0
def tw12249727435942427714:=0
def tw11154623144171551708:=0
def tw11551893166906242105:=0
def tw3492617124946395137:=0
def tw7395830993894838849:=0
def tw6309915812265248393:=0
def tw1739867418674084204:=0
def tw15313916125442628864:=0
def tw11273729218141787776:=0
def tw15202949131680491044:=0
def tw5669905342418082367:=0
def tw3349167429073607570:=0
def tw14412299134394486927:=0
def tw17553613086878558846:=0
def tw4293209976954238848:=0
def tw971370209437995330:=0
def tw13400046372361655480:=0
def tw14985963825069027452:=0
def tw9942712619732069871:=0
def tw14287863195990609272:=0
def tw16177053476617209409:=0
def tw8025065724920386610:=0
def tw11565874798511433510:=0
def tw4381468572098795590:=0
def tw3779399025401238953:=0
def tw6784270215665222109:=0
def tw3232653363109457584:=0
def tw17092242937766523878:=0
def tw15406760498419302267:=0
def tw5652001085293243885:=0
def tw15838719955146728433:=0
def tw5026220941369604182:=0
def tw10423470248306671863:=0
def tw9401549182644004006:=0
def tw9171159387479779952:=0
def tw12287905303235204842:=0
def tw7913751249525891509:=0
def tw5952510110465628104:=0
def tw18311039294369232760:=0
def tw10066978309957937111:=0
def tw6456504237285778248:=0
def tw7532791299928615027:=0
def tw5631006287226085465:=0
def tw2965712951172227425:=0
def tw334520442138067259:=0
def tw11968441358920771104:=0
def tw138819481572526593:=0
def tw13142851175021829532:=0
def tw11814828634784155881:=0
def tw3710224495650043079:=0
def tw531461353086860278:=0
def tw8797767728675300830:=0
def tw6420030593896641747:=0
def tw13085022720403406312:=0
def tw13403402603150080360:=0
def tw13765544565801478048:=0
def tw5875460118889543746:=0
def tw4898029898258814336:=0
def tw1962339675826120065:=0
def tw9077509163968061111:=0
def tw5500926983459163518:=0
def tw3815653908879694500:=0
def tw7631675168811177881:=0
def tw4123716699417118946:=0
def tw17625523105437910246:=0
def tw468938686998368898:=0
def tw3054653438785619547:=0
def tw18400640903167295368:=0
def tw17592047040943760080:=0
end PySem.W.Fast
def PySem.W.Fast.tw10690637164359629817:PySem.Program:=PySem.Challenge.pw_manyreaders_k19_pages_numbered
def PySem.W.Fast.te10690637164359629817:PySem.Challenge.pw_manyreaders_k19_pages_numbered=W.Fast.tw10690637164359629817:=rfl
namespace K19
def c0:Stmt:=fJ 0
def c5:Stmt:=fJ 5
def c6:Stmt:=fJ 6
def c7:Stmt:=fJ 7
def c8:Stmt:=fJ 8
def c14:Stmt:=fJ 14
def c15:Stmt:=fJ 15
def c16:Stmt:=fJ 16
def c25:Stmt:=fJ 25
def c26:Stmt:=fJ 26
def c27:Stmt:=fJ 27
def c28:Stmt:=fJ 28
def c29:Stmt:=fJ 29
def c42:Stmt:=fJ 42
def c43:Stmt:=fJ 43
def c44:Stmt:=fJ 44
def c48:Stmt:=fJ 48
def pw2:Program:={ PySem.Challenge.pw_manyreaders_k19_pages_numbered with main:={ PySem.Challenge.pw_manyreaders_k19_pages_numbered.main with body:=[c0,hV,fA,ji,ej,c5,c6,c7,c8,nO,el,gb,dD,jf,c14,c15,c16,lb,jh,hX,gc,jg,la,fB,kZ,c25,c26,c27,c28,c29,jj,lc,qH,ge,hZ,fE,eC,fD,fC,hU,kY,cY,c42,c43,c44,kW,nN,dE,c48,dG,gi,ic,gg,gf,gk,ia,eE,gh,ib,dF,ie,eD,gj,fG,cK,fF,wN] } }
def lw:W.OpenLaw:={ PySem.Challenge.rw_manyreaders_k19_pages_numbered with prog:=pw2 }
def lw_eq:PySem.Challenge.rw_manyreaders_k19_pages_numbered=lw:=by kernel_rfl
end K19
namespace K19
open L2 MI M
def kf0(P:Params):W.Frag:=[(3,⟨.type "dict",Y,.dict #[kE P "__name__" 165 (.str "law_manyreaders_k19_pages_numbered" 595),kE P "__doc__" 166 .none,kE P "__package__" 167 .none,kE P "__loader__" 168 (.builtin "__main__.__loader__#opaque"),kE P "__spec__" 169 .none,kE P "__annotations__" 170 (.ref 6),kE P "__builtins__" 171 (.ref 4),kE P "__file__" 173 (.str "/claim/cut.py" 172),kE P "__cached__" 174 .none,kE P "is_whole" 195 (.ref 21),kE P "is_between" 204 (.ref 28),kE P "is_word" 212 (.ref 35),kE P "is_tuple_of" 220 (.ref 42),kE P "WRITING_WORDS" 225 (.ref 43),kE P "WANTS" 228 (.ref 44),kE P "GREATEST_LEFT" 230 (.int 9 229),kE P "empty" 237 (.ref 51),kE P "guests_with" 243 (.ref 56),kE P "with_word" 254 (.ref 63),kE P "without_wait" 260 (.ref 68),kE P "waiting" 269 (.ref 75),kE P "FAVOURED" 283 (.ref 76),kE P "WORD_WITHIN" 290 (.ref 77),kE P "can_go" 296 (.ref 82),kE P "next_in" 305 (.ref 89),kE P "foremost" 311 (.ref 94),kE P "next_past" 323 (.ref 101),kE P "settled" 333 (.ref 108),kE P "coming" 342 (.ref 115),kE P "brought_by" 353 (.ref 122),kE P "let_in" 359 (.ref 127),kE P "GuestError" 379 (.ref 137),kE P "NoDeed" 404 (.ref 157),kE P "GUEST_WORDS" 411 (.ref 160),kE P "is_deed" 422 (.ref 167),kE P "can_do" 433 (.ref 174),kE P "done" 443 (.ref 181),kE P "bring_ask" 459 (.ref 188),kE P "bring_up" 470 (.ref 195),kE P "bring_down" 480 (.ref 202),kE P "bring_leave" 490 (.ref 209),kE P "bring_stop" 501 (.ref 216),kE P "bring_tick" 507 (.ref 221),kE P "one_less" 514 (.ref 228),kE P "turned" 520 (.ref 233),kE P "settled_behind" 530 (.ref 240),kE P "BRINGS" 545 (.ref 241),kE P "WANT_WITHIN" 554 (.ref 242),kE P "walked" 569 (.ref 249),kE P "pages" 586 (.ref 256),kE P "ends_writing" 594 (.ref 263),kE P "_law_cell_at" 604 (.ref 270),kE P "_law_left" 614 (.ref 277),kE P "_law_far" 622 (.ref 284),kE P "_law_pick" 631 (.ref 291),kE P "_law_rule" 641 (.ref 298),kE P "_law_deed" 651 (.ref 305),kE P "_law_row" 666 (.ref 312),kE P "_law_fronts" 672 (.ref 317),kE P "_law_lets" 682 (.ref 324),kE P "_law_put" 691 (.ref 331),kE P "_law_settled" 697 (.ref 336),kE P "_law_can" 703 (.ref 341),kE P "_law_marked" 709 (.ref 346),kE P "_law_done" 715 (.ref 351),kE P "_law_asked" 721 (.ref 356),kE P "_law_same" 727 (.ref 361),kE P "_law_pages" 733 (.ref 366),kE P "law" 749 (.ref 373)] 69,#[]⟩),(20,kC "is_whole" 189 2 1 15 16 (.ref 17) (.ref 18) 19 193),(21,kF "is_whole" hV "manyreaders.kinds" 187 20),(27,kC "is_between" 196 4 3 22 23 (.ref 24) (.ref 25) 26 202),(28,kF "is_between" fA "manyreaders.kinds" 187 27),(34,kC "is_word" 205 6 2 29 30 (.ref 31) (.ref 32) 33 210),(35,kF "is_word" ji "manyreaders.kinds" 187 34),(41,kC "is_tuple_of" 213 8 2 36 37 (.ref 38) (.ref 39) 40 218)]
def kf1(P:Params):W.Frag:=[(42,kF "is_tuple_of" ej "manyreaders.kinds" 187 41),(43,⟨.type "tuple",Y,.seq #[.str "writes" 223,.str "raised" 224] 0,#[]⟩),(44,⟨.type "tuple",Y,.seq #[.str "read" 226,.str "write" 227] 0,#[]⟩),(50,kC "empty" 231 14 1 45 46 (.ref 47) (.ref 48) 49 235),(51,kF "empty" nO "manyreaders.rooms" 221 50),(55,kC "guests_with" 238 16 2 52 53 .none .none 54 241),(56,kF "guests_with" el "manyreaders.rooms" 221 55),(62,kC "with_word" 244 18 3 57 58 (.ref 59) (.ref 60) 61 252)]
def kf2(P:Params):W.Frag:=[(63,kF "with_word" gb "manyreaders.rooms" 221 62),(67,kC "without_wait" 255 21 2 64 65 .none .none 66 258),(68,kF "without_wait" dD "manyreaders.rooms" 221 67),(74,kC "waiting" 261 24 2 69 70 (.ref 71) (.ref 72) 73 267),(75,kF "waiting" jf "manyreaders.rooms" 221 74),(76,⟨.type "dict",Y,.dict #[kE P "rows" 272 .none,kE P "readers" 273 (.str "read" 274),kE P "writers" 275 (.str "write" 276),kE P "turns" 277 (.str "write" 278)] 4,#[]⟩),(77,⟨.type "dict",Y,.dict #[kE P "read" 284 (.str "reads" 285),kE P "write" 286 (.str "writes" 287)] 2,#[]⟩),(81,kC "can_go" 291 34 3 78 79 .none .none 80 294)]
def kf3(P:Params):W.Frag:=[(82,kF "can_go" lb "manyreaders.doors" 270 81),(88,kC "next_in" 297 43 2 83 84 (.ref 85) (.ref 86) 87 303),(89,kF "next_in" jh "manyreaders.doors" 270 88),(93,kC "foremost" 306 48 2 90 91 .none .none 92 309),(94,kF "foremost" hX "manyreaders.doors" 270 93),(100,kC "next_past" 312 53 2 95 96 (.ref 97) (.ref 98) 99 321),(101,kF "next_past" gc "manyreaders.doors" 270 100),(107,kC "settled" 324 60 2 102 103 (.ref 104) (.ref 105) 106 331)]
def kf4(P:Params):W.Frag:=[(108,kF "settled" jg "manyreaders.doors" 270 107),(114,kC "coming" 334 68 2 109 110 (.ref 111) (.ref 112) 113 340),(115,kF "coming" la "manyreaders.doors" 270 114),(121,kC "brought_by" 343 74 3 116 117 (.ref 118) (.ref 119) 120 351),(122,kF "brought_by" fB "manyreaders.doors" 270 121),(126,kC "let_in" 354 79 3 123 124 .none .none 125 357),(127,kF "let_in" kZ "manyreaders.doors" 270 126),(160,⟨.type "tuple",Y,.seq #[.str "up" 407,.str "down" 408,.str "leave" 409,.str "stop" 410] 0,#[]⟩)]
def kf5(P:Params):W.Frag:=[(166,kC "is_deed" 412 95 2 161 162 (.ref 163) (.ref 164) 165 420),(167,kF "is_deed" jj "manyreaders.deeds" 405 166),(173,kC "can_do" 423 104 2 168 169 (.ref 170) (.ref 171) 172 431),(174,kF "can_do" lc "manyreaders.deeds" 405 173),(180,kC "done" 434 118 3 175 176 (.ref 177) (.ref 178) 179 441),(181,kF "done" qH "manyreaders.deeds" 405 180),(187,kC "bring_ask" 444 121 3 182 183 (.ref 184) (.ref 185) 186 457),(188,kF "bring_ask" ge "manyreaders.deeds" 405 187)]
def kf6(P:Params):W.Frag:=[(194,kC "bring_up" 460 131 3 189 190 (.ref 191) (.ref 192) 193 468),(195,kF "bring_up" hZ "manyreaders.deeds" 405 194),(201,kC "bring_down" 471 139 3 196 197 (.ref 198) (.ref 199) 200 478),(202,kF "bring_down" fE "manyreaders.deeds" 405 201),(208,kC "bring_leave" 481 142 3 203 204 (.ref 205) (.ref 206) 207 488),(209,kF "bring_leave" eC "manyreaders.deeds" 405 208),(215,kC "bring_stop" 491 145 3 210 211 (.ref 212) (.ref 213) 214 499),(216,kF "bring_stop" fD "manyreaders.deeds" 405 215)]
def kf7(P:Params):W.Frag:=[(220,kC "bring_tick" 502 152 3 217 218 .none .none 219 505),(221,kF "bring_tick" fC "manyreaders.deeds" 405 220),(227,kC "one_less" 508 158 1 222 223 (.ref 224) (.ref 225) 226 512),(228,kF "one_less" hU "manyreaders.deeds" 405 227),(232,kC "turned" 515 160 3 229 230 .none .none 231 518),(233,kF "turned" kY "manyreaders.deeds" 405 232),(239,kC "settled_behind" 521 165 3 234 235 (.ref 236) (.ref 237) 238 528),(240,kF "settled_behind" cY "manyreaders.deeds" 405 239)]
def kf8(P:Params):W.Frag:=[(241,⟨.type "dict",Y,.dict #[kE P "read" 531 (.ref 188),kE P "write" 532 (.ref 188),kE P "up" 533 (.ref 195),kE P "down" 534 (.ref 202),kE P "leave" 535 (.ref 209),kE P "stop" 536 (.ref 216),kE P "tick" 537 (.ref 221)] 7,#[]⟩),(242,⟨.type "dict",Y,.dict #[kE P "reads" 548 (.str "read" 549),kE P "writes" 550 (.str "write" 551)] 2,#[]⟩),(248,kC "walked" 555 171 3 243 244 (.ref 245) (.ref 246) 247 567),(249,kF "walked" kW "manyreaders.runs" 546 248),(255,kC "pages" 570 181 3 250 251 (.ref 252) (.ref 253) 254 584),(256,kF "pages" nN "manyreaders.runs" 546 255),(262,kC "ends_writing" 587 193 2 257 258 (.ref 259) (.ref 260) 261 592),(263,kF "ends_writing" dE "manyreaders.runs" 546 262)]
def kf9(P:Params):W.Frag:=[(269,kC "_law_cell_at" 597 196 2 264 265 (.ref 266) (.ref 267) 268 602),(270,kF "_law_cell_at" dG "law_manyreaders_k19_pages_numbered" 595 269),(276,kC "_law_left" 605 200 2 271 272 (.ref 273) (.ref 274) 275 612),(277,kF "_law_left" gi "law_manyreaders_k19_pages_numbered" 595 276),(283,kC "_law_far" 615 207 0 278 279 (.ref 280) (.ref 281) 282 620),(284,kF "_law_far" ic "law_manyreaders_k19_pages_numbered" 595 283),(290,kC "_law_pick" 623 212 2 285 286 (.ref 287) (.ref 288) 289 629),(291,kF "_law_pick" gg "law_manyreaders_k19_pages_numbered" 595 290)]
def kf10(P:Params):W.Frag:=[(297,kC "_law_rule" 632 220 1 292 293 (.ref 294) (.ref 295) 296 639),(298,kF "_law_rule" gf "law_manyreaders_k19_pages_numbered" 595 297),(304,kC "_law_deed" 642 225 2 299 300 (.ref 301) (.ref 302) 303 649),(305,kF "_law_deed" gk "law_manyreaders_k19_pages_numbered" 595 304),(311,kC "_law_row" 652 233 4 306 307 (.ref 308) (.ref 309) 310 664),(312,kF "_law_row" ia "law_manyreaders_k19_pages_numbered" 595 311),(316,kC "_law_fronts" 667 243 2 313 314 .none .none 315 670),(317,kF "_law_fronts" eE "law_manyreaders_k19_pages_numbered" 595 316)]
def kf11(P:Params):W.Frag:=[(323,kC "_law_lets" 673 254 3 318 319 (.ref 320) (.ref 321) 322 680),(324,kF "_law_lets" gh "law_manyreaders_k19_pages_numbered" 595 323),(330,kC "_law_put" 683 261 3 325 326 (.ref 327) (.ref 328) 329 689),(331,kF "_law_put" ib "law_manyreaders_k19_pages_numbered" 595 330),(335,kC "_law_settled" 692 263 2 332 333 .none .none 334 695),(336,kF "_law_settled" dF "law_manyreaders_k19_pages_numbered" 595 335),(340,kC "_law_can" 698 279 2 337 338 .none .none 339 701),(341,kF "_law_can" ie "law_manyreaders_k19_pages_numbered" 595 340)]
def kf12(P:Params):W.Frag:=[(345,kC "_law_marked" 704 288 3 342 343 .none .none 344 707),(346,kF "_law_marked" eD "law_manyreaders_k19_pages_numbered" 595 345),(350,kC "_law_done" 710 292 3 347 348 .none .none 349 713),(351,kF "_law_done" gj "law_manyreaders_k19_pages_numbered" 595 350),(355,kC "_law_asked" 716 315 3 352 353 .none .none 354 719),(356,kF "_law_asked" fG "law_manyreaders_k19_pages_numbered" 595 355),(360,kC "_law_same" 722 324 2 357 358 .none .none 359 725),(361,kF "_law_same" cK "law_manyreaders_k19_pages_numbered" 595 360)]
def kf13(P:Params):W.Frag:=[(365,kC "_law_pages" 728 341 3 362 363 .none .none 364 731),(366,kF "_law_pages" fF "law_manyreaders_k19_pages_numbered" 595 365),(372,kC "law" 734 357 1 367 368 (.ref 369) (.ref 370) 371 747),(373,kF "law" wN "law_manyreaders_k19_pages_numbered" 595 372)]
def dZ(P:Params):W.Frag:=(((kf0 P)++((kf1 P)++(kf2 P)))++(((kf3 P)++(kf4 P))++((kf5 P)++(kf6 P))))++(((kf7 P)++((kf8 P)++(kf9 P)))++(((kf10 P)++(kf11 P))++((kf12 P)++(kf13 P))))
def kads:List Addr:=[3,20,21,27,28,34,35,41,42,43,44,50,51,55,56,62,63,67,68,74,75,76,77,81,82,88,89,93,94,100,101,107,108,114,115,121,122,126,127,160,166,167,173,174,180,181,187,188,194,195,201,202,208,209,215,216,220,221,227,228,232,233,239,240,241,242,248,249,255,256,262,263,269,270,276,277,283,284,290,291,297,298,304,305,311,312,316,317,323,324,330,331,335,336,340,341,345,346,350,351,355,356,360,361,365,366,372,373]
def txt{w:World}{h:Heap}{mg:Str->Option Value}(X:(dZ w.params).In h)(G:h.Ns mainGlobals mg):iC w (dZ w.params) mg:=
 ⟨cS X G "law_manyreaders_k19_pages_numbered" 270 595 269 (by kernel_rfl),cS X G "law_manyreaders_k19_pages_numbered" 284 595 283 (by kernel_rfl),cS X G "law_manyreaders_k19_pages_numbered" 277 595 276 (by kernel_rfl),cS X G "law_manyreaders_k19_pages_numbered" 291 595 290 (by kernel_rfl),cS X G "law_manyreaders_k19_pages_numbered" 305 595 304 (by kernel_rfl),cS X G "law_manyreaders_k19_pages_numbered" 331 595 330 (by kernel_rfl),cS X G "law_manyreaders_k19_pages_numbered" 317 595 316 (by kernel_rfl),cS X G "law_manyreaders_k19_pages_numbered" 324 595 323 (by kernel_rfl),cS X G "law_manyreaders_k19_pages_numbered" 336 595 335 (by kernel_rfl),cS X G "law_manyreaders_k19_pages_numbered" 341 595 340 (by kernel_rfl),cS X G "law_manyreaders_k19_pages_numbered" 356 595 355 (by kernel_rfl),cS X G "law_manyreaders_k19_pages_numbered" 346 595 345 (by kernel_rfl),cS X G "law_manyreaders_k19_pages_numbered" 351 595 350 (by kernel_rfl),cS X G "law_manyreaders_k19_pages_numbered" 312 595 311 (by kernel_rfl),cS X G "law_manyreaders_k19_pages_numbered" 366 595 365 (by kernel_rfl),cS X G "manyreaders.rooms" 51 221 50 (by kernel_rfl),cS X G "manyreaders.rooms" 56 221 55 (by kernel_rfl),cS X G "manyreaders.doors" 94 270 93 (by kernel_rfl),cS X G "manyreaders.rooms" 75 221 74 (by kernel_rfl),cS X G "manyreaders.doors" 82 270 81 (by kernel_rfl),cS X G "manyreaders.doors" 101 270 100 (by kernel_rfl),cS X G "manyreaders.doors" 89 270 88 (by kernel_rfl),cS X G "manyreaders.doors" 115 270 114 (by kernel_rfl),cS X G "manyreaders.rooms" 63 221 62 (by kernel_rfl),cS X G "manyreaders.doors" 127 270 126 (by kernel_rfl),cS X G "manyreaders.doors" 122 270 121 (by kernel_rfl),cS X G "manyreaders.doors" 108 270 107 (by kernel_rfl),cS X G "manyreaders.rooms" 68 221 67 (by kernel_rfl),cS X G "manyreaders.deeds" 188 405 187 (by kernel_rfl),cS X G "manyreaders.deeds" 195 405 194 (by kernel_rfl),cS X G "manyreaders.deeds" 240 405 239 (by kernel_rfl),cS X G "manyreaders.deeds" 233 405 232 (by kernel_rfl),cS X G "manyreaders.deeds" 202 405 201 (by kernel_rfl),cS X G "manyreaders.deeds" 209 405 208 (by kernel_rfl),cS X G "manyreaders.deeds" 216 405 215 (by kernel_rfl),cS X G "manyreaders.deeds" 228 405 227 (by kernel_rfl),cS X G "manyreaders.deeds" 221 405 220 (by kernel_rfl),cS X G "manyreaders.deeds" 181 405 180 (by kernel_rfl),cS X G "manyreaders.kinds" 42 187 41 (by kernel_rfl),cS X G "manyreaders.kinds" 35 187 34 (by kernel_rfl),cS X G "manyreaders.kinds" 21 187 20 (by kernel_rfl),cS X G "manyreaders.kinds" 28 187 27 (by kernel_rfl),cS X G "manyreaders.deeds" 167 405 166 (by kernel_rfl),cS X G "manyreaders.deeds" 174 405 173 (by kernel_rfl),cS X G "manyreaders.runs" 249 546 248 (by kernel_rfl),cS X G "manyreaders.runs" 263 546 262 (by kernel_rfl),cS X G "manyreaders.runs" 256 546 255 (by kernel_rfl),cS X G "law_manyreaders_k19_pages_numbered" 298 595 297 (by kernel_rfl),cS X G "law_manyreaders_k19_pages_numbered" 361 595 360 (by kernel_rfl),cS X G "law_manyreaders_k19_pages_numbered" 373 595 372 (by kernel_rfl),Xy X G (by kernel_rfl),Xy X G (by kernel_rfl),Xy X G (by kernel_rfl),Xy X G (by kernel_rfl),Xy X G (by kernel_rfl),Xy X G (by kernel_rfl),Xy X G (by kernel_rfl),Xy X G (by kernel_rfl),Xy X G (by kernel_rfl),Xy X G (by kernel_rfl),Xy X G (by kernel_rfl),Xy X G (by kernel_rfl),Xy X G (by kernel_rfl),Xy X G (by kernel_rfl),UT (Yr X G (show W.nsIn (dZ w.params) mainGlobals "BRINGS" = U (U (.ref 241)) by kernel_rfl)) (show (dZ w.params).lookup 241=U ⟨.type "dict",Y,.dict #[⟨PyData.keyHash w.params "read",.str "read" 531,.ref 188⟩,⟨PyData.keyHash w.params "write",.str "write" 532,.ref 188⟩,⟨PyData.keyHash w.params "up",.str "up" 533,.ref 195⟩,⟨PyData.keyHash w.params "down",.str "down" 534,.ref 202⟩,⟨PyData.keyHash w.params "leave",.str "leave" 535,.ref 209⟩,⟨PyData.keyHash w.params "stop",.str "stop" 536,.ref 216⟩,⟨PyData.keyHash w.params "tick",.str "tick" 537,.ref 221⟩] 7,#[]⟩ by kernel_rfl) (.cons (.cons (.cons (.cons (.cons (.cons (.cons (.nil)))))))) (show List.Nodup ([.inr "read",.inr "write",.inr "up",.inr "down",.inr "leave",.inr "stop",.inr "tick"]:List bt) by decide +kernel) (.cons (Yr X G (show W.nsIn (dZ w.params) mainGlobals "bring_ask" = U (U (.ref 188)) by kernel_rfl)) (.cons (Yr X G (show W.nsIn (dZ w.params) mainGlobals "bring_ask" = U (U (.ref 188)) by kernel_rfl)) (.cons (Yr X G (show W.nsIn (dZ w.params) mainGlobals "bring_up" = U (U (.ref 195)) by kernel_rfl)) (.cons (Yr X G (show W.nsIn (dZ w.params) mainGlobals "bring_down" = U (U (.ref 202)) by kernel_rfl)) (.cons (Yr X G (show W.nsIn (dZ w.params) mainGlobals "bring_leave" = U (U (.ref 209)) by kernel_rfl)) (.cons (Yr X G (show W.nsIn (dZ w.params) mainGlobals "bring_stop" = U (U (.ref 216)) by kernel_rfl)) (.cons (Yr X G (show W.nsIn (dZ w.params) mainGlobals "bring_tick" = U (U (.ref 221)) by kernel_rfl)) (.nil)))))))),CT (Yr X G (show W.nsIn (dZ w.params) mainGlobals "FAVOURED" = U (U (.ref 76)) by kernel_rfl)) (show (dZ w.params).lookup 76=U ⟨.type "dict",Y,.dict #[⟨PyData.keyHash w.params "rows",.str "rows" 272,.none⟩,⟨PyData.keyHash w.params "readers",.str "readers" 273,.str "read" 274⟩,⟨PyData.keyHash w.params "writers",.str "writers" 275,.str "write" 276⟩,⟨PyData.keyHash w.params "turns",.str "turns" 277,.str "write" 278⟩] 4,#[]⟩ by kernel_rfl) (.cons (.cons (.cons (.cons (.nil))))) (show List.Nodup ([.inr "rows",.inr "readers",.inr "writers",.inr "turns"]:List bt) by decide +kernel) (.cons .non rfl (λ_ _ _=>.non) (.cons (V.str "read") ⟨_,rfl⟩ (λ_ _ _=>.str _) (.cons (V.str "write") ⟨_,rfl⟩ (λ_ _ _=>.str _) (.cons (V.str "write") ⟨_,rfl⟩ (λ_ _ _=>.str _) (.nil))))),⟨_,V.int 9,Yr X G (show W.nsIn (dZ w.params) mainGlobals "GREATEST_LEFT" = U (U (.int 9 229)) by kernel_rfl),⟨_,rfl⟩,λμ H=>.int _⟩,⟨_,.ref 160,Yr X G (show W.nsIn (dZ w.params) mainGlobals "GUEST_WORDS" = U (U (.ref 160)) by kernel_rfl),rfl,λμ H=>.ktup (vs:=[V.str "up",V.str "down",V.str "leave",V.str "stop"]) ⟨_,_,_,(show (dZ w.params).lookup 160=U ⟨.type "tuple",Y,.seq #[.str "up" 407,.str "down" 408,.str "leave" 409,.str "stop" 410] 0,#[]⟩ by kernel_rfl),rfl,rfl,rfl,(show 4<=sizeLine by decide),.cons ⟨_,rfl⟩ (.cons ⟨_,rfl⟩ (.cons ⟨_,rfl⟩ (.cons ⟨_,rfl⟩ (.nil))))⟩ (.cons (.str _) (.cons (.str _) (.cons (.str _) (.cons (.str _) (.nil)))))⟩,⟨_,.ref 44,Yr X G (show W.nsIn (dZ w.params) mainGlobals "WANTS" = U (U (.ref 44)) by kernel_rfl),rfl,λμ H=>.ktup (vs:=[V.str "read",V.str "write"]) ⟨_,_,_,(show (dZ w.params).lookup 44=U ⟨.type "tuple",Y,.seq #[.str "read" 226,.str "write" 227] 0,#[]⟩ by kernel_rfl),rfl,rfl,rfl,(show 2<=sizeLine by decide),.cons ⟨_,rfl⟩ (.cons ⟨_,rfl⟩ (.nil))⟩ (.cons (.str _) (.cons (.str _) (.nil)))⟩,CT (Yr X G (show W.nsIn (dZ w.params) mainGlobals "WANT_WITHIN" = U (U (.ref 242)) by kernel_rfl)) (show (dZ w.params).lookup 242=U ⟨.type "dict",Y,.dict #[⟨PyData.keyHash w.params "reads",.str "reads" 548,.str "read" 549⟩,⟨PyData.keyHash w.params "writes",.str "writes" 550,.str "write" 551⟩] 2,#[]⟩ by kernel_rfl) (.cons (.cons (.nil))) (show List.Nodup ([.inr "reads",.inr "writes"]:List bt) by decide +kernel) (.cons (V.str "read") ⟨_,rfl⟩ (λ_ _ _=>.str _) (.cons (V.str "write") ⟨_,rfl⟩ (λ_ _ _=>.str _) (.nil))),CT (Yr X G (show W.nsIn (dZ w.params) mainGlobals "WORD_WITHIN" = U (U (.ref 77)) by kernel_rfl)) (show (dZ w.params).lookup 77=U ⟨.type "dict",Y,.dict #[⟨PyData.keyHash w.params "read",.str "read" 284,.str "reads" 285⟩,⟨PyData.keyHash w.params "write",.str "write" 286,.str "writes" 287⟩] 2,#[]⟩ by kernel_rfl) (.cons (.cons (.nil))) (show List.Nodup ([.inr "read",.inr "write"]:List bt) by decide +kernel) (.cons (V.str "reads") ⟨_,rfl⟩ (λ_ _ _=>.str _) (.cons (V.str "writes") ⟨_,rfl⟩ (λ_ _ _=>.str _) (.nil))),⟨_,.ref 43,Yr X G (show W.nsIn (dZ w.params) mainGlobals "WRITING_WORDS" = U (U (.ref 43)) by kernel_rfl),rfl,λμ H=>.ktup (vs:=[V.str "writes",V.str "raised"]) ⟨_,_,_,(show (dZ w.params).lookup 43=U ⟨.type "tuple",Y,.seq #[.str "writes" 223,.str "raised" 224] 0,#[]⟩ by kernel_rfl),rfl,rfl,rfl,(show 2<=sizeLine by decide),.cons ⟨_,rfl⟩ (.cons ⟨_,rfl⟩ (.nil))⟩ (.cons (.str _) (.cons (.str _) (.nil)))⟩⟩
end K19
open PySem.W
set_option maxRecDepth 100000 in
set_option maxHeartbeats 0 in
theorem PySem.Challenge.cw_manyreaders_k19_pages_numbered_holds : PySem.Challenge.rw_manyreaders_k19_pages_numbered.Holds := by
 rw [K19.lw_eq];w_on;o_law;o_head (kHook K19.dZ K19.kads (λ_=>by kernel_rfl));(case hw=>w_witness2)
 exact K19.walk (l:=K19.lw) rfl rfl rfl (λw h Y0=>PySem.W.kIn_of Y0) K19.LN λw mg h KX G=>K19.txt KX G

end
