import PyProof.Rows.All
import Wide.All
import OpenK.AllK
import Wide.FinOn
import Lean
import KE.KIntText
import PyProof.EqAt
import PyProof.EqKinds
import PyProof.TupleCall
import PySem.Challenge.RW_manyreaders_k48_texts_read
open Option renaming some -> O,none -> U
local macro_rules|`(tactic|ac_rfl)=>`(tactic|exact⟨rfl,rfl,rfl,by decide +kernel,rfl,by decide +kernel,by decide +kernel⟩)
noncomputable section
set_option Elab.async false
set_option linter.all false
set_option maxRecDepth 100000
set_option compiler.extract_closed false
set_option bootstrap.genMatcherCode false
open PySem PySem.Spec PyProof.Rows
def SJ:=@Option.bind_eq_some_iff
def SK:=@wpAny_bind
def SL:=@Heap.get?_push_of_some
def SM:=@Bool.and_eq_true
def SN:=@List.mem_cons_self
def SO:=@List.mem_cons_of_mem
def SQ:=@List.size_toArray
def SR:=@List.getElem?_eq_some_iff
def SS:=@Nat.le_refl
def SU:=@wpAny_pure
def SV:=@Heap.lt_size
def SW:=@Heap.get?_push_size
def SX:=@List.length_map
def SY:=@List.length_cons
def SZ:=@Bool.false_ne_true
def Ta:=@List.map_cons
def Tb:=@List.getElem?_eq_getElem
def Tc:=@List.mem_cons
def Td:=@if_pos
def Tf:=@Nat.lt_of_lt_of_le
def Tg:=@List.mem_singleton
def Th:=@Nat.le_trans
def Tj:=@List.all_eq_true
def Tk:=@Nat.ne_of_lt
def Tl:=@List.length_append
def To:=@List.getElem?_append_left
def Tp:=@wpAny_mono
def Tq:=@Option.some.inj
def Tr:=@List.mem_append
def Ts:=@if_neg
def Tt:=@List.mem_append_right
def Tu:=@wpAny_holding
def Tv:=@List.replicate_succ
def Tw:=@decide_eq_false
def Tx:=@List.append_nil
def Tz:=@List.mem_map
def TC:=@List.mem_of_getElem?
def TD:=@List.not_mem_nil
def TF:=@Bool.not_true
def TH:=@Heap.get?_update_ne
def TJ:=@List.map_map
def TK:=@List.getElem?_set_ne
def TL:=@wpAny_newObj_type
def TM:=@PyProof.Rows.callWith_type1
def TN:=@List.append_assoc
def TQ:=@wpAny_field
def TR:=@Heap.get?_update_self
def TU:=@decide_eq_true_eq
def TV:=@List.mem_append_left
def TW:=@List.drop_eq_getElem_cons
def TX:=@List.filter_eq_self
def TY:=@W.mg_none_of
def TZ:=@Heap.size_push
def Ua:=@wpAny_callSpecial?_slot
def Ub:=@List.getElem?_append_right
def Uc:=@List.getElem?_set_self
def Ud:=@List.flatten_cons
def Ue:=@wpAny_standAt
def Uf:=@Nat.lt_irrefl
def Ug:=@codeAny_mono
def Uh:=@Nat.ne_of_gt
def Ui:=@List.nodup_append
def Uj:=@List.mem_filter
def Uk:=@List.length_nil
def Ul:=@List.foldl_cons
def Um:=@List.filterMap_cons
def Uo:=@Heap.SameBut.update
def Up:=@beq_self_eq_true
def Uq:=@List.take_append_drop
def Ur:=@List.all_cons
def Us:=@Bool.true_and
def Ut:=@Bool.false_eq_true
def Uu:=@wpAny_setField
def Uv:=@wpAny_seqItems
def Uw:=@PyProof.Rows.slot_tuple_getitem
def Ux:=@Option.isSome_iff_exists
def Uy:=@List.forIn_cons
def Uz:=@PySem.mem_of_lookup
def UA:=@Nat.zero_le
def UB:=@wpAny_call_entry
def UC:=@W.kia_one
def UD:=@List.length_drop
def UE:=@List.mem_range
def UF:=@List.drop_zero
def UG:=@List.map_append
def UH:=@Bool.eq_iff_iff
def UI:=@wpAny_truthy_bool
def UJ:=@wpAny_pyIter_list
def UK:=@or_false
def UL:=@if_false
def UM:=@call_meets
def UN:=@List.getElem?_map
def UO:=@List.any_cons
def UP:=@Int.toNat_natCast
def UQ:=@F.slot_tuple_iterator_next
def UR:=@Bool.false_and
def US:=@Str.append_assoc
def UT:=@List.drop_length
def UU:=@Array.length_toList
def UV:=@wpAny_pyIter_tuple
def UW:=@tupleKind_room_in1
def UX:=@Nat.lt_of_le_of_lt
def UY:=@List.nodup_cons
def UZ:=@List.find?_cons
def Va:=@Int.emod_nonneg
def Vb:=@F.slot_zip_next
def Vc:=@List.take_of_length_le
def Vd:=@of_decide_eq_true
def Ve:=@Bool.not_false
def Vf:=@List.length_singleton
def Vg:=@List.getElem?_eq_none
def Vh:=@Str.empty_append
def Vi:=@List.lookup_cons
def Vj:=@List.length_take
def Vk:=@List.eq_nil_of_length_eq_zero
def Vl:=@wpAny_rule
def Vm:=@wpAny_passesOwn
def Vn:=@beq_eq_false_iff_ne
def Vo:=@W.mg_of
def Vp:=@Nat.le_succ
def Vq:=@List.nil_append
def Vr:=@List.mem_map_of_mem
def Vs:=@F.slot_dict_get
def Vt:=@wpAny_Call_Name_kw
def Vu:=@Nat.le_of_eq
def Vv:=@Bool.and_false
def Vw:=@wpAny_pyIter_enum
def Vx:=@wpAny_comprehension_free
def Vy:=@WalksT.enumerateD
def Vz:=@Nat.lt_succ_of_lt
def VA:=@AutoSeq1.sub_tuple_tuple
def VB:=@wpAny_onRaise
def VC:=@if_true
def VD:=@List.getElem?_cons_succ
def VE:=@F.plain_set_update_loop
def VF:=@Bool.and_true
def VG:=@List.mem_flatMap
def VH:=@F.slot_str_split
def VI:=@F.entry_dict_get
def VJ:=@Option.map_eq_some_iff
def VL:=@Nat.le_of_lt
def VM:=@List.mem_iff_getElem?
def VN:=@List.map_nil
def VO:=@List.length_filter_le
def VP:=@List.count_cons
def VQ:=@F.slot_int_rmul
def VR:=@Bool.or_eq_true
def VS:=@List.mem_of_mem_take
def VT:=@List.drop_drop
def VU:=@ne_true_of_eq_false
def VW:=@assignInOrder_cons
def VX:=@List.getElem?_drop
def VY:=@Int.emod_lt_of_pos
def VZ:=@F.args_tuple_add_2
def Wa:=@F.args_str_split_2
def Wb:=@typeIs_str
def Wc:=@typeIs_int
def We:=@Option.some.injEq
def Wf:=@List.pairwise_map
def Wg:=@List.length_range
def Wh:=@F.entry_tuple_add
def Wi:=@F.entry_str_split
def Wj:=@F.args_zip_next_1
def Wk:=@call_meetsIn
def Wl:=@Nat.mul_comm
def Wm:=@noFill_tuple_add
def Wn:=@Str.append_empty
def Wo:=@List.map_flatMap
def Wp:=@List.any_eq_true
def Wq:=@F.slot_tuple_add
def Wr:=@F.entry_zip_next
def Ws:=@AutoSeq1.idx_int
def Wt:=@F.args_tuple_iterator_next_1
def Wu:=@wpAny_updateSeq
def Wv:=@wpAny_execs_nil
def Ww:=@sizeLine_eq
def Wx:=@pure_bind
def Wy:=@codeAny_of_tree
def Wz:=@codeAny_builtin
def WA:=@W.kitx_list
def WB:=@PassesOwn.never
def WC:=@List.of_mem_zip
def WD:=@F.entry_tuple_iterator_next
def WE:=@Calls.Name_function_global
def WF:=@wpAny_binaryOp_repeat_ref
def WG:=@List.drop_left
def WH:=@intBits_le
def WI:=@bne_iff_ne
def WJ:=@List.getElem?_take_of_lt
def WK:=@wpAny_pyNext_enum_itemD
def WL:=@wpAny_attempt
def WM:=@seq_tuple_add
def WN:=@Paired.length
def WO:=@List.sum_cons
def WP:=@F.entry_set_update_loop
def WQ:=@Bool.or_false
def WR:=@wpAny_pyNext_list_item
def WS:=@wpAny_Call_method_late
def WT:=@subscriptTail_builtinR
def WU:=@Nat.le_of_succ_le_succ
def WV:=@Heap.get?_update_other
def WW:=@Calls.callWith_builtin
def WX:=@wpAny_typeOf
def WY:=@wpAny_pyNext_list_end
def WZ:=@seqIndex_neg
def Xa:=@concat_meets
def Xb:=@List.all_map
def Xc:=@wpAny_newFunctionEnv
def Xd:=@List.mem_of_mem_drop
def Xe:=@Calls.evalArgs_plain
def Xf:=@Around.under_plainId
def Xg:=@wpAny_of_eq
def Xh:=@wpAny_letGo
def Xi:=@seqIndex_of
def Xj:=@entry_tuple_getitem
def Xk:=@W.kitx_dict
def Xl:=@Sum.inr.inj
def Xm:=@Nat.mul_le_mul_left
def Xn:=@tail_any
def Xo:=@not_or
def Xp:=@args_tuple_getitem
def Xq:=@Obj.data_mapFields
def Xr:=@List.mem_filterMap
def Xs:=@F.slot_list_insert
def Xt:=@F.slot_list_append
def Xu:=@Calls.spliced_cons
def Xv:=@Calls.Constant_str
namespace L2
noncomputable abbrev ba:=Sum Int Str
noncomputable def vf:ba->Value->Bool
 | .inl k,v=>Value.isInt k v
 | .inr x,v=>Value.isStrOf x v
noncomputable def keyH(w:World):ba->Int
 | .inl k=>hashInt k
 | .inr x=>hashStr w x
theorem cV:∀ {k:ba} {v:Value},vf k v=true->(∃ i t,k=Sum.inl i/\v=Value.int i t)\/(∃ x t,k=Sum.inr x/\v=Value.str x t)
 | .inl i,v,h=>by
  obtain⟨t,e⟩:=Value.isInt_shape (k:=i) (v:=v) h
  exact .inl ⟨i,t,rfl,e⟩
 | .inr x,v,h=>by
  obtain⟨t,e⟩:=Value.isStrOf_shape (x:=x) (v:=v) h
  exact .inr ⟨x,t,rfl,e⟩
theorem Ep(i:Int)(t:Tok):vf (.inl i) (.int i t)=true:=by simp [vf,Value.isInt]
theorem Eo(x:Str)(t:Tok):vf (.inr x) (.str x t)=true:=by simp [vf,Value.isStrOf]
theorem Qo(a b:Int):decide ((Sum.inl a:ba)=Sum.inl b)=(a == b):=by
 by_cases e:a=b
 ·subst e;simp
 ·have h:¬ (Sum.inl a:ba)=Sum.inl b:=λq=>e (Sum.inl.inj q)
  rw [Tw h]
  exact(Vn.mpr e).symm
theorem Ql(a b:Str):decide ((Sum.inr a:ba)=Sum.inr b)=decide (a=b):=by
 by_cases e:a=b
 ·subst e;simp
 ·have h:¬ (Sum.inr a:ba)=Sum.inr b:=λq=>e (Xl q)
  rw [Tw h,Tw e]
theorem Qn(a:Int)(b:Str):decide ((Sum.inl a:ba)=Sum.inr b)=false:=Tw (λq=>nomatch q)
theorem Qm(a:Str)(b:Int):decide ((Sum.inr a:ba)=Sum.inl b)=false:=Tw (λq=>nomatch q)
noncomputable def bv(prog:Program)(w:World):PySem.KeyKind prog w ba where
 is:=vf
 hash:=keyH w
 inj:=λv a b ha hb=>by
  rcases cV ha with ⟨i,t,rfl,rfl⟩ | ⟨x,t,rfl,rfl⟩
  ·rcases cV hb with ⟨j,u,rfl,e⟩ | ⟨y,u,rfl,e⟩
   ·injection e with e1 _;rw [e1]
   ·exact nomatch e
  ·rcases cV hb with ⟨j,u,rfl,e⟩ | ⟨y,u,rfl,e⟩
   ·exact nomatch e
   ·injection e with e1 _;rw [e1]
 byValue:=λk v h=>by
  rcases cV h with ⟨i,t,rfl,rfl⟩ | ⟨x,t,rfl,rfl⟩ <;> rfl
 pyHash:=λhv h=>by
  rcases cV hv with ⟨i,t,rfl,rfl⟩ | ⟨x,t,rfl,rfl⟩
  ·exact wpAny_pyHash_int h
  ·exact wpAny_pyHash_str h
 eqBool:=λhu hv h=>by
  rcases cV hu with ⟨i,t,rfl,rfl⟩ | ⟨x,t,rfl,rfl⟩
  ·rcases cV hv with ⟨j,u,rfl,rfl⟩ | ⟨y,u,rfl,rfl⟩
   ·rw [Qo] at h;exact wpAny_eqBool_int h
   ·rw [Qn] at h;exact SeqAt.EqAt.int_str i t y u _ _ _ _ h
  ·rcases cV hv with ⟨j,u,rfl,rfl⟩ | ⟨y,u,rfl,rfl⟩
   ·rw [Qm] at h;exact SeqAt.EqAt.str_int x t j u _ _ _ _ h
   ·rw [Ql] at h;exact wpAny_eqBool_str h
 «strs»:=λk x t v h=>by
  rcases cV h with ⟨i,u,rfl,e⟩ | ⟨y,u,rfl,e⟩
  ·exact nomatch e
  ·injection e with e1 _
   subst e1
   cases v <;> rfl
theorem yT(prog:Program)(w:World)(i:Int)(t:Tok):(bv prog w).is (.inl i) (.int i t)=true:=Ep i t
theorem yS(prog:Program)(w:World)(x:Str)(t:Tok):(bv prog w).is (.inr x) (.str x t)=true:=Eo x t
inductive V where
 | non | bl (b:Bool) | int (i:Int) | str (x:Str) | byt (b:Array UInt8) | flt (b:UInt64) | ref (a:Addr) | ty (n:String)
 deriving DecidableEq
noncomputable def RelV:V->Value->Prop
 | .non,u=>u=Value.none
 | .bl b,u=>u=Value.bool b
 | .int i,u=>∃ t,u=Value.int i t
 | .str x,u=>∃ t,u=Value.str x t
 | .byt b,u=>∃ t,u=Value.bytes b t
 | .flt b,u=>∃ t,u=Value.float b t
 | .ref a,u=>u=Value.ref a
 | .ty n,u=>u=Value.type n
noncomputable abbrev Vals:List V->List Value->Prop:=Paired RelV
theorem Vals.length{xs:List V}{us:List Value}(r:Vals xs us):xs.length=us.length:=WN r
theorem Vals.get:∀ {xs:List V} {us:List Value} {i:Nat} {x:V},Vals xs us->xs[i]?=O x->∃ u,us[i]?=O u/\RelV x u
 | _,_,_,_,.nil,e=>by simp at e
 | _,_,0,_,.cons r _,e=>by simp at e;subst e;exact⟨_,rfl,r⟩
 | _,_,i+1,x,.cons _ t,e=>by
  obtain⟨u,h1,h2⟩:=Vals.get (i:=i) (x:=x) t (by simpa using e)
  exact⟨u,by simpa using h1,h2⟩
theorem Vals.set{x:V}{u:Value}(r:RelV x u):∀ {xs:List V} {us:List Value} (i:Nat),Vals xs us->Vals (xs.set i x) (us.set i u)
 | _,_,_,.nil=>.nil
 | _,_,0,.cons _ t=>.cons r t
 | _,_,i+1,.cons q t=>.cons q (Vals.set r i t)
theorem Vals.append:∀ {xs ys:List V} {us ws:List Value},Vals xs us->Vals ys ws->Vals (xs++ys) (us++ws)
 | _,_,_,_,.nil,s=>s
 | _,_,_,_,.cons r t,s=>.cons r (Vals.append t s)
theorem Vals.take:∀ {xs:List V} {us:List Value} (n:Nat),Vals xs us->Vals (xs.take n) (us.take n)
 | _,_,0,_=>.nil
 | _,_,_+1,.nil=>.nil
 | _,_,n+1,.cons r t=>.cons r (Vals.take n t)
theorem Vals.drop:∀ {xs:List V} {us:List Value} (n:Nat),Vals xs us->Vals (xs.drop n) (us.drop n)
 | _,_,0,r=>r
 | _,_,_+1,.nil=>.nil
 | _,_,n+1,.cons _ t=>Vals.drop n t
noncomputable def RelO:Option V->Option Value->Prop
 | some v,O u=>RelV v u
 | none,U=>True
 | _,_=>False
noncomputable def KV{κ:Type}:List (κ×V)->List (κ×Value)->Prop:=Paired λ(p:κ×V) (q:κ×Value)=>p.1=q.1/\RelV p.2 q.2
noncomputable def kV:ba->V
 | .inl i=>.int i
 | .inr x=>.str x
inductive HO where
 | lst (xs:List V)
 | tup (xs:List V)
 | dK (kvs:List (ba×V)) | dT (kvs:List (List ba×V))
 | set (S:Int->Bool) (n:Nat)
 | ins (C dx:Addr) (fs:List (Str×V))
 | own (x:Addr)
 | xd (fs:List (Str×V))
 | met (f x:Addr)
 | rng (lo hi:Int)
 | frz (o:Obj) (u:HO)
 | tbl (ps:Array Value)
 | ext (φ:Heap->Prop)
noncomputable abbrev Hp:=Addr->Option HO
noncomputable def upd(H:Hp)(a:Addr)(o:HO):Hp:=λb=>if b=a then O o else H b
theorem aC{H:Hp}{a:Addr}{o:HO}:upd H a o a=O o:=by unfold upd;rw [Td rfl]
theorem aD{H:Hp}{a b:Addr}{o:HO}(h:b≠a):upd H a o b=H b:=by unfold upd;rw [Ts h]
theorem bn{H:Hp}{a b:Addr}{o:HO}(h:H a=O o)(h':H b=U):a≠b:=by
 intro e;subst e;rw [h] at h';cases h'
noncomputable def IsTupN(h:Heap)(a:Addr)(items:Array Value):Prop:=∃ o,h.get? a=O o/\o.cls=.type "tuple"/\(∃ n,o.data=.seq items n)/\o.dict=U
theorem IsTupN.up{h:Heap}{a:Addr}{items:Array Value}(x:IsTupN h a items):IsTup h a items:=by
 obtain⟨o,e,c,d,_⟩:=x
 exact⟨o,e,c,d⟩
theorem IsTupN.lt{h:Heap}{a:Addr}{items:Array Value}(x:IsTupN h a items):a<h.objs.size:=x.up.lt
theorem IsTupN.new(h:Heap)(items:Array Value):IsTupN (h.push { cls:=.type "tuple",data:=.seq items }) h.objs.size items:=⟨_,SW _ rfl,rfl,⟨_,rfl⟩,rfl⟩
section
variable(P:Program)(w:World)
noncomputable def ObjOk(H:Hp)(h:Heap)(a:Addr):HO->Prop
 | .lst xs=>xs.length<=sizeLine/\∃ (its:List Value) (n:Nat),Vals xs its/\h.get? a=O { cls:=.type "list",data:=.seq its.toArray n }
 | .tup xs=>xs.length<=sizeLine/\∃ its:List Value,Vals xs its/\IsTupN h a its.toArray
 | .dK kvs=>kvs.length<=sizeLine/\(a == sysModules)=false/\∃ vs,KV kvs vs/\h.DictOf (bv P w) a vs
 | .dT kvs=>kvs.length<=sizeLine/\(a == sysModules)=false/\∃ xs:List (List ba×Addr×Value),
   Paired (λ(p:List ba×V) (q:List ba×Addr×Value)=>p.1=q.1/\H q.2.1=O (.tup (p.1.map kV))/\RelV p.2 q.2.2) kvs xs /\
   ∃ o es ep,h.get? a=O o/\o.ExactDict/\o.data=.dict es ep/\es.toList=xs.map (entryOfKey (tupleKind (bv P w)))/\(xs.map (·.1)).Nodup
 | .set S n=>h.SetOf (intKind P w) a S n
 | .ins C dx fs=>H dx=O (.own a)/\fs.length<=1000/\dx≠a/\h.get? a=O (W.instObj C dx) /\
   ∃ mA,h.Ns1 dx mA/\(∀ f,RelO (fs.lookup f) (mA f))/\PySem.Within mA (fs.map (·.1))
 | .own _=>∃ o,h.get? a=O o
 | .xd fs=>∃ mA,h.Ns1 a mA/\∀ f,RelO (fs.lookup f) (mA f)
 | .rng lo hi=>∃ t u v,h.get? a=O { cls:=.type "range",data:=.fields #[.int lo t,.int hi u,.int 1 v] }
 | .frz o u=>h.get? a=O o/\ObjOk H h a u
 | .tbl ps=>h.get? a=O { cls:=.none,data:=.fields ps }
 | .met f x=>h.get? a=O (W.methodObj (.ref f) (.ref x))
 | .ext φ=>φ h/\(∃ o,h.get? a=O o)/\∀ h1 h2:Heap,φ h1->(∀ o,h1.get? a=O o->h2.get? a=O o)->φ h2
noncomputable def HOk(H:Hp)(h:Heap):Prop:=∀ a o,H a=O o->ObjOk P w H h a o
end
section
variable{P:Program}{w:World}{H H':Hp}{h h':Heap}{a:Addr}{o:HO}
theorem ObjOk.lt(x:ObjOk P w H h a o):a<h.objs.size:=by
 cases o with
 | lst xs=>obtain⟨_,_,_,_,e⟩:=x;exact SV e
 | tup xs=>obtain⟨_,_,_,p⟩:=x;exact p.lt
 | dK kvs=>obtain⟨_,_,_,_,o,_,_,e,_⟩:=x;exact SV e
 | dT kvs=>obtain⟨_,_,_,_,o,_,_,e,_⟩:=x;exact SV e
 | set S n=>obtain⟨o,_,_,_,e,_⟩:=x;exact SV e
 | ins C dx fs=>obtain⟨_,_,_,e,_⟩:=x;exact SV e
 | own y=>obtain⟨_,e⟩:=x;exact SV e
 | xd fs=>obtain⟨_,⟨_,_,_,e,_⟩,_⟩:=x;exact SV e
 | rng lo hi=>obtain⟨_,_,_,e⟩:=x;exact SV e
 | frz ob u=>obtain⟨e,_⟩:=x;exact SV e
 | tbl ps=>exact SV (show h.get? a=O _ from x)
 | met f y=>exact SV (show h.get? a=O _ from x)
 | ext φ=>obtain⟨_,⟨_,e⟩,_⟩:=x;exact SV e
theorem Paired.mapP{α β:Type}{F G:α->β->Prop}:∀ {l₁:List α} {l₂:List β},Paired F l₁ l₂->(∀ a b,F a b->G a b)->Paired G l₁ l₂
 | _,_,.nil,_=>.nil
 | _,_,.cons r t,f=>.cons (f _ _ r) (Paired.mapP t f)
theorem ObjOk.stay(x:ObjOk P w H h a o)(k:∀ b u,(b=a\/H b=O (.own a))->h.get? b=O u->h'.get? b=O u)
  (ho:∀ b,H b=O (.own a)->H' b=O (.own a)) (ht:∀ b xs,H b=O (.tup xs)->H' b=O (.tup xs)):ObjOk P w H' h' a o:=by
 induction o with
 | lst xs=>obtain⟨z,its,n,r,e⟩:=x;exact⟨z,its,n,r,k _ _ (.inl rfl) e⟩
 | tup xs=>obtain⟨z,its,r,ob,e,c⟩:=x;exact⟨z,its,r,ob,k _ _ (.inl rfl) e,c⟩
 | dK kvs=>obtain⟨z,y,vs,r,ob,es,ep,e,c⟩:=x;exact⟨z,y,vs,r,ob,es,ep,k _ _ (.inl rfl) e,c⟩
 | dT kvs=>
  obtain⟨z,y,xs,r,ob,es,ep,e,c⟩:=x
  exact⟨z,y,xs,Paired.mapP r λp q z=>⟨z.1,ht _ _ z.2.1,z.2.2⟩,ob,es,ep,k _ _ (.inl rfl) e,c⟩
 | set S n=>obtain⟨ob,es,ep,t,e,c⟩:=x;exact⟨ob,es,ep,t,k _ _ (.inl rfl) e,c⟩
 | ins C dx fs=>
  obtain⟨d,z,ne,e,mA,⟨od,es,ep,e2,c⟩,r⟩:=x
  exact⟨ho _ d,z,ne,k _ _ (.inl rfl) e,mA,⟨od,es,ep,k _ _ (.inr d) e2,c⟩,r⟩
 | own y=>obtain⟨ob,e⟩:=x;exact⟨ob,k _ _ (.inl rfl) e⟩
 | xd fs=>obtain⟨mA,⟨od,es,ep,e,c⟩,r⟩:=x;exact⟨mA,⟨od,es,ep,k _ _ (.inl rfl) e,c⟩,r⟩
 | rng lo hi=>obtain⟨t,u,v,e⟩:=x;exact⟨t,u,v,k _ _ (.inl rfl) e⟩
 | frz ob u ih=>obtain⟨e,q⟩:=x;exact⟨k _ _ (.inl rfl) e,ih q⟩
 | tbl ps=>
  have e:h.get? a=O { cls:=.none,data:=.fields ps }:=x
  show h'.get? a=O { cls:=.none,data:=.fields ps }
  exact k a _ (.inl rfl) e
 | met f y=>
  have e:h.get? a=O (W.methodObj (.ref f) (.ref y)):=x
  show h'.get? a=O (W.methodObj (.ref f) (.ref y))
  exact k a _ (.inl rfl) e
 | ext φ=>obtain⟨p,⟨o,e⟩,st⟩:=x;exact⟨st _ _ p λo q=>k _ _ (.inl rfl) q,⟨o,k _ _ (.inl rfl) e⟩,st⟩
theorem HOk.lt(x:HOk P w H h)(e:H a=O o):a<h.objs.size:=(x a o e).lt
theorem HOk.fresh(x:HOk P w H h)(e:h.objs.size<=a):H a=U:=by
 cases q:H a with
 | none=>rfl
 | some u=>exact absurd (Tf (x.lt q) e) (Uf _)
theorem HOk.kept(x:HOk P w H h)(k:∀ b u,h.get? b=O u->h'.get? b=O u):HOk P w H h':=λa o e=>
 (x a o e).stay (λb u _ q=>k b u q) (λ_ q=>q) λ_ _ q=>q
theorem HOk.laid(x:HOk P w H h)(k:∀ b u,h.get? b=O u->h'.get? b=O u)(hp:h.objs.size<=a)(new:ObjOk P w (upd H a o) h' a o):HOk P w (upd H a o) h':=λb u e=>by
 have hn:=x.fresh hp
 by_cases hb:b=a
 ·subst hb;rw [aC] at e;cases e;exact new
 ·rw [aD hb] at e
  exact(x b u e).stay (λc v _ q=>k c v q) (λc q=>by rw [aD (bn q hn)];exact q) λc xs q=>by rw [aD (bn q hn)];exact q
end
noncomputable def Rd(H:Hp)(a:Addr)(u:HO):Prop:=H a=O u\/∃ o,H a=O (.frz o u)
theorem Rd.ok{P:Program}{w:World}{H:Hp}{h:Heap}{a:Addr}{u:HO}(r:Rd H a u)(x:HOk P w H h):ObjOk P w H h a u:=by
 rcases r with r | ⟨o,r⟩
 ·exact x a u r
 ·obtain⟨_,q⟩:=x a _ r
  exact q
noncomputable def Mut:Option HO->Prop
 | some (.lst _)=>True
 | some (.dK _)=>True
 | some (.dT _)=>True
 | some (.set _ _)=>True
 | some (.ins _ _ _)=>True
 | some (.ext _)=>True
 | _=>False
section
variable{P:Program}{w:World}{H:Hp}{h h':Heap}{x e:Addr}{o':HO}
theorem HOk.write(ok:HOk P w H h)(mu:Mut (H x))(he:e=x\/H e=O (.own x))(k:∀ b u,b≠e->h.get? b=O u->h'.get? b=O u)(heo:∃ u,h'.get? e=O u)
  (new:ObjOk P w (upd H x o') h' x o'):HOk P w (upd H x o') h':=λb u q=>by
 have nown:∀ c y,H c=O (.own y)->c≠x:=λc y r z=>by subst z;rw [r] at mu;exact mu
 have ntup:∀ c xs,H c=O (.tup xs)->c≠x:=λc xs r z=>by subst z;rw [r] at mu;exact mu
 by_cases hb:b=x
 ·subst hb;rw [aC] at q;cases q;exact new
 ·rw [aD hb] at q
  by_cases hbe:b=e
  ·have q':H b=O (.own x):=by
    rcases he with z | z
    ·exact absurd (hbe.trans z) hb
    ·rw [hbe];exact z
   rw [q] at q';cases q'
   obtain⟨v,hv⟩:=heo
   exact⟨v,by rw [hbe];exact hv⟩
  ·refine(ok b u q).stay (λc v hc r=>k c v ?_ r) (λc r=>by rw [aD (nown c b r)];exact r) λc xs r=>by rw [aD (ntup c xs r)];exact r
   rcases hc with rfl | hc
   ·exact hbe
   ·rintro rfl
    rcases he with z | z
    ·exact nown c b hc z
    ·rw [hc] at z;cases z;exact hb rfl
end
structure Un(fs ex:List Addr)(H H':Hp)(h h':Heap):Prop where
 keep:∀ b o,h.get? b=O o->H b=U->b ∉ fs->b ∉ ex->h'.get? b=O o
 slot:∀ b o,h.get? b=O o->H b=U->b∈fs->b ∉ ex->∃ sl,h'.get? b=O { o with slots:=sl }
 free:∀ b o,h.get? b=O o->H b=U->b ∉ ex->H' b=U
 there:∀ b o,h.get? b=O o->b ∉ ex->∃ o',h'.get? b=O o'
 tups:∀ b xs,H b=O (.tup xs)->H' b=O (.tup xs)
 frzs:∀ b o u,H b=O (.frz o u)->H' b=O (.frz o u)
 tbls:∀ b ps,H b=O (.tbl ps)->∃ more,H' b=O (.tbl (ps++more))
section
variable{fs fs' ex ex':List Addr}{H H1 H2:Hp}{h h1 h2 h':Heap}{a x e:Addr}{o:HO}
theorem Un.any(u:Un fs ex H H1 h h1){b:Addr}{ob:Obj}(q:h.get? b=O ob)(n:H b=U)(hx:b ∉ ex):∃ sl,h1.get? b=O { ob with slots:=sl }:=by
 by_cases hb:b∈fs
 ·exact u.slot b ob q n hb hx
 ·exact⟨ob.slots,u.keep b ob q n hb hx⟩
theorem Un.kept(k:∀ b u,h.get? b=O u->h'.get? b=O u):Un fs ex H H h h':=
 ⟨λb ob q _ _ _=>k b ob q,λb ob q _ _ _=>⟨ob.slots,k b ob q⟩,λ_ _ _ n _=>n,λb ob q _=>⟨ob,k b ob q⟩,λ_ _ q=>q,λ_ _ _ q=>q,λ_ ps q=>⟨#[],by rw [q];simp⟩⟩
theorem Un.refl:Un fs ex H H h h:=Un.kept λ_ _ q=>q
theorem Un.laid(k:∀ b u,h.get? b=O u->h'.get? b=O u)(hp:h.objs.size<=a)(hn:H a=U):Un fs ex H (upd H a o) h h' where
 keep:=λb u q _ _ _=>k b u q
 slot:=λb u q _ _ _=>⟨u.slots,k b u q⟩
 free:=λb u q n _=>by rw [aD (Tk (Tf (SV q) hp))];exact n
 there:=λb u q _=>⟨u,k b u q⟩
 tups:=λb xs q=>by rw [aD (bn q hn)];exact q
 frzs:=λb u xs q=>by rw [aD (bn q hn)];exact q
 tbls:=λb ps q=>⟨#[],by rw [aD (bn q hn),q];simp⟩
theorem Un.write(mu:Mut (H x))(he:e=x\/H e=O (.own x))(k:∀ b u,b≠e->h.get? b=O u->h'.get? b=O u)(heo:∃ u,h'.get? e=O u):Un fs ex H (upd H x o) h h':=by
 have hx:∀ b,H b=U->b≠x:=λb n z=>by subst z;rw [n] at mu;exact mu
 have hb:∀ b,H b=U->b≠e:=λb n z=>by
  subst z
  rcases he with r | r
  ·exact hx b n r
  ·rw [n] at r;cases r
 have hm:∀ b u,H b=O u->¬ Mut (O u)->b≠x:=λb u q nm z=>by subst z;rw [q] at mu;exact nm mu
 refine⟨λb u q n _ _=>k b u (hb b n) q,λb u q n _ _=>⟨u.slots,k b u (hb b n) q⟩,λb u q n _=>by rw [aD (hx b n)];exact n,λb u q _=>?_,
  λb xs q=>by rw [aD (hm b _ q λz=>z)];exact q,λb u xs q=>by rw [aD (hm b _ q λz=>z)];exact q,λb ps q=>⟨#[],by rw [aD (hm b _ q λz=>z),q];simp⟩⟩
 by_cases hbe:b=e
 ·subst hbe;exact heo
 ·exact⟨u,k b u hbe q⟩
end
noncomputable def trk(h:Heap)(H:Hp):List Addr:=(List.range h.objs.size).filter λa=>(H a).isSome
noncomputable def xJ(h:Heap)(H:Hp):Heap:=W.hideAll h (trk h H)
theorem EC(h:Heap)(H:Hp):(xJ h H).objs.size=h.objs.size:=W.hideAll_size _ _
theorem Ii{h:Heap}{H:Hp}{b:Addr}{o:Obj}(e:h.get? b=O o)(n:H b=U):(xJ h H).get? b=O o:=
 W.hideAll_get _ e λhm=>by
  have q:(H b).isSome=true:=(Uj.mp hm).2
  rw [n] at q;simp at q
theorem Ls{h:Heap}{H:Hp}{b:Addr}{o:Obj}(e:(xJ h H).get? b=O o):h.get? b=O o/\H b=U:=by
 have e':h.get? b=O o:=W.of_hideAll (trk h H) e
 refine⟨e',?_⟩
 cases q:H b with
 | none=>rfl
 | some x=>
  have hm:b∈trk h H:=Uj.mpr ⟨UE.mpr (SV e'),by simp [q]⟩
  have z:(xJ h H).get? b=U:=W.hideAll_none (trk h H) hm
  rw [z] at e;cases e
structure Mod(K:W.Frag)(mg:Str->Option Value)(base:Heap):Prop where
 kin:K.In base
 glob:base.Ns mainGlobals mg
 blt:∃ mb,base.Ns builtinsNs mb/\∀ x:Str,x ≠ "__name__"->mb x=bootBuiltins x
 nolimit:base.NoLimit
structure Cx where
 prog:Program
 w:World
 K:W.Frag
 mg:Str->Option Value
 base:Heap
 A:Around
 N:List Str
 s₀:Shared
 H₀:Hp
 env:Env
 outer:List Env
 stack:List Env
 ex:List Addr
 fn:Str->Bool
 calm:Bool
 pn:List (Addr×Obj)
 xe:Value->Shared->Prop
noncomputable def FG(l:List Env):List Addr:=l.filterMap (·.frame)
noncomputable abbrev Cx.fs(X:Cx):List Addr:=FG X.outer
noncomputable def Vis(sc:Scope)(x:Str):Prop:=sc.names.lookup x=O .local\/sc.names.lookup x=O .cell\/sc.names.lookup x=O .free
noncomputable def JZ(sc:Scope)(x:Str):Prop:=sc.names.lookup x=O .local\/sc.names.lookup x=O .cell
noncomputable def Look(env:Env)(h:Heap)(m:Str->Option Value)(x:Str)(u:Value):Prop:=
 (env.kindOf x=O .local/\m x=O u)\/((env.kindOf x=O .cell\/env.kindOf x=O .free)/\∃ c,env.cells.lookup x=O c/\h.IsCell c (O u))
structure Cx.Ok(X:Cx):Prop where
 mod:Mod X.K X.mg X.base
 kind:X.env.scope.kind=.function
 glob:X.env.globals=mainGlobals
 blt:X.env.builtins=builtinsNs
 above:X.s₀.heap.objs.size<=X.env.locals
 inj:∀ x y c,X.env.cells.lookup x=O c->X.env.cells.lookup y=O c->x=y
 has:∀ x,(X.env.kindOf x=O .cell\/X.env.kindOf x=O .free)->∃ c,X.env.cells.lookup x=O c
 cab:∀ x c,X.fn x=true->X.env.cells.lookup x=O c->X.s₀.heap.objs.size<=c
 hd:X.calm=true->X.A.handled=U
 frames:X.A.frames=O X.stack
 stk:X.stack=X.outer\/(X.stack=X.env::X.outer/\X.env.frame=O X.env.locals)
 exf:∀ b∈X.ex,b≠X.env.locals/\∀ x c,X.env.cells.lookup x=O c->c≠b
 bs:∀ b o,X.base.get? b=O o->X.s₀.heap.get? b=O o/\X.H₀ b=U
 bsz:X.base.objs.size<=X.s₀.heap.objs.size
 noex:∀ b o,X.base.get? b=O o->b ∉ X.ex
 exfs:∀ b∈X.ex,b ∉ X.fs
 funs:X.s₀.heap.FunFrames X.base X.outer
 frf:∀ b∈X.fs,X.H₀ b=U
structure Inv(X:Cx)(pins:List (Addr×Obj))(σ:List (Option V))(H:Hp)(s:Shared):Prop where
 ok:X.Ok
 os:s.os=X.s₀.os
 bare:AllBare s.gens
 base:Un X.fs X.ex X.H₀ H X.s₀.heap s.heap
 loc:∃ m,s.heap.Ns X.env.locals m/\∀ (i:Nat) (x:Str) (v:V),X.N[i]?=O x->σ[i]?=O (O v)->Vis X.env.scope x->∃ u,RelV v u/\Look X.env s.heap m x u
 cell:∀ x c,X.env.cells.lookup x=O c->∃ v,s.heap.IsCell c v
 free:H X.env.locals=U
 freeC:∀ x c,X.env.cells.lookup x=O c->H c=U
 pin:∀ p∈X.pn++pins,s.heap.get? p.1=O p.2/\H p.1=U/\p.1≠X.env.locals/\p.1 ∉ X.fs/\∀ v,p.2.data≠.cell v
 hok:HOk X.prog X.w H s.heap
 len:σ.length=X.N.length
section
variable{X:Cx}{pins:List (Addr×Obj)}{σ:List (Option V)}{H H':Hp}{s:Shared}{h':Heap}
theorem Cx.Ok.nofr(ok:X.Ok){b:Addr}{o:Obj}(e:X.base.get? b=O o):b ∉ X.fs:=λhb=>by
 have:=(ok.funs.mem hb).1
 rw [e] at this;cases this
theorem Inv.bs(I:Inv X pins σ H s):∀ b o,X.base.get? b=O o->s.heap.get? b=O o/\H b=U:=λb o e=>
 ⟨I.base.keep b o (I.ok.bs b o e).1 (I.ok.bs b o e).2 (I.ok.nofr e) (I.ok.noex b o e),I.base.free b o (I.ok.bs b o e).1 (I.ok.bs b o e).2 (I.ok.noex b o e)⟩
theorem Inv.bk(I:Inv X pins σ H s):∀ b o,X.base.get? b=O o->s.heap.get? b=O o:=λb o e=>(I.bs b o e).1
theorem Inv.mod(I:Inv X pins σ H s):Mod X.K X.mg X.base:=I.ok.mod
theorem Inv.kIn(I:Inv X pins σ H s):X.K.In s.heap:=I.ok.mod.kin.keeps I.bk
theorem Inv.lt(I:Inv X pins σ H s):X.env.locals<s.heap.objs.size:=let ⟨_,hn,_⟩:=I.loc;hn.lt
theorem Inv.sz(I:Inv X pins σ H s):X.s₀.heap.objs.size<=s.heap.objs.size:=Th I.ok.above (VL I.lt)
theorem Inv.nofs(I:Inv X pins σ H s){a:Addr}(h:s.heap.objs.size<=a):a ∉ X.fs:=λhb=>by
 obtain⟨_,o,ho,_⟩:=I.ok.funs.mem hb
 exact absurd (Tf (SV ho) (Th I.sz h)) (Uf _)
theorem Inv.cne(I:Inv X pins σ H s):∀ x c,X.env.cells.lookup x=O c->c≠X.env.locals:=λx c e z=>by
 obtain⟨v,o,ho,hd⟩:=I.cell x c e
 obtain⟨m,⟨o',es,ep,ho',hd',_⟩,_⟩:=I.loc
 rw [z,ho'] at ho;cases ho;rw [hd'] at hd;cases hd
theorem Inv.funs(I:Inv X pins σ H s):s.heap.FunFrames X.base X.outer:=by
 have all:∀ (l:List Env),(∀ b∈FG l,b∈X.fs)->X.s₀.heap.FunFrames X.base l->s.heap.FunFrames X.base l:=by
  intro l
  induction l with
  | nil=>intro _ _;trivial
  | cons env r ih=>
   intro hs hl
   obtain⟨hk,⟨L,o,hf,hn,ho,hd⟩,hr⟩:=hl
   have hL:L∈X.fs:=hs L (by unfold FG;rw [Um,hf];exact SN)
   obtain⟨sl,e⟩:=I.base.slot L o ho (I.ok.frf L hL) hL λz=>I.ok.exfs L z hL
   exact⟨hk,⟨L,_,hf,hn,e,hd⟩,ih (λb hb=>hs b (by unfold FG;rw [Um,hf];exact SO _ hb)) hr⟩
 exact all X.outer (λ_ hb=>hb) I.ok.funs
theorem Inv.stack(I:Inv X pins σ H s):s.heap.FunFrames X.base X.stack:=by
 rcases I.ok.stk with e | ⟨e,hf⟩
 ·rw [e];exact I.funs
 ·rw [e]
  obtain⟨m,hn,_⟩:=I.loc
  refine .cons (by rw [I.ok.kind];decide) hf hn ?_ I.funs
  exact Heap.get?_none_of_le (Th I.ok.bsz I.ok.above)
theorem Inv.stkSub(I:Inv X pins σ H s):∀ b∈FG X.stack,b∈X.env.locals::X.fs:=λb hb=>by
 rcases I.ok.stk with e | ⟨e,hf⟩
 ·rw [e] at hb;exact SO _ hb
 ·rw [e] at hb
  unfold FG at hb
  rw [Um,hf] at hb
  exact hb
theorem Inv.stkFree(I:Inv X pins σ H s):∀ b∈FG X.stack,H b=U:=λb hb=>by
 rcases Tc.mp (I.stkSub b hb) with e | hb
 ·rw [e];exact I.free
 ·obtain⟨_,o,ho,_⟩:=I.ok.funs.mem hb
  exact I.base.free b o ho (I.ok.frf b hb) λz=>I.ok.exfs b z hb
theorem Inv.step{g':Array GenState}{t':Nat}{d':Drawn}{ch:List Addr}(I:Inv X pins σ H s)
  (hch:∀ b∈ch,(b∈X.ex\/X.s₀.heap.objs.size<=b)/\b≠X.env.locals/\(∀ x c,X.env.cells.lookup x=O c->c≠b)/\∀ p∈X.pn++pins,p.1≠b)
  (keep:∀ b o,b≠X.env.locals->b ∉ X.fs->b ∉ ch->s.heap.get? b=O o->H b=U->h'.get? b=O o)
  (slot:∀ b o,b≠X.env.locals->b∈X.fs->b ∉ ch->s.heap.get? b=O o->H b=U->∃ sl,h'.get? b=O { o with slots:=sl }) (free:∀ b o,b ∉ ch->s.heap.get? b=O o->H b=U->H' b=U)
  (there:∀ b o,b ∉ ch->s.heap.get? b=O o->∃ o',h'.get? b=O o')
  (tups:∀ b xs,H b=O (.tup xs)->H' b=O (.tup xs)) (frzs:∀ b o u,H b=O (.frz o u)->H' b=O (.frz o u)) (tbls:∀ b ps,H b=O (.tbl ps)->∃ more,H' b=O (.tbl (ps++more)))
  (ns:∀ m,s.heap.Ns X.env.locals m->h'.Ns X.env.locals m) (hok:HOk X.prog X.w H' h') (hg:AllBare g') :
  Inv X pins σ H' { s with heap:=h',gens:=g',drawn:=d',toks:=t' }:=by
 have neL:∀ b o,X.s₀.heap.get? b=O o->b≠X.env.locals:=λb o e=>Tk (Tf (SV e) I.ok.above)
 have neC:∀ b o,X.s₀.heap.get? b=O o->b ∉ X.ex->b ∉ ch:=λb o e hx hb=>by
  rcases(hch b hb).1 with z | z
  ·exact hx z
  ·exact absurd (Tf (SV e) z) (Uf _)
 have cellK:∀ x c,X.env.cells.lookup x=O c->∀ v,s.heap.IsCell c v->h'.IsCell c v:=λx c e v ⟨o,ho,hd⟩=>by
  have nch:c ∉ ch:=λz=>(hch c z).2.2.1 x c e rfl
  by_cases hc:c∈X.fs
  ·obtain⟨sl,q⟩:=slot c o (I.cne x c e) hc nch ho (I.freeC x c e)
   exact⟨_,q,hd⟩
  ·exact⟨o,keep c o (I.cne x c e) hc nch ho (I.freeC x c e),hd⟩
 refine⟨I.ok,I.os,hg,⟨λb o e n hb hx=>?_,λb o e n hb hx=>?_,λb o e n hx=>?_,λb o e hx=>?_,λb xs e=>tups b xs (I.base.tups b xs e),λb o xs e=>frzs b o xs (I.base.frzs b o xs e),λb ps e=>?_⟩,?_,λx c e=>?_,?_,λx c e=>?_,λp hp=>?_,hok,I.len⟩
 ·exact keep b o (neL b o e) hb (neC b o e hx) (I.base.keep b o e n hb hx) (I.base.free b o e n hx)
 ·obtain⟨sl,e1⟩:=I.base.slot b o e n hb hx
  obtain⟨sl',e2⟩:=slot b _ (neL b o e) hb (neC b o e hx) e1 (I.base.free b o e n hx)
  exact⟨sl',e2⟩
 ·obtain⟨o',e1⟩:=I.base.there b o e hx
  exact free b o' (neC b o e hx) e1 (I.base.free b o e n hx)
 ·obtain⟨o',e1⟩:=I.base.there b o e hx
  exact there b o' (neC b o e hx) e1
 ·obtain⟨m1,e1⟩:=I.base.tbls b ps e
  obtain⟨m2,e2⟩:=tbls b _ e1
  exact⟨m1++m2,by rw [e2,Array.append_assoc]⟩
 ·obtain⟨m,hn,hl⟩:=I.loc
  refine⟨m,ns m hn,λi x v e1 e2 e3=>?_⟩
  obtain⟨u,r,l⟩:=hl i x v e1 e2 e3
  refine⟨u,r,?_⟩
  rcases l with l | ⟨k,c,e,z⟩
  ·exact .inl l
  ·exact .inr ⟨k,c,e,cellK x c e _ z⟩
 ·obtain⟨v,z⟩:=I.cell x c e
  exact⟨v,cellK x c e v z⟩
 ·obtain⟨m,⟨o,_,_,ho,_⟩,_⟩:=I.loc
  exact free _ o (λz=>(hch _ z).2.1 rfl) ho I.free
 ·obtain⟨v,o,ho,hd⟩:=I.cell x c e
  exact free c o (λz=>(hch c z).2.2.1 x c e rfl) ho (I.freeC x c e)
 ·obtain⟨e,n,ne,nf,d⟩:=I.pin p hp
  have nch:p.1 ∉ ch:=λz=>(hch p.1 z).2.2.2 p hp rfl
  exact⟨keep p.1 p.2 ne nf nch e n,free p.1 p.2 nch e n,ne,nf,d⟩
theorem Inv.un{t':Nat}(I:Inv X pins σ H s)(u:Un X.fs [] H H' s.heap h')(hok:HOk X.prog X.w H' h'):Inv X pins σ H' { s with heap:=h',toks:=t' }:=by
 obtain⟨m,⟨o,es,ep,ho,r⟩,_⟩:=id I.loc
 obtain⟨sl,hL⟩:=u.any ho I.free (by simp)
 exact I.step (g':=s.gens) (d':=s.drawn) (ch:=[]) (λ_ z=>nomatch z) (λb o _ hb _ e n=>u.keep b o e n hb (by simp)) (λb o _ hb _ e n=>u.slot b o e n hb (by simp)) (λb o _ e n=>u.free b o e n (by simp)) (λb o _ e=>u.there b o e (by simp)) u.tups u.frzs u.tbls (λm' hm=>by
  obtain⟨o',es',ep',ho',r'⟩:=hm
  rw [ho] at ho';cases ho'
  exact⟨_,es',ep',hL,r'⟩) hok I.bare
theorem Inv.call{g':Array GenState}{t':Nat}{d':Drawn}{ch:List Addr}(I:Inv X pins σ H s)(u:Un (FG X.stack) ch H H' s.heap h')(hok:HOk X.prog X.w H' h')(hg:AllBare g')
  (hch:∀ b∈ch,(b∈X.ex\/X.s₀.heap.objs.size<=b)/\b≠X.env.locals/\(∀ x c,X.env.cells.lookup x=O c->c≠b)/\∀ p∈X.pn++pins,p.1≠b) :
  Inv X pins σ H' { s with heap:=h',gens:=g',drawn:=d',toks:=t' }:=by
 obtain⟨m,⟨o,es,ep,ho,r⟩,_⟩:=id I.loc
 obtain⟨sl,hL⟩:=u.any ho I.free λz=>(hch _ z).2.1 rfl
 exact I.step (ch:=ch) hch (λb o hL hb hc e n=>u.keep b o e n (λz=>(Tc.mp (I.stkSub b z)).elim hL hb) hc) (λb o _ _ hc e n=>u.any e n hc) (λb o hc e n=>u.free b o e n hc) (λb o hc e=>u.there b o e hc) u.tups u.frzs u.tbls (λm' hm=>by
  obtain⟨o',es',ep',ho',r'⟩:=hm
  rw [ho] at ho';cases ho'
  exact⟨_,es',ep',hL,r'⟩) hok hg
theorem Inv.turned{t':Nat}{it:Addr}(I:Inv X pins σ H s)(k:∀ b o,b≠it->s.heap.get? b=O o->h'.get? b=O o)(hn:H it=U)(hL:it≠X.env.locals)
  (h1:it∈X.ex\/X.s₀.heap.objs.size<=it) (h2:∀ x c,X.env.cells.lookup x=O c->c≠it) (h3:∀ p∈X.pn++pins,p.1≠it):Inv X pins σ H { s with heap:=h',toks:=t' }:=by
 have nit:∀ b u,H b=O u->b≠it:=λb u e z=>by rw [z,hn] at e;cases e
 refine I.step (g':=s.gens) (d':=s.drawn) (ch:=[it]) (λb hb=>?_) (λb o _ _ hc e _=>k b o (λz=>hc (by simp [z])) e) (λb o _ _ hc e _=>⟨o.slots,k b o (λz=>hc (by simp [z])) e⟩) (λ_ _ _ _ n=>n)
  (λb o hc e=>⟨o,k b o (λz=>hc (by simp [z])) e⟩) (λ_ _ e=>e) (λ_ _ _ e=>e) (λb ps e=>⟨#[],by rw [e];simp⟩) (λm hm=>?_) (λb u e=>?_) I.bare
 ·have e:b=it:=by simpa using hb
  subst e
  exact⟨h1,hL,h2,h3⟩
 ·obtain⟨o,es,ep,ho,r⟩:=hm
  exact⟨o,es,ep,k _ o (Ne.symm hL) ho,r⟩
 ·refine(I.hok b u e).stay (λc v hc q=>k c v ?_ q) (λ_ q=>q) λ_ _ q=>q
  rcases hc with z | z
  ·rw [z];exact nit b u e
  ·exact nit c _ z
theorem Inv.tok(I:Inv X pins σ H s)(t:Nat):Inv X pins σ H { s with toks:=t }:=I.un (h':=s.heap) (t':=t) Un.refl I.hok
theorem Inv.kept{t':Nat}(I:Inv X pins σ H s)(k:∀ b u,s.heap.get? b=O u->h'.get? b=O u):Inv X pins σ H { s with heap:=h',toks:=t' }:=I.un (Un.kept k) (I.hok.kept k)
theorem Inv.laid{a:Addr}{o:HO}{t':Nat}(I:Inv X pins σ H s)(k:∀ b u,s.heap.get? b=O u->h'.get? b=O u)(hp:s.heap.objs.size<=a)(new:ObjOk X.prog X.w (upd H a o) h' a o) :
  Inv X pins σ (upd H a o) { s with heap:=h',toks:=t' }:=I.un (Un.laid k hp (I.hok.fresh hp)) (I.hok.laid k hp new)
theorem Inv.write{x e:Addr}{o:HO}{t':Nat}(I:Inv X pins σ H s)(mu:Mut (H x))(he:e=x\/H e=O (.own x))(k:∀ b u,b≠e->s.heap.get? b=O u->h'.get? b=O u)(heo:∃ u,h'.get? e=O u)
  (new:ObjOk X.prog X.w (upd H x o) h' x o):Inv X pins σ (upd H x o) { s with heap:=h',toks:=t' }:=I.un (Un.write mu he k heo) (I.hok.write mu he k heo new)
theorem Inv.pins_of{pins':List (Addr×Obj)}(I:Inv X pins σ H s)(h:∀ p∈pins',s.heap.get? p.1=O p.2/\H p.1=U/\p.1≠X.env.locals/\p.1 ∉ X.fs/\∀ v,p.2.data≠.cell v):Inv X pins' σ H s:=
 ⟨I.ok,I.os,I.bare,I.base,I.loc,I.cell,I.free,I.freeC,λp hp=>(Tr.mp hp).elim (λz=>I.pin p (TV _ z)) (h p),I.hok,I.len⟩
theorem yO{N:List Str}(hN:N.Nodup){i j:Nat}{x:Str}(a:N[i]?=O x)(b:N[j]?=O x):i=j:=by
 obtain⟨h1,e1⟩:=SR.mp a
 obtain⟨h2,e2⟩:=SR.mp b
 exact(List.getElem_inj hN).mp (e1.trans e2.symm)
theorem uF{M:Model}{A:Around}{E:Value->Shared->Prop}{i:Nat}{x:Str}{v:V}{u:Value}{Q:Unit->Shared->Prop}(I:Inv X pins σ H s)(hN:X.N.Nodup)(hi:X.N[i]?=O x)(hx:JZ X.env.scope x)(r:RelV v u)
  (h:∀ s',Inv X pins (σ.set i (O v)) H s'->(∃ a,Heap.SameBut a s.heap s'.heap/\(a=X.env.locals\/X.env.cells.lookup x=O a))->Q () s') (hf:X.fn x=true\/X.env.scope.names.lookup x=O .local:=by first | exact .inl rfl | exact .inr rfl | assumption):wpAny M A (storeName X.env x u) Q E s:=by
 obtain⟨m,hn,hl⟩:=id I.loc
 have hcls:(X.env.scope.kind == .class||(X.env.scope.kind == .module&&X.env.locals != X.env.globals))=false:=by rw [I.ok.kind];rfl
 have hiσ:i < σ.length:=by rw [I.len];exact(SR.mp hi).1
 have cne:=I.cne
 have tracked:∀ {a:Addr} {h':Heap},(∃ o,s.heap.get? a=O o/\H a=U)->Heap.SameBut a s.heap h'->HOk X.prog X.w H h':=λ{a h'} ha hs b ob e=>by
  obtain⟨_,_,hfree⟩:=ha
  refine(I.hok b ob e).stay (λc w' hc q=>(hs.2 c ?_).trans q) (λ_ q=>q) λ_ _ q=>q
  rintro rfl
  rcases hc with rfl | hc
  ·rw [hfree] at e;cases e
  ·rw [hfree] at hc;cases hc
 rcases hx with hk | hk
 ·refine wpAny_storeName_local hk hn (λh' hn' hs=>?_) hcls
  obtain⟨oL,_,_,hoL,_⟩:=id hn
  refine h _ ⟨I.ok,I.os,I.bare,⟨λb o e n hb hx=>?_,λb o e n hb hx=>?_,I.base.free,λb o e hx=>?_,I.base.tups,I.base.frzs,I.base.tbls⟩,⟨_,hn',λj y v' e1 e2 e3=>?_⟩,λy c e=>?_,I.free,I.freeC,λp hp=>?_,tracked ⟨oL,hoL,I.free⟩ hs,by simpa using I.len⟩ ⟨_,hs,.inl rfl⟩
  ·exact(hs.2 b (Tk (Tf (SV e) I.ok.above))).trans (I.base.keep b o e n hb hx)
  ·obtain⟨sl,e1⟩:=I.base.slot b o e n hb hx
   exact⟨sl,(hs.2 b (Tk (Tf (SV e) I.ok.above))).trans e1⟩
  ·obtain⟨o',e1⟩:=I.base.there b o e hx
   exact⟨o',(hs.2 b (Tk (Tf (SV e) I.ok.above))).trans e1⟩
  ·by_cases hj:j=i
   ·subst hj
    rw [hi] at e1;cases e1
    rw [Uc hiσ] at e2
    cases e2
    exact⟨u,r,.inl ⟨hk,by simp⟩⟩
   ·rw [TK (Ne.symm hj)] at e2
    obtain⟨u',r',q⟩:=hl j y v' e1 e2 e3
    refine⟨u',r',?_⟩
    rcases q with ⟨k,e⟩ | ⟨k,c,e,z⟩
    ·refine .inl ⟨k,?_⟩
     have:y≠x:=λe=>hj (yO hN e1 (e ▸ hi))
     simp [this,e]
    ·exact .inr ⟨k,c,e,z.sameBut hs (cne y c e)⟩
  ·obtain⟨w',z⟩:=I.cell y c e
   exact⟨w',z.sameBut hs (cne y c e)⟩
  ·obtain⟨e,n,ne,nf,d⟩:=I.pin p hp
   exact⟨(hs.2 p.1 ne).trans e,n,ne,nf,d⟩
 ·have hfn:X.fn x=true:=by
   rcases hf with z | z
   ·exact z
   ·rw [z] at hk;cases hk
  obtain⟨c,hc⟩:=I.ok.has x (.inl hk)
  obtain⟨w',z⟩:=I.cell x c hc
  refine wpAny_storeName_cell I.ok.kind hk hc z (λh' hc' hs=>?_)
  obtain⟨oc,hoc,hocd⟩:=id z
  refine h { s with heap:=h' } ⟨I.ok,I.os,I.bare,⟨λb o e n hb hx=>?_,λb o e n hb hx=>?_,I.base.free,λb o e hx=>?_,I.base.tups,I.base.frzs,I.base.tbls⟩,⟨m,hn.sameBut hs (Ne.symm (cne x c hc)),λj y v' e1 e2 e3=>?_⟩,λy c' e=>?_,I.free,I.freeC,λp hp=>?_,tracked ⟨oc,hoc,I.freeC x c hc⟩ hs,by simpa using I.len⟩ ⟨c,hs,.inr hc⟩
  ·exact(hs.2 b (Tk (Tf (SV e) (I.ok.cab x c hfn hc)))).trans (I.base.keep b o e n hb hx)
  ·obtain⟨sl,e1⟩:=I.base.slot b o e n hb hx
   exact⟨sl,(hs.2 b (Tk (Tf (SV e) (I.ok.cab x c hfn hc)))).trans e1⟩
  ·obtain⟨o',e1⟩:=I.base.there b o e hx
   exact⟨o',(hs.2 b (Tk (Tf (SV e) (I.ok.cab x c hfn hc)))).trans e1⟩
  ·by_cases hj:j=i
   ·subst hj
    rw [hi] at e1;cases e1
    rw [Uc hiσ] at e2
    cases e2
    exact⟨u,r,.inr ⟨.inl hk,c,hc,hc'⟩⟩
   ·rw [TK (Ne.symm hj)] at e2
    obtain⟨u',r',q⟩:=hl j y v' e1 e2 e3
    refine⟨u',r',?_⟩
    rcases q with q | ⟨k,c',e,z'⟩
    ·exact .inl q
    ·refine .inr ⟨k,c',e,z'.sameBut hs ?_⟩
     rintro rfl
     exact hj (yO hN e1 (I.ok.inj _ _ _ e hc ▸ hi))
  ·by_cases hcc:c'=c
   ·subst hcc;exact⟨_,hc'⟩
   ·obtain⟨w2,z2⟩:=I.cell y c' e
    exact⟨w2,z2.sameBut hs hcc⟩
  ·obtain⟨e,n,ne,nf,d⟩:=I.pin p hp
   refine⟨(hs.2 p.1 ?_).trans e,n,ne,nf,d⟩
   intro q
   rw [q,hoc] at e
   have q':oc=p.2:=Tq e
   exact d w' (by rw [<- q'];exact hocd)
theorem ng{M:Model}{A:Around}{E:Value->Shared->Prop}{i:Nat}{x:Str}{v:V}{u:Value}{Q:Unit->Shared->Prop}(I:Inv X pins σ H s)(hN:X.N.Nodup)(hi:X.N[i]?=O x)(hx:JZ X.env.scope x)(r:RelV v u)
  (h:∀ s',Inv X pins (σ.set i (O v)) H s'->Q () s') (hf:X.fn x=true\/X.env.scope.names.lookup x=O .local:=by first | exact .inl rfl | exact .inr rfl | assumption):wpAny M A (storeName X.env x u) Q E s:=
 uF I hN hi hx r (λs' I' _=>h s' I') hf
theorem Inv.call'{s':Shared}{ch:List Addr}(I:Inv X pins σ H s)(ho:s'.os=s.os)(u:Un (FG X.stack) ch H H' s.heap s'.heap)(hok:HOk X.prog X.w H' s'.heap)(hg:AllBare s'.gens)
  (hch:∀ b∈ch,(b∈X.ex\/X.s₀.heap.objs.size<=b)/\b≠X.env.locals/\(∀ x c,X.env.cells.lookup x=O c->c≠b)/\∀ p∈X.pn++pins,p.1≠b):Inv X pins σ H' s':=by
 obtain⟨h',g',d',t',o'⟩:=s'
 have e:o'=s.os:=ho
 subst e
 exact I.call (g':=g') (t':=t') (d':=d') u hok hg hch
end
noncomputable abbrev XK:=Value->Option Addr->Hp->Prop
noncomputable abbrev St:=List (Option V)
noncomputable abbrev VK:=V->Hp->Prop
noncomputable abbrev TE:=St->Hp->VK->Prop
noncomputable abbrev TT:=St->Hp->(Bool->Hp->Prop)->Prop
noncomputable abbrev TA:=St->Hp->(List V->Hp->Prop)->Prop
structure tV where
 nx:St->Hp->Prop
 rt:VK
 bk:St->Hp->Prop:=λ_ _=>False
 ct:St->Hp->Prop:=λ_ _=>False
noncomputable abbrev TS:=tV->St->Hp->Prop
noncomputable def EP(X:Cx)(pins:List (Addr×Obj))(σ:St)(Q:VK)(u:Value)(s':Shared):Prop:=∃ v H',Inv X pins σ H' s'/\RelV v u/\Q v H'
noncomputable def TP(X:Cx)(pins:List (Addr×Obj))(σ:St)(Q:Bool->Hp->Prop)(b:Bool)(s':Shared):Prop:=∃ H',Inv X pins σ H' s'/\Q b H'
noncomputable def AP(X:Cx)(pins:List (Addr×Obj))(σ:St)(Q:List V->Hp->Prop)(us:List Value)(s':Shared):Prop:=∃ vs H',Inv X pins σ H' s'/\Vals vs us/\Q vs H'
noncomputable def SP(X:Cx)(pins:List (Addr×Obj))(D:tV)(f:Flow)(s':Shared):Prop:=
 match f with
 | .next=>∃ σ' H',Inv X pins σ' H' s'/\D.nx σ' H'
 | .brk=>∃ σ' H',Inv X pins σ' H' s'/\D.bk σ' H'
 | .cont=>∃ σ' H',Inv X pins σ' H' s'/\D.ct σ' H'
 | .ret u=>∃ v σ' H',Inv X pins σ' H' s'/\RelV v u/\D.rt v H'
noncomputable def PE(X:Cx)(e:Expr)(t:TE):Prop:=
 ∀ (pins:List (Addr×Obj)) (s:Shared) (σ:St) (H:Hp) (Q:VK),Inv X pins σ H s->t σ H Q->wpAny (model X.prog X.w) X.A (eval e X.env) (EP X pins σ Q) X.xe s
noncomputable def PT(X:Cx)(e:Expr)(t:TT):Prop:=
 ∀ (pins:List (Addr×Obj)) (s:Shared) (σ:St) (H:Hp) (Q:Bool->Hp->Prop),Inv X pins σ H s->t σ H Q->wpAny (model X.prog X.w) X.A (isTrue e X.env (eval e X.env)) (TP X pins σ Q) X.xe s
noncomputable def PW(X:Cx)(e:Expr)(t:TT):Prop:=
 ∀ (whole:Sem Value) (pins:List (Addr×Obj)) (s:Shared) (σ:St) (H:Hp) (Q:Bool->Hp->Prop),Inv X pins σ H s->t σ H Q->wpAny (model X.prog X.w) X.A (isTrue e X.env whole) (TP X pins σ Q) X.xe s
theorem PW.pt{X:Cx}{e:Expr}{t:TT}(h:PW X e t):PT X e t:=h _
noncomputable def PA(X:Cx)(es:List Expr)(t:TA):Prop:=
 ∀ (pos:Pos) (pins:List (Addr×Obj)) (s:Shared) (σ:St) (H:Hp) (Q:List V->Hp->Prop),Inv X pins σ H s->t σ H Q->wpAny (model X.prog X.w) X.A (spliced (backTo pos (starEach es X.env))) (AP X pins σ Q) X.xe s
noncomputable def PS(X:Cx)(st:Stmt)(t:TS):Prop:=
 ∀ (pins:List (Addr×Obj)) (s:Shared) (σ:St) (H:Hp) (D:tV),Inv X pins σ H s->t D σ H->wpAny (model X.prog X.w) X.A (exec st X.env) (SP X pins D) X.xe s
noncomputable def PSs(X:Cx)(st:List Stmt)(t:TS):Prop:=
 ∀ (pins:List (Addr×Obj)) (s:Shared) (σ:St) (H:Hp) (D:tV),Inv X pins σ H s->t D σ H->wpAny (model X.prog X.w) X.A (execs st X.env) (SP X pins D) X.xe s
theorem cF{α:Type}{t:Sem α}{Q Q':α->Shared->Prop}{M:Model}{A:Around}{E:Value->Shared->Prop}{s:Shared}(h:wpAny M A t Q E s)(hQ:∀ a s,Q a s->Q' a s):wpAny M A t Q' E s:=Tp h hQ λ_ _ x=>x
section
variable{X:Cx}
theorem bin{a b:Expr}{ta tb:TE}(ha:PE X a ta)(hb:PE X b tb){pins:List (Addr×Obj)}{s:Shared}{σ:St}{H:Hp}{R:V->V->Hp->Prop}(I:Inv X pins σ H s)(h:ta σ H λx H1=>tb σ H1 λy H2=>R x y H2)
  {α:Type} {Q:α->Shared->Prop} {f:Value->Value->Sem α}
  (hf:∀ v u s2 x y H2,Inv X pins σ H2 s2->RelV x v->RelV y u->R x y H2->wpAny (model X.prog X.w) X.A (f v u) Q X.xe s2) :
  wpAny (model X.prog X.w) X.A (eval a X.env) (λv s₁=>wpAny (model X.prog X.w) X.A (eval b X.env) (λu s₂=>wpAny (model X.prog X.w) X.A (f v u) Q X.xe s₂) X.xe s₁) X.xe s:=by
 refine cF (ha pins s σ H _ I h) λv s1 ⟨x,H1,I1,r1,q1⟩=>?_
 refine cF (hb pins s1 σ H1 _ I1 q1) λu s2 ⟨y,H2,I2,r2,q2⟩=>?_
 exact hf v u s2 x y H2 I2 r1 r2 q2
noncomputable def tVar(i:Nat):TE:=λσ H Q=>∃ v,σ[i]?=O (O v)/\Q v H
noncomputable def tC(v:V):TE:=λ_ H Q=>Q v H
theorem Pr{i:Nat}{x:Str}{pos:Pos}(hN:X.N[i]?=O x)(hv:Vis X.env.scope x)(hd:(x == ("__debug__":Str))=false:=by decide)(hcd:(x == ("__classdict__":Str))=false:=by decide):PE X (.Name x pos) (tVar i):=by
 intro pins s σ H Q I h
 obtain⟨v,e,h⟩:=h
 obtain⟨m,hn,hl⟩:=I.loc
 obtain⟨u,r,l⟩:=hl i x v hN e hv
 have fin:EP X pins σ Q u s:=⟨v,H,I,r,h⟩
 rcases l with ⟨hk,hm⟩ | ⟨hk,c,hc,hcell⟩
 ·exact wpAny_Name (wpAny_loadName_local I.ok.kind hk hn hm fin) hd
 ·rcases hk with hk | hk
  ·exact wpAny_Name (wpAny_loadName_cell I.ok.kind hk hc hcell fin) hd
  ·exact wpAny_Name (wpAny_loadName_free I.ok.kind hk hc hcell fin hcd) hd
theorem Px{i j pos}:PE X (.Constant (.int i) j pos) (tC (.int i)):=λ_ _ _ H _ I h=>wpAny_Constant_int ⟨.int i,H,I.tok _,⟨_,rfl⟩,h⟩
theorem pe_bl{b j pos}:PE X (.Constant (.bool b) j pos) (tC (.bl b)):=λ_ _ _ H _ I h=>Constant_bool ⟨.bl b,H,I,rfl,h⟩
theorem Pw{j pos}:PE X (.Constant .none j pos) (tC .non):=λ_ _ _ H _ I h=>Constant_none ⟨.non,H,I,rfl,h⟩
theorem Pt{x j pos}:PE X (.Constant (.str x) j pos) (tC (.str x)):=λ_ _ _ H _ I h=>Xv ⟨.str x,H,I.tok _,⟨_,rfl⟩,h⟩
noncomputable def Gl(X:Cx)(x:Str):Prop:=X.env.kindOf x=O .globalImplicit
theorem xy{E:Value->Shared->Prop}{pins:List (Addr×Obj)}{s:Shared}{σ:St}{H:Hp}{x:Str}{u:Value}{pos:Pos}{Q:Value->Shared->Prop}(I:Inv X pins σ H s)(hg:Gl X x)(hm:X.mg x=O u)(h:Q u s)
  (hd:(x == ("__debug__":Str))=false:=by decide):wpAny (model X.prog X.w) X.A (eval (.Name x pos) X.env) Q E s:=
 WE I.ok.kind hg (Calls.loadGlobal_global (by rw [I.ok.glob];exact I.mod.glob.keeps I.bk) hm h) hd
theorem jf{E:Value->Shared->Prop}{pins:List (Addr×Obj)}{s:Shared}{σ:St}{H:Hp}{x:Str}{u:Value}{pos:Pos}{Q:Value->Shared->Prop}(I:Inv X pins σ H s)(hg:Gl X x)(hm:X.mg x=U)(hv:bootBuiltins x=O u)(h:Q u s)
  (hn:x ≠ "__name__":=by decide) (hd:(x == ("__debug__":Str))=false:=by decide):wpAny (model X.prog X.w) X.A (eval (.Name x pos) X.env) Q E s:=by
 obtain⟨mb,h1,h2⟩:=I.mod.blt
 exact WE I.ok.kind hg (Calls.loadGlobal_builtin (by rw [I.ok.glob];exact I.mod.glob.keeps I.bk) hm (by rw [I.ok.blt];exact h1.keeps I.bk) ((h2 x hn).trans hv) h) hd
theorem Ck{x:Str}{v:V}{u:Value}{pos:Pos}(hg:Gl X x)(hm:X.mg x=O u)(r:RelV v u)(hd:(x == ("__debug__":Str))=false:=by decide):PE X (.Name x pos) (tC v):=
 λ_ _ _ H _ I h=>xy I hg hm ⟨v,H,I,r,h⟩ hd
theorem Ld{x:Str}{v:V}{u:Value}{pos:Pos}(hg:Gl X x)(hm:X.mg x=U)(hv:bootBuiltins x=O u)(r:RelV v u)(hn:x ≠ "__name__":=by decide)(hd:(x == ("__debug__":Str))=false:=by decide):PE X (.Name x pos) (tC v):=
 λ_ _ _ H _ I h=>jf I hg hm hv ⟨v,H,I,r,h⟩ hn hd
variable{a b:Expr}{ta tb:TE}{pos:Pos}
variable{tA tB':TT}{rest:List Expr}
noncomputable def tAnd(t u:TT):TT:=λσ H Q=>t σ H λc H1=>if c=true then u σ H1 Q else Q false H1
noncomputable def tOr(t u:TT):TT:=λσ H Q=>t σ H λc H1=>if c=true then Q true H1 else u σ H1 Q
noncomputable def tNot(t:TT):TT:=λσ H Q=>t σ H λc H1=>Q (!c) H1
theorem KD(ha:PT X a tA):PW X (.BoolOp .And [a] pos) tA:=by
 intro wh pins s σ H Q I h
 refine isTrue_and (cF (ha pins s σ H Q I h) λc s1 e=>?_)
 cases c with
 | true=>exact isTrue_and_nil e
 | false=>exact e
theorem Pc(ha:PT X a tA):PW X (.BoolOp .Or [a] pos) tA:=by
 intro wh pins s σ H Q I h
 refine isTrue_or (cF (ha pins s σ H Q I h) λc s1 e=>?_)
 cases c with
 | false=>exact isTrue_or_nil e
 | true=>exact e
theorem Pd(ha:PT X a tA)(hb:PW X (.BoolOp .And (b::rest) pos) tB'):PW X (.BoolOp .And (a::b::rest) pos) (tAnd tA tB'):=by
 intro wh pins s σ H Q I h
 refine isTrue_and (cF (ha pins s σ H _ I h) λc s1 ⟨H1,I1,q1⟩=>?_)
 cases c with
 | true=>exact hb wh pins s1 σ H1 Q I1 q1
 | false=>exact⟨H1,I1,q1⟩
theorem pw_or(ha:PT X a tA)(hb:PW X (.BoolOp .Or (b::rest) pos) tB'):PW X (.BoolOp .Or (a::b::rest) pos) (tOr tA tB'):=by
 intro wh pins s σ H Q I h
 refine isTrue_or (cF (ha pins s σ H _ I h) λc s1 ⟨H1,I1,q1⟩=>?_)
 cases c with
 | true=>exact⟨H1,I1,q1⟩
 | false=>exact hb wh pins s1 σ H1 Q I1 q1
theorem Pe(ha:PT X a tA):PT X (.UnaryOp .Not a pos) (tNot tA):=by
 intro pins s σ H Q I h
 exact isTrue_not (ha pins s σ H (λc H1=>Q (!c) H1) I h)
theorem Pv{op}{t:TE}(h:PE X a t):PE X (.BoolOp op [a] pos) t:=λpins s σ H Q I hw=>BoolOp_one (h pins s σ H Q I hw)
noncomputable def tIf(t:TT)(ta tb:TE):TE:=λσ H Q=>t σ H λc H1=>if c=true then ta σ H1 Q else tb σ H1 Q
theorem GO{c:Expr}(hc:PT X c tA)(ha:PE X a ta)(hb:PE X b tb):PE X (.IfExp c a b pos) (tIf tA ta tb):=by
 intro pins s σ H Q I h
 refine wpAny_IfExp (cF (hc pins s σ H _ I h) λd s1 ⟨H1,I1,q1⟩=>?_)
 cases d with
 | true=>exact ha pins s1 σ H1 Q I1 q1
 | false=>exact hb pins s1 σ H1 Q I1 q1
end
noncomputable def jk(K:W.Frag)(H:Hp)(a:Addr)(xs:List V):Prop:=
 Rd H a (.lst xs) \/
  ∃ (o:Obj) (its:Array Value) (n:Nat),K.lookup a=O o/\o.cls=.type "list"/\o.dict=U/\o.data=.seq its n/\its.size<=sizeLine/\Vals xs its.toList
noncomputable def kS(K:W.Frag)(H:Hp)(a:Addr)(xs:List V):Prop:=
 Rd H a (.tup xs) \/
  ∃ (o:Obj) (its:Array Value) (n:Nat),K.lookup a=O o/\o.cls=.type "tuple"/\o.dict=U/\o.data=.seq its n/\its.size<=sizeLine/\Vals xs its.toList
noncomputable def absV:Value->Option V
 | .none=>O .non
 | .bool b=>O (.bl b)
 | .int i _=>O (.int i)
 | .str x _=>O (.str x)
 | .bytes b _=>O (.byt b)
 | .float b _=>O (.flt b)
 | .ref a=>O (.ref a)
 | .type n=>O (.ty n)
 | _=>U
theorem RelV.abs{x:V}{u:Value}(r:RelV x u):absV u=O x:=by
 cases x with
 | non=>cases r;rfl
 | bl _=>cases r;rfl
 | int _=>obtain⟨t,rfl⟩:=r;rfl
 | str _=>obtain⟨t,rfl⟩:=r;rfl
 | byt _=>obtain⟨t,rfl⟩:=r;rfl
 | flt _=>obtain⟨t,rfl⟩:=r;rfl
 | ref _=>cases r;rfl
 | ty _=>cases r;rfl
theorem RelV.inj{x y:V}{u:Value}(r:RelV x u)(q:RelV y u):x=y:=Tq (r.abs.symm.trans q.abs)
theorem Vals.inj:∀ {xs ys:List V} {us:List Value},Vals xs us->Vals ys us->xs=ys
 | _,_,_,.nil,.nil=>rfl
 | _,_,_,.cons r t,.cons r' t'=>by rw [r.inj r',Vals.inj t t']
section
variable{X:Cx}{pins:List (Addr×Obj)}{σ:St}{H:Hp}{s:Shared}{a:Addr}{xs ys:List V}
theorem Inv.list(I:Inv X pins σ H s)(h:jk X.K H a xs):∃ its:List Value,Vals xs its/\PlainL s.heap a its.toArray/\xs.length<=sizeLine:=by
 rcases h with h | ⟨o,its,n,hk,hc,hd,hs,hz,r⟩
 ·obtain⟨z,its,n,r,e⟩:=h.ok I.hok
  exact⟨its,r,⟨_,n,e,rfl,rfl,rfl⟩,z⟩
 ·refine⟨its.toList,r,⟨o,n,I.kIn a o hk,hc,hd,by simpa using hs⟩,?_⟩
  have e:=r.length
  simp only [UU] at e
  omega
theorem Inv.tuple(I:Inv X pins σ H s)(h:kS X.K H a xs):∃ its:List Value,Vals xs its/\IsTup s.heap a its.toArray/\xs.length<=sizeLine:=by
 rcases h with h | ⟨o,its,n,hk,hc,hdn,hs,hz,r⟩
 ·obtain⟨z,its,r,p⟩:=h.ok I.hok
  exact⟨its,r,p.up,z⟩
 ·refine⟨its.toList,r,⟨o,I.kIn a o hk,hc,n,by simpa using hs⟩,?_⟩
  have e:=r.length
  simp only [UU] at e
  omega
theorem Inv.list_inj(I:Inv X pins σ H s)(h:jk X.K H a xs)(h':jk X.K H a ys):xs=ys:=by
 obtain⟨its,r,⟨o,n,e,_,_,d⟩,_⟩:=I.list h
 obtain⟨its',r',⟨o',n',e',_,_,d'⟩,_⟩:=I.list h'
 rw [e] at e';cases e'
 rw [d] at d'
 injection d' with d1 _
 have:its=its':=by simpa using congrArg Array.toList d1
 subst this
 exact r.inj r'
theorem Inv.tuple_inj(I:Inv X pins σ H s)(h:kS X.K H a xs)(h':kS X.K H a ys):xs=ys:=by
 obtain⟨its,r,⟨o,e,_,n,d⟩,_⟩:=I.tuple h
 obtain⟨its',r',⟨o',e',_,n',d'⟩,_⟩:=I.tuple h'
 rw [e] at e';cases e'
 rw [d] at d'
 injection d' with d1 _
 have:its=its':=by simpa using congrArg Array.toList d1
 subst this
 exact r.inj r'
end
noncomputable abbrev Cx.wish(X:Cx)(E:Value->Shared->Prop):Cx:={ X with xe:=E }
noncomputable abbrev Cx.nox(X:Cx):Cx:=X.wish λ_ _=>False
theorem Cx.Ok.wish{X:Cx}(ok:X.Ok)(E:Value->Shared->Prop):(X.wish E).Ok:=
 ⟨ok.mod,ok.kind,ok.glob,ok.blt,ok.above,ok.inj,ok.has,ok.cab,ok.hd,ok.frames,ok.stk,ok.exf,ok.bs,ok.bsz,ok.noex,ok.exfs,ok.funs,ok.frf⟩
theorem Cx.Ok.unwish{X:Cx}{E:Value->Shared->Prop}(ok:(X.wish E).Ok):X.Ok:=
 ⟨ok.mod,ok.kind,ok.glob,ok.blt,ok.above,ok.inj,ok.has,ok.cab,ok.hd,ok.frames,ok.stk,ok.exf,ok.bs,ok.bsz,ok.noex,ok.exfs,ok.funs,ok.frf⟩
section
variable{X:Cx}{pins:List (Addr×Obj)}{σ:St}{H:Hp}{s:Shared}{E:Value->Shared->Prop}
theorem Inv.wish(I:Inv X pins σ H s)(E:Value->Shared->Prop):Inv (X.wish E) pins σ H s:=⟨I.ok.wish E,I.os,I.bare,I.base,I.loc,I.cell,I.free,I.freeC,I.pin,I.hok,I.len⟩
theorem Inv.unwish(I:Inv (X.wish E) pins σ H s):Inv X pins σ H s:=⟨I.ok.unwish,I.os,I.bare,I.base,I.loc,I.cell,I.free,I.freeC,I.pin,I.hok,I.len⟩
theorem SP.unwish{D:tV}{f:Flow}{s':Shared}(h:SP (X.wish E) pins D f s'):SP X pins D f s':=by
 cases f with
 | next=>obtain⟨σ',H',I,q⟩:=h;exact⟨σ',H',I.unwish,q⟩
 | brk=>obtain⟨σ',H',I,q⟩:=h;exact⟨σ',H',I.unwish,q⟩
 | cont=>obtain⟨σ',H',I,q⟩:=h;exact⟨σ',H',I.unwish,q⟩
 | ret u=>obtain⟨v,σ',H',I,r,q⟩:=h;exact⟨v,σ',H',I.unwish,r,q⟩
theorem PSs.nox{st:List Stmt}{t:TS}(h:PSs X.nox st t):PSs X st t:=λpins s σ H D I hw=>
 Tp (h pins s σ H D (I.wish _) hw) (λ_ _ q=>q.unwish) λ_ _ z=>False.elim z
end
section
variable{X:Cx}{st:Stmt}{rest:List Stmt}{t u:TS}{e:Expr}{te:TE}{pos:Pos}
noncomputable def FU:TS:=λD σ H=>D.nx σ H
noncomputable def tSeq(t u:TS):TS:=λD σ H=>t { D with nx:=u D } σ H
theorem KI:PSs X [] FU:=λ_ _ σ H _ I h=>Wv ⟨σ,H,I,h⟩
theorem GA(h1:PS X st t)(h2:PSs X rest u):PSs X (st::rest) (tSeq t u):=by
 intro pins s σ H D I h
 refine wpAny_execs_cons (cF (h1 pins s σ H { D with nx:=u D } I h) λf s1 q=>?_)
 cases f with
 | next=>
  obtain⟨σ',H',I',q⟩:=q
  exact h2 pins s1 σ' H' D I' q
 | ret v=>exact q
 | brk=>exact q
 | cont=>exact q
theorem KH(h1:PS X st t):PSs X [st] t:=by
 intro pins s σ H D I h
 refine wpAny_execs_cons (cF (h1 pins s σ H D I h) λf s1 q=>?_)
 cases f with
 | next=>exact Wv q
 | ret v=>exact q
 | brk=>exact q
 | cont=>exact q
noncomputable def OL:TS:=λD σ H=>D.bk σ H
noncomputable def tCont:TS:=λD σ H=>D.ct σ H
theorem KL:PS X (.Pass pos) FU:=λ_ _ σ H _ I h=>wpAny_Pass ⟨σ,H,I,h⟩
theorem GD:PS X (.Break pos) OL:=λ_ _ σ H _ I h=>wpAny_Break ⟨σ,H,I,h⟩
theorem yH:PS X (.Continue pos) tCont:=λ_ _ σ H _ I h=>wpAny_Continue ⟨σ,H,I,h⟩
theorem Inv.quiet{pins:List (Addr×Obj)}{σ:St}{H:Hp}{s:Shared}(I:Inv X pins σ H s):interactive X.env=false:=by simp [interactive,I.ok.kind]
theorem Pi{x j pos pos'}:PS X (.Expr (.Constant (.str x) j pos) pos') FU:=λ_ s σ H _ I h=>wpAny_Expr (Xv (show SP X _ _ .next { s with toks:=s.toks+1 } from ⟨σ,H,I.tok _,h⟩)) I.quiet
noncomputable def tDrop(te:TE):TS:=λD σ H=>te σ H λ_ H1=>D.nx σ H1
theorem KM(he:PE X e te)(hs:swapsWith e U pos.line X.env=pure false:=by rfl):PS X (.Expr e pos) (tDrop te):=by
 intro pins s σ H D I h
 exact wpAny_Expr_any (cF (he pins s σ H _ I h) λv s1 ⟨x,H1,I1,r1,q1⟩=>⟨σ,H1,I1,q1⟩) I.quiet hs
noncomputable def tRet(te:TE):TS:=λD σ H=>te σ H D.rt
theorem Pg(he:PE X e te):PS X (.Return (O e) pos) (tRet te):=by
 intro pins s σ H D I h
 exact wpAny_Return_some (cF (he pins s σ H _ I h) λv s1 ⟨x,H1,I1,r1,q1⟩=>⟨x,σ,H1,I1,r1,q1⟩)
noncomputable def tRetN:TS:=λD _ H=>D.rt .non H
theorem KJ:PS X (.Return U pos) tRetN:=λ_ _ σ H _ I h=>wpAny_Return_none ⟨.non,σ,H,I,rfl,h⟩
noncomputable def tIfS(c:TT)(t u:TS):TS:=λD σ H=>c σ H λb H1=>if b=true then t D σ H1 else u D σ H1
theorem ps_if{c:Expr}{a b:List Stmt}{tc:TT}(hc:PT X c tc)(ha:PSs X a t)(hb:PSs X b u):PS X (.If c a b pos) (tIfS tc t u):=by
 intro pins s σ H D I h
 refine wpAny_If (cF (hc pins s σ H _ I h) λd s1 ⟨H1,I1,q1⟩=>?_)
 cases d with
 | true=>exact ha pins s1 σ H1 D I1 q1
 | false=>exact hb pins s1 σ H1 D I1 q1
end
noncomputable abbrev TG:=V->St->Hp->(St->Hp->Prop)->Prop
noncomputable abbrev FH:=List V->St->Hp->(St->Hp->Prop)->Prop
noncomputable def PG(X:Cx)(target:Expr)(t:TG):Prop:=
 ∀ (pins:List (Addr×Obj)) (s:Shared) (σ:St) (H:Hp) (v:V) (u:Value) (Q:St->Hp->Prop),Inv X pins σ H s->RelV v u->t v σ H Q ->
  wpAny (model X.prog X.w) X.A (assign target X.env u) (λ_ s'=>∃ σ' H',Inv X pins σ' H' s'/\Q σ' H') X.xe s
noncomputable def PGs(X:Cx)(ts:List Expr)(t:FH):Prop:=
 ∀ (pins:List (Addr×Obj)) (s:Shared) (σ:St) (H:Hp) (vs:List V) (us:List Value) (Q:St->Hp->Prop),Inv X pins σ H s->Vals vs us->t vs σ H Q ->
  wpAny (model X.prog X.w) X.A (assignInOrder ((assignEach ts X.env).map (·.2)) us) (λ_ s'=>∃ σ' H',Inv X pins σ' H' s'/\Q σ' H') X.xe s
noncomputable abbrev SD:=V->V->V->Hp->(Hp->Prop)->Prop
noncomputable def PSet(X:Cx)(t:SD):Prop:=
 ∀ (pins:List (Addr×Obj)) (s:Shared) (σ:St) (H:Hp) (o i v:V) (ov iv u:Value) (Q:Hp->Prop),Inv X pins σ H s->RelV o ov->RelV i iv->RelV v u->t o i v H Q ->
  wpAny (model X.prog X.w) X.A (setItem ov iv u) (λ_ s'=>∃ H',Inv X pins σ H' s'/\Q H') X.xe s
section
variable{X:Cx}{pos:Pos}
noncomputable def Dg(i:Nat):TG:=λv σ H Q=>Q (σ.set i (O v)) H
theorem KY{i:Nat}{x:Str}(hN:X.N.Nodup)(hi:X.N[i]?=O x)(hx:JZ X.env.scope x)(hf:X.fn x=true\/X.env.scope.names.lookup x=O .local:=by first | exact .inl rfl | exact .inr rfl | assumption):PG X (.Name x pos) (Dg i):=by
 intro pins s σ H v u Q I r h
 exact wpAny_assign_Name (ng I hN hi hx r (λs' I'=>⟨_,H,I',h⟩) hf)
noncomputable def gNil:FH:=λvs σ H Q=>vs=[]/\Q σ H
noncomputable def gCons(t:TG)(u:FH):FH:=λvs σ H Q=>∃ v r,vs=v::r/\t v σ H λσ' H'=>u r σ' H' Q
theorem KU:PGs X [] gNil:=by
 intro pins s σ H vs us Q I r h
 obtain⟨e,h⟩:=h
 subst e
 cases r
 exact assignInOrder_nil ⟨σ,H,I,h⟩
theorem GJ{e:Expr}{es:List Expr}{t:TG}{u:FH}(h1:PG X e t)(h2:PGs X es u)
  (hs:(assignEach (e::es) X.env).map (·.2)=assign e X.env::(assignEach es X.env).map (·.2):=by rfl):PGs X (e::es) (gCons t u):=by
 intro pins s σ H vs us Q I r h
 obtain⟨v,vr,e1,h⟩:=h
 subst e1
 cases r with
 | cons r rr=>
  rw [hs]
  refine VW (cF (h1 pins s σ H _ _ _ I r h) λ_ s1 ⟨σ1,H1,I1,q1⟩=>?_)
  exact h2 pins s1 σ1 H1 _ _ Q I1 rr q1
noncomputable def gTup(K:W.Frag)(n:Nat)(t:FH):TG:=λv σ H Q=>∃ a xs,v=.ref a/\kS K H a xs/\xs.length=n/\t xs σ H Q
theorem Po{es:List Expr}{k:Nat}{t:FH}{n:Nat}(hc:X.calm=true)(h:PGs X es t)
  (hn:(assignEach es X.env).length=n:=by rfl) (hst:(assignEach es X.env).findIdx? (·.1)=U:=by rfl):PG X (.Tuple es k pos) (gTup X.K n t):=by
 intro pins s σ H v u Q I r hw
 obtain⟨a,xs,e1,hq,hl,hw⟩:=hw
 subst e1
 cases r
 obtain⟨its,rv,ht,hz⟩:=I.tuple hq
 refine assign_Tuple_tuple (I.ok.hd hc) ht (by simp [hn,<- hl,rv.length]) hst λh' hx=>?_
 have I1:Inv X pins σ H { s with heap:=h' }:=I.kept (t':=s.toks) λb o e=>hx b o (Tk (SV e)) e
 exact h pins _ σ H xs _ Q I1 (by simpa using rv) hw
noncomputable def gSub(to ti:TE)(t:SD):TG:=λv σ H Q=>to σ H λo H1=>ti σ H1 λi H2=>t o i v H2 λH3=>Q σ H3
theorem Pp{o i:Expr}{to ti:TE}{t:SD}(ho:PE X o to)(hi:PE X i ti)(hs:PSet X t)
  (ha:∀ v,assign (.Subscript o i pos) X.env v=(do
   let ov <- holding [v] (eval o X.env)
   let iv <- holding [v,ov] (eval i X.env)
   standAt pos
   holding [v,ov,iv] (setItem ov iv v)
   release [v,ov,iv] []):=by intro _;rfl):PG X (.Subscript o i pos) (gSub to ti t):=by
 intro pins s σ H v u Q I r h
 rw [ha]
 refine SK (Tu (cF (ho pins s σ H _ I h) λov s1 ⟨x,H1,I1,r1,q1⟩=>?_))
 refine SK (Tu (cF (hi pins s1 σ H1 _ I1 q1) λiv s2 ⟨y,H2,I2,r2,q2⟩=>?_))
 refine SK (Ue (SK (Tu (cF (hs pins s2 σ H2 x y v ov iv u _ I2 r1 r2 r q2) λ_ s3 ⟨H3,I3,q3⟩=>?_))))
 exact wpAny_release ⟨σ,H3,I3,q3⟩
noncomputable def FZ(te:TE)(g:TG):TS:=λD σ H=>te σ H λx H1=>g x σ H1 D.nx
theorem Pj{tg e:Expr}{te:TE}{g:TG}(he:PE X e te)(hg:PG X tg g)(hs:swapsWithSole [tg] e pos.line X.env=pure false:=by rfl)(hw:swappedStores [tg] e X.env=pure U:=by rfl)
  (h1:(assignEach [tg] X.env).map (·.2)=[assign tg X.env]:=by rfl):PS X (.Assign [tg] e pos) (FZ te g):=by
 intro pins s σ H D I h
 refine wpAny_Assign_stores (cF (he pins s σ H _ I h) λv s1 ⟨x,H1,I1,r1,q1⟩=>?_) hs hw
 rw [h1]
 exact cF (hg pins s1 σ H1 x v _ I1 r1 q1) λ_ s2 q=>q
theorem Pf{i:Nat}{x:Str}{e:Expr}{te:TE}{pos':Pos}(hN:X.N.Nodup)(hi:X.N[i]?=O x)(hx:JZ X.env.scope x)(he:PE X e te)(hs:swapsWith e (O (.Name x pos')) pos.line X.env=pure false:=by rfl)(hf:X.fn x=true\/X.env.scope.names.lookup x=O .local:=by first | exact .inl rfl | exact .inr rfl | assumption) :
  PS X (.Assign [.Name x pos'] e pos) (FZ te (Dg i)):=by
 intro pins s σ H D I h
 refine wpAny_Assign_Name (cF (he pins s σ H _ I h) λv s1 ⟨y,H1,I1,r1,q1⟩=>?_) hs
 exact ng I1 hN hi hx r1 (λs2 I2=>⟨_,H1,I2,q1⟩) hf
noncomputable def tPar(i j:Nat)(ta:TA):TS:=λD σ H=>ta σ H λvs H1=>∃ v w,vs=[v,w]/\D.nx ((σ.set i (O v)).set j (O w)) H1
theorem Ph{i j:Nat}{x y:Str}{a b:Expr}{ta:TA}{px py pt:Pos}{kt k2 pt2}(hc:X.calm=true)(hN:X.N.Nodup)(hi:X.N[i]?=O x)(hj:X.N[j]?=O y)(hij:i≠j)
  (hx:X.env.scope.names.lookup x=O .local) (hy:X.env.scope.names.lookup y=O .local) (ha:PA X [a,b] ta)
  (hw:swappedStores [.Tuple [.Name x px,.Name y py] kt pt] (.Tuple [a,b] k2 pt2) X.env=pure (O [x,y]))
  (hs:swapsWithSole [.Tuple [.Name x px,.Name y py] kt pt] (.Tuple [a,b] k2 pt2) pos.line X.env=pure false:=by rfl) :
  PS X (.Assign [.Tuple [.Name x px,.Name y py] kt pt] (.Tuple [a,b] k2 pt2) pos) (tPar i j ta):=by
 intro pins s σ H D I h
 rw [exec_Assign_arm]
 refine SK (Ue ?_)
 rw [hs]
 refine SK (SU ?_)
 rw [Ts (by decide)]
 refine SK (Tuple_ (cF (ha _ pins s σ H _ I h) λus s1 ⟨vs,H1,I1,r1,q1⟩=>?_))
 obtain⟨v,w,e1,q1⟩:=q1
 subst e1
 obtain⟨u1,u2,rfl,rv,rw'⟩:∃ u1 u2,us=[u1,u2]/\RelV v u1/\RelV w u2:=by
  cases r1 with
  | cons p q=>
   cases q with
   | cons p' q'=>
    cases q'
    exact⟨_,_,rfl,p,p'⟩
 refine TL ?_ (by show 2<=sizeLine;decide)
 have I2:Inv X pins σ H1 { s1 with heap:=s1.heap.push { cls:=.type "tuple",data:=.seq [u1,u2].toArray } }:=I1.kept (t':=s1.toks) λb o e=>SL _ e
 rw [hw]
 refine SK (SU ?_)
 show wpAny (model X.prog X.w) X.A (do rule "assign.swapped-stores";let items <- unpackItems (.ref s1.heap.objs.size) 2 U;assignInOrder [λv=>bindName X.env y v,λv=>bindName X.env x v] items.reverse;pure Flow.next) _ _ _
 refine SK (Vl (SK (unpackItems_tuple (items:=#[u1,u2]) (I.ok.hd hc) (IsTup.new s1.heap _) λh' hx'=>?_)))
 have I3:=I2.kept (h':=h') (t':=s1.toks) λb o e=>hx' b o (Tk (SV e)) e
 show wpAny _ _ (assignInOrder [λv=>bindName X.env y v,λv=>bindName X.env x v] [u2,u1] >>= λ_=>pure Flow.next) _ _ _
 refine SK (VW (wpAny_bindName (ng I3 hN hj (.inl hy) rw' (λs2 I4=>?_) (.inr hy))))
 refine VW (wpAny_bindName (ng I4 hN hi (.inl hx) rv (λs3 I5=>assignInOrder_nil (SU ?_)) (.inr hx)))
 rw [List.set_comm _ _ (Ne.symm hij)] at I5
 exact⟨_,H1,I5,q1⟩
end
section
variable{X:Cx}{pos:Pos}
end
structure It where
 go:Nat->Hp->Prop
 yld:Nat->Hp->V->Hp->Prop
 stop:Nat->Hp->Prop
noncomputable def lV(X:Cx)(pins:List (Addr×Obj))(H:Hp)(b:Addr):Prop:=
 H b=U/\b≠X.env.locals/\b ∉ X.fs/\(b∈X.ex\/X.s₀.heap.objs.size<=b)/\(∀ x c,X.env.cells.lookup x=O c->c≠b)/\∀ p∈X.pn++pins,p.1≠b
theorem Inv.fpOk{X:Cx}{pins:List (Addr×Obj)}{σ:St}{H H':Hp}{s:Shared}{b:Addr}(I:Inv X pins σ H s)(hb:s.heap.objs.size<=b)(hn:H' b=U):lV X pins H' b:=by
 refine⟨hn,Uh (Tf I.lt hb),I.nofs hb,.inr (Th I.sz hb),λx c e z=>?_,λp hp z=>?_⟩
 ·obtain⟨v,q⟩:=I.cell x c e
  exact absurd (Tf q.lt (by rw [z];exact hb)) (Uf _)
 ·exact absurd (Tf (SV (I.pin p hp).1) (by rw [z];exact hb)) (Uf _)
structure um(P:Program)(w:World)(K:W.Frag)(tg:Expr)(J:It)(fp:List Addr)(it:Addr)(tn:Nat->Heap->Prop):Prop where
 mem:it∈fp
 obj:∀ i h,tn i h->∀ b∈fp,∃ o,h.get? b=O o/\∀ v,o.data≠.cell v
 keep:∀ i h h',tn i h->(∀ b∈fp,∀ o,h.get? b=O o->h'.get? b=O o)->tn i h'
 item:∀ (X:Cx),X.prog=P->X.w=w->X.K=K->X.calm=true->∀ (i:Nat) (pins:List (Addr×Obj)) (s:Shared) (σ:St) (H:Hp) (E:Value->Shared->Prop),Inv X pins σ H s->(∀ b∈fp,lV X pins H b)->tn i s.heap->J.go i H ->
  wpAny (model P w) X.A (pyNext (.ref it)) (λr s1=>∃ u,r=O u /\
   wpAny (model P w) X.A (letOwnedTupleGo tg (.ref it) u) (λ_ s2=>∃ x H',Inv X pins σ H' s2/\RelV x u/\J.yld i H x H'/\tn (i+1) s2.heap/\∀ b∈fp,H' b=U) E s1) E s
 done:∀ (X:Cx),X.prog=P->X.w=w->X.K=K->X.calm=true->∀ (i:Nat) (pins:List (Addr×Obj)) (s:Shared) (σ:St) (H:Hp) (E:Value->Shared->Prop),Inv X pins σ H s->(∀ b∈fp,lV X pins H b)->tn i s.heap->J.stop i H ->
  wpAny (model P w) X.A (pyNext (.ref it)) (λr s1=>r=U/\Inv X pins σ H s1) E s
 self:∀ (A:Around) (i:Nat) (s:Shared) (Q:Value->Shared->Prop) (E:Value->Shared->Prop),tn i s.heap->Q (.ref it) s->wpAny (model P w) A (pyIter (.ref it)) Q E s
noncomputable abbrev TI:=St->Hp->(It->Hp->Prop)->Prop
noncomputable def PIE(X:Cx)(pins:List (Addr×Obj))(σ:St)(tg:Expr)(R:It->Hp->Prop)(itv:Value)(s2:Shared):Prop:=
 ∃ (it:Addr) (fp:List Addr) (tn:Nat->Heap->Prop) (J:It) (H':Hp),itv=.ref it/\Inv X pins σ H' s2/\um X.prog X.w X.K tg J fp it tn/\tn 0 s2.heap/\(∀ b∈fp,lV X pins H' b)/\R J H'
noncomputable def PI(X:Cx)(tg iter:Expr)(wi:TI):Prop:=
 ∀ (pins:List (Addr×Obj)) (s:Shared) (σ:St) (H:Hp) (R:It->Hp->Prop),Inv X pins σ H s->wi σ H R ->
  wpAny (model X.prog X.w) X.A (eval iter X.env) (λv s1=>wpAny (model X.prog X.w) X.A (pyIter v) (PIE X pins σ tg R) X.xe s1) X.xe s
theorem De{M:Model}{A:Around}{E:Value->Shared->Prop}{s:Shared}{tg:Expr}{it:Addr}{u:Value}{o:Obj}{n:String}{vs:Array Value}{Q:Unit->Shared->Prop}(ho:s.heap.get? it=O o)(hc:o.cls=.type n)(hd:o.data=.fields vs)
  (hn:["enumerate","zip","dict_itemiterator","dict_reverseitemiterator","odict_iterator","itertools.zip_longest","itertools.pairwise"].contains n=false) (hQ:Q () s):wpAny M A (letOwnedTupleGo tg (.ref it) u) Q E s:=by
 unfold letOwnedTupleGo
 cases tg <;> first
  | exact SU hQ
  | (cases u <;> first
    | exact SU hQ
    | (refine SK (wpAny_load ho ?_); rw [hc,hd]; show wpAny M A (if (["enumerate","zip","dict_itemiterator","dict_reverseitemiterator","odict_iterator","itertools.zip_longest","itertools.pairwise"].contains n&&vs[0]? == O (rawInt _))=true then _ else _) Q E s; rw [Ts (by intro h;rw [hn,UR] at h;cases h)]; exact SU hQ))
noncomputable def Itl(K:W.Frag)(a:Addr):It:=
 ⟨λi H=>∃ xs x,jk K H a xs/\xs[i]?=O x,λi H x H'=>H'=H/\∀ xs,jk K H a xs->xs[i]?=O x,λi H=>∃ xs,jk K H a xs/\xs.length<=i⟩
noncomputable def Itt(K:W.Frag)(a:Addr):It:=
 ⟨λi H=>∃ xs x,kS K H a xs/\xs[i]?=O x,λi H x H'=>H'=H/\∀ xs,kS K H a xs->xs[i]?=O x,λi H=>∃ xs,kS K H a xs/\xs.length<=i⟩
noncomputable def Itr(lo:Int)(n:Nat):It:=⟨λi _=>i<n,λi H x H'=>H'=H/\x=.int (lo+i),λi _=>n<=i⟩
theorem uu{P:Program}{w:World}{K:W.Frag}{tg:Expr}(a it:Addr):um P w K tg (Itl K a) [it] it (λi h=>h.IsListIter it a i) where
 mem:=by simp
 obj:=λi h st b hb=>by
  have e:b=it:=by simpa using hb
  subst e
  obtain⟨o,e,c,d⟩:=st
  exact⟨o,e,λv z=>by rw [d] at z;cases z⟩
 keep:=λi h h' st k=>st.at λo e=>k it (by simp) o e
 item:=by
  intro X hP hw hK hc i pins s σ H E I hf st hg
  subst hP hw hK
  obtain⟨xs,x,hq,hx⟩:=hg
  obtain⟨its,rv,p,hz⟩:=I.list hq
  obtain⟨u,hu,ru⟩:=rv.get hx
  obtain⟨f0,f1,f2,f3,f4,f5⟩:=hf it (by simp)
  refine WR st p.isList (x:=u) (by simpa using hu) λh' st' sb=>?_
  have I1:Inv X pins σ H { s with heap:=h' }:=I.turned (t':=s.toks) (λb o hb e=>(sb.2 b hb).trans e) f0 f1 f3 f4 f5
  obtain⟨o,e,c,d⟩:=id st'
  exact⟨u,rfl,De (s:={ s with heap:=h' }) e c d (by decide) ⟨x,H,I1,ru,⟨rfl,λys hy=>by rw [I.list_inj hy hq];exact hx⟩,st',λb hb=>(hf b hb).1⟩⟩
 done:=by
  intro X hP hw hK hc i pins s σ H E I hf st hg
  subst hP hw hK
  obtain⟨xs,hq,hx⟩:=hg
  obtain⟨its,rv,p,hz⟩:=I.list hq
  obtain⟨f0,f1,f2,f3,f4,f5⟩:=hf it (by simp)
  have hl:=rv.length
  exact WY (I.ok.hd hc) st p.isList (by simp;omega) λh' eb=>⟨rfl,I.turned (t':=s.toks) (λb o hb e=>eb b o hb e) f0 f1 f3 f4 f5⟩
 self:=λ_ _ _ _ _ st h=>wpAny_pyIter_listiter st h
theorem AD{P:Program}{w:World}{K:W.Frag}{tg:Expr}(a it:Addr):um P w K tg (Itt K a) [it] it (λi h=>h.IsTupleIter it a i) where
 mem:=by simp
 obj:=λi h st b hb=>by
  have e:b=it:=by simpa using hb
  subst e
  obtain⟨o,e,c,d⟩:=st
  exact⟨o,e,λv z=>by rw [d] at z;cases z⟩
 keep:=λi h h' st k=>st.at λo e=>k it (by simp) o e
 item:=by
  intro X hP hw hK hc i pins s σ H E I hf st hg
  subst hP hw hK
  obtain⟨xs,x,hq,hx⟩:=hg
  obtain⟨its,rv,p,hz⟩:=I.tuple hq
  obtain⟨u,hu,ru⟩:=rv.get hx
  obtain⟨f0,f1,f2,f3,f4,f5⟩:=hf it (by simp)
  refine wpAny_pyNext_tuple_item st (show s.heap.IsTuple a its.toArray from p) (x:=u) (by simpa using hu) λh' st' sb=>?_
  have I1:Inv X pins σ H { s with heap:=h' }:=I.turned (t':=s.toks) (λb o hb e=>(sb.2 b hb).trans e) f0 f1 f3 f4 f5
  obtain⟨o,e,c,d⟩:=id st'
  exact⟨u,rfl,De (s:={ s with heap:=h' }) e c d (by decide) ⟨x,H,I1,ru,⟨rfl,λys hy=>by rw [I.tuple_inj hy hq];exact hx⟩,st',λb hb=>(hf b hb).1⟩⟩
 done:=by
  intro X hP hw hK hc i pins s σ H E I hf st hg
  subst hP hw hK
  obtain⟨xs,hq,hx⟩:=hg
  obtain⟨its,rv,p,hz⟩:=I.tuple hq
  obtain⟨f0,f1,f2,f3,f4,f5⟩:=hf it (by simp)
  have hl:=rv.length
  exact wpAny_pyNext_tuple_end (I.ok.hd hc) st (show s.heap.IsTuple a its.toArray from p) (by simp;omega) λh' eb=>⟨rfl,I.turned (t':=s.toks) (λb o hb e=>eb b o hb e) f0 f1 f3 f4 f5⟩
 self:=λ_ _ _ _ _ st h=>wpAny_pyIter_tupleiter st h
theorem AE{P:Program}{w:World}{K:W.Frag}{tg:Expr}(it:Addr)(lo:Int)(n:Nat):um P w K tg (Itr lo n) [it] it (λi h=>IsRangeIter h it (lo+(i:Nat) * 1) ((n:Int) - (i:Nat)) 1) where
 mem:=by simp
 obj:=λi h st b hb=>by
  have e:b=it:=by simpa using hb
  subst e
  exact⟨_,st,λv z=>by
   have z':Data.fields _=Data.cell v:=z
   cases z'⟩
 keep:=λi h h' st k=>k it (by simp) _ st
 item:=by
  intro X hP hw hK hc i pins s σ H E I hf st hg
  subst hP hw hK
  obtain⟨f0,f1,f2,f3,f4,f5⟩:=hf it (by simp)
  have W:=Walks.range (prog:=X.prog) (w:=X.w) (I.ok.hd hc) it lo 1 n
  refine W.item i s _ _ hg st λv h' tk hv st' kk=>?_
  obtain⟨t,rfl⟩:=hv
  have I1:Inv X pins σ H { s with heap:=h',toks:=tk }:=I.turned (λb o hb e=>kk b o (by simpa using hb) e) f0 f1 f3 f4 f5
  refine⟨_,rfl,De (s:={ s with heap:=h',toks:=tk }) (n:="range_iterator") st' rfl rfl (by decide) ⟨.int (lo+i),H,I1,⟨t,?_⟩,⟨rfl,rfl⟩,st',λb hb=>(hf b hb).1⟩⟩
  rw [Int.mul_one]
 done:=by
  intro X hP hw hK hc i pins s σ H E I hf st hg
  subst hP hw hK
  obtain⟨f0,f1,f2,f3,f4,f5⟩:=hf it (by simp)
  exact wpAny_pyNext_range_end (I.ok.hd hc) st (by have:n<=i:=hg;omega) λh' eb=>⟨rfl,I.turned (t':=s.toks) (λb o hb e=>eb b o hb e) f0 f1 f3 f4 f5⟩
 self:=λ_ _ _ _ _ st h=>wpAny_pyIter_rangeiter st h
section
variable{X:Cx}{tg:Expr}
noncomputable def iList(K:W.Frag)(tl:TE):TI:=λσ H R=>tl σ H λx H1=>∃ a,x=.ref a/\(∃ xs,jk K H1 a xs)/\R (Itl K a) H1
theorem KQ{l:Expr}{tl:TE}(hl:PE X l tl):PI X tg l (iList X.K tl):=by
 intro pins s σ H R I h
 refine cF (hl pins s σ H _ I h) λv s1 ⟨x,H1,I1,r1,q1⟩=>?_
 obtain⟨a,e,⟨xs,hq⟩,q⟩:=q1
 subst e
 cases r1
 obtain⟨its,rv,p,hz⟩:=I1.list hq
 refine UJ p.isList ?_
 refine⟨s1.heap.objs.size,[s1.heap.objs.size],_,_,H1,rfl,I1.kept (t':=s1.toks) λb o e=>SL _ e,uu a _,⟨_,SW _ rfl,rfl,rfl⟩,λb hb=>?_,q⟩
 have e:b=s1.heap.objs.size:=by simpa using hb
 subst e
 exact I1.fpOk (SS _) (I1.hok.fresh (SS _))
theorem yF{pins:List (Addr×Obj)}{σ:St}{H:Hp}{s:Shared}{R:It->Hp->Prop}{E:Value->Shared->Prop}{lo hi:Int}{t u v:Tok}{tk:Nat}(I:Inv X pins σ H s)(h1:-(2 ^ 62)<=lo)(h2:lo<2 ^ 62)(h3:-(2 ^ 62)<=hi)(h4:hi<2 ^ 62)
  (q:R (Itr lo (hi - lo).toNat) H):wpAny (model X.prog X.w) X.A (pyIter (.ref s.heap.objs.size)) (PIE X pins σ tg R) E { s with heap:=s.heap.push { cls:=.type "range",data:=.fields #[.int lo t,.int hi u,.int 1 v] },toks:=tk }:=by
 refine wpAny_pyIter_range (IsRange.new ..) (small_one h1 h2 h3 h4) ?_
 have I1:Inv X pins σ H { s with heap:=s.heap.push { cls:=.type "range",data:=.fields #[.int lo t,.int hi u,.int 1 v] },toks:=tk }:=I.kept λb o e=>SL _ e
 refine⟨(s.heap.push { cls:=.type "range",data:=.fields #[.int lo t,.int hi u,.int 1 v] }).objs.size,[(s.heap.push { cls:=.type "range",data:=.fields #[.int lo t,.int hi u,.int 1 v] }).objs.size],_,_,H,rfl,
  I1.kept (t':=tk) λb o e=>SL _ e,AE _ lo (hi - lo).toNat,?_,λb hb=>?_,q⟩
 ·have e1:lo+((0:Nat):Int) * 1=lo:=by simp
  have e2:(((hi - lo).toNat:Nat):Int) - ((0:Nat):Int)=Builtin.Range.rangeSize lo hi 1:=by rw [rangeSize_one];split <;> omega
  show IsRangeIter _ _ (lo+((0:Nat):Int) * 1) ((((hi - lo).toNat:Nat):Int) - ((0:Nat):Int)) 1
  rw [e1,e2]
  exact SW _ rfl
 ·have e:b=(s.heap.push { cls:=.type "range",data:=.fields #[.int lo t,.int hi u,.int 1 v] }).objs.size:=by simpa using hb
  subst e
  exact I1.fpOk (SS _) (I1.hok.fresh (SS _))
noncomputable def iRng1(ta:TA):TI:=λσ H R=>ta σ H λvs H1=>∃ j:Int,vs=[.int j]/\-(2 ^ 62)<=j/\j<2 ^ 62/\R (Itr 0 j.toNat) H1
noncomputable def iRng2(ta:TA):TI:=λσ H R=>ta σ H λvs H1=>∃ i j:Int,vs=[.int i,.int j]/\(-(2 ^ 62)<=i/\i<2 ^ 62/\-(2 ^ 62)<=j/\j<2 ^ 62)/\R (Itr i (j - i).toNat) H1
theorem uL{a:Expr}{ta:TA}{p pos:Pos}(hg:Gl X "range")(hm:X.mg "range" = U)(ha:PA X [a] ta)(hs:starEach [a] X.env=[(false,eval a X.env)]:=by rfl):PI X tg (.Call (.Name "range" p) [a] [] pos) (iRng1 ta):=by
 intro pins s σ H R I h
 refine Call_ (jf I hg hm boot_range (TM (cF (ha pos pins s σ H _ I h) λus s1 ⟨vs,H1,I1,r1,q1⟩=>?_) hs rfl))
 obtain⟨j,e,q1,q2,q⟩:=q1
 subst e
 cases r1 with
 | cons r rr=>
  cases rr
  obtain⟨t,rfl⟩:=r
  exact call_range_1 (yF I1 (by omega) (by omega) q1 q2 (by simpa using q))
theorem DV{a b:Expr}{ta:TA}{p pos:Pos}(hg:Gl X "range")(hm:X.mg "range" = U)(ha:PA X [a,b] ta)(hs:starEach [a,b] X.env=[(false,eval a X.env),(false,eval b X.env)]:=by rfl)(hs2:starEach [b] X.env=[(false,eval b X.env)]:=by rfl) :
  PI X tg (.Call (.Name "range" p) [a,b] [] pos) (iRng2 ta):=by
 intro pins s σ H R I h
 refine Call_ (jf I hg hm boot_range (TM (cF (ha pos pins s σ H _ I h) λus s1 ⟨vs,H1,I1,r1,q1⟩=>?_) (by rw [hs,hs2]) (by rw [hs2];rfl)))
 obtain⟨i,j,e,⟨q1,q2,q3,q4⟩,q⟩:=q1
 subst e
 cases r1 with
 | cons r rr=>
  cases rr with
  | cons r' rr=>
   cases rr
   obtain⟨t,rfl⟩:=r
   obtain⟨t',rfl⟩:=r'
   exact call_range_2 (yF I1 q1 q2 q3 q4 q)
noncomputable def tFor(wi:TI)(g:TG)(tb:TS):TS:=λD σ H=>wi σ H λJ H1=>∃ W:Nat->Nat->St->Hp->Prop,(∃ m,W 0 m σ H1)/\∀ i m σ H,W i m σ H ->
 (J.stop i H/\D.nx σ H)\/(J.go i H/\∃ N:St->Hp->Prop,(∀ σ' H',N σ' H'->∃ m',m'<m/\W (i+1) m' σ' H')/\∀ x H',J.yld i H x H'->g x σ H' λσ2 H2=>tb { D with nx:=N,ct:=N,bk:=D.nx } σ2 H2)
noncomputable def oN(fp:List Addr)(h:Heap):List (Addr×Obj):=fp.filterMap λb=>(h.get? b).map λo=>(b,o)
theorem gA{fp:List Addr}{h:Heap}{b:Addr}{o:Obj}(hb:b∈fp)(e:h.get? b=O o):(b,o)∈oN fp h:=Xr.mpr ⟨b,hb,by rw [e];rfl⟩
theorem Ed{fp:List Addr}{h:Heap}{p:Addr×Obj}(hp:p∈oN fp h):p.1∈fp/\h.get? p.1=O p.2:=by
 obtain⟨b,hb,e⟩:=Xr.mp hp
 cases q:h.get? b with
 | none=>rw [q] at e;cases e
 | some o=>
  rw [q] at e
  have e':(b,o)=p:=Tq e
  subst e'
  exact⟨hb,q⟩
theorem Inv.pinned{pins:List (Addr×Obj)}{σ:St}{H:Hp}{s:Shared}{fp:List Addr}(I:Inv X pins σ H s)(hf:∀ b∈fp,lV X pins H b)(ho:∀ b∈fp,∃ o,s.heap.get? b=O o/\∀ v,o.data≠.cell v):Inv X (pins++oN fp s.heap) σ H s:=
 I.pins_of λp hp=>(Tr.mp hp).elim (λz=>I.pin p (Tt _ z)) λz=>by
  obtain⟨hb,e⟩:=Ed z
  obtain⟨f0,f1,f2,_⟩:=hf p.1 hb
  obtain⟨o,e',d⟩:=ho p.1 hb
  rw [e] at e';cases e'
  exact⟨e,f0,f1,f2,d⟩
theorem Inv.unpinned{pins pl:List (Addr×Obj)}{σ:St}{H:Hp}{s:Shared}(I:Inv X (pins++pl) σ H s):Inv X pins σ H s:=I.pins_of λp hp=>I.pin p (Tt _ (TV _ hp))
theorem GB{iter:Expr}{body:List Stmt}{wi:TI}{g:TG}{tb:TS}{pos:Pos}(hp:PassesOwn (model X.prog X.w) X.A X.env X.xe)(hc:X.calm=true)(hi:PI X tg iter wi)(hg:PG X tg g)(hb:PSs X body tb)
  (hs:∀ x,foldedSetIterable iter X.env x=pure x:=by intro _;rfl):PS X (.For tg iter body [] pos) (tFor wi g tb):=by
 intro pins s σ H D I h
 refine wpAny_For (cF (hi pins s σ H _ I h) λv s1 h1=>cF h1 λitv s2 h2=>?_) hs
 obtain⟨it,fp,tn,J,H2,e,I2,T,st2,f2,W,⟨m0,w0⟩,turn⟩:=h2
 subst e
 have stat:∀ {H':Hp},(∀ b∈fp,H' b=U)->∀ b∈fp,lV X pins H' b:=λhn b hb=>⟨hn b hb,(f2 b hb).2⟩
 refine codeAny_forLoop_any (λn s'=>∃ i σ' H',Inv X pins σ' H' s'/\tn i s'.heap/\(∀ b∈fp,H' b=U)/\W i n σ' H') ?_ m0 ⟨0,σ,H2,I2,st2,λb hb=>(f2 b hb).1,w0⟩
 rintro n s3 ⟨i,σ3,H3,I3,st3,fr3,w3⟩
 rcases turn i n σ3 H3 w3 with ⟨stop,qn⟩ | ⟨go,N,hN,step⟩
 ·refine Vm hp (cF (T.done X rfl rfl rfl hc i pins s3 σ3 H3 X.xe I3 (stat fr3) st3 stop) λr s4 ⟨hr,I4⟩=>?_)
  subst hr
  exact Wv ⟨σ3,H3,I4,qn⟩
 ·refine Vm hp (cF (T.item X rfl rfl rfl hc i pins s3 σ3 H3 X.xe I3 (stat fr3) st3 go) λr s4 ⟨u,hr,h4⟩=>?_)
  subst hr
  refine Vm hp (cF h4 λ_ s5 ⟨x,H5,I5,r5,y5,st5,fr5⟩=>?_)
  have I5':=I5.pinned (stat fr5) (T.obj _ _ st5)
  refine Vm hp (cF (hg _ s5 σ3 H5 x u _ I5' r5 (step x H5 y5)) λ_ s6 ⟨σ6,H6,I6,q6⟩=>?_)
  refine Vm hp (cF (hb _ s6 σ6 H6 _ I6 q6) λf s7 q7=>?_)
  have again:∀ {σ7:St} {H7:Hp},Inv X (pins++oN fp s5.heap) σ7 H7 s7->N σ7 H7->∃ m,m<n/\∃ i σ' H',Inv X pins σ' H' s7/\tn i s7.heap/\(∀ b∈fp,H' b=U)/\W i m σ' H':=λ{σ7 H7} I7 n7=>by
   obtain⟨m',hm,w7⟩:=hN σ7 H7 n7
   refine⟨m',hm,i+1,σ7,H7,I7.unpinned,T.keep _ _ _ st5 λb hb o e=>(I7.pin (b,o) (Tt _ (Tt _ (gA hb e)))).1,λb hb=>?_,w7⟩
   obtain⟨o,e,d⟩:=T.obj _ _ st5 b hb
   exact(I7.pin (b,o) (Tt _ (Tt _ (gA hb e)))).2.1
  cases f with
  | next=>obtain⟨σ7,H7,I7,n7⟩:=q7;exact again I7 n7
  | cont=>obtain⟨σ7,H7,I7,n7⟩:=q7;exact again I7 n7
  | brk=>obtain⟨σ7,H7,I7,q7⟩:=q7;exact⟨σ7,H7,I7.unpinned,q7⟩
  | ret v=>obtain⟨x7,σ7,H7,I7,r7,q7⟩:=q7;exact⟨x7,σ7,H7,I7.unpinned,r7,q7⟩
end
noncomputable abbrev R2:=V->V->Hp->VK->Prop
noncomputable def OpR(X:Cx)(f:Value->Value->Sem Value)(r:R2):Prop:=
 ∀ (pins:List (Addr×Obj)) (s:Shared) (σ:St) (H:Hp) (x y:V) (v u:Value) (Q:VK),Inv X pins σ H s->RelV x v->RelV y u->r x y H Q ->
  wpAny (model X.prog X.w) X.A (f v u) (EP X pins σ Q) X.xe s
noncomputable def UnR(X:Cx)(f:Value->Sem Value)(r:V->Hp->VK->Prop):Prop:=
 ∀ (pins:List (Addr×Obj)) (s:Shared) (σ:St) (H:Hp) (x:V) (v:Value) (Q:VK),Inv X pins σ H s->RelV x v->r x H Q ->
  wpAny (model X.prog X.w) X.A (f v) (EP X pins σ Q) X.xe s
noncomputable def CallR(X:Cx)(f:Value)(r:List V->Hp->VK->Prop):Prop:=
 ∀ (pins:List (Addr×Obj)) (s:Shared) (σ:St) (H:Hp) (xs:List V) (us:List Value) (Q:VK),Inv X pins σ H s->Vals xs us->r xs H Q ->
  wpAny (model X.prog X.w) X.A (call f us) (EP X pins σ Q) X.xe s
noncomputable def TruR(X:Cx)(r:V->Hp->(Bool->Hp->Prop)->Prop):Prop:=
 ∀ (pins:List (Addr×Obj)) (s:Shared) (σ:St) (H:Hp) (x:V) (v:Value) (Q:Bool->Hp->Prop),Inv X pins σ H s->RelV x v->r x H Q ->
  wpAny (model X.prog X.w) X.A (truthy v) (TP X pins σ Q) X.xe s
noncomputable def tOp(r:R2)(ta tb:TE):TE:=λσ H Q=>ta σ H λx H1=>tb σ H1 λy H2=>r x y H2 Q
noncomputable def tUn(r:V->Hp->VK->Prop)(ta:TE):TE:=λσ H Q=>ta σ H λx H1=>r x H1 Q
noncomputable def rI(C:Int->Int->Prop)(g:Int->Int->V):R2:=λx y H Q=>∃ i j,x=.int i/\y=.int j/\C i j/\Q (g i j) H
noncomputable def KA(g:Int->Int->V):R2:=λx y H Q=>∃ i j,x=.int i/\y=.int j/\Q (g i j) H
noncomputable def rU(g:Int->V):V->Hp->VK->Prop:=λx H Q=>∃ i,x=.int i/\Q (g i) H
section
variable{X:Cx}{a b c:Expr}{ta tb tc:TE}{pos:Pos}
theorem Ss(ha:PE X a ta)(hb:PE X b tb){pins:List (Addr×Obj)}{s:Shared}{σ:St}{H:Hp}{R:V->V->Hp->Prop}(I:Inv X pins σ H s)
  (h:ta σ H λx H1=>tb σ H1 λy H2=>R x y H2) {Q:Value->Shared->Prop} {f:Value->Value->Sem Value}
  (hf:∀ v u s2 x y H2,Inv X pins σ H2 s2->RelV x v->RelV y u->R x y H2->wpAny (model X.prog X.w) X.A (f v u) Q X.xe s2) :
  wpAny (model X.prog X.w) X.A (eval a X.env) (λv s₁=>wpAny (model X.prog X.w) X.A (eval b X.env) (λu s₂=>wpAny (model X.prog X.w) X.A (f v u) Q X.xe s₂) X.xe s₁) X.xe s:=by
 refine cF (ha pins s σ H _ I h) λv s1 ⟨x,H1,I1,r1,q1⟩=>?_
 refine cF (hb pins s1 σ H1 _ I1 q1) λu s2 ⟨y,H2,I2,r2,q2⟩=>?_
 exact hf v u s2 x y H2 I2 r1 r2 q2
theorem pe_op{op:Operator}{r:R2}(ho:OpR X (binaryOp op) r)(ha:PE X a ta)(hb:PE X b tb):PE X (.BinOp a op b pos) (tOp r ta tb):=by
 intro pins s σ H Q I h
 exact wpAny_BinOp (Ss ha hb I h λv u s2 x y H2 I2 rx ry q=>ho pins s2 σ H2 x y v u Q I2 rx ry q)
theorem pe_un{op:UnaryOp}{r:V->Hp->VK->Prop}(ho:UnR X (unaryOp op) r)(ha:PE X a ta):PE X (.UnaryOp op a pos) (tUn r ta):=by
 intro pins s σ H Q I h
 exact UnaryOp_ (cF (ha pins s σ H _ I h) λv s1 ⟨x,H1,I1,r1,q1⟩=>ho pins s1 σ H1 x v Q I1 r1 q1)
theorem opI{f:Value->Value->Sem Value}{C:Int->Int->Prop}{g:Int->Int->Int}
  (rule:∀ (i j:Int) (t u:Tok) (s:Shared) (Q:Value->Shared->Prop) (E:Value->Shared->Prop),C i j->Q (.int (g i j) s.toks) { s with toks:=s.toks+1 }->wpAny (model X.prog X.w) X.A (f (.int i t) (.int j u)) Q E s) :
  OpR X f (rI C λi j=>.int (g i j)):=by
 intro pins s σ H x y v u Q I rx ry h
 obtain⟨i,j,rfl,rfl,hc,q⟩:=h
 obtain⟨t,rfl⟩:=rx
 obtain⟨t',rfl⟩:=ry
 exact rule i j t t' s _ _ hc ⟨.int (g i j),H,I.tok _,⟨_,rfl⟩,q⟩
theorem opI0{f:Value->Value->Sem Value}{g:Int->Int->Int}
  (rule:∀ (i j:Int) (t u:Tok) (s:Shared) (Q:Value->Shared->Prop) (E:Value->Shared->Prop),Q (.int (g i j) s.toks) { s with toks:=s.toks+1 }->wpAny (model X.prog X.w) X.A (f (.int i t) (.int j u)) Q E s) :
  OpR X f (KA λi j=>.int (g i j)):=by
 intro pins s σ H x y v u Q I rx ry h
 obtain⟨i,j,rfl,rfl,q⟩:=h
 obtain⟨t,rfl⟩:=rx
 obtain⟨t',rfl⟩:=ry
 exact rule i j t t' s _ _ ⟨.int (g i j),H,I.tok _,⟨_,rfl⟩,q⟩
theorem Lr{f:Value->Value->Sem Value}{g:Int->Int->Bool}
  (rule:∀ (i j:Int) (t u:Tok) (s:Shared) (Q:Value->Shared->Prop) (E:Value->Shared->Prop),Q (.bool (g i j)) s->wpAny (model X.prog X.w) X.A (f (.int i t) (.int j u)) Q E s) :
  OpR X f (KA λi j=>.bl (g i j)):=by
 intro pins s σ H x y v u Q I rx ry h
 obtain⟨i,j,rfl,rfl,q⟩:=h
 obtain⟨t,rfl⟩:=rx
 obtain⟨t',rfl⟩:=ry
 exact rule i j t t' s _ _ ⟨.bl (g i j),H,I,rfl,q⟩
noncomputable def CDiv(i j:Int):Prop:=0<j/\j<1073741824
noncomputable def CPow(i j:Int):Prop:=0<=j/\j<=1000000/\i.natAbs<2 ^ 64
theorem PP:OpR X (binaryOp .Add) (KA λi j=>.int (i+j)):=opI0 λ_ _ _ _ _ _ _ q=>add_int q
theorem PJ:OpR X (binaryOp .Sub) (KA λi j=>.int (i - j)):=opI0 λ_ _ _ _ _ _ _ q=>sub_int q
theorem Lk:OpR X (binaryOp .FloorDiv) (rI CDiv λi j=>.int (i / j)):=opI λi j _ _ _ _ _ hc q=>by
 have h1:(0:Int)<j:=hc.1
 have h2:j<1073741824:=hc.2
 exact floordiv_int (by omega) (by rw [Int.fdiv_eq_ediv_of_nonneg i (by omega)];exact q) (.inl (PyProof.noPylong_small (by omega)))
theorem PM:OpR X (binaryOp .Mod) (rI (λ_ j=>0<j) λi j=>.int (i % j)):=opI λi j _ _ _ _ _ hc q=>by
 have h1:(0:Int)<j:=hc
 exact mod_int' (by omega) (by rw [Int.fmod_eq_emod_of_nonneg i (by omega)];exact q)
theorem PL:OpR X (binaryOp .Pow) (rI CPow λi j=>.int (i ^ j.toNat)):=opI λ_ _ _ _ _ _ _ hc q=>pow_int_small hc.1 hc.2.1 hc.2.2 q
theorem unI{f:Value->Sem Value}{g:Int->Int}
  (rule:∀ (i:Int) (t:Tok) (s:Shared) (Q:Value->Shared->Prop) (E:Value->Shared->Prop),Q (.int (g i) s.toks) { s with toks:=s.toks+1 }->wpAny (model X.prog X.w) X.A (f (.int i t)) Q E s) :
  UnR X f (rU λi=>.int (g i)):=by
 intro pins s σ H x v Q I rx h
 obtain⟨i,rfl,q⟩:=h
 obtain⟨t,rfl⟩:=rx
 exact rule i t s _ _ ⟨.int (g i),H,I.tok _,⟨_,rfl⟩,q⟩
theorem Oy:UnR X (unaryOp .USub) (rU λi=>.int (-i)):=unI λ_ _ _ _ _ q=>neg_int q
end
section
variable{X:Cx}{a b c:Expr}{ta tb tc:TE}{pos:Pos}
theorem op_lt:OpR X (compareOp .Lt) (KA λi j=>.bl (decide (i<j))):=Lr λ_ _ _ _ _ _ _ q=>lt_int q
theorem op_le:OpR X (compareOp .LtE) (KA λi j=>.bl (decide (i<=j))):=Lr λ_ _ _ _ _ _ _ q=>le_int q
theorem op_gt:OpR X (compareOp .Gt) (KA λi j=>.bl (decide (j<i))):=Lr λ_ _ _ _ _ _ _ q=>gt_int q
theorem op_ge:OpR X (compareOp .GtE) (KA λi j=>.bl (decide (j<=i))):=Lr λ_ _ _ _ _ _ _ q=>ge_int q
theorem OpR.or{f:Value->Value->Sem Value}{r r':R2}(h:OpR X f r)(h':OpR X f r'):OpR X f (λx y H Q=>r x y H Q\/r' x y H Q):=by
 intro pins s σ H x y v u Q I rx ry q
 rcases q with q | q
 ·exact h pins s σ H x y v u Q I rx ry q
 ·exact h' pins s σ H x y v u Q I rx ry q
theorem Lb{op:CmpOp}{r:R2}(ho:OpR X (compareOp op) r)(ha:PE X a ta)(hb:PE X b tb)(hm:behindInMarks op b=false):PE X (.Compare a [op] [b] pos) (tOp r ta tb):=by
 intro pins s σ H Q I h
 exact wpAny_Compare1 (Ss ha hb I h λv u s2 x y H2 I2 rx ry q=>ho pins s2 σ H2 x y v u Q I2 rx ry q) hm
noncomputable def Nw(t:TE):TT:=λσ H Q=>t σ H λx H'=>∃ k,x=.bl k/\Q k H'
theorem KG{op:CmpOp}{r:R2}(ho:OpR X (compareOp op) r)(ha:PE X a ta)(hb:PE X b tb)(hm:behindInMarks op b=false):PT X (.Compare a [op] [b] pos) (Nw (tOp r ta tb)):=by
 intro pins s σ H Q I h
 refine wpAny_isTrue_Compare1 (cF (ha pins s σ H _ I h) λv s1 ⟨x,H1,I1,r1,q1⟩=>cF (hb pins s1 σ H1 _ I1 q1) λu s2 ⟨y,H2,I2,r2,q2⟩=>
  cF (ho pins s2 σ H2 x y v u _ I2 r1 r2 q2) λc s3 ⟨z,H3,I3,r3,k,e,q3⟩=>?_) hm
 subst e
 cases r3
 exact UI ⟨H3,I3,q3⟩
noncomputable def AH(r r':R2)(ta tb tc:TE):TE:=λσ H Q=>ta σ H λx H1=>tb σ H1 λy H2=>r x y H2 λz H3=>∃ k,z=.bl k /\
 (if k=true then tc σ H3 λw' H4=>r' y w' H4 Q else Q (.bl false) H3)
theorem GQ{op op':CmpOp}{r r':R2}(ho:OpR X (compareOp op) r)(ho':OpR X (compareOp op') r')(ha:PE X a ta)(hb:PE X b tb)(hc:PE X c tc)
  (hm:lastMarks [op,op'] [b,c]=false:=by with_unfolding_all rfl):PE X (.Compare a [op,op'] [b,c] pos) (AH r r' ta tb tc):=by
 intro pins s σ H Q I h
 refine Compare_chain (cF (ha pins s σ H _ I h) λv s1 ⟨x,H1,I1,r1,q1⟩=>chain_link (cF (hb pins s1 σ H1 _ I1 q1) λu s2 ⟨y,H2,I2,r2,q2⟩=>
  cF (ho pins s2 σ H2 x y v u _ I2 r1 r2 q2) λd s3 ⟨z,H3,I3,r3,k,e,q3⟩=>?_)) hm
 subst e
 cases r3
 refine UI ?_
 cases k with
 | false=>exact ite_ff ⟨.bl false,H3,I3,rfl,q3⟩
 | true=>exact ite_tt (chain_last (cF (hc pins s3 σ H3 _ I3 q3) λw' s4 ⟨z',H4,I4,r4,q4⟩=>ho' pins s4 σ H4 y z' u w' Q I4 r2 r4 q4))
theorem Gz{op op':CmpOp}{r r':R2}(ho:OpR X (compareOp op) r)(ho':OpR X (compareOp op') r')(ha:PE X a ta)(hb:PE X b tb)(hc:PE X c tc)
  (hm:lastMarks [op,op'] [b,c]=false:=by with_unfolding_all rfl):PT X (.Compare a [op,op'] [b,c] pos) (Nw (AH r r' ta tb tc)):=by
 intro pins s σ H Q I h
 refine isTrue_chain (cF (ha pins s σ H _ I h) λv s1 ⟨x,H1,I1,r1,q1⟩=>test_link (cF (hb pins s1 σ H1 _ I1 q1) λu s2 ⟨y,H2,I2,r2,q2⟩=>
  cF (ho pins s2 σ H2 x y v u _ I2 r1 r2 q2) λd s3 ⟨z,H3,I3,r3,k,e,q3⟩=>?_)) hm
 subst e
 cases r3
 refine UI ?_
 cases k with
 | false=>
  obtain⟨k',e',q'⟩:=q3
  cases e'
  exact ite_ff ⟨H3,I3,q'⟩
 | true=>
  refine ite_tt (test_last (cF (hc pins s3 σ H3 _ I3 q3) λw' s4 ⟨z',H4,I4,r4,q4⟩=>cF (ho' pins s4 σ H4 y z' u w' _ I4 r2 r4 q4) λd' s5 ⟨z2,H5,I5,r5,k2,e2,q5⟩=>?_))
  subst e2
  cases r5
  exact UI ⟨H5,I5,q5⟩
noncomputable def FB(K:W.Frag)(x:V)(H:Hp)(k:Bool):Prop:=
 match x with
 | .non=>k=false
 | .bl b=>k=b
 | .int i=>k=(i != 0)
 | .str y=>y.length<=sizeLine/\k=((y.length:Int) != 0)
 | .byt y=>y.size<=sizeLine/\k=((y.size:Int) != 0)
 | .ref p=>(∃ xs,jk K H p xs/\k = !xs.isEmpty)\/(∃ xs,kS K H p xs/\k = !xs.isEmpty)\/∃ kvs,H p=O (.dK kvs)/\k = !kvs.isEmpty
 | _=>False
theorem BC{κ:Type}{kvs:List (κ×V)}{vs:List (κ×Value)}(r:KV kvs vs):(!vs.isEmpty) = !kvs.isEmpty:=by
 cases r <;> rfl
theorem sN{xs:List V}{its:List Value}(r:Vals xs its):(!its.toArray.isEmpty) = !xs.isEmpty:=by
 cases r <;> simp
theorem mN:(sizeLine:Nat)<2 ^ 63:=by rw [Ww];decide
theorem vX:TruR X (λx H Q=>∃ k,FB X.K x H k/\Q k H):=by
 intro pins s σ H x v Q I rx h
 obtain⟨k,e,q⟩:=h
 have hl:=mN
 have hs:sizeLine=16777216:=Ww
 cases x with
 | non=>
  cases rx
  have e':k=false:=e
  subst e'
  exact truthy_none ⟨H,I,q⟩
 | bl b=>
  cases rx
  have e':k=b:=e
  subst e'
  exact UI ⟨H,I,q⟩
 | int i=>
  obtain⟨t,rfl⟩:=rx
  have e':k=(i != 0):=e
  subst e'
  exact PySem.P.truthy_int ⟨H,I,q⟩
 | str y=>
  obtain⟨t,rfl⟩:=rx
  obtain⟨hy,e'⟩:y.length<=sizeLine/\k=((y.length:Int) != 0):=e
  subst e'
  exact PySem.P.truthy_str (by omega) ⟨H,I.tok _,q⟩
 | byt y=>
  obtain⟨t,rfl⟩:=rx
  obtain⟨hy,e'⟩:y.size<=sizeLine/\k=((y.size:Int) != 0):=e
  subst e'
  exact W.truthy_bytes (by omega) ⟨H,I.tok _,q⟩
 | ref p=>
  cases rx
  have e':(∃ xs,jk X.K H p xs/\k = !xs.isEmpty)\/(∃ xs,kS X.K H p xs/\k = !xs.isEmpty)\/∃ kvs,H p=O (.dK kvs)/\k = !kvs.isEmpty:=e
  rcases e' with ⟨xs,hx,e'⟩ | ⟨xs,hx,e'⟩ | ⟨kvs,hx,e'⟩
  ·subst e'
   obtain⟨its,r,pl,hz⟩:=I.list hx
   have hlen:=r.length
   exact wpAny_truthy_list pl.isList (by simp only [SQ];omega) ⟨H,I.tok _,by rw [sN r];exact q⟩
  ·subst e'
   obtain⟨its,r,pl,hz⟩:=I.tuple hx
   have hlen:=r.length
   exact truthy_tuple pl (by simp only [SQ];omega) ⟨H,I.tok _,by rw [sN r];exact q⟩
  ·subst e'
   obtain⟨hz,hS,vs,r,m⟩:kvs.length<=sizeLine/\(p == sysModules)=false/\∃ vs,KV kvs vs/\s.heap.DictOf (bv X.prog X.w) p vs:=I.hok p _ hx
   have hlen:kvs.length=vs.length:=WN r
   exact wpAny_truthy_dict hS m (by omega) ⟨H,I.tok _,by rw [BC r];exact q⟩
 | _=>exact(show False from e).elim
theorem Gy(ha:PE X a ta)(he:∀ whole,isTrue a X.env whole=(do let v <- whole;standAt a.pos;holding [v] (truthy v))) :
  PT X a (λσ H Q=>ta σ H λx H'=>∃ k,FB X.K x H' k/\Q k H'):=by
 intro pins s σ H Q I h
 exact isTrue_plain (cF (ha pins s σ H _ I h) λv s1 ⟨x,H1,I1,r1,q1⟩=>vX pins s1 σ H1 x v Q I1 r1 q1) (he _)
theorem AZ:OpR X (binaryOp .Add) (λx y H Q=>∃ i j,x=.str i/\y=.str j/\i.length+j.length<=sizeLine/\Q (.str (i++j)) H):=by
 intro pins s σ H x y v u Q I rx ry h
 obtain⟨i,j,rfl,rfl,hz,q⟩:=h
 obtain⟨t,rfl⟩:=rx
 obtain⟨t',rfl⟩:=ry
 exact add_str (λt' tk=>⟨.str (i++j),H,I.tok _,⟨_,rfl⟩,q⟩) hz
theorem gM{x:V}{us:List Value}(r:Vals [x] us):∃ u,us=[u]/\RelV x u:=by
 cases r with
 | cons r1 r2=>cases r2;exact⟨_,rfl,r1⟩
theorem FO{x y:V}{us:List Value}(r:Vals [x,y] us):∃ u w',us=[u,w']/\RelV x u/\RelV y w':=by
 cases r with
 | cons r1 r2=>
  cases r2 with
  | cons r3 r4=>cases r4;exact⟨_,_,rfl,r1,r3⟩
theorem Fk(hc:X.calm=true):CallR X (.builtin "max") (λxs H Q=>∃ i j,xs=[.int i,.int j]/\Q (.int (if j>i then j else i)) H):=by
 intro pins s σ H xs us Q I r h
 obtain⟨i,j,rfl,q⟩:=h
 obtain⟨u,w',rfl,⟨t,rfl⟩,⟨t',rfl⟩⟩:=FO r
 refine max_two_ints (I.ok.hd hc) λh' tk k=>⟨_,H,I.kept k,?_,q⟩
 by_cases hj:j>i
 ·rw [Td hj,Td hj];exact⟨_,rfl⟩
 ·rw [Ts hj,Ts hj];exact⟨_,rfl⟩
theorem Fi(hc:X.calm=true):CallR X (.builtin "min") (λxs H Q=>∃ i j,xs=[.int i,.int j]/\Q (.int (if j<i then j else i)) H):=by
 intro pins s σ H xs us Q I r h
 obtain⟨i,j,rfl,q⟩:=h
 obtain⟨u,w',rfl,⟨t,rfl⟩,⟨t',rfl⟩⟩:=FO r
 refine min_two_ints (I.ok.hd hc) λh' tk k=>⟨_,H,I.kept k,?_,q⟩
 by_cases hj:j<i
 ·rw [Td hj,Td hj];exact⟨_,rfl⟩
 ·rw [Ts hj,Ts hj];exact⟨_,rfl⟩
theorem Fs:CallR X (.type "int") (λxs H Q=>(∃ i,xs=[.int i]/\Q (.int i) H)\/∃ k,xs=[.bl k]/\Q (.int (if k then 1 else 0)) H):=by
 intro pins s σ H xs us Q I r h
 rcases h with ⟨i,rfl,q⟩ | ⟨k,rfl,q⟩
 ·obtain⟨u,rfl,t,rfl⟩:=gM r
  exact call_int_int ⟨.int i,H,I,⟨_,rfl⟩,q⟩
 ·obtain⟨u,rfl,r1⟩:=gM r
  cases r1
  exact call_int_bool ⟨.int (if k then 1 else 0),H,I.tok _,⟨_,rfl⟩,q⟩
theorem xZ:CallR X (.type "str") (λxs H Q=>∃ i,xs=[.int i]/\i.natAbs.log2<1920/\Q (.str (toString i)) H):=by
 intro pins s σ H xs us Q I r h
 obtain⟨i,rfl,hz,q⟩:=h
 obtain⟨u,rfl,t,rfl⟩:=gM r
 exact PySem.P.str_of_int hz ⟨.str _,H,I.tok _,⟨_,rfl⟩,q⟩
end
section
variable{prog:Program}{w:World}{A:Around}{E:Value->Shared->Prop}{s:Shared}{K:W.Frag}{x dx C f:Addr}{mA:Str->Option Value}{name:Str}{v:Value}
end
theorem RelO.some_of{v:V}{o:Option Value}(r:RelO (O v) o):∃ u,o=O u/\RelV v u:=by
 cases o with
 | none=>exact(show False from r).elim
 | some u=>exact⟨u,rfl,r⟩
section
variable{P:Program}{w:World}{H H':Hp}{h h':Heap}{a C dx:Addr}{fs fs':List (Str×V)}
end
section
variable{X:Cx}{pins:List (Addr×Obj)}{σ:St}{H:Hp}{s:Shared}{a C dx:Addr}{fs:List (Str×V)}{f:Str}{v:V}{A:Around}{E:Value->Shared->Prop}
end
section
variable{X:Cx}{o e value:Expr}{f:Str}{pos pos' tpos:Pos}{ta tv:TE}
end
section
variable{X:Cx}{pins:List (Addr×Obj)}{σ:St}{H:Hp}{s:Shared}{A:Around}{E:Value->Shared->Prop}{Q:Value->Shared->Prop}{c:Value}{b:Bool}
end
structure Room(k:Nat)(A:Around):Prop where
 hd:A.handled=U
 dp:A.depth+3 * k+5<recursionLimit
 un:A.units+16 * k+200<cLine
theorem Room.mono{j k:Nat}{A:Around}(r:Room k A)(h:j<=k):Room j A:=⟨r.hd,by have:=r.dp;omega,by have:=r.un;omega⟩
theorem Room.deeper{k:Nat}{A:Around}(r:Room (k+1) A)(env:Env):Room k (A.deeper env):=
 ⟨r.hd,by have:=r.dp;show A.depth+1+3 * k+5<_;omega,by have:=r.un;show A.units+3+16 * k+200<_;omega⟩
theorem Room.depth{k:Nat}{A:Around}(r:Room k A):A.depth<recursionLimit:=by have:=r.dp;omega
theorem Room.units{k:Nat}{A:Around}(r:Room k A):A.units+64<cLine:=by have:=r.un;omega
noncomputable def tNil:TA:=λ_ H Q=>Q [] H
noncomputable def tCons(ta:TE)(tr:TA):TA:=λσ H Q=>ta σ H λx H1=>tr σ H1 λxs H2=>Q (x::xs) H2
section
variable{X:Cx}{e:Expr}{es:List Expr}{te:TE}{t:TA}{pos:Pos}
theorem AY:PA X [] tNil:=λ_ _ _ _ H Q I h=>Calls.spliced_nil ⟨[],H,I,.nil,h⟩
theorem qM(ha:PE X e te)(hr:PA X es t)(hs:starEach (e::es) X.env=(false,eval e X.env)::starEach es X.env:=by rfl):PA X (e::es) (tCons te t):=by
 intro pos pins s σ H Q I h
 rw [hs]
 show wpAny _ _ (spliced ((false,eval e X.env)::backTo pos (starEach es X.env))) _ _ s
 refine Xu (cF (ha pins s σ H _ I h) λu s1 ⟨x,H1,I1,r1,q1⟩=>?_)
 exact cF (hr pos pins s1 σ H1 _ I1 q1) λus s2 ⟨xs,H2,I2,r2,q2⟩=>⟨x::xs,H2,I2,.cons r1 r2,q2⟩
noncomputable def tTup(t:TA):TE:=λσ H Q=>t σ H λxs H1=>xs.length<=sizeLine/\∀ p,H1 p=U->Q (.ref p) (upd H1 p (.tup xs))
noncomputable def tLst(t:TA):TE:=λσ H Q=>t σ H λxs H1=>xs.length<=sizeLine/\∀ p,H1 p=U->Q (.ref p) (upd H1 p (.lst xs))
theorem Ps{x1}(h:PA X es t):PE X (.Tuple es x1 pos) (tTup t):=by
 intro pins s σ H Q I hq
 refine wpAny_Tuple_spliced (cF (h pos pins s σ H _ I hq) λus s1 ⟨xs,H1,I1,r,z,q⟩=>⟨by rw [<- r.length];exact z,?_⟩)
 have hf:H1 s1.heap.objs.size=U:=I1.hok.fresh (SS _)
 refine⟨.ref s1.heap.objs.size,upd H1 s1.heap.objs.size (.tup xs),I1.laid (t':=s1.toks) (λb u e=>SL _ e) (SS _) ?_,rfl,q _ hf⟩
 exact⟨z,us,r,⟨_,SW _ rfl,rfl,⟨_,rfl⟩,rfl⟩⟩
theorem GM(h:PA X es t):PE X (.List es pos) (tLst t):=by
 intro pins s σ H Q I hq
 refine wpAny_List_spliced (cF (h pos pins s σ H _ I hq) λus s1 ⟨xs,H1,I1,r,z,q⟩=>⟨by rw [<- r.length];exact z,?_⟩)
 have hf:H1 s1.heap.objs.size=U:=I1.hok.fresh (SS _)
 refine⟨.ref s1.heap.objs.size,upd H1 s1.heap.objs.size (.lst xs),I1.laid (t':=s1.toks) (λb u e=>SL _ e) (SS _) ?_,rfl,q _ hf⟩
 exact⟨z,us,0,r,SW _ rfl⟩
end
noncomputable abbrev Sp:=List V->Hp->VK->XK->Prop
noncomputable abbrev FI:=List Env->Hp->Shared->XK->Value->Shared->Prop
structure Nr(P:Program)(w:World)(K:W.Frag)(mg:Str->Option Value)(base:Heap)(A:Around)(outer:List Env)(s:Shared)(H:Hp):Prop where
 frames:A.frames=O outer
 mod:Mod K mg base
 bs:∀ b o,base.get? b=O o->s.heap.get? b=O o/\H b=U
 bsz:base.objs.size<=s.heap.objs.size
 funs:s.heap.FunFrames base outer
 frf:∀ b∈FG outer,H b=U
 hok:HOk P w H s.heap
 bare:AllBare s.gens
noncomputable def CE(outer:List Env)(P:Program)(w:World)(H:Hp)(s:Shared)(Q:VK)(u:Value)(s':Shared):Prop:=
 ∃ v H',s'.os=s.os/\AllBare s'.gens/\Un (FG outer) [] H H' s.heap s'.heap/\HOk P w H' s'.heap/\RelV v u/\Q v H'
noncomputable def CR(CX:FI)(outer:List Env)(P:Program)(w:World)(H:Hp)(s:Shared)(Q:VK)(E:XK)(r:Result)(s':Shared):Prop:=
 match r with
 | .ok (.ret u)=>CE outer P w H s Q u s'
 | .ok _=>False
 | .error e=>CX outer H s E e s'
structure FnOk(P:Program)(w:World)(K:W.Frag)(mg:Str->Option Value)(base:Heap)(CX:FI)(k:Nat)(f:Addr)(fd:FuncData)(ps:List Str)(sp:Sp):Prop where
 len:∀ vs H Q E,sp vs H Q E->vs.length=ps.length
 run:∀ (A:Around) (outer:List Env) (s:Shared) (H:Hp) (args:Args) (us:List Value) (vs:List V) (Q:VK) (E:XK),Room k A->Nr P w K mg base A outer s H->BindsTo s fd args (ps.zip us)->Vals vs us->sp vs H Q E ->
  codeAny (model P w) A (.call (.ref f) args) (CR CX outer P w H s Q E) s
theorem FnOk.mono{P:Program}{w:World}{K:W.Frag}{mg:Str->Option Value}{base:Heap}{CX:FI}{j k:Nat}{f:Addr}{fd:FuncData}{ps:List Str}{sp:Sp}(F:FnOk P w K mg base CX j f fd ps sp)(h:j<=k) :
  FnOk P w K mg base CX k f fd ps sp:=⟨F.len,λA outer s H args us vs Q E hr=>F.run A outer s H args us vs Q E (hr.mono h)⟩
section
variable{X:Cx}{pins:List (Addr×Obj)}{σ:St}{H:Hp}{s s':Shared}
theorem Inv.env0(I:Inv X pins σ H s):Nr X.prog X.w X.K X.mg X.base X.A X.stack s H:=
 ⟨I.ok.frames,I.ok.mod,I.bs,Th I.ok.bsz I.sz,I.stack,I.stkFree,I.hok,I.bare⟩
theorem Inv.after{Q:VK}{u:Value}(I:Inv X pins σ H s)(h:CE X.stack X.prog X.w H s Q u s'):EP X pins σ Q u s':=by
 obtain⟨v,H',os,bare,un,hok,r,q⟩:=h
 obtain⟨hh,g,d,t,os'⟩:=s'
 obtain rfl:os'=s.os:=os
 exact⟨v,H',I.call (h':=hh) (g':=g) (d':=d) (t':=t) (ch:=[]) un hok bare (λb z=>absurd z (by simp)),r,q⟩
end
noncomputable def FX(sp:Sp)(dvs:List V)(E:XK)(t:TA):TE:=λσ H Q=>t σ H λvs H1=>sp (vs++dvs) H1 Q E
noncomputable def Binds(K:W.Frag)(fd:FuncData)(ps:List Str)(ds:List Value):Prop:=
 ∀ (s:Shared) (us:List Value),K.In s.heap->(us++ds).length=ps.length->BindsTo s fd ⟨us,[]⟩ (ps.zip (us++ds))
theorem Binds.all{K:W.Frag}{fd:FuncData}{ps:List Str}(h:∀ us:List Value,us.length=ps.length->bindArgs fd ⟨us,[]⟩=pure (ps.zip us)):Binds K fd ps []:=λs us _ hl=>by
 rw [Tx] at hl ⊢
 exact .of_eq (h us hl)
noncomputable def yg(CX:FI)(X:Cx)(E:XK):Prop:=∀ (pins:List (Addr×Obj)) (σ:St) (H:Hp) (s:Shared) (e:Value) (s':Shared),Inv X pins σ H s->CX X.stack H s E e s'->X.xe e s'
section
variable{X:Cx}{CX:FI}{k:Nat}{f C:Addr}{fd:FuncData}{ps:List Str}{sp:Sp}{dvs:List V}{ds:List Value}{E:XK}{x m:Str}{p pos apos:Pos}{e o:Expr}{es:List Expr}{ta:TE}{t:TA}
theorem Go{pins:List (Addr×Obj)}{σ:St}{H:Hp}{s:Shared}{Q:VK}{us:List Value}{vs:List V}(F:FnOk X.prog X.w X.K X.mg X.base CX k f fd ps sp)(hr:Room k X.A)(hb:Binds X.K fd ps ds)(hd:Vals dvs ds)(hx:yg CX X E)
  (I:Inv X pins σ H s) (r:Vals vs us) (h:sp (vs++dvs) H Q E):wpAny (model X.prog X.w) X.A (call (.ref f) us) (EP X pins σ Q) X.xe s:=by
 have r2:Vals (vs++dvs) (us++ds):=r.append hd
 have hl:(us++ds).length=ps.length:=by rw [<- r2.length];exact F.len _ _ _ _ h
 refine wpAny_call (Ug (F.run X.A X.stack s H ⟨us,[]⟩ (us++ds) (vs++dvs) Q E hr I.env0 (hb s us I.kIn hl) r2 h) λr s' hq=>?_)
 cases r with
 | error e=>exact hx pins σ H s e s' I hq
 | ok fl=>
  cases fl with
  | ret u=>exact I.after hq
  | next=>exact False.elim hq
  | brk=>exact False.elim hq
  | cont=>exact False.elim hq
theorem Lc(F:FnOk X.prog X.w X.K X.mg X.base CX k f fd ps sp)(hr:Room k X.A)(hg:Gl X x)(hm:X.mg x=O (.ref f))(hk:W.keepIn X.K (.ref f)=true)(hb:Binds X.K fd ps ds)(hd:Vals dvs ds)(hx:yg CX X E)
  (ha:PA X (e::es) t) (hdb:(x == ("__debug__":Str))=false:=by decide) (he:starEach (e::es) X.env=(false,eval e X.env)::starEach es X.env:=by rfl) (hpl:(backTo pos (starEach es X.env)).any (·.1)=false:=by rfl) :
  PE X (.Call (.Name x p) (e::es) [] pos) (FX sp dvs E t):=by
 intro pins s σ H Q I h
 refine Vt (xy I hg hm ?_ hdb)
 refine W.callWith_K (h₀:=X.base) I.ok.mod.kin hk (cF (ha pos pins s σ H _ I h) λus s1 ⟨vs,H1,I1,r,q⟩=>⟨I1.kIn,?_⟩) he hpl
 exact Go F hr hb hd hx I1 r q
theorem GR(F:FnOk X.prog X.w X.K X.mg X.base CX k f fd ps sp)(hr:Room k X.A)(hg:Gl X x)(hm:X.mg x=O (.ref f))(hk:W.keepIn X.K (.ref f)=true)(hb:Binds X.K fd ps ds)(hd:Vals dvs ds)(hx:yg CX X E)
  (hdb:(x == ("__debug__":Str))=false:=by decide):PE X (.Call (.Name x p) [] [] pos) (FX sp dvs E tNil):=by
 intro pins s σ H Q I h
 refine Vt (xy I hg hm ?_ hdb)
 exact W.callWith_K0 I.kIn hk (Go (us:=[]) F hr hb hd hx I .nil h)
end
section
variable{X:Cx}{CX:FI}{k:Nat}{f C:Addr}{fd:FuncData}{ps ks:List Str}{sp:Sp}{E:XK}{x m:Str}{p pos apos kpos:Pos}{e o:Expr}{es:List Expr}{kws:List Keyword}{te ta:TE}{t tk:TA}{nm:Option Str}
variable{g:List Value->List Value->List Value}{gV:List V->List V->List V}
end
structure aH(N P:List Str)(sc:Scope):Prop where
 kind:sc.kind=.function
 co:sc.isCoroutine=false
 gen:sc.isGenerator=false
 nd:N.Nodup
 pre:N.take P.length=P
 par:∀ x∈P,sc.names.lookup x=O .local\/sc.names.lookup x=O .cell
 nofree:∀ y∈sc.names,y.2≠.free
theorem vM{kindOf:Str->Option NameKind}{x:Str}:∀ {binds:List (Str×Value)} {m:Str->Option Value},(∀ v,(x,v) ∉ binds)->bindL kindOf binds m x=m x
 | [],_,_=>rfl
 | (n,v)::r,m,h=>by
  unfold bindL
  rw [vM λw hw=>h w (SO _ hw)]
  split
  ·have:x≠n:=by rintro rfl;exact h v SN
   simp [this]
  ·rfl
theorem vO{kindOf:Str->Option NameKind}{x:Str}:∀ {binds:List (Str×Value)} {m:Str->Option Value},(∀ v,(x,v) ∉ binds)->bindC kindOf binds m x=m x
 | [],_,_=>rfl
 | (n,v)::r,m,h=>by
  unfold bindC
  rw [vO λw hw=>h w (SO _ hw)]
  split
  ·rfl
  ·have:x≠n:=by rintro rfl;exact h v SN
   simp [this]
theorem vN{kindOf:Str->Option NameKind}{x:Str}{v:Value}:∀ {P:List Str} {vs:List Value} {i:Nat} {m:Str->Option Value},P.Nodup->P[i]?=O x->vs[i]?=O v->kindOf x=O .local ->
  bindL kindOf (P.zip vs) m x=O v
 | [],_,_,_,_,h,_,_=>by simp at h
 | _::_,[],_,_,_,_,h,_=>by simp at h
 | p::P,w::vs,0,m,nd,h1,h2,hk=>by
  simp at h1 h2;subst h1;subst h2
  show bindL kindOf ((p,w)::P.zip vs) m p=_
  unfold bindL
  rw [vM λv hv=>(UY.mp nd).1 (WC hv).1,Td hk]
  simp
 | p::P,w::vs,i+1,m,nd,h1,h2,hk=>by
  show bindL kindOf ((p,w)::P.zip vs) m x=_
  unfold bindL
  exact vN (i:=i) (UY.mp nd).2 (by simpa using h1) (by simpa using h2) hk
theorem vP{kindOf:Str->Option NameKind}{x:Str}{v:Value}:∀ {P:List Str} {vs:List Value} {i:Nat} {m:Str->Option Value},P.Nodup->P[i]?=O x->vs[i]?=O v->kindOf x≠O .local ->
  bindC kindOf (P.zip vs) m x=O v
 | [],_,_,_,_,h,_,_=>by simp at h
 | _::_,[],_,_,_,_,h,_=>by simp at h
 | p::P,w::vs,0,m,nd,h1,h2,hk=>by
  simp at h1 h2;subst h1;subst h2
  show bindC kindOf ((p,w)::P.zip vs) m p=_
  unfold bindC
  rw [vO λv hv=>(UY.mp nd).1 (WC hv).1,Ts hk]
  simp
 | p::P,w::vs,i+1,m,nd,h1,h2,hk=>by
  show bindC kindOf ((p,w)::P.zip vs) m x=_
  unfold bindC
  exact vP (i:=i) (UY.mp nd).2 (by simpa using h1) (by simpa using h2) hk
noncomputable def start(N:List Str)(vs:List V):St:=vs.map O++List.replicate (N.length - vs.length) U
noncomputable def uh(CX:FI)(P:Program)(w:World)(K:W.Frag)(mg:Str->Option Value)(base:Heap)(N:List Str)(qual:Str)(scope:Scope)(f:Addr)(cd:Value)(A:Around)(outer:List Env)(s:Shared)(H:Hp)(E:XK):Cx where
 prog:=P
 w:=w
 K:=K
 mg:=mg
 base:=base
 A:=A.deeper (envOfC qual scope s.heap.objs.size f cd)
 N:=N
 s₀:=s
 H₀:=H
 env:=envOfC qual scope s.heap.objs.size f cd
 outer:=outer
 stack:=envOfC qual scope s.heap.objs.size f cd::outer
 ex:=[]
 calm:=true
 fn:=λ_=>true
 pn:=[]
 xe:=λe s'=>wpAny (model P w) (A.deeper (envOfC qual scope s.heap.objs.size f cd)) (leaving (envOfC qual scope s.heap.objs.size f cd) e) (λ_ s''=>CX outer H s E e s'') (λe' s''=>CX outer H s E e' s'') s'
theorem Ao{sc:Scope}{n:Nat}{x:Str}(h:sc.names.lookup x=O .cell):∃ c,(cellsFrom n sc.names []).lookup x=O c:=by
 have q:=W.cellsFrom_some sc.names n [] (.inl h)
 exact Ux.mp q
theorem EA{CX:FI}{P:Program}{w:World}{K:W.Frag}{mg:Str->Option Value}{base:Heap}{N ps:List Str}{qual:Str}{scope:Scope}{f:Addr}{cd:Value}{A:Around}{outer:List Env}{s s1:Shared}{H:Hp}{E:XK}{us:List Value}{vs:List V}
  (S:aH N ps scope) (hd:A.handled=U) (e0:Nr P w K mg base A outer s H) (hl:vs.length=ps.length) (r:Vals vs us)
  (x:InCallC s s.heap.objs.size (bindL (envOfC qual scope s.heap.objs.size f cd).kindOf (ps.zip us) λ_=>U) (cellsFrom (s.heap.objs.size+1) scope.names []) (bindC (envOfC qual scope s.heap.objs.size f cd).kindOf (ps.zip us) λ_=>U) s1) :
  Inv (uh CX P w K mg base N qual scope f cd A outer s H E) [] (start N vs) H s1:=by
 have hpl:ps.length<=N.length:=by have:=congrArg List.length S.pre;rw [Vj] at this;omega
 obtain⟨h1,tk,rfl,hk⟩:=x.done
 have noA:∀ b:Addr,b ∉ (uh CX P w K mg base N qual scope f cd A outer s H E).ex:=λb z=>absurd (show b∈([]:List Addr) from z) (by simp)
 refine⟨⟨e0.mod,S.kind,rfl,rfl,SS _,λy z c h1 h2=>?_,λy hy=>?_,λy c _ h=>?_,λ_=>hd,Around.frames_deeper e0.frames,.inr ⟨rfl,rfl⟩,λb z=>absurd z (noA b),e0.bs,e0.bsz,λb _ _=>noA b,λb z=>absurd z (noA b),e0.funs,e0.frf⟩,
  rfl,e0.bare,Un.kept hk,⟨_,x.toInCall.ns,λi y v h1 h2 h3=>?_⟩,λy c h=>⟨_,x.cell y c h⟩,e0.hok.fresh (SS _),λy c h=>?_,λp hp=>absurd (show p∈([]:List (Addr×Obj)) from hp) (by simp),e0.hok.kept hk,?_⟩
 ·exact name_of_addr x.apart (Uz h1) (Uz h2)
 ·have hy:scope.names.lookup y=O .cell\/scope.names.lookup y=O .free:=hy
  rcases hy with hy | hy
  ·exact Ao hy
  ·exact absurd rfl (S.nofree _ (Uz hy))
 ·exact VL (x.above y c (Uz h))
 ·have hi:i<vs.length:=by
   unfold start at h2
   by_cases hi:i<vs.length
   ·exact hi
   ·rw [Ub (by simpa using hi)] at h2
    rw [List.getElem?_replicate] at h2
    split at h2 <;> cases h2
  have ha:vs[i]?=O v:=by
   unfold start at h2
   rw [To (by simpa using hi),UN] at h2
   cases e:vs[i]? with
   | none=>rw [e] at h2;cases h2
   | some a=>rw [e] at h2;cases h2;rfl
  obtain⟨u,hu,rv⟩:=r.get ha
  have hp:ps[i]?=O y:=by
   rw [<- S.pre,WJ (by omega)];exact h1
  have ndP:ps.Nodup:=by rw [<- S.pre];exact S.nd.sublist (List.take_sublist _ _)
  refine⟨u,rv,?_⟩
  rcases S.par y (TC hp) with k | k
  ·exact .inl ⟨k,vN ndP hp hu k⟩
  ·obtain⟨c,e⟩:=Ao (n:=s.heap.objs.size+1) k
   refine .inr ⟨.inl k,c,e,?_⟩
   have q:=x.cell y c e
   rw [vP ndP hp hu (by show scope.names.lookup y≠_;rw [k];decide)] at q
   exact q
 ·exact e0.hok.fresh (VL (x.above y c (Uz h)))
 ·unfold start
  show _=N.length
  rw [Tl,SX,List.length_replicate]
  omega
theorem fn_of{CX:FI}{P:Program}{w:World}{K:W.Frag}{mg:Str->Option Value}{base:Heap}{k:Nat}{f:Addr}{name qual:Str}{params:Arguments}{body:List Stmt}{scope:Scope}{dV kV doc pm cdv ct oc:Value}{an od:Option Addr}
  {osl:Array (Option Value)} {N ps:List Str} {sp:Sp} (lk:K.lookup f=O ⟨oc,od,.func (W.fnOf name qual params body scope dV kV doc pm an cdv ct),osl⟩) (hcd:W.codeIn K cdv qual=true) (S:aH N ps scope)
  (len:∀ vs H Q E,sp vs H Q E->vs.length=ps.length)
  (hbody:∀ (A:Around) (outer:List Env) (s:Shared) (H:Hp) (vs:List V) (Q:VK) (E:XK),Room k (A.deeper (envOfC qual scope s.heap.objs.size f cdv))->sp vs H Q E ->
   ∃ t,PSs (uh CX P w K mg base N qual scope f cdv A outer s H E) body t/\t { nx:=λ_ H'=>Q .non H',rt:=Q } (start N vs) H) :
  FnOk P w K mg base CX (k+1) f (W.fnOf name qual params body scope dV kV doc pm an cdv ct) ps sp:=by
 refine⟨len,λA outer s H args us vs Q E hr e0 hb r hsp=>?_⟩
 have hl:=len _ _ _ _ hsp
 have KX:K.In s.heap:=e0.mod.kin.keeps λb o e=>(e0.bs b o e).1
 have lim:s.heap.NoLimit:=e0.mod.nolimit.keeps λb o e=>(e0.bs b o e).1
 have hkind:∀ y∈ps.zip us,scope.names.lookup y.1=O .local\/(scope.names.lookup y.1=O .cell/\((cellsFrom (s.heap.objs.size+1) scope.names []).lookup y.1).isSome=true):=λ⟨n,v⟩ hy=>by
  rcases S.par n (WC hy).1 with q | q
  ·exact .inl q
  ·exact .inr ⟨q,W.cellsFrom_some _ _ _ (.inl q)⟩
 refine codeAny_call_function hr.depth (KX _ _ lk) rfl S.co S.gen rfl (W.codeRec_of KX hcd) (hb _ _ _ _ ?_)
 refine wpAny_newFunctionEnv_cells S.kind hkind λenv he s1 x=>?_
 subst he
 refine⟨lim.keeps x.toInCall.keep,codeAny_func ?_⟩
 obtain⟨t,ht,hq⟩:=hbody A outer s H vs Q E (hr.deeper _) hsp
 have I:Inv (uh CX P w K mg base N qual scope f cdv A outer s H E) [] (start N vs) H s1:=EA S hr.hd e0 hl r x
 refine Tp (ht [] s1 (start N vs) H _ I hq) (λfl s' hs=>?_) λe s' hs=>hs
 have fin:∀ {σ':St} {H':Hp} {v:V} {u:Value},Inv (uh CX P w K mg base N qual scope f cdv A outer s H E) [] σ' H' s'->RelV v u->Q v H'->CE outer P w H s Q u s':=
  λ{σ' H' v u} J rv q=>⟨v,H',J.os,J.bare,J.base,J.hok,rv,q⟩
 cases fl with
 | ret u=>
  obtain⟨v,σ',H',J,rv,q⟩:=hs
  exact fin J rv q
 | next=>
  obtain⟨σ',H',J,q⟩:=hs
  exact fin (v:=V.non) (u:=Value.none) J rfl q
 | brk=>
  obtain⟨_,_,_,q⟩:=hs
  exact False.elim q
 | cont=>
  obtain⟨_,_,_,q⟩:=hs
  exact False.elim q
section
variable{X:Cx}{x:Str}{p pos:Pos}{e:Expr}{es:List Expr}{t:TA}{id T:String}{r:List V->Hp->VK->Prop}
noncomputable def tCB(r:List V->Hp->VK->Prop)(t:TA):TE:=λσ H Q=>t σ H λvs H1=>r vs H1 Q
theorem rQ(hc:CallR X (.builtin id) r)(hg:Gl X x)(hm:X.mg x=U)(hv:bootBuiltins x=O (.builtin id))(ha:PA X (e::es) t)(hn:x ≠ "__name__":=by decide)(hdb:(x == ("__debug__":Str))=false:=by decide)
  (he:starEach (e::es) X.env=(false,eval e X.env)::starEach es X.env:=by rfl) (hpl:(backTo pos (starEach es X.env)).any (·.1)=false:=by rfl):PE X (.Call (.Name x p) (e::es) [] pos) (tCB r t):=by
 intro pins s σ H Q I h
 refine Vt (jf I hg hm hv ?_ hn hdb)
 exact PyProof.Rows.callWith_builtin1 (cF (ha pos pins s σ H _ I h) λus s1 ⟨vs,H1,I1,r1,q1⟩=>hc pins s1 σ H1 vs us Q I1 r1 q1) he hpl
theorem uM(hc:CallR X (.type T) r)(hg:Gl X x)(hm:X.mg x=U)(hv:bootBuiltins x=O (.type T))(ha:PA X (e::es) t)(hn:x ≠ "__name__":=by decide)(hdb:(x == ("__debug__":Str))=false:=by decide)
  (he:starEach (e::es) X.env=(false,eval e X.env)::starEach es X.env:=by rfl) (hpl:(backTo pos (starEach es X.env)).any (·.1)=false:=by rfl):PE X (.Call (.Name x p) (e::es) [] pos) (tCB r t):=by
 intro pins s σ H Q I h
 refine Vt (jf I hg hm hv ?_ hn hdb)
 exact TM (cF (ha pos pins s σ H _ I h) λus s1 ⟨vs,H1,I1,r1,q1⟩=>hc pins s1 σ H1 vs us Q I1 r1 q1) he hpl
end
end L2
namespace HT
section
open PySem.SeqAt
open PySem.AutoSeq1 (wpAny_loadPart')
open PySem.MeetsSeq PySem.MeetsSeq2 PySem.MeetsSeq3
end
section
variable{prog:Program}{w:World}{A:Around}{E:Value->Shared->Prop}{s:Shared}
theorem Nf{t b:Addr}{vs ws:List Value}{Q:Value->Shared->Prop}(ht:IsTup s.heap t vs.toArray)(hb:IsTup s.heap b ws.toArray)(hv:vs≠[])
  (h1:ws=[]->Q (.ref t) s) (h2:ws≠[]->Q (.ref s.heap.objs.size) { s with heap:=s.heap.push { cls:=.type "tuple",data:=.seq (vs++ws).toArray } })
  (hsz:vs.length+ws.length<=sizeLine):wpAny (model prog w) A (binaryOp .Add (.ref t) (.ref b)) Q E s:=by
 obtain⟨⟨cls,dd,data,sl⟩,ho,hc,n,hd⟩:=id ht
 obtain⟨⟨cls2,dd2,data2,sl2⟩,ho2,hc2,n2,hd2⟩:=id hb
 simp only at hc hd hc2 hd2
 subst hc hd hc2 hd2
 have e:vs.toArray++ws.toArray=(vs++ws).toArray:=by simp
 by_cases hw:ws=[]
 ·exact Xa ⟨_,ho,rfl⟩ ⟨_,ho2,rfl⟩ Wm WM Wq Wh (VZ _ _)
   (tuple_addW1 t b vs.toArray ws.toArray n n2 dd dd2 sl sl2 (by simpa using hv) (by simp [hw])) ⟨ho,ho2,h1 hw⟩
 ·refine Xa ⟨_,ho,rfl⟩ ⟨_,ho2,rfl⟩ Wm WM Wq Wh (VZ _ _)
   (tuple_addW2 t b vs.toArray ws.toArray n n2 dd dd2 sl sl2 (by simpa using hv) (by simpa using hw) (by rw [SQ,SQ];exact hsz)) ⟨ho,ho2,?_⟩
  rw [e]
  exact h2 hw
noncomputable def eR(n d:Nat):Option Int->Nat
 | none=>d
 | some v=>if v<0 then (v+(n:Int)).toNat else min v.toNat n
theorem sIx_nat(n d k:Nat):eR n d (O (k:Int))=min k n:=by
 show (if (k:Int)<0 then ((k:Int)+(n:Int)).toNat else min (k:Int).toNat n)=min k n
 rw [Ts (by omega),UP]
theorem OS(n d:Nat)(hd:d<=n)(o:Option Int):eR n d o<=n:=by
 cases o with
 | none=>exact hd
 | some v=>
  show (if v<0 then (v+(n:Int)).toNat else min v.toNat n)<=n
  by_cases hv:v<0
  ·rw [Td hv];omega
  ·rw [Ts hv];exact Nat.min_le_right _ _
theorem Dt(v:Int)(n d:Nat):(if v<0 then max (v+(n:Int)) 0 else min v (n:Int))=((eR n d (O v):Nat):Int):=by
 show (if v<0 then max (v+(n:Int)) 0 else min v (n:Int))=(((if v<0 then (v+(n:Int)).toNat else min v.toNat n):Nat):Int)
 by_cases hv:v<0
 ·simp only [Td hv];omega
 ·simp only [Ts hv];omega
theorem Cg(lo hi:Option Int)(n:Nat):Builtin.Slice.sliceAdjust lo hi 1 (n:Int)=(((eR n 0 lo:Nat):Int),((eR n n hi:Nat):Int)):=by
 have h1:¬ ((1:Int)<0):=by omega
 unfold Builtin.Slice.sliceAdjust
 simp only [h1,UL]
 refine Prod.ext ?_ ?_
 ·cases lo with
  | none=>rfl
  | some v=>exact Dt v n 0
 ·cases hi with
  | none=>rfl
  | some v=>exact Dt v n n
theorem AW(i j:Nat):Builtin.Slice.slicePlaces (i:Int) (j:Int) 1=j - i:=by
 unfold Builtin.Slice.slicePlaces
 have h1:(1:Int)>0:=by omega
 simp only [h1,VC,Int.ediv_one]
 split <;> omega
theorem rC{v:Value}{o:Option Int}{Q:Option Int->Shared->Prop}(p:IsPart v o)(h:Q o s):wpAny (model prog w) A (Builtin.Slice.slicePartIndex v) Q E s:=by
 cases p with
 | none=>exact slicePart_none h
 | int i t=>exact slicePart_int h
theorem jo{sl:Addr}{vl vu:Value}{lo hi:Option Int}{n:Nat}{Q:Int×Int×Nat->Shared->Prop}(hs:s.heap.IsSliceOf sl vl vu .none)(pl:IsPart vl lo)(pu:IsPart vu hi)
  (h:Q (((eR n 0 lo:Nat):Int),1,eR n n hi - eR n 0 lo) s):wpAny (model prog w) A (Builtin.Slice.sliceApplied (.ref sl) (pure (n:Int))) Q E s:=by
 obtain⟨os,hos,hcs,hds⟩:=id hs
 unfold Builtin.Slice.sliceApplied Builtin.Slice.sliceFields
 refine SK (SK (TQ hos hds (x:=vl) rfl (SK (TQ hos hds (x:=vu) rfl (SK (TQ hos hds (x:=.none) rfl (SU ?_)))))))
 refine SK (slicePart_none ?_)
 show wpAny _ _ (if ((1:Int) == 0)=true then _ else _) _ _ s
 rw [Ts (by decide)]
 refine SK (rC pl (SK (rC pu (SK (SU ?_)))))
 show wpAny _ _ (match Builtin.Slice.sliceAdjust lo hi 1 (n:Int) with | (lo,hi)=>pure (lo,(1:Int),Builtin.Slice.slicePlaces lo hi 1)) _ _ s
 rw [Cg lo hi n]
 show wpAny _ _ (pure (((eR n 0 lo:Nat):Int),(1:Int),Builtin.Slice.slicePlaces ((eR n 0 lo:Nat):Int) ((eR n n hi:Nat):Int) 1)) _ _ s
 rw [AW]
 exact SU h
theorem GF(xs:Array Value)(i k:Nat):((List.range k).filterMap λ(m:Nat)=>xs[((i:Int)+(m:Int) * 1).toNat]?).toArray=((xs.toList.drop i).take k).toArray:=by
 have e:(λ(m:Nat)=>xs[((i:Int)+(m:Int) * 1).toNat]?)=λm=>xs[i+m]?:=by
  funext m
  have:((i:Int)+(m:Int) * 1).toNat=i+m:=by omega
  rw [this]
 rw [e]
 have:=pick_run xs i k
 rw [List.filterMap_map] at this
 have e2:((λx=>xs[x]?) ∘ λx=>i+x)=λm=>xs[i+m]?:=rfl
 rw [e2] at this
 rw [this]
theorem nX{t sl:Addr}{items:Array Value}{vl vu:Value}{lo hi:Option Int}{Q:Value->Shared->Prop}(ht:IsTup s.heap t items)(hs:s.heap.IsSliceOf sl vl vu .none)(pl:IsPart vl lo)(pu:IsPart vu hi)
  (hw:¬ (eR items.size 0 lo=0/\eR items.size items.size hi=items.size))
  (h:Q (.ref s.heap.objs.size) { s with heap:=s.heap.push { cls:=.type "tuple",data:=.seq ((items.toList.drop (eR items.size 0 lo)).take (eR items.size items.size hi - eR items.size 0 lo)).toArray } })
  (hsz:items.size<=sizeLine):wpAny (model prog w) A (getItem (.ref t) (.ref sl)) Q E s:=by
 have htake:sizeOk (.seq ((items.toList.drop (eR items.size 0 lo)).take (eR items.size items.size hi - eR items.size 0 lo)).toArray):=by
  show ((items.toList.drop (eR items.size 0 lo)).take (eR items.size items.size hi - eR items.size 0 lo)).toArray.size<=sizeLine
  rw [SQ,Vj,UD,UU]
  omega
 have hj:eR items.size items.size hi<=items.size:=OS _ _ (SS _) hi
 obtain⟨os,hos,hcs,hds⟩:=id hs
 have hTs:s.TypeIs (.ref sl) "slice":=⟨os,hos,hcs⟩
 unfold getItem
 try with_reducible refine Tu ?_
 first | refine SK (SU ?_) | skip
 refine SK (wpAny_sequenceKey ht.typeIs (by decide) ?_)
 refine SK (Ua (name:=Str.ofString "__getitem__") ht.typeIs Uw
  (UB Uw ht.typeIs Xj ?_ (Xp _ _)))
 show wpAny _ _ (Builtin.Tuple.tupleItemsOf (.ref t) >>= _) _ _ s
 refine SK (tupleItemsOf_ ht ?_)
 refine SK (WX hTs ?_)
 rw [Td (by decide)]
 refine SK (jo hs pl pu ?_)
 have hno:¬ ((((eR items.size 0 lo:Nat):Int) == 0&&(1:Int) == 1&&(eR items.size items.size hi - eR items.size 0 lo) == items.size)=true):=by
  intro q
  rw [SM,SM] at q
  have q1:((eR items.size 0 lo:Nat):Int)=0:=eq_of_beq q.1.1
  have q2:eR items.size items.size hi - eR items.size 0 lo=items.size:=eq_of_beq q.2
  exact hw ⟨by omega,by omega⟩
 show wpAny _ _ (if (((eR items.size 0 lo:Nat):Int) == 0&&(1:Int) == 1&&(eR items.size items.size hi - eR items.size 0 lo) == items.size)=true then _ else _) _ _ s
 rw [Ts hno,GF]
 first
  | exact SK (m:=Builtin.Tuple.tupleExact _) (TL (SU ⟨_,rfl,SU h⟩) htake)
  | exact SK (m:=Builtin.Tuple.tupleExact _) (TL (SK (SU (SU ⟨_,rfl,SU h⟩))) htake)
  | exact SK (SK (m:=Builtin.Tuple.tupleExact _) (TL (SU (SU ⟨_,rfl,SU h⟩)) htake))
  | exact SK (SK (m:=Builtin.Tuple.tupleExact _) (TL (SU ⟨_,rfl,SU h⟩) htake))
end
end HT
namespace L2
noncomputable abbrev TO:=St->Hp->(Option Int->Hp->Prop)->Prop
noncomputable def PO(X:Cx)(e:Option Expr)(t:TO):Prop:=
 ∀ (pins:List (Addr×Obj)) (s:Shared) (σ:St) (H:Hp) (Q:Option Int->Hp->Prop),Inv X pins σ H s->t σ H Q ->
  wpAny (model X.prog X.w) X.A (evalPart e X.env) (λu s'=>∃ o H',Inv X pins σ H' s'/\IsPart u o/\Q o H') X.xe s
noncomputable def Kl:TO:=λ_ H Q=>Q U H
noncomputable def tPart(t:TE):TO:=λσ H Q=>t σ H λx H1=>∃ i,x=.int i/\Q (O i) H1
section
variable{X:Cx}{e:Expr}{te:TE}{lo hi:Option Expr}{tl th:TO}{pos p2:Pos}
theorem KP:PO X U Kl:=by
 intro pins s σ H Q I h
 rw [evalPart_none]
 exact SU ⟨U,H,I,.none,h⟩
theorem KO(h:PE X e te):PO X (O e) (tPart te):=by
 intro pins s σ H Q I hw
 rw [evalPart_some]
 refine cF (h pins s σ H _ I hw) λu s1 ⟨x,H1,I1,r1,q1⟩=>?_
 obtain⟨i,rfl,q⟩:=q1
 obtain⟨t,rfl⟩:=r1
 exact⟨O i,H1,I1,.int i t,q⟩
noncomputable def SlR(X:Cx)(r:V->Option Int->Option Int->Hp->VK->Prop):Prop:=
 ∀ (pins:List (Addr×Obj)) (s:Shared) (σ:St) (H:Hp) (x:V) (v vl vu:Value) (lo hi:Option Int) (sl:Addr) (Q:VK),Inv X pins σ H s->RelV x v->s.heap.IsSliceOf sl vl vu .none->IsPart vl lo->IsPart vu hi->r x lo hi H Q ->
  ∃ T id,typeLookup (.type T) "__getitem__" = pure (O (.builtin id))/\s.TypeIs v T/\wpAny (model X.prog X.w) X.A (getItem v (.ref sl)) (EP X pins σ Q) X.xe s
theorem SlR.or{r r':V->Option Int->Option Int->Hp->VK->Prop}(h:SlR X r)(h':SlR X r'):SlR X (λx lo hi H Q=>r x lo hi H Q\/r' x lo hi H Q):=by
 intro pins s σ H x v vl vu lo hi sl Q I rx hs pl pu q
 rcases q with q | q
 ·exact h pins s σ H x v vl vu lo hi sl Q I rx hs pl pu q
 ·exact h' pins s σ H x v vl vu lo hi sl Q I rx hs pl pu q
noncomputable def tSl(r:V->Option Int->Option Int->Hp->VK->Prop)(te:TE)(tl th:TO):TE:=λσ H Q=>te σ H λx H1=>tl σ H1 λl H2=>th σ H2 λu H3=>r x l u H3 Q
theorem GL{r:V->Option Int->Option Int->Hp->VK->Prop}(hr:SlR X r)(he:PE X e te)(hl:PO X lo tl)(hu:PO X hi th):PE X (.Subscript e (.Slice lo hi U p2) pos) (tSl r te tl th):=by
 intro pins s σ H Q I h
 refine Subscript_ (cF (he pins s σ H _ I h) λv s1 ⟨x,H1,I1,r1,q1⟩=>?_)
 refine wpAny_Slice (cF (hl pins s1 σ H1 _ I1 q1) λvl s2 ⟨l,H2,I2,pl,q2⟩=>cF (hu pins s2 σ H2 _ I2 q2) λvu s3 ⟨u,H3,I3,pu,q3⟩=>?_)
 rw [evalPart_none]
 refine SU ?_
 have I4:Inv X pins σ H3 { s3 with heap:=s3.heap.push { cls:=.type "slice",data:=.fields #[vl,vu,.none] } }:=I3.kept (t':=s3.toks) λb ob q=>SL _ q
 obtain⟨T,id,hT,ht,hg⟩:=hr pins { s3 with heap:=s3.heap.push { cls:=.type "slice",data:=.fields #[vl,vu,.none] } } σ H3 x v vl vu l u s3.heap.objs.size Q I4 r1 (Heap.IsSliceOf.new ..) pl pu q3
 show wpAny (model X.prog X.w) X.A (subscriptTail e (.Slice lo hi U p2) v (.ref s3.heap.objs.size)) (EP X pins σ Q) X.xe { s3 with heap:=s3.heap.push { cls:=.type "slice",data:=.fields #[vl,vu,.none] } }
 exact Xn (ops:=[.ref s3.heap.objs.size,v]) ht hT hg (by with_unfolding_all rfl)
noncomputable def Al(xs:List V)(lo hi:Option Int):List V:=(xs.drop (HT.eR xs.length 0 lo)).take (HT.eR xs.length xs.length hi - HT.eR xs.length 0 lo)
theorem qp(xs:List V)(lo hi:Option Int):(Al xs lo hi).length<=xs.length:=by
 unfold Al
 rw [Vj,UD]
 omega
noncomputable def rSlT(K:W.Frag):V->Option Int->Option Int->Hp->VK->Prop:=λx lo hi H Q=>∃ a xs,x=.ref a/\kS K H a xs /\
 ¬ (HT.eR xs.length 0 lo=0/\HT.eR xs.length xs.length hi=xs.length)/\∀ p,H p=U->Q (.ref p) (upd H p (.tup (Al xs lo hi)))
theorem OO:SlR X (rSlT X.K):=by
 intro pins s σ H x v vl vu lo hi sl Q I rx hs pl pu h
 obtain⟨a,xs,rfl,hx,hw,q⟩:=h
 cases rx
 obtain⟨its,r,ht,hz⟩:=I.tuple hx
 have hlen:its.toArray.size=xs.length:=by rw [SQ];exact r.length.symm
 refine⟨"tuple",_,PyProof.Rows.slot_tuple_getitem.lookup,ht.typeIs,?_⟩
 refine HT.nX ht hs pl pu (by rw [hlen];exact hw) ?_ (by rw [hlen];exact hz)
 rw [hlen]
 refine⟨.ref s.heap.objs.size,_,I.laid (t':=s.toks) (o:=.tup (Al xs lo hi)) (λb ob q=>SL _ q) (SS _) ?_,rfl,q _ (I.hok.fresh (SS _))⟩
 exact⟨Th (qp xs lo hi) hz,_,(r.drop (HT.eR xs.length 0 lo)).take (HT.eR xs.length xs.length hi - HT.eR xs.length 0 lo),IsTupN.new _ _⟩
noncomputable def rCatT(K:W.Frag):R2:=λx y H Q=>∃ a b xs ys,x=.ref a/\y=.ref b/\kS K H a xs/\kS K H b ys/\xs≠[]/\xs.length+ys.length<=sizeLine /\
 (ys=[]->Q (.ref a) H)/\(ys≠[]->∀ p,H p=U->Q (.ref p) (upd H p (.tup (xs++ys))))
theorem Vals.nil_iff{xs:List V}{us:List Value}(r:Vals xs us):us=[]↔xs=[]:=by
 cases r with
 | nil=>simp
 | cons _ _=>simp
theorem Ll:OpR X (binaryOp .Add) (rCatT X.K):=by
 intro pins s σ H x y v u Q I rx ry h
 obtain⟨a,b,xs,ys,rfl,rfl,ha,hb,hx,hz,q1,q2⟩:=h
 cases rx
 cases ry
 obtain⟨its,r1,p1,_⟩:=I.tuple ha
 obtain⟨its2,r2,p2,_⟩:=I.tuple hb
 refine HT.Nf p1 p2 (λz=>hx (r1.nil_iff.mp z)) (λz=>⟨.ref a,H,I,rfl,q1 (r2.nil_iff.mp z)⟩) (λz=>?_) (by rw [<- r1.length,<- r2.length];exact hz)
 refine⟨.ref s.heap.objs.size,_,I.laid (t':=s.toks) (o:=.tup (xs++ys)) (λb ob q=>SL _ q) (SS _) ?_,rfl,q2 (λw=>z (r2.nil_iff.mpr w)) _ (I.hok.fresh (SS _))⟩
 exact⟨by rw [Tl];exact hz,_,r1.append r2,IsTupN.new _ _⟩
end
noncomputable def Ey(n:Nat)(i:Int):Option Nat:=if 0<=i then (if i<n then O i.toNat else U) else if -(n:Int)<=i then O (i+n).toNat else U
noncomputable def lD{α:Type}(xs:List α)(i:Int):Option α:=(Ey xs.length i).bind λj=>xs[j]?
theorem Db{n:Nat}{i:Int}{j:Nat}(h:Ey n i=O j):seqIndex? i n=O j/\j<n/\-(n:Int)<=i/\i<n:=by
 unfold Ey at h
 by_cases h0:0<=i
 ·rw [Td h0] at h
  by_cases h1:i<n
  ·rw [Td h1] at h
   have e:i.toNat=j:=Tq h
   exact⟨by rw [Xi h0 h1,e],by omega,by omega,h1⟩
  ·rw [Ts h1] at h;cases h
 ·rw [Ts h0] at h
  by_cases h1:-(n:Int)<=i
  ·rw [Td h1] at h
   have e:(i+n).toNat=j:=Tq h
   exact⟨by rw [WZ (by omega) h1,e],by omega,h1,by omega⟩
  ·rw [Ts h1] at h;cases h
theorem yc{α:Type}{xs:List α}{i:Int}{v:α}(h:lD xs i=O v):∃ j,seqIndex? i xs.length=O j/\xs[j]?=O v/\j<xs.length/\-(xs.length:Int)<=i/\i<xs.length:=by
 unfold lD at h
 cases e:Ey xs.length i with
 | none=>rw [e] at h;cases h
 | some j=>
  rw [e] at h
  obtain⟨h1,h2,h3,h4⟩:=Db e
  exact⟨j,h1,h,h2,h3,h4⟩
noncomputable def qY(b:Expr):Prop:=∀ o i,subscripted b false o i=operate [o,i] (getItem o i)
noncomputable def IxR(X:Cx)(r:R2):Prop:=
 ∀ (value slice:Expr) (pins:List (Addr×Obj)) (s:Shared) (σ:St) (H:Hp) (x y:V) (v u:Value) (Q:VK),Inv X pins σ H s->RelV x v->RelV y u->r x y H Q ->
  subscripted slice false v u=operate [v,u] (getItem v u)->wpAny (model X.prog X.w) X.A (subscriptTail value slice v u) (EP X pins σ Q) X.xe s
noncomputable def MtR(X:Cx)(id:String)(r:V->List V->Hp->VK->Prop):Prop:=
 ∀ (pins:List (Addr×Obj)) (s:Shared) (σ:St) (H:Hp) (x:V) (xs:List V) (v:Value) (us:List Value) (Q:VK),Inv X pins σ H s->RelV x v->Vals xs us->r x xs H Q ->
  wpAny (model X.prog X.w) X.A (call (.builtin id) (v::us)) (EP X pins σ Q) X.xe s
section
variable{X:Cx}{a b:Expr}{ta tb:TE}{pos:Pos}
theorem IxR.or{r r':R2}(h:IxR X r)(h':IxR X r'):IxR X (λx y H Q=>r x y H Q\/r' x y H Q):=by
 intro value slice pins s σ H x y v u Q I rx ry q hs
 rcases q with q | q
 ·exact h value slice pins s σ H x y v u Q I rx ry q hs
 ·exact h' value slice pins s σ H x y v u Q I rx ry q hs
theorem GN{r:R2}(hr:IxR X r)(ha:PE X a ta)(hb:PE X b tb)(hs:qY b):PE X (.Subscript a b pos) (tOp r ta tb):=by
 intro pins s σ H Q I h
 exact Subscript_ (Ss ha hb I h λv u s2 x y H2 I2 rx ry q=>hr a b pins s2 σ H2 x y v u Q I2 rx ry q (hs _ _))
noncomputable def rIxL(K:W.Frag):R2:=λx y H Q=>∃ p xs i v,x=.ref p/\y=.int i/\jk K H p xs/\lD xs i=O v/\Q v H
noncomputable def rIxT(K:W.Frag):R2:=λx y H Q=>∃ p xs i v,x=.ref p/\y=.int i/\kS K H p xs/\lD xs i=O v/\Q v H
noncomputable def rIxS:R2:=λx y H Q=>∃ z i c,x=.str z/\y=.int i/\z.length<=sizeLine/\lD z.cps.toList i=O c/\Q (.str ⟨#[c]⟩) H
theorem ix_list:IxR X (rIxL X.K):=by
 intro value slice pins s σ H x y v u Q I rx ry h hs
 obtain⟨p,xs,i,z,rfl,rfl,hq,he,q⟩:=h
 cases rx
 obtain⟨t,rfl⟩:=ry
 obtain⟨its,r,pl,hz⟩:=I.list hq
 obtain⟨j,h1,h2,h3,h4,h5⟩:=yc he
 obtain⟨w,ew,rw'⟩:=r.get h2
 have hl:=r.length
 have hn:=mN
 have fin:EP X pins σ Q w s:=⟨z,H,I,rw',q⟩
 by_cases h0:0<=i
 ·have hj:i.toNat=j:=by
   rw [Xi h0 h5] at h1
   exact Tq h1
  exact item_listR pl.isList h0 (by omega) (by rw [hj];simpa using ew) fin hs
 ·have hj:(i+(its.toArray.size:Int)).toNat=j:=by
   rw [WZ (by omega) h4] at h1
   rw [SQ,<- hl]
   exact Tq h1
  exact WT (x:=w) pl.isList.typeIs slot_list_getitem.lookup
   (wpAny_getItem_list_neg (Q:=λr s'=>r=w/\EP X pins σ Q r s') pl.isList (by omega) (by rw [SQ] <;> omega) (by omega) (by rw [hj];simpa using ew) ⟨rfl,fin⟩) hs
theorem Ri:IxR X (rIxT X.K):=by
 intro value slice pins s σ H x y v u Q I rx ry h hs
 obtain⟨p,xs,i,z,rfl,rfl,hq,he,q⟩:=h
 cases rx
 obtain⟨t,rfl⟩:=ry
 obtain⟨its,r,pl,hz⟩:=I.tuple hq
 obtain⟨j,h1,h2,h3,h4,h5⟩:=yc he
 obtain⟨w,ew,rw'⟩:=r.get h2
 have hl:=r.length
 have hn:=mN
 have fin:EP X pins σ Q w s:=⟨z,H,I,rw',q⟩
 exact WT (x:=w) pl.typeIs slot_tuple_getitem.lookup
  (getItem_tuple (j:=j) (Q:=λr s'=>r=w/\EP X pins σ Q r s') pl (by omega) (by omega) (by rw [SQ,<- hl];exact h1) (by simpa using ew) ⟨rfl,fin⟩) hs
theorem Rn:IxR X rIxS:=by
 intro value slice pins s σ H x y v u Q I rx ry h hs
 obtain⟨z,i,c,rfl,rfl,hz,he,q⟩:=h
 obtain⟨t,rfl⟩:=rx
 obtain⟨t',rfl⟩:=ry
 obtain⟨j,h1,h2,h3,h4,h5⟩:=yc he
 have hl:z.cps.toList.length=z.length:=by simp [Str.length]
 rw [hl] at h1 h4 h5
 have hn:=mN
 exact Xn (Wb s z t) slot_str_getitem.lookup (getItem_str (c:=c) (by
  have e1:decide (i < -(2 ^ 63:Int))=false:=Tw (by omega)
  have e2:decide (i≥2 ^ 63)=false:=Tw (by omega)
  rw [e1,e2,WQ]) (by rw [h1];simpa using h2) ⟨.str ⟨#[c]⟩,H,I.tok _,⟨_,rfl⟩,q⟩) hs
theorem Bm(its:List Value)(n j:Nat)(u:Value):Obj.mapSeq (·.setIfInBounds j u) { cls:=.type "list",data:=.seq its.toArray n } = { cls:=.type "list",data:=.seq (its.set j u).toArray n }:=by
 simp [Obj.mapSeq]
theorem Inv.lst{pins:List (Addr×Obj)}{σ:St}{H:Hp}{s:Shared}{p:Addr}{xs:List V}(I:Inv X pins σ H s)(h:H p=O (.lst xs)) :
  ∃ (its:List Value) (n:Nat),Vals xs its/\s.heap.get? p=O { cls:=.type "list",data:=.seq its.toArray n }/\xs.length<=sizeLine:=by
 obtain⟨z,its,n,r,e⟩:=I.hok p _ h
 exact⟨its,n,r,e,z⟩
theorem Inv.lstUpd{pins:List (Addr×Obj)}{σ:St}{H:Hp}{s:Shared}{p:Addr}{xs ys:List V}{its its':List Value}{n n':Nat}{f:Obj->Obj}(I:Inv X pins σ H s)(h:H p=O (.lst xs))
  (ho:s.heap.get? p=O { cls:=.type "list",data:=.seq its.toArray n }) (hf:f { cls:=.type "list",data:=.seq its.toArray n } = { cls:=.type "list",data:=.seq its'.toArray n' }) (r:Vals ys its') (hz:ys.length<=sizeLine) (t:Nat) :
  Inv X pins σ (upd H p (.lst ys)) { s with heap:=s.heap.update p f,toks:=t }:=by
 have e:(s.heap.update p f).get? p=O { cls:=.type "list",data:=.seq its'.toArray n' }:=by
  rw [TR f ho (by rw [hf] <;> rfl),hf]
 refine I.write (x:=p) (e:=p) (by rw [h];trivial) (.inl rfl) (λb u hb q=>(WV _ _ (Ne.symm hb)).trans q) ⟨_,e⟩ ?_
 exact⟨hz,its',n',r,e⟩
noncomputable def rSetL:V->V->V->Hp->(Hp->Prop)->Prop:=λo i v H Q=>∃ p xs k j,o=.ref p/\i=.int k/\H p=O (.lst xs)/\Ey xs.length k=O j/\Q (upd H p (.lst (xs.set j v)))
theorem Gg:PSet X rSetL:=by
 intro pins s σ H o i v ov iv u Q I ro ri rv h
 obtain⟨p,xs,k,j,rfl,rfl,hp,hj,q⟩:=h
 cases ro
 obtain⟨t,rfl⟩:=ri
 obtain⟨its,n,r,ho,hz⟩:=I.lst hp
 obtain⟨h1,h2,h3,h4⟩:=Db hj
 have hl:=r.length
 have hn:=mN
 have I':Inv X pins σ (upd H p (.lst (xs.set j v))) { s with heap:=s.heap.update p (Obj.mapSeq (·.setIfInBounds j u)) }:=
  I.lstUpd hp ho (Bm its n j u) (r.set rv j) (by rw [List.length_set];exact hz) s.toks
 by_cases h0:0<=k
 ·have hk:k.toNat=j:=by
   rw [Xi h0 h4] at h1
   exact Tq h1
  exact W.ki_setAt ho h0 (by omega) (by rw [SQ,<- hl];exact h4) (by rw [hk];exact⟨_,I',q⟩)
 ·have hk:(k+(its.toArray.size:Int)).toNat=j:=by
   rw [WZ (by omega) h3] at h1
   rw [SQ,<- hl]
   exact Tq h1
  exact W.ki_setBack ho (by omega) (by rw [SQ,<- hl];exact h3) (by omega) (by rw [hk];exact⟨_,I',q⟩)
theorem we(lo hi:Option Int)(n:Nat):(sliceBounds lo hi U n).1=((HT.eR n 0 lo:Nat):Int)/\(sliceBounds lo hi U n).2.1=((HT.eR n n hi:Nat):Int)/\(sliceBounds lo hi U n).2.2=1:=by
 refine⟨?_,?_,rfl⟩
 ·cases lo with
  | none=>simp [sliceBounds,HT.eR]
  | some i=>
   simp only [sliceBounds,HT.eR,Option.getD_none,show (1:Int)>0 by decide,VC]
   by_cases h:i<0
   ·simp only [h,VC] <;> omega
   ·simp only [h,UL] <;> omega
 ·cases hi with
  | none=>simp [sliceBounds,HT.eR]
  | some i=>
   simp only [sliceBounds,HT.eR,Option.getD_none,show (1:Int)>0 by decide,VC]
   by_cases h:i<0
   ·simp only [h,VC] <;> omega
   ·simp only [h,UL] <;> omega
theorem tX(its:List Value)(lo hi:Option Int):slicePick its.toArray lo hi U=((its.drop (HT.eR its.length 0 lo)).take (HT.eR its.length its.length hi - HT.eR its.length 0 lo)).toArray:=by
 obtain⟨h1,h2,h3⟩:=we lo hi its.toArray.size
 unfold slicePick
 rw [h1,h2,h3]
 simp only [sliceRange_one,pick_run,SQ] <;> rfl
noncomputable def rSlL(K:W.Frag):V->Option Int->Option Int->Hp->VK->Prop:=λx lo hi H Q=>∃ a xs,x=.ref a/\jk K H a xs/\∀ p,H p=U->Q (.ref p) (upd H p (.lst (Al xs lo hi)))
theorem Kr:SlR X (rSlL X.K):=by
 intro pins s σ H x v vl vu lo hi sl Q I rx hs pl pu h
 obtain⟨a,xs,rfl,hx,q⟩:=h
 cases rx
 obtain⟨its,r,ht,hz⟩:=I.list hx
 have hlen:=r.length
 refine⟨"list",_,slot_list_getitem.lookup,ht.isList.typeIs,?_⟩
 refine wpAny_getItem_list_slice ht.isList hs pl pu .none (by simp) ?_ (by rw [SQ] <;> omega)
 rw [tX,<- hlen]
 refine⟨.ref s.heap.objs.size,_,I.laid (t':=s.toks) (o:=.lst (Al xs lo hi)) (λb ob q=>SL _ q) (SS _) ?_,rfl,q _ (I.hok.fresh (SS _))⟩
 exact⟨Th (qp xs lo hi) hz,_,0,(r.drop (HT.eR xs.length 0 lo)).take (HT.eR xs.length xs.length hi - HT.eR xs.length 0 lo),SW _ rfl⟩
theorem call_len_seq:CallR X (.builtin "len") (λxs H Q=>∃ p ys,xs=[.ref p]/\(jk X.K H p ys\/kS X.K H p ys)/\Q (.int ys.length) H):=by
 intro pins s σ H xs us Q I r h
 obtain⟨p,ys,rfl,hq,q⟩:=h
 obtain⟨u,rfl,rx⟩:=gM r
 cases rx
 have hn:=mN
 rcases hq with hq | hq
 ·obtain⟨its,r',pl,hz⟩:=I.list hq
  have hlen:=r'.length
  exact Calls.call_len_list pl.isList (by simp only [SQ] <;> omega) ⟨.int ys.length,H,I.tok _,⟨s.toks+1,by rw [SQ,hlen]⟩,q⟩
 ·obtain⟨its,r',pl,hz⟩:=I.tuple hq
  have hlen:=r'.length
  exact len_tuple pl (by simp only [SQ] <;> omega) ⟨.int ys.length,H,I.tok _,⟨s.toks+1,by rw [SQ,hlen]⟩,q⟩
theorem yb:CallR X (.builtin "len") (λxs H Q=>∃ z,xs=[.str z]/\z.length<=sizeLine/\Q (.int z.length) H):=by
 intro pins s σ H xs us Q I r h
 obtain⟨z,rfl,hz,q⟩:=h
 obtain⟨u,rfl,t,rfl⟩:=gM r
 have hn:=mN
 exact len_str (by omega) ⟨.int z.length,H,I.tok _,⟨_,rfl⟩,q⟩
theorem CallR.or{f:Value}{r r':List V->Hp->VK->Prop}(h:CallR X f r)(h':CallR X f r'):CallR X f (λxs H Q=>r xs H Q\/r' xs H Q):=by
 intro pins s σ H xs us Q I rs q
 rcases q with q | q
 ·exact h pins s σ H xs us Q I rs q
 ·exact h' pins s σ H xs us Q I rs q
theorem ya:CallR X (.type "list") (λxs H Q=>∃ p ys,xs=[.ref p]/\(jk X.K H p ys\/kS X.K H p ys)/\∀ l,H l=U->Q (.ref l) (upd H l (.lst ys))):=by
 intro pins s σ H xs us Q I r h
 obtain⟨p,ys,rfl,hq,q⟩:=h
 obtain⟨u,rfl,rx⟩:=gM r
 cases rx
 have fin:∀ (its:List Value),Vals ys its->ys.length<=sizeLine->∀ (h':Heap) (c':Nat),(∀ b o',s.heap.get? b=O o'->h'.get? b=O o') ->
   h'.get? s.heap.objs.size=O { cls:=.type "list",dict:=U,data:=.seq its.toArray c',slots:=#[] }->EP X pins σ Q (.ref s.heap.objs.size) { s with heap:=h' }:=λits r' hz h' c' kp e=>
  ⟨.ref s.heap.objs.size,_,I.laid (t':=s.toks) kp (SS _) (show ObjOk X.prog X.w _ h' _ (.lst ys) from ⟨hz,its,c',r',e⟩),rfl,q _ (I.hok.fresh (SS _))⟩
 rcases hq with hq | hq
 ·obtain⟨its,r',pl,hz⟩:=I.list hq
  have hlen:=r'.length
  obtain⟨o,ho,hc,n,hd⟩:=pl.isList
  exact call_list_seq p (.inl rfl) ho hc hd (λh' c' kp e=>fin its r' hz h' c' kp e) (by simp only [SQ] <;> omega)
 ·obtain⟨its,r',pl,hz⟩:=I.tuple hq
  have hlen:=r'.length
  obtain⟨o,ho,hc,n,hd⟩:=pl
  exact call_list_seq p (.inr rfl) ho hc hd (λh' c' kp e=>fin its r' hz h' c' kp e) (by simp only [SQ] <;> omega)
theorem ul:CallR X (.type "tuple") (λxs H Q=>∃ p ys,xs=[.ref p]/\((jk X.K H p ys/\∀ l,H l=U->Q (.ref l) (upd H l (.tup ys)))\/(kS X.K H p ys/\Q (.ref p) H))):=by
 intro pins s σ H xs us Q I r h
 obtain⟨p,ys,rfl,h⟩:=h
 obtain⟨u,rfl,rx⟩:=gM r
 cases rx
 rcases h with ⟨hq,q⟩ | ⟨hq,q⟩
 ·obtain⟨its,r',pl,hz⟩:=I.list hq
  have hlen:=r'.length
  refine call_tuple_list pl.isList (λh' kp=>?_) (by simp only [SQ] <;> omega)
  have I1:Inv X pins σ H { s with heap:=h' }:=I.kept (t':=s.toks) kp
  have I2:Inv X pins σ (upd H h'.objs.size (.tup ys)) { s with heap:=h'.push { cls:=.type "tuple",data:=.seq its.toArray } }:=
   I1.laid (t':=s.toks) (λb o e=>SL _ e) (SS _) (show ObjOk X.prog X.w _ _ _ (.tup ys) from ⟨hz,its,r',IsTupN.new _ _⟩)
  exact⟨.ref h'.objs.size,_,I2,rfl,q _ (I1.hok.fresh (SS _))⟩
 ·obtain⟨its,r',pl,hz⟩:=I.tuple hq
  exact call_tuple_same pl ⟨.ref p,H,I,rfl,q⟩
noncomputable def tyV(K:W.Frag)(T:String)(x:V)(H:Hp):Prop:=match x with
 | .str _=>T = "str"
 | .int _=>T = "int"
 | .ref p=>(T = "list"/\∃ xs,jk K H p xs)\/(T = "tuple"/\∃ o,K.lookup p=O o/\o.cls=.type "tuple"/\o.dict=U) \/
   (T = "dict"/\((∃ kvs,H p=O (.dK kvs))\/∃ kvs,H p=O (.dT kvs)))\/(T = "set"/\∃ S n,H p=O (.set S n))
 | _=>False
theorem OA{pins:List (Addr×Obj)}{σ:St}{H:Hp}{s:Shared}{T:String}{x:V}{v:Value}(I:Inv X pins σ H s)(r:RelV x v)(ty:tyV X.K T x H) :
  s.TypeIs v T/\∀ a,v=.ref a->∃ ob,s.heap.get? a=O ob/\ob.dict=U:=by
 cases x with
 | str z=>
  obtain⟨t,rfl⟩:=r
  cases (show T = "str" from ty)
  exact⟨Wb s z t,λ_ e=>nomatch e⟩
 | int i=>
  obtain⟨t,rfl⟩:=r
  cases (show T = "int" from ty)
  exact⟨Wc s i t,λ_ e=>nomatch e⟩
 | ref p=>
  cases r
  rcases ty with ⟨rfl,xs,hq⟩ | ⟨rfl,o,hk,hc,hd⟩ | ⟨rfl,hk⟩ | ⟨rfl,S,n,hk⟩
  ·obtain⟨its,_,pl,_⟩:=I.list hq
   refine⟨pl.isList.typeIs,λa e=>?_⟩
   cases e
   obtain⟨o,n,e,c,hd,_⟩:=pl
   exact⟨o,e,hd⟩
  ·refine⟨⟨o,I.kIn p o hk,hc⟩,λa e=>?_⟩
   cases e
   exact⟨o,I.kIn _ o hk,hd⟩
  ·have z:∃ o,s.heap.get? p=O o/\o.ExactDict:=by
    rcases hk with ⟨kvs,hk⟩ | ⟨kvs,hk⟩
    ·obtain⟨_,_,_,_,o,_,_,e,ex,_⟩:=I.hok p _ hk
     exact⟨o,e,ex⟩
    ·obtain⟨_,_,_,_,o,_,_,e,ex,_⟩:=I.hok p _ hk
     exact⟨o,e,ex⟩
   obtain⟨o,e,ex⟩:=z
   refine⟨⟨o,e,ex.1⟩,λa e2=>?_⟩
   cases e2
   exact⟨o,e,ex.2.1⟩
  ·obtain⟨o,_,_,_,e,ex,_⟩:=I.hok p _ hk
   refine⟨⟨o,e,ex.1⟩,λa e2=>?_⟩
   cases e2
   exact⟨o,e,ex.2.1⟩
 | _=>exact False.elim ty
noncomputable def tBM(K:W.Frag)(T:String)(r:V->List V->Hp->VK->Prop)(to:TE)(t:TA):TE:=λσ H Q=>to σ H λx H1=>tyV K T x H1/\t σ H1 λxs H2=>r x xs H2 Q
variable{o e:Expr}{es:List Expr}{to:TE}{t:TA}{name:Str}{apos cpos:Pos}{T id:String}{r:V->List V->Hp->VK->Prop}
theorem GS(pa:PlainAttrs T)(slot:Slot T name id)(hty:typeOf (.builtin id)=pure (.type "method_descriptor"))(hm:MtR X id r)(ho:PE X o to)(ha:PA X (e::es) t)
  (hbase:attributeBase o name X.env (eval o X.env)=eval o X.env:=by rfl)
  (hfew:((backTo cpos (starEach (e::es) X.env)).all (λx=>!x.1)&&(backToKw cpos (keywordEach [] X.env)).all (λx=>x.1.isSome)
   && decide ((e::es).length+([]:List Keyword).length+(if ([]:List Keyword).isEmpty then 0 else 1)<30))=true:=by rfl)
  (hline:(apos.endLine == cpos.line)=true:=by rfl) (hs:starEach (e::es) X.env=(false,eval e X.env)::starEach es X.env:=by rfl) (hplain:(backTo cpos (starEach es X.env)).any (·.1)=false:=by rfl) :
  PE X (.Call (.Attribute o name apos) (e::es) [] cpos) (tBM X.K T r to t):=by
 intro pins s σ H Q I h
 refine WS hbase hfew hline rfl (cF (ho pins s σ H _ I h) λv s1 ⟨x,H1,I1,r1,ty,q1⟩=>?_)
 obtain⟨h1,h2⟩:=OA I1 r1 ty
 refine⟨T,id,pa,slot,hty,h1,h2,?_⟩
 have hA:=ha cpos pins s1 σ H1 _ I1 q1
 rw [hs] at hA ⊢
 refine WW (by show (false||(backTo cpos (starEach es X.env)).any (·.1))=false;rw [hplain] <;> rfl) (Xe ?_)
 exact cF hA λus s2 ⟨vs,H2,I2,r2,q2⟩=>hm pins s2 σ H2 x vs v us Q I2 r1 r2 q2
end
noncomputable def MtM(X:Cx)(id:String)(r:V->List V->Hp->VK->Prop):Prop:=
 ∀ (pins:List (Addr×Obj)) (s:Shared) (σ:St) (H:Hp) (x:V) (xs:List V) (v:Value) (us:List Value) (Q:VK),Inv X pins σ H s->RelV x v->Vals xs us->r x xs H Q ->
  wpAny (model X.prog X.w) X.A (call (.builtin id) (v::us)) (EP X pins σ Q) X.xe s
theorem Vals.one:∀ {x:V} {us:List Value},Vals [x] us->∃ u,us=[u]/\RelV x u:=by
 intro x us h;cases h with | cons r t=>cases t;exact⟨_,rfl,r⟩
theorem Vals.two:∀ {x y:V} {us:List Value},Vals [x,y] us->∃ u v,us=[u,v]/\RelV x u/\RelV y v:=by
 intro x y us h;cases h with | cons r t=>cases t with | cons q t=>cases t;exact⟨_,_,rfl,r,q⟩
theorem Vals.rep{xs:List V}{us:List Value}(h:Vals xs us):∀ k:Nat,Vals (List.replicate k xs).flatten (List.replicate k us).flatten
 | 0=>.nil
 | k+1=>by
  rw [Tv,Tv,Ud,Ud]
  exact Vals.append h (Vals.rep h k)
theorem vy(its:List Value):∀ (k:Nat) (acc:List Value),
  List.foldl (λx1 x2=>x1++x2) acc.toArray (List.replicate k its.toArray)=(acc++(List.replicate k its).flatten).toArray
 | 0,acc=>by simp
 | k+1,acc=>by
  have e:acc.toArray++its.toArray=(acc++its).toArray:=by simp
  have e2:(acc++its)++(List.replicate k its).flatten=acc++(List.replicate (k+1) its).flatten:=by
   rw [Tv,Ud,TN]
  rw [<- e2,<- vy its k (acc++its),<- e,Tv,Ul]
section
variable{X:Cx}{pins:List (Addr×Obj)}{σ:St}{H:Hp}{s:Shared}{l b:Addr}{xs ys zs:List V}
theorem Inv.lset{its its':List Value}{n:Nat}{f:Array Value->Array Value}{t':Nat}(I:Inv X pins σ H s)(hH:H l=O (.lst xs))
  (e:s.heap.get? l=O { cls:=.type "list",data:=.seq its.toArray n }) (hf:f its.toArray=its'.toArray) (hv:Vals ys its') (hz:ys.length<=sizeLine) :
  Inv X pins σ (upd H l (.lst ys)) { s with heap:=s.heap.update l (Obj.mapSeq f),toks:=t' }:=by
 have q:=PySem.IsL.update e f
 rw [hf] at q
 refine I.write (x:=l) (e:=l) (by rw [hH];exact trivial) (.inl rfl) (λb' u hb hu=>(WV s.heap (Obj.mapSeq f) (Ne.symm hb)).trans hu) ⟨_,q⟩ ?_
 exact⟨hz,its',_,hv,q⟩
theorem Inv.lnew{its:List Value}{t':Nat}(I:Inv X pins σ H s)(hv:Vals ys its)(hz:ys.length<=sizeLine) :
  Inv X pins σ (upd H s.heap.objs.size (.lst ys)) { s with heap:=s.heap.push { cls:=.type "list",data:=.seq its.toArray },toks:=t' }:=
 I.laid (λ_ _ q=>SL _ q) (SS _) ⟨hz,its,0,hv,SW _ rfl⟩
theorem Inv.fresh(I:Inv X pins σ H s):H s.heap.objs.size=U:=I.hok.fresh (SS _)
theorem Inv.lstM(I:Inv X pins σ H s)(hH:H l=O (.lst xs)):xs.length<=sizeLine/\∃ (its:List Value) (n:Nat),Vals xs its/\xs.length=its.length/\s.heap.get? l=O { cls:=.type "list",data:=.seq its.toArray n }:=by
 obtain⟨z,its,n,r,e⟩:=I.hok l _ hH
 exact⟨z,its,n,r,r.length,e⟩
theorem yN{n:Nat}(h:n<=sizeLine):Builtin.List.listTooLong n=false:=by
 unfold Builtin.List.listTooLong
 exact Tw (by omega)
end
section
variable{X:Cx}
noncomputable def KC:V->List V->Hp->VK->Prop:=λx vs H Q=>∃ l xs y,x=.ref l/\vs=[y]/\H l=O (.lst xs)/\xs.length<sizeLine/\Q .non (upd H l (.lst (xs++[y])))
theorem uN:MtM X "list.append" KC:=by
 intro pins s σ H x vs v us Q I rx rv h
 obtain⟨l,xs,y,rfl,rfl,hH,hz,q⟩:=h
 cases rx
 obtain⟨u,rfl,ru⟩:=rv.one
 obtain⟨z,its,n,r,hl,e⟩:=I.lstM hH
 refine UM Xt ⟨_,e,rfl⟩ F.entry_list_append (F.args_list_append_2 _ _) (PySem.list_append l its.toArray n u (by rw [SQ];omega)) ⟨e,?_⟩
 refine⟨.non,_,I.lset (its':=its++[u]) hH e (by simp) (r.append (.cons ru .nil)) ?_,rfl,q⟩
 rw [Tl,Vf]
 omega
noncomputable def KB:V->List V->Hp->VK->Prop:=λx vs H Q=>∃ l b xs zs,x=.ref l/\vs=[.ref b]/\H l=O (.lst xs)/\H b=O (.lst zs)/\xs.length+zs.length<=sizeLine/\Q .non (upd H l (.lst (xs++zs)))
theorem mt_extend:MtM X "list.extend" KB:=by
 intro pins s σ H x vs v us Q I rx rv h
 obtain⟨l,b,xs,zs,rfl,rfl,hH,hB,hz,q⟩:=h
 cases rx
 obtain⟨u,rfl,ru⟩:=rv.one
 cases ru
 obtain⟨z,its,n,r,hl,e⟩:=I.lstM hH
 obtain⟨z2,its2,n2,r2,hl2,e2⟩:=I.lstM hB
 have hsz:its.toArray.size+its2.toArray.size<=sizeLine:=by rw [SQ,SQ];omega
 have hlong:¬ (!its.toArray.isEmpty&&Builtin.List.listTooLong (its.toArray.size+its2.toArray.size))=true:=by
  rw [yN hsz,Vv]
  exact SZ
 refine UM F.slot_list_extend ⟨_,e,rfl⟩ F.entry_list_extend (F.args_list_extend_2 _ _)
  (AutoSeq1.list_extend_list_list_0 l its.toArray n b its2.toArray n2 hlong (by rw [SQ];omega) (by omega)) ⟨e,e2,?_⟩
 refine⟨.non,_,I.lset (its':=its++its2) hH e (by simp) (r.append r2) ?_,rfl,q⟩
 rw [Tl]
 omega
noncomputable def rCat:R2:=λx y H Q=>∃ l b xs zs,x=.ref l/\y=.ref b/\H l=O (.lst xs)/\H b=O (.lst zs)/\xs.length+zs.length<=sizeLine/\∀ p,H p=U->Q (.ref p) (upd H p (.lst (xs++zs)))
theorem GV:OpR X (binaryOp .Add) rCat:=by
 intro pins s σ H x y v u Q I rx ry h
 obtain⟨l,b,xs,zs,rfl,rfl,hH,hB,hz,q⟩:=h
 cases rx
 cases ry
 obtain⟨z,its,n,r,hl,e⟩:=I.lstM hH
 obtain⟨z2,its2,n2,r2,hl2,e2⟩:=I.lstM hB
 refine PySem.P.add_list e e2 ?_ (by rw [SQ,SQ];omega)
 have ea:its.toArray++its2.toArray=(its++its2).toArray:=by simp
 rw [ea]
 exact⟨.ref _,_,I.lnew (t':=s.toks) (r.append r2) (by rw [Tl];omega),rfl,q _ I.fresh⟩
noncomputable def rRep:R2:=λx y H Q=>∃ l k xs,x=.ref l/\y=.int k/\H l=O (.lst xs)/\-(2 ^ 63)<=k/\k<2 ^ 63/\xs.length * k.toNat<=sizeLine /\
 ∀ p,H p=U->Q (.ref p) (upd H p (.lst (List.replicate k.toNat xs).flatten))
theorem xx{α:Type}(xs:List α)(k:Nat):(List.replicate k xs).flatten.length=k * xs.length:=by
 induction k with
 | zero=>simp
 | succ k ih=>rw [Tv,Ud,Tl,ih,Nat.succ_mul,Nat.add_comm]
theorem PK:OpR X (binaryOp .Mult) rRep:=by
 intro pins s σ H x y v u Q I rx ry h
 obtain⟨l,k,xs,rfl,rfl,hH,h1,h2,hz,q⟩:=h
 cases rx
 obtain⟨t,rfl⟩:=ry
 obtain⟨z,its,n,r,hl,e⟩:=I.lstM hH
 have hlen:its.toArray.size * k.toNat<=sizeLine:=by rw [SQ,<- hl];exact hz
 have hcap:¬ its.toArray.size * k.toNat>(2 ^ 63 - 1) / 8:=by
  have:(sizeLine:Nat)<=(2 ^ 63 - 1) / 8:=by decide
  omega
 have hfit:¬ (!Builtin.List.listFitsIndex k)=true:=by
  rw [fitsIndex_both h1 h2]
  exact SZ
 have hlong:¬ Builtin.List.listTooLong (its.toArray.size * k.toNat)=true:=by
  rw [yN hlen]
  exact SZ
 have hnew:List.foldl (λx1 x2=>x1++x2) #[] (List.replicate (if its.toArray.isEmpty=true then 0 else k.toNat) its.toArray)=(List.replicate k.toNat its).flatten.toArray:=by
  have f0:∀ m:Nat,List.foldl (λx1 x2=>x1++x2) #[] (List.replicate m its.toArray)=(List.replicate m its).flatten.toArray:=λm=>by
   have:=vy its m []
   rw [Vq] at this
   exact this
  rw [f0]
  cases its with
  | nil=>simp
  | cons a r'=>rw [Ts (by simp)]
 refine WF (T:="list") (U:="int") (by decide) ⟨_,e,rfl⟩ (λs'=>Wc s' k t) noFill_list_mul F.fills_int_mul VQ repeat_list F.slot_int_index.lookup
  (UM VQ (Wc s k t) F.entry_int_rmul (F.args_int_rmul_2 _ _) (int___rmul___int_list k t l its.toArray n)
   ⟨e,rfl,⟨_,e,rfl⟩,UM F.slot_list_mul ⟨_,e,rfl⟩ F.entry_list_mul (F.args_list_mul_2 _ _) (AutoListH.list___mul___list_int_3 l its.toArray n k t hfit hcap hlong) ⟨e,?_⟩⟩)
 rw [hnew]
 exact⟨.ref _,_,I.lnew (t':=s.toks) (r.rep k.toNat) (by rw [xx,Wl];exact hz),rfl,q _ I.fresh⟩
end
section
variable{prog:Program}{w:World}{A:Around}{E:Value->Shared->Prop}{s:Shared}
end
section
variable{X:Cx}
end
section
variable{κ:Type}[DecidableEq κ]
noncomputable def lP(kvs:List (κ×V))(k:κ):Option V:=(kvs.find? λkv=>decide (kv.1=k)).map (·.2)
noncomputable def oM(kvs:List (κ×V))(k:κ)(v:V):List (κ×V):=
 if (kvs.any λkv=>decide (kv.1=k))=true then kvs.map (λkv=>if kv.1=k then (kv.1,v) else kv) else kvs++[(k,v)]
theorem rm{p:κ×V}{r:List (κ×V)}{k:κ}(e:p.1=k):lP (p::r) k=O p.2:=by simp [lP,UZ,e]
theorem mZ{p:κ×V}{r:List (κ×V)}{k:κ}(e:¬ p.1=k):lP (p::r) k=lP r k:=by simp [lP,UZ,e]
theorem pS(kvs:List (κ×V))(k:κ)(v:V):(oM kvs k v).length<=kvs.length+1:=by
 unfold oM
 split
 ·rw [SX];omega
 ·rw [Tl,SY,Uk];omega
theorem RelO.isSome_eq{o:Option V}{u:Option Value}(r:RelO o u):o.isSome=u.isSome:=by
 cases o with
 | none=>cases u with
  | none=>rfl
  | some _=>exact(show False from r).elim
 | some _=>cases u with
  | none=>exact(show False from r).elim
  | some _=>rfl
theorem RelO.getD{o:Option V}{u:Option Value}{d:V}{d':Value}(r:RelO o u)(rd:RelV d d'):RelV (o.getD d) (u.getD d'):=by
 cases o with
 | none=>cases u with
  | none=>exact rd
  | some _=>exact(show False from r).elim
 | some _=>cases u with
  | none=>exact(show False from r).elim
  | some _=>exact r
theorem KV.val{kvs:List (κ×V)}{vs:List (κ×Value)}(r:KV kvs vs)(k:κ):RelO (lP kvs k) (valueAt vs k):=by
 unfold KV at r
 induction r with
 | nil=>exact True.intro
 | @cons p q ps qs h t ih=>
  obtain⟨h1,h2⟩:=h
  by_cases e:p.1=k
  ·have e':q.1=k:=h1.symm.trans e
   have b:valueAt (q::qs) k=O q.2:=by simp [valueAt,UZ,e']
   rw [rm e,b];exact h2
  ·have e':¬ q.1=k:=λz=>e (h1.trans z)
   have b:valueAt (q::qs) k=valueAt qs k:=by simp [valueAt,UZ,e']
   rw [mZ e,b];exact ih
theorem KV.any{kvs:List (κ×V)}{vs:List (κ×Value)}(r:KV kvs vs)(k:κ):(kvs.any λkv=>decide (kv.1=k))=vs.any λkv=>decide (kv.1=k):=by
 unfold KV at r
 induction r with
 | nil=>rfl
 | cons h t ih=>rw [UO,UO,ih,h.1]
theorem KV.repl{kvs:List (κ×V)}{vs:List (κ×Value)}(r:KV kvs vs)(k:κ){y:V}{u:Value}(ry:RelV y u) :
  KV (kvs.map λkv=>if kv.1=k then (kv.1,y) else kv) (vs.map λkv=>if kv.1=k then (kv.1,u) else kv):=by
 unfold KV at r ⊢
 induction r with
 | nil=>exact .nil
 | @cons p q ps qs h t ih=>
  rw [Ta,Ta]
  refine .cons ?_ ih
  obtain⟨h1,h2⟩:=h
  by_cases e:p.1=k
  ·rw [Td e,Td (h1.symm.trans e)];exact⟨h1,ry⟩
  ·rw [Ts e,Ts (λz=>e (h1.trans z))];exact⟨h1,h2⟩
theorem KV.put{kvs:List (κ×V)}{vs:List (κ×Value)}(r:KV kvs vs)(k:κ){y:V}{u:Value}(ry:RelV y u):KV (oM kvs k y) (stored vs k u):=by
 unfold oM stored
 rw [r.any k]
 by_cases e:(vs.any λkv=>decide (kv.1=k))=true
 ·rw [Td e,Td e];exact r.repl k ry
 ·rw [Ts e,Ts e];exact Paired.snoc r ⟨rfl,ry⟩
theorem KV.length{kvs:List (κ×V)}{vs:List (κ×Value)}(r:KV kvs vs):kvs.length=vs.length:=WN r
end
theorem lh{P:Program}{w:World}{k:ba}{u:Value}(r:RelV (kV k) u):(bv P w).is k u=true:=by
 cases k with
 | inl i=>obtain⟨t,e⟩:=(show ∃ t,u=Value.int i t from r);subst e;exact yT P w i t
 | inr x=>obtain⟨t,e⟩:=(show ∃ t,u=Value.str x t from r);subst e;exact yS P w x t
theorem vj{P:Program}{w:World}:∀ {ks:List ba} {us:List Value},Vals (ks.map kV) us->ItemsAre (bv P w) ks us
 | [],_,r=>by rw [VN] at r;cases r;exact .nil
 | k::ks,_,r=>by
  rw [Ta] at r
  cases r with
  | cons h t=>exact .cons (lh h) (vj t)
noncomputable abbrev KT(H:Hp):List (List ba×V)->List (List ba×Addr×Value)->Prop:=Paired λp q=>p.1=q.1/\H q.2.1=O (.tup (p.1.map kV))/\RelV p.2 q.2.2
theorem KT.val{H:Hp}{kvs:List (List ba×V)}{xs:List (List ba×Addr×Value)}(r:KT H kvs xs)(k:List ba):RelO (lP kvs k) ((atKey xs k).map (·.2)):=by
 induction r with
 | nil=>exact True.intro
 | @cons p q ps qs h t ih=>
  obtain⟨h1,_,h2⟩:=h
  by_cases e:p.1=k
  ·have e':q.1=k:=h1.symm.trans e
   have b:atKey (q::qs) k=O q.2:=by simp [atKey,UZ,e']
   rw [rm e,b];exact h2
  ·have e':¬ q.1=k:=λz=>e (h1.trans z)
   have b:atKey (q::qs) k=atKey qs k:=by simp [atKey,UZ,e']
   rw [mZ e,b];exact ih
section
variable{P:Program}{w:World}{H:Hp}{h:Heap}{a:Addr}
theorem NC{u:HO}(ok:HOk P w H h)(e:Rd H a u):ObjOk P w H h a u:=e.ok ok
theorem qm{kvs:List (ba×V)}(ok:HOk P w H h)(e:Rd H a (.dK kvs)):kvs.length<=sizeLine/\(a == sysModules)=false/\∃ vs,KV kvs vs/\h.DictOf (bv P w) a vs:=
 show ObjOk P w H h a (.dK kvs) from NC ok e
theorem Om{kvs:List (ba×V)}(ok:HOk P w H h)(e:H a=O (.dK kvs)):kvs.length<=sizeLine/\(a == sysModules)=false/\∃ vs,KV kvs vs/\h.DictOf (bv P w) a vs:=qm ok (.inl e)
theorem pi{ks:List ba}(ok:HOk P w H h)(e:H a=O (.tup (ks.map kV))):(tupleKind (bv P w)).is h ks a:=by
 obtain⟨_,its,r,o,h1,h2,⟨n,h3⟩,_⟩:=(show ObjOk P w H h a (.tup (ks.map kV)) from ok a _ e)
 exact⟨o,its.toArray,n,h1,h2,h3,by simpa using vj r⟩
theorem tz{kvs:List (List ba×V)}(ok:HOk P w H h)(e:Rd H a (.dT kvs)):kvs.length<=sizeLine/\(a == sysModules)=false /\
  ∃ xs,KT H kvs xs/\h.DictOfH (tupleKind (bv P w)) a xs:=by
 obtain⟨z,y,xs,r,o,es,ep,h1,h2,h3,h4,h5⟩:=(show ObjOk P w H h a (.dT kvs) from NC ok e)
 refine⟨z,y,xs,r,o,es,ep,h1,h2,h3,h4,λx hx=>?_,h5⟩
 have all:∀ {l:List (List ba×V)} {m:List (List ba×Addr×Value)},KT H l m->∀ x∈m,(tupleKind (bv P w)).is h x.1 x.2.1:=by
  intro l m q
  induction q with
  | nil=>intro x hx;exact nomatch hx
  | @cons p q ps qs hq t ih=>
   intro x hx
   rcases Tc.mp hx with e | hx
   ·subst e
    exact pi ok (by rw [<- hq.1];exact hq.2.1)
   ·exact ih x hx
 exact all r x hx
end
noncomputable def DGet(H:Hp)(a:Addr)(y:V)(r:Option V):Prop:=
 (∃ kvs k,Rd H a (.dK kvs)/\y=kV k/\r=lP kvs k)\/∃ kvs k b,Rd H a (.dT kvs)/\y=.ref b/\H b=O (.tup (k.map kV))/\r=lP kvs k
theorem DGet.k{H:Hp}{a:Addr}{kvs:List (ba×V)}{k:ba}(e:H a=O (.dK kvs)):DGet H a (kV k) (lP kvs k):=.inl ⟨kvs,k,.inl e,rfl,rfl⟩
section
variable{X:Cx}{pins:List (Addr×Obj)}{σ:St}{H:Hp}{s:Shared}{a:Addr}{y v:V}{u r:Value}{o:Option V}{A:Around}{E:Value->Shared->Prop}
theorem Inv.big(I:Inv X pins σ H s):sysModules<s.heap.objs.size:=by
 have h:mainGlobals<s.heap.objs.size:=(I.mod.glob.keeps I.bk).lt
 exact Nat.lt_trans (by decide) h
theorem Fd{Q:Value->Shared->Prop}(hu:A.units+1<cLine)(I:Inv X pins σ H s)(g:DGet H a y (O v))(ry:RelV y u)(h:∀ w' s',Inv X pins σ H s'->RelV v w'->Q w' s') :
  wpAny (model X.prog X.w) A (getItem (.ref a) u) Q E s:=by
 rcases g with ⟨kvs,k,e,ey,l⟩ | ⟨kvs,k,b,e,ey,eb,l⟩
 ·subst ey
  obtain⟨z,hd,vs,rel,dd⟩:=qm I.hok e
  obtain⟨w',hw,rw'⟩:=RelO.some_of (v:=v) (o:=valueAt vs k) (by rw [l];exact rel.val k)
  exact wpAny_getItem_of (lh ry) dd.mapOf hw (h w' _ (I.tok _) rw')
 ·subst ey
  cases (show u=Value.ref b from ry)
  obtain⟨z,hd,xs,rel,dd⟩:=tz I.hok e
  obtain⟨w',hw,rw'⟩:=RelO.some_of (v:=v) (o:=(atKey xs k).map (·.2)) (by rw [l];exact rel.val k)
  obtain⟨p,hp,hp2⟩:=VJ.mp hw
  refine wpAny_getItem_heap (UW hu) (pi I.hok eb) dd hp ?_
  rw [hp2]
  exact h w' _ (I.tok _) rw'
theorem d_in{Q:Value->Shared->Prop}(hu:A.units+1<cLine)(I:Inv X pins σ H s)(g:DGet H a y o)(ry:RelV y u)(h:∀ s',Inv X pins σ H s'->Q (.bool o.isSome) s') :
  wpAny (model X.prog X.w) A (compareOp .In u (.ref a)) Q E s:=by
 rcases g with ⟨kvs,k,e,ey,l⟩ | ⟨kvs,k,b,e,ey,eb,l⟩
 ·subst ey
  obtain⟨z,hd,vs,rel,dd⟩:=qm I.hok e
  refine wpAny_in_of (lh ry) hd dd.mapOf ?_
  rw [<- (rel.val k).isSome_eq,<- l]
  exact h _ (I.tok _)
 ·subst ey
  cases (show u=Value.ref b from ry)
  obtain⟨z,hd,xs,rel,dd⟩:=tz I.hok e
  refine wpAny_in_heap (UW hu) (pi I.hok eb) hd dd ?_
  have q:=(rel.val k).isSome_eq
  rw [Option.isSome_map] at q
  rw [<- q,<- l]
  exact h _ (I.tok _)
theorem Nd{Q:Value->Shared->Prop}(hu:A.units+1<cLine)(I:Inv X pins σ H s)(g:DGet H a y o)(ry:RelV y u)(h:∀ s',Inv X pins σ H s'->Q (.bool (!o.isSome)) s') :
  wpAny (model X.prog X.w) A (compareOp .NotIn u (.ref a)) Q E s:=by
 rcases g with ⟨kvs,k,e,ey,l⟩ | ⟨kvs,k,b,e,ey,eb,l⟩
 ·subst ey
  obtain⟨z,hd,vs,rel,dd⟩:=qm I.hok e
  refine wpAny_notIn_of (lh ry) hd dd.mapOf ?_
  rw [<- (rel.val k).isSome_eq,<- l]
  exact h _ (I.tok _)
 ·subst ey
  cases (show u=Value.ref b from ry)
  obtain⟨z,hd,xs,rel,dd⟩:=tz I.hok e
  refine wpAny_notIn_heap (UW hu) (pi I.hok eb) hd dd ?_
  have q:=(rel.val k).isSome_eq
  rw [Option.isSome_map] at q
  rw [<- q,<- l]
  exact h _ (I.tok _)
theorem Dr{h':Heap}{t':Nat}{ob:HO}(I:Inv X pins σ H s)(mu:Mut (H a))(hs:Heap.SameBut a s.heap h')(he:∃ q,h'.get? a=O q)(new:ObjOk X.prog X.w (upd H a ob) h' a ob) :
  Inv X pins σ (upd H a ob) { s with heap:=h',toks:=t' }:=
 I.write (x:=a) (e:=a) mu (.inl rfl) (λb q hb z=>(hs.2 b hb).trans z) he new
theorem Jk{P:Program}{w:World}{H':Hp}{h':Heap}{kvs:List (ba×V)}{vs:List (ba×Value)}(z:kvs.length<=sizeLine)(hd:(a == sysModules)=false)(rel:KV kvs vs)(dd:h'.DictOf (bv P w) a vs) :
  ObjOk P w H' h' a (.dK kvs):=⟨z,hd,vs,rel,dd⟩
end
section
variable{X:Cx}{pins:List (Addr×Obj)}{σ:St}{H:Hp}{s:Shared}{a:Addr}{kvs:List (ba×V)}{k:ba}{u:Value}{A:Around}{E:Value->Shared->Prop}
end
theorem Ah{X:Cx}{pins:List (Addr×Obj)}{σ:St}{H:Hp}{s:Shared}{a:Addr}{y:V}{o:Option V}(I:Inv X pins σ H s)(g:DGet H a y o):s.TypeIs (.ref a) "dict":=by
 rcases g with ⟨kvs,k,e,_,_⟩ | ⟨kvs,k,b,e,_,_,_⟩
 ·obtain⟨_,_,vs,_,dd⟩:=qm I.hok e
  exact dd.typeIs
 ·obtain⟨_,_,xs,_,dd⟩:=tz I.hok e
  exact dd.typeIs
section
variable{X:Cx}{o i e value:Expr}{pos pos' tpos:Pos}{td ty tv:TE}
end
theorem tK{P:Program}{w:World}{H:Hp}(h:Heap)(hb:sysModules<h.objs.size):ObjOk P w H (h.push { cls:=.type "dict",data:=.dict #[] }) h.objs.size (.dK []):=
 ⟨UA _,Vn.mpr (Ne.symm (Tk hb)),[],.nil,Heap.DictOf.new h⟩
noncomputable def OK:TE:=λ_ H Q=>∀ p,H p=U->Q (.ref p) (upd H p (.dK []))
section
variable{X:Cx}{pos:Pos}
theorem GP:PE X (.Dict [] [] pos) OK:=λpins s σ H Q I h=>
 wpAny_Dict_empty ⟨.ref s.heap.objs.size,_,I.laid (a:=s.heap.objs.size) (o:=.dK []) (t':=s.toks) (λ_ _ q=>SL _ q) (SS _) (tK s.heap I.big),rfl,h _ (I.hok.fresh (SS _))⟩
end
noncomputable def vZ:List (TE×TE)->St->Hp->(List (V×V)->Hp->Prop)->Prop
 | [],_,H,Q=>Q [] H
 | (tk,tv)::r,σ,H,Q=>tk σ H λx H1=>tv σ H1 λy H2=>vZ r σ H2 λps H3=>Q ((x,y)::ps) H3
noncomputable abbrev VV:List (V×V)->List (Value×Value)->Prop:=Paired λp q=>RelV p.1 q.1/\RelV p.2 q.2
noncomputable def PPs(X:Cx)(pos:Pos)(keys:List (Option Expr))(values:List Expr)(trs:List (TE×TE)):Prop:=
 ∀ (pins:List (Addr×Obj)) (s:Shared) (σ:St) (H:Hp) (Q:List (V×V)->Hp->Prop),Inv X pins σ H s->vZ trs σ H Q ->
  wpAny (model X.prog X.w) X.A (evalPairs (pairTrees keys values X.env pos)) (λvs s'=>∃ ps H',Inv X pins σ H' s'/\VV ps vs/\Q ps H') X.xe s
theorem KN{X:Cx}{pos:Pos}:PPs X pos [] [] []:=λpins s σ H Q I h=>pairTrees_nil_walk ⟨[],H,I,.nil,h⟩
theorem GE{X:Cx}{pos:Pos}{k v:Expr}{ks:List (Option Expr)}{vs:List Expr}{tk tv:TE}{trs:List (TE×TE)}(hk:PE X k tk)(hv:PE X v tv)(hr:PPs X pos ks vs trs) :
  PPs X pos (O k::ks) (v::vs) ((tk,tv)::trs):=λpins s σ H Q I h=>
 pairTrees_cons_walk (cF (hk pins s σ H _ I h) λu s1 ⟨x,H1,I1,rx,q1⟩=>cF (hv pins s1 σ H1 _ I1 q1) λw2 s2 ⟨y,H2,I2,ry,q2⟩=>
  cF (hr pins s2 σ H2 _ I2 q2) λws s3 ⟨ps,H3,I3,rel,q3⟩=>⟨(x,y)::ps,H3,I3,.cons ⟨rx,ry⟩ rel,q3⟩)
noncomputable def lb(kvs more:List (ba×V)):List (ba×V):=more.foldl (λacc kv=>oM acc kv.1 kv.2) kvs
theorem KV.merge:∀ {more:List (ba×V)} {rs:List (ba×Value)} {kvs:List (ba×V)} {vs:List (ba×Value)},KV more rs->KV kvs vs->KV (lb kvs more) (merged vs rs):=by
 intro more rs kvs vs r
 unfold KV at r
 induction r generalizing kvs vs with
 | nil=>intro q;exact q
 | @cons p q ps qs h t ih=>
  intro r0
  have e:KV (oM kvs p.1 p.2) (stored vs q.1 q.2):=by
   have:=r0.put p.1 h.2
   rw [<- h.1];exact this
  exact ih e
theorem mj:∀ (more kvs:List (ba×V)),(lb kvs more).length<=kvs.length+more.length
 | [],kvs=>by show kvs.length<=kvs.length+0;omega
 | p::r,kvs=>by
  have h1:=mj r (oM kvs p.1 p.2)
  have h2:=pS kvs p.1 p.2
  show (lb (oM kvs p.1 p.2) r).length<=_
  rw [SY];omega
theorem tS{P:Program}{w:World}:∀ {kvs:List (ba×V)} {ws:List (Value×Value)},VV (kvs.map λkv=>(kV kv.1,kv.2)) ws->∃ rs,Carries (bv P w) ws rs/\KV kvs rs
 | [],_,r=>by rw [VN] at r;cases r;exact⟨[],True.intro,.nil⟩
 | p::kvs,_,r=>by
  rw [Ta] at r
  cases r with
  | @cons a b as bs h t=>
   obtain⟨rs,c,q⟩:=tS (P:=P) (w:=w) t
   obtain⟨b1,b2⟩:=b
   exact⟨(p.1,b2)::rs,⟨lh h.1,rfl,c⟩,.cons ⟨rfl,h.2⟩ q⟩
noncomputable def tDisp(trs:List (TE×TE)):TE:=λσ H Q=>∀ p,H p=U->vZ trs σ (upd H p (.dK [])) λps H2=>H2 p=O (.dK [])/\∃ kvs:List (ba×V),ps=kvs.map (λkv=>(kV kv.1,kv.2))/\kvs.length<=15/\Q (.ref p) (upd H2 p (.dK (lb [] kvs)))
theorem Cm{X:Cx}{pos:Pos}{keys:List (Option Expr)}{values:List Expr}{trs:List (TE×TE)}(h:PPs X pos keys values trs)(hall:keys.all (·.isSome)=true)(hl:keys.length=values.length)(h0:keys≠[])
  (h15:keys.length<=15):PE X (.Dict keys values pos) (tDisp trs):=by
 intro pins s σ H Q I q
 have hn:=I.hok.fresh (SS s.heap.objs.size)
 have I1:=I.laid (a:=s.heap.objs.size) (o:=.dK []) (h':=s.heap.push { cls:=.type "dict",data:=.dict #[] }) (t':=s.toks) (λ_ _ q=>SL _ q) (SS _) (tK s.heap I.big)
 refine wpAny_Dict_walk (knd:=bv X.prog X.w) hall hl h0 h15 (cF (h pins _ σ _ _ I1 (q _ hn)) λws s2 ⟨ps,H2,I2,rel,e,kvs,ep,lk,q2⟩=>?_)
 subst ep
 obtain⟨rs,c,rk⟩:=tS (P:=X.prog) (w:=X.w) rel
 obtain⟨z,hd,vs0,r0,dd⟩:=Om I2.hok e
 cases r0
 refine⟨rs,c,dd,λh' dd' hs=>⟨.ref s.heap.objs.size,_,?_,rfl,q2⟩⟩
 have hz:(lb [] kvs).length<=sizeLine:=by
  have h1:=mj kvs []
  rw [Uk] at h1
  rw [Ww];omega
 have he:∃ q,h'.get? s.heap.objs.size=O q:=let ⟨q,_,_,hq,_⟩:=dd';⟨q,hq⟩
 exact Dr I2 (by rw [e];exact True.intro) hs he (Jk hz hd (rk.merge .nil) dd')
noncomputable def IsD(H:Hp)(a:Addr):Prop:=(∃ kvs,Rd H a (.dK kvs))\/∃ kvs,Rd H a (.dT kvs)
theorem Rq{X:Cx}{pins:List (Addr×Obj)}{σ:St}{H:Hp}{s:Shared}{a:Addr}(I:Inv X pins σ H s)(d:IsD H a) :
  s.TypeIs (.ref a) "dict"/\(∀ b,Value.ref a=.ref b->∃ ob,s.heap.get? b=O ob/\ob.dict=U)/\(a == sysModules)=false:=by
 rcases d with ⟨kvs,e⟩ | ⟨kvs,e⟩
 ·obtain⟨_,hd,vs,_,dd⟩:=qm I.hok e
  refine⟨dd.typeIs,λb q=>?_,hd⟩
  cases q
  obtain⟨ob,_,_,h1,h2,_⟩:=dd
  exact⟨ob,h1,h2.2.1⟩
 ·obtain⟨_,hd,xs,_,dd⟩:=tz I.hok e
  refine⟨dd.typeIs,λb q=>?_,hd⟩
  cases q
  obtain⟨ob,_,_,h1,h2,_⟩:=dd
  exact⟨ob,h1,h2.2.1⟩
section
variable{X:Cx}{pins:List (Addr×Obj)}{σ:St}{H:Hp}{s:Shared}{a:Addr}{y d:V}{u r:Value}{o:Option V}{A:Around}{E:Value->Shared->Prop}
theorem Sm{Q:Value->Shared->Prop}(hu:A.units+1<cLine)(I:Inv X pins σ H s)(g:DGet H a y o)(ry:RelV y u)(h:∀ w' s',Inv X pins σ H s'->RelV (o.getD .non) w'->Q w' s') :
  wpAny (model X.prog X.w) A (call (.builtin "dict.get") [.ref a,u]) Q E s:=by
 rcases g with ⟨kvs,k,e,ey,l⟩ | ⟨kvs,k,b,e,ey,eb,l⟩
 ·subst ey
  obtain⟨z,hd,vs,rel,dd⟩:=qm I.hok e
  refine Wk Vs dd.typeIs VI (F.args_dict_get_2 _ _) (meets_dict_get (bv X.prog X.w) a (lh ry) hd) ⟨_,dd.mapOf,h _ _ (I.tok _) ?_⟩
  rw [l]
  exact(rel.val k).getD rfl
 ·subst ey
  cases (show u=Value.ref b from ry)
  obtain⟨z,hd,xs,rel,dd⟩:=tz I.hok e
  refine Wk Vs dd.typeIs VI (F.args_dict_get_2 _ _) (meetsH_dict_get (tupleKind (bv X.prog X.w)) a b hd) ⟨UW hu,k,xs,pi I.hok eb,dd,h _ _ (I.tok _) ?_⟩
  rw [l]
  exact(rel.val k).getD rfl
theorem Sl{Q:Value->Shared->Prop}(hu:A.units+1<cLine)(I:Inv X pins σ H s)(g:DGet H a y o)(ry:RelV y u)(rd:RelV d r)(h:∀ w' s',Inv X pins σ H s'->RelV (o.getD d) w'->Q w' s') :
  wpAny (model X.prog X.w) A (call (.builtin "dict.get") [.ref a,u,r]) Q E s:=by
 rcases g with ⟨kvs,k,e,ey,l⟩ | ⟨kvs,k,b,e,ey,eb,l⟩
 ·subst ey
  obtain⟨z,hd,vs,rel,dd⟩:=qm I.hok e
  refine Wk Vs dd.typeIs VI (F.args_dict_get_3 _ _ _) (meets_dict_get_default (bv X.prog X.w) a (lh ry) hd r) ⟨_,dd.mapOf,h _ _ (I.tok _) ?_⟩
  rw [l]
  exact(rel.val k).getD rd
 ·subst ey
  cases (show u=Value.ref b from ry)
  obtain⟨z,hd,xs,rel,dd⟩:=tz I.hok e
  refine Wk Vs dd.typeIs VI (F.args_dict_get_3 _ _ _) (meetsH_dict_get_default (tupleKind (bv X.prog X.w)) a b hd r) ⟨UW hu,k,xs,pi I.hok eb,dd,h _ _ (I.tok _) ?_⟩
  rw [l]
  exact(rel.val k).getD rd
end
section
variable{X:Cx}{o e f:Expr}{apos cpos:Pos}{td ty tx:TE}
end
section
variable{X:Cx}{pins:List (Addr×Obj)}{σ:St}{H:Hp}{s:Shared}{a:Addr}{kvs:List (ba×V)}{A:Around}{E:Value->Shared->Prop}
end
section
variable{X:Cx}{pins:List (Addr×Obj)}{σ:St}{H:Hp}{s:Shared}{a:Addr}{y:V}{u:Value}{A:Around}{E:Value->Shared->Prop}
end
end L2
namespace Att
open PySem.W PySem.Calls
theorem qF{P:Params}{h:Heap}:∀ (ns:List Int) (vs:List Value),WellAll P h vs (ns.map WData.int)->IntsAre vs ns:=by
 intro ns
 induction ns with
 | nil=>
  intro vs w
  rw [VN] at w
  cases w
  exact .nil
 | cons n ns ih=>
  intro vs w
  rw [Ta] at w
  cases w with
  | cons a b=>
   cases a
   exact .cons _ _ (ih _ b)
theorem DL{l:OpenLaw}{n:Nat}(hn:l.most=O n){P:Params}{h:Heap}{args:List WData}{vals:List Value}
  (hpre:l.row.toRowW.claim.pre args=true) (hwl:WellAll P h vals args) :
  ∃ a vs ns,vals=[Value.ref a]/\args=[WData.list (ns.map WData.int)]/\h.get? a=O { cls:=.type "list",data:=.seq vs.toArray }/\IntsAre vs ns/\ns.length<=n:=by
 have hsh:WShape.hasAll [] args [.list .int]=true:=(pre_splitW hpre).1
 have hc:l.pre.holds [] { args:=args } = true:=(pre_splitW hpre).2
 obtain⟨d,r,rfl,h1,h2⟩:=hasAllW_cons hsh
 obtain rfl:=hasAllW_nil h2
 obtain⟨xs,rfl,h3⟩:=hasW_list h1
 obtain⟨ns,rfl⟩:=items_int h3
 have hlen:ns.length<=n:=by
  unfold OpenLaw.pre at hc
  have h4:(WTm.not (.lt (.lit (.int (n:Int))) (.len (.arg 0)))).holds [] { args:=[.list (ns.map .int)] } = true:=by
   have h4:=(holds_andW hc).1
   rw [hn] at h4
   exact h4
  have h5:=condW_of h4 (w_not (w_lt w_lit (w_len_list (w_arg rfl))))
  rw [SX] at h5
  refine Nat.le_of_not_lt λq=>?_
  have q':(n:Int)<((ns.length:Nat):Int):=by omega
  first
   | (rw [decide_eq_true q'] at h5;exact absurd h5 (by decide))
   | (simp at h5;omega)
 cases hwl with
 | cons w1 w2=>
  cases w2
  cases w1 with
  | list ho hall=>exact⟨_,_,ns,rfl,rfl,ho,qF ns _ hall,hlen⟩
theorem DR(l:OpenLaw)(args:List WData):l.row.toRowW.claim.post args (.bool true) args=true:=
 postW_of (r:=l.row.toRowW) (X:=(true == true))
  (show WShape.has [] (.bool true) .bool=true by first | rfl | decide | simp [WShape.has,WShape.arms,WShape.armsAll])
  (show (WTm.eq .res (.lit (.bool true))).value [] { args:=args,res:=O (.bool true),after:=args } = O (.bool (true == true)) from w_eq_bool (w_res rfl) w_lit) rfl
theorem Au{l:OpenLaw}{n:Nat}{q:Program}{loose:List Str}{XP:(Str->Option Value)->Heap->Prop}{YP:World->Heap->Prop}{d:DefRec}
  (hn:l.most=O n) (hdf:d.params.defaults=[])
  (call:∀ (w:World) (s₀ s₁:Shared) (mg mb:Str->Option Value) (fa:Addr) (o:Obj) (pm cd doc:Value) (a:Addr) (vs:List Value) (ns:List Int),
   Ground q loose [] XP w s₀ mg mb s₁.heap->YP w s₁.heap ->
   s₁.heap.get? fa=O o->o.data=.func (docDef d.name d.params d.body d.scope pm cd doc)->s₁.heap.CodeRec cd d.name->mg d.name=O (.ref fa) ->
   s₁.heap.get? a=O { cls:=.type "list",data:=.seq vs.toArray }->IntsAre vs ns->ns.length<=n->s₁.gens = #[] ->
   codeAny (model l.prog w) callerA (.call (.ref fa) ⟨[.ref a],[]⟩) (λr s'=>r=.ok (.ret (.bool true))/\OldK s₁.heap s'.heap/\s'.os=s₁.os/\AllBare s'.gens) s₁) :
  WalkO q loose XP YP l.row.toRowW d [] (λf vs=>PySem.call f vs):=by
 intro w s₀ s₁ mg mb G Y fa o pm cd doc dV kV ho hd hcd hD hmg hg args vals as hpre hlay hrd hwl hlo
 obtain rfl:dV=.none:=Dflts.none hD hdf
 obtain rfl:kV=.none:=Dflts.noKw hD
 obtain⟨a,vs,ns,rfl,rfl,hobj,hints,hlen⟩:=DL hn hpre hwl
 refine enter_call (Ug (call w s₀ s₁ mg mb fa o pm cd doc a vs ns G Y ho (fd_plain hd) hcd hmg hobj hints hlen hg) λr s' hq=>?_)
 obtain⟨rfl,h2,h3,h4⟩:=hq
 exact⟨.inl ⟨.bool true,.bool true,[],rfl,λ_=>rfl,.bool true,DR l _,λ_=>⟨List.Pairwise.nil,λ_ hm=>(nomatch hm)⟩⟩,h2,h3,h4⟩
section
variable{prog:Program}{w:World}{A:Around}{E:Value->Shared->Prop}{s:Shared}{K:Frag}
end
end Att
namespace L2
theorem ut:∀ {vs:List Value} {ns:List Int},IntsAre vs ns->Vals (ns.map V.int) vs
 | _,_,.nil=>.nil
 | _,_,.cons n t h=>.cons ⟨t,rfl⟩ (ut h)
noncomputable def SF(H:Hp):Prop:=∀ b,H b=U\/∃ o xs,H b=O (.frz o (.lst xs))
theorem HB{P:Program}{w:World}{K:W.Frag}{mg mb:Str->Option Value}{CX:FI}{k:Nat}{fa a:Addr}{fd:FuncData}{x:Str}{sp:Sp}{s₁:Shared}{vs:List Value}{ns:List Int}
  (KX:K.In s₁.heap) (hns:s₁.heap.Ns mainGlobals mg) (hb:s₁.heap.Ns builtinsNs mb) (hbb:∀ x:Str,x ≠ "__name__"->mb x=bootBuiltins x) (hlim:s₁.heap.NoLimit) (hg:s₁.gens = #[])
  (ha:s₁.heap.get? a=O { cls:=.type "list",data:=.seq vs.toArray }) (hi:IntsAre vs ns) (hl:ns.length<=sizeLine) (hr:Room k callerA)
  (F:∀ base:Heap,K.In base->base.Ns mainGlobals mg->FnOk P w K mg base CX k fa fd [x] sp) (hbind:∀ (s:Shared) (u:Value),BindsTo s fd ⟨[u],[]⟩ [(x,u)])
  (hsp:∀ H:Hp,SF H->jk K H a (ns.map V.int)->sp [.ref a] H (λv _=>v=.bl true) λ_ _ _=>False)
  (hCX:∀ H e s',CX [] H s₁ (λ_ _ _=>False) e s'->False) :
  codeAny (model P w) callerA (.call (.ref fa) ⟨[.ref a],[]⟩) (λr s'=>r=.ok (.ret (.bool true))/\OldK s₁.heap s'.heap/\s'.os=s₁.os/\AllBare s'.gens) s₁:=by
 have rv:=ut hi
 have lenV:=hi.length
 have core:∀ H:Hp,SF H->jk K H a (ns.map V.int)->HOk P w H s₁.heap->(∀ b,H b≠U->b=a)->(H a≠U->K.lookup a=U) ->
   codeAny (model P w) callerA (.call (.ref fa) ⟨[.ref a],[]⟩) (λr s'=>r=.ok (.ret (.bool true))/\OldK s₁.heap s'.heap/\s'.os=s₁.os/\AllBare s'.gens) s₁:=by
  intro H hO hS hok hA hK
  have base_of:∀ {b:Addr} {o:Obj},s₁.heap.get? b=O o->H b=U->(xJ s₁.heap H).get? b=O o:=λe n=>Ii e n
  have noA:∀ {b:Addr} {o:Obj} {es:Array DictEntry} {ep:Nat},s₁.heap.get? b=O o->o.data=.dict es ep->H b=U:=λ{b o es ep} e d=>by
   cases q:H b with
   | none=>rfl
   | some u=>
    have e':b=a:=hA b (by rw [q];simp)
    subst e'
    rw [ha] at e;cases e
    have d':Data.seq vs.toArray _=Data.dict es ep:=d
    cases d'
  have nsK:∀ {b:Addr} {m:Str->Option Value},s₁.heap.Ns b m->(xJ s₁.heap H).Ns b m:=λ{b m} ⟨o,es,ep,e,d,r⟩=>⟨o,es,ep,base_of e (noA e d),d,r⟩
  have hKb:K.In (xJ s₁.heap H):=λb o e=>base_of (KX b o e) (by
   cases q:H b with
   | none=>rfl
   | some u=>
    have e':b=a:=hA b (by rw [q];simp)
    subst e'
    rw [hK (by rw [q];simp)] at e;cases e)
  have hM:Mod K mg (xJ s₁.heap H):=⟨hKb,nsK hns,⟨mb,nsK hb,hbb⟩,let ⟨mc,h1,h2⟩:=hlim;⟨mc,nsK h1,h2⟩⟩
  have e0:Nr P w K mg (xJ s₁.heap H) callerA [] s₁ H:=⟨rfl,hM,λb o e=>Ls e,Vu (EC _ _),trivial,λb hb=>absurd (show b∈([]:List Addr) from hb) (by simp),hok,.of_eq hg⟩
  refine Ug ((F _ hKb (nsK hns)).run callerA [] s₁ H ⟨[.ref a],[]⟩ [.ref a] [.ref a] _ _ hr e0 (hbind s₁ (.ref a)) (.cons rfl .nil) (hsp H hO hS)) λr s' h=>?_
  cases r with
  | error e=>exact(hCX H e s' h).elim
  | ok fl=>
   cases fl with
   | next=>exact False.elim h
   | brk=>exact False.elim h
   | cont=>exact False.elim h
   | ret u=>
    obtain⟨v,H',os,bare,un,hok',r',q⟩:=h
    have q':v=.bl true:=q
    subst q'
    obtain rfl:u=Value.bool true:=r'
    refine⟨rfl,OldK.of_keep λb o e=>?_,os,bare⟩
    cases q:H b with
    | none=>exact un.keep b o e q (by intro z;exact absurd (show b∈([]:List Addr) from z) (by simp)) (by simp)
    | some u=>
     rcases hO b with z | ⟨ob,xs,z⟩
     ·rw [q] at z;cases z
     ·have z2:=un.frzs b ob _ z
      obtain⟨e1,_⟩:=hok b _ z
      obtain⟨e2,_⟩:=hok' b _ z2
      rw [e] at e1;cases e1
      exact e2
 cases hk:K.lookup a with
 | some o=>
  have e:=KX a o hk
  rw [ha] at e
  cases e
  refine core (λ_=>U) (λ_=>.inl rfl) (.inr ⟨_,vs.toArray,_,hk,rfl,rfl,rfl,by rw [SQ,lenV];exact hl,by simpa using rv⟩) (λb u z=>by have z':(U:Option HO)=O u:=z;cases z') (λb z=>absurd rfl z) λz=>absurd rfl z
 | none=>
  refine core (λb=>if b=a then O (.frz { cls:=.type "list",data:=.seq vs.toArray } (.lst (ns.map V.int))) else U) (λb=>?_) (.inl (.inr ⟨{ cls:=.type "list",data:=.seq vs.toArray },Td rfl⟩)) (λb u z=>?_) (λb z=>?_) λ_=>hk
  ·by_cases hb:b=a
   ·exact .inr ⟨_,_,Td hb⟩
   ·exact .inl (Ts hb)
  ·by_cases hb:b=a
   ·have z':=(Td hb).symm.trans z
    cases z'
    subst hb
    exact⟨ha,by rw [SX];exact hl,vs,_,rv,ha⟩
   ·have z':=(Ts hb).symm.trans z
    cases z'
  ·by_cases hb:b=a
   ·exact hb
   ·exact absurd (Ts hb) z
theorem Ke{l:W.OpenLaw}{n k:Nat}{q:Program}{loose:List Str}{XP:(Str->Option Value)->Heap->Prop}{YP:World->Heap->Prop}{d:DefRec}{K:Params->W.Frag}{CX:World->FI}{sp:World->Sp}{x:Str}
  (hn:l.most=O n) (hn2:n<=sizeLine) (hdf:d.params.defaults=[]) (hr:Room k callerA)
  (hY:∀ (w:World) (h:Heap),YP w h->(K w.params).In h)
  (F:∀ (w:World) (mg:Str->Option Value) (fa:Addr) (h:Heap),(K w.params).In h->h.Ns mainGlobals mg->mg d.name=O (.ref fa) ->
   ∃ fd:FuncData,(∀ (s:Shared) (u:Value),BindsTo s fd ⟨[u],[]⟩ [(x,u)]) /\
    ∀ base:Heap,(K w.params).In base->base.Ns mainGlobals mg->FnOk l.prog w (K w.params) mg base (CX w) k fa fd [x] (sp w))
  (hsp:∀ (w:World) (H:Hp) (a:Addr) (ns:List Int),ns.length<=n->SF H->jk (K w.params) H a (ns.map V.int)->sp w [.ref a] H (λv _=>v=.bl true) λ_ _ _=>False)
  (hCX:∀ (w:World) (H:Hp) (s:Shared) (e:Value) (s':Shared),CX w [] H s (λ_ _ _=>False) e s'->False) :
  W.WalkO q loose XP YP l.row.toRowW d [] (λf vs=>PySem.call f vs):=by
 refine Att.Au hn hdf λw s₀ s₁ mg mb fa o pm cd doc a vs ns G Y ho hd hcd hmg hobj hints hlen hg=>?_
 have KX:=hY w _ Y
 obtain⟨fd,hb,hF⟩:=F w mg fa _ KX G.T.g hmg
 exact HB KX G.T.g G.T.b G.T.builtins G.T.nolimit hg hobj hints (Th hlen hn2) hr hF hb (λH hO hS=>hsp w H a ns hlen hO hS) λH e s'=>hCX w H s₁ e s'
noncomputable def iw(s:Stmt):Arguments:=match s with
 | .FunctionDef _ a _ _ _ _ _ _ _ _=>a
 | _=>{ posonlyargs:=[],args:=[],vararg:=U,kwonlyargs:=[],kw_defaults:=[],kwarg:=U,defaults:=[] }
noncomputable def aB(s:Stmt):List Stmt:=match s with
 | .FunctionDef _ _ b _ _ _ _ _ _ _=>b
 | _=>[]
noncomputable def am(s:Stmt):Scope:=match s with
 | .FunctionDef _ _ _ _ _ _ sc _ _ _=>sc
 | _=>{ kind:=.function,names:=[],isGenerator:=false,isCoroutine:=false }
noncomputable abbrev FD:FI:=λ_ _ _ _ _ _=>False
noncomputable abbrev E0:XK:=λ_ _ _=>False
theorem NF{X:Cx}:yg FD X E0:=λ_ _ _ _ _ _ _ h=>h.elim
structure Fun(K:W.Frag)(x qual:Str)(st:Stmt)(f:Addr)(fd:FuncData):Prop where
 ex:∃ (oc:Value) (od:Option Addr) (kV doc pm:Value) (an:Option Addr) (cdv ct:Value) (osl:Array (Option Value)),
  fd=W.fnOf x qual (iw st) (aB st) (am st) .none kV doc pm an cdv ct/\K.lookup f=O ⟨oc,od,.func fd,osl⟩/\W.codeIn K cdv qual=true
 kp:W.keepIn K (.ref f)=true
section
variable{P:Program}{w:World}{K:W.Frag}{mg:Str->Option Value}{base:Heap}
theorem Fun.ok{x qual:Str}{st:Stmt}{f:Addr}{fd:FuncData}{N ps:List Str}{k:Nat}{sp:Sp}(F:Fun K x qual st f fd)(S:aH N ps (am st))(len:∀ vs H Q E,sp vs H Q E->vs.length=ps.length)
  (hbody:∀ (cdv:Value) (A:Around) (outer:List Env) (s:Shared) (H:Hp) (vs:List V) (Q:VK) (E:XK),Room k (A.deeper (envOfC qual (am st) s.heap.objs.size f cdv))->sp vs H Q E ->
   ∃ t,PSs (uh FD P w K mg base N qual (am st) f cdv A outer s H E).nox (aB st) t/\t { nx:=λ_ H'=>Q .non H',rt:=Q } (start N vs) H):FnOk P w K mg base FD (k+1) f fd ps sp:=by
 obtain⟨oc,od,kV,doc,pm,an,cdv,ct,osl,rfl,lk,hcd⟩:=F.ex
 refine fn_of lk hcd S len λA outer s H vs Q E hr hsp=>?_
 obtain⟨t,h,q⟩:=hbody cdv A outer s H vs Q E hr hsp
 exact⟨t,h.nox,q⟩
theorem Fun.binds{x qual:Str}{st:Stmt}{f:Addr}{fd:FuncData}{ps:List Str}(F:Fun K x qual st f fd)
  (h:∀ (kV doc pm:Value) (an:Option Addr) (cdv ct:Value) (us:List Value),us.length=ps.length->bindArgs (W.fnOf x qual (iw st) (aB st) (am st) .none kV doc pm an cdv ct) ⟨us,[]⟩=pure (ps.zip us)):Binds K fd ps []:=by
 obtain⟨oc,od,kV,doc,pm,an,cdv,ct,osl,rfl,lk,hcd⟩:=F.ex
 exact .all (h kV doc pm an cdv ct)
theorem Ry{x qual:Str}{st:Stmt}{f:Addr}{oc:Value}{od an:Option Addr}{osl:Array (Option Value)}{kV doc pm cdv ct:Value}(l:K.lookup f=O ⟨oc,od,.func (W.fnOf x qual (iw st) (aB st) (am st) .none kV doc pm an cdv ct),osl⟩)
  (c:W.codeIn K cdv qual=true) (k:W.keepIn K (.ref f)=true):Fun K x qual st f (W.fnOf x qual (iw st) (aB st) (am st) .none kV doc pm an cdv ct):=⟨⟨oc,od,kV,doc,pm,an,cdv,ct,osl,rfl,l,c⟩,k⟩
end
section
variable{X:Cx}
end
section
variable{κ:Type}[DecidableEq κ]
end
noncomputable def kg(cells:List (Str×Addr)):List (Str×NameKind)->List (Str×Addr)->List (Str×Addr)
 | [],acc=>acc
 | (n,k)::r,acc=>if k == .free then kg cells r ((n,(cells.lookup n).getD 0)::acc) else kg cells r acc
theorem ik{env:Env}:∀ (names:List (Str×NameKind)) (acc:List (Str×Addr)),(∀ x∈names,x.2=.free->(env.cells.lookup x.1).isSome=true) ->
  (forIn names acc λ(x:Str×NameKind) (r:List (Str×Addr))=>(do
   if x.2 == .free then do let c <- cellOf env x.1;pure (ForInStep.yield ((x.1,c)::r)) else pure (ForInStep.yield r):Sem (ForInStep (List (Str×Addr)))))=pure (kg env.cells names acc)
 | [],acc,_=>rfl
 | (n,k)::r,acc,h=>by
  rw [Uy]
  cases hk:k == NameKind.free with
  | true=>
   have e:k=.free:=by simpa using hk
   have hs:=h (n,k) SN e
   obtain⟨c,hc⟩:=Ux.mp hs
   have hc':env.cells.lookup n=O c:=hc
   have hce:cellOf env n=pure c:=by unfold cellOf;rw [hc']
   simp only [VC,hce,hc',Option.getD_some,Wx,kg,hk]
   rw [ik r _ λx hx=>h x (SO _ hx)]
  | false=>
   simp only [Ut,UL,Wx,kg,hk]
   exact ik r _ λx hx=>h x (SO _ hx)
theorem ji{scope:Scope}{env:Env}(h:∀ x∈scope.names,x.2=.free->(env.cells.lookup x.1).isSome=true):closureFor scope env=pure (kg env.cells scope.names []):=by
 have q:=ik (env:=env) scope.names [] h
 unfold closureFor
 refine Eq.trans ?_ (Eq.trans (congrArg (λ(m:Sem (List (Str×Addr)))=>m >>= λcs=>pure cs) q) ?_)
 ·rfl
 ·rfl
theorem pH(cells:List (Str×Addr)):∀ (names:List (Str×NameKind)) (acc:List (Str×Addr)),(∀ x∈names,x.2=.free->(cells.lookup x.1).isSome=true)->(∀ y c,acc.lookup y=O c->cells.lookup y=O c) ->
  ∀ y c,(kg cells names acc).lookup y=O c->cells.lookup y=O c
 | [],_,_,ha=>ha
 | (n,k)::r,acc,h,ha=>by
  unfold kg
  split
  ·rename_i hk
   refine pH cells r _ (λx hx=>h x (SO _ hx)) λy c e=>?_
   rw [Vi] at e
   split at e
   ·rename_i hy
    have hy':y=n:=by simpa using hy
    subst hy'
    obtain⟨c',hc'⟩:=Ux.mp (h (y,k) SN (by simpa using hk))
    have hc'':cells.lookup y=O c':=hc'
    rw [hc''] at e ⊢
    exact e
   ·exact ha y c e
  ·exact pH cells r _ (λx hx=>h x (SO _ hx)) ha
theorem mX(cells:List (Str×Addr)):∀ (names:List (Str×NameKind)) (acc:List (Str×Addr)) (y:Str),(acc.lookup y).isSome=true->((kg cells names acc).lookup y).isSome=true
 | [],_,_,h=>h
 | (n,k)::r,acc,y,h=>by
  unfold kg
  split
  ·refine mX cells r _ y ?_
   rw [Vi]
   split
   ·rfl
   ·exact h
  ·exact mX cells r _ y h
theorem oz(cells:List (Str×Addr)):∀ (names:List (Str×NameKind)) (acc:List (Str×Addr)) (y:Str),(y,NameKind.free)∈names->((kg cells names acc).lookup y).isSome=true
 | [],_,_,h=>by simp at h
 | (n,k)::r,acc,y,h=>by
  unfold kg
  rcases Tc.mp h with e | h
  ·cases e
   rw [Td (by rfl)]
   exact mX cells r _ _ (by rw [Vi];simp)
  ·split
   ·exact oz cells r _ y h
   ·exact oz cells r _ y h
theorem jM{scope:Scope}{env:Env}{y:Str}:∀ {names:List (Str×NameKind)},
  ((names.map λ(n,k)=>if (k == NameKind.free&&env.scope.kind == .function&&env.kindOf n == O .cell) then (n,NameKind.cell) else (n,k)).lookup y=O .cell \/
  (names.map λ(n,k)=>if (k == NameKind.free&&env.scope.kind == .function&&env.kindOf n == O .cell) then (n,NameKind.cell) else (n,k)).lookup y=O .free) ->
  (∀ x∈names,x.2≠.cell)->(y,NameKind.free)∈names
 | [],h,_=>by simp at h
 | (n,k)::r,h,hc=>by
  have ih:=@jM scope env y r
  have hr:∀ x∈r,x.2≠.cell:=λx hx=>hc x (SO _ hx)
  rw [Ta] at h
  by_cases hq:(k == NameKind.free&&env.scope.kind == .function&&env.kindOf n == O .cell)=true
  ·have hk:k=.free:=by
    have:=hq
    simp only [SM] at this
    simpa using this.1.1
   simp only [hq,VC] at h
   simp only [Vi] at h
   cases hy:y == n with
   | true=>
    have e:y=n:=by simpa using hy
    rw [e,hk]
    exact SN
   | false=>
    simp only [hy] at h
    exact SO _ (ih h hr)
  ·simp only [hq,Ut,UL] at h
   simp only [Vi] at h
   cases hy:y == n with
   | true=>
    simp only [hy] at h
    have e:y=n:=by simpa using hy
    rcases h with h | h
    ·exact absurd (Tq h) (hc (n,k) SN)
    ·rw [e,<- Tq h]
     exact SN
   | false=>
    simp only [hy] at h
    exact SO _ (ih h hr)
noncomputable def fU(X:Cx)(N':List Str)(scope:Scope)(C:Addr)(s:Shared)(H:Hp)(fp:List Addr):Cx:=
 {X with N:=N',s₀:=s,H₀:=H,env:=compEnvC scope (kg X.env.cells scope.names []) C X.env,outer:=X.stack,ex:=fp,fn:=λ_=>false,pn:=[],xe:=λ_ _=>False }
noncomputable def Dv(X:Cx)(ifs:List Expr)(t:TT):Prop:=
 ∀ (pins:List (Addr×Obj)) (s:Shared) (σ:St) (H:Hp) (Q:Bool->Hp->Prop),Inv X pins σ H s->t σ H Q->wpAny (model X.prog X.w) X.A (forIn ifs true λc r=>if r=true then do let ok <- isTrue c X.env (eval c X.env);pure (ForInStep.yield ok) else pure (ForInStep.yield r)) (TP X pins σ Q) X.xe s
theorem KF{X:Cx}:Dv X [] (λ_ H Q=>Q true H):=λ_ _ _ H _ I h=>wpAny_tests_nil ⟨H,I,h⟩
theorem KE{X:Cx}{c:Expr}{t:TT}(h:PT X c t):Dv X [c] t:=λpins s σ H Q I q=>wpAny_tests_one (h pins s σ H Q I q)
noncomputable def cH(e tg:Expr)(p0:Pos)(ifs:List Expr)(d:Nat)(it acc:Value)(env:Env)(bc:Sem Unit):Sem Fin:=do
 standAt p0
 let r <- pyNext it
 match r with
 | none=>pure (Fin.done Flow.next)
 | some v=>do
  letOwnedTupleGo tg it v
  assign tg env v
  let ok <- forIn ifs true λc r=>if r=true then do let ok <- isTrue c env (eval c env);pure (ForInStep.yield ok) else pure (ForInStep.yield r)
  if ok=true then do bc;again (.compLoop e d it acc env) else again (.compLoop e d it acc env)
noncomputable def pB(elt:Expr)(acc:Value)(env:Env):Sem Unit:=do
 let x <- eval elt env
 let _ <- call (.builtin "list.append") [acc,x]
 pure ()
section
variable{prog:Program}{w:World}{A:Around}{R:Result->Shared->Prop}{s:Shared}
theorem lC{e elt tg:Expr}{gens:List Comprehension}{scope:Scope}{pos p0:Pos}{ifs:List Expr}{d:Nat}{it acc:Value}{env:Env}{bc:Sem Unit}(he:e=.ListComp elt gens scope pos)(htn:compTurn e d it acc env=cH e tg p0 ifs d it acc env bc)(I:Nat->Shared->Prop)
  (turn:∀ n s,I n s->wpAny (model prog w) A (pyNext it) (λr s₁=>match r with
   | none=>R (.ok .next) s₁
   | some v=>wpAny (model prog w) A (letOwnedTupleGo tg it v) (λ_ s₁'=>wpAny (model prog w) A (assign tg env v) (λ_ s₂=>
     wpAny (model prog w) A (forIn ifs true λc r=>if r=true then do let ok <- isTrue c env (eval c env);pure (ForInStep.yield ok) else pure (ForInStep.yield r)) (λok s₃=>
      if ok=true then wpAny (model prog w) A bc (λ_ s₅=>∃ m,m<n/\I m s₅) (λ_ _=>False) s₃
      else ∃ m,m<n/\I m s₃) (λ_ _=>False) s₂) (λ_ _=>False) s₁') (λ_ _=>False) s₁) (λ_ _=>False) s)
  (n:Nat) (h:I n s) :
  codeAny (model prog w) A (.compLoop e d it acc env) R s:=by
 refine codeAny_loop rfl I (λn s hI=>?_) n h
 subst he
 show wpAny _ A ((compTurn (.ListComp elt gens scope pos) d it acc env).onRaise (λx=>do noteFrame x env;theTreesLotGoes x)) _ _ s
 refine wpAny_noted ?_
 rw [htn]
 refine SK (Ue (SK (Tp (turn n s hI) (λr s₁ h₁=>?_) λ_ _ h'=>h'.elim)))
 cases r with
 | none=>exact SU h₁
 | some v=>
  refine SK (Tp h₁ (λ_ s₁' h₁'=>?_) λ_ _ h'=>h'.elim)
  refine SK (Tp h₁' (λ_ s₂ h₂=>SK (Tp h₂ (λok s₃ h₃=>?_) λ_ _ h'=>h'.elim)) λ_ _ h'=>h'.elim)
  cases ok with
  | false=>exact SU ⟨rfl,h₃⟩
  | true=>exact SK (Tp h₃ (λ_ s₅ h₅=>SU ⟨rfl,h₅⟩) λ_ _ h'=>h'.elim)
end
noncomputable abbrev TB:=St->Hp->(St->Hp->Prop)->Prop
noncomputable def PB(X:Cx)(m:Sem Unit)(tb:TB):Prop:=
 ∀ (pins:List (Addr×Obj)) (s:Shared) (σ:St) (H:Hp) (Q:St->Hp->Prop),Inv X pins σ H s->tb σ H Q->wpAny (model X.prog X.w) X.A m (λ_ s'=>∃ σ' H',Inv X pins σ' H' s'/\Q σ' H') X.xe s
noncomputable def tEm(te:TE)(p:Addr):TB:=λσ H Q=>te σ H λy H5=>∃ ys,H5 p=O (.lst ys)/\ys.length<sizeLine/\Q σ (upd H5 p (.lst (ys++[y])))
theorem qL{X:Cx}{elt:Expr}{te:TE}{p:Addr}(he:PE X elt te):PB X (pB elt (.ref p) X.env) (tEm te p):=λpins s σ H Q I h=>by
 refine SK (cF (he pins s σ H _ I h) λxv s8 ⟨y,H8,J8,r8,q8⟩=>?_)
 obtain⟨ys,hy,hz,q9⟩:=q8
 refine SK (cF (uN _ s8 σ H8 (.ref p) [y] (.ref p) [xv] (λ_ H9=>H9=upd H8 p (.lst (ys++[y]))) J8 rfl (.cons r8 .nil) ⟨_,ys,y,rfl,rfl,hy,hz,rfl⟩) λ_ s9 ⟨_,H9,J9,_,e9⟩=>?_)
 subst e9
 exact SU ⟨_,_,J9,q9⟩
noncomputable def mB(J:It)(g:TG)(tt:TT)(tb:TB)(σ:St)(H:Hp)(Q:St->Hp->Prop):Prop:=∃ W:Nat->Nat->St->Hp->Prop,(∃ m,W 0 m σ H)/\∀ i m σ' H',W i m σ' H' ->
 (J.stop i H'/\Q σ' H')\/(J.go i H'/\∀ x H2,J.yld i H' x H2->g x σ' H2 λσ2 H3=>tt σ2 H3 λok H4=>
  if ok=true then tb σ2 H4 λσ3 H5=>∃ m',m'<m/\W (i+1) m' σ3 H5 else ∃ m',m'<m/\W (i+1) m' σ2 H4)
theorem pG{X:Cx}{e elt tg:Expr}{gens:List Comprehension}{scope:Scope}{pos p0:Pos}{ifs:List Expr}{d:Nat}{acc:Value}{bc:Sem Unit}{g:TG}{tt:TT}{tb:TB}{it:Addr}{fp:List Addr}{tn:Nat->Heap->Prop}{J:It}
  (hc:X.calm=true) (hx:∀ e s,X.xe e s->False) (hl:e=.ListComp elt gens scope pos) (htn:compTurn e d (.ref it) acc X.env=cH e tg p0 ifs d (.ref it) acc X.env bc) (hg:PG X tg g) (ht:Dv X ifs tt) (hb:PB X bc tb) (T:um X.prog X.w X.K tg J fp it tn)
  {pins:List (Addr×Obj)} {s:Shared} {σ:St} {H:Hp} {Q:St->Hp->Prop} (I:Inv X pins σ H s) (st:tn 0 s.heap) (f2:∀ b∈fp,lV X pins H b) (h:mB J g tt tb σ H Q) :
  codeAny (model X.prog X.w) X.A (.compLoop e d (.ref it) acc X.env) (λr s'=>∃ σ' H',r=.ok .next/\Inv X pins σ' H' s'/\Q σ' H') s:=by
 obtain⟨W,⟨m0,w0⟩,turn⟩:=h
 have no:∀ e s,X.xe e s->(λ(_:Value) (_:Shared)=>False) e s:=hx
 have stat:∀ {H':Hp},(∀ b∈fp,H' b=U)->∀ b∈fp,lV X pins H' b:=λhn b hb=>⟨hn b hb,(f2 b hb).2⟩
 refine lC hl htn (λn s'=>∃ i σ' H',Inv X pins σ' H' s'/\tn i s'.heap/\(∀ b∈fp,H' b=U)/\W i n σ' H') ?_ m0 ⟨0,_,_,I,st,λb hb=>(f2 b hb).1,w0⟩
 rintro n s3 ⟨i,σ3,H3,J3,st3,fr3,w3⟩
 rcases turn i n σ3 H3 w3 with ⟨stop,qn⟩ | ⟨go,step⟩
 ·refine cF (T.done X rfl rfl rfl hc i pins s3 σ3 H3 _ J3 (stat fr3) st3 stop) λr s4 ⟨hr,J4⟩=>?_
  subst hr
  exact⟨σ3,H3,rfl,J4,qn⟩
 ·refine cF (T.item X rfl rfl rfl hc i pins s3 σ3 H3 _ J3 (stat fr3) st3 go) λr s4 ⟨u,hr,h4⟩=>?_
  subst hr
  refine cF h4 λ_ s5 ⟨x,H5,J5,r5,y5,st5,fr5⟩=>?_
  have J5':=J5.pinned (stat fr5) (T.obj _ _ st5)
  refine Tp (hg _ s5 σ3 H5 x u _ J5' r5 (step x H5 y5)) (λ_ s6 ⟨σ6,H6,J6,q6⟩=>?_) no
  refine Tp (ht _ s6 σ6 H6 _ J6 q6) (λok s7 ⟨H7,J7,q7⟩=>?_) no
  have again:∀ {s':Shared} {σ7:St} {H7:Hp},Inv X (pins++oN fp s5.heap) σ7 H7 s'->(∃ m',m'<n/\W (i+1) m' σ7 H7)->∃ m,m<n/\∃ i σ' H',Inv X pins σ' H' s'/\tn i s'.heap/\(∀ b∈fp,H' b=U)/\W i m σ' H':=λ{s' σ7 H7} J7 n7=>by
   obtain⟨m',hm,w7⟩:=n7
   refine⟨m',hm,i+1,σ7,H7,J7.unpinned,T.keep _ _ _ st5 λb hb o e=>(J7.pin (b,o) (Tt _ (Tt _ (gA hb e)))).1,λb hb=>?_,w7⟩
   obtain⟨o,e,d⟩:=T.obj _ _ st5 b hb
   exact(J7.pin (b,o) (Tt _ (Tt _ (gA hb e)))).2.1
  cases ok with
  | false=>
   rw [Ts SZ] at q7 ⊢
   exact again J7 q7
  | true=>
   rw [Td rfl] at q7 ⊢
   exact Tp (hb _ s7 σ6 H7 _ J7 q7) (λ_ s9 ⟨σ9,H9,J9,q9⟩=>again J9 q9) no
structure BlockOk(X:Cx)(N':List Str)(scope:Scope)(cap:List (Option Nat)):Prop where
 kind:scope.kind=.function
 nocell:∀ x∈scope.names,x.2≠.cell
 names:∀ x∈scope.names,x.2=.local->scope.names.lookup x.1=O .local
 free:∀ x∈scope.names,x.2=.free->(X.env.kindOf x.1=O .cell\/X.env.kindOf x.1=O .free)
 nd:N'.Nodup
 len:cap.length=N'.length
 cap:∀ (j i:Nat),cap[j]?=O (O i)->∃ y,N'[j]?=O y/\X.N[i]?=O y/\Vis X.env.scope y/\(X.env.kindOf y=O .cell\/X.env.kindOf y=O .free)/\((relabel scope X.env).names.lookup y=O .cell\/(relabel scope X.env).names.lookup y=O .free)
noncomputable def σB(cap:List (Option Nat))(σ:St):St:=cap.map λo=>o.bind λi=>(σ[i]?).join
section
variable{X:Cx}{pins:List (Addr×Obj)}{σ:St}{H:Hp}{s:Shared}{N':List Str}{scope:Scope}{cap:List (Option Nat)}{C:Addr}{fp:List Addr}
theorem BlockOk.cells(B:BlockOk X N' scope cap)(ok:X.Ok):∀ x∈scope.names,x.2=.free->(X.env.cells.lookup x.1).isSome=true:=λx hx hf=>by
 obtain⟨c,e⟩:=ok.has x.1 (B.free x hx hf)
 rw [e];rfl
theorem BlockOk.cl(B:BlockOk X N' scope cap)(ok:X.Ok):∀ y c,(kg X.env.cells scope.names []).lookup y=O c->X.env.cells.lookup y=O c:=
 pH _ _ _ (B.cells ok) λy c e=>by simp at e
theorem Inv.notStk(I:Inv X pins σ H s){b:Addr}(h1:b≠X.env.locals)(h2:b ∉ X.fs):b ∉ FG X.stack:=λz=>(Tc.mp (I.stkSub b z)).elim h1 h2
theorem Inv.block{h4:Heap}{tk:Nat}{m0:Str->Option Value}(I:Inv X pins σ H s)(B:BlockOk X N' scope cap)(hfp:∀ b∈fp,lV X pins H b/\b<s.heap.objs.size)(hC:s.heap.objs.size<=C)
  (hk:∀ b o,s.heap.get? b=O o->h4.get? b=O o) (hn:h4.Ns C m0):Inv (fU X N' scope C s H fp) [] (σB cap σ) H { s with heap:=h4,toks:=tk }:=by
 have okX:=I.ok
 have hcl:=B.cl okX
 have cellC:∀ x c,(kg X.env.cells scope.names []).lookup x=O c->∃ v,s.heap.IsCell c v:=λx c e=>I.cell x c (hcl x c e)
 have neC:∀ b o,s.heap.get? b=O o->b≠C:=λb o e=>Tk (Tf (SV e) hC)
 refine⟨⟨okX.mod,B.kind,okX.glob,okX.blt,hC,λx y c e1 e2=>okX.inj x y c (hcl x c e1) (hcl y c e2),λx hx=>?_,λx c e _=>(by cases e),okX.hd,okX.frames,.inl rfl,λb hb=>⟨λz=>?_,λx c e z=>?_⟩,λb o e=>I.bs b o e,Th okX.bsz I.sz,λb o e hb=>?_,λb hb z=>?_,I.stack,I.stkFree⟩,
  rfl,I.bare,Un.kept hk,⟨m0,hn,λj y v e1 e2 e3=>?_⟩,λx c e=>?_,I.hok.fresh hC,λx c e=>I.freeC x c (hcl x c e),λp hp=>absurd (show p∈([]:List (Addr×Obj)) from hp) (by simp),I.hok.kept hk,?_⟩
 ·have q:=jM (scope:=scope) (env:=X.env) (y:=x) (names:=scope.names) hx B.nocell
  exact Ux.mp (oz _ _ _ _ q)
 ·have z':b=C:=z
  exact absurd (hfp b hb).2 (by rw [z'];exact Nat.not_lt.mpr hC)
 ·exact(hfp b hb).1.2.2.2.2.1 x c (hcl x c e) z
 ·obtain⟨h0,h1,h2,h3,h4',h5⟩:=(hfp b hb).1
  rcases h3 with h3 | h3
  ·exact okX.noex b o e h3
  ·have:=(okX.bs b o e).1
   exact absurd (Tf (SV this) h3) (Uf _)
 ·obtain⟨h0,h1,h2,h3,h4',h5⟩:=(hfp b hb).1
  exact I.notStk h1 h2 z
 ·have e1':N'[j]?=O y:=e1
  unfold σB at e2
  rw [UN] at e2
  cases ec:cap[j]? with
  | none=>rw [ec] at e2;cases e2
  | some o=>
   rw [ec] at e2
   cases o with
   | none=>cases e2
   | some i=>
    obtain⟨y',n1,n2,vis,kx,kb⟩:=B.cap j i ec
    rw [e1'] at n1;cases n1
    have e2':(σ[i]?).join=O v:=Tq e2
    have e2'':σ[i]?=O (O v):=by
     cases q:σ[i]? with
     | none=>rw [q] at e2';cases e2'
     | some z=>rw [q] at e2';exact congrArg O e2'
    obtain⟨m,hm,hl⟩:=I.loc
    obtain⟨u,ru,lk⟩:=hl i y v n2 e2'' vis
    refine⟨u,ru,.inr ⟨kb,?_⟩⟩
    rcases lk with ⟨k,_⟩ | ⟨k,c,ec',z⟩
    ·rcases kx with kx | kx
     ·rw [kx] at k;cases k
     ·rw [kx] at k;cases k
    ·have q:=jM (scope:=scope) (env:=X.env) (y:=y) (names:=scope.names) kb B.nocell
     obtain⟨c',hc'⟩:=Ux.mp (oz X.env.cells scope.names [] y q)
     have:=hcl y c' hc'
     rw [ec'] at this;cases this
     exact⟨c,hc',z.keeps hk⟩
 ·obtain⟨v,z⟩:=cellC x c e
  exact⟨v,z.keeps hk⟩
 ·show (σB cap σ).length=N'.length
  unfold σB
  rw [SX,B.len]
theorem Inv.unblock{Hf:Hp}{s':Shared}{σ':St}{pins':List (Addr×Obj)}(I:Inv X pins σ H s)(hfp:∀ b∈fp,lV X pins H b)(J:Inv (fU X N' scope C s H fp) pins' σ' Hf s'):Inv X pins σ Hf s':=
 I.call' (ch:=fp) J.os J.base J.hok J.bare λb hb=>by
  obtain⟨h0,h1,h2,h3,h4,h5⟩:=hfp b hb
  exact⟨h3,h1,h4,h5⟩
end
noncomputable def oF(wi:TI)(g:TG)(tt:TT)(tb:Addr->TB)(cap:List (Option Nat)):TE:=λσ H Q=>wi σ H λJ H1=>∀ p,H1 p=U->mB J g tt (tb p) (σB cap σ) (upd H1 p (.lst [])) λ_ H'=>Q (.ref p) H'
noncomputable def FV(wi:TI)(g:TG)(tt:TT)(te:TE)(cap:List (Option Nat)):TE:=oF wi g tt (tEm te) cap
noncomputable def Behind(X:Cx)(pins:List (Addr×Obj))(σ:St)(Q:VK)(acc:Value)(C:Addr)(r:Result)(s':Shared):Prop:=
 ∃ p Hf m,r=.ok .next/\acc=.ref p/\Inv X pins σ Hf s'/\Q (.ref p) Hf/\s'.heap.Ns C m/\Hf C=U/\C≠X.env.locals/\X.s₀.heap.objs.size<=C/\(∀ x c,X.env.cells.lookup x=O c->c≠C)/\(∀ q∈X.pn++pins,q.1≠C)
theorem tP{X:Cx}{elt iter tg:Expr}{ifs:List Expr}{rest:List Comprehension}{scope:Scope}{pos:Pos}{N':List Str}{cap:List (Option Nat)}{wi:TI}{g:TG}{tt:TT}{tb:Addr->TB}{bc:Value->Env->Sem Unit}
  (hc:X.calm=true) (B:BlockOk X N' scope cap) (hi:PI X tg iter wi) (hg:∀ C s H fp,PG (fU X N' scope C s H fp) tg g) (ht:∀ C s H fp,Dv (fU X N' scope C s H fp) ifs tt)
  (htn:∀ it acc env,compTurn (.ListComp elt (⟨tg,iter,ifs,0⟩::rest) scope pos) 0 it acc env=cH (.ListComp elt (⟨tg,iter,ifs,0⟩::rest) scope pos) tg iter.pos ifs 0 it acc env (bc acc env))
  (hb:∀ C s H fp p,PB (fU X N' scope C s H fp) (bc (.ref p) (fU X N' scope C s H fp).env) (tb p))
  {pins:List (Addr×Obj)} {s:Shared} {σ:St} {H:Hp} {Q:VK} (I:Inv X pins σ H s) (h:oF wi g tt tb cap σ H Q) {E:Value->Shared->Prop} (hE:∀ e s,X.xe e s->E e s) :
  wpAny (model X.prog X.w) X.A (eval iter X.env) (λx s₁=>wpAny (model X.prog X.w) X.A (pyIter x) (λit s₂=>wpAny (model X.prog X.w) X.A (newList []) (λacc s₃=>
   wpAny (model X.prog X.w) X.A (newFunctionEnv scope X.env.globals (kg X.env.cells scope.names []) [] X.env.qual U .none (O X.env)) (λcenv s₄=>
    codeAny (model X.prog X.w) X.A (.compStart (.ListComp elt (⟨tg,iter,ifs,0⟩::rest) scope pos) 0 it acc { cenv with scope:=relabel scope X.env }) (Behind X pins σ Q acc cenv.locals) s₄) E s₃) E s₂) E s₁) E s:=by
 refine Tp (hi pins s σ H _ I h) (λv s1 h1=>Tp h1 (λitv s2 h2=>?_) hE) hE
 obtain⟨it,fp,tn,J,H1,e,I2,T,st2,f2,hW⟩:=h2
 subst e
 refine TL (Xc B.nocell (by intro y hy;simp at hy) (λh₁ hns₁ hsb₁=>?_) B.kind)
 dsimp only at hns₁ hsb₁ ⊢
 have hp1:H1 s2.heap.objs.size=U:=I2.hok.fresh (SS _)
 have hL:=hW s2.heap.objs.size hp1
 have I3:Inv X pins σ (upd H1 s2.heap.objs.size (.lst [])) { s2 with heap:=s2.heap.push { cls:=.type "list",dict:=U,data:=.seq ([]:List Value).toArray },toks:=s2.toks }:=
  I2.laid (λb o e=>SL _ e) (SS _) ⟨UA _,[],_,.nil,SW _ rfl⟩
 generalize hH2:s2.heap.push { cls:=.type "list",dict:=U,data:=.seq ([]:List Value).toArray } = H2 at hns₁ hsb₁ I3 ⊢
 have hC:H2.objs.size=s2.heap.objs.size+1:=by rw [<- hH2,TZ]
 have ltfp:∀ b∈fp,b<s2.heap.objs.size:=λb hb=>by
  obtain⟨o,e,_⟩:=T.obj _ _ st2 b hb
  exact SV e
 have hf3:∀ b∈fp,lV X pins (upd H1 s2.heap.objs.size (.lst [])) b/\b<H2.objs.size:=λb hb=>by
  obtain⟨a0,a⟩:=f2 b hb
  refine⟨⟨?_,a⟩,by rw [hC];exact Vz (ltfp b hb)⟩
  rw [aD (Tk (ltfp b hb))];exact a0
 have up:∀ b o,H2.get? b=O o->h₁.get? b=O o:=λb o e=>hsb₁.extBut b o (Tk (SV e)) (SL _ e)
 have I4:=I3.block (C:=H2.objs.size) (fp:=fp) (h4:=h₁) (tk:=s2.toks+([]:List (Str×Value)).length) B hf3 (SS _) up hns₁
 have st4:tn 0 h₁:=T.keep _ _ _ st2 λb hb o e=>up b o (by rw [<- hH2];exact SL _ e)
 have loop:codeAny (model X.prog X.w) X.A (.compLoop (.ListComp elt (⟨tg,iter,ifs,0⟩::rest) scope pos) 0 (.ref it) (.ref s2.heap.objs.size) (compEnvC scope (kg X.env.cells scope.names []) H2.objs.size X.env))
    (Behind X pins σ Q (.ref s2.heap.objs.size) H2.objs.size) { s2 with heap:=h₁,toks:=s2.toks+([]:List (Str×Value)).length }:=by
  refine Ug (pG (X:=fU X N' scope H2.objs.size { s2 with heap:=H2,toks:=s2.toks } (upd H1 s2.heap.objs.size (.lst [])) fp) hc (λ_ _ z=>z) rfl (htn _ _ _) (hg _ _ _ _) (ht _ _ _ _) (hb _ _ _ _ _) T I4 st4 (λb hb=>?_) hL) λr s4 ⟨σ4,H4,hr,J4,qn⟩=>?_
  ·obtain⟨h0,h1,h2,h3,h4',h5⟩:=(hf3 b hb).1
   exact⟨h0,Tk (hf3 b hb).2,I3.notStk h1 h2,.inl hb,λx c e=>h4' x c (B.cl I3.ok x c e),λp hp=>absurd (show p∈([]:List (Addr×Obj)) from hp) (by simp)⟩
  ·obtain⟨m,hm,_⟩:=J4.loc
   have IX:=I3.unblock (λb hb=>(hf3 b hb).1) J4
   refine⟨_,H4,m,hr,rfl,IX,qn,hm,J4.free,?_,?_,λx c e z=>?_,λq hq z=>?_⟩
   ·exact Ne.symm (Tk I3.lt)
   ·exact I3.sz
   ·obtain⟨v,q⟩:=I3.cell x c e
    exact absurd q.lt (by rw [z];exact Uf _)
   ·exact absurd (SV (I3.pin q hq).1) (by rw [z];exact Uf _)
 exact codeAny_compStart_list loop (T.self _ 0 _ _ _ st4 loop)
theorem rP{X:Cx}{elt iter tg:Expr}{ifs:List Expr}{rest:List Comprehension}{scope:Scope}{pos:Pos}{N':List Str}{cap:List (Option Nat)}{wi:TI}{g:TG}{tt:TT}{tb:Addr->TB}{bc:Value->Env->Sem Unit}
  (hc:X.calm=true) (B:BlockOk X N' scope cap) (hi:PI X tg iter wi) (hg:∀ C s H fp,PG (fU X N' scope C s H fp) tg g) (ht:∀ C s H fp,Dv (fU X N' scope C s H fp) ifs tt) (htn:∀ it acc env,compTurn (.ListComp elt (⟨tg,iter,ifs,0⟩::rest) scope pos) 0 it acc env=cH (.ListComp elt (⟨tg,iter,ifs,0⟩::rest) scope pos) tg iter.pos ifs 0 it acc env (bc acc env))
  (hb:∀ C s H fp p,PB (fU X N' scope C s H fp) (bc (.ref p) (fU X N' scope C s H fp).env) (tb p))
  (hs:∀ x,foldedSetIterable iter X.env x=pure x:=by intro _;rfl):PE X (.ListComp elt (⟨tg,iter,ifs,0⟩::rest) scope pos) (oF wi g tt tb cap):=by
 intro pins s σ H Q I h
 rw [eval_ListComp]
 refine Vx (use:=U) rfl hs (ji (B.cells I.ok)) B.kind B.names ?_
 refine Tp (tP hc B hi hg ht htn hb I h λ_ _ x=>x) (λx s1 h1=>Tp h1 (λit s2 h2=>Tp h2 (λacc s3 h3=>Tp h3 (λcenv s4 h4=>Ug h4 λr s' hr=>?_) λ_ _ x=>x) λ_ _ x=>x) λ_ _ x=>x) λ_ _ x=>x
 obtain⟨p,Hf,m,rfl,rfl,J,q,hn,c1,c2,c3,c4,c5⟩:=hr
 exact⟨m,hn,λh' sb=>⟨_,Hf,J.turned (t':=s'.toks) (λb o hb e=>(sb.2 b hb).trans e) c1 c2 (.inr c3) c4 c5,(show RelV (.ref p) (.ref p) from rfl),q⟩⟩
theorem kZ{X:Cx}{elt iter tg:Expr}{ifs:List Expr}{rest:List Comprehension}{scope:Scope}{pos spos py:Pos}{N':List Str}{cap:List (Option Nat)}{wi:TI}{g:TG}{tt:TT}{tb:Addr->TB}{bc:Value->Env->Sem Unit}{y:Str}{i:Nat}
  (hN:X.N.Nodup) (hy:X.N[i]?=O y) (hx:JZ X.env.scope y)
  (hc:X.calm=true) (B:BlockOk X N' scope cap) (hi:PI X tg iter wi) (hg:∀ C s H fp,PG (fU X N' scope C s H fp) tg g) (ht:∀ C s H fp,Dv (fU X N' scope C s H fp) ifs tt) (htn:∀ it acc env,compTurn (.ListComp elt (⟨tg,iter,ifs,0⟩::rest) scope pos) 0 it acc env=cH (.ListComp elt (⟨tg,iter,ifs,0⟩::rest) scope pos) tg iter.pos ifs 0 it acc env (bc acc env))
  (hb:∀ C s H fp p,PB (fU X N' scope C s H fp) (bc (.ref p) (fU X N' scope C s H fp).env) (tb p))
  (hsw:swapsWith (.ListComp elt (⟨tg,iter,ifs,0⟩::rest) scope pos) (O (.Name y py)) spos.line X.env=pure true:=by rfl)
  (hs:∀ x,foldedSetIterable iter X.env x=pure x:=by intro _;rfl) (hf:X.fn y=true\/X.env.scope.names.lookup y=O .local:=by first | exact .inl rfl | exact .inr rfl | assumption) :
  PS X (.Assign [.Name y py] (.ListComp elt (⟨tg,iter,ifs,0⟩::rest) scope pos) spos) (FZ (oF wi g tt tb cap) (Dg i)):=by
 intro pins s σ H D I h
 rw [exec_Assign_Name_used _ _ _ _ hsw]
 refine SK (Ue (SK ?_))
 show wpAny _ _ (do let _ <- comprehension (.ListComp elt (⟨tg,iter,ifs,0⟩::rest) scope pos) scope X.env _ (newList []) false (eval iter X.env) (O (assign (.Name y py) X.env))) _ _ s
 refine SK (Tp (Vx (use:=O (assign (.Name y py) X.env)) (Q:=λ_ s'=>SP X pins D .next s') rfl hs (ji (B.cells I.ok)) B.kind B.names
  (Tp (tP hc B hi hg ht htn hb I h λ_ _ x=>x) (λx s1 h1=>Tp h1 (λit s2 h2=>Tp h2 (λacc s3 h3=>Tp h3 (λcenv s4 h4=>Ug h4 λr s' hr=>?_) λ_ _ x=>x) λ_ _ x=>x) λ_ _ x=>x) λ_ _ x=>x))
  (λ_ s' hq=>SU (SU hq)) λ_ _ e=>e)
 obtain⟨p,Hf,m,rfl,rfl,J,q,hn,c1,c2,c3,c4,c5⟩:=hr
 refine wpAny_assign_Name (uF J hN hy hx (v:=.ref p) rfl (λs2 J2 ⟨a,sb,ha⟩=>?_) hf)
 refine⟨m,hn.sameBut sb ?_,λh' sb2=>⟨_,Hf,J2.turned (t':=s2.toks) (λb o hb e=>(sb2.2 b hb).trans e) c1 c2 (.inr c3) c4 c5,q⟩⟩
 rcases ha with rfl | ha
 ·exact c2
 ·exact Ne.symm (c4 _ _ ha)
theorem La{X:Cx}{elt iter tg:Expr}{ifs:List Expr}{scope:Scope}{pos:Pos}{N':List Str}{cap:List (Option Nat)}{wi:TI}{g:TG}{tt:TT}{te:TE}
  (hc:X.calm=true) (B:BlockOk X N' scope cap) (hi:PI X tg iter wi) (hg:∀ C s H fp,PG (fU X N' scope C s H fp) tg g) (ht:∀ C s H fp,Dv (fU X N' scope C s H fp) ifs tt) (he:∀ C s H fp,PE (fU X N' scope C s H fp) elt te)
  (hs:∀ x,foldedSetIterable iter X.env x=pure x:=by intro _;rfl):PE X (.ListComp elt [⟨tg,iter,ifs,0⟩] scope pos) (FV wi g tt te cap):=
 rP hc B hi hg ht (λ_ _ _=>compTurn_list ..) (λC s H fp p=>qL (he C s H fp)) hs
theorem AV{X:Cx}{elt iter tg:Expr}{ifs:List Expr}{scope:Scope}{pos spos py:Pos}{N':List Str}{cap:List (Option Nat)}{wi:TI}{g:TG}{tt:TT}{te:TE}{y:Str}{i:Nat}
  (hN:X.N.Nodup) (hy:X.N[i]?=O y) (hx:JZ X.env.scope y)
  (hc:X.calm=true) (B:BlockOk X N' scope cap) (hi:PI X tg iter wi) (hg:∀ C s H fp,PG (fU X N' scope C s H fp) tg g) (ht:∀ C s H fp,Dv (fU X N' scope C s H fp) ifs tt) (he:∀ C s H fp,PE (fU X N' scope C s H fp) elt te)
  (hsw:swapsWith (.ListComp elt [⟨tg,iter,ifs,0⟩] scope pos) (O (.Name y py)) spos.line X.env=pure true:=by rfl)
  (hs:∀ x,foldedSetIterable iter X.env x=pure x:=by intro _;rfl) (hf:X.fn y=true\/X.env.scope.names.lookup y=O .local:=by first | exact .inl rfl | exact .inr rfl | assumption) :
  PS X (.Assign [.Name y py] (.ListComp elt [⟨tg,iter,ifs,0⟩] scope pos) spos) (FZ (FV wi g tt te cap) (Dg i)):=
 kZ hN hy hx hc B hi hg ht (λ_ _ _=>compTurn_list ..) (λC s H fp p=>qL (he C s H fp)) hsw hs hf
noncomputable def excK(x C dx:Addr)(h:Heap):Prop:=∃ oe vs,h.get? x=O oe/\oe.cls=.ref C/\oe.dict=O dx/\oe.data=.fields vs
end L2
namespace M
open L2
noncomputable def vI:Option Int->V
 | none=>.non
 | some i=>.int i
noncomputable def NZ(a:Addr)(h:Heap):Prop:=∃ o,h.get? a=O o/\o.cls=.type "dict"
inductive D where
 | non
 | bl (b:Bool)
 | int (i:Int)
 | str (x:Str)
 | tup (xs:List D)
 | lst (xs:List D)
 | rol (xs:List D)
 | dct (ks:List ba) (vs:List D)
 | ref (r:Nat)
 | txt
 | obj
 | exc (C:Addr) (fl:Str) (i:Option Int)
inductive Cell where
 | lst (xs:List D)
 | dct (ks:List ba) (vs:List D)
noncomputable abbrev aa:=List Cell
structure Fp where
 cs:List Addr
 fb:List Addr
noncomputable def Fp.no(μ:Fp)(a:Addr):Prop:=a ∉ μ.cs/\a ∉ μ.fb
noncomputable abbrev av:=List (Option D)
theorem Lu{α:Type}{N:List α}(hN:N.Nodup){i j:Nat}{x:α}(a:N[i]?=O x)(b:N[j]?=O x):i=j:=by
 obtain⟨h1,e1⟩:=SR.mp a
 obtain⟨h2,e2⟩:=SR.mp b
 exact(List.getElem_inj hN).mp (e1.trans e2.symm)
noncomputable def KList(K:W.Frag)(a:Addr)(xs:List V):Prop:=∃ (o:Obj) (its:Array Value) (n:Nat),K.lookup a=O o/\o.cls=.type "list"/\o.dict=U/\o.data=.seq its n/\its.size<=sizeLine/\Vals xs its.toList
noncomputable def KTup(K:W.Frag)(a:Addr)(xs:List V):Prop:=∃ (o:Obj) (its:Array Value) (n:Nat),K.lookup a=O o/\o.cls=.type "tuple"/\o.dict=U/\o.data=.seq its n/\its.size<=sizeLine/\Vals xs its.toList
mutual
inductive Rep(K:W.Frag)(μ:Fp)(H:Hp):V->D->Prop
 | non:Rep K μ H .non .non
 | bl (b:Bool):Rep K μ H (.bl b) (.bl b)
 | int (i:Int):Rep K μ H (.int i) (.int i)
 | str (x:Str):Rep K μ H (.str x) (.str x)
 | tup {a:Addr} {vs:List V} {ds:List D} (h:H a=O (.tup vs)) (n:μ.no a) (r:Reps K μ H vs ds):Rep K μ H (.ref a) (.tup ds)
 | ktup {a:Addr} {vs:List V} {ds:List D} (h:KTup K a vs) (r:Reps K μ H vs ds):Rep K μ H (.ref a) (.tup ds)
 | lst {a:Addr} {vs:List V} {ds:List D} (h:H a=O (.lst vs)) (n:μ.no a) (r:Reps K μ H vs ds):Rep K μ H (.ref a) (.lst ds)
 | rol {a:Addr} {vs:List V} {ds:List D} (h:Rd H a (.lst vs)) (n:μ.no a) (r:Reps K μ H vs ds):Rep K μ H (.ref a) (.rol ds)
 | krol {a:Addr} {vs:List V} {ds:List D} (h:KList K a vs) (r:Reps K μ H vs ds):Rep K μ H (.ref a) (.rol ds)
 | dct {a:Addr} {kvs:List (ba×V)} {ds:List D} (h:H a=O (.dK kvs)) (n:μ.no a) (r:Reps K μ H (kvs.map (·.2)) ds):Rep K μ H (.ref a) (.dct (kvs.map (·.1)) ds)
 | ref {a:Addr} {r:Nat} (h:μ.cs[r]?=O a):Rep K μ H (.ref a) (.ref r)
 | txt (x:Str):Rep K μ H (.str x) .txt
 | obj {a:Addr} (h:H a=O (.ext (NZ a))) (n:μ.no a):Rep K μ H (.ref a) .obj
 | exc {a dx C:Addr} {fl:Str} {i:Option Int} (h:H a=O (.ext (excK a C dx))) (n:μ.no a) (h2:H dx=O (.xd [(fl,vI i)])) (n2:μ.no dx):Rep K μ H (.ref a) (.exc C fl i)
inductive Reps(K:W.Frag)(μ:Fp)(H:Hp):List V->List D->Prop
 | nil:Reps K μ H [] []
 | cons {v:V} {d:D} {vs:List V} {ds:List D} (h:Rep K μ H v d) (t:Reps K μ H vs ds):Reps K μ H (v::vs) (d::ds)
end
structure Ext(μ:Fp)(H:Hp)(μ':Fp)(H':Hp):Prop where
 fb:μ'.fb = μ.fb
 pre:∃ l,μ'.cs = μ.cs++l/\∀ a∈l,H a=U
 keep:∀ a o,a ∉ μ.cs->H a=O o->H' a=O o
 dom:∀ a ∈ μ'.cs,H' a≠U
section
variable{K:W.Frag}{μ μ' μ'':Fp}{H H' H'':Hp}
theorem Ext.stays(e:Ext μ H μ' H'){a:Addr}{o:HO}(h:H a=O o)(n:μ.no a):H' a=O o/\μ'.no a:=by
 refine⟨e.keep a o n.1 h,λz=>?_,by rw [e.fb];exact n.2⟩
 obtain⟨l,q,hl⟩:=e.pre
 rw [q] at z
 rcases Tr.mp z with z | z
 ·exact n.1 z
 ·rw [hl a z] at h;cases h
theorem Ext.keeps(e:Ext μ H μ' H'){a:Addr}{o:HO}(h:H a=O o)(n:a ∉ μ.cs):H' a=O o/\a ∉ μ'.cs:=by
 refine⟨e.keep a o n h,λz=>?_⟩
 obtain⟨l,q,hl⟩:=e.pre
 rw [q] at z
 rcases Tr.mp z with z | z
 ·exact n z
 ·rw [hl a z] at h;cases h
theorem Ext.trans(e:Ext μ H μ' H')(f:Ext μ' H' μ'' H''):Ext μ H μ'' H'':=by
 obtain⟨l,q,hl⟩:=e.pre
 obtain⟨l',q',hl'⟩:=f.pre
 refine⟨f.fb.trans e.fb,⟨l++l',by rw [q',q,TN],λa ha=>?_⟩,λa o n h=>?_,f.dom⟩
 ·rcases Tr.mp ha with ha | ha
  ·exact hl a ha
  ·have h1:=hl' a ha
   cases q2:H a with
   | none=>rfl
   | some o=>
    by_cases hm:a ∈ μ.cs
    ·exact absurd h1 (e.dom a (by rw [q];exact TV _ hm))
    ·rw [e.keep a o hm q2] at h1;cases h1
 ·have:=e.keeps h n
  exact f.keep a o this.2 this.1
theorem Ext.refl(h:∀ a ∈ μ.cs,H a≠U):Ext μ H μ H:=⟨rfl,⟨[],by simp,λ_ z=>by simp at z⟩,λ_ _ _ h=>h,h⟩
noncomputable def kids:D->List D
 | .tup xs=>xs
 | .lst xs=>xs
 | .rol xs=>xs
 | .dct _ xs=>xs
 | _=>[]
theorem Rep.to{P:D->Prop}(hc:∀ d,P d->∀ x∈kids d,P x)(hk:∀ {a:Addr} {o:HO},H a=O o->μ.no a->H' a=O o/\μ'.no a)(hr:∀ {r:Nat} {a:Addr},P (.ref r)->μ.cs[r]?=O a->μ'.cs[r]?=O a){v:V}{d:D}(r:Rep K μ H v d):P d->Rep K μ' H' v d:=
 Rep.rec (motive_1:=λv d _=>P d->Rep K μ' H' v d) (motive_2:=λvs ds _=>(∀ d∈ds,P d)->Reps K μ' H' vs ds)
  (λ_=>.non) (λb _=>.bl b) (λi _=>.int i) (λx _=>.str x) (λh n _ ih p=>.tup (hk h n).1 (hk h n).2 (ih (hc _ p))) (λh _ ih p=>.ktup h (ih (hc _ p)))
  (λh n _ ih p=>.lst (hk h n).1 (hk h n).2 (ih (hc _ p))) (λh n _ ih p=>.rol (h.imp (λh=>(hk h n).1) λ⟨o,h⟩=>⟨o,(hk h n).1⟩) (h.elim (λh=>(hk h n).2) λ⟨_,h⟩=>(hk h n).2) (ih (hc _ p))) (λh _ ih p=>.krol h (ih (hc _ p)))
  (λh n _ ih p=>.dct (hk h n).1 (hk h n).2 (ih (hc _ p))) (λh p=>.ref (hr p h)) (λx _=>.txt x) (λh n _=>.obj (hk h n).1 (hk h n).2) (λh n h2 n2 _=>.exc (hk h n).1 (hk h n).2 (hk h2 n2).1 (hk h2 n2).2)
  (λ_=>.nil) (λ_ _ i1 i2 p=>.cons (i1 (p _ SN)) (i2 λx hx=>p x (SO _ hx))) r
theorem Reps.ind{Q:List V->List D->Prop}(h0:Q [] [])(h1:∀ {v:V} {d:D} {vs:List V} {ds:List D},Rep K μ H v d->Reps K μ H vs ds->Q vs ds->Q (v::vs) (d::ds)):∀ {vs:List V} {ds:List D},Reps K μ H vs ds->Q vs ds
 | _,_,.nil=>h0
 | _,_,.cons h t=>h1 h t (Reps.ind h0 h1 t)
theorem Reps.to{P:D->Prop}(hR:∀ {v:V} {d:D},Rep K μ H v d->P d->Rep K μ' H' v d){vs:List V}{ds:List D}(r:Reps K μ H vs ds):(∀ d∈ds,P d)->Reps K μ' H' vs ds:=
 Reps.ind (Q:=λvs ds=>(∀ d∈ds,P d)->Reps K μ' H' vs ds) (λ_=>.nil) (λh _ i p=>.cons (hR h (p _ SN)) (i λx hx=>p x (SO _ hx))) r
theorem Rep.imp(hk:∀ {a:Addr} {o:HO},H a=O o->μ.no a->H' a=O o/\μ'.no a)(hr:∀ {r:Nat} {a:Addr},μ.cs[r]?=O a->μ'.cs[r]?=O a){v:V}{d:D}(r:Rep K μ H v d):Rep K μ' H' v d:=Rep.to (P:=λ_=>True) (λ_ _ _ _=>trivial) hk (λ_=>hr) r trivial
theorem Reps.imp(hk:∀ {a:Addr} {o:HO},H a=O o->μ.no a->H' a=O o/\μ'.no a)(hr:∀ {r:Nat} {a:Addr},μ.cs[r]?=O a->μ'.cs[r]?=O a){vs:List V}{ds:List D}(r:Reps K μ H vs ds):Reps K μ' H' vs ds:=Reps.to (P:=λ_=>True) (λr _=>r.imp hk hr) r λ_ _=>trivial
theorem yd{l m:List Addr}{k:List Addr}(q:k=l++m){r:Nat}{a:Addr}(h:l[r]?=O a):k[r]?=O a:=by
 rw [q,To (SR.mp h).1];exact h
theorem Ext.ix(e:Ext μ H μ' H'){r:Nat}{a:Addr}(h:μ.cs[r]?=O a):μ'.cs[r]?=O a:=by
 obtain⟨l,q,_⟩:=e.pre
 exact yd q h
theorem Rep.mono(e:Ext μ H μ' H'){v:V}{d:D}(r:Rep K μ H v d):Rep K μ' H' v d:=r.imp e.stays e.ix
theorem Reps.mono(e:Ext μ H μ' H'){vs:List V}{ds:List D}(r:Reps K μ H vs ds):Reps K μ' H' vs ds:=r.imp e.stays e.ix
theorem Reps.length{vs:List V}{ds:List D}(r:Reps K μ H vs ds):vs.length=ds.length:=Reps.ind (Q:=λvs ds=>vs.length=ds.length) rfl (λ_ _ i=>congrArg (· + 1) i) r
theorem Reps.get:∀ {vs:List V} {ds:List D} {i:Nat} {d:D},Reps K μ H vs ds->ds[i]?=O d->∃ v,vs[i]?=O v/\Rep K μ H v d
 | _,_,_,_,.nil,e=>by simp at e
 | _,_,0,_,.cons h _,e=>by simp at e;subst e;exact⟨_,rfl,h⟩
 | _,_,i+1,d,.cons _ t,e=>by
  obtain⟨u,h1,h2⟩:=Reps.get (i:=i) (d:=d) t (by simpa using e)
  exact⟨u,by simpa using h1,h2⟩
theorem Reps.append{vs ws:List V}{ds es:List D}(r:Reps K μ H vs ds)(s:Reps K μ H ws es):Reps K μ H (vs++ws) (ds++es):=Reps.ind (Q:=λvs ds=>Reps K μ H (vs++ws) (ds++es)) s (λr _ i=>.cons r i) r
theorem Reps.take:∀ {vs:List V} {ds:List D} (n:Nat),Reps K μ H vs ds->Reps K μ H (vs.take n) (ds.take n)
 | _,_,0,_=>.nil
 | _,_,_+1,.nil=>.nil
 | _,_,n+1,.cons r t=>.cons r (Reps.take n t)
theorem Reps.drop:∀ {vs:List V} {ds:List D} (n:Nat),Reps K μ H vs ds->Reps K μ H (vs.drop n) (ds.drop n)
 | _,_,0,r=>r
 | _,_,_+1,.nil=>.nil
 | _,_,n+1,.cons _ t=>Reps.drop n t
theorem Reps.set{x:V}{d:D}(r:Rep K μ H x d):∀ {vs:List V} {ds:List D} (i:Nat),Reps K μ H vs ds->Reps K μ H (vs.set i x) (ds.set i d)
 | _,_,_,.nil=>.nil
 | _,_,0,.cons _ t=>.cons r t
 | _,_,i+1,.cons q t=>.cons q (Reps.set r i t)
theorem Reps.flat{xs:List V}:∀ (k:Nat) {ds:List D},Reps K μ H xs ds->Reps K μ H (List.replicate k xs).flatten (List.replicate k ds).flatten
 | 0,_,_=>.nil
 | k+1,_,r=>by rw [Tv,Tv,Ud,Ud];exact r.append (Reps.flat k r)
noncomputable def CellOk(K:W.Frag)(μ:Fp)(H:Hp)(a:Addr):Cell->Prop
 | .lst ds=>∃ vs,H a=O (.lst vs)/\Reps K μ H vs ds
 | .dct ks ds=>∃ kvs,H a=O (.dK kvs)/\ks=kvs.map (·.1)/\Reps K μ H (kvs.map (·.2)) ds
structure SOk(K:W.Frag)(μ:Fp)(S:aa)(H:Hp):Prop where
 nd:μ.cs.Nodup
 len:μ.cs.length=S.length
 cell:∀ (r:Nat) (a:Addr) (c:Cell),μ.cs[r]?=O a->S[r]?=O c->CellOk K μ H a c
 fdom:∀ a ∈ μ.fb,H a≠U
 disj:∀ a ∈ μ.fb,a ∉ μ.cs
theorem CellOk.ne_none{a:Addr}{c:Cell}(h:CellOk K μ H a c):H a≠U:=by
 cases c with
 | lst ds=>obtain⟨vs,h,_⟩:=h;rw [h];simp
 | dct ks ds=>obtain⟨vs,h,_⟩:=h;rw [h];simp
theorem CellOk.mono(e:Ext μ H μ' H'){a:Addr}{c:Cell}(he:H' a=H a)(h:CellOk K μ H a c):CellOk K μ' H' a c:=by
 cases c with
 | lst ds=>obtain⟨vs,h,r⟩:=h;exact⟨vs,he.trans h,r.mono e⟩
 | dct ks ds=>obtain⟨vs,h,q,r⟩:=h;exact⟨vs,he.trans h,q,r.mono e⟩
theorem SOk.dom{S:aa}(s:SOk K μ S H):∀ a ∈ μ.cs,H a≠U:=λa ha=>by
 obtain⟨r,hr⟩:=VM.mp ha
 have hl:=(SR.mp hr).1
 rw [s.len] at hl
 exact(s.cell r a S[r] hr (by simp [hl])).ne_none
theorem SOk.ext{S:aa}(s:SOk K μ S H):Ext μ H μ H:=.refl s.dom
theorem SOk.notMem{S:aa}(s:SOk K μ S H){p:Addr}(h:H p=U):μ.no p:=⟨λz=>s.dom p z h,λz=>s.fdom p z h⟩
theorem SOk.laid{S:aa}(s:SOk K μ S H){p:Addr}{o:HO}(h:H p=U):Ext μ H μ (upd H p o)/\SOk K μ S (upd H p o):=by
 have e:Ext μ H μ (upd H p o):=⟨rfl,⟨[],by simp,λ_ z=>by simp at z⟩,λa o' _ q=>by rw [aD (bn q h)];exact q,λa ha=>by
  by_cases z:a=p
  ·subst z;rw [aC];simp
  ·rw [aD z];exact s.dom a ha⟩
 refine⟨e,s.nd,s.len,λr a c h1 h2=>(s.cell r a c h1 h2).mono e ?_,λa ha=>?_,s.disj⟩
 case refine_2=>
  by_cases z:a=p
  ·subst z;rw [aC];simp
  ·rw [aD z];exact s.fdom a ha
 have:=(s.cell r a c h1 h2).ne_none
 refine aD λz=>?_
 rw [z] at this
 exact this h
theorem SOk.alloc{S:aa}(s:SOk K μ S H){p:Addr}{vs:List V}{ds:List D}(h:H p=U)(r:Reps K μ H vs ds):Ext μ H ⟨μ.cs++[p],μ.fb⟩ (upd H p (.lst vs))/\SOk K ⟨μ.cs++[p],μ.fb⟩ (S++[.lst ds]) (upd H p (.lst vs)):=by
 have hp:=s.notMem h
 have e:Ext μ H ⟨μ.cs++[p],μ.fb⟩ (upd H p (.lst vs)):=⟨rfl,⟨[p],rfl,λa z=>by rw [Tg.mp z];exact h⟩,λa o' _ q=>by rw [aD (bn q h)];exact q,λa ha=>by
  by_cases z:a=p
  ·subst z;rw [aC];simp
  ·rw [aD z]
   rcases Tr.mp ha with q | q
   ·exact s.dom a q
   ·exact absurd (Tg.mp q) z⟩
 refine⟨e,?_,by simp [s.len],λi a c h1 h2=>?_,λa ha=>?_,λa ha z=>?_⟩
 case refine_3=>
  by_cases z:a=p
  ·subst z;rw [aC];simp
  ·rw [aD z];exact s.fdom a ha
 case refine_4=>
  rcases Tr.mp z with q | q
  ·exact s.disj a ha q
  ·rw [Tg.mp q] at ha;exact hp.2 ha
 ·show (μ.cs++[p]).Nodup
  rw [Ui]
  exact⟨s.nd,by simp,λa ha b hb=>by rw [Tg.mp hb];rintro rfl;exact hp.1 ha⟩
 ·have h1:(μ.cs++[p])[i]?=O a:=h1
  by_cases hi:i < μ.cs.length
  ·rw [To hi] at h1
   rw [To (by rw [<- s.len];exact hi)] at h2
   have q:=s.cell i a c h1 h2
   refine q.mono e (aD λz=>?_)
   exact hp.1 (z ▸ TC h1)
  ·have hl:i = μ.cs.length:=by
    have:=(SR.mp h1).1
    simp at this;omega
   subst hl
   rw [Ub (SS _)] at h1
   rw [s.len,Ub (SS _)] at h2
   simp at h1 h2
   subst h1 h2
   exact⟨vs,aC,r.mono e⟩
theorem SOk.write{S:aa}(s:SOk K μ S H){i:Nat}{a:Addr}{vs vs':List V}{ds:List D}(hi:μ.cs[i]?=O a)(h:H a=O (.lst vs))(r:Reps K μ H vs' ds):Ext μ H μ (upd H a (.lst vs'))/\SOk K μ (S.set i (.lst ds)) (upd H a (.lst vs')):=by
 have ha:=TC hi
 have e:Ext μ H μ (upd H a (.lst vs')):=⟨rfl,⟨[],by simp,λ_ z=>by simp at z⟩,λb o' n q=>by rw [aD (by rintro rfl;exact n ha)];exact q,λb hb=>by
  by_cases z:b=a
  ·subst z;rw [aC];simp
  ·rw [aD z];exact s.dom b hb⟩
 refine⟨e,s.nd,by simp [s.len],λj b c h1 h2=>?_,λb hb=>?_,s.disj⟩
 case refine_2=>
  by_cases z:b=a
  ·subst z;rw [aC];simp
  ·rw [aD z];exact s.fdom b hb
 by_cases hj:j=i
 ·subst hj
  rw [hi] at h1;cases h1
  have hl:j<S.length:=by rw [<- s.len];exact(SR.mp hi).1
  rw [Uc hl] at h2
  cases h2
  exact⟨vs',aC,r.mono e⟩
 ·rw [TK (Ne.symm hj)] at h2
  refine(s.cell j b c h1 h2).mono e (aD λz=>hj ?_)
  subst z
  exact Lu s.nd h1 hi
inductive EOk(K:W.Frag)(μ:Fp)(H:Hp):L2.St->av->Prop
 | nil:EOk K μ H [] []
 | no {x:Option V} {σ:L2.St} {env:av} (t:EOk K μ H σ env):EOk K μ H (x::σ) (U::env)
 | yes {v:V} {d:D} {σ:L2.St} {env:av} (h:Rep K μ H v d) (t:EOk K μ H σ env):EOk K μ H (O v::σ) (O d::env)
theorem EOk.to(hR:∀ {v:V} {d:D},Rep K μ H v d->Rep K μ' H' v d){σ:L2.St}{env:av}(h:EOk K μ H σ env):EOk K μ' H' σ env:=by
 induction h with
 | nil=>exact .nil
 | no _ ih=>exact .no ih
 | yes h _ ih=>exact .yes (hR h) ih
theorem EOk.mono(e:Ext μ H μ' H'){σ:L2.St}{env:av}(h:EOk K μ H σ env):EOk K μ' H' σ env:=h.to (·.mono e)
theorem EOk.get:∀ {σ:L2.St} {env:av} {i:Nat} {d:D},EOk K μ H σ env->env[i]?=O (O d)->∃ v,σ[i]?=O (O v)/\Rep K μ H v d
 | _,_,_,_,.nil,h=>by simp at h
 | _,_,0,_,.no _,h=>by simp at h
 | _,_,0,_,.yes h _,q=>by simp at q;subst q;exact⟨_,rfl,h⟩
 | _,_,i+1,d,.no t,h=>by
  obtain⟨v,h1,h2⟩:=EOk.get (i:=i) (d:=d) t (by simpa using h)
  exact⟨v,by simpa using h1,h2⟩
 | _,_,i+1,d,.yes _ t,h=>by
  obtain⟨v,h1,h2⟩:=EOk.get (i:=i) (d:=d) t (by simpa using h)
  exact⟨v,by simpa using h1,h2⟩
theorem EOk.set{v:V}{d:D}(r:Rep K μ H v d):∀ {σ:L2.St} {env:av} (i:Nat),EOk K μ H σ env->EOk K μ H (σ.set i (Option.some v)) (env.set i (Option.some d))
 | _,_,_,.nil=>.nil
 | _,_,0,.no t=>.yes r t
 | _,_,0,.yes _ t=>.yes r t
 | _,_,i+1,.no t=>.no (EOk.set r i t)
 | _,_,i+1,.yes h t=>.yes h (EOk.set r i t)
theorem EOk.start{N:Nat}:∀ {vs:List V} {ds:List D},Reps K μ H vs ds->EOk K μ H (vs.map Option.some++List.replicate N Option.none) (ds.map Option.some++List.replicate N Option.none)
 | _,_,.nil=>by
  induction N with
  | zero=>exact .nil
  | succ n ih=>exact .no ih
 | _,_,.cons h t=>.yes h (EOk.start t)
theorem EOk.block{σ:L2.St}{env:av}(h:EOk K μ H σ env):∀ (cap:List (Option Nat)),EOk K μ H (σB cap σ) (cap.map λo=>o.bind λi=>(env[i]?).join)
 | []=>.nil
 | Option.none::r=>.no (EOk.block h r)
 | Option.some i::r=>by
  show EOk K μ H ((σ[i]?).join::σB r σ) ((env[i]?).join::_)
  cases q:(env[i]?).join with
  | none=>exact .no (EOk.block h r)
  | some d=>
   have q':env[i]?=Option.some (Option.some d):=by
    cases z:env[i]? with
    | none=>rw [z] at q;cases q
    | some y=>rw [z] at q;exact congrArg Option.some q
   obtain⟨v,h1,h2⟩:=h.get q'
   rw [h1]
   exact .yes h2 (EOk.block h r)
theorem Cv{p a:Addr}{cs fb:List Addr}(n:(⟨cs,p::fb⟩:Fp).no a):(⟨cs,fb⟩:Fp).no a:=⟨n.1,λz=>n.2 (SO _ z)⟩
theorem Rep.less{p:Addr}{cs fb:List Addr}{v:V}{d:D}(r:Rep K ⟨cs,p::fb⟩ H v d):Rep K ⟨cs,fb⟩ H v d:=r.imp (λh n=>⟨h,Cv n⟩) λh=>h
theorem Reps.less{p:Addr}{cs fb:List Addr}{v:List V}{d:List D}(r:Reps K ⟨cs,p::fb⟩ H v d):Reps K ⟨cs,fb⟩ H v d:=r.imp (λh n=>⟨h,Cv n⟩) λh=>h
theorem Cu{p:Addr}{o:HO}{cs fb:List Addr}(hp:H p=U){a:Addr}{o':HO}(h:H a=O o')(n:(⟨cs,fb⟩:Fp).no a):upd H p o a=O o'/\(⟨cs,p::fb⟩:Fp).no a:=⟨(aD (bn h hp)).trans h,n.1,λz=>(Tc.mp z).elim (bn h hp) n.2⟩
theorem Rep.more{p:Addr}{o:HO}{cs fb:List Addr}(hp:H p=U){v:V}{d:D}(r:Rep K ⟨cs,fb⟩ H v d):Rep K ⟨cs,p::fb⟩ (upd H p o) v d:=r.imp (Cu hp) λh=>h
theorem Reps.more{p:Addr}{o:HO}{cs fb:List Addr}(hp:H p=U){v:List V}{d:List D}(r:Reps K ⟨cs,fb⟩ H v d):Reps K ⟨cs,p::fb⟩ (upd H p o) v d:=r.imp (Cu hp) λh=>h
theorem Fp.no.ne{μ:Fp}{a p:Addr}(n:μ.no a)(hp:p ∈ μ.fb):a≠p:=λz=>n.2 (by rw [z];exact hp)
theorem Rep.chg{p:Addr}{o:HO}(hp:p ∈ μ.fb){v:V}{d:D}(r:Rep K μ H v d):Rep K μ (upd H p o) v d:=r.imp (λh n=>⟨(aD (n.ne hp)).trans h,n⟩) λh=>h
theorem Reps.chg{p:Addr}{o:HO}(hp:p ∈ μ.fb){v:List V}{d:List D}(r:Reps K μ H v d):Reps K μ (upd H p o) v d:=r.imp (λh n=>⟨(aD (n.ne hp)).trans h,n⟩) λh=>h
theorem EOk.more{p:Addr}{o:HO}{cs fb:List Addr}(hp:H p=U){σ:L2.St}{env:av}(h:EOk K ⟨cs,fb⟩ H σ env):EOk K ⟨cs,p::fb⟩ (upd H p o) σ env:=h.to (·.more hp)
theorem EOk.chg{p:Addr}{o:HO}(hp:p ∈ μ.fb){σ:L2.St}{env:av}(h:EOk K μ H σ env):EOk K μ (upd H p o) σ env:=h.to (·.chg hp)
theorem CellOk.upd{p a:Addr}{o:HO}{c:Cell}(μ':Fp)(hpa:a≠p)(h:CellOk K μ H a c)(f:∀ vs ds,Reps K μ H vs ds->Reps K μ' (upd H p o) vs ds):CellOk K μ' (upd H p o) a c:=by
 cases c with
 | lst ds=>obtain⟨vs,h,r⟩:=h;exact⟨vs,(aD hpa).trans h,f _ _ r⟩
 | dct ks ds=>obtain⟨vs,h,q,r⟩:=h;exact⟨vs,(aD hpa).trans h,q,f _ _ r⟩
theorem SOk.less{S:aa}{p:Addr}{cs fb:List Addr}(s:SOk K ⟨cs,p::fb⟩ S H):SOk K ⟨cs,fb⟩ S H:=
 ⟨s.nd,s.len,λr a c h1 h2=>by
  have:=s.cell r a c h1 h2
  cases c with
  | lst ds=>obtain⟨vs,h,r⟩:=this;exact⟨vs,h,r.less⟩
  | dct ks ds=>obtain⟨vs,h,q,r⟩:=this;exact⟨vs,h,q,r.less⟩,λa ha=>s.fdom a (SO _ ha),λa ha=>s.disj a (SO _ ha)⟩
theorem SOk.more{S:aa}{p:Addr}{o:HO}{cs fb:List Addr}(s:SOk K ⟨cs,fb⟩ S H)(hp:H p=U):SOk K ⟨cs,p::fb⟩ S (upd H p o):=by
 have hn:=s.notMem hp
 refine⟨s.nd,s.len,λr a c h1 h2=>(s.cell r a c h1 h2).upd _ (λz=>?_) λvs ds r=>r.more hp,λa ha=>?_,λa ha z=>?_⟩
 ·exact hn.1 (z ▸ TC h1)
 ·by_cases z:a=p
  ·subst z;rw [aC];simp
  ·rw [aD z];exact s.fdom a ((Tc.mp ha).resolve_left z)
 ·rcases Tc.mp ha with rfl | ha
  ·exact hn.1 z
  ·exact s.disj a ha z
theorem SOk.chg{S:aa}{p:Addr}{o:HO}(s:SOk K μ S H)(hp:p ∈ μ.fb):SOk K μ S (upd H p o):=by
 refine⟨s.nd,s.len,λr a c h1 h2=>(s.cell r a c h1 h2).upd _ (λz=>?_) λvs ds r=>r.chg hp,λa ha=>?_,s.disj⟩
 ·exact s.disj p hp (z ▸ TC h1)
 ·by_cases z:a=p
  ·subst z;rw [aC];simp
  ·rw [aD z];exact s.fdom a ha
end
noncomputable abbrev ME:=av->aa->Option (D×aa)
noncomputable abbrev MT:=av->aa->Option (Bool×aa)
noncomputable abbrev MA:=av->aa->Option (List D×aa)
inductive qI where
 | nx (env:av) (S:aa)
 | rt (d:D) (S:aa)
 | bk (env:av) (S:aa)
 | ct (env:av) (S:aa)
noncomputable abbrev MS:=av->aa->Option qI
noncomputable def Post(K:W.Frag)(μ:Fp)(H:Hp)(S':aa)(d:D)(Q:VK):Prop:=∀ v H' μ',Ext μ H μ' H'->SOk K μ' S' H'->Rep K μ' H' v d->Q v H'
noncomputable def PostT(K:W.Frag)(μ:Fp)(H:Hp)(S':aa)(b:Bool)(Q:Bool->Hp->Prop):Prop:=∀ H' μ',Ext μ H μ' H'->SOk K μ' S' H'->Q b H'
noncomputable def PostA(K:W.Frag)(μ:Fp)(H:Hp)(S':aa)(ds:List D)(Q:List V->Hp->Prop):Prop:=∀ vs H' μ',Ext μ H μ' H'->SOk K μ' S' H'->Reps K μ' H' vs ds->Q vs H'
noncomputable def PostN(K:W.Frag)(μ:Fp)(H:Hp)(S':aa)(env':av)(Q:L2.St->Hp->Prop):Prop:=∀ σ' H' μ',Ext μ H μ' H'->SOk K μ' S' H'->EOk K μ' H' σ' env'->Q σ' H'
noncomputable def PostS(K:W.Frag)(μ:Fp)(H:Hp)(o:qI)(E:tV):Prop:=match o with
 | .nx env' S'=>PostN K μ H S' env' E.nx
 | .rt d S'=>Post K μ H S' d E.rt
 | .bk env' S'=>PostN K μ H S' env' E.bk
 | .ct env' S'=>PostN K μ H S' env' E.ct
inductive tM(K:W.Frag)(m:ME)(σ:L2.St)(H:Hp)(Q:VK):Prop
 | mk (μ:Fp) (S:aa) (env:av) (d:D) (S':aa) (hS:SOk K μ S H) (hE:EOk K μ H σ env) (h:m env S=O (d,S')) (post:Post K μ H S' d Q)
inductive qv(K:W.Frag)(m:MT)(σ:L2.St)(H:Hp)(Q:Bool->Hp->Prop):Prop
 | mk (μ:Fp) (S:aa) (env:av) (b:Bool) (S':aa) (hS:SOk K μ S H) (hE:EOk K μ H σ env) (h:m env S=O (b,S')) (post:PostT K μ H S' b Q)
inductive tMA(K:W.Frag)(m:MA)(σ:L2.St)(H:Hp)(Q:List V->Hp->Prop):Prop
 | mk (μ:Fp) (S:aa) (env:av) (ds:List D) (S':aa) (hS:SOk K μ S H) (hE:EOk K μ H σ env) (h:m env S=O (ds,S')) (post:PostA K μ H S' ds Q)
inductive tMS(K:W.Frag)(m:MS)(E:tV)(σ:L2.St)(H:Hp):Prop
 | mk (μ:Fp) (S:aa) (env:av) (o:qI) (hS:SOk K μ S H) (hE:EOk K μ H σ env) (h:m env S=O o) (post:PostS K μ H o E)
inductive jN(K:W.Frag)(f:aa->D->D->Option D)(x y:V)(H:Hp)(Q:VK):Prop
 | mk (μ:Fp) (S:aa) (dx dy dz:D) (hS:SOk K μ S H) (h1:Rep K μ H x dx) (h2:Rep K μ H y dy) (h3:f S dx dy=O dz) (post:Post K μ H S dz Q)
inductive rM1(K:W.Frag)(f:aa->D->Option D)(x:V)(H:Hp)(Q:VK):Prop
 | mk (μ:Fp) (S:aa) (dx dz:D) (hS:SOk K μ S H) (h1:Rep K μ H x dx) (h3:f S dx=O dz) (post:Post K μ H S dz Q)
inductive DQ(K:W.Frag)(f:List D->aa->Option (D×aa))(vs:List V)(H:Hp)(Q:VK):Prop
 | mk (μ:Fp) (S:aa) (ds:List D) (d:D) (S':aa) (hS:SOk K μ S H) (h1:Reps K μ H vs ds) (h3:f ds S=O (d,S')) (post:Post K μ H S' d Q)
noncomputable def DE(X:Cx)(e:Expr)(m:ME):Prop:=PE X e (tM X.K m)
noncomputable def DT(X:Cx)(e:Expr)(m:MT):Prop:=PT X e (qv X.K m)
noncomputable def DW(X:Cx)(e:Expr)(m:MT):Prop:=PW X e (qv X.K m)
noncomputable def DA(X:Cx)(es:List Expr)(m:MA):Prop:=PA X es (tMA X.K m)
noncomputable def DS(X:Cx)(st:Stmt)(m:MS):Prop:=PS X st (tMS X.K m)
noncomputable def yi(X:Cx)(st:List Stmt)(m:MS):Prop:=PSs X st (tMS X.K m)
section
variable{X:Cx}{K:W.Frag}{μ μ':Fp}{H H':Hp}{S S':aa}
theorem Post.ext{d:D}{Q:VK}(e:Ext μ H μ' H')(p:Post K μ H S' d Q):Post K μ' H' S' d Q:=λv H2 μ2 e2 s r=>p v H2 μ2 (e.trans e2) s r
theorem Post.here{d:D}{Q:VK}{v:V}(p:Post K μ H S d Q)(s:SOk K μ S H)(r:Rep K μ H v d):Q v H:=p v H μ s.ext s r
theorem PE.imp{e:Expr}{t t':TE}(h:PE X e t)(i:∀ σ H Q,t' σ H Q->t σ H Q):PE X e t':=λpins s σ H Q I q=>h pins s σ H Q I (i σ H Q q)
theorem PT.imp{e:Expr}{t t':TT}(h:PT X e t)(i:∀ σ H Q,t' σ H Q->t σ H Q):PT X e t':=λpins s σ H Q I q=>h pins s σ H Q I (i σ H Q q)
theorem PW.imp{e:Expr}{t t':TT}(h:PW X e t)(i:∀ σ H Q,t' σ H Q->t σ H Q):PW X e t':=λw pins s σ H Q I q=>h w pins s σ H Q I (i σ H Q q)
theorem PA.imp{e:List Expr}{t t':TA}(h:PA X e t)(i:∀ σ H Q,t' σ H Q->t σ H Q):PA X e t':=λpos pins s σ H Q I q=>h pos pins s σ H Q I (i σ H Q q)
theorem PS.imp{e:Stmt}{t t':TS}(h:PS X e t)(i:∀ E σ H,t' E σ H->t E σ H):PS X e t':=λpins s σ H E I q=>h pins s σ H E I (i E σ H q)
theorem PSs.imp{e:List Stmt}{t t':TS}(h:PSs X e t)(i:∀ E σ H,t' E σ H->t E σ H):PSs X e t':=λpins s σ H E I q=>h pins s σ H E I (i E σ H q)
theorem OpR.imp{f:Value->Value->Sem Value}{r r':R2}(h:OpR X f r)(i:∀ x y H Q,r' x y H Q->r x y H Q):OpR X f r':=λpins s σ H x y v u Q I rx ry q=>h pins s σ H x y v u Q I rx ry (i x y H Q q)
theorem UnR.imp{f:Value->Sem Value}{r r':V->Hp->VK->Prop}(h:UnR X f r)(i:∀ x H Q,r' x H Q->r x H Q):UnR X f r':=λpins s σ H x v Q I rx q=>h pins s σ H x v Q I rx (i x H Q q)
theorem CallR.imp{f:Value}{r r':List V->Hp->VK->Prop}(h:CallR X f r)(i:∀ x H Q,r' x H Q->r x H Q):CallR X f r':=λpins s σ H x v Q I rx q=>h pins s σ H x v Q I rx (i x H Q q)
theorem IxR.imp{r r':R2}(h:IxR X r)(i:∀ x y H Q,r' x y H Q->r x y H Q):IxR X r':=λva sl pins s σ H x y v u Q I rx ry q=>h va sl pins s σ H x y v u Q I rx ry (i x y H Q q)
noncomputable def ae(i:Nat):ME:=λenv S=>(env[i]?).join.bind λd=>O (d,S)
noncomputable def mC(d:D):ME:=λ_ S=>O (d,S)
theorem Ex{α:Type}{o:Option (Option α)}{a:α}(h:o.join=O a):o=O (O a):=by
 cases o with
 | none=>cases h
 | some o=>exact congrArg O h
theorem RX{i:Nat}{x:Str}{pos:Pos}(hN:X.N[i]?=O x)(hv:Vis X.env.scope x)(hd:(x == ("__debug__":Str))=false:=by decide)(hcd:(x == ("__classdict__":Str))=false:=by decide):DE X (.Name x pos) (ae i):=
 PE.imp (Pr hN hv hd hcd) λσ H Q ⟨μ,S,env,d,S',hS,hE,hm,post⟩=>by
  obtain⟨d',h1,h2⟩:=SJ.mp hm
  cases h2
  obtain⟨v,e,r⟩:=hE.get (Ex h1)
  exact⟨v,e,post.here hS r⟩
theorem lA{e:Expr}{v:V}{d:D}(h:PE X e (tC v))(r:∀ μ H,Rep X.K μ H v d):DE X e (mC d):=
 PE.imp h λσ H Q ⟨μ,S,env,d',S',hS,hE,hm,post⟩=>by cases hm;exact post.here hS (r μ H)
theorem Sf{i:Int}{j pos}:DE X (.Constant (.int i) j pos) (mC (.int i)):=lA Px λ_ _=>.int i
theorem de_bl{b j pos}:DE X (.Constant (.bool b) j pos) (mC (.bl b)):=lA pe_bl λ_ _=>.bl b
theorem Sb{j pos}:DE X (.Constant .none j pos) (mC .non):=lA Pw λ_ _=>.non
theorem RZ{x j pos}:DE X (.Constant (.str x) j pos) (mC (.str x)):=lA Pt λ_ _=>.str x
structure GC(K:W.Frag)(mg:Str->Option Value)(x:Str)(d:D):Prop where
 ex:∃ u v,mg x=O u/\RelV v u/\∀ μ H,Rep K μ H v d
theorem MU{x:Str}{d:D}{pos:Pos}(g:GC X.K X.mg x d)(hg:Gl X x:=by rfl)(hd:(x == ("__debug__":Str))=false:=by decide):DE X (.Name x pos) (mC d):=by
 obtain⟨u,v,h1,h2,h3⟩:=g.ex
 exact lA (Ck hg h1 h2 hd) h3
noncomputable def ay(f:aa->D->D->Option D)(a b:ME):ME:=λenv S=>(a env S).bind λp=>(b env p.2).bind λq=>(f q.2 p.1 q.1).bind λz=>O (z,q.2)
theorem Hq{f:aa->D->D->Option D}{a b:ME}{env:av}{S S':aa}{d:D}(h:ay f a b env S=O (d,S')):∃ x S1 y,a env S=O (x,S1)/\b env S1=O (y,S')/\f S' x y=O d:=by
 obtain⟨⟨x,S1⟩,h1,h⟩:=SJ.mp h
 obtain⟨⟨y,S2⟩,h2,h⟩:=SJ.mp h
 obtain⟨z,h3,h⟩:=SJ.mp h
 cases h
 exact⟨x,S1,y,h1,h2,h3⟩
theorem rA{f:aa->D->D->Option D}{ma mb:ME}{σ:L2.St}{Q:VK}(h:tM K (ay f ma mb) σ H Q):tOp (jN K f) (tM K ma) (tM K mb) σ H Q:=by
 obtain⟨μ,S,env,d,S',hS,hE,hm,post⟩:=h
 obtain⟨x,S1,y,h1,h2,h3⟩:=Hq hm
 exact⟨μ,S,env,x,S1,hS,hE,h1,λv H1 μ1 e1 s1 r1=>⟨μ1,S1,env,y,S',s1,hE.mono e1,h2,λw H2 μ2 e2 s2 r2=>⟨μ2,S',x,y,d,s2,r1.mono e2,r2,h3,(post.ext e1).ext e2⟩⟩⟩
section
variable{a b c:Expr}{ma mb mc:ME}{pos:Pos}
theorem qo{op:Operator}{f:aa->D->D->Option D}(ho:OpR X (binaryOp op) (jN X.K f))(ha:DE X a ma)(hb:DE X b mb):DE X (.BinOp a op b pos) (ay f ma mb):=
 PE.imp (pe_op ho ha hb) λ_ _ _ h=>rA h
theorem Sh{op:CmpOp}{f:aa->D->D->Option D}(ho:OpR X (compareOp op) (jN X.K f))(ha:DE X a ma)(hb:DE X b mb)(hm:behindInMarks op b=false):DE X (.Compare a [op] [b] pos) (ay f ma mb):=
 PE.imp (Lb ho ha hb hm) λ_ _ _ h=>rA h
noncomputable def aF(m:ME):MT:=λenv S=>(m env S).bind λp=>match p.1 with | .bl k=>O (k,p.2) | _=>U
theorem sm{m:ME}{env:av}{S S':aa}{k:Bool}(h:aF m env S=O (k,S')):m env S=O (.bl k,S'):=by
 obtain⟨⟨x,S1⟩,h1,h⟩:=SJ.mp h
 cases x <;> first | (cases h;exact h1) | cases h
theorem Rep.bl_inv{v:V}{k:Bool}(h:Rep K μ H v (.bl k)):v=.bl k:=by cases h;rfl
theorem Rep.int_inv{v:V}{k:Int}(h:Rep K μ H v (.int k)):v=.int k:=by cases h;rfl
theorem Rep.str_inv{v:V}{k:Str}(h:Rep K μ H v (.str k)):v=.str k:=by cases h;rfl
theorem RO{op:CmpOp}{f:aa->D->D->Option D}(ho:OpR X (compareOp op) (jN X.K f))(ha:DE X a ma)(hb:DE X b mb)(hm:behindInMarks op b=false):DT X (.Compare a [op] [b] pos) (aF (ay f ma mb)):=
 PT.imp (KG ho ha hb hm) λσ H Q ⟨μ,S,env,k,S',hS,hE,hm,post⟩=>by
  have h:=sm hm
  refine rA ⟨μ,S,env,_,S',hS,hE,h,λv H' μ' e s r=>?_⟩
  exact⟨k,r.bl_inv,post H' μ' e s⟩
noncomputable def bU(f g:aa->D->D->Option D)(a b c:ME):ME:=λenv S=>(a env S).bind λp=>(b env p.2).bind λq=>(f q.2 p.1 q.1).bind λz=>match z with
 | .bl true=>(c env q.2).bind λr=>(g r.2 q.1 r.1).bind λz=>O (z,r.2)
 | .bl false=>O (.bl false,q.2)
 | _=>U
theorem uA{f g:aa->D->D->Option D}{σ:L2.St}{Q:VK}(h:tM K (bU f g ma mb mc) σ H Q):AH (jN K f) (jN K g) (tM K ma) (tM K mb) (tM K mc) σ H Q:=by
 obtain⟨μ,S,env,d,S',hS,hE,hm,post⟩:=h
 obtain⟨⟨x,S1⟩,h1,hm⟩:=SJ.mp hm
 obtain⟨⟨y,S2⟩,h2,hm⟩:=SJ.mp hm
 obtain⟨z,h3,hm⟩:=SJ.mp hm
 refine⟨μ,S,env,x,S1,hS,hE,h1,λv H1 μ1 e1 s1 r1=>⟨μ1,S1,env,y,S2,s1,hE.mono e1,h2,λw H2 μ2 e2 s2 r2=>⟨μ2,S2,x,y,z,s2,r1.mono e2,r2,h3,λu H3 μ3 e3 s3 r3=>?_⟩⟩⟩
 cases z with
 | bl k=>
  refine⟨k,r3.bl_inv,?_⟩
  cases k with
  | false=>cases hm;rw [Ts SZ];exact post _ H3 μ3 ((e1.trans e2).trans e3) s3 (.bl false)
  | true=>
   obtain⟨⟨t,S4⟩,h4,hm⟩:=SJ.mp hm
   obtain⟨z,h5,hm⟩:=SJ.mp hm
   cases hm
   rw [Td rfl]
   exact⟨μ3,S2,env,t,S4,s3,hE.mono ((e1.trans e2).trans e3),h4,λu' H4 μ4 e4 s4 r4=>⟨μ4,_,y,t,_,s4,(r2.mono e3).mono e4,r4,h5,post.ext (((e1.trans e2).trans e3).trans e4)⟩⟩
 | _=>cases hm
theorem JE{op op':CmpOp}{f g:aa->D->D->Option D}(ho:OpR X (compareOp op) (jN X.K f))(ho':OpR X (compareOp op') (jN X.K g))(ha:DE X a ma)(hb:DE X b mb)(hc:DE X c mc)
  (hm:lastMarks [op,op'] [b,c]=false:=by with_unfolding_all rfl):DE X (.Compare a [op,op'] [b,c] pos) (bU f g ma mb mc):=
 PE.imp (GQ ho ho' ha hb hc hm) λ_ _ _ h=>uA h
theorem Jc{op op':CmpOp}{f g:aa->D->D->Option D}(ho:OpR X (compareOp op) (jN X.K f))(ho':OpR X (compareOp op') (jN X.K g))(ha:DE X a ma)(hb:DE X b mb)(hc:DE X c mc)
  (hm:lastMarks [op,op'] [b,c]=false:=by with_unfolding_all rfl):DT X (.Compare a [op,op'] [b,c] pos) (aF (bU f g ma mb mc)):=
 PT.imp (Gz ho ho' ha hb hc hm) λσ H Q ⟨μ,S,env,k,S',hS,hE,hm,post⟩=>by
  have h:=sm hm
  refine uA ⟨μ,S,env,_,S',hS,hE,h,λv H' μ' e s r=>?_⟩
  exact⟨k,r.bl_inv,post H' μ' e s⟩
noncomputable def rq(S:aa):D->Option Bool
 | .non=>O false
 | .bl b=>O b
 | .int i=>O (i != 0)
 | .str y=>if y.length<=sizeLine then O ((y.length:Int) != 0) else U
 | .tup xs=>O (!xs.isEmpty)
 | .lst xs=>O (!xs.isEmpty)
 | .rol xs=>O (!xs.isEmpty)
 | .dct ks _=>O (!ks.isEmpty)
 | .ref r=>match S[r]? with
  | some (.lst xs)=>O (!xs.isEmpty)
  | some (.dct ks _)=>O (!ks.isEmpty)
  | none=>U
 | .txt=>U
 | .obj=>U
 | .exc _ _ _=>U
theorem Reps.isEmpty{vs:List V}{ds:List D}(r:Reps K μ H vs ds):(!ds.isEmpty) = !vs.isEmpty:=by cases r <;> rfl
theorem pU{α β:Type}(f:α->β)(l:List α):(!(l.map f).isEmpty) = !l.isEmpty:=by cases l <;> rfl
theorem qJ{x:V}{d:D}{k:Bool}(s:SOk K μ S H)(r:Rep K μ H x d)(h:rq S d=O k):FB K x H k:=by
 cases r with
 | non=>cases h;rfl
 | bl b=>cases h;rfl
 | int i=>cases h;rfl
 | str y=>
  simp only [rq] at h
  split at h
  ·rename_i hy;cases h;exact⟨hy,rfl⟩
  ·cases h
 | @tup a vs ds h' n r=>cases h;exact .inr (.inl ⟨vs,.inl (.inl h'),r.isEmpty⟩)
 | @ktup a vs ds h' r=>cases h;exact .inr (.inl ⟨vs,.inr h',r.isEmpty⟩)
 | @lst a vs ds h' n r=>cases h;exact .inl ⟨vs,.inl (.inl h'),r.isEmpty⟩
 | @rol a vs ds h' n r=>cases h;exact .inl ⟨vs,.inl h',r.isEmpty⟩
 | @krol a vs ds h' r=>cases h;exact .inl ⟨vs,.inr h',r.isEmpty⟩
 | @dct a kvs ds h' n r=>cases h;exact .inr (.inr ⟨kvs,h',pU _ _⟩)
 | txt x=>cases h
 | obj h' n=>cases h
 | exc h' n h2 n2=>cases h
 | @ref a i h'=>
  simp only [rq] at h
  cases q:S[i]? with
  | none=>rw [q] at h;cases h
  | some c=>
   rw [q] at h
   have ck:=s.cell i a c h' q
   cases c with
   | lst xs=>cases h;obtain⟨vs,e,r⟩:=ck;exact .inl ⟨vs,.inl (.inl e),r.isEmpty⟩
   | dct ks xs=>cases h;obtain⟨kvs,e,rfl,r⟩:=ck;exact .inr (.inr ⟨kvs,e,pU _ _⟩)
noncomputable def cn(m:ME):MT:=λenv S=>(m env S).bind λp=>(rq p.2 p.1).bind λk=>O (k,p.2)
theorem Ac(ha:DE X a ma)(he:∀ whole,isTrue a X.env whole=(do let v <- whole;standAt a.pos;holding [v] (truthy v)):=by intro _;rfl):DT X a (cn ma):=
 PT.imp (Gy ha he) λσ H Q ⟨μ,S,env,k,S',hS,hE,hm,post⟩=>by
  obtain⟨⟨x,S1⟩,h1,hm⟩:=SJ.mp hm
  obtain⟨k',h2,hm⟩:=SJ.mp hm
  cases hm
  exact⟨μ,S,env,x,S1,hS,hE,h1,λv H' μ' e s r=>⟨k,qJ s r h2,post H' μ' e s⟩⟩
variable{ta tb tc:MT}{rest:List Expr}
noncomputable def dG(a b:MT):MT:=λenv S=>(a env S).bind λp=>if p.1=true then b env p.2 else O (false,p.2)
noncomputable def dX(a b:MT):MT:=λenv S=>(a env S).bind λp=>if p.1=true then O (true,p.2) else b env p.2
noncomputable def bK(a:MT):MT:=λenv S=>(a env S).bind λp=>O (!p.1,p.2)
theorem Ko{σ:L2.St}{Q:Bool->Hp->Prop}(h:qv K (dG ta tb) σ H Q):tAnd (qv K ta) (qv K tb) σ H Q:=by
 obtain⟨μ,S,env,k,S',hS,hE,hm,post⟩:=h
 obtain⟨⟨x,S1⟩,h1,hm⟩:=SJ.mp hm
 refine⟨μ,S,env,x,S1,hS,hE,h1,λH1 μ1 e1 s1=>?_⟩
 cases x with
 | true=>rw [Td rfl] at hm ⊢;exact⟨μ1,S1,env,k,S',s1,hE.mono e1,hm,λH2 μ2 e2 s2=>post H2 μ2 (e1.trans e2) s2⟩
 | false=>rw [Ts SZ] at hm ⊢;cases hm;exact post H1 μ1 e1 s1
theorem OH{σ:L2.St}{Q:Bool->Hp->Prop}(h:qv K (dX ta tb) σ H Q):tOr (qv K ta) (qv K tb) σ H Q:=by
 obtain⟨μ,S,env,k,S',hS,hE,hm,post⟩:=h
 obtain⟨⟨x,S1⟩,h1,hm⟩:=SJ.mp hm
 refine⟨μ,S,env,x,S1,hS,hE,h1,λH1 μ1 e1 s1=>?_⟩
 cases x with
 | false=>rw [Ts SZ] at hm ⊢;exact⟨μ1,S1,env,k,S',s1,hE.mono e1,hm,λH2 μ2 e2 s2=>post H2 μ2 (e1.trans e2) s2⟩
 | true=>rw [Td rfl] at hm ⊢;cases hm;exact post H1 μ1 e1 s1
theorem Do(ha:DT X a ta):DW X (.BoolOp .And [a] pos) ta:=KD ha
theorem IZ(ha:DT X a ta):DW X (.BoolOp .Or [a] pos) ta:=Pc ha
theorem Ja(ha:DT X a ta)(hb:DW X (.BoolOp .And (b::rest) pos) tb):DW X (.BoolOp .And (a::b::rest) pos) (dG ta tb):=PW.imp (Pd ha hb) λ_ _ _ h=>Ko h
theorem Ol(ha:DT X a ta)(hb:DW X (.BoolOp .Or (b::rest) pos) tb):DW X (.BoolOp .Or (a::b::rest) pos) (dX ta tb):=PW.imp (pw_or ha hb) λ_ _ _ h=>OH h
theorem Mm(h:DW X a ta):DT X a ta:=PW.pt h
theorem RN(ha:DT X a ta):DT X (.UnaryOp .Not a pos) (bK ta):=PT.imp (Pe ha) λσ H Q ⟨μ,S,env,k,S',hS,hE,hm,post⟩=>by
 obtain⟨⟨x,S1⟩,h1,hm⟩:=SJ.mp hm
 cases hm
 exact⟨μ,S,env,x,S1,hS,hE,h1,λH1 μ1 e1 s1=>post H1 μ1 e1 s1⟩
noncomputable def fe(a b:ME):ME:=λenv S=>(a env S).bind λp=>match p.1 with | .bl true=>b env p.2 | .bl false=>O (.bl false,p.2) | _=>U
noncomputable def xp(a b:ME):ME:=λenv S=>(a env S).bind λp=>match p.1 with | .bl false=>b env p.2 | .bl true=>O (.bl true,p.2) | _=>U
theorem Jx{op}(h:DE X a ma):DE X (.BoolOp op [a] pos) ma:=Pv h
noncomputable def gO(a:ME):ME:=λenv S=>(a env S).bind λp=>match p.1 with | .bl k=>O (.bl (!k),p.2) | _=>U
noncomputable def nO(t:MT)(a b:ME):ME:=λenv S=>(t env S).bind λp=>if p.1=true then a env p.2 else b env p.2
theorem de_if(hc:DT X c tc)(ha:DE X a ma)(hb:DE X b mb):DE X (.IfExp c a b pos) (nO tc ma mb):=PE.imp (GO hc ha hb) λσ H Q ⟨μ,S,env,d,S',hS,hE,hm,post⟩=>by
 obtain⟨⟨x,S1⟩,h1,hm⟩:=SJ.mp hm
 refine⟨μ,S,env,x,S1,hS,hE,h1,λH1 μ1 e1 s1=>?_⟩
 cases x with
 | true=>rw [Td rfl] at hm ⊢;exact⟨μ1,S1,env,d,S',s1,hE.mono e1,hm,post.ext e1⟩
 | false=>rw [Ts SZ] at hm ⊢;exact⟨μ1,S1,env,d,S',s1,hE.mono e1,hm,post.ext e1⟩
variable{es:List Expr}{ms:MA}
noncomputable def af:MA:=λ_ S=>O ([],S)
noncomputable def ac(a:ME)(r:MA):MA:=λenv S=>(a env S).bind λp=>(r env p.2).bind λq=>O (p.1::q.1,q.2)
theorem Sk:DA X [] af:=PA.imp AY λσ H Q ⟨μ,S,env,d,S',hS,hE,hm,post⟩=>by cases hm;exact post [] H μ hS.ext hS .nil
theorem Nc(ha:DE X a ma)(hr:DA X es ms)(hs:starEach (a::es) X.env=(false,eval a X.env)::starEach es X.env:=by rfl):DA X (a::es) (ac ma ms):=PA.imp (qM ha hr hs) λσ H Q ⟨μ,S,env,ds,S',hS,hE,hm,post⟩=>by
 obtain⟨⟨x,S1⟩,h1,hm⟩:=SJ.mp hm
 obtain⟨⟨xs,S2⟩,h2,hm⟩:=SJ.mp hm
 cases hm
 exact⟨μ,S,env,x,S1,hS,hE,h1,λv H1 μ1 e1 s1 r1=>⟨μ1,S1,env,xs,S2,s1,hE.mono e1,h2,λvs H2 μ2 e2 s2 r2=>post (v::vs) H2 μ2 (e1.trans e2) s2 (.cons (r1.mono e2) r2)⟩⟩
noncomputable def bZ(ms:MA):ME:=λenv S=>(ms env S).bind λp=>if p.1.length<=sizeLine then O (.tup p.1,p.2) else U
noncomputable def cU(ms:MA):ME:=λenv S=>(ms env S).bind λp=>if p.1.length<=sizeLine then O (.lst p.1,p.2) else U
noncomputable def dm(ms:MA):ME:=λenv S=>(ms env S).bind λp=>if p.1.length<=sizeLine then O (.ref p.2.length,p.2++[.lst p.1]) else U
theorem Post.tup{vs:List V}{ds:List D}{Q:VK}{p:Addr}(post:Post K μ H S (.tup ds) Q)(s:SOk K μ S H)(hp:H p=U)(r:Reps K μ H vs ds):Q (.ref p) (upd H p (.tup vs)):=by
 obtain⟨e,s'⟩:=s.laid (o:=.tup vs) hp
 exact post _ _ _ e s' (.tup aC (s.notMem hp) (r.mono e))
theorem Post.lst{vs:List V}{ds:List D}{Q:VK}{p:Addr}(post:Post K μ H S (.lst ds) Q)(s:SOk K μ S H)(hp:H p=U)(r:Reps K μ H vs ds):Q (.ref p) (upd H p (.lst vs)):=by
 obtain⟨e,s'⟩:=s.laid (o:=.lst vs) hp
 exact post _ _ _ e s' (.lst aC (s.notMem hp) (r.mono e))
theorem Post.lstR{vs:List V}{ds:List D}{Q:VK}{p:Addr}(post:Post K μ H (S++[.lst ds]) (.ref S.length) Q)(s:SOk K μ S H)(hp:H p=U)(r:Reps K μ H vs ds):Q (.ref p) (upd H p (.lst vs)):=by
 obtain⟨e,s'⟩:=s.alloc hp r
 exact post _ _ _ e s' (.ref (by rw [<- s.len,Ub (SS _)];simp))
theorem RY{k}(h:DA X es ms):DE X (.Tuple es k pos) (bZ ms):=PE.imp (Ps h) λσ H Q ⟨μ,S,env,d,S',hS,hE,hm,post⟩=>by
 obtain⟨⟨xs,S1⟩,h1,hm⟩:=SJ.mp hm
 dsimp only at hm
 split at hm
 ·rename_i hl
  cases hm
  exact⟨μ,S,env,_,_,hS,hE,h1,λvs H1 μ1 e1 s1 r1=>⟨by rw [r1.length];exact hl,λp hp=>(post.ext e1).tup s1 hp r1⟩⟩
 ·cases hm
theorem Sd(h:DA X es ms):DE X (.List es pos) (cU ms):=PE.imp (GM h) λσ H Q ⟨μ,S,env,d,S',hS,hE,hm,post⟩=>by
 obtain⟨⟨xs,S1⟩,h1,hm⟩:=SJ.mp hm
 dsimp only at hm
 split at hm
 ·rename_i hl
  cases hm
  exact⟨μ,S,env,_,_,hS,hE,h1,λvs H1 μ1 e1 s1 r1=>⟨by rw [r1.length];exact hl,λp hp=>(post.ext e1).lst s1 hp r1⟩⟩
 ·cases hm
theorem MR(h:DA X es ms):DE X (.List es pos) (dm ms):=PE.imp (GM h) λσ H Q ⟨μ,S,env,d,S',hS,hE,hm,post⟩=>by
 obtain⟨⟨xs,S1⟩,h1,hm⟩:=SJ.mp hm
 dsimp only at hm
 split at hm
 ·rename_i hl
  cases hm
  exact⟨μ,S,env,_,_,hS,hE,h1,λvs H1 μ1 e1 s1 r1=>⟨by rw [r1.length];exact hl,λp hp=>(post.ext e1).lstR s1 hp r1⟩⟩
 ·cases hm
theorem MV:DE X (.Dict [] [] pos) (mC (.dct [] [])):=PE.imp GP λσ H Q ⟨μ,S,env,d,S',hS,hE,hm,post⟩=>by
 cases hm
 intro p hp
 obtain⟨e,s'⟩:=hS.laid (o:=.dK []) hp
 exact post _ _ _ e s' (.dct (kvs:=[]) aC (hS.notMem hp) .nil)
end
end
mutual
noncomputable def kf:D->D->Bool
 | .non,.non=>true
 | .bl a,.bl b=>a == b
 | .bl a,.int b=>(if a then 1 else 0) == b
 | .int a,.bl b=>a == (if b then 1 else 0)
 | .int a,.int b=>a == b
 | .str a,.str b=>a == b
 | .tup xs,.tup ys=>eqDs xs ys
 | .lst xs,.lst ys=>eqDs xs ys
 | _,_=>false
noncomputable def eqDs:List D->List D->Bool
 | [],[]=>true
 | x::xs,y::ys=>kf x y&&eqDs xs ys
 | _,_=>false
end
noncomputable def bP:Nat->D->Bool
 | _,.non=>true
 | _,.bl _=>true
 | _,.int _=>true
 | _,.str _=>true
 | n+1,.tup xs=>xs.all (bP n)
 | n+1,.lst xs=>xs.all (bP n)
 | _,_=>false
theorem rT:∀ {n m:Nat} {d:D},n<=m->bP n d=true->bP m d=true
 | n,m,.non,_,_=>by simp [bP]
 | n,m,.bl _,_,_=>by simp [bP]
 | n,m,.int _,_,_=>by simp [bP]
 | n,m,.str _,_,_=>by simp [bP]
 | 0,m,.tup _,_,h=>by simp [bP] at h
 | 0,m,.lst _,_,h=>by simp [bP] at h
 | n+1,m+1,.tup xs,hl,h=>by
  simp only [bP,Tj] at h ⊢
  exact λd hd=>rT (WU hl) (h d hd)
 | n+1,m+1,.lst xs,hl,h=>by
  simp only [bP,Tj] at h ⊢
  exact λd hd=>rT (WU hl) (h d hd)
 | n+1,0,.tup _,hl,_=>absurd hl (by omega)
 | n+1,0,.lst _,hl,_=>absurd hl (by omega)
 | n,m,.rol _,_,h=>by cases n <;> simp [bP] at h
 | n,m,.txt,_,h=>by cases n <;> simp [bP] at h
 | n,m,.obj,_,h=>by cases n <;> simp [bP] at h
 | n,m,.exc _ _ _,_,h=>by cases n <;> simp [bP] at h
 | n,m,.dct _ _,_,h=>by cases n <;> simp [bP] at h
 | n,m,.ref _,_,h=>by cases n <;> simp [bP] at h
theorem xX:∀ (xs ys:List D),eqDs xs ys=((List.range (min xs.length ys.length)).all (λj=>match xs[j]?,ys[j]? with | some a,O b=>kf a b | _,_=>true)&&xs.length == ys.length)
 | [],[]=>rfl
 | [],y::ys=>by simp [eqDs]
 | x::xs,[]=>by simp [eqDs]
 | x::xs,y::ys=>by
  have ih:=xX xs ys
  rw [eqDs,ih]
  have hm:min (x::xs).length (y::ys).length=min xs.length ys.length+1:=by simp only [SY];omega
  rw [hm,List.range_succ_eq_map,Ur,Xb]
  simp only [List.getElem?_cons_zero,SY,Bool.and_assoc]
  congr 1
  congr 1
  rw [UH];simp
section
variable{X:Cx}{pins:List (Addr×Obj)}{σ:L2.St}{H:Hp}{s:Shared}{μ:Fp}{A:Around}
theorem Rep.sqT{K:W.Frag}{v:V}{ds:List D}(r:Rep K μ H v (.tup ds)):∃ a vs,v=.ref a/\kS K H a vs/\Reps K μ H vs ds:=by
 cases r with
 | tup h n r=>exact⟨_,_,rfl,.inl (.inl h),r⟩
 | ktup h r=>exact⟨_,_,rfl,.inr h,r⟩
theorem Rep.sqL{K:W.Frag}{v:V}{ds:List D}(r:Rep K μ H v (.lst ds)):∃ a vs,v=.ref a/\H a=O (.lst vs)/\μ.no a/\Reps K μ H vs ds:=by
 cases r with
 | lst h n r=>exact⟨_,_,rfl,h,n,r⟩
theorem Rep.sqR{K:W.Frag}{v:V}{ds:List D}(r:Rep K μ H v (.rol ds)):∃ a vs,v=.ref a/\jk K H a vs/\Reps K μ H vs ds:=by
 cases r with
 | rol h n r=>exact⟨_,_,rfl,.inl h,r⟩
 | krol h r=>exact⟨_,_,rfl,.inr h,r⟩
theorem ntl(I:Inv X pins σ H s){a:Addr}{xs ys:List V}(h:kS X.K H a xs)(h':jk X.K H a ys):False:=by
 obtain⟨its,_,⟨o,e,c,_⟩,_⟩:=I.tuple h
 obtain⟨its',_,⟨o',n',e',c',_⟩,_⟩:=I.list h'
 rw [e] at e';cases e'
 rw [c] at c'
 exact absurd c' (by simp)
theorem Rep.non_inv{K:W.Frag}{v:V}(h:Rep K μ H v .non):v=.non:=by cases h;rfl
theorem Co{n:Nat}{xs:List D}:bP n (.rol xs)=false:=by cases n <;> rfl
theorem Cs{n:Nat}{ks:List ba}{xs:List D}:bP n (.dct ks xs)=false:=by cases n <;> rfl
theorem Cp{n:Nat}{r:Nat}:bP n (.ref r)=false:=by cases n <;> rfl
theorem Cn{n:Nat}:bP n .txt=false:=by cases n <;> rfl
theorem Cq{n:Nat}:bP n .obj=false:=by cases n <;> rfl
theorem Cr{n:Nat}{C:Addr}{fl:Str}{i:Option Int}:bP n (.exc C fl i)=false:=by cases n <;> rfl
theorem qN{n:Nat}{xs:List D}(h:bP n (.tup xs)=true):∃ m,m+1=n/\∀ x∈xs,bP m x=true:=by
 cases n with
 | zero=>cases h
 | succ n=>exact⟨n,rfl,Tj.mp h⟩
theorem qO{n:Nat}{xs:List D}(h:bP n (.lst xs)=true):∃ m,m+1=n/\∀ x∈xs,bP m x=true:=by
 cases n with
 | zero=>cases h
 | succ n=>exact⟨n,rfl,Tj.mp h⟩
inductive Fm(K:W.Frag)(μ:Fp)(H:Hp):D->V->Prop
 | non:Fm K μ H .non .non
 | bl (b:Bool):Fm K μ H (.bl b) (.bl b)
 | int (i:Int):Fm K μ H (.int i) (.int i)
 | str (x:Str):Fm K μ H (.str x) (.str x)
 | tup {xs:List D} {l:Addr} {vs:List V} (q:kS K H l vs) (r:Reps K μ H vs xs):Fm K μ H (.tup xs) (.ref l)
 | lst {xs:List D} {l:Addr} {vs:List V} (q:jk K H l vs) (r:Reps K μ H vs xs):Fm K μ H (.lst xs) (.ref l)
theorem qj{K:W.Frag}{n:Nat}{x:D}{a:V}(hx:bP n x=true)(r:Rep K μ H a x):Fm K μ H x a:=by
 cases x with
 | non=>rw [r.non_inv];exact .non
 | bl b=>rw [r.bl_inv];exact .bl b
 | int b=>rw [r.int_inv];exact .int b
 | str b=>rw [r.str_inv];exact .str b
 | tup xs=>obtain⟨l,vs,rfl,q,r⟩:=r.sqT;exact .tup q r
 | lst xs=>obtain⟨l,vs,rfl,q,_,r⟩:=r.sqL;exact .lst (.inl (.inl q)) r
 | rol _=>rw [Co] at hx;cases hx
 | dct _ _=>rw [Cs] at hx;cases hx
 | ref _=>rw [Cp] at hx;cases hx
 | txt=>rw [Cn] at hx;cases hx
 | obj=>rw [Cq] at hx;cases hx
 | exc C fl i=>rw [Cr] at hx;cases hx
theorem Reps.injN{K:W.Frag}{n:Nat}(ih:∀ {v:V} {x y:D},bP n x=true->bP n y=true->Rep K μ H v x->Rep K μ H v y->x=y):∀ {vs:List V} {xs ys:List D},(∀ x∈xs,bP n x=true)->(∀ y∈ys,bP n y=true)->Reps K μ H vs xs->Reps K μ H vs ys->xs=ys
 | _,_,_,_,_,.nil,.nil=>rfl
 | _,_,_,hx,hy,.cons h t,.cons h' t'=>by
  rw [ih (hx _ SN) (hy _ SN) h h',Reps.injN ih (λx m=>hx x (SO _ m)) (λx m=>hy x (SO _ m)) t t']
theorem zM(I:Inv X pins σ H s)(n:Nat)(ih:∀ m,m+1=n->∀ {v:V} {x y:D},bP m x=true->bP m y=true->Rep X.K μ H v x->Rep X.K μ H v y->x=y){v:V}{x y:D}(hx:bP n x=true)(hy:bP n y=true)(rx:Rep X.K μ H v x)(ry:Rep X.K μ H v y):x=y:=by
 have fy:=qj hy ry
 cases x with
 | tup xs=>
  obtain⟨a,vs,rfl,q,r⟩:=rx.sqT
  obtain⟨m,hm,ox⟩:=qN hx
  cases fy with
  | tup q' r'=>
   cases I.tuple_inj q' q
   obtain⟨m',hm',oy⟩:=qN hy
   have:m'=m:=by omega
   subst this
   rw [Reps.injN (ih m' hm) ox oy r r']
  | lst q' _=>exact(ntl I q q').elim
 | lst xs=>
  obtain⟨a,vs,rfl,q,_,r⟩:=rx.sqL
  obtain⟨m,hm,ox⟩:=qO hx
  cases y with
  | lst ys=>
   obtain⟨m',hm',oy⟩:=qO hy
   have:m'=m:=by omega
   subst this
   obtain⟨a',vs',e,q',_,r'⟩:=ry.sqL
   cases e
   rw [q] at q';cases q'
   rw [Reps.injN (ih m' hm) ox oy r r']
  | _=>cases fy <;> exact(ntl I (by assumption) (.inl (.inl q))).elim
 | non=>rw [rx.non_inv] at fy;cases fy;rfl
 | bl b=>rw [rx.bl_inv] at fy;cases fy;rfl
 | int b=>rw [rx.int_inv] at fy;cases fy;rfl
 | str b=>rw [rx.str_inv] at fy;cases fy;rfl
 | rol _=>rw [Co] at hx;cases hx
 | dct _ _=>rw [Cs] at hx;cases hx
 | ref _=>rw [Cp] at hx;cases hx
 | txt=>rw [Cn] at hx;cases hx
 | obj=>rw [Cq] at hx;cases hx
 | exc C fl i=>rw [Cr] at hx;cases hx
theorem Rep.inj(I:Inv X pins σ H s)(n:Nat):∀ {v:V} {x y:D},bP n x=true->bP n y=true->Rep X.K μ H v x->Rep X.K μ H v y->x=y:=by
 induction n with
 | zero=>exact λhx hy rx ry=>zM I 0 (λm h=>absurd h (Nat.succ_ne_zero m)) hx hy rx ry
 | succ n ih=>exact λhx hy rx ry=>zM I (n+1) (λm h=>by cases h;exact ih) hx hy rx ry
theorem om:∀ (n:Nat) (x:D),bP n x=true->kf x x=true
 | n,.non,_=>rfl
 | n,.bl _,_=>by simp [kf]
 | n,.int _,_=>by simp [kf]
 | n,.str _,_=>by simp [kf]
 | 0,.tup _,h=>by simp [bP] at h
 | 0,.lst _,h=>by simp [bP] at h
 | n+1,.tup xs,h=>by
  simp only [bP,Tj] at h
  rw [kf]
  induction xs with
  | nil=>rfl
  | cons x xs ih=>rw [eqDs,om n x (h x SN),ih λy m=>h y (SO _ m)];rfl
 | n+1,.lst xs,h=>by
  simp only [bP,Tj] at h
  rw [kf]
  induction xs with
  | nil=>rfl
  | cons x xs ih=>rw [eqDs,om n x (h x SN),ih λy m=>h y (SO _ m)];rfl
 | n,.rol _,h=>by cases n <;> simp [bP] at h
 | n,.txt,h=>by cases n <;> simp [bP] at h
 | n,.obj,h=>by cases n <;> simp [bP] at h
 | n,.exc _ _ _,h=>by cases n <;> simp [bP] at h
 | n,.dct _ _,h=>by cases n <;> simp [bP] at h
 | n,.ref _,h=>by cases n <;> simp [bP] at h
open PySem.SeqAt
theorem vo(A:Around):A.in1.units=A.units+1:=rfl
theorem vk{its its2:List Value}{vs ws:List V}{xs ys:List D}{P:Value->Value->Bool->Prop}(r1:Vals vs its)(q1:Reps X.K μ H vs xs)(r2:Vals ws its2)(q2:Reps X.K μ H ws ys)
  (h:∀ (j:Nat) (v w:V) (u u':Value) (x y:D),xs[j]?=O x->ys[j]?=O y->Rep X.K μ H v x->Rep X.K μ H w y->RelV v u->RelV w u'->P u u' (kf x y)) :
  ∀ j (h1:j<its.toArray.size) (h2:j<its2.toArray.size),P its.toArray[j] its2.toArray[j] (match xs[j]?,ys[j]? with | some a,O b=>kf a b | _,_=>true):=λj h1 h2=>by
 have l1:=r1.length
 have l2:=r2.length
 have m1:=q1.length
 have m2:=q2.length
 have h1':j<its.length:=by simpa using h1
 have h2':j<its2.length:=by simpa using h2
 have hx:xs[j]?=O xs[j]:=Tb (by omega)
 have hy:ys[j]?=O ys[j]:=Tb (by omega)
 obtain⟨v,e1,p1⟩:=q1.get hx
 obtain⟨w,e2,p2⟩:=q2.get hy
 obtain⟨u,f1,g1⟩:=r1.get e1
 obtain⟨u',f2,g2⟩:=r2.get e2
 rw [hx,hy]
 have:=h j v w u u' _ _ hx hy p1 p2 g1 g2
 have f1':its.toArray[j]=u:=by simpa [Tb h1'] using f1
 have f2':its2.toArray[j]=u':=by simpa [Tb h2'] using f2
 rw [f1',f2']
 exact this
structure SI(A:Around)(s:Shared)(u v:Value)(b:Bool):Prop where
 eq:EqAt A s u v b
 rc:RcAt A s u v b
 ne:RcNeAt A s u v (!b)
theorem Dn(I:Inv X pins σ H s)(n:Nat)(ih:∀ m,m+1=n->∀ (A:Around) {a b:V} {u v:Value} {x y:D},A.units+m<cLine->bP m x=true->bP m y=true->Rep X.K μ H a x->Rep X.K μ H b y->RelV a u->RelV b v->SI A s u v (kf x y))
  (A:Around) {a b:V} {u v:Value} {x y:D} (hn:A.units+n<cLine) (hx:bP n x=true) (hy:bP n y=true) (rx:Rep X.K μ H a x) (ry:Rep X.K μ H b y) (ra:RelV a u) (rb:RelV b v):SI A s u v (kf x y):=by
 have hu:A.units<cLine:=by omega
 cases qj hx rx with
 | non=>
  cases ra
  cases qj hy ry with
  | non=>cases rb;exact⟨EqAt.same _,RcAt.none_none,RcNeAt.none_none⟩
  | bl b=>cases rb;exact⟨EqAt.none_bool b,RcAt.none_bool b,RcNeAt.none_bool b⟩
  | int b=>obtain⟨t,rfl⟩:=rb;exact⟨EqAt.none_int b t,RcAt.none_int b t,RcNeAt.none_int b t⟩
  | str b=>obtain⟨t,rfl⟩:=rb;exact⟨EqAt.none_str b t,RcAt.none_str b t,RcNeAt.none_str b t⟩
  | tup q r=>cases rb;obtain⟨its,rv,p,_⟩:=I.tuple q;exact⟨EqAt.none_tuple p hu,RcAt.none_tuple p hu,RcNeAt.none_tuple p hu⟩
  | lst q r=>cases rb;obtain⟨its,rv,p,_⟩:=I.list q;exact⟨EqAt.none_list p.isList hu,RcAt.none_list p.isList hu,RcNeAt.none_list p.isList hu⟩
 | bl a=>
  cases ra
  cases qj hy ry with
  | non=>cases rb;exact⟨EqAt.bool_none a,RcAt.bool_none a,RcNeAt.bool_none a⟩
  | bl b=>cases rb;exact⟨EqAt.bool_bool a b,RcAt.bool_bool a b,RcNeAt.bool_bool a b⟩
  | int b=>obtain⟨t,rfl⟩:=rb;exact⟨EqAt.bool_int a b t,RcAt.bool_int a b t,RcNeAt.bool_int a b t⟩
  | str b=>obtain⟨t,rfl⟩:=rb;exact⟨EqAt.bool_str a b t,RcAt.bool_str a b t,RcNeAt.bool_str a b t⟩
  | tup q r=>cases rb;obtain⟨its,rv,p,_⟩:=I.tuple q;exact⟨EqAt.bool_tuple a p hu,RcAt.bool_tuple a p hu,RcNeAt.bool_tuple a p hu⟩
  | lst q r=>cases rb;obtain⟨its,rv,p,_⟩:=I.list q;exact⟨EqAt.bool_list a p.isList hu,RcAt.bool_list a p.isList hu,RcNeAt.bool_list a p.isList hu⟩
 | int a=>
  obtain⟨t',rfl⟩:=ra
  cases qj hy ry with
  | non=>cases rb;exact⟨EqAt.int_none a t',RcAt.int_none a t',RcNeAt.int_none a t'⟩
  | bl b=>cases rb;exact⟨EqAt.int_bool a t' b,RcAt.int_bool a t' b,RcNeAt.int_bool a t' b⟩
  | int b=>obtain⟨t,rfl⟩:=rb;exact⟨EqAt.int_int a t' b t,RcAt.int_int a t' b t,RcNeAt.int_int a t' b t⟩
  | str b=>obtain⟨t,rfl⟩:=rb;exact⟨EqAt.int_str a t' b t,RcAt.int_str a t' b t,RcNeAt.int_str a t' b t⟩
  | tup q r=>cases rb;obtain⟨its,rv,p,_⟩:=I.tuple q;exact⟨EqAt.int_tuple a t' p hu,RcAt.int_tuple a t' p hu,RcNeAt.int_tuple a t' p hu⟩
  | lst q r=>cases rb;obtain⟨its,rv,p,_⟩:=I.list q;exact⟨EqAt.int_list a t' p.isList hu,RcAt.int_list a t' p.isList hu,RcNeAt.int_list a t' p.isList hu⟩
 | str a=>
  obtain⟨t',rfl⟩:=ra
  cases qj hy ry with
  | non=>cases rb;exact⟨EqAt.str_none a t',RcAt.str_none a t',RcNeAt.str_none a t'⟩
  | bl b=>cases rb;exact⟨EqAt.str_bool a t' b,RcAt.str_bool a t' b,RcNeAt.str_bool a t' b⟩
  | int b=>obtain⟨t,rfl⟩:=rb;exact⟨EqAt.str_int a t' b t,RcAt.str_int a t' b t,RcNeAt.str_int a t' b t⟩
  | str b=>obtain⟨t,rfl⟩:=rb;exact⟨EqAt.str_str a t' b t,RcAt.str_str a t' b t,RcNeAt.str_str a t' b t⟩
  | tup q r=>cases rb;obtain⟨its,rv,p,_⟩:=I.tuple q;exact⟨EqAt.str_tuple a t' p hu,RcAt.str_tuple a t' p hu,RcNeAt.str_tuple a t' p hu⟩
  | lst q r=>cases rb;obtain⟨its,rv,p,_⟩:=I.list q;exact⟨EqAt.str_list a t' p.isList hu,RcAt.str_list a t' p.isList hu,RcNeAt.str_list a t' p.isList hu⟩
 | @tup xs l vs q r=>
  cases ra
  obtain⟨its,rv,p,_⟩:=I.tuple q
  cases qj hy ry with
  | non=>cases rb;exact⟨EqAt.tuple_none p hu,RcAt.tuple_none p hu,RcNeAt.tuple_none p hu⟩
  | bl b=>cases rb;exact⟨EqAt.tuple_bool b p hu,RcAt.tuple_bool b p hu,RcNeAt.tuple_bool b p hu⟩
  | int b=>obtain⟨t,rfl⟩:=rb;exact⟨EqAt.tuple_int b t p hu,RcAt.tuple_int b t p hu,RcNeAt.tuple_int b t p hu⟩
  | str b=>obtain⟨t,rfl⟩:=rb;exact⟨EqAt.tuple_str b t p hu,RcAt.tuple_str b t p hu,RcNeAt.tuple_str b t p hu⟩
  | @tup ys l' vs' q' r'=>
   cases rb
   obtain⟨its',rv',p',_⟩:=I.tuple q'
   obtain⟨m,hm,ox⟩:=qN hx
   obtain⟨m',hm',oy⟩:=qN hy
   have:m'=m:=by omega
   subst this
   have all:=vk (P:=λu u' b=>EqAt A.in1 s u u' b) rv r rv' r' λj v w u u' x y hx' hy' q1 q2 g1 g2=>
    (ih m' hm A.in1 (by rw [vo];omega) (ox x (TC hx')) (oy y (TC hy')) q1 q2 g1 g2).eq
   have e0:its.toArray.size=xs.length:=by rw [SQ,<- rv.length,r.length]
   have e1:its'.toArray.size=ys.length:=by rw [SQ,<- rv'.length,r'.length]
   have key:=RcAt.tuples (A:=A) (s:=s) p p' hu all
   have kne:=RcNeAt.tuples (A:=A) (s:=s) p p' hu all
   rw [e0,e1,<- xX] at key kne
   refine⟨?_,key,kne⟩
   by_cases hl:l=l'
   ·subst hl
    rw [<- Rep.inj I n hx hy rx ry,om _ _ hx]
    exact EqAt.same _
   ·exact EqAt.of_refs hl key
  | lst q' r'=>cases rb;obtain⟨its',rv',p',_⟩:=I.list q';exact⟨EqAt.tuple_list p p'.isList hu,RcAt.tuple_list p p'.isList hu,RcNeAt.tuple_list p p'.isList hu⟩
 | @lst xs l vs q r=>
  cases ra
  obtain⟨its,rv,p0,_⟩:=I.list q
  have p:=p0.isList
  cases qj hy ry with
  | non=>cases rb;exact⟨EqAt.list_none p hu,RcAt.list_none p hu,RcNeAt.list_none p hu⟩
  | bl b=>cases rb;exact⟨EqAt.list_bool b p hu,RcAt.list_bool b p hu,RcNeAt.list_bool b p hu⟩
  | int b=>obtain⟨t,rfl⟩:=rb;exact⟨EqAt.list_int b t p hu,RcAt.list_int b t p hu,RcNeAt.list_int b t p hu⟩
  | str b=>obtain⟨t,rfl⟩:=rb;exact⟨EqAt.list_str b t p hu,RcAt.list_str b t p hu,RcNeAt.list_str b t p hu⟩
  | tup q' r'=>cases rb;obtain⟨its',rv',p',_⟩:=I.tuple q';exact⟨EqAt.list_tuple p p' hu,RcAt.list_tuple p p' hu,RcNeAt.list_tuple p p' hu⟩
  | @lst ys l' vs' q' r'=>
   cases rb
   obtain⟨its',rv',p0',_⟩:=I.list q'
   have p':=p0'.isList
   obtain⟨m,hm,ox⟩:=qO hx
   obtain⟨m',hm',oy⟩:=qO hy
   have:m'=m:=by omega
   subst this
   have all:=vk (P:=λu u' b=>EqAt A.in1 s u u' b) rv r rv' r' λj v w u u' x y hx' hy' q1 q2 g1 g2=>
    (ih m' hm A.in1 (by rw [vo];omega) (ox x (TC hx')) (oy y (TC hy')) q1 q2 g1 g2).eq
   have e0:its.toArray.size=xs.length:=by rw [SQ,<- rv.length,r.length]
   have e1:its'.toArray.size=ys.length:=by rw [SQ,<- rv'.length,r'.length]
   have key:RcAt A s (.ref l) (.ref l') (eqDs xs ys)/\RcNeAt A s (.ref l) (.ref l') (!eqDs xs ys):=by
    rw [xX]
    by_cases hlen:xs.length=ys.length
    ·have k1:=RcAt.lists (A:=A) (s:=s) p p' (by rw [e0,e1,hlen]) hu all
     have k2:=RcNeAt.lists (A:=A) (s:=s) p p' (by rw [e0,e1,hlen]) hu all
     rw [e0] at k1 k2
     rw [<- hlen,Nat.min_self,Up,VF]
     exact⟨k1,k2⟩
    ·rw [show (xs.length == ys.length)=false from Vn.mpr hlen,Vv]
     exact⟨RcAt.lists_lengths (A:=A) (s:=s) p p' (by rw [e0,e1];exact WI.mpr hlen) hu,RcNeAt.lists_lengths (A:=A) (s:=s) p p' (by rw [e0,e1];exact WI.mpr hlen) hu⟩
   refine⟨?_,key.1,key.2⟩
   by_cases hl:l=l'
   ·subst hl
    rw [<- Rep.inj I n hx hy rx ry,om _ _ hx]
    exact EqAt.same _
   ·exact EqAt.of_refs hl key.1
theorem So(I:Inv X pins σ H s)(n:Nat):∀ (A:Around) {a b:V} {u v:Value} {x y:D},A.units+n<cLine->bP n x=true->bP n y=true->Rep X.K μ H a x->Rep X.K μ H b y->RelV a u->RelV b v->SI A s u v (kf x y):=by
 induction n with
 | zero=>exact λA _ _ _ _ _ _ hn hx hy rx ry ra rb=>Dn I 0 (λm h=>absurd h (Nat.succ_ne_zero m)) A hn hx hy rx ry ra rb
 | succ n ih=>exact λA _ _ _ _ _ _ hn hx hy rx ry ra rb=>Dn I (n+1) (λm h=>by cases h;exact ih) A hn hx hy rx ry ra rb
theorem eqRc(I:Inv X pins σ H s)(n:Nat)(A:Around){a b:V}{u v:Value}{x y:D}(hn:A.units+n<cLine)(hx:bP n x=true)(hy:bP n y=true)(rx:Rep X.K μ H a x)(ry:Rep X.K μ H b y)(ra:RelV a u)(rb:RelV b v) :
  EqAt A s u v (kf x y)/\RcAt A s u v (kf x y):=⟨(So I n A hn hx hy rx ry ra rb).eq,(So I n A hn hx hy rx ry ra rb).rc⟩
theorem neRc(I:Inv X pins σ H s)(n:Nat)(A:Around){a b:V}{u v:Value}{x y:D}(hn:A.units+n<cLine)(hx:bP n x=true)(hy:bP n y=true)(rx:Rep X.K μ H a x)(ry:Rep X.K μ H b y)(ra:RelV a u)(rb:RelV b v) :
  RcNeAt A s u v (!kf x y):=(So I n A hn hx hy rx ry ra rb).ne
end
section
variable{X:Cx}{pins:List (Addr×Obj)}{σ:L2.St}{H:Hp}{s:Shared}{μ:Fp}{A:Around}
end
noncomputable def fV(S:aa):D->Option (List D)
 | .tup xs=>O xs
 | .lst xs=>O xs
 | .rol xs=>O xs
 | .ref r=>match S[r]? with | some (.lst xs)=>O xs | _=>U
 | _=>U
section
variable{X:Cx}{K:W.Frag}{μ:Fp}{H:Hp}{S:aa}
theorem ip{x:V}{d:D}{ds:List D}(s:SOk K μ S H)(r:Rep K μ H x d)(h:fV S d=O ds):∃ a vs,x=.ref a/\(jk K H a vs\/kS K H a vs)/\Reps K μ H vs ds:=by
 cases r with
 | tup h' n r=>cases h;exact⟨_,_,rfl,.inr (.inl (.inl h')),r⟩
 | ktup h' r=>cases h;exact⟨_,_,rfl,.inr (.inr h'),r⟩
 | lst h' n r=>cases h;exact⟨_,_,rfl,.inl (.inl (.inl h')),r⟩
 | rol h' n r=>cases h;exact⟨_,_,rfl,.inl (.inl h'),r⟩
 | krol h' r=>cases h;exact⟨_,_,rfl,.inl (.inr h'),r⟩
 | @ref a i h'=>
  simp only [fV] at h
  cases q:S[i]? with
  | none=>rw [q] at h;cases h
  | some c=>
   rw [q] at h
   have ck:=s.cell i a c h' q
   cases c with
   | lst xs=>cases h;obtain⟨vs,e,r⟩:=ck;exact⟨_,vs,rfl,.inl (.inl (.inl e)),r⟩
   | dct ks xs=>cases h
 | _=>cases h
theorem Rep.free{n:Nat}{v:V}{d:D}(h:bP n d=true)(r:Rep K μ H v d):Rep K ⟨[],[]⟩ H v d:=
 Rep.to (P:=λd=>∃ n,bP n d=true) (λd ⟨n,h⟩ x hx=>by
  cases n with
  | zero=>cases d <;> first | (cases hx;done) | (simp [bP] at h;done)
  | succ n=>cases d <;> first | (cases hx;done) | exact⟨n,Tj.mp h x hx⟩ | (simp [bP] at h;done)) (λh _=>⟨h,by simp,by simp⟩) (λ⟨n,h⟩=>by cases n <;> simp [bP] at h) r ⟨n,h⟩
theorem Reps.free{n:Nat}{vs:List V}{ds:List D}(h:ds.all (bP n)=true)(r:Reps K μ H vs ds):Reps K ⟨[],[]⟩ H vs ds:=Reps.to (P:=λd=>bP n d=true) (λr h=>Rep.free h r) r (Tj.mp h)
noncomputable def lR(S:aa):D->D
 | .ref r=>match S[r]? with | some (.lst xs)=>.lst xs | _=>.ref r
 | d=>d
theorem qV{n:Nat}{d:D}(h:bP n d=true):lR S d=d:=by
 cases d <;> first | rfl | (cases n <;> simp [bP] at h)
theorem oq{n:Nat}{v:V}{d:D}(s:SOk K μ S H)(r:Rep K μ H v d)(h:bP n (lR S d)=true):Rep K ⟨[],[]⟩ H v (lR S d):=by
 by_cases hd:lR S d=d
 ·rw [hd] at h ⊢;exact Rep.free h r
 ·cases r with
  | @ref a i h'=>
   cases q:S[i]? with
   | none=>exact absurd (by simp only [lR,q]) hd
   | some c=>
    cases c with
    | dct ks vs=>exact absurd (by simp only [lR,q]) hd
    | lst xs=>
     have e:lR S (.ref i)=.lst xs:=by simp only [lR,q]
     rw [e] at h ⊢
     obtain⟨vs,e,r⟩:=s.cell i a _ h' q
     cases n with
     | zero=>simp [bP] at h
     | succ n=>exact .lst e ⟨by simp,by simp⟩ (Reps.free (n:=n) h r)
  | _=>exact absurd rfl hd
noncomputable def iP(S:aa)(x y:D):Option D:=if bP 40 (lR S x)=true/\bP 40 (lR S y)=true then O (.bl (kf (lR S x) (lR S y))) else U
noncomputable def qk(S:aa)(x y:D):Option D:=if bP 40 (lR S x)=true/\bP 40 (lR S y)=true then O (.bl (!kf (lR S x) (lR S y))) else U
theorem op_Eq(hu:X.A.units+64<cLine):OpR X (compareOp .Eq) (jN X.K iP):=by
 intro pins s σ H x y v u Q I rx ry h
 obtain⟨μ,S,dx,dy,dz,hS,h1,h2,h3,post⟩:=h
 simp only [iP] at h3
 split at h3
 ·rename_i hk
  cases h3
  exact(eqRc I 40 X.A (by omega) hk.1 hk.2 (oq hS h1 hk.1) (oq hS h2 hk.2) rx ry).2 X.prog X.w X.xe _ ⟨.bl _,H,I,rfl,post.here hS (.bl _)⟩
 ·cases h3
theorem op_Ne(hu:X.A.units+64<cLine):OpR X (compareOp .NotEq) (jN X.K qk):=by
 intro pins s σ H x y v u Q I rx ry h
 obtain⟨μ,S,dx,dy,dz,hS,h1,h2,h3,post⟩:=h
 simp only [qk] at h3
 split at h3
 ·rename_i hk
  cases h3
  exact neRc I 40 X.A (by omega) hk.1 hk.2 (oq hS h1 hk.1) (oq hS h2 hk.2) rx ry X.prog X.w X.xe _ ⟨.bl _,H,I,rfl,post.here hS (.bl _)⟩
 ·cases h3
open Classical in
noncomputable def gq(K:W.Frag)(μ:Fp)(H:Hp)(x:D)(u:Value):Bool:=decide (∃ v d,RelV v u/\Rep K μ H v d/\bP 39 d=true/\kf d x=true)
open Classical in
theorem tm{pins:List (Addr×Obj)}{σ:L2.St}{s:Shared}(I:Inv X pins σ H s){x d:D}{v:V}{u:Value}(rv:RelV v u)(r:Rep X.K μ H v d)(ok:bP 39 d=true):gq X.K μ H x u=kf d x:=by
 unfold gq
 cases e:kf d x with
 | true=>exact decide_eq_true ⟨v,d,rv,r,ok,e⟩
 | false=>
  refine Tw ?_
  rintro⟨v',d',rv',r',ok',e'⟩
  cases rv.inj rv'
  rw [Rep.inj I 39 ok ok' r r'] at e
  rw [e] at e';cases e'
theorem jH{pins:List (Addr×Obj)}{σ:L2.St}{s:Shared}(I:Inv X pins σ H s){x:D}:∀ {vs:List V} {us:List Value} {ds:List D},Vals vs us->Reps X.K μ H vs ds->(∀ d∈ds,bP 39 d=true) ->
  us.any (gq X.K μ H x)=ds.any λd=>kf d x
 | _,_,_,.nil,.nil,_=>rfl
 | _,_,_,.cons rv tv,.cons r t,ok=>by
  rw [UO,UO,tm I rv r (ok _ SN),jH I tv t λd m=>ok d (SO _ m)]
theorem iB{pins:List (Addr×Obj)}{σ:L2.St}{s:Shared}(I:Inv X pins σ H s){A:Around}(hu:A.units+40<cLine){x:D}{v:V}{u:Value}(rx:RelV v u)(rD:Rep X.K μ H v x)(okx:bP 40 x=true) :
  ∀ {vs:List V} {us:List Value} {ds:List D},Vals vs us->Reps X.K μ H vs ds->(∀ d∈ds,bP 39 d=true)->∀ w∈us,SeqAt.EqAt A s w u (gq X.K μ H x w)
 | _,_,_,.nil,.nil,_=>λw hw=>by cases hw
 | _,_,_,.cons rv tv,.cons r t,ok=>λw hw=>by
  rcases Tc.mp hw with rfl | hw
  ·rw [tm I rv r (ok _ SN)]
   exact(eqRc I 40 A hu (rT (by decide) (ok _ SN)) okx r rD rv rx).1
  ·exact iB I hu rx rD okx tv t (λd m=>ok d (SO _ m)) w hw
noncomputable def EH(S:aa)(x y:D):Option D:=(fV S y).bind λds=>if bP 40 x=true/\ds.all (bP 39)=true then O (.bl (ds.any λd=>kf d x)) else U
noncomputable def mT(S:aa)(x y:D):Option D:=(fV S y).bind λds=>if bP 40 x=true/\ds.all (bP 39)=true then O (.bl (!ds.any λd=>kf d x)) else U
theorem op_In(hu:X.A.units+64<cLine):OpR X (compareOp .In) (jN X.K EH):=by
 intro pins s σ H x y v u Q I rx ry h
 obtain⟨μ,S,dx,dy,dz,hS,h1,h2,h3,post⟩:=h
 obtain⟨ds,e,h3⟩:=SJ.mp h3
 split at h3
 ·rename_i hk
  cases h3
  obtain⟨a,vs,rfl,hq,r⟩:=ip hS h2 e
  cases ry
  have ok:=Tj.mp hk.2
  rcases hq with hq | hq
  ·obtain⟨its,rv,pl,hz⟩:=I.list hq
   refine SeqAt.in_listAt (gq X.K μ H dx) pl.isList (λw hw=>iB I (by show X.A.units+1+40<cLine;omega) rx h1 hk.1 rv r ok w (by simpa using hw)) ⟨.bl _,H,I,rfl,?_⟩
   rw [show its.toArray.any (gq X.K μ H dx)=its.any (gq X.K μ H dx) by simp,jH I rv r ok]
   exact post.here hS (.bl _)
  ·obtain⟨its,rv,pl,hz⟩:=I.tuple hq
   refine SeqAt.in_tupleAt (gq X.K μ H dx) pl (λw hw=>iB I (by show X.A.units+1+40<cLine;omega) rx h1 hk.1 rv r ok w (by simpa using hw)) ⟨.bl _,H,I,rfl,?_⟩
   rw [show its.toArray.any (gq X.K μ H dx)=its.any (gq X.K μ H dx) by simp,jH I rv r ok]
   exact post.here hS (.bl _)
 ·cases h3
theorem GW(hu:X.A.units+64<cLine):OpR X (compareOp .NotIn) (jN X.K mT):=by
 intro pins s σ H x y v u Q I rx ry h
 obtain⟨μ,S,dx,dy,dz,hS,h1,h2,h3,post⟩:=h
 obtain⟨ds,e,h3⟩:=SJ.mp h3
 split at h3
 ·rename_i hk
  cases h3
  obtain⟨a,vs,rfl,hq,r⟩:=ip hS h2 e
  cases ry
  have ok:=Tj.mp hk.2
  rcases hq with hq | hq
  ·obtain⟨its,rv,pl,hz⟩:=I.list hq
   refine SeqAt.notIn_listAt (gq X.K μ H dx) pl.isList (λw hw=>iB I (by show X.A.units+1+40<cLine;omega) rx h1 hk.1 rv r ok w (by simpa using hw)) ⟨.bl _,H,I,rfl,?_⟩
   rw [show its.toArray.any (gq X.K μ H dx)=its.any (gq X.K μ H dx) by simp,jH I rv r ok]
   exact post.here hS (.bl _)
  ·obtain⟨its,rv,pl,hz⟩:=I.tuple hq
   refine SeqAt.notIn_tupleAt (gq X.K μ H dx) pl (λw hw=>iB I (by show X.A.units+1+40<cLine;omega) rx h1 hk.1 rv r ok w (by simpa using hw)) ⟨.bl _,H,I,rfl,?_⟩
   rw [show its.toArray.any (gq X.K μ H dx)=its.any (gq X.K μ H dx) by simp,jH I rv r ok]
   exact post.here hS (.bl _)
 ·cases h3
noncomputable def qE:D->D->Bool
 | .non,.non=>true
 | .bl a,.bl b=>a == b
 | _,_=>false
noncomputable def Ka(S:aa)(x y:D):Option D:=match y with | .non=>O (.bl (qE x y)) | .bl _=>O (.bl (qE x y)) | _=>U
noncomputable def ig(S:aa)(x y:D):Option D:=match y with | .non=>O (.bl (!qE x y)) | .bl _=>O (.bl (!qE x y)) | _=>U
theorem Ig{x y:V}{dx dy:D}{v u:Value}(h1:Rep K μ H x dx)(h2:Rep K μ H y dy)(rx:RelV x v)(ry:RelV y u)(hy:dy=.non\/∃ b,dy=.bl b):plainIs v u=true/\(v == u)=qE dx dy:=by
 rcases hy with rfl | ⟨b,rfl⟩
 ·cases h2;cases ry
  cases h1 <;> first | (cases rx;exact⟨rfl,rfl⟩) | (obtain⟨t,rfl⟩:=rx;exact⟨rfl,rfl⟩)
 ·cases h2;cases ry
  cases h1 <;> first | (cases rx;exact⟨rfl,rfl⟩) | (obtain⟨t,rfl⟩:=rx;exact⟨rfl,rfl⟩) | (cases rx;rename_i c;refine⟨rfl,?_⟩;cases b <;> cases c <;> rfl)
theorem op_Is:OpR X (compareOp .Is) (jN X.K Ka):=by
 intro pins s σ H x y v u Q I rx ry h
 obtain⟨μ,S,dx,dy,dz,hS,h1,h2,h3,post⟩:=h
 have hy:(dy=.non\/∃ b,dy=.bl b)/\dz=.bl (qE dx dy):=by
  cases dy <;> first | (cases h3;exact⟨.inl rfl,rfl⟩) | (cases h3;exact⟨.inr ⟨_,rfl⟩,rfl⟩) | cases h3
 obtain⟨p,e⟩:=Ig h1 h2 rx ry hy.1
 cases hy.2
 exact wpAny_is_plain p ⟨.bl _,H,I,congrArg Value.bool e,post.here hS (.bl _)⟩
theorem GX:OpR X (compareOp .IsNot) (jN X.K ig):=by
 intro pins s σ H x y v u Q I rx ry h
 obtain⟨μ,S,dx,dy,dz,hS,h1,h2,h3,post⟩:=h
 have hy:(dy=.non\/∃ b,dy=.bl b)/\dz=.bl (!qE dx dy):=by
  cases dy <;> first | (cases h3;exact⟨.inl rfl,rfl⟩) | (cases h3;exact⟨.inr ⟨_,rfl⟩,rfl⟩) | cases h3
 obtain⟨p,e⟩:=Ig h1 h2 rx ry hy.1
 cases hy.2
 exact wpAny_isNot_plain p ⟨.bl _,H,I,congrArg (λb=>Value.bool (!b)) e,post.here hS (.bl _)⟩
end
end M
namespace HT
section
variable{prog:Program}{w:World}{A:Around}{E:Value->Shared->Prop}{s:Shared}
theorem Ng{t b:Addr}{ws:List Value}{Q:Value->Shared->Prop}(ht:IsTup s.heap t #[])(hb:IsTup s.heap b ws.toArray)(h:Q (.ref b) s):wpAny (model prog w) A (binaryOp .Add (.ref t) (.ref b)) Q E s:=by
 obtain⟨⟨cls,dd,data,sl⟩,ho,hc,n,hd⟩:=id ht
 obtain⟨⟨cls2,dd2,data2,sl2⟩,ho2,hc2,n2,hd2⟩:=id hb
 simp only at hc hd hc2 hd2
 subst hc hd hc2 hd2
 exact Xa ⟨_,ho,rfl⟩ ⟨_,ho2,rfl⟩ Wm WM Wq Wh (VZ _ _)
   (tuple_addW0 t b #[] ws.toArray n n2 dd dd2 sl sl2 rfl) ⟨ho,ho2,h⟩
theorem lQ{t sl:Addr}{items:Array Value}{vl vu:Value}{lo hi:Option Int}{Q:Value->Shared->Prop}(ht:IsTup s.heap t items)(hs:s.heap.IsSliceOf sl vl vu .none)(pl:IsPart vl lo)(pu:IsPart vu hi)
  (hw:eR items.size 0 lo=0/\eR items.size items.size hi=items.size) (h:Q (.ref t) s):wpAny (model prog w) A (getItem (.ref t) (.ref sl)) Q E s:=by
 obtain⟨os,hos,hcs,hds⟩:=id hs
 have hTs:s.TypeIs (.ref sl) "slice":=⟨os,hos,hcs⟩
 unfold getItem
 try with_reducible refine Tu ?_
 first | refine SK (SU ?_) | skip
 refine SK (wpAny_sequenceKey ht.typeIs (by decide) ?_)
 refine SK (Ua (name:=Str.ofString "__getitem__") ht.typeIs Uw
  (UB Uw ht.typeIs Xj ?_ (Xp _ _)))
 show wpAny _ _ (Builtin.Tuple.tupleItemsOf (.ref t) >>= _) _ _ s
 refine SK (tupleItemsOf_ ht ?_)
 refine SK (WX hTs ?_)
 rw [Td (by decide)]
 refine SK (jo hs pl pu ?_)
 have hyes:(((eR items.size 0 lo:Nat):Int) == 0&&(1:Int) == 1&&(eR items.size items.size hi - eR items.size 0 lo) == items.size)=true:=by
  rw [hw.1,hw.2];simp
 show wpAny _ _ (if (((eR items.size 0 lo:Nat):Int) == 0&&(1:Int) == 1&&(eR items.size items.size hi - eR items.size 0 lo) == items.size)=true then _ else _) _ _ s
 rw [Td hyes]
 unfold Builtin.Tuple.tupleIsExact
 refine SK (SK (WX ht.typeIs (SU ?_)))
 rw [Td (by decide)]
 exact SK (Vl (SK (SU (SU ⟨_,rfl,SU h⟩))))
end
end HT
namespace M
open L2
section
variable{X:Cx}{K:W.Frag}{μ μ':Fp}{H H':Hp}{S:aa}
noncomputable def EF(g:Int->Int->D)(S:aa)(x y:D):Option D:=match x,y with | .int i,.int j=>O (g i j) | _,_=>U
noncomputable def Aa(C:Int->Int->Bool)(g:Int->Int->D)(S:aa)(x y:D):Option D:=match x,y with | .int i,.int j=>if C i j=true then O (g i j) else U | _,_=>U
theorem nv{f:Value->Value->Sem Value}{g:Int->Int->V}{g':Int->Int->D}(h:OpR X f (KA g))(hg:∀ i j μ H,Rep X.K μ H (g i j) (g' i j)):OpR X f (jN X.K (EF g')):=
 OpR.imp h λx y H Q ⟨μ,S,dx,dy,dz,hS,h1,h2,h3,post⟩=>by
  cases dx <;> cases dy <;> first | cases h3 | skip
  exact⟨_,_,h1.int_inv,h2.int_inv,post.here hS (hg _ _ _ _)⟩
theorem wI{f:Value->Value->Sem Value}{C:Int->Int->Prop}{C':Int->Int->Bool}{g:Int->Int->V}{g':Int->Int->D}(h:OpR X f (rI C g))(hC:∀ i j,C' i j=true->C i j)(hg:∀ i j μ H,Rep X.K μ H (g i j) (g' i j)):OpR X f (jN X.K (Aa C' g')):=
 OpR.imp h λx y H Q ⟨μ,S,dx,dy,dz,hS,h1,h2,h3,post⟩=>by
  cases dx <;> cases dy <;> first | cases h3 | skip
  simp only [Aa] at h3
  split at h3
  ·rename_i hc
   cases h3
   exact⟨_,_,h1.int_inv,h2.int_inv,hC _ _ hc,post.here hS (hg _ _ _ _)⟩
  ·cases h3
noncomputable def Iv:=EF λi j=>.int (i - j)
noncomputable def fLt:=EF λi j=>.bl (decide (i<j))
noncomputable def LY:=EF λi j=>.bl (decide (i<=j))
noncomputable def Kb:=EF λi j=>.bl (decide (j<i))
noncomputable def fGe:=EF λi j=>.bl (decide (j<=i))
theorem PQ:OpR X (binaryOp .Sub) (jN X.K Iv):=nv PJ λ_ _ _ _=>.int _
theorem op_Lt:OpR X (compareOp .Lt) (jN X.K fLt):=nv op_lt λ_ _ _ _=>.bl _
theorem op_Le:OpR X (compareOp .LtE) (jN X.K LY):=nv op_le λ_ _ _ _=>.bl _
theorem op_Gt:OpR X (compareOp .Gt) (jN X.K Kb):=nv op_gt λ_ _ _ _=>.bl _
theorem op_Ge:OpR X (compareOp .GtE) (jN X.K fGe):=nv op_ge λ_ _ _ _=>.bl _
noncomputable def ke:=Aa (λ_ j=>decide (0<j)) λi j=>.int (i % j)
noncomputable def EI:=Aa (λ_ j=>decide (0<j)&&decide (j<1073741824)) λi j=>.int (i / j)
noncomputable def ug:=Aa (λi j=>decide (0<=j)&&decide (j<=1000000)&&decide (i.natAbs<2 ^ 64)) λi j=>.int (i ^ j.toNat)
theorem PV:OpR X (binaryOp .Mod) (jN X.K ke):=wI PM (λ_ _ h=>Vd h) λ_ _ _ _=>.int _
theorem PY:OpR X (binaryOp .FloorDiv) (jN X.K EI):=wI Lk (λ_ _ h=>by simpa [CDiv] using h) λ_ _ _ _=>.int _
theorem PR:OpR X (binaryOp .Pow) (jN X.K ug):=wI PL (λi j h=>by
 simp only [SM,TU] at h
 exact⟨h.1.1,h.1.2,h.2⟩) λ_ _ _ _=>.int _
noncomputable def nE(i j:Int):Bool:=decide (i.natAbs<18446744073709551616)||decide (j.natAbs<18446744073709551616)||(decide (i.natAbs<2 ^ 4000)&&decide (j.natAbs<2 ^ 4000))
theorem Lv{i j:Int}(h:nE i j=true):IntMulOk i j:=by
 unfold nE at h
 simp only [VR,SM,TU] at h
 rcases h with (h | h) | h
 ·exact .of_left (WH (k:=64) (by omega))
 ·exact .of_right (WH (k:=64) (by omega))
 ·exact .of_bits (Th (WH (k:=4000) h.1) (by decide)) (Th (WH (k:=4000) h.2) (by decide))
theorem Lj:OpR X (binaryOp .Mult) (rI (λi j=>nE i j=true) λi j=>.int (i * j)):=opI λ_ _ _ _ _ _ _ hc q=>mul_int q (Lv hc)
noncomputable def RF(S:aa)(x y:D):Option D:=match x,y with
 | .int i,.int j=>if nE i j=true then O (.int (i * j)) else U
 | _,_=>U
theorem PU:OpR X (binaryOp .Mult) (jN X.K RF):=OpR.imp Lj λx y H Q ⟨μ,S,dx,dy,dz,hS,h1,h2,h3,post⟩=>by
 cases dx <;> cases dy <;> first | cases h3 | skip
 simp only [RF] at h3
 split at h3
 ·rename_i hc
  cases h3
  exact⟨_,_,h1.int_inv,h2.int_inv,hc,post.here hS (.int _)⟩
 ·cases h3
noncomputable def IC(S:aa)(x y:D):Option D:=match x,y with
 | .int i,.int j=>O (.int (i+j))
 | .str i,.str j=>if i.length+j.length<=sizeLine then O (.str (i++j)) else U
 | .tup xs,.tup ys=>if xs.length+ys.length<=sizeLine then O (.tup (xs++ys)) else U
 | .lst xs,.lst ys=>if xs.length+ys.length<=sizeLine then O (.lst (xs++ys)) else U
 | _,_=>U
theorem PZ:OpR X (binaryOp .Add) (jN X.K IC):=by
 intro pins s σ H x y v u Q I rx ry h
 obtain⟨μ,S,dx,dy,dz,hS,h1,h2,h3,post⟩:=h
 cases dx <;> cases dy <;> first | cases h3 | skip
 case int.int i j=>exact PP pins s σ H x y v u Q I rx ry ⟨_,_,h1.int_inv,h2.int_inv,post.here hS (.int _)⟩
 case str.str i j=>
  simp only [IC] at h3
  split at h3
  ·rename_i hl;cases h3
   exact AZ pins s σ H x y v u Q I rx ry ⟨_,_,h1.str_inv,h2.str_inv,hl,post.here hS (.str _)⟩
  ·cases h3
 case tup.tup xs ys=>
  simp only [IC] at h3
  split at h3
  ·rename_i hl;cases h3
   have h2':=h2
   have h1':=h1
   obtain⟨a,vs,rfl,q1,r1⟩:=h1.sqT
   obtain⟨b,ws,rfl,q2,r2⟩:=h2.sqT
   have e1:=r1.length
   have e2:=r2.length
   by_cases hv:vs=[]
   ·subst hv
    have hx:xs=[]:=Vk (by simpa using e1.symm)
    subst hx
    cases rx;cases ry
    obtain⟨its,rv,p1,_⟩:=I.tuple q1
    obtain⟨its2,rv2,p2,_⟩:=I.tuple q2
    have:its=[]:=rv.nil_iff.mpr rfl
    subst this
    exact HT.Ng p1 p2 ⟨.ref b,H,I,rfl,post.here hS h2'⟩
   ·refine Ll pins s σ H _ _ v u Q I rx ry ⟨a,b,vs,ws,rfl,rfl,q1,q2,hv,by omega,λhw=>?_,λhw p hp=>post.tup hS hp (r1.append r2)⟩
    subst hw
    have hy:ys=[]:=Vk (by simpa using e2.symm)
    subst hy
    rw [Tx] at post
    exact post.here hS h1'
  ·cases h3
 case lst.lst xs ys=>
  simp only [IC] at h3
  split at h3
  ·rename_i hl;cases h3
   obtain⟨a,vs,rfl,q1,n1,r1⟩:=h1.sqL
   obtain⟨b,ws,rfl,q2,n2,r2⟩:=h2.sqL
   have e1:=r1.length
   have e2:=r2.length
   exact GV pins s σ H _ _ v u Q I rx ry ⟨a,b,vs,ws,rfl,rfl,q1,q2,by omega,λp hp=>post.lst hS hp (r1.append r2)⟩
  ·cases h3
theorem Oz:UnR X (unaryOp .USub) (rM1 X.K λ_ x=>match x with | .int i=>O (.int (-i)) | _=>U):=UnR.imp Oy λx H Q ⟨μ,S,dx,dz,hS,h1,h3,post⟩=>by
 cases dx <;> first | cases h3 | skip
 exact⟨_,h1.int_inv,post.here hS (.int _)⟩
noncomputable def xm(f:aa->D->Option D)(a:ME):ME:=λenv S=>(a env S).bind λp=>(f p.2 p.1).bind λz=>O (z,p.2)
theorem de_un{a:Expr}{ma:ME}{pos:Pos}{op:UnaryOp}{f:aa->D->Option D}(ho:UnR X (unaryOp op) (rM1 X.K f))(ha:DE X a ma):DE X (.UnaryOp op a pos) (xm f ma):=
 PE.imp (pe_un ho ha) λσ H Q ⟨μ,S,env,d,S',hS,hE,hm,post⟩=>by
  obtain⟨⟨x,S1⟩,h1,hm⟩:=SJ.mp hm
  obtain⟨z,h2,hm⟩:=SJ.mp hm
  cases hm
  exact⟨μ,S,env,x,_,hS,hE,h1,λv H1 μ1 e1 s1 r1=>⟨μ1,_,x,_,s1,r1,h2,post.ext e1⟩⟩
theorem Nj{vs:List V}{ds:List D}{i:Int}{d:D}(r:Reps K μ H vs ds)(h:lD ds i=O d):∃ v,lD vs i=O v/\Rep K μ H v d:=by
 unfold lD at h ⊢
 rw [r.length]
 obtain⟨j,h1,h2⟩:=SJ.mp h
 obtain⟨v,h3,h4⟩:=r.get h2
 exact⟨v,by rw [h1];exact h3,h4⟩
noncomputable def fIx(S:aa)(x y:D):Option D:=match y with | .int i=>(fV S x).bind λxs=>lD xs i | _=>U
theorem ix_D:IxR X (jN X.K fIx):=IxR.imp (ix_list.or Ri) λx y H Q ⟨μ,S,dx,dy,dz,hS,h1,h2,h3,post⟩=>by
 cases dy <;> first | cases h3 | skip
 rename_i i
 obtain⟨xs,e,h3⟩:=SJ.mp h3
 obtain⟨a,vs,rfl,hq,r⟩:=ip hS h1 e
 obtain⟨v,h4,h5⟩:=Nj r h3
 rcases hq with hq | hq
 ·exact .inl ⟨a,vs,i,v,rfl,h2.int_inv,hq,h4,post.here hS h5⟩
 ·exact .inr ⟨a,vs,i,v,rfl,h2.int_inv,hq,h4,post.here hS h5⟩
noncomputable def lT{α:Type}(xs:List α)(lo hi:Option Int):List α:=(xs.drop (HT.eR xs.length 0 lo)).take (HT.eR xs.length xs.length hi - HT.eR xs.length 0 lo)
noncomputable abbrev MO:=av->aa->Option (Option Int×aa)
noncomputable def cZ:MO:=λ_ S=>O (U,S)
noncomputable def eY(m:ME):MO:=λenv S=>(m env S).bind λp=>match p.1 with | .int i=>O (O i,p.2) | _=>U
inductive tMO(K:W.Frag)(m:MO)(σ:L2.St)(H:Hp)(Q:Option Int->Hp->Prop):Prop
 | mk (μ:Fp) (S:aa) (env:av) (o:Option Int) (S':aa) (hS:SOk K μ S H) (hE:EOk K μ H σ env) (h:m env S=O (o,S')) (post:∀ H' μ',Ext μ H μ' H'->SOk K μ' S' H'->Q o H')
noncomputable def DO(X:Cx)(e:Option Expr)(m:MO):Prop:=PO X e (tMO X.K m)
theorem PO.imp{e:Option Expr}{t t':TO}(h:PO X e t)(i:∀ σ H Q,t' σ H Q->t σ H Q):PO X e t':=λpins s σ H Q I q=>h pins s σ H Q I (i σ H Q q)
theorem Mw:DO X U cZ:=PO.imp KP λσ H Q ⟨μ,S,env,d,S',hS,hE,hm,post⟩=>by cases hm;exact post H μ hS.ext hS
theorem Mv{e:Expr}{m:ME}(h:DE X e m):DO X (O e) (eY m):=PO.imp (KO h) λσ H Q ⟨μ,S,env,d,S',hS,hE,hm,post⟩=>by
 obtain⟨⟨x,S1⟩,h1,hm⟩:=SJ.mp hm
 cases x <;> first | cases hm | skip
 exact⟨μ,S,env,_,_,hS,hE,h1,λv H1 μ1 e1 s1 r1=>⟨_,r1.int_inv,post H1 μ1 e1 s1⟩⟩
noncomputable def cY(a:ME)(lo hi:MO):ME:=λenv S=>(a env S).bind λp=>(lo env p.2).bind λl=>(hi env l.2).bind λh=>match p.1 with
 | .tup xs=>O (.tup (lT xs l.1 h.1),h.2)
 | .lst xs=>O (.lst (lT xs l.1 h.1),h.2)
 | .rol xs=>O (.lst (lT xs l.1 h.1),h.2)
 | .ref r=>match h.2[r]? with | some (.lst xs)=>O (.lst (lT xs l.1 h.1),h.2) | _=>U
 | _=>U
theorem qW{vs:List V}{ds:List D}{lo hi:Option Int}(r:Reps K μ H vs ds):Reps K μ H (Al vs lo hi) (lT ds lo hi):=by
 unfold Al lT
 rw [r.length]
 exact(r.drop _).take _
theorem Kq:SlR X (λx lo hi H Q=>∃ a xs,x=.ref a/\kS X.K H a xs/\(HT.eR xs.length 0 lo=0/\HT.eR xs.length xs.length hi=xs.length)/\Q (.ref a) H):=by
 intro pins s σ H x v vl vu lo hi sl Q I rx hs pl pu h
 obtain⟨a,xs,rfl,hx,hw,q⟩:=h
 cases rx
 obtain⟨its,r,ht,hz⟩:=I.tuple hx
 have hlen:its.toArray.size=xs.length:=by rw [SQ];exact r.length.symm
 refine⟨"tuple",_,PyProof.Rows.slot_tuple_getitem.lookup,ht.typeIs,?_⟩
 exact HT.lQ ht hs pl pu (by rw [hlen];exact hw) ⟨.ref a,H,I,rfl,q⟩
theorem Jv{a:Expr}{lo hi:Option Expr}{ma:ME}{ml mh:MO}{pos p2:Pos}(ha:DE X a ma)(hl:DO X lo ml)(hh:DO X hi mh):DE X (.Subscript a (.Slice lo hi U p2) pos) (cY ma ml mh):=
 PE.imp (GL (SlR.or Kq (SlR.or OO Kr)) ha hl hh) λσ H Q ⟨μ,S,env,d,S',hS,hE,hm,post⟩=>by
  obtain⟨⟨x,S1⟩,h1,hm⟩:=SJ.mp hm
  obtain⟨⟨l,S2⟩,h2,hm⟩:=SJ.mp hm
  obtain⟨⟨h,S3⟩,h3,hm⟩:=SJ.mp hm
  refine⟨μ,S,env,x,S1,hS,hE,h1,λv H1 μ1 e1 s1 r1=>⟨μ1,S1,env,l,S2,s1,hE.mono e1,h2,λH2 μ2 e2 s2=>⟨μ2,S2,env,h,S3,s2,(hE.mono e1).mono e2,h3,λH3 μ3 e3 s3=>?_⟩⟩⟩
  have r3:=(r1.mono e2).mono e3
  have e:=(e1.trans e2).trans e3
  cases x with
  | tup xs=>
   cases hm
   have r3':=r3
   obtain⟨a,vs,rfl,q1,r⟩:=r3.sqT
   by_cases hw:HT.eR vs.length 0 l=0/\HT.eR vs.length vs.length h=vs.length
   ·refine .inl ⟨a,vs,rfl,q1,hw,?_⟩
    have:lT xs l h=xs:=by unfold lT;rw [<- r.length,hw.1,hw.2];simp [r.length]
    rw [this] at post
    exact post _ H3 μ3 e s3 r3'
   ·exact .inr (.inl ⟨a,vs,rfl,q1,hw,λp hp=>(post.ext e).tup s3 hp (qW r)⟩)
  | lst xs=>
   cases hm
   obtain⟨a,vs,rfl,q1,n1,r⟩:=r3.sqL
   exact .inr (.inr ⟨a,vs,rfl,.inl (.inl q1),λp hp=>(post.ext e).lst s3 hp (qW r)⟩)
  | rol xs=>
   cases hm
   obtain⟨a,vs,rfl,q1,r⟩:=r3.sqR
   exact .inr (.inr ⟨a,vs,rfl,q1,λp hp=>(post.ext e).lst s3 hp (qW r)⟩)
  | ref r=>
   dsimp only at hm
   split at hm
   ·rename_i xs q
    cases hm
    cases r3 with
    | @ref a _ ha=>
     obtain⟨vs,hv,rv⟩:=s3.cell r a _ ha q
     exact .inr (.inr ⟨a,vs,rfl,.inl (.inl hv),λp hp=>(post.ext e).lst s3 hp (qW rv)⟩)
   ·cases hm
  | _=>cases hm
end
section
variable{X:Cx}{K:W.Frag}{μ μ':Fp}{H H':Hp}{S:aa}
noncomputable def aA(f:List D->aa->Option (D×aa))(ms:MA):ME:=λenv S=>(ms env S).bind λp=>f p.1 p.2
theorem FY{f:List D->aa->Option (D×aa)}{ms:MA}{σ:L2.St}{Q:VK}(h:tM K (aA f ms) σ H Q):tCB (DQ K f) (tMA K ms) σ H Q:=by
 obtain⟨μ,S,env,d,S',hS,hE,hm,post⟩:=h
 obtain⟨⟨xs,S1⟩,h1,hm⟩:=SJ.mp hm
 exact⟨μ,S,env,xs,S1,hS,hE,h1,λvs H1 μ1 e1 s1 r1=>⟨μ1,S1,xs,d,S',s1,r1,hm,post.ext e1⟩⟩
section
variable{x:Str}{p pos:Pos}{e:Expr}{es:List Expr}{ms:MA}{id T:String}{f:List D->aa->Option (D×aa)}
theorem ou(hc:CallR X (.builtin id) (DQ X.K f))(hm:X.mg x=U)(hv:bootBuiltins x=O (.builtin id))(ha:DA X (e::es) ms)(hg:Gl X x:=by rfl)(hn:x ≠ "__name__":=by decide)(hdb:(x == ("__debug__":Str))=false:=by decide)
  (he:starEach (e::es) X.env=(false,eval e X.env)::starEach es X.env:=by rfl) (hpl:(backTo pos (starEach es X.env)).any (·.1)=false:=by rfl):DE X (.Call (.Name x p) (e::es) [] pos) (aA f ms):=
 PE.imp (rQ hc hg hm hv ha hn hdb he hpl) λ_ _ _ h=>FY h
theorem jF(hc:CallR X (.type T) (DQ X.K f))(hm:X.mg x=U)(hv:bootBuiltins x=O (.type T))(ha:DA X (e::es) ms)(hg:Gl X x:=by rfl)(hn:x ≠ "__name__":=by decide)(hdb:(x == ("__debug__":Str))=false:=by decide)
  (he:starEach (e::es) X.env=(false,eval e X.env)::starEach es X.env:=by rfl) (hpl:(backTo pos (starEach es X.env)).any (·.1)=false:=by rfl):DE X (.Call (.Name x p) (e::es) [] pos) (aA f ms):=
 PE.imp (uM hc hg hm hv ha hn hdb he hpl) λ_ _ _ h=>FY h
end
theorem Reps.one{vs:List V}{d:D}(r:Reps K μ H vs [d]):∃ v,vs=[v]/\Rep K μ H v d:=by
 cases r with
 | cons h t=>cases t;exact⟨_,rfl,h⟩
theorem Reps.two{vs:List V}{d e:D}(r:Reps K μ H vs [d,e]):∃ v w,vs=[v,w]/\Rep K μ H v d/\Rep K μ H w e:=by
 cases r with
 | cons h t=>cases t with | cons h' t=>cases t;exact⟨_,_,rfl,h,h'⟩
noncomputable def aq(f:aa->List D->Option D):List D->aa->Option (D×aa):=λds S=>(f S ds).bind λd=>O (d,S)
theorem dh{f:aa->List D->Option D}{ds:List D}{S S':aa}{d:D}(h:aq f ds S=O (d,S')):S'=S/\f S ds=O d:=by
 obtain⟨z,h1,h⟩:=SJ.mp h
 cases h
 exact⟨rfl,h1⟩
noncomputable def eN(S:aa):List D->Option D
 | [.str z]=>if z.length<=sizeLine then O (.int z.length) else U
 | [d]=>(fV S d).bind λxs=>O (.int xs.length)
 | _=>U
theorem JP:CallR X (.builtin "len") (DQ X.K (aq eN)):=CallR.imp (call_len_seq.or yb) λxs H Q ⟨μ,S,ds,d,S',hS,hr,hm,post⟩=>by
 obtain⟨rfl,hm⟩:=dh hm
 match ds,hr,hm with
 | [D.str z],hr,hm=>
  obtain⟨v,rfl,r⟩:=hr.one
  simp only [eN] at hm
  split at hm
  ·rename_i hl;cases hm;exact .inr ⟨z,by rw [r.str_inv],hl,post.here hS (.int _)⟩
  ·cases hm
 | [D.non],hr,hm=>cases hm
 | [D.bl _],hr,hm=>cases hm
 | [D.int _],hr,hm=>cases hm
 | [D.dct _ _],hr,hm=>cases hm
 | [D.tup xs],hr,hm=>
  obtain⟨v,rfl,r⟩:=hr.one
  cases hm
  obtain⟨a,vs,rfl,hq,r⟩:=ip hS r rfl
  exact .inl ⟨a,vs,rfl,hq,by rw [r.length];exact post.here hS (.int _)⟩
 | [D.lst xs],hr,hm=>
  obtain⟨v,rfl,r⟩:=hr.one
  cases hm
  obtain⟨a,vs,rfl,hq,r⟩:=ip hS r rfl
  exact .inl ⟨a,vs,rfl,hq,by rw [r.length];exact post.here hS (.int _)⟩
 | [D.rol xs],hr,hm=>
  obtain⟨v,rfl,r⟩:=hr.one
  cases hm
  obtain⟨a,vs,rfl,hq,r⟩:=ip hS r rfl
  exact .inl ⟨a,vs,rfl,hq,by rw [r.length];exact post.here hS (.int _)⟩
 | [D.ref i],hr,hm=>
  obtain⟨v,rfl,r⟩:=hr.one
  obtain⟨xs,h1,hm⟩:=SJ.mp hm
  cases hm
  obtain⟨a,vs,rfl,hq,r⟩:=ip hS r h1
  exact .inl ⟨a,vs,rfl,hq,by rw [r.length];exact post.here hS (.int _)⟩
 | [],hr,hm=>cases hm
 | a::b::c,hr,hm=>simp [eN] at hm
noncomputable def kN(S:aa):List D->Option D
 | [.int i]=>O (.int i)
 | [.bl k]=>O (.int (if k then 1 else 0))
 | _=>U
theorem JQ:CallR X (.type "int") (DQ X.K (aq kN)):=CallR.imp Fs λxs H Q ⟨μ,S,ds,d,S',hS,hr,hm,post⟩=>by
 obtain⟨rfl,hm⟩:=dh hm
 match ds,hr,hm with
 | [D.int i],hr,hm=>obtain⟨v,rfl,r⟩:=hr.one;cases hm;exact .inl ⟨i,by rw [r.int_inv],post.here hS (.int _)⟩
 | [D.bl k],hr,hm=>obtain⟨v,rfl,r⟩:=hr.one;cases hm;exact .inr ⟨k,by rw [r.bl_inv],post.here hS (.int _)⟩
 | [D.non],hr,hm=>cases hm
 | [D.str _],hr,hm=>cases hm
 | [D.dct _ _],hr,hm=>cases hm
 | [D.tup _],hr,hm=>cases hm
 | [D.lst _],hr,hm=>cases hm
 | [D.rol _],hr,hm=>cases hm
 | [D.ref _],hr,hm=>cases hm
 | [],hr,hm=>cases hm
 | a::b::c,hr,hm=>simp [kN] at hm
noncomputable def Oe(S:aa):List D->Option D
 | [.int i,.int j]=>O (.int (if j>i then j else i))
 | _=>U
noncomputable def zY(S:aa):List D->Option D
 | [.int i,.int j]=>O (.int (if j<i then j else i))
 | _=>U
theorem Oa{ds:List D}{f:Int->Int->D}{d:D}(h:(match ds with | [.int i,.int j]=>O (f i j) | _=>U)=O d):∃ i j,ds=[.int i,.int j]/\d=f i j:=by
 split at h
 ·cases h;exact⟨_,_,rfl,rfl⟩
 ·cases h
theorem Fv(hc:X.calm=true):CallR X (.builtin "max") (DQ X.K (aq Oe)):=CallR.imp (Fk hc) λxs H Q ⟨μ,S,ds,d,S',hS,hr,hm,post⟩=>by
 obtain⟨rfl,hm⟩:=dh hm
 obtain⟨i,j,rfl,rfl⟩:=Oa (f:=λi j=>.int (if j>i then j else i)) hm
 obtain⟨v,w,rfl,r1,r2⟩:=hr.two
 exact⟨i,j,by rw [r1.int_inv,r2.int_inv],post.here hS (.int _)⟩
theorem Ft(hc:X.calm=true):CallR X (.builtin "min") (DQ X.K (aq zY)):=CallR.imp (Fi hc) λxs H Q ⟨μ,S,ds,d,S',hS,hr,hm,post⟩=>by
 obtain⟨rfl,hm⟩:=dh hm
 obtain⟨i,j,rfl,rfl⟩:=Oa (f:=λi j=>.int (if j<i then j else i)) hm
 obtain⟨v,w,rfl,r1,r2⟩:=hr.two
 exact⟨i,j,by rw [r1.int_inv,r2.int_inv],post.here hS (.int _)⟩
noncomputable def fS(c:List D->D)(S:aa):List D->Option D
 | [d]=>(fV S d).bind λxs=>O (c xs)
 | _=>U
theorem sX{c:List D->D}{S:aa}{ds:List D}{d:D}(h:fS c S ds=O d):∃ x xs,ds=[x]/\fV S x=O xs/\d=c xs:=by
 match ds,h with
 | [x],h=>
  obtain⟨xs,h1,h⟩:=SJ.mp h
  cases h
  exact⟨x,xs,rfl,h1,rfl⟩
 | [],h=>cases h
 | _::_::_,h=>cases h
theorem Fw:CallR X (.type "list") (DQ X.K (aq (fS .lst))):=CallR.imp ya λxs H Q ⟨μ,S,ds,d,S',hS,hr,hm,post⟩=>by
 obtain⟨rfl,hm⟩:=dh hm
 obtain⟨x,ys,rfl,h1,rfl⟩:=sX hm
 obtain⟨v,rfl,r⟩:=hr.one
 obtain⟨a,vs,rfl,hq,r⟩:=ip hS r h1
 exact⟨a,vs,rfl,hq,λl hl=>post.lst hS hl r⟩
theorem Cb:CallR X (.type "tuple") (DQ X.K (aq (fS .tup))):=CallR.imp ul λxs H Q ⟨μ,S,ds,d,S',hS,hr,hm,post⟩=>by
 obtain⟨rfl,hm⟩:=dh hm
 obtain⟨x,ys,rfl,h1,rfl⟩:=sX hm
 obtain⟨v,rfl,r⟩:=hr.one
 cases x with
 | tup zs=>
  cases h1
  have r':=r
  obtain⟨a,vs,rfl,q,r⟩:=r.sqT
  exact⟨a,vs,rfl,.inr ⟨q,post.here hS r'⟩⟩
 | lst zs=>
  cases h1
  obtain⟨a,vs,rfl,q,n,r⟩:=r.sqL
  exact⟨a,vs,rfl,.inl ⟨.inl (.inl q),λl hl=>post.tup hS hl r⟩⟩
 | rol zs=>
  cases h1
  obtain⟨a,vs,rfl,q,r⟩:=r.sqR
  exact⟨a,vs,rfl,.inl ⟨q,λl hl=>post.tup hS hl r⟩⟩
 | ref i=>
  simp only [fV] at h1
  cases r with
  | @ref a _ h'=>
   cases q:S'[i]? with
   | none=>rw [q] at h1;cases h1
   | some c=>
    rw [q] at h1
    have ck:=hS.cell i a c h' q
    cases c with
    | lst xs=>cases h1;obtain⟨vs,e,r⟩:=ck;exact⟨a,vs,rfl,.inl ⟨.inl (.inl e),λl hl=>post.tup hS hl r⟩⟩
    | dct ks xs=>cases h1
 | _=>cases h1
noncomputable def kn:List D->Option (List Bool)
 | []=>O []
 | .bl b::r=>(kn r).bind λbs=>O (b::bs)
 | _=>U
noncomputable def pv(S:aa):List D->Option D
 | [.lst xs]=>(kn xs).bind λbs=>O (.bl (bs.all id))
 | _=>U
theorem qu:∀ {vs:List V} {ds:List D} {us:List Value} {bs:List Bool},Reps K μ H vs ds->Vals vs us->kn ds=O bs->LSm.BoolsAre us bs
 | _,_,_,_,.nil,.nil,h=>by cases h;exact .nil
 | _,_,_,_,.cons (d:=d) r t,.cons rv tv,h=>by
  cases d <;> first | cases h | skip
  obtain⟨cs,h1,h⟩:=SJ.mp h
  cases h
  cases r;cases rv
  exact .cons _ (qu t tv h1)
theorem JR(hc:X.calm=true):CallR X (.builtin "all") (DQ X.K (aq pv)):=by
 intro pins s σ H xs us Q I rv h
 obtain⟨μ,S,ds,d,S',hS,hr,hm,post⟩:=h
 obtain⟨rfl,hm⟩:=dh hm
 match ds,hr,hm with
 | [D.lst zs],hr,hm=>
  obtain⟨v,rfl,r⟩:=hr.one
  obtain⟨bs,h1,hm⟩:=SJ.mp hm
  cases hm
  obtain⟨u,rfl,ru⟩:=gM rv
  obtain⟨a,vs,rfl,q,n,r⟩:=r.sqL
  cases ru
  obtain⟨its,rv',pl,hz⟩:=I.list (.inl (.inl q))
  have hl:=pl.isList
  have hb:=qu r rv' h1
  have hlt:a<s.heap.objs.size:=by obtain⟨_,e,_⟩:=hl;exact SV e
  refine call_all_walk (UJ hl ?_)
  refine⟨s.heap.objs.size,[s.heap.objs.size,a],[s.heap.objs.size],its.toArray.size,_,_,λi=>(bs[i]?).getD true,rfl,Walks.list (A:=X.A.in1) (I.ok.hd hc) _ a (Tk hlt) its.toArray,
   ⟨⟨_,SW _ rfl,rfl,rfl⟩,hl.push _⟩,λi v s' Q' E' hP hQ=>?_,λh' tk hk=>?_⟩
  ·obtain⟨b,e,rfl⟩:=hb.get i v (by simpa using hP)
   simp only [e,Option.getD_some] at hQ
   exact UI hQ
  ·have e:((List.range its.toArray.size).all λi=>(bs[i]?).getD true)=bs.all id:=by
    rw [SQ,hb.length];exact LSm.range_all bs
   rw [e]
   exact⟨.bl _,H,I.kept (LSm.kept_iter hk),rfl,post.here hS (.bl _)⟩
 | [D.non],hr,hm=>cases hm
 | [D.bl _],hr,hm=>cases hm
 | [D.int _],hr,hm=>cases hm
 | [D.str _],hr,hm=>cases hm
 | [D.dct _ _],hr,hm=>cases hm
 | [D.tup _],hr,hm=>cases hm
 | [D.rol _],hr,hm=>cases hm
 | [D.ref _],hr,hm=>cases hm
 | [],hr,hm=>cases hm
 | a::b::c,hr,hm=>simp [pv] at hm
noncomputable def tyD(S:aa):D->Option String
 | .non=>O "NoneType"
 | .bl _=>O "bool"
 | .int _=>O "int"
 | .str _=>O "str"
 | .tup _=>O "tuple"
 | .lst _=>O "list"
 | .rol _=>O "list"
 | .dct _ _=>O "dict"
 | .ref r=>match S[r]? with | some (.lst _)=>O "list" | some (.dct _ _)=>O "dict" | none=>U
 | .txt=>O "str"
 | .obj=>O "dict"
 | .exc _ _ _=>U
noncomputable def Ia(T:String)(t:String):Bool:=t == T||(t == "bool" && T == "int")
noncomputable def ij(T:String)(S:aa)(d:D):Option D:=(tyD S d).bind λt=>O (.bl (Ia T t))
noncomputable def db(T:String)(m:ME):ME:=λenv S=>(m env S).bind λp=>(ij T p.2 p.1).bind λd=>O (d,p.2)
theorem DC{S:aa}{d:D}{t:String}(h:tyD S d=O t):t = "NoneType"\/t = "bool"\/t = "int"\/t = "str"\/t = "tuple"\/t = "list"\/t = "dict":=by
 cases d <;> simp only [tyD] at h <;> first | (cases h;simp) | (split at h <;> first | (cases h;simp) | cases h) | cases h
theorem LC(K:W.Frag){T t:String}(hT:T = "int"\/T = "bool"\/T = "str"\/T = "tuple"\/T = "list"\/T = "dict")(ht:t = "NoneType"\/t = "bool"\/t = "int"\/t = "str"\/t = "tuple"\/t = "list"\/t = "dict") :
  W.kitOne K (.type t) (.type T)=O (Ia T t):=by
 rcases hT with rfl | rfl | rfl | rfl | rfl | rfl <;> rcases ht with rfl | rfl | rfl | rfl | rfl | rfl | rfl <;> rfl
theorem kia_D{pins:List (Addr×Obj)}{σ:L2.St}{s:Shared}{v:V}{u:Value}{d:D}{t:String}{b:Bool}{c:Value}{Q:Value->Shared->Prop}{E:Value->Shared->Prop}(I:Inv X pins σ H s)(hS:SOk X.K μ S H)(r:Rep X.K μ H v d)(ru:RelV v u)(ht:tyD S d=O t)
  (e:W.kitOne X.K (.type t) c=O b) (h:∀ tk,Q (.bool b) { s with toks:=tk }):wpAny (model X.prog X.w) X.A (call (.builtin "isinstance") [u,c]) Q E s:=by
 have tupK:∀ {a:Addr} {vs:List V},kS X.K H a vs->W.KitAt a "tuple" s.heap:=λ{a vs} q=>by
  obtain⟨its,_,⟨o,h1,h2,_⟩,_⟩:=I.tuple q;exact⟨o,h1,h2⟩
 have lstK:∀ {a:Addr} {vs:List V},jk X.K H a vs->W.KitAt a "list" s.heap:=λ{a vs} q=>by
  obtain⟨its,_,⟨o,n,h1,h2,_⟩,_⟩:=I.list q;exact⟨o,h1,h2⟩
 have dK:∀ {a:Addr} {kvs:List (ba×V)},H a=O (.dK kvs)->W.KitAt a "dict" s.heap:=λ{a kvs} q=>by
  obtain⟨_,_,vs,_,p⟩:=(show ObjOk X.prog X.w H s.heap a (.dK kvs) from I.hok a _ q)
  obtain⟨o,es,ep,h1,h2,_⟩:=p
  exact⟨o,h1,h2.1⟩
 cases r with
 | non=>cases ht;cases ru;exact UC W.kitx_none I.kIn True.intro e (λz=>nomatch z) h
 | bl y=>cases ht;cases ru;exact UC W.kitx_bool I.kIn True.intro e (λz=>nomatch z) h
 | int i=>cases ht;obtain⟨t,rfl⟩:=ru;exact UC W.kitx_int I.kIn True.intro e (λz=>nomatch z) h
 | str y=>cases ht;obtain⟨t,rfl⟩:=ru;exact UC W.kitx_str I.kIn True.intro e (λz=>nomatch z) h
 | tup q n r=>cases ht;cases ru;exact UC W.kitx_tuple I.kIn (tupK (.inl (.inl q))) e (λz=>nomatch z) h
 | ktup q r=>cases ht;cases ru;exact UC W.kitx_tuple I.kIn (tupK (.inr q)) e (λz=>nomatch z) h
 | lst q n r=>cases ht;cases ru;exact UC WA I.kIn (lstK (.inl (.inl q))) e (λz=>nomatch z) h
 | rol q n r=>cases ht;cases ru;exact UC WA I.kIn (lstK (.inl q)) e (λz=>nomatch z) h
 | krol q r=>cases ht;cases ru;exact UC WA I.kIn (lstK (.inr q)) e (λz=>nomatch z) h
 | dct q n r=>cases ht;cases ru;exact UC Xk I.kIn (dK q) e (λz=>nomatch z) h
 | txt y=>cases ht;obtain⟨t,rfl⟩:=ru;exact UC W.kitx_str I.kIn True.intro e (λz=>nomatch z) h
 | obj q n=>cases ht;cases ru;exact UC Xk I.kIn ((show ObjOk X.prog X.w H s.heap _ (.ext (NZ _)) from I.hok _ _ q).1) e (λz=>nomatch z) h
 | exc q n q2 n2=>cases ht
 | @ref a i h'=>
  cases ru
  simp only [tyD] at ht
  cases q:S[i]? with
  | none=>rw [q] at ht;cases ht
  | some c'=>
   rw [q] at ht
   have ck:=hS.cell i a c' h' q
   cases c' with
   | lst xs=>cases ht;obtain⟨vs,q,r⟩:=ck;exact UC WA I.kIn (lstK (.inl (.inl q))) e (λz=>nomatch z) h
   | dct ks xs=>cases ht;obtain⟨kvs,q,r⟩:=ck;exact UC Xk I.kIn (dK q) e (λz=>nomatch z) h
theorem Fc{a:Expr}{ma:ME}{T:String}{x:Str}{p p2 pos:Pos}(hm:X.mg "isinstance" = U)(hmT:X.mg x=U)(hb:bootBuiltins x=O (.type T))(ha:DE X a ma)
  (hT:T = "int"\/T = "bool"\/T = "str"\/T = "tuple"\/T = "list"\/T = "dict":=by simp)
  (hg:Gl X "isinstance":=by rfl) (hgT:Gl X x:=by rfl) (hn:x ≠ "__name__":=by decide) (hd:(x == ("__debug__":Str))=false:=by decide)
  (hs1:starEach [a,.Name x p2] X.env=(false,eval a X.env)::starEach [.Name x p2] X.env:=by rfl) (hs2:starEach [.Name x p2] X.env=(false,eval (.Name x p2) X.env)::starEach [] X.env:=by rfl) (hpl:(backTo pos (starEach [.Name x p2] X.env)).any (·.1)=false:=by rfl) :
  DE X (.Call (.Name "isinstance" p) [a,.Name x p2] [] pos) (db T ma):=by
 have hc:CallR X (.builtin "isinstance") (λvs H Q=>∃ v μ S d t,vs=[v,.ty T]/\SOk X.K μ S H/\Rep X.K μ H v d/\tyD S d=O t/\Q (.bl (Ia T t)) H):=by
  intro pins s σ H xs us Q I rv h
  obtain⟨v,μ,S,d,t,rfl,hS,r,ht,q⟩:=h
  obtain⟨u,w',rfl,r1,r2⟩:=FO rv
  cases r2
  exact kia_D I hS r r1 ht (LC _ hT (DC ht)) λtk=>⟨.bl _,H,I.tok _,rfl,q⟩
 refine PE.imp (rQ hc hg hm boot_isinstance (qM ha (qM (Ld (v:=.ty T) hgT hmT hb rfl hn hd) AY hs2) hs1) (by decide) (by decide) hs1 hpl) λσ H Q ⟨μ,S,env,d,S',hS,hE,hm,post⟩=>?_
 obtain⟨⟨x,S1⟩,h1,hm⟩:=SJ.mp hm
 obtain⟨z,h2,hm⟩:=SJ.mp hm
 cases hm
 obtain⟨t,h3,h2⟩:=SJ.mp h2
 cases h2
 exact⟨μ,S,env,x,S1,hS,hE,h1,λv H1 μ1 e1 s1 r1=>⟨v,μ1,S1,x,t,rfl,s1,r1,h3,post _ H1 μ1 e1 s1 (.bl _)⟩⟩
end
section
variable{X:Cx}{K:W.Frag}{μ μ':Fp}{H H':Hp}{S:aa}
noncomputable def Kp(K:W.Frag)(n:Nat)(f:List D->aa->Option (D×aa)):Sp:=λvs H Q _=>∃ μ S ds d S',SOk K μ S H/\Reps K μ H vs ds/\ds.length=n/\f ds S=O (d,S')/\Post K μ H S' d Q
structure Fn(P:Program)(w:World)(K:W.Frag)(mg:Str->Option Value)(base:Heap)(k:Nat)(x:Str)(n:Nat)(f:List D->aa->Option (D×aa)):Prop where
 ex:∃ (a:Addr) (fd:FuncData) (ps:List Str),ps.length=n/\FnOk P w K mg base FD k a fd ps (Kp K n f)/\mg x=O (.ref a)/\W.keepIn K (.ref a)=true/\Binds K fd ps []
noncomputable def ag(n:Nat)(f:List D->aa->Option (D×aa))(ms:MA):ME:=λenv S=>(ms env S).bind λp=>if p.1.length=n then f p.1 p.2 else U
theorem FW{n:Nat}{f:List D->aa->Option (D×aa)}{ms:MA}{σ:L2.St}{Q:VK}(h:tM K (ag n f ms) σ H Q):FX (Kp K n f) [] E0 (tMA K ms) σ H Q:=by
 obtain⟨μ,S,env,d,S',hS,hE,hm,post⟩:=h
 obtain⟨⟨xs,S1⟩,h1,hm⟩:=SJ.mp hm
 dsimp only at hm
 split at hm
 ·rename_i hn
  refine⟨μ,S,env,xs,S1,hS,hE,h1,λvs H1 μ1 e1 s1 r1=>?_⟩
  show Kp K n f (vs++[]) H1 Q E0
  rw [Tx]
  exact⟨μ1,S1,xs,d,S',s1,r1,hn,hm,post.ext e1⟩
 ·cases hm
theorem MY{k n:Nat}{x:Str}{f:List D->aa->Option (D×aa)}{e:Expr}{es:List Expr}{ms:MA}{p pos:Pos}(F:Fn X.prog X.w X.K X.mg X.base k x n f)(hr:Room k X.A)(ha:DA X (e::es) ms)(hg:Gl X x:=by rfl)
  (hdb:(x == ("__debug__":Str))=false:=by decide) (he:starEach (e::es) X.env=(false,eval e X.env)::starEach es X.env:=by rfl) (hpl:(backTo pos (starEach es X.env)).any (·.1)=false:=by rfl) :
  DE X (.Call (.Name x p) (e::es) [] pos) (ag n f ms):=by
 obtain⟨a,fd,ps,hn,F,hm,hk,hb⟩:=F.ex
 exact PE.imp (Lc F hr hg hm hk hb .nil NF ha hdb he hpl) λ_ _ _ h=>FW h
theorem JF{k:Nat}{x:Str}{f:List D->aa->Option (D×aa)}{p pos:Pos}(F:Fn X.prog X.w X.K X.mg X.base k x 0 f)(hr:Room k X.A)(hg:Gl X x:=by rfl)
  (hdb:(x == ("__debug__":Str))=false:=by decide):DE X (.Call (.Name x p) [] [] pos) (ag 0 f af):=by
 obtain⟨a,fd,ps,hn,F,hm,hk,hb⟩:=F.ex
 refine PE.imp (GR F hr hg hm hk hb .nil NF hdb) λσ H Q h=>?_
 obtain⟨μ,S,env,d,S',hS,hE,hm,post⟩:=h
 exact⟨μ,S,[],d,S',hS,.nil,rfl,hm,post⟩
mutual
noncomputable def ow(n:Nat):D->Bool
 | .tup xs=>closDs n xs
 | .lst xs=>closDs n xs
 | .rol xs=>closDs n xs
 | .dct _ xs=>closDs n xs
 | .ref r=>decide (r<n)
 | _=>true
noncomputable def closDs(n:Nat):List D->Bool
 | []=>true
 | d::ds=>ow n d&&closDs n ds
end
noncomputable def vL(n:Nat):Cell->Bool
 | .lst xs=>closDs n xs
 | .dct _ xs=>closDs n xs
theorem mW{n:Nat}:∀ {ds:List D},closDs n ds=true->∀ d∈ds,ow n d=true
 | _::_,c,_,.head _=>(SM _ _ |>.mp c).1
 | _::_,c,_,.tail _ h=>mW (SM _ _ |>.mp c).2 _ h
theorem Rep.trunc{cs l fb:List Addr}{v:V}{d:D}(r:Rep K ⟨cs++l,fb⟩ H v d)(c:ow cs.length d=true):Rep K ⟨cs,fb⟩ H v d:=
 Rep.to (μ:=⟨cs++l,fb⟩) (μ':=⟨cs,fb⟩) (P:=λd=>ow cs.length d=true) (λd c x hx=>by cases d <;> first | (cases hx;done) | exact mW c x hx) (λh n=>⟨h,λz=>n.1 (TV _ z),n.2⟩) (λc (h:(cs++l)[_]?=O _)=>by rw [To (Vd c)] at h;exact h) r c
theorem Reps.trunc{cs l fb:List Addr}{vs:List V}{ds:List D}(r:Reps K ⟨cs++l,fb⟩ H vs ds)(c:closDs cs.length ds=true):Reps K ⟨cs,fb⟩ H vs ds:=Reps.to (μ:=⟨cs++l,fb⟩) (μ':=⟨cs,fb⟩) (P:=λd=>ow cs.length d=true) (λr c=>r.trunc c) r (mW c)
theorem Rep.closed{v:V}{d:D}(r:Rep K μ H v d):ow μ.cs.length d=true:=
 Rep.rec (motive_1:=λ_ d _=>ow μ.cs.length d=true) (motive_2:=λ_ ds _=>closDs μ.cs.length ds=true) rfl (λ_=>rfl) (λ_=>rfl) (λ_=>rfl) (λ_ _ _ i=>i) (λ_ _ i=>i) (λ_ _ _ i=>i) (λ_ _ _ i=>i) (λ_ _ i=>i) (λ_ _ _ i=>i) (λh=>decide_eq_true (SR.mp h).1) (λ_=>rfl) (λ_ _=>rfl) (λ_ _ _ _=>rfl) rfl (λ_ _ i j=>by rw [closDs,i,j];rfl) r
theorem Reps.closed:∀ {vs:List V} {ds:List D},Reps K μ H vs ds->closDs μ.cs.length ds=true
 | _,_,.nil=>rfl
 | _,_,.cons h t=>by rw [closDs,Rep.closed h,Reps.closed t];rfl
theorem SOk.closed(s:SOk K μ S H):∀ c∈S,vL S.length c=true:=λc hc=>by
 obtain⟨r,hr⟩:=VM.mp hc
 have hl:=(SR.mp hr).1
 have hl':r < μ.cs.length:=by rw [s.len];exact hl
 have:=s.cell r _ c (Tb hl') hr
 cases c with
 | lst ds=>obtain⟨vs,_,q⟩:=this;rw [<- s.len];exact q.closed
 | dct ks ds=>obtain⟨vs,_,_,q⟩:=this;rw [<- s.len];exact q.closed
theorem SOk.trunc{S' g:aa}(s:SOk K μ (S'++g) H)(hc:∀ c∈S',vL S'.length c=true):∃ cs l,μ.cs=cs++l/\cs.length=S'.length/\SOk K ⟨cs,μ.fb⟩ S' H:=by
 obtain⟨cs0,fb⟩:=μ
 have hlen:cs0.length=S'.length+g.length:=by have:=s.len;simpa using this
 have hcl:(cs0.take S'.length).length=S'.length:=by rw [Vj];omega
 refine⟨cs0.take S'.length,cs0.drop S'.length,(Uq _ _).symm,hcl,s.nd.sublist (List.take_sublist _ _),hcl,λr a c h1 h2=>?_,s.fdom,λa ha z=>s.disj a ha (VS z)⟩
 have hr:=(SR.mp h2).1
 have h1':cs0[r]?=O a:=by
  have h1:(cs0.take S'.length)[r]?=O a:=h1
  rwa [WJ hr] at h1
 have ck:=s.cell r a c h1' (by rw [To hr];exact h2)
 have cc:=hc c (TC h2)
 have e:cs0=cs0.take S'.length++cs0.drop S'.length:=(Uq _ _).symm
 cases c with
 | lst ds=>
  obtain⟨vs,q,r⟩:=ck
  have r':Reps K ⟨cs0.take S'.length++cs0.drop S'.length,fb⟩ H vs ds:=by rw [<- e];exact r
  exact⟨vs,q,r'.trunc (by rw [hcl];exact cc)⟩
 | dct ks ds=>
  obtain⟨vs,q,q2,r⟩:=ck
  have r':Reps K ⟨cs0.take S'.length++cs0.drop S'.length,fb⟩ H (vs.map (·.2)) ds:=by rw [<- e];exact r
  exact⟨vs,q,q2,r'.trunc (by rw [hcl];exact cc)⟩
theorem Post.trunc{S' g:aa}{d:D}{Q:VK}(post:Post K μ H S' d Q)(hd:ow S'.length d=true)(hc:∀ c∈S',vL S'.length c=true)(hl:μ.cs.length<=S'.length):Post K μ H (S'++g) d Q:=λv H' μ' e s r=>by
 obtain⟨cs,l,q,hcl,s'⟩:=s.trunc hc
 obtain⟨cs',fb'⟩:=μ'
 have q':cs'=cs++l:=q
 subst q'
 refine post v H' ⟨cs,fb'⟩ ⟨e.fb,?_,e.keep,λa ha=>e.dom a (TV _ ha)⟩ s' (r.trunc (by rw [hcl];exact hd))
 obtain⟨l0,q0,h0⟩:=e.pre
 have q0:cs++l = μ.cs++l0:=q0
 have hle:μ.cs.length<=cs.length:=by rw [hcl];exact hl
 refine⟨cs.drop μ.cs.length,?_,λa ha=>h0 a ?_⟩
 ·have t1:(cs++l).take μ.cs.length = μ.cs:=by rw [q0];simp
  rw [List.take_append_of_le_length hle] at t1
  show cs = μ.cs++cs.drop μ.cs.length
  conv=>lhs;rw [<- Uq μ.cs.length cs,t1]
 ·have t2:(cs++l).drop μ.cs.length=l0:=by rw [q0];simp
  rw [<- t2,List.drop_append_of_le_length hle]
  exact TV _ ha
noncomputable def Runs(m:MS)(env:av)(S:aa)(d:D)(S':aa):Prop:=
 ∃ o g,m env S=O o/\(g=[]\/(ow S'.length d=true/\(∀ c∈S',vL S'.length c=true)/\S.length<=S'.length))/\(o=.rt d (S'++g)\/(d=.non/\∃ env',o=.nx env' (S'++g)))
theorem Runs.ret{m:MS}{env:av}{S S':aa}{d:D}(h:m env S=O (.rt d S')):Runs m env S d S':=⟨_,[],h,.inl rfl,.inl (by rw [Tx])⟩
noncomputable def aM(N:List Str)(ds:List D):av:=ds.map O++List.replicate (N.length - ds.length) U
theorem Oc{P:Program}{w:World}{mg:Str->Option Value}{base:Heap}{k:Nat}{x qual:Str}{st:Stmt}{a:Addr}{fd:FuncData}{N ps:List Str}{f:List D->aa->Option (D×aa)}
  (F:L2.Fun K x qual st a fd) (Sc:aH N ps (am st))
  (hbody:∀ (cdv:Value) (A:Around) (outer:List PySem.Env) (s:Shared) (H:Hp) (E:XK),Room k (A.deeper (envOfC qual (am st) s.heap.objs.size a cdv)) ->
   ∃ m,yi (uh FD P w K mg base N qual (am st) a cdv A outer s H E).nox (aB st) m/\∀ ds S d S',ds.length=ps.length->(∀ c∈S,vL S.length c=true)->closDs S.length ds=true->f ds S=O (d,S')->Runs m (aM N ds) S d S') :
  FnOk P w K mg base FD (k+1) a fd ps (Kp K ps.length f):=by
 refine F.ok Sc (λvs H Q E h=>?_) (λcdv A outer s H vs Q E hr h=>?_)
 ·obtain⟨μ,S,ds,d,S',hS,hr,hn,hf,post⟩:=h
  rw [hr.length,hn]
 ·obtain⟨m,hm,run⟩:=hbody cdv A outer s H E hr
  refine⟨_,hm,?_⟩
  obtain⟨μ,S,ds,d,S',hS,hrp,hn,hf,post⟩:=h
  obtain⟨o,g,ho,hg,hend⟩:=run ds S d S' hn hS.closed (by rw [<- hS.len];exact hrp.closed) hf
  have post':Post K μ H (S'++g) d Q:=by
   rcases hg with rfl | ⟨c1,c2,c3⟩
   ·rw [Tx];exact post
   ·exact post.trunc c1 c2 (by rw [hS.len];exact c3)
  have hEnv:EOk K μ H (L2.start N vs) (aM N ds):=by unfold L2.start aM;rw [hrp.length];exact EOk.start hrp
  rcases hend with rfl | ⟨rfl,env',rfl⟩
  ·exact⟨μ,S,_,_,hS,hEnv,ho,post'⟩
  ·exact⟨μ,S,_,_,hS,hEnv,ho,λσ' H' μ' e s' _=>post' .non H' μ' e s' .non⟩
theorem Od{P:Program}{w:World}{mg:Str->Option Value}{base:Heap}{k:Nat}{x qual:Str}{st:Stmt}{a:Addr}{fd:FuncData}{N ps:List Str}{f:List D->aa->Option (D×aa)}
  (F:L2.Fun K x qual st a fd) (Sc:aH N ps (am st)) (hmg:mg x=O (.ref a)) (hb:Binds K fd ps [])
  (hbody:∀ (cdv:Value) (A:Around) (outer:List PySem.Env) (s:Shared) (H:Hp) (E:XK),Room k (A.deeper (envOfC qual (am st) s.heap.objs.size a cdv)) ->
   ∃ m,yi (uh FD P w K mg base N qual (am st) a cdv A outer s H E).nox (aB st) m/\∀ ds S d S',ds.length=ps.length->(∀ c∈S,vL S.length c=true)->closDs S.length ds=true->f ds S=O (d,S')->Runs m (aM N ds) S d S') :
  Fn P w K mg base (k+1) x ps.length f:=⟨a,fd,ps,rfl,Oc F Sc hbody,hmg,F.kp,hb⟩
end
section
variable{X:Cx}{K:W.Frag}{μ μ':Fp}{H H':Hp}{S:aa}
theorem PostN.ext{S':aa}{env':av}{Q:L2.St->Hp->Prop}(e:Ext μ H μ' H')(p:PostN K μ H S' env' Q):PostN K μ' H' S' env' Q:=λσ2 H2 μ2 e2 s r=>p σ2 H2 μ2 (e.trans e2) s r
theorem PostS.ext{o:qI}{E:tV}(e:Ext μ H μ' H')(p:PostS K μ H o E):PostS K μ' H' o E:=by
 cases o with
 | nx env S=>exact PostN.ext e p
 | rt d S=>exact Post.ext e p
 | bk env S=>exact PostN.ext e p
 | ct env S=>exact PostN.ext e p
noncomputable def aI:MS:=λenv S=>O (.nx env S)
noncomputable def aw(a b:MS):MS:=λenv S=>(a env S).bind λo=>match o with | .nx env' S'=>b env' S' | o=>O o
theorem Mo:yi X [] aI:=PSs.imp KI λE σ H ⟨μ,S,env,o,hS,hE,hm,post⟩=>by cases hm;exact post σ H μ hS.ext hS hE
theorem Kk{a b:MS}{E:tV}{σ:L2.St}(h:tMS K (aw a b) E σ H):tSeq (tMS K a) (tMS K b) E σ H:=by
 obtain⟨μ,S,env,o,hS,hE,hm,post⟩:=h
 obtain⟨o1,h1,hm⟩:=SJ.mp hm
 refine⟨μ,S,env,o1,hS,hE,h1,?_⟩
 cases o1 with
 | nx env' S'=>exact λσ' H' μ' e s r=>⟨μ',S',env',o,s,r,hm,post.ext e⟩
 | rt d S'=>cases hm;exact post
 | bk env' S'=>cases hm;exact post
 | ct env' S'=>cases hm;exact post
theorem Jd{st:Stmt}{rest:List Stmt}{a b:MS}(h1:DS X st a)(h2:yi X rest b):yi X (st::rest) (aw a b):=PSs.imp (GA h1 h2) λ_ _ _ h=>Kk h
theorem Mn{st:Stmt}{a:MS}(h1:DS X st a):yi X [st] a:=KH h1
variable{pos:Pos}{e c:Expr}{m:ME}{mt:MT}{a b:List Stmt}{ma mb:MS}
theorem Mq:DS X (.Pass pos) aI:=PS.imp KL λE σ H ⟨μ,S,env,o,hS,hE,hm,post⟩=>by cases hm;exact post σ H μ hS.ext hS hE
theorem Jf:DS X (.Break pos) (λenv S=>O (.bk env S)):=PS.imp GD λE σ H ⟨μ,S,env,o,hS,hE,hm,post⟩=>by cases hm;exact post σ H μ hS.ext hS hE
theorem Af:DS X (.Continue pos) (λenv S=>O (.ct env S)):=PS.imp yH λE σ H ⟨μ,S,env,o,hS,hE,hm,post⟩=>by cases hm;exact post σ H μ hS.ext hS hE
theorem RS{x j p}:DS X (.Expr (.Constant (.str x) j p) pos) aI:=PS.imp Pi λE σ H ⟨μ,S,env,o,hS,hE,hm,post⟩=>by cases hm;exact post σ H μ hS.ext hS hE
noncomputable def aN(m:ME):MS:=λenv S=>(m env S).bind λp=>O (.rt p.1 p.2)
theorem RQ(he:DE X e m):DS X (.Return (O e) pos) (aN m):=PS.imp (Pg he) λE σ H ⟨μ,S,env,o,hS,hE,hm,post⟩=>by
 obtain⟨⟨d,S1⟩,h1,hm⟩:=SJ.mp hm
 cases hm
 exact⟨μ,S,env,d,S1,hS,hE,h1,post⟩
theorem Mp:DS X (.Return U pos) (λ_ S=>O (.rt .non S)):=PS.imp KJ λE σ H ⟨μ,S,env,o,hS,hE,hm,post⟩=>by cases hm;exact Post.here post hS .non
noncomputable def cG(m:ME):MS:=λenv S=>(m env S).bind λp=>O (.nx env p.2)
theorem Mt(he:DE X e m)(hs:swapsWith e U pos.line X.env=pure false:=by rfl):DS X (.Expr e pos) (cG m):=PS.imp (KM he hs) λE σ H ⟨μ,S,env,o,hS,hE,hm,post⟩=>by
 obtain⟨⟨d,S1⟩,h1,hm⟩:=SJ.mp hm
 cases hm
 exact⟨μ,S,env,d,S1,hS,hE,h1,λv H' μ' ex s r=>post σ H' μ' ex s (hE.mono ex)⟩
noncomputable def bx(t:MT)(a b:MS):MS:=λenv S=>(t env S).bind λp=>if p.1=true then a env p.2 else b env p.2
theorem ds_if(hc:DT X c mt)(ha:yi X a ma)(hb:yi X b mb):DS X (.If c a b pos) (bx mt ma mb):=PS.imp (ps_if hc ha hb) λE σ H ⟨μ,S,env,o,hS,hE,hm,post⟩=>by
 obtain⟨⟨k,S1⟩,h1,hm⟩:=SJ.mp hm
 refine⟨μ,S,env,k,S1,hS,hE,h1,λH1 μ1 e1 s1=>?_⟩
 cases k with
 | true=>rw [Td rfl] at hm ⊢;exact⟨μ1,S1,env,o,s1,hE.mono e1,hm,post.ext e1⟩
 | false=>rw [Ts SZ] at hm ⊢;exact⟨μ1,S1,env,o,s1,hE.mono e1,hm,post.ext e1⟩
noncomputable abbrev MG:=D->av->aa->Option (av×aa)
noncomputable abbrev lU:=List D->av->aa->Option (av×aa)
inductive yh(K:W.Frag)(g:MG)(v:V)(σ:L2.St)(H:Hp)(Q:L2.St->Hp->Prop):Prop
 | mk (μ:Fp) (S:aa) (env:av) (d:D) (env':av) (S':aa) (hS:SOk K μ S H) (hE:EOk K μ H σ env) (h1:Rep K μ H v d) (h:g d env S=O (env',S')) (post:PostN K μ H S' env' Q)
inductive tMGs(K:W.Frag)(g:lU)(vs:List V)(σ:L2.St)(H:Hp)(Q:L2.St->Hp->Prop):Prop
 | mk (μ:Fp) (S:aa) (env:av) (ds:List D) (env':av) (S':aa) (hS:SOk K μ S H) (hE:EOk K μ H σ env) (h1:Reps K μ H vs ds) (h:g ds env S=O (env',S')) (post:PostN K μ H S' env' Q)
noncomputable def DG(X:Cx)(tg:Expr)(g:MG):Prop:=PG X tg (yh X.K g)
noncomputable def Nu(X:Cx)(tg:List Expr)(g:lU):Prop:=PGs X tg (tMGs X.K g)
theorem PG.imp{tg:Expr}{t t':TG}(h:PG X tg t)(i:∀ v σ H Q,t' v σ H Q->t v σ H Q):PG X tg t':=λpins s σ H v u Q I r q=>h pins s σ H v u Q I r (i v σ H Q q)
theorem PGs.imp{tg:List Expr}{t t':FH}(h:PGs X tg t)(i:∀ v σ H Q,t' v σ H Q->t v σ H Q):PGs X tg t':=λpins s σ H v u Q I r q=>h pins s σ H v u Q I r (i v σ H Q q)
noncomputable def ah(i:Nat):MG:=λd env S=>O (env.set i (O d),S)
theorem Dq{i:Nat}{x:Str}(hN:X.N.Nodup)(hi:X.N[i]?=O x)(hx:JZ X.env.scope x)(hf:X.fn x=true\/X.env.scope.names.lookup x=O .local:=by first | exact .inl rfl | exact .inr rfl | assumption):DG X (.Name x pos) (ah i):=
 PG.imp (KY hN hi hx hf) λv σ H Q ⟨μ,S,env,d,env',S',hS,hE,hr,hm,post⟩=>by cases hm;exact post _ H μ hS.ext hS (hE.set hr i)
noncomputable def be:lU:=λds env S=>match ds with | []=>O (env,S) | _=>U
noncomputable def ai(g:MG)(gs:lU):lU:=λds env S=>match ds with | d::r=>(g d env S).bind λp=>gs r p.1 p.2 | []=>U
theorem Mz:Nu X [] be:=PGs.imp KU λv σ H Q ⟨μ,S,env,ds,env',S',hS,hE,hr,hm,post⟩=>by
 cases hr with
 | nil=>cases hm;exact⟨rfl,post σ H μ hS.ext hS hE⟩
 | cons _ _=>cases hm
theorem Jm{t:Expr}{ts:List Expr}{g:MG}{gs:lU}(h1:DG X t g)(h2:Nu X ts gs)(hs:(assignEach (t::ts) X.env).map (·.2)=assign t X.env::(assignEach ts X.env).map (·.2):=by rfl):Nu X (t::ts) (ai g gs):=
 PGs.imp (GJ h1 h2 hs) λv σ H Q ⟨μ,S,env,ds,env',S',hS,hE,hr,hm,post⟩=>by
  cases hr with
  | nil=>cases hm
  | @cons v d vs ds h t=>
   obtain⟨⟨env1,S1⟩,h1,hm⟩:=SJ.mp hm
   exact⟨v,vs,rfl,μ,S,env,d,env1,S1,hS,hE,h,h1,λσ1 H1 μ1 e1 s1 r1=>⟨μ1,S1,env1,ds,env',S',s1,r1,t.mono e1,hm,post.ext e1⟩⟩
noncomputable def bg(n:Nat)(gs:lU):MG:=λd env S=>match d with | .tup xs=>if xs.length=n then gs xs env S else U | _=>U
theorem Jn{es:List Expr}{k n:Nat}{gs:lU}(hc:X.calm=true)(h:Nu X es gs)(hn:(assignEach es X.env).length=n:=by rfl)(hst:(assignEach es X.env).findIdx? (·.1)=U:=by rfl):DG X (.Tuple es k pos) (bg n gs):=
 PG.imp (Po hc h hn hst) λv σ H Q ⟨μ,S,env,d,env',S',hS,hE,hr,hm,post⟩=>by
  cases d with
  | tup xs=>
   simp only [bg] at hm
   split at hm
   ·rename_i hl
    obtain⟨a,vs,rfl,q,r⟩:=hr.sqT
    exact⟨a,vs,rfl,q,by rw [r.length];exact hl,μ,S,env,xs,env',S',hS,hE,r,hm,post⟩
   ·cases hm
  | _=>cases hm
noncomputable def ei(o i:ME):MG:=λd env S=>(o env S).bind λp=>(i env p.2).bind λq=>match p.1,q.1 with
 | .ref r,.int k=>match q.2[r]? with
  | some (.lst xs)=>(Ey xs.length k).bind λj=>O (env,q.2.set r (.lst (xs.set j d)))
  | _=>U
 | _,_=>U
theorem RV{o i:Expr}{mo mi:ME}(ho:DE X o mo)(hi:DE X i mi)(ha:∀ v,assign (.Subscript o i pos) X.env v=(do
   let ov <- holding [v] (eval o X.env)
   let iv <- holding [v,ov] (eval i X.env)
   standAt pos
   holding [v,ov,iv] (setItem ov iv v)
   release [v,ov,iv] []):=by intro _;rfl):DG X (.Subscript o i pos) (ei mo mi):=
 PG.imp (Pp ho hi Gg ha) λv σ H Q ⟨μ,S,env,d,env',S',hS,hE,hr,hm,post⟩=>by
  obtain⟨⟨x,S1⟩,h1,hm⟩:=SJ.mp hm
  obtain⟨⟨y,S2⟩,h2,hm⟩:=SJ.mp hm
  refine⟨μ,S,env,x,S1,hS,hE,h1,λv1 H1 μ1 e1 s1 r1=>⟨μ1,S1,env,y,S2,s1,hE.mono e1,h2,λv2 H2 μ2 e2 s2 r2=>?_⟩⟩
  cases x with
  | ref r=>
   cases y with
   | int k=>
    dsimp only at hm
    cases q:S2[r]? with
    | none=>rw [q] at hm;cases hm
    | some c=>
     rw [q] at hm
     cases c with
     | lst xs=>
      obtain⟨j,h3,hm⟩:=SJ.mp hm
      cases hm
      have r1':=r1.mono e2
      cases r1' with
      | @ref a _ h'=>
       obtain⟨vs,hv,rv⟩:=s2.cell r a _ h' q
       have rd:=(hr.mono e1).mono e2
       obtain⟨e3,s3⟩:=s2.write h' hv (rv.set rd j)
       exact⟨a,vs,k,j,rfl,r2.int_inv,hv,by rw [rv.length];exact h3,post σ _ μ2 ((e1.trans e2).trans e3) s3 (hE.mono ((e1.trans e2).trans e3))⟩
     | dct ks xs=>cases hm
   | _=>cases hm
  | _=>cases hm
noncomputable def aE(m:ME)(g:MG):MS:=λenv S=>(m env S).bind λp=>(g p.1 env p.2).bind λq=>O (.nx q.1 q.2)
theorem Kn{g:MG}{E:tV}{σ:L2.St}(h:tMS K (aE m g) E σ H):FZ (tM K m) (yh K g) E σ H:=by
 obtain⟨μ,S,env,o,hS,hE,hm,post⟩:=h
 obtain⟨⟨d,S1⟩,h1,hm⟩:=SJ.mp hm
 obtain⟨⟨env2,S2⟩,h2,hm⟩:=SJ.mp hm
 cases hm
 exact⟨μ,S,env,d,S1,hS,hE,h1,λv H1 μ1 e1 s1 r1=>⟨μ1,S1,env,d,env2,S2,s1,hE.mono e1,r1,h2,PostN.ext e1 post⟩⟩
theorem Jg{tg:Expr}{g:MG}(he:DE X e m)(hg:DG X tg g)(hs:swapsWithSole [tg] e pos.line X.env=pure false:=by rfl)(hw:swappedStores [tg] e X.env=pure U:=by rfl)
  (h1:(assignEach [tg] X.env).map (·.2)=[assign tg X.env]:=by rfl):DS X (.Assign [tg] e pos) (aE m g):=PS.imp (Pj he hg hs hw h1) λ_ _ _ h=>Kn h
theorem BQ{i:Nat}{x:Str}{pos':Pos}(hN:X.N.Nodup)(hi:X.N[i]?=O x)(hx:JZ X.env.scope x)(he:DE X e m)(hs:swapsWith e (O (.Name x pos')) pos.line X.env=pure false:=by rfl)(hf:X.fn x=true\/X.env.scope.names.lookup x=O .local:=by first | exact .inl rfl | exact .inr rfl | assumption) :
  DS X (.Assign [.Name x pos'] e pos) (aE m (ah i)):=PS.imp (Pf hN hi hx he hs hf) λE σ H h=>by
 obtain⟨μ,S,env,o,hS,hE,hm,post⟩:=h
 obtain⟨⟨d,S1⟩,h1,hm⟩:=SJ.mp hm
 cases hm
 exact⟨μ,S,env,d,S1,hS,hE,h1,λv H1 μ1 e1 s1 r1=>post _ H1 μ1 e1 s1 ((hE.mono e1).set r1 i)⟩
structure ExtP(μ:Fp)(H:Hp)(μ':Fp)(H':Hp):Prop where
 fb:∃ l,μ'.fb=l++μ.fb/\∀ a∈l,H a=U
 pre:∃ l,μ'.cs = μ.cs++l/\∀ a∈l,H a=U
 keep:∀ a o,a ∉ μ.cs->H a=O o->H' a=O o
 dom:∀ a ∈ μ'.cs,H' a≠U
theorem Ext.toP(e:Ext μ H μ' H'):ExtP μ H μ' H':=⟨⟨[],by rw [e.fb];rfl,λ_ z=>by simp at z⟩,e.pre,e.keep,e.dom⟩
theorem ExtP.stays(e:ExtP μ H μ' H'){a:Addr}{o:HO}(h:H a=O o)(n:μ.no a):H' a=O o/\μ'.no a:=by
 refine⟨e.keep a o n.1 h,λz=>?_,λz=>?_⟩
 ·obtain⟨l,q,hl⟩:=e.pre
  rw [q] at z
  rcases Tr.mp z with z | z
  ·exact n.1 z
  ·rw [hl a z] at h;cases h
 ·obtain⟨l,q,hl⟩:=e.fb
  rw [q] at z
  rcases Tr.mp z with z | z
  ·rw [hl a z] at h;cases h
  ·exact n.2 z
theorem ExtP.then{μ'':Fp}{H'':Hp}(e:ExtP μ H μ' H')(f:Ext μ' H' μ'' H''):ExtP μ H μ'' H'':=by
 obtain⟨l,q,hl⟩:=e.pre
 obtain⟨l',q',hl'⟩:=f.pre
 refine⟨by rw [f.fb];exact e.fb,⟨l++l',by rw [q',q,TN],λa ha=>?_⟩,λa o n h=>?_,f.dom⟩
 ·rcases Tr.mp ha with ha | ha
  ·exact hl a ha
  ·have h1:=hl' a ha
   cases q2:H a with
   | none=>rfl
   | some o=>
    by_cases hm:a ∈ μ.cs
    ·exact absurd h1 (e.dom a (by rw [q];exact TV _ hm))
    ·rw [e.keep a o hm q2] at h1;cases h1
 ·have h1:=e.keep a o n h
  refine f.keep a o (λz=>?_) h1
  rw [q] at z
  rcases Tr.mp z with z | z
  ·exact n z
  ·rw [hl a z] at h;cases h
theorem ExtP.chg{p:Addr}{o:HO}(e:ExtP μ H μ' H')(hp:H p=U):ExtP μ H μ' (upd H' p o):=
 ⟨e.fb,e.pre,λa o' n h=>by rw [aD (bn h hp)];exact e.keep a o' n h,λa ha=>by
  by_cases z:a=p
  ·subst z;rw [aC];simp
  ·rw [aD z];exact e.dom a ha⟩
theorem ExtP.ix(e:ExtP μ H μ' H'){r:Nat}{a:Addr}(h:μ.cs[r]?=O a):μ'.cs[r]?=O a:=by
 obtain⟨l,q,_⟩:=e.pre
 exact yd q h
theorem Rep.monoP(e:ExtP μ H μ' H'){v:V}{d:D}(r:Rep K μ H v d):Rep K μ' H' v d:=r.imp e.stays e.ix
noncomputable def Aw(K:W.Frag)(μ:Fp)(H:Hp)(J:It)(xs:List D):Prop:=
 ∀ μ' H' S',ExtP μ H μ' H'->SOk K μ' S' H'->∀ i,(∀ d,xs[i]?=O d->J.go i H'/\∀ x H2,J.yld i H' x H2->Ext μ' H' μ' H2/\SOk K μ' S' H2/\Rep K μ' H2 x d)/\(xs.length<=i->J.stop i H')
inductive iM(K:W.Frag)(m:MA)(σ:L2.St)(H:Hp)(R:It->Hp->Prop):Prop
 | mk (μ:Fp) (S:aa) (env:av) (xs:List D) (S':aa) (hS:SOk K μ S H) (hE:EOk K μ H σ env) (h:m env S=O (xs,S')) (post:∀ J H' μ',Ext μ H μ' H'->SOk K μ' S' H'->Aw K μ' H' J xs->R J H')
noncomputable def DI(X:Cx)(tg iter:Expr)(m:MA):Prop:=PI X tg iter (iM X.K m)
theorem PI.imp{tg iter:Expr}{t t':TI}(h:PI X tg iter t)(i:∀ σ H R,t' σ H R->t σ H R):PI X tg iter t':=λpins s σ H R I q=>h pins s σ H R I (i σ H R q)
theorem lK{v:V}{a:Addr}{d:D}{xs:List D}(hd:d=.lst xs\/d=.rol xs)(r:Rep K μ H v d)(hv:v=.ref a):Aw K μ H (Itl K a) xs:=λμ' H' S' e s i=>by
 have r':=r.monoP e
 obtain⟨vs,q,rs⟩:∃ vs,jk K H' a vs/\Reps K μ' H' vs xs:=by
  subst hv
  rcases hd with rfl | rfl
  ·obtain⟨a',vs,ea,q,_,rs⟩:=r'.sqL;cases ea;exact⟨vs,.inl (.inl q),rs⟩
  ·obtain⟨a',vs,ea,q,rs⟩:=r'.sqR;cases ea;exact⟨vs,q,rs⟩
 refine⟨λd hd=>?_,λhl=>⟨vs,q,by rw [rs.length];exact hl⟩⟩
 obtain⟨v,hv,rv⟩:=rs.get hd
 refine⟨⟨vs,v,q,hv⟩,λx H2 ⟨e2,hy⟩=>?_⟩
 subst e2
 have:=hy vs q
 rw [hv] at this;cases this
 exact⟨s.ext,s,rv⟩
theorem zL{a:Addr}{xs:List D}(r:Rep K μ H (.ref a) (.tup xs)):Aw K μ H (Itt K a) xs:=λμ' H' S' e s i=>by
 obtain⟨a',vs,ea,q,rs⟩:=(r.monoP e).sqT
 cases ea
 refine⟨λd hd=>?_,λhl=>⟨vs,q,by rw [rs.length];exact hl⟩⟩
 obtain⟨v,hv,rv⟩:=rs.get hd
 refine⟨⟨vs,v,q,hv⟩,λx H2 ⟨e2,hy⟩=>?_⟩
 subst e2
 have:=hy vs q
 rw [hv] at this;cases this
 exact⟨s.ext,s,rv⟩
variable{tg iter:Expr}
noncomputable def bj(lo:Int)(n:Nat):List D:=(List.range n).map λ(i:Nat)=>D.int (lo+(i:Int))
theorem rM(lo:Int)(n i:Nat)(d:D)(h:(bj lo n)[i]?=O d):i<n/\d=.int (lo+(i:Int)):=by
 unfold bj at h
 rw [UN] at h
 cases q:(List.range n)[i]? with
 | none=>rw [q] at h;cases h
 | some j=>
  rw [q] at h;cases h
  obtain⟨h1,h2⟩:=SR.mp q
  simp at h1 h2
  exact⟨h1,by rw [h2]⟩
theorem mR(lo:Int)(n:Nat):Aw K μ H (Itr lo n) (bj lo n):=λμ' H' S' e s i=>by
 refine⟨λd hd=>?_,λhl=>?_⟩
 ·obtain⟨h1,rfl⟩:=rM lo n i d hd
  refine⟨h1,λx H2 ⟨e2,hy⟩=>?_⟩
  subst e2 hy
  exact⟨s.ext,s,.int _⟩
 ·have:(bj lo n).length=n:=by simp [bj]
  rw [this] at hl;exact hl
noncomputable def aL(ms:MA):MA:=λenv S=>(ms env S).bind λp=>match p.1 with | [.int j]=>if -(2 ^ 62)<=j/\j<2 ^ 62 then O (bj 0 j.toNat,p.2) else U | _=>U
noncomputable def cq(ms:MA):MA:=λenv S=>(ms env S).bind λp=>match p.1 with | [.int i,.int j]=>if -(2 ^ 62)<=i/\i<2 ^ 62/\-(2 ^ 62)<=j/\j<2 ^ 62 then O (bj i (j - i).toNat,p.2) else U | _=>U
theorem EX{a:Expr}{ms:MA}{p:Pos}(hm:X.mg "range" = U)(ha:DA X [a] ms)(hg:Gl X "range":=by rfl)(hs:starEach [a] X.env=[(false,eval a X.env)]:=by rfl):DI X tg (.Call (.Name "range" p) [a] [] pos) (aL ms):=
 PI.imp (uL hg hm ha hs) λσ H R ⟨μ,S,env,xs,S',hS,hE,hm,post⟩=>by
  obtain⟨⟨ds,S1⟩,h1,hm⟩:=SJ.mp hm
  refine⟨μ,S,env,ds,S1,hS,hE,h1,λvs H1 μ1 e1 s1 r1=>?_⟩
  dsimp only at hm
  split at hm
  ·split at hm
   ·rename_i hb
    cases hm
    obtain⟨v,rfl,r⟩:=r1.one
    exact⟨_,by rw [r.int_inv],hb.1,hb.2,post _ H1 μ1 e1 s1 (mR 0 _)⟩
   ·cases hm
  ·cases hm
theorem EW{a b:Expr}{ms:MA}{p:Pos}(hm:X.mg "range" = U)(ha:DA X [a,b] ms)(hg:Gl X "range":=by rfl)(hs:starEach [a,b] X.env=[(false,eval a X.env),(false,eval b X.env)]:=by rfl)(hs2:starEach [b] X.env=[(false,eval b X.env)]:=by rfl):DI X tg (.Call (.Name "range" p) [a,b] [] pos) (cq ms):=
 PI.imp (DV hg hm ha hs hs2) λσ H R ⟨μ,S,env,xs,S',hS,hE,hm,post⟩=>by
  obtain⟨⟨ds,S1⟩,h1,hm⟩:=SJ.mp hm
  refine⟨μ,S,env,ds,S1,hS,hE,h1,λvs H1 μ1 e1 s1 r1=>?_⟩
  dsimp only at hm
  split at hm
  ·split at hm
   ·rename_i hb
    cases hm
    obtain⟨v,w,rfl,r,r'⟩:=r1.two
    exact⟨_,_,by rw [r.int_inv,r'.int_inv],hb,post _ H1 μ1 e1 s1 (mR _ _)⟩
   ·cases hm
  ·cases hm
noncomputable def cx(g:MG)(body:MS):List D->av->aa->Option qI
 | [],env,S=>O (.nx env S)
 | d::ds,env,S=>(g d env S).bind λp=>(body p.1 p.2).bind λo=>match o with
  | .nx e s=>cx g body ds e s
  | .ct e s=>cx g body ds e s
  | .bk e s=>O (.nx e s)
  | .rt d s=>O (.rt d s)
noncomputable def gG(mi:MA)(g:MG)(body:MS):MS:=λenv S=>(mi env S).bind λp=>cx g body p.1 env p.2
theorem Je{body:List Stmt}{mi:MA}{g:MG}{mb:MS}(hp:PassesOwn (model X.prog X.w) X.A X.env X.xe)(hc:X.calm=true)(hi:DI X tg iter mi)(hg:DG X tg g)(hb:yi X body mb)
  (hs:∀ x,foldedSetIterable iter X.env x=pure x:=by intro _;rfl):DS X (.For tg iter body [] pos) (gG mi g mb):=PS.imp (GB hp hc hi hg hb hs) λE σ H ⟨μ,S,env,o,hS,hE,hm,post⟩=>by
 obtain⟨⟨xs,S1⟩,h1,hm⟩:=SJ.mp hm
 refine⟨μ,S,env,xs,S1,hS,hE,h1,λJ H1 μ1 e1 s1 it=>?_⟩
 refine⟨λi n σ H=>n=xs.length - i/\i<=xs.length/\∃ μ' S' env' o',Ext μ1 H1 μ' H/\SOk X.K μ' S' H/\EOk X.K μ' H σ env'/\cx g mb (xs.drop i) env' S'=O o'/\PostS X.K μ' H o' E,
  ⟨xs.length,by simp,UA _,μ1,S1,env,o,s1.ext,s1,hE.mono e1,by rw [UF];exact hm,post.ext e1⟩,?_⟩
 rintro i n σ' H' ⟨rfl,hi,μ',S',env',o',e',s',r',hl,post'⟩
 have iti:=it μ' H' S' e'.toP s' i
 by_cases hlt:i<xs.length
 ·refine .inr ⟨(iti.1 xs[i] (Tb hlt)).1,λσ2 H2=>∃ μ2 S2 env2 o2,Ext μ1 H1 μ2 H2/\SOk X.K μ2 S2 H2/\EOk X.K μ2 H2 σ2 env2/\cx g mb (xs.drop (i+1)) env2 S2=O o2/\PostS X.K μ2 H2 o2 E,
   λσ2 H2 ⟨μ2,S2,env2,o2,q1,q2,q3,q4,q5⟩=>⟨xs.length - (i+1),by omega,rfl,hlt,μ2,S2,env2,o2,q1,q2,q3,q4,q5⟩,λx H2 y=>?_⟩
  obtain⟨e2,s2,rx⟩:=(iti.1 xs[i] (Tb hlt)).2 x H2 y
  rw [TW hlt] at hl
  obtain⟨⟨env3,S3⟩,h3,hl⟩:=SJ.mp hl
  obtain⟨o4,h4,hl⟩:=SJ.mp hl
  refine⟨μ',S',env',xs[i],env3,S3,s2,r'.mono e2,rx,h3,λσ3 H3 μ3 e3 s3 r3=>⟨μ3,S3,env3,o4,s3,r3,h4,?_⟩⟩
  have eT:Ext μ1 H1 μ3 H3:=(e'.trans e2).trans e3
  have pT:PostS X.K μ3 H3 o' E:=(post'.ext e2).ext e3
  cases o4 with
  | nx e5 s5=>exact λσ6 H6 μ6 e6 s6 r6=>⟨μ6,s5,e5,o',eT.trans e6,s6,r6,hl,pT.ext e6⟩
  | ct e5 s5=>exact λσ6 H6 μ6 e6 s6 r6=>⟨μ6,s5,e5,o',eT.trans e6,s6,r6,hl,pT.ext e6⟩
  | bk e5 s5=>cases hl;exact pT
  | rt d5 s5=>cases hl;exact pT
 ·have e:i=xs.length:=by omega
  subst e
  refine .inl ⟨iti.2 (SS _),?_⟩
  rw [UT] at hl
  cases hl
  exact post' σ' H' μ' s'.ext s' r'
noncomputable def iX(cap:List (Option Nat))(env:av):av:=cap.map λo=>o.bind λi=>(env[i]?).join
noncomputable def Ax(X:Cx)(ifs:List Expr)(m:MT):Prop:=Dv X ifs (qv X.K m)
theorem Ml:Ax X [] (λ_ S=>O (true,S)):=λpins s σ H Q I ⟨μ,S,env,b,S',hS,hE,hm,post⟩=>by cases hm;exact KF pins s σ H Q I (post H μ hS.ext hS)
theorem Mk{c:Expr}{t:MT}(h:DT X c t):Ax X [c] t:=KE h
noncomputable def er(g:MG)(t:MT)(e:ME):List D->av->aa->Option (List D×aa)
 | [],_,S=>O ([],S)
 | d::ds,env,S=>(g d env S).bind λp=>(t p.1 p.2).bind λb=>if b.1=true then (e p.1 b.2).bind λq=>(er g t e ds p.1 q.2).bind λr=>O (q.1::r.1,r.2) else er g t e ds p.1 b.2
noncomputable def bF(mi:MA)(g:MG)(t:MT)(e:ME)(cap:List (Option Nat)):ME:=λenv S=>(mi env S).bind λp=>if p.1.length<=sizeLine then (er g t e p.1 (iX cap env) p.2).bind λq=>O (.lst q.1,q.2) else U
theorem yr{mi:MA}{g:MG}{t:MT}{e:ME}{cap:List (Option Nat)}{σ:L2.St}{Q:VK}(h:tM K (bF mi g t e cap) σ H Q):FV (iM K mi) (yh K g) (qv K t) (tM K e) cap σ H Q:=by
 obtain⟨μ,S,env,d,S',hS,hE,hm,post⟩:=h
 obtain⟨⟨xs,S1⟩,h1,hm⟩:=SJ.mp hm
 dsimp only at hm
 split at hm
 case isFalse=>cases hm
 rename_i hsz
 obtain⟨⟨ys,S2⟩,h2,hm⟩:=SJ.mp hm
 cases hm
 refine⟨μ,S,env,xs,S1,hS,hE,h1,λJ H1 μ1 e1 s1 it p hp=>?_⟩
 have hpn:=s1.notMem hp
 refine⟨λi n σ' H'=>n=xs.length - i/\i<=xs.length/\∃ (cs:List Addr) (S':aa) (env':av) (vs:List V) (zs rest:List D),ExtP μ1 H1 ⟨cs,p::μ1.fb⟩ H'/\SOk K ⟨cs,p::μ1.fb⟩ S' H'/\EOk K ⟨cs,p::μ1.fb⟩ H' σ' env'/\H' p=O (.lst vs) /\
   Reps K ⟨cs,p::μ1.fb⟩ H' vs zs/\er g t e (xs.drop i) env' S'=O (rest,S2)/\ys=zs++rest/\vs.length<=i,⟨xs.length,by simp,UA _,μ1.cs,S1,iX cap env,[],[],ys,?_,s1.more hp,?_,aC,.nil,by rw [UF];exact h2,rfl,SS _⟩,?_⟩
 ·exact⟨⟨[p],rfl,λa z=>by rw [Tg.mp z];exact hp⟩,⟨[],by simp,λ_ z=>by simp at z⟩,λa o' n h=>by rw [aD (bn h hp)];exact h,λa ha=>by
   by_cases z:a=p
   ·subst z;rw [aC];simp
   ·rw [aD z];exact s1.dom a ha⟩
 ·exact((hE.mono e1).block cap).more hp
 rintro i n σ' H' ⟨rfl,hi,cs,S',env',vs,zs,rest,eP,s',r',hpv,rz,hl,rfl,hvl⟩
 have iti:=it _ H' S' eP s' i
 by_cases hlt:i<xs.length
 ·refine .inr ⟨(iti.1 xs[i] (Tb hlt)).1,λx H2 y=>?_⟩
  obtain⟨e2,s2,rx⟩:=(iti.1 xs[i] (Tb hlt)).2 x H2 y
  rw [TW hlt] at hl
  obtain⟨⟨env3,S3⟩,h3,hl⟩:=SJ.mp hl
  obtain⟨⟨b,S4⟩,h4,hl⟩:=SJ.mp hl
  refine⟨_,S',env',xs[i],env3,S3,s2,r'.mono e2,rx,h3,λσ3 H3 μ3 e3 s3 r3=>⟨μ3,S3,env3,b,S4,s3,r3,h4,λH4 μ4 e4 s4=>?_⟩⟩
  have eA:=(e2.trans e3).trans e4
  have pcs:p ∉ cs:=λz=>s'.disj p SN z
  cases b with
  | false=>
   rw [Ts SZ] at hl
   dsimp only
   rw [Ts SZ]
   obtain⟨cs4,fb4⟩:=μ4
   have hfb:fb4=p::μ1.fb:=eA.fb
   subst hfb
   exact⟨xs.length - (i+1),by omega,rfl,hlt,cs4,S4,env3,vs,zs,rest,eP.then eA,s4,r3.mono e4,(eA.keeps hpv pcs).1,rz.mono eA,hl,rfl,by omega⟩
  | true=>
   rw [Td rfl] at hl
   dsimp only
   rw [Td rfl]
   obtain⟨⟨dv,S5⟩,h5,hl⟩:=SJ.mp hl
   obtain⟨⟨rs,S6⟩,h6,hl⟩:=SJ.mp hl
   cases hl
   refine⟨μ4,S4,env3,dv,S5,s4,r3.mono e4,h5,λv H5 μ5 e5 s5 r5=>?_⟩
   have eB:=eA.trans e5
   obtain⟨cs5,fb5⟩:=μ5
   have hfb:fb5=p::μ1.fb:=eB.fb
   subst hfb
   refine⟨vs,(eB.keeps hpv pcs).1,by omega,xs.length - (i+1),by omega,rfl,hlt,cs5,S5,env3,vs++[v],zs++[dv],rs,(eP.then eB).chg hp,s5.chg SN,((r3.mono e4).mono e5).chg SN,aC,Reps.chg SN ((rz.mono eB).append (.cons r5 .nil)),h6,by simp,by rw [Tl,Vf];omega⟩
 ·have e:i=xs.length:=by omega
  subst e
  refine .inl ⟨iti.2 (SS _),?_⟩
  rw [UT] at hl
  cases hl
  have eF:Ext μ1 H1 ⟨cs,μ1.fb⟩ H':=⟨rfl,eP.pre,eP.keep,eP.dom⟩
  dsimp only at post
  rw [Tx] at post
  exact post _ H' ⟨cs,μ1.fb⟩ (e1.trans eF) s'.less (.lst hpv ⟨λz=>s'.disj p SN z,hpn.2⟩ rz.less)
theorem MX{elt:Expr}{ifs:List Expr}{scope:Scope}{N':List Str}{cap:List (Option Nat)}{mi:MA}{g:MG}{t:MT}{me:ME}
  (hc:X.calm=true) (B:BlockOk X N' scope cap) (hi:DI X tg iter mi) (hg:∀ C s H fp,DG (fU X N' scope C s H fp) tg g) (ht:∀ C s H fp,Ax (fU X N' scope C s H fp) ifs t) (he:∀ C s H fp,DE (fU X N' scope C s H fp) elt me)
  (hs:∀ x,foldedSetIterable iter X.env x=pure x:=by intro _;rfl):DE X (.ListComp elt [⟨tg,iter,ifs,0⟩] scope pos) (bF mi g t me cap):=
 PE.imp (La (g:=yh X.K g) (tt:=qv X.K t) (te:=tM X.K me) hc B hi hg ht he hs) λ_ _ _ h=>yr h
theorem BP{elt:Expr}{ifs:List Expr}{scope:Scope}{spos py:Pos}{N':List Str}{cap:List (Option Nat)}{mi:MA}{g:MG}{t:MT}{me:ME}{y:Str}{i:Nat}
  (hN:X.N.Nodup) (hy:X.N[i]?=O y) (hx:JZ X.env.scope y)
  (hc:X.calm=true) (B:BlockOk X N' scope cap) (hi:DI X tg iter mi) (hg:∀ C s H fp,DG (fU X N' scope C s H fp) tg g) (ht:∀ C s H fp,Ax (fU X N' scope C s H fp) ifs t) (he:∀ C s H fp,DE (fU X N' scope C s H fp) elt me)
  (hsw:swapsWith (.ListComp elt [⟨tg,iter,ifs,0⟩] scope pos) (O (.Name y py)) spos.line X.env=pure true:=by rfl)
  (hs:∀ x,foldedSetIterable iter X.env x=pure x:=by intro _;rfl) (hf:X.fn y=true\/X.env.scope.names.lookup y=O .local:=by first | exact .inl rfl | exact .inr rfl | assumption) :
  DS X (.Assign [.Name y py] (.ListComp elt [⟨tg,iter,ifs,0⟩] scope pos) spos) (aE (bF mi g t me cap) (ah i)):=
 PS.imp (AV (g:=yh X.K g) (tt:=qv X.K t) (te:=tM X.K me) hN hy hx hc B hi hg ht he hsw hs hf) λE σ H h=>by
  obtain⟨μ,S,env,o,hS,hE,hm,post⟩:=h
  obtain⟨⟨d,S1⟩,h1,hm⟩:=SJ.mp hm
  cases hm
  exact yr ⟨μ,S,env,d,S1,hS,hE,h1,λv H1 μ1 e1 s1 r1=>post _ H1 μ1 e1 s1 ((hE.mono e1).set r1 i)⟩
end
section
variable{X:Cx}{K:W.Frag}{μ μ':Fp}{H H':Hp}{S:aa}{pos p2:Pos}{tg iter:Expr}{m:ME}
noncomputable def uk(N N':List Str)(kX kB:Str->Option NameKind):List (Option Nat)->List Str->Bool
 | [],[]=>true
 | none::r,_::s=>uk N N' kX kB r s
 | some i::r,y::s=>N[i]? == O y&&(kX y == O .cell||kX y == O .free)&&(kB y == O .cell||kB y == O .free)&&uk N N' kX kB r s
 | _,_=>false
theorem xY{N N':List Str}{kX kB:Str->Option NameKind}:∀ {cap:List (Option Nat)} {ys:List Str},uk N N' kX kB cap ys=true->cap.length=ys.length/\∀ (j i:Nat),cap[j]?=O (O i)->∃ y,ys[j]?=O y/\N[i]?=O y/\(kX y=O .cell\/kX y=O .free)/\(kB y=O .cell\/kB y=O .free)
 | [],[],_=>⟨rfl,λj i e=>by simp at e⟩
 | none::r,y::s,h=>by
  obtain⟨h1,h2⟩:=xY (cap:=r) (ys:=s) h
  refine⟨by simp [h1],λj i e=>?_⟩
  cases j with
  | zero=>simp at e
  | succ j=>simpa using h2 j i (by simpa using e)
 | some k::r,y::s,h=>by
  rw [uk,SM,SM,SM,VR,VR] at h
  obtain⟨h1,h2⟩:=xY (cap:=r) (ys:=s) h.2
  refine⟨by simp [h1],λj i e=>?_⟩
  cases j with
  | zero=>
   simp at e;subst e
   refine⟨y,rfl,by simpa using h.1.1.1,?_,?_⟩
   ·exact h.1.1.2.imp (λz=>by simpa using z) λz=>by simpa using z
   ·exact h.1.2.imp (λz=>by simpa using z) λz=>by simpa using z
  | succ j=>simpa using h2 j i (by simpa using e)
 | [],_::_,h=>by simp [uk] at h
 | none::_,[],h=>by simp [uk] at h
 | some _::_,[],h=>by simp [uk] at h
theorem blk{N':List Str}{scope:Scope}{cap:List (Option Nat)}(nd:N'.Nodup)(k:scope.kind=.function:=by rfl)(nc:(scope.names.all λx=>x.2 != .cell)=true:=by rfl)(nm:(scope.names.all λx=>x.2 != .local||scope.names.lookup x.1 == O .local)=true:=by rfl)
  (fr:(scope.names.all λx=>x.2 != .free||X.env.kindOf x.1 == O .cell||X.env.kindOf x.1 == O .free)=true:=by rfl)
  (cp:uk X.N N' X.env.kindOf (λy=>(relabel scope X.env).names.lookup y) cap N'=true:=by rfl):BlockOk X N' scope cap:=by
 obtain⟨h1,h2⟩:=xY cp
 refine⟨k,λx hx=>?_,λx hx hl=>?_,λx hx hf=>?_,nd,h1,λj i e=>?_⟩
 ·have:=Tj.mp nc x hx
  simpa using this
 ·have:=Tj.mp nm x hx
  simpa [hl] using this
 ·have:=Tj.mp fr x hx
  simpa [hf] using this
 ·obtain⟨y,a,b,c,d⟩:=h2 j i e
  exact⟨y,a,b,.inr c,c,d⟩
theorem GG{l:Expr}{tl:TE}(hl:PE X l tl):PI X tg l (λσ H R=>tl σ H λx H1=>∃ a,x=.ref a/\(((∃ xs,jk X.K H1 a xs)/\R (Itl X.K a) H1)\/((∃ xs,kS X.K H1 a xs)/\R (Itt X.K a) H1))):=by
 intro pins s σ H R I h
 refine cF (hl pins s σ H _ I h) λv s1 ⟨x,H1,I1,r1,q1⟩=>?_
 obtain⟨a,e,⟨⟨xs,hq⟩,q⟩ | ⟨⟨xs,hq⟩,q⟩⟩:=q1
 ·subst e
  cases r1
  obtain⟨its,rv,p,hz⟩:=I1.list hq
  refine UJ p.isList ?_
  refine⟨s1.heap.objs.size,[s1.heap.objs.size],_,_,H1,rfl,I1.kept (t':=s1.toks) λb o e=>SL _ e,uu a _,⟨_,SW _ rfl,rfl,rfl⟩,λb hb=>?_,q⟩
  have e:b=s1.heap.objs.size:=by simpa using hb
  subst e
  exact I1.fpOk (SS _) (I1.hok.fresh (SS _))
 ·subst e
  cases r1
  obtain⟨its,rv,p,hz⟩:=I1.tuple hq
  refine UV (show s1.heap.IsTuple a its.toArray from p) ?_
  refine⟨s1.heap.objs.size,[s1.heap.objs.size],_,_,H1,rfl,I1.kept (t':=s1.toks) λb o e=>SL _ e,AD a _,⟨_,SW _ rfl,rfl,rfl⟩,λb hb=>?_,q⟩
  have e:b=s1.heap.objs.size:=by simpa using hb
  subst e
  exact I1.fpOk (SS _) (I1.hok.fresh (SS _))
noncomputable def cf(m:ME):MA:=λenv S=>(m env S).bind λp=>match p.1 with | .lst xs=>O (xs,p.2) | .rol xs=>O (xs,p.2) | .tup xs=>O (xs,p.2) | _=>U
theorem BU(h:DE X iter m):DI X tg iter (cf m):=PI.imp (GG h) λσ H R ⟨μ,S,env,xs,S',hS,hE,hm,post⟩=>by
 obtain⟨⟨d,S1⟩,h1,hm⟩:=SJ.mp hm
 refine⟨μ,S,env,d,S1,hS,hE,h1,λv H1 μ1 e1 s1 r1=>?_⟩
 cases d with
 | lst ys=>
  cases hm
  have r1':=r1
  obtain⟨a,vs,rfl,q,_,rs⟩:=r1.sqL
  exact⟨a,rfl,.inl ⟨⟨vs,.inl (.inl q)⟩,post _ H1 μ1 e1 s1 (lK (.inl rfl) r1' rfl)⟩⟩
 | rol ys=>
  cases hm
  have r1':=r1
  obtain⟨a,vs,rfl,q,rs⟩:=r1.sqR
  exact⟨a,rfl,.inl ⟨⟨vs,q⟩,post _ H1 μ1 e1 s1 (lK (.inr rfl) r1' rfl)⟩⟩
 | tup ys=>
  cases hm
  have r1':=r1
  obtain⟨a,vs,rfl,q,rs⟩:=r1.sqT
  exact⟨a,rfl,.inr ⟨⟨vs,q⟩,post _ H1 μ1 e1 s1 (zL r1')⟩⟩
 | _=>cases hm
end
noncomputable def aU(N:List Str)(m:MS)(n:Nat):List D->aa->Option (D×aa):=λds S=>if ds.length=n then (m (aM N ds) S).bind λo=>match o with | .rt d S'=>O (d,S') | .nx _ S'=>O (.non,S') | _=>U else U
theorem uH{N:List Str}{m:MS}{n:Nat}{ds:List D}{S S':aa}{d:D}(h:aU N m n ds S=O (d,S')):Runs m (aM N ds) S d S':=by
 unfold aU at h
 split at h
 ·obtain⟨o,h1,h⟩:=SJ.mp h
  cases o with
  | rt d' S2=>cases h;exact .ret h1
  | nx e S2=>cases h;exact⟨_,[],h1,.inl rfl,.inr ⟨rfl,e,by rw [Tx]⟩⟩
  | bk _ _=>cases h
  | ct _ _=>cases h
 ·cases h
structure bJ(K:W.Frag)(mg:Str->Option Value)(x:Str)(st:Stmt):Prop where
 ex:∃ (a:Addr) (fd:FuncData),L2.Fun K x x st a fd/\mg x=O (.ref a)
noncomputable def tW(x:Str)(st:Stmt)(ps:List Str):Prop:=∀ (kV doc pm:Value) (an:Option Addr) (cdv ct:Value) (us:List Value),us.length=ps.length->bindArgs (W.fnOf x x (iw st) (aB st) (am st) .none kV doc pm an cdv ct) ⟨us,[]⟩=pure (ps.zip us)
theorem RW{P:Program}{w:World}{K:W.Frag}{mg:Str->Option Value}{base:Heap}{k:Nat}{x:Str}{st:Stmt}{N ps:List Str}{m:MS}
  (F:bJ K mg x st) (Sc:aH N ps (am st)) (hb:tW x st ps)
  (hbody:∀ (a:Addr) (cdv:Value) (A:Around) (outer:List PySem.Env) (s:Shared) (H:Hp) (E:XK),Room k (A.deeper (envOfC x (am st) s.heap.objs.size a cdv)) ->
   yi (uh FD P w K mg base N x (am st) a cdv A outer s H E).nox (aB st) m) :
  Fn P w K mg base (k+1) x ps.length (aU N m ps.length):=by
 obtain⟨a,fd,F,hmg⟩:=F.ex
 exact Od F Sc hmg (F.binds hb) λcdv A outer s H E hr=>⟨m,hbody a cdv A outer s H E hr,λds S d S' hn hS hd h=>uH h⟩
theorem Fn.up{P:Program}{w:World}{K:W.Frag}{mg:Str->Option Value}{base:Heap}{k k':Nat}{x:Str}{n:Nat}{f:List D->aa->Option (D×aa)}(F:Fn P w K mg base k x n f)(h:k<=k'):Fn P w K mg base k' x n f:=by
 obtain⟨a,fd,ps,h1,h2,h3⟩:=F.ex
 exact⟨a,fd,ps,h1,h2.mono h,h3⟩
theorem Qi{K:W.Frag}{f:List D->aa->Option (D×aa)}(h:∀ ns:List Int,ns.length<=63->∃ S',f [.rol (ns.map .int)] []=O (.bl true,S')){H:Hp}{a:Addr}{ns:List Int}{E:XK}(hl:ns.length<=63)(hS:jk K H a (ns.map V.int)) :
  Kp K 1 f [.ref a] H (λv _=>v=.bl true) E:=by
 obtain⟨S',hf⟩:=h ns hl
 have hr:∀ l:List Int,Reps K ⟨[],[]⟩ H (l.map V.int) (l.map D.int):=λl=>by
  induction l with
  | nil=>exact .nil
  | cons x l ih=>exact .cons (.int x) ih
 refine⟨⟨[],[]⟩,[],_,_,S',⟨List.nodup_nil,rfl,λr a c h=>by simp at h,λa h=>by simp at h,λa h=>by simp at h⟩,.cons ?_ .nil,rfl,hf,λv H' μ' e s r=>r.bl_inv⟩
 rcases hS with hS | hS
 ·exact .rol hS ⟨by simp,by simp⟩ (hr ns)
 ·exact .krol hS (hr ns)
noncomputable def RC(_:aa)(x:D):Option D:=match x with | .int i=>O (.int (-i)) | _=>U
theorem Kh{X:Cx}:UnR X (unaryOp .USub) (rM1 X.K RC):=Oz
noncomputable def aG:MT:=λ_ S=>O (true,S)
theorem Jb{X:Cx}:Ax X [] aG:=Ml
theorem Qj{P:Program}{w:World}{K:W.Frag}{mg:Str->Option Value}{k:Nat}{st:Stmt}{N:List Str}{m:MS}{fa:Addr}(F:bJ K mg "law" st)(hfa:mg "law" = O (.ref fa))(Sc:aH N ["_law_script"] (am st))
  (hbt:∀ (kV doc pm:Value) (an:Option Addr) (cdv ct v:Value),bindArgs (W.fnOf "law" "law" (iw st) (aB st) (am st) .none kV doc pm an cdv ct) ⟨[v],[]⟩=pure [(("_law_script":Str),v)])
  (hbody:∀ (base:Heap) (a:Addr) (cdv:Value) (A:Around) (outer:List PySem.Env) (s:Shared) (H:Hp) (E:XK),Room k (A.deeper (envOfC "law" (am st) s.heap.objs.size a cdv)) ->
   yi (uh FD P w K mg base N "law" (am st) a cdv A outer s H E).nox (aB st) m) :
  ∃ fd:FuncData,(∀ (s:Shared) (v:Value),BindsTo s fd ⟨[v],[]⟩ [("_law_script",v)])/\∀ base:Heap,K.In base->base.Ns mainGlobals mg->FnOk P w K mg base FD (k+1) fa fd ["_law_script"] (Kp K 1 (aU N m 1)):=by
 obtain⟨a,fd,F,hmg⟩:=F.ex
 rw [hfa] at hmg
 have e:fa=a:=by cases hmg;rfl
 subst e
 refine⟨fd,λs v=>?_,λbase _ _=>Oc F Sc λcdv A outer s H E hr=>⟨m,hbody base fa cdv A outer s H E hr,λds S d S' hn hS hd h=>uH h⟩⟩
 obtain⟨oc,od,kV,doc,pm,an,cdv,ct,osl,rfl,lk,hcd⟩:=F.ex
 exact .of_eq (hbt kV doc pm an cdv ct v)
end M
namespace HT
open AutoSeq1 (wpAny_loadPart')
theorem Be:fillsNumberSlot (.type "tuple") "mul" = pure false:=
 PySem.fillsNumberSlot_seq (id:="tuple.__mul__") (r:=O (.builtin "tuple.__rmul__"))
  F.slot_tuple_mul.lookup (by decide +kernel) F.slot_tuple_rmul.lookup (by decide +kernel)
theorem OW:seqRepeat? (.type "tuple")=pure (O (.builtin "tuple.__mul__")):=by
 unfold seqRepeat?
 rw [PySem.seqSlot_of (T:="tuple") (name:="__mul__") (id:="tuple.__mul__") F.slot_tuple_mul.lookup (by decide +kernel)]
 rw [PySem.seqSlot_of (T:="tuple") (name:="__rmul__") (id:="tuple.__rmul__") F.slot_tuple_rmul.lookup (by decide +kernel)]
 rfl
theorem Gu(a:Int)(t:Tok)(l:Addr)(items:Array Value)(n:Nat)(dd:Option Addr)(sl:Array (Option Value)) :
  Meets (Builtin.«int.__rmul__» ⟨[.int a t,.ref l],[]⟩) (λ_ R s=>s.heap.get? l=O ⟨.type "tuple",dd,.seq items n,sl⟩/\R (.ok (.ret Value.notImplemented)) s):=
 .of_wp λprog w A R s h=>by
  obtain⟨hp,g,d,tk,os⟩:=s
  obtain⟨hl,h⟩:=h
  wp_walk
  exact⟨_,rfl,h⟩
theorem mulT0(l:Addr)(items:Array Value)(n:Nat)(k:Int)(t:Tok)(dd:Option Addr)(sl:Array (Option Value))(h1:¬ (decide (k < -(2 ^ 63))||decide (k≥2 ^ 63))=true)(hc:(items.isEmpty||k == 1)=true) :
  Meets (Builtin.«tuple.__mul__» ⟨[.ref l,.int k t],[]⟩) (λ_ R s=>s.heap.get? l=O ⟨.type "tuple",dd,.seq items n,sl⟩/\R (.ok (.ret (.ref l))) s):=
 .of_wp λprog w A R s h=>by
  obtain⟨hp,g,d,tk,os⟩:=s
  obtain⟨hl,h⟩:=h
  have f1:=Ws
  have f2:=VA
  wp_walk using wpAny_loadPart' hl
  rw [Ts h1]
  wp_walk using wpAny_loadPart' hl
  exact⟨_,rfl,h⟩
theorem mulT1(l:Addr)(items:Array Value)(n:Nat)(k:Int)(t:Tok)(dd:Option Addr)(sl:Array (Option Value))(h1:¬ (decide (k < -(2 ^ 63))||decide (k≥2 ^ 63))=true)(hc:¬ (items.isEmpty||k == 1)=true)(hk:(decide (k<=0)||items.isEmpty)=true) :
  Meets (Builtin.«tuple.__mul__» ⟨[.ref l,.int k t],[]⟩) (λ_ R s=>s.heap.get? l=O ⟨.type "tuple",dd,.seq items n,sl⟩/\R (.ok (.ret (.ref s.heap.objs.size))) { s with heap:=s.heap.push { cls:=.type "tuple",data:=.seq #[] },toks:=s.toks }):=
 .of_wp λprog w A R s h=>by
  obtain⟨hp,g,d,tk,os⟩:=s
  obtain⟨hl,h⟩:=h
  have f1:=Ws
  have f2:=VA
  wp_walk using wpAny_loadPart' hl
  rw [Ts h1]
  wp_walk using wpAny_loadPart' hl
  exact⟨_,rfl,h⟩
theorem mulT2(l:Addr)(items:Array Value)(n:Nat)(k:Int)(t:Tok)(dd:Option Addr)(sl:Array (Option Value))(h1:¬ (decide (k < -(2 ^ 63))||decide (k≥2 ^ 63))=true)(hc:¬ (items.isEmpty||k == 1)=true)(hk:¬ (decide (k<=0)||items.isEmpty)=true)
  (hb:¬ ((items.size:Int) * k>(2 ^ 63 - 1) / 8)) (hm:¬ Builtin.Tuple.tupleTooMany ((items.size:Int) * k)=true) (hz:(List.foldl (λx1 x2=>x1++x2) #[] (List.replicate k.toNat items)).size<=sizeLine) :
  Meets (Builtin.«tuple.__mul__» ⟨[.ref l,.int k t],[]⟩) (λ_ R s=>s.heap.get? l=O ⟨.type "tuple",dd,.seq items n,sl⟩/\R (.ok (.ret (.ref s.heap.objs.size))) { s with heap:=s.heap.push { cls:=.type "tuple",data:=.seq (List.foldl (λx1 x2=>x1++x2) #[] (List.replicate k.toNat items)) },toks:=s.toks }):=
 .of_wp λprog w A R s h=>by
  obtain⟨hp,g,d,tk,os⟩:=s
  obtain⟨hl,h⟩:=h
  have f1:=Ws
  have f2:=VA
  wp_walk using wpAny_loadPart' hl
  rw [Ts h1]
  wp_walk using wpAny_loadPart' hl
  rw [Ts hb]
  wp_walk using wpAny_loadPart' hl
  exact⟨_,rfl,h⟩
end HT
namespace L2
section
variable{X:Cx}
theorem vrep{xs:List V}{us:List Value}(h:Vals xs us):∀ k:Nat,Vals (List.replicate k xs).flatten (List.replicate k us).flatten
 | 0=>.nil
 | k+1=>by rw [Tv,Tv,Ud,Ud];exact h.append (vrep h k)
theorem frep(its:List Value):∀ (m:Nat) (acc:List Value),List.foldl (λx1 x2=>x1++x2) acc.toArray (List.replicate m its.toArray)=(acc++(List.replicate m its).flatten).toArray
 | 0,acc=>by simp
 | m+1,acc=>by
  rw [Tv,Ul,List.append_toArray,frep its m (acc++its),Tv,Ud,TN]
noncomputable def rRepT(K:W.Frag):R2:=λx y H Q=>∃ a k xs,x=.ref a/\y=.int k/\kS K H a xs/\-(2 ^ 62)<=k/\k<2 ^ 62/\xs.length * k.toNat<=sizeLine /\
 ((xs=[]\/k=1)->Q (.ref a) H)/\((xs≠[]/\k≠1)->∀ p,H p=U->Q (.ref p) (upd H p (.tup (List.replicate k.toNat xs).flatten)))
theorem Lh:OpR X (binaryOp .Mult) (rRepT X.K):=by
 intro pins s σ H x y v u Q I rx ry h
 obtain⟨l,k,xs,rfl,rfl,hq,h1,h2,hz,q1,q2⟩:=h
 cases rx
 obtain⟨t,rfl⟩:=ry
 obtain⟨its,r,hT,hzz⟩:=I.tuple hq
 obtain⟨⟨cls,dd,data,sl⟩,e,hc,n,hd⟩:=id hT
 simp only at hc hd
 subst hc hd
 have hlen:xs.length=its.length:=r.length
 have g1:¬ (decide (k < -(2 ^ 63))||decide (k≥2 ^ 63))=true:=by simp;omega
 have road:∀ {S:PySem.Spec},Meets (Builtin.«tuple.__mul__» ⟨[.ref l,.int k t],[]⟩) S->S X.A (wants (EP X pins σ Q) X.xe) s->wpAny (model X.prog X.w) X.A (binaryOp .Mult (.ref l) (.int k t)) (EP X pins σ Q) X.xe s:=λM hS=>
  WF (T:="tuple") (U:="int") (by decide) ⟨_,e,rfl⟩ (λs'=>Wc s' k t) HT.Be F.fills_int_mul VQ HT.OW F.slot_int_index.lookup
   (UM VQ (Wc s k t) F.entry_int_rmul (F.args_int_rmul_2 _ _) (HT.Gu k t l its.toArray n dd sl)
    ⟨e,rfl,⟨_,e,rfl⟩,UM F.slot_tuple_mul ⟨_,e,rfl⟩ F.entry_tuple_mul (F.args_tuple_mul_2 _ _) M hS⟩)
 by_cases hs:xs=[]\/k=1
 ·have hcc:(its.toArray.isEmpty||k == 1)=true:=by
   rcases hs with rfl | rfl
   ·cases r;rfl
   ·simp
  exact road (HT.mulT0 l its.toArray n k t dd sl g1 hcc) ⟨e,.ref l,H,I,rfl,q1 hs⟩
 ·have hx:xs≠[]:=λz=>hs (.inl z)
  have hk1:k≠1:=λz=>hs (.inr z)
  have hi:its≠[]:=λz=>by subst z;cases r;exact hx rfl
  have hcc:¬ (its.toArray.isEmpty||k == 1)=true:=by simp [hi,hk1]
  by_cases hk:k<=0
  ·have hk':(decide (k<=0)||its.toArray.isEmpty)=true:=by simp [hk]
   have k0:k.toNat=0:=by omega
   refine road (HT.mulT1 l its.toArray n k t dd sl g1 hcc hk') ⟨e,.ref _,_,I.laid (o:=.tup []) (λ_ _ q=>SL _ q) (SS _) ⟨by simp,[],.nil,⟨_,SW _ rfl,rfl,⟨0,rfl⟩,rfl⟩⟩,rfl,?_⟩
   have:=q2 ⟨hx,hk1⟩ s.heap.objs.size I.fresh
   rw [k0] at this
   exact this
  ·have hk':¬ (decide (k<=0)||its.toArray.isEmpty)=true:=by simp [hi];omega
   have km:(k.toNat:Int)=k:=by omega
   have hpr:((its.length:Int) * k)<=sizeLine:=by rw [<- km,<- hlen];exact_mod_cast hz
   have hsl:((sizeLine:Nat):Int)<=(2 ^ 63 - 1) / 8:=by decide
   have hf:=frep its k.toNat []
   rw [Vq] at hf
   have hf':List.foldl (λx1 x2=>x1++x2) #[] (List.replicate k.toNat its.toArray)=(List.replicate k.toNat its).flatten.toArray:=hf
   have hl2:(List.replicate k.toNat its).flatten.length<=sizeLine:=by rw [xx,<- hlen,Wl];exact hz
   refine road (HT.mulT2 l its.toArray n k t dd sl g1 hcc hk' (by rw [SQ];omega) (by unfold Builtin.Tuple.tupleTooMany;rw [SQ];simp;omega) (by rw [hf',SQ];exact hl2)) ⟨e,?_⟩
   rw [hf']
   exact⟨.ref _,_,I.laid (o:=.tup (List.replicate k.toNat xs).flatten) (λ_ _ q=>SL _ q) (SS _) ⟨by rw [xx,Wl];exact hz,(List.replicate k.toNat its).flatten,vrep r _,⟨_,SW _ rfl,rfl,⟨0,rfl⟩,rfl⟩⟩,rfl,q2 ⟨hx,hk1⟩ _ I.fresh⟩
end
section
variable{X:Cx}
noncomputable def Rr(n:Nat)(i:Int):Nat:=if i<0 then (i+(n:Int)).toNat else min i.toNat n
noncomputable def jY{α:Type}(xs:List α)(i:Int)(y:α):List α:=xs.take (Rr xs.length i)++y::xs.drop (Rr xs.length i)
noncomputable def Kz:V->List V->Hp->VK->Prop:=λx vs H Q=>∃ l xs i y,x=.ref l/\vs=[.int i,y]/\H l=O (.lst xs)/\xs.length<sizeLine/\-(2 ^ 62)<=i/\i<2 ^ 62/\Q .non (upd H l (.lst (jY xs i y)))
theorem Ee:MtM X "list.insert" Kz:=by
 intro pins s σ H x vs v us Q I rx rv h
 obtain⟨l,xs,i,y,rfl,rfl,hH,hz,h1,h2,q⟩:=h
 cases rx
 obtain⟨u1,u,rfl,⟨t,rfl⟩,ru⟩:=rv.two
 obtain⟨z,its,n,r,hl,e⟩:=I.lstM hH
 have hfit:¬ (!Builtin.List.listFitsIndex i)=true:=by
  rw [fitsIndex_both (by omega) (by omega)];exact SZ
 refine UM Xs ⟨_,e,rfl⟩ F.entry_list_insert (F.args_list_insert_3 _ _ _) (AutoListH.list_insert_list_int_val_1 l its.toArray n i t u hfit (by rw [SQ];omega)) ⟨e,?_⟩
 refine⟨.non,_,I.lset (its':=jY its i u) hH e ?_ (ys:=jY xs i y) ?_ ?_,rfl,q⟩
 ·unfold jY Rr
  simp
  rw [Vc (by rw [UD];exact SS _)]
 ·unfold jY
  rw [hl]
  exact(r.take _).append (.cons ru (r.drop _))
 ·unfold jY
  rw [Tl,SY,Vj,UD]
  omega
end
end L2
namespace M
open L2
section
variable{X:Cx}{K:W.Frag}{μ μ':Fp}{H H':Hp}{S:aa}
noncomputable def dN(S:aa)(x y:D):Option D:=match x,y with
 | .tup xs,.int k=>if -(2 ^ 62)<=k/\k<2 ^ 62/\xs.length * k.toNat<=sizeLine then O (.tup (List.replicate k.toNat xs).flatten) else U
 | .lst xs,.int k=>if -(2 ^ 62)<=k/\k<2 ^ 62/\xs.length * k.toNat<=sizeLine then O (.lst (List.replicate k.toNat xs).flatten) else U
 | x,y=>RF S x y
theorem flat1{α:Type}(xs:List α):(List.replicate 1 xs).flatten=xs:=by simp
theorem Ln:OpR X (binaryOp .Mult) (jN X.K dN):=OpR.imp (OpR.or PU (OpR.or Lh PK)) λx y H Q ⟨μ,S,dx,dy,dz,hS,h1,h2,h3,post⟩=>by
 unfold dN at h3
 split at h3
 ·rename_i xs k
  split at h3
  ·rename_i hk
   cases h3
   obtain⟨a,vs,rfl,q,r⟩:=h1.sqT
   have h1':=h1
   refine .inr (.inl ⟨a,k,vs,rfl,h2.int_inv,q,hk.1,hk.2.1,by rw [r.length];exact hk.2.2,λhs=>?_,λ_ p hp=>post.tup hS hp (Reps.flat _ r)⟩)
   have e:(List.replicate k.toNat xs).flatten=xs:=by
    rcases hs with rfl | rfl
    ·cases r;simp
    ·exact flat1 xs
   rw [e] at post
   exact post.here hS h1'
  ·cases h3
 ·rename_i xs k
  split at h3
  ·rename_i hk
   cases h3
   obtain⟨a,vs,rfl,q,n,r⟩:=h1.sqL
   exact .inr (.inr ⟨a,k,vs,rfl,h2.int_inv,q,by omega,by omega,by rw [r.length];exact hk.2.2,λp hp=>post.lst hS hp (Reps.flat _ r)⟩)
  ·cases h3
 ·exact .inl ⟨μ,S,dx,dy,dz,hS,h1,h2,h3,post⟩
noncomputable abbrev MF:=D->List D->aa->Option (D×aa)
inductive Ky(K:W.Frag)(f:MF)(x:V)(vs:List V)(H:Hp)(Q:VK):Prop
 | mk (μ:Fp) (S:aa) (dx:D) (ds:List D) (d:D) (S':aa) (hS:SOk K μ S H) (h1:Rep K μ H x dx) (h2:Reps K μ H vs ds) (h3:f dx ds S=O (d,S')) (post:Post K μ H S' d Q)
theorem MtR.imp{id:String}{r r':V->List V->Hp->VK->Prop}(h:MtR X id r)(i:∀ x xs H Q,r' x xs H Q->r x xs H Q):MtR X id r':=λpins s σ H x xs v us Q I rx rv q=>h pins s σ H x xs v us Q I rx rv (i x xs H Q q)
noncomputable def cX:MF:=λo ds S=>match o,ds with
 | .ref r,[y]=>match S[r]? with | some (.lst xs)=>if xs.length<sizeLine then O (.non,S.set r (.lst (xs++[y]))) else U | _=>U
 | _,_=>U
noncomputable def gJ:MF:=λo ds S=>match o,ds with
 | .ref r,[.int i,y]=>match S[r]? with | some (.lst xs)=>if xs.length<sizeLine/\-(2 ^ 62)<=i/\i<2 ^ 62 then O (.non,S.set r (.lst (jY xs i y))) else U | _=>U
 | _,_=>U
noncomputable def xN:MF:=λo ds S=>match ds with
 | [x]=>(fV S o).bind λys=>if bP 40 x=true/\ys.all (bP 39)=true then O (.int (ys.countP λd=>kf d x),S) else U
 | _=>U
theorem Eg:MtR X "list.append" (Ky X.K cX):=MtR.imp uN λx vs H Q ⟨μ,S,dx,ds,d,S',hS,r1,r2,h,post⟩=>by
 unfold cX at h
 split at h
 ·rename_i r y
  obtain⟨v,rfl,rv⟩:=r2.one
  cases q:S[r]? with
  | none=>rw [q] at h;cases h
  | some c=>
   rw [q] at h
   cases c with
   | dct _ _=>cases h
   | lst xs=>
    dsimp only at h
    split at h
    ·rename_i hz
     cases h
     cases r1 with
     | @ref a _ h'=>
      obtain⟨ws,hw,rw'⟩:=hS.cell r a _ h' q
      obtain⟨e,s'⟩:=hS.write h' hw (rw'.append (.cons rv .nil))
      exact⟨a,ws,v,rfl,rfl,hw,by rw [rw'.length];exact hz,post _ _ μ e s' .non⟩
    ·cases h
 ·cases h
theorem Ih{vs:List V}{ds:List D}{v:V}{d:D}{i:Int}(r:Reps K μ H vs ds)(q:Rep K μ H v d):Reps K μ H (jY vs i v) (jY ds i d):=by
 unfold jY;rw [r.length]
 exact(r.take _).append (.cons q (r.drop _))
theorem Ef:MtR X "list.insert" (Ky X.K gJ):=MtR.imp Ee λx vs H Q ⟨μ,S,dx,ds,d,S',hS,r1,r2,h,post⟩=>by
 unfold gJ at h
 split at h
 ·rename_i r i y
  obtain⟨v,w,rfl,rv,rw0⟩:=r2.two
  cases q:S[r]? with
  | none=>rw [q] at h;cases h
  | some c=>
   rw [q] at h
   cases c with
   | dct _ _=>cases h
   | lst xs=>
    dsimp only at h
    split at h
    ·rename_i hz
     cases h
     cases r1 with
     | @ref a _ h'=>
      obtain⟨ws,hw,rw'⟩:=hS.cell r a _ h' q
      obtain⟨e,s'⟩:=hS.write h' hw (Ih (i:=i) rw' rw0)
      exact⟨a,ws,i,w,rfl,by rw [rv.int_inv],hw,by rw [rw'.length];exact hz.1,hz.2.1,hz.2.2,post _ _ μ e s' .non⟩
    ·cases h
 ·cases h
theorem qq{pins:List (Addr×Obj)}{σ:L2.St}{s:Shared}(I:Inv X pins σ H s){x:D}:∀ {vs:List V} {us:List Value} {ds:List D},Vals vs us->Reps X.K μ H vs ds->(∀ d∈ds,bP 39 d=true) ->
  us.countP (gq X.K μ H x)=ds.countP λd=>kf d x
 | _,_,_,.nil,.nil,_=>rfl
 | _,_,_,.cons rv tv,.cons r t,ok=>by
  rw [List.countP_cons,List.countP_cons,tm I rv r (ok _ SN),qq I tv t λd m=>ok d (SO _ m)]
noncomputable def ue(S:aa):D->Bool
 | .lst _=>true
 | .rol _=>true
 | .ref r=>match S[r]? with | some (.lst _)=>true | _=>false
 | _=>false
theorem nS{v:V}{d:D}(hS:SOk K μ S H)(r:Rep K μ H v d)(h:ue S d=true):∃ a vs ds,v=.ref a/\jk K H a vs/\fV S d=O ds/\Reps K μ H vs ds:=by
 cases r with
 | lst h' n r=>exact⟨_,_,_,rfl,.inl (.inl h'),rfl,r⟩
 | rol h' n r=>exact⟨_,_,_,rfl,.inl h',rfl,r⟩
 | krol h' r=>exact⟨_,_,_,rfl,.inr h',rfl,r⟩
 | @ref a i h'=>
  simp only [ue] at h
  cases q:S[i]? with
  | none=>rw [q] at h;cases h
  | some c=>
   rw [q] at h
   cases c with
   | dct _ _=>cases h
   | lst xs=>
    obtain⟨vs,e,r⟩:=hS.cell i a _ h' q
    exact⟨a,vs,xs,rfl,.inl (.inl e),by simp only [fV,q],r⟩
 | _=>cases h
noncomputable def xM:MF:=λo ds S=>if ue S o=true then xN o ds S else U
theorem Hb(hu:X.A.units+64<cLine):MtR X "list.count" (Ky X.K xM):=by
 intro pins s σ H x vs v us Q I rx rv h
 obtain⟨μ,S,dx,ds,d,S',hS,r1,r2,h,post⟩:=h
 unfold xM at h
 split at h
 ·rename_i hl
  unfold xN at h
  split at h
  ·rename_i y
   obtain⟨a,ws,es,rfl,hq,hse,re⟩:=nS hS r1 hl
   rw [hse] at h
   dsimp only [Option.bind_some] at h
   split at h
   ·rename_i hk
    cases h
    cases rx
    obtain⟨w,rfl,rw0⟩:=r2.one
    obtain⟨u,rfl,ru⟩:=rv.one
    obtain⟨its,rvs,⟨⟨cls,dd,data,sl⟩,n,e,hc,hdd,hd⟩,hz⟩:=I.list hq
    simp only at hc hdd hd
    subst hc hdd hd
    have ok:=Tj.mp hk.2
    refine UM F.slot_list_count ⟨_,e,rfl⟩ F.entry_list_count (F.args_list_count_2 _ _) (SeqAt.list_countAt a its.toArray n U sl u (gq X.K μ H y)) ⟨e,λw' hw'=>?_,?_⟩
    ·exact iB I (by show X.A.units+1+40<cLine;omega) ru rw0 hk.1 rvs re ok w' (by simpa using hw')
    ·refine⟨.int _,H,I.tok _,⟨_,rfl⟩,?_⟩
     rw [qq I rvs re ok]
     exact post.here hS (.int _)
   ·cases h
  ·cases h
 ·cases h
noncomputable def cT(f:MF)(o:ME)(ms:MA):ME:=λenv S=>(o env S).bind λp=>if ue p.2 p.1=true then (ms env p.2).bind λq=>f p.1 q.1 q.2 else U
theorem MQ{o e:Expr}{es:List Expr}{mo:ME}{ms:MA}{f:MF}{name:Str}{id:String}{apos cpos:Pos}(slot:Slot "list" name id)(hty:typeOf (.builtin id)=pure (.type "method_descriptor"))(hm:MtR X id (Ky X.K f))(ho:DE X o mo)(ha:DA X (e::es) ms)
  (hbase:attributeBase o name X.env (eval o X.env)=eval o X.env)
  (hfew:((backTo cpos (starEach (e::es) X.env)).all (λx=>!x.1)&&(backToKw cpos (keywordEach [] X.env)).all (λx=>x.1.isSome)&&decide ((e::es).length+([]:List Keyword).length+(if ([]:List Keyword).isEmpty then 0 else 1)<30))=true)
  (hline:(apos.endLine == cpos.line)=true) (hs:starEach (e::es) X.env=(false,eval e X.env)::starEach es X.env) (hpl:(backTo cpos (starEach es X.env)).any (·.1)=false) :
  DE X (.Call (.Attribute o name apos) (e::es) [] cpos) (cT f mo ms):=
 PE.imp (GS F.plainAttrs_list slot hty hm ho ha hbase hfew hline hs hpl) λσ H Q ⟨μ,S,env,d,S',hS,hE,h,post⟩=>by
  obtain⟨⟨x,S1⟩,h1,h⟩:=SJ.mp h
  dsimp only at h
  split at h
  ·rename_i hl
   obtain⟨⟨xs,S2⟩,h2,h⟩:=SJ.mp h
   refine⟨μ,S,env,x,S1,hS,hE,h1,λv H1 μ1 e1 s1 r1=>⟨?_,μ1,S1,env,xs,S2,s1,hE.mono e1,h2,λvs H2 μ2 e2 s2 r2=>⟨μ2,S2,x,xs,d,S',s2,r1.mono e2,r2,h,(post.ext e1).ext e2⟩⟩⟩
   obtain⟨a,ws,es,rfl,hq,_,_⟩:=nS s1 r1 hl
   exact .inl ⟨rfl,ws,hq⟩
  ·cases h
end
end M
namespace HT
open AutoSeq1 (wpAny_loadPart')
section
variable{prog:Program}{w:World}{A:Around}{E:Value->Shared->Prop}{s:Shared}
theorem BR{it t:Addr}{i:Nat}{items:Array Value}{x:Value}{Q:Value->Shared->Prop}(hit:s.heap.IsTupleIter it t i)(ht:s.heap.IsTuple t items)(hx:items[i]?=O x)
  (hQ:∀ h',h'.IsTupleIter it t (i+1)->Heap.SameBut it s.heap h'->Q x { s with heap:=h' }):wpAny (model prog w) A (Builtin.SmallTypes.nextOf (.ref it)) Q E s:=by
 obtain⟨o,ho,hc,hd⟩:=id hit;obtain⟨ol,hol,_,nl,hdl⟩:=ht
 unfold Builtin.SmallTypes.nextOf
 refine SK (Ua (name:=Str.ofString "__next__") hit.typeIs UQ (UB UQ hit.typeIs WD ?_ (Wt _)))
 show wpAny _ _ (field (.ref it) 0 >>= _) _ _ s;refine SK (TQ ho hd (x:=.ref t) rfl ?_)
 show wpAny _ _ (if (Value.ref t == Value.none)=true then _ else _) _ _ s;rw [Ts (show ¬ ((Value.ref t == Value.none)=true) from SZ)]
 show wpAny _ _ (field (.ref it) 1 >>= _) _ _ s;refine SK (TQ ho hd (x:=.int i 0) rfl ?_)
 show wpAny _ _ (seqItems? (.ref t) >>= _) _ _ s;refine SK (Uv hol hdl ?_);simp only [UP,hx]
 refine SK (Uu ho hd (by simp) (SU ⟨x,rfl,SU (hQ _ ⟨_,TR _ ho (Obj.isFreed_of_fields (Xq hd _)),(Obj.cls_mapFields ..).trans hc,?_⟩ (Uo ..))⟩))
 rw [Xq hd];simp [rawInt]
theorem pD{it t:Addr}{i:Nat}{items:Array Value}{Q:Value->Shared->Prop}(hh:A.handled=U)(hit:s.heap.IsTupleIter it t i)(ht:s.heap.IsTuple t items)(hx:items[i]?=U)
  (hE:∀ h' e,Heap.ExtBut it s.heap h'->(∃ o,h'.get? e=O o/\o.cls=.type "StopIteration")->E (.ref e) { s with heap:=h' }):wpAny (model prog w) A (Builtin.SmallTypes.nextOf (.ref it)) Q E s:=by
 obtain⟨o,ho,hc,hd⟩:=id hit;obtain⟨ol,hol,_,nl,hdl⟩:=ht
 unfold Builtin.SmallTypes.nextOf
 refine SK (Ua (name:=Str.ofString "__next__") hit.typeIs UQ (UB UQ hit.typeIs WD ?_ (Wt _)))
 show wpAny _ _ (field (.ref it) 0 >>= _) _ _ s;refine SK (TQ ho hd (x:=.ref t) rfl ?_)
 show wpAny _ _ (if (Value.ref t == Value.none)=true then _ else _) _ _ s;rw [Ts (show ¬ ((Value.ref t == Value.none)=true) from SZ)]
 show wpAny _ _ (field (.ref it) 1 >>= _) _ _ s;refine SK (TQ ho hd (x:=.int i 0) rfl ?_)
 show wpAny _ _ (seqItems? (.ref t) >>= _) _ _ s;refine SK (Uv hol hdl ?_);simp only [UP,hx]
 refine SK (Vl (SK (Uu ho hd (by simp) ?_)));show wpAny _ _ (newExc (.type "StopIteration") [] >>= _) _ _ _
 refine SK ?_;simp only [newExc,newTuple];refine SK (TL ?_ (by size_fits))
 refine SK (m:=firstArgMember _ _) (Xg (a:=Value.none) (by first | rfl | (simp only [firstArgMember];rfl)) (TL ?_ (by size_fits)))
 simp only [raiseNew];refine SK (wpAny_handled ?_);(first | rw [show A.in1.handled=U from hh] | rw [hh])
 refine SK (SU (wpAny_throw (hE _ _ (((Uo ..).extBut.push _).push _) ⟨_,SW _ rfl,rfl⟩)))
end
theorem tJ{prog:Program}{w:World}{A:Around}(hh:A.handled=U)(it t:Addr)(hne:t≠it)(items:Array Value) :
  Draws prog w A it [it,t] items.size (λi v=>items[i]?=O v) (λi h=>h.IsTupleIter it t i/\h.IsTuple t items) where
 live:=λ_ _ st=>by obtain⟨o,ho,_⟩:=st.1;exact⟨o,ho⟩
 frame:=λ_ _ _ st hk=>by
  obtain⟨⟨o,ho,r⟩,⟨o2,ho2,r2⟩⟩:=st
  exact⟨⟨o,hk it (by simp) o ho,r⟩,⟨o2,hk t (by simp) o2 ho2,r2⟩⟩
 item:=λi s Q E hi st hQ=>BR st.1 st.2 (x:=items[i]) (by simp [hi]) λh' hit' hs'=>hQ _ h' s.toks (by simp [hi]) ⟨hit',st.2.extBut hs'.extBut hne⟩ hs'
 done:=λs Q E st hE=>pD hh st.1 st.2 (by simp) hE
theorem ES(l:Addr)(items:Array Value)(n:Nat)(dct:Option Addr)(sl:Array (Option Value)) :
  Meets (Builtin.«enumerate.__new__» ⟨[.type "enumerate",.ref l],[]⟩) (λ_ R s=>s.heap.get? l=O ⟨.type "tuple",dct,.seq items n,sl⟩ /\
   R (.ok (.ret (.ref (s.heap.push { cls:=.type "tuple_iterator",data:=.fields #[.ref l,.int 0 0] }).objs.size)))
    {s with heap:=(s.heap.push { cls:=.type "tuple_iterator",data:=.fields #[.ref l,.int 0 0] }).push { cls:=.type "enumerate",data:=.fields #[.none,.bool false,.ref s.heap.objs.size,rawInt 0,.none,.none] } }):=
 .of_wp λprog w A R s h=>by
  obtain⟨hp,g,d,tk,os⟩:=s
  obtain⟨hl,h⟩:=h
  have hsub:=sub_enumerate
  have hL:Heap.IsTuple (Shared.heap ⟨hp,g,d,tk,os⟩) l items:=⟨_,hl,rfl,n,rfl⟩
  wp_walk using wpAny_loadPart' hl
  refine wpAny_stack_any λst=>SU ?_
  split
  ·rename_i c _ _ _ _ _
   cases (c == Value.type "enumerate") <;> (wp_walk using wpAny_loadPart' hl,UV hL;exact⟨_,rfl,h⟩)
  ·wp_walk using wpAny_loadPart' hl,UV hL
   exact⟨_,rfl,h⟩
end HT
namespace HT
section
variable{prog:Program}{w:World}{A:Around}{E:Value->Shared->Prop}{s:Shared}
theorem Ca{l:Addr}{items:Array Value}{Q:Value->Shared->Prop}(hL:s.heap.IsTuple l items)
  (h:∀ h':Heap,IsEnum h' (s.heap.objs.size+1) s.heap.objs.size 0 .none->h'.IsTupleIter s.heap.objs.size l 0->h'.objs.size=s.heap.objs.size+2->(∀ b o,s.heap.get? b=O o->h'.get? b=O o)->Q (.ref (s.heap.objs.size+1)) { s with heap:=h' }) :
  wpAny (model prog w) A (call (.type "enumerate") [.ref l]) Q E s:=by
 obtain⟨⟨c,dct,dt,sl⟩,hl,hc,n,hd⟩:=hL
 simp only at hc hd
 subst hc hd
 refine callType_new F.called_enumerate (by decide) (F.typeCall_enumerate_1 _) (F.newCall_enumerate_1 _) (λobj=>F.args_object_init_2 obj _) F.entry_enumerate_new (ES l items n dct sl) ⟨hl,?_⟩
 have hz:(s.heap.push { cls:=.type "tuple_iterator",data:=.fields #[.ref l,.int 0 0] }).objs.size=s.heap.objs.size+1:=TZ ..
 show _/\_
 rw [hz]
 have he:IsEnum ((s.heap.push { cls:=.type "tuple_iterator",data:=.fields #[.ref l,.int 0 0] }).push { cls:=.type "enumerate",data:=.fields #[.none,.bool false,.ref s.heap.objs.size,rawInt 0,.none,.none] }) (s.heap.objs.size+1) s.heap.objs.size 0 .none:=by
  have q:=SW (s.heap.push { cls:=.type "tuple_iterator",data:=.fields #[.ref l,.int 0 0] }) (o:={ cls:=.type "enumerate",data:=.fields #[.none,.bool false,.ref s.heap.objs.size,rawInt 0,.none,.none] }) rfl
  rw [hz] at q
  exact q
 exact⟨⟨_,he,rfl⟩,h _ he ⟨_,SL _ (SW _ rfl),rfl,rfl⟩ (by rw [TZ,hz]) λb o x=>SL _ (SL _ x)⟩
end
end HT
namespace L2
section
variable{X:Cx}{pins:List (Addr×Obj)}{σ:St}{H:Hp}{s:Shared}{h':Heap}
theorem Inv.turnLaid{fp:List Addr}{a:Addr}{o:HO}{t':Nat}(I:Inv X pins σ H s)(k:∀ b o,b ∉ fp->s.heap.get? b=O o->h'.get? b=O o)(hf:∀ b∈fp,lV X pins H b)(hp:s.heap.objs.size<=a)
  (new:ObjOk X.prog X.w (upd H a o) h' a o):Inv X pins σ (upd H a o) { s with heap:=h',toks:=t' }:=by
 have hn:H a=U:=I.hok.fresh hp
 have st:∀ b u,H b=O u->upd H a o b=O u:=λb u e=>(aD (bn e hn)).trans e
 have nfp:∀ b u,H b=O u->b ∉ fp:=λb u e z=>by rw [(hf b z).1] at e;cases e
 refine I.step (g':=s.gens) (d':=s.drawn) (ch:=fp) (λb hb=>?_) (λb o _ _ hc e _=>k b o hc e) (λb o _ _ hc e _=>⟨o.slots,k b o hc e⟩) (λb u _ e n=>?_) (λb o hc e=>⟨o,k b o hc e⟩) (λb xs e=>st b _ e) (λb o u e=>st b _ e) (λb ps e=>⟨#[],by rw [st b _ e];simp⟩) (λm hm=>?_) (λb u e=>?_) I.bare
 ·obtain⟨f0,f1,f2,f3,f4,f5⟩:=hf b hb
  exact⟨f3,f1,f4,f5⟩
 ·rw [aD (Tk (Tf (SV e) hp))];exact n
 ·obtain⟨o',es,ep,ho,r⟩:=hm
  exact⟨o',es,ep,k _ o' (λz=>(hf _ z).2.1 rfl) ho,r⟩
 ·by_cases hb:b=a
  ·subst hb
   rw [aC] at e
   cases e
   exact new
  ·rw [aD hb] at e
   refine(I.hok b u e).stay (λc v hc q=>k c v ?_ q) (λ_ q=>st _ _ q) λ_ _ q=>st _ _ q
   rcases hc with z | z
   ·rw [z];exact nfp b u e
   ·exact nfp c _ z
theorem Inv.turnedL{fp:List Addr}{t':Nat}(I:Inv X pins σ H s)(k:∀ b o,b ∉ fp->s.heap.get? b=O o->h'.get? b=O o)(hf:∀ b∈fp,lV X pins H b):Inv X pins σ H { s with heap:=h',toks:=t' }:=by
 have nfp:∀ b u,H b=O u->b ∉ fp:=λb u e z=>by rw [(hf b z).1] at e;cases e
 refine I.step (g':=s.gens) (d':=s.drawn) (ch:=fp) (λb hb=>?_) (λb o _ _ hc e _=>k b o hc e) (λb o _ _ hc e _=>⟨o.slots,k b o hc e⟩) (λb u _ e n=>n) (λb o hc e=>⟨o,k b o hc e⟩) (λb xs e=>e) (λb o u e=>e) (λb ps e=>⟨#[],by rw [e];simp⟩) (λm hm=>?_) (λb u e=>?_) I.bare
 ·obtain⟨f0,f1,f2,f3,f4,f5⟩:=hf b hb
  exact⟨f3,f1,f4,f5⟩
 ·obtain⟨o',es,ep,ho,r⟩:=hm
  exact⟨o',es,ep,k _ o' (λz=>(hf _ z).2.1 rfl) ho,r⟩
 ·refine(I.hok b u e).stay (λc v hc q=>k c v ?_ q) (λ_ q=>q) λ_ _ q=>q
  rcases hc with z | z
  ·rw [z];exact nfp b u e
  ·exact nfp c _ z
noncomputable def Ite(K:W.Frag)(a:Addr):It:=
 ⟨λi H=>∃ xs x,kS K H a xs/\xs[i]?=O x,λi H x H'=>∃ p v,x=.ref p/\H p=U/\H'=upd H p (.tup [.int (i:Nat),v])/\∀ xs,kS K H a xs->xs[i]?=O v,λi H=>∃ xs,kS K H a xs/\xs.length<=i⟩
theorem DH{P:Program}{w:World}{K:W.Frag}{es:List Expr}{k:Nat}{pos:Pos}(a e it:Addr)(hei:e≠it):um P w K (.Tuple es k pos) (Ite K a) [e,it] e (λi h=>(∃ old,IsEnum h e it i old)/\h.IsTupleIter it a i) where
 mem:=by simp
 obj:=λi h st b hb=>by
  obtain⟨⟨old,he⟩,⟨o,ho,hc,hd⟩⟩:=st
  simp only [Tc,TD,UK] at hb
  rcases hb with rfl | rfl
  ·exact⟨_,he,λv z=>by cases z⟩
  ·exact⟨o,ho,λv z=>by rw [hd] at z;cases z⟩
 keep:=λi h h' st kk=>by
  obtain⟨⟨old,he⟩,⟨o,ho,r⟩⟩:=st
  exact⟨⟨old,kk e (by simp) _ he⟩,⟨o,kk it (by simp) _ ho,r⟩⟩
 item:=by
  intro X hP hw hK hc i pins s σ H E I hf st hg
  subst hP hw hK
  obtain⟨xs,x,hq,hx⟩:=hg
  obtain⟨its,rv,p,hz⟩:=I.tuple hq
  have hT:s.heap.IsTuple a its.toArray:=p
  have hh:=I.ok.hd hc
  have ne1:a≠e:=λz=>by
   obtain⟨⟨old,he⟩,_⟩:=st
   obtain⟨o,ho,hcl,_⟩:=hT
   rw [z,he] at ho;cases ho;exact absurd (show Value.type "enumerate" = Value.type "tuple" from hcl) (by decide)
  have ne2:a≠it:=λz=>by
   obtain⟨_,⟨o',ho',hc',_⟩⟩:=st
   obtain⟨o,ho,hcl,_⟩:=hT
   rw [z,ho'] at ho;cases ho;rw [hc'] at hcl;exact absurd hcl (by decide)
  have W:=Vy (HT.tJ (prog:=X.prog) (w:=X.w) (A:=X.A.in1) hh it a ne2 its.toArray) e hei (by simp;exact⟨hei,λz=>ne1 z.symm⟩) (by simp)
  have hi:i<its.toArray.size:=by rw [SQ,<- rv.length];exact(SR.mp hx).1
  obtain⟨⟨old,he⟩,hit⟩:=st
  have Te:s.heap.objs.size≠e:=Uh (SV he)
  have Ti:s.heap.objs.size≠it:=by
   obtain⟨o,ho,_⟩:=hit
   exact Uh (SV ho)
  refine WK (HT.tJ (prog:=X.prog) (w:=X.w) (A:=X.A.in1) hh it a ne2 its.toArray) he ⟨hit,hT⟩ hi hei (by simp;exact⟨hei,λz=>ne1 z.symm⟩) λy h1 tk hy ho st1 hT1 hsz kk=>⟨_,rfl,?_⟩
  refine W.go es k pos i s.heap.objs.size _ _ _ ⟨⟨y,ho⟩,st1,Te,Ti⟩ λh2 st2 kk2=>?_
  generalize hTT:s.heap.objs.size=T at *
  obtain⟨u,hu,ru⟩:=rv.get hx
  have ey:y=u:=by
   rw [show its.toArray[i]?=its[i]? by simp,hu] at hy
   exact(Tq hy).symm
  subst ey
  have apT:T ∉ [e,it]:=by simp;exact⟨Te,Ti⟩
  have kall:∀ b o,b ∉ [e,it]->s.heap.get? b=O o->h2.get? b=O o:=λb o hb q=>kk2 b o hb (kk b o (λz=>hb (by simp [z])) (λz=>hb (by simp [z])) q)
  have hT2:IsTupN h2 T #[.int i tk,y]:=⟨_,kk2 T _ apT hT1,rfl,⟨_,rfl⟩,rfl⟩
  have hTs:s.heap.objs.size<=T:=Vu hTT
  refine⟨.ref T,upd H T (.tup [.int (i:Nat),x]),I.turnLaid kall hf hTs ⟨by show 2<=sizeLine;decide,[.int i tk,y],.cons ⟨_,rfl⟩ (.cons ru .nil),hT2⟩,rfl,⟨T,x,rfl,I.hok.fresh hTs,rfl,λys hy=>by rw [I.tuple_inj hy hq];exact hx⟩,⟨st2.1,st2.2.1⟩,λb hb=>?_⟩
  have nb:b≠T:=λz=>apT (by rw [<- z];exact hb)
  rw [aD nb]
  exact(hf b hb).1
 done:=by
  intro X hP hw hK hc i pins s σ H E I hf st hg
  subst hP hw hK
  obtain⟨xs,hq,hx⟩:=hg
  obtain⟨its,rv,p,hz⟩:=I.tuple hq
  have hT:s.heap.IsTuple a its.toArray:=p
  have hh:=I.ok.hd hc
  have ne1:a≠e:=λz=>by
   obtain⟨⟨old,he⟩,_⟩:=st
   obtain⟨o,ho,hcl,_⟩:=hT
   rw [z,he] at ho;cases ho;exact absurd (show Value.type "enumerate" = Value.type "tuple" from hcl) (by decide)
  have D':Draws X.prog X.w X.A.in1 it [it,a] i (λ_ _=>True) (λj h=>j=i/\h.IsTupleIter it a i/\h.IsTuple a its.toArray):=
   {live:=λ_ _ q=>by obtain⟨_,⟨o,ho,_⟩,_⟩:=q;exact⟨o,ho⟩
    frame:=λ_ _ _ q hk=>by
     obtain⟨q0,⟨o,ho,r⟩,⟨o2,ho2,r2⟩⟩:=q
     exact⟨q0,⟨o,hk it (by simp) o ho,r⟩,⟨o2,hk a (by simp) o2 ho2,r2⟩⟩
    item:=λj _ _ _ hj q _=>absurd q.1 (Tk hj)
    done:=λs Q E q hE=>HT.pD hh q.2.1 q.2.2 (by simp;have:=rv.length;omega) hE }
  have W:=Vy D' e hei (by simp;exact⟨hei,λz=>ne1 z.symm⟩) (by simp)
  refine W.done s _ _ ⟨st.1,rfl,st.2,hT⟩ λh2 tk kk=>⟨rfl,I.turnedL kk hf⟩
 self:=λA i s Q E st h=>by
  obtain⟨⟨old,he⟩,_⟩:=st
  exact Vw he h
noncomputable def iEnum(K:W.Frag)(t:TA):TI:=λσ H R=>t σ H λxs H1=>∃ a,xs=[.ref a]/\(∃ ys,kS K H1 a ys)/\R (Ite K a) H1
end
section
variable{X:Cx}
theorem KS{a:Expr}{ta:TA}{es:List Expr}{k:Nat}{tp p pos:Pos}(hg:Gl X "enumerate")(hm:X.mg "enumerate" = U)(ha:PA X [a] ta)(hs:starEach [a] X.env=[(false,eval a X.env)]) :
  PI X (.Tuple es k tp) (.Call (.Name "enumerate" p) [a] [] pos) (iEnum X.K ta):=by
 intro pins s σ H R I h
 refine Call_ (jf I hg hm boot_enumerate (TM (cF (ha pos pins s σ H _ I h) λus s1 ⟨vs,H1,I1,r1,q1⟩=>?_) hs rfl))
 obtain⟨t,rfl,⟨ys,hq⟩,q⟩:=q1
 obtain⟨u,rfl,ru⟩:=r1.one
 cases ru
 obtain⟨its,rv,pt,hz⟩:=I1.tuple hq
 refine HT.Ca pt λh' he hi hsz kk=>Vw he ?_
 refine⟨s1.heap.objs.size+1,[s1.heap.objs.size+1,s1.heap.objs.size],_,_,H1,rfl,I1.kept (t':=s1.toks) kk,DH t _ _ (Nat.succ_ne_self _),⟨⟨_,he⟩,hi⟩,λb hb=>?_,q⟩
 simp only [Tc,TD,UK] at hb
 rcases hb with rfl | rfl
 ·exact I1.fpOk (Vp _) (I1.hok.fresh (Vp _))
 ·exact I1.fpOk (SS _) (I1.hok.fresh (SS _))
end
end L2
namespace M
open L2
section
variable{X:Cx}{K:W.Frag}{μ μ':Fp}{H H':Hp}{S:aa}
noncomputable def gR:Nat->List D->List D
 | _,[]=>[]
 | i,x::r=>.tup [.int (i:Nat),x]::gR (i+1) r
theorem pz:∀ (i:Nat) (xs:List D),(gR i xs).length=xs.length
 | _,[]=>rfl
 | i,_::r=>by rw [gR,SY,SY,pz (i+1) r]
theorem pA:∀ (k:Nat) (xs:List D) (i:Nat) (d:D),(gR k xs)[i]?=O d->∃ x,xs[i]?=O x/\d=.tup [.int ((k+i:Nat):Int),x]
 | _,[],i,d,h=>by simp [gR] at h
 | k,x::r,0,d,h=>by simp [gR] at h;exact⟨x,rfl,h.symm⟩
 | k,x::r,i+1,d,h=>by
  rw [gR,VD] at h
  obtain⟨y,h1,h2⟩:=pA (k+1) r i d h
  refine⟨y,by simpa using h1,?_⟩
  rw [h2,show k+1+i=k+(i+1) by omega]
theorem Ez{a:Addr}{xs:List D}(r:Rep K μ H (.ref a) (.tup xs)):Aw K μ H (Ite K a) (gR 0 xs):=λμ' H' S' e s i=>by
 have r':=r.monoP e
 obtain⟨b,vs,hb,hq,rs⟩:=r'.sqT
 cases hb
 refine⟨λd hd=>?_,λhl=>⟨vs,hq,by rw [rs.length];rw [pz] at hl;exact hl⟩⟩
 obtain⟨x,hx,rfl⟩:=pA 0 xs i d hd
 obtain⟨v,hv,rv⟩:=rs.get hx
 refine⟨⟨vs,v,hq,hv⟩,λy H2 hy=>?_⟩
 obtain⟨p,w,rfl,hp,rfl,hw⟩:=hy
 have ew:w=v:=by have:=hw vs hq;rw [hv] at this;exact(Tq this).symm
 subst ew
 obtain⟨e2,s2⟩:=s.laid (o:=.tup [.int (i:Nat),w]) hp
 refine⟨e2,s2,?_⟩
 rw [Nat.zero_add]
 exact .tup aC (s.notMem hp) (.cons (.int _) (.cons (rv.mono e2) .nil))
noncomputable def gc(ms:MA):MA:=λenv S=>(ms env S).bind λp=>match p.1 with | [.tup xs]=>O (gR 0 xs,p.2) | _=>U
theorem My{a:Expr}{ms:MA}{es:List Expr}{k:Nat}{tp p pos:Pos}(hm:X.mg "enumerate" = U)(ha:DA X [a] ms)(hg:Gl X "enumerate")(hs:starEach [a] X.env=[(false,eval a X.env)]) :
  DI X (.Tuple es k tp) (.Call (.Name "enumerate" p) [a] [] pos) (gc ms):=PI.imp (KS hg hm ha hs) λσ H R ⟨μ,S,env,xs,S',hS,hE,h,post⟩=>by
 obtain⟨⟨ds,S1⟩,h1,h⟩:=SJ.mp h
 refine⟨μ,S,env,ds,S1,hS,hE,h1,λvs H1 μ1 e1 s1 r1=>?_⟩
 dsimp only at h
 split at h
 ·rename_i ys
  cases h
  obtain⟨v,rfl,rv⟩:=r1.one
  have rv':=rv
  obtain⟨b,ws,rfl,hq,rs⟩:=rv.sqT
  exact⟨b,rfl,⟨ws,hq⟩,post _ H1 μ1 e1 s1 (Ez rv')⟩
 ·cases h
end
end M
namespace HT
section
variable{prog:Program}{w:World}{A:Around}{E:Value->Shared->Prop}{s:Shared}
end
end HT
namespace L2
section
variable{X:Cx}{e st:Expr}{te:TE}{ts:TO}{pos p2:Pos}
end
end L2
namespace M
open L2
section
variable{X:Cx}{K:W.Frag}{μ:Fp}{H:Hp}{S:aa}
noncomputable def mRev(a:ME)(st:MO):ME:=λenv S=>(a env S).bind λp=>(st env p.2).bind λk=>match p.1,k.1 with
 | .tup xs,O j=>if j = -1 then O (.tup xs.reverse,k.2) else U
 | _,_=>U
end
end M
namespace HT
section
variable{prog:Program}{w:World}{A:Around}{R:Result->Shared->Prop}{it:Addr}{fp wr:List Addr}{G:Array GenState->Array GenState->Prop}{n:Nat}{P:Nat->Value->Prop}{St:Nat->Shared->Prop}
noncomputable def yo(val:Nat->Str):Nat->List Str
 | 0=>[]
 | i+1=>if (yo val i).any (· == val i) then yo val i else yo val i++[val i]
theorem AC(val:Nat->Str):∀ i,(yo val i).length<=i
 | 0=>SS _
 | i+1=>by
  have:=AC val i
  unfold yo;split
  ·omega
  ·rw [Tl,Vf];omega
theorem Kg(val:Nat->Str)(i:Nat)(x:Str):((yo val i).any (· == x)||decide (x=val i))=(yo val (i+1)).any (· == x):=by
 rw [yo]
 by_cases h:(yo val i).any (· == val i)=true
 ·rw [Td h]
  by_cases e:x=val i
  ·subst e;rw [h];rfl
  ·rw [Tw e,WQ]
 ·rw [Ts h,List.any_append,UO,List.any_nil,WQ]
  congr 1
  rw [UH,decide_eq_true_iff,beq_iff_eq]
  exact⟨Eq.symm,Eq.symm⟩
theorem Kf(val:Nat->Str)(i:Nat):(if (yo val i).any (· == val i) then (yo val i).length else (yo val i).length+1)=(yo val (i+1)).length:=by
 rw [yo];split <;> simp
noncomputable abbrev IsSetT(prog:Program)(w:World)(h:Heap)(a:Addr)(val:Nat->Str)(i:Nat):Prop:=h.SetOf (strKind prog w) a (λx=>(yo val i).any (· == x)) (yo val i).length
theorem IsSetT.stays{h h':Heap}{a:Addr}{val:Nat->Str}{i:Nat}(x:IsSetT prog w h a val i)(k:∀ o,h.get? a=O o->h'.get? a=O o):IsSetT prog w h' a val i:=by
 obtain⟨o,es,ep,tb,ho,c⟩:=x
 exact⟨o,es,ep,tb,k o ho,c⟩
theorem Gi(W:WalksS prog w A.in1 it fp wr G n P St)(a:Addr)(ha:a ∉ fp)(val:Nat->Str)(hv:∀ i v,P i v->∃ t,v=.str (val i) t)(hn:n+1<scanBound) :
  ∀ (m i:Nat) (s:Shared),i+m=n->St i s->IsSetT prog w s.heap a val i->(∀ s',Moved (a::wr) G s s'->IsSetT prog w s'.heap a val n->R (.ok (.ret .none)) s')->codeAny (model prog w) A (.builtin "set.update.loop" ⟨[.ref a,.ref it],[]⟩) R s:=by
 have hw:a ∉ wr:=λz=>ha (W.sub a z)
 have up:∀ b∈wr,b∈a::wr:=λb z=>SO a z
 intro m
 induction m with
 | zero=>
  intro i s e st x fin
  obtain rfl:i=n:=e
  refine Wz WP ?_
  rw [Xf VE _]
  refine SK (m:=pyNext (.ref it)) (W.done s _ _ st λs' mv=>SU (fin s' (mv.mono up) (x.stays λo q=>mv.heap a o hw q)))
 | succ m ih=>
  intro i s e st x fin
  refine Wz WP ?_
  rw [Xf VE _]
  refine SK (m:=pyNext (.ref it)) (W.item i s _ _ (by omega) st λv s1 hp st1 mv=>?_)
  obtain⟨t,rfl⟩:=hv i v hp
  have x1:IsSetT prog w s1.heap a val i:=x.stays λo q=>mv.heap a o hw q
  refine SK (m:=holding [Value.str (val i) t] (setAdd a (.str (val i) t))) (Tu ?_)
  unfold setAdd
  refine Tu (SK ((strKind prog w).pyHash (k:=val i) (strKind_is _ _ _ _) ?_))
  have few:=AC val i
  refine wpAny_setAddHashed_of (knd:=strKind prog w) (s:={ s1 with toks:=s1.toks+1 }) (strKind_is _ _ _ _) rfl x1 (by omega) λh2 sb x2=>?_
  have x3:IsSetT prog w h2 a val (i+1):=SetOf_congr x2 (λk=>Kg val i k) (Kf val i)
  refine SU ⟨plainId_quiet VE _,ih (i+1) _ (by omega) (W.frame _ s1 _ _ st1 (Vp _) λb z o q=>by rw [sb.2 b (λy:b=a=>ha (y ▸ z))];exact q) x3 λs3 mv3 x4=>?_⟩
  exact fin s3 (Moved.trans W.gtrans ((mv.mono up).then_heap (Vp _) λb o z q=>by rw [sb.2 b (λy:b=a=>z (y ▸ SN))];exact q) mv3) x4
end
section
variable{prog:Program}{w:World}{A:Around}{E:Value->Shared->Prop}{s:Shared}
noncomputable abbrev Qa(led:Bool):Obj:={ cls:=.type "set",dict:=U,data:=.set #[] 0 (.fresh 0 0 led) }
set_option maxHeartbeats 3200000 in
theorem tT{l:Addr}{items:Array Value}{val:Nat->Str}{Q:Value->Shared->Prop}(hh:A.handled=U)(hl:s.heap.IsList l items)(hi:∀ (i:Nat) (v:Value),items[i]?=O v->∃ t,v=.str (val i) t)(hb:items.size+1<scanBound)
  (h:∀ (h':Heap) (tk:Nat),IsSetT prog w h' s.heap.objs.size val items.size->(∀ b o,b<s.heap.objs.size->s.heap.get? b=O o->h'.get? b=O o)->Q (.ref s.heap.objs.size) { s with heap:=h',toks:=tk }) :
  wpAny (model prog w) A (call (.type "set") [.ref l]) Q E s:=by
 obtain⟨c,tl,hmro⟩:=F.called_set.mro
 have hmade:=F.called_set.made
 have hsub:=F.called_set.sub
 refine wpAny_call (Wy ?_)
 show wpAny _ _ (callAny (.type "set") _) _ _ _
 refine SU ⟨Code.quiet_builtin _ (by decide +kernel),Wz F.entry_type_call ?_⟩
 rw [Around.under_plain (weight_type_call_type "set" [.ref l] []) rfl]
 have h1:=F.called_set.notType
 have h2:=F.called_set.canCreate
 have hct:=F.typeCall_set_1 (.ref l)
 repeat (any_goals (first | assumption | wp_step))
 refine Ug (code_set_new_1 (.ref l) (E:=E) (Q₁:=λx s1=>∃ led:Bool,x=.ref s.heap.objs.size/\s1 = { s with heap:=s.heap.push { cls:=.type "set",dict:=U,data:=.set #[] 0 (.fresh 0 0 led) } }) λled=>⟨led,rfl,rfl⟩) λres s1 hr=>?_
 cases res with
 | error e=>exact hr
 | ok fl=>
  cases fl with
  | ret x=>
   obtain⟨led,rfl,rfl⟩:=hr
   have g0:(s.heap.push (Qa led)).get? s.heap.objs.size=O (Qa led):=SW _ rfl
   have hT:Shared.TypeIs { s with heap:=s.heap.push (Qa led) } (.ref s.heap.objs.size) "set":=⟨_,g0,rfl⟩
   have hli:=F.called_set.init.lookup
   have hbi:=F.called_set.init.bind (.ref s.heap.objs.size)
   repeat (any_goals (first | assumption | wp_step))
   refine Ug (codeAny_call_builtin (R:=wants (λv s2=>v=.none/\∃ h' tk,s2 = { s with heap:=h',toks:=tk }/\IsSetT prog w h' s.heap.objs.size val items.size/\∀ b o,b<s.heap.objs.size->s.heap.get? b=O o->h'.get? b=O o) E) F.called_set.init.plain F.entry_set_init (check_set_init_1 hT ?_)) λres2 s2 hr2=>?_
   ·obtain⟨ol,hol,hcl,nl,hdl⟩:=hl
    obtain⟨ocls,odict,odata,oslots⟩:=ol
    simp only at hcl hdl
    subst hcl hdl
    have hol':(s.heap.push (Qa led)).get? l=O { cls:=.type "list",dict:=odict,data:=.seq items nl,slots:=oslots }:=SL _ hol
    have hsls:=F.sub_list_set
    have hslf:=F.sub_list_frozenset
    have hne:(Value.type "list" == Value.type "dict")=false:=by decide
    have hl1:(s.heap.push (Qa led)).IsList l items:=⟨_,hol',rfl,nl,rfl⟩
    unfold Builtin.«set.__init__» noKeywords Builtin.Frozenset.updateFrom
    generalize hPI:pyIter=PI
    wp_walk
    subst hPI
    refine UJ hl1 ?_
    refine SK (wpAny_runValue ?_)
    have lS:l<s.heap.objs.size:=SV hol
    have zs:(s.heap.push (Qa led)).objs.size=s.heap.objs.size+1:=TZ ..
    refine Gi ((Walks.list (by simp [hh]) _ l (by rw [zs];exact Tk (Vz lS)) items).toS) s.heap.objs.size (by rw [zs];simp only [Tc,TD,UK,Xo];exact⟨Tk (Nat.lt_succ_self _),Uh lS⟩) val hi hb items.size 0 _ (by omega) ⟨⟨_,SW _ rfl,rfl,rfl⟩,hl1.push _⟩ ?_ λs' mv x=>?_
    ·have g1:=SL (h:=s.heap.push (Qa led)) { cls:=.type "list_iterator",data:=.fields #[.ref l,.int 0 0] } g0
     exact SetOf_congr ((setObjOf_fresh (knd:=strKind prog w) led).setOf g1 (by unfold scanBound;omega)) (λ_=>rfl) rfl
    ·obtain⟨h',g',d',tk',os'⟩:=s'
     obtain rfl:g'=s.gens:=mv.gens
     obtain rfl:d'=s.drawn:=mv.drawn
     obtain rfl:os'=s.os:=mv.os
     refine SU (SU ⟨rfl,h',tk',rfl,x,λb o z q=>?_⟩)
     exact mv.heap b o (by rw [zs];simp only [Tc,TD,UK,Xo];exact⟨Tk z,Tk (Vz z)⟩) (SL _ (SL _ q))
   ·cases res2 with
    | error e=>exact hr2
    | ok fl2=>
     cases fl2 with
     | ret v=>
      obtain⟨rfl,h',tk,rfl,x,kk⟩:=hr2
      repeat (any_goals (first | assumption | wp_step))
      exact h _ _ x kk
     | _=>exact hr2.elim
  | _=>exact hr.elim
end
end HT
namespace L2
section
variable{X:Cx}
theorem vn:∀ {ns:List Int} {us:List Value},Vals (ns.map V.int) us->IntsAre us ns
 | [],_,.nil=>.nil
 | n::ns,_,.cons ⟨t,e⟩ r=>by subst e;exact .cons n t (vn r)
noncomputable def qH(ns:List Int):Nat:=(firstMet (λi=>ns.getD i 0) ns.length).length
theorem Fh:CallR X (.type "set") (λxs H Q=>X.calm=true/\∃ p ns,xs=[.ref p]/\jk X.K H p (ns.map V.int)/\ns.length<64/\∀ S q,H q=U->Q (.ref q) (upd H q (.set S (qH ns)))):=by
 intro pins s σ H xs us Q I r h
 obtain⟨hc,p,ns,rfl,hq,h64,q⟩:=h
 obtain⟨u,rfl,rx⟩:=gM r
 cases rx
 obtain⟨its,rv,pl,hz⟩:=I.list hq
 have hl:=rv.length
 rw [SX] at hl
 refine call_set_list (I.ok.hd hc) pl.isList (by simpa using vn rv) (UX (show its.toArray.size+1<=100 by rw [SQ];omega) (by decide)) λh' tk hS kk=>?_
 have ek:its.toArray.size=ns.length:=by rw [SQ];exact hl.symm
 rw [ek] at hS
 exact⟨.ref _,_,I.laid (t':=tk) (o:=.set _ (qH ns)) (λb o q=>kk b o (SV q) q) (SS _) hS,rfl,q _ _ I.fresh⟩
theorem uB:∀ {ks:List Str} {us:List Value},Vals (ks.map V.str) us->∀ (i:Nat) (v:Value),us[i]?=O v->∃ t,v=.str (ks.getD i Str.empty) t
 | [],_,.nil,i,v,h=>by simp at h
 | k::ks,_,.cons ⟨t,e⟩ r,0,v,h=>by subst e;simp at h;exact⟨t,h.symm⟩
 | k::ks,_,.cons _ r,i+1,v,h=>by
  rw [VD] at h
  obtain⟨t,e⟩:=uB r i v h
  exact⟨t,by rw [e];rfl⟩
noncomputable def EZ(ks:List Str):Nat:=(HT.yo (λi=>ks.getD i Str.empty) ks.length).length
noncomputable def Gh(P:Program)(w:World)(q:Addr)(ks:List Str)(h:Heap):Prop:=HT.IsSetT P w h q (λi=>ks.getD i Str.empty) ks.length
theorem Fg:CallR X (.type "set") (λxs H Q=>X.calm=true/\∃ p ks,xs=[.ref p]/\jk X.K H p (ks.map V.str)/\ks.length<64/\∀ q,H q=U->Q (.ref q) (upd H q (.ext (Gh X.prog X.w q ks)))):=by
 intro pins s σ H xs us Q I r h
 obtain⟨hc,p,ks,rfl,hq,h64,q⟩:=h
 obtain⟨u,rfl,rx⟩:=gM r
 cases rx
 obtain⟨its,rv,pl,hz⟩:=I.list hq
 have hl:=rv.length
 rw [SX] at hl
 have ek:its.toArray.size=ks.length:=by rw [SQ];exact hl.symm
 refine HT.tT (val:=λi=>ks.getD i Str.empty) (I.ok.hd hc) pl.isList (λi v hv=>uB rv i v (by simpa using hv)) (UX (show its.toArray.size+1<=100 by rw [ek];omega) (by decide)) λh' tk hS kk=>?_
 rw [ek] at hS
 have hS':Gh X.prog X.w s.heap.objs.size ks h':=hS
 refine⟨.ref _,_,I.laid (t':=tk) (o:=.ext (Gh X.prog X.w s.heap.objs.size ks)) (λb o q=>kk b o (SV q) q) (SS _) ⟨hS',?_,λh1 h2 y k=>HT.IsSetT.stays y k⟩,rfl,q _ I.fresh⟩
 obtain⟨o,_,_,_,e,_⟩:=hS
 exact⟨o,e⟩
theorem Fl:CallR X (.builtin "len") (λxs H Q=>∃ p ks,xs=[.ref p]/\H p=O (.ext (Gh X.prog X.w p ks))/\EZ ks<1000/\Q (.int (EZ ks:Nat)) H):=by
 intro pins s σ H xs us Q I r h
 obtain⟨p,ks,rfl,hH,hn,q⟩:=h
 obtain⟨u,rfl,rx⟩:=gM r
 cases rx
 obtain⟨⟨o,es,ep,t,e,hx,hd,_,_,_,hf,hsz⟩,_⟩:=I.hok p _ hH
 have hsz':es.size=EZ ks:=hsz
 exact call_len_set e hx hd hf (by omega) ⟨.int (EZ ks:Nat),H,I.tok _,⟨s.toks+1,by rw [hsz']⟩,q⟩
theorem ML(ks:List Str):EZ ks<=ks.length:=HT.AC _ _
theorem Fo:CallR X (.builtin "len") (λxs H Q=>∃ p S n,xs=[.ref p]/\H p=O (.set S n)/\n<1000/\Q (.int (n:Nat)) H):=by
 intro pins s σ H xs us Q I r h
 obtain⟨p,S,n,rfl,hH,hn,q⟩:=h
 obtain⟨u,rfl,rx⟩:=gM r
 cases rx
 obtain⟨o,es,ep,t,e,hx,hd,_,_,_,hf,hsz⟩:=I.hok p _ hH
 exact call_len_set e hx hd hf (by omega) ⟨.int (n:Nat),H,I.tok _,⟨s.toks+1,by rw [hsz]⟩,q⟩
end
end L2
namespace M
open L2
noncomputable def mS:List D->Option (List Int)
 | []=>O []
 | .int i::r=>(mS r).bind λns=>O (i::ns)
 | _::_=>U
theorem pV:∀ {ds:List D} {ns:List Int},mS ds=O ns->ds=ns.map D.int
 | [],ns,h=>by cases h;rfl
 | .int i::r,ns,h=>by
  obtain⟨ms,h1,h2⟩:=SJ.mp h
  cases h2
  rw [Ta,<- pV h1]
 | .non::_,ns,h=>by cases h
 | .bl _::_,ns,h=>by cases h
 | .str _::_,ns,h=>by cases h
 | .tup _::_,ns,h=>by cases h
 | .lst _::_,ns,h=>by cases h
 | .rol _::_,ns,h=>by cases h
 | .dct _ _::_,ns,h=>by cases h
 | .ref _::_,ns,h=>by cases h
theorem sP:∀ ns:List Int,mS (ns.map D.int)=O ns
 | []=>rfl
 | n::ns=>by rw [Ta,mS,sP ns];rfl
noncomputable def isort(ns:List Int):List Int:=ns.mergeSort λa b=>decide (a<=b)
section
variable{X:Cx}{K:W.Frag}{μ:Fp}{H:Hp}{S:aa}
theorem uK:∀ {vs:List V} {ns:List Int},Reps K μ H vs (ns.map D.int)->vs=ns.map V.int
 | _,[],.nil=>rfl
 | _,n::ns,.cons h t=>by rw [h.int_inv,uK t];rfl
noncomputable def pW(S:aa)(d:D):Option (List Int):=if ue S d=true then (fV S d).bind λds=>(mS ds).bind λns=>if ns.length<64 then O ns else U else U
theorem sQ{v:V}{d:D}{ns:List Int}(hS:SOk K μ S H)(r:Rep K μ H v d)(h:pW S d=O ns):∃ a,v=.ref a/\jk K H a (ns.map V.int)/\ns.length<64:=by
 unfold pW at h
 split at h
 ·rename_i hl
  obtain⟨a,vs,ds,rfl,hq,hs,rs⟩:=nS hS r hl
  rw [hs] at h
  have h:((mS ds).bind λns=>if ns.length<64 then O ns else U)=O ns:=h
  obtain⟨ms,h1,h2⟩:=SJ.mp h
  split at h2
  ·rename_i h3
   cases h2
   have:=pV h1
   subst this
   exact⟨a,rfl,by rw [<- uK rs];exact hq,h3⟩
  ·cases h2
 ·cases h
noncomputable def fSorted(S:aa):List D->Option D
 | [d]=>(pW S d).bind λns=>O (.lst ((isort ns).map D.int))
 | _=>U
noncomputable def wb:List D->Option (List Str)
 | []=>O []
 | .str x::r=>(wb r).bind λns=>O (x::ns)
 | _::_=>U
theorem pK:∀ {ds:List D} {ns:List Str},wb ds=O ns->ds=ns.map D.str
 | [],ns,h=>by cases h;rfl
 | d::r,ns,h=>by
  cases d with
  | str x=>
   obtain⟨ms,h1,h2⟩:=SJ.mp h
   cases h2
   rw [Ta,<- pK h1]
  | _=>cases h
theorem uJ:∀ {vs:List V} {ns:List Str},Reps K μ H vs (ns.map D.str)->vs=ns.map V.str
 | _,[],.nil=>rfl
 | _,n::ns,.cons h t=>by cases h;rw [uJ t];rfl
noncomputable def Gc(S:aa)(d:D):Option (List Str):=if ue S d=true then (fV S d).bind λds=>(wb ds).bind λns=>if ns.length<64 then O ns else U else U
theorem AJ{v:V}{d:D}{ns:List Str}(hS:SOk K μ S H)(r:Rep K μ H v d)(h:Gc S d=O ns):∃ a,v=.ref a/\jk K H a (ns.map V.str)/\ns.length<64:=by
 unfold Gc at h
 split at h
 ·rename_i hl
  obtain⟨a,vs,ds,rfl,hq,hs,rs⟩:=nS hS r hl
  rw [hs] at h
  have h:((wb ds).bind λns=>if ns.length<64 then O ns else U)=O ns:=h
  obtain⟨ms,h1,h2⟩:=SJ.mp h
  split at h2
  ·rename_i h3
   cases h2
   have:=pK h1
   subst this
   exact⟨a,rfl,by rw [<- uJ rs];exact hq,h3⟩
  ·cases h2
 ·cases h
noncomputable def lM(S:aa):List D->Option D
 | [d]=>match pW S d with | some ns=>O (.int (qH ns:Nat)) | none=>(Gc S d).bind λks=>O (.int (EZ ks:Nat))
 | _=>U
noncomputable def ca(ms:MA):ME:=λenv S=>(ms env S).bind λp=>(lM p.2 p.1).bind λd=>O (d,p.2)
theorem MM(ns:List Int):qH ns<=ns.length:=firstMet_length_le _ _
theorem Fa{a:Expr}{ms:MA}{p p2 pos pos2:Pos}(hc:X.calm=true)(hm:X.mg "len" = U)(hm2:X.mg "set" = U)(hg:Gl X "len")(hg2:Gl X "set")(ha:DA X [a] ms)(hs:starEach [a] X.env=[(false,eval a X.env)]) :
  DE X (.Call (.Name "len" p) [.Call (.Name "set" p2) [a] [] pos2] [] pos) (ca ms):=by
 have hset:=uM (X:=X) (pos:=pos2) (p:=p2) (CallR.or Fh Fg) hg2 hm2 boot_set ha (by decide) (by decide) hs rfl
 refine PE.imp (rQ (CallR.or Fo Fl) hg hm boot_len (qM hset AY rfl) (by decide) (by decide) rfl rfl) λσ H Q ⟨μ,S,env,d,S',hS,hE,h,post⟩=>?_
 obtain⟨⟨ds,S1⟩,h1,h⟩:=SJ.mp h
 obtain⟨d',h2,h⟩:=SJ.mp h
 cases h
 dsimp only at h2
 unfold lM at h2
 split at h2
 ·rename_i dd _
  refine⟨μ,S,env,[dd],S1,hS,hE,h1,λvs H1 μ1 e1 s1 r1=>?_⟩
  obtain⟨v,rfl,rv⟩:=r1.one
  split at h2
  ·rename_i ns h3
   cases h2
   obtain⟨b,rfl,hq,h64⟩:=sQ s1 rv h3
   refine .inl ⟨hc,b,ns,rfl,hq,h64,λT q hn=>?_⟩
   obtain⟨e2,s2⟩:=s1.laid (o:=.set T (qH ns)) hn
   exact .inl ⟨q,T,qH ns,rfl,aC,by have:=MM ns;omega,post _ _ μ1 (e1.trans e2) s2 (.int _)⟩
  ·obtain⟨ks,h3,h4⟩:=SJ.mp h2
   cases h4
   obtain⟨b,rfl,hq,h64⟩:=AJ s1 rv h3
   refine .inr ⟨hc,b,ks,rfl,hq,h64,λq hn=>?_⟩
   obtain⟨e2,s2⟩:=s1.laid (o:=.ext (Gh X.prog X.w q ks)) hn
   exact .inr ⟨q,ks,rfl,aC,by have:=ML ks;omega,post _ _ μ1 (e1.trans e2) s2 (.int _)⟩
 ·cases h2
end
section
variable{X:Cx}{K:W.Frag}{μ:Fp}{H:Hp}{S:aa}
noncomputable def jv(i j:Nat)(ms:MA):MS:=λenv S=>(ms env S).bind λp=>match p.1 with | [v,w]=>O (.nx ((env.set i (O v)).set j (O w)) p.2) | _=>U
theorem RR{i j:Nat}{x y:Str}{a b:Expr}{ms:MA}{px py pt pos:Pos}{kt k2:Nat}{pt2:Pos}(hc:X.calm=true)(hN:X.N.Nodup)(hi:X.N[i]?=O x)(hj:X.N[j]?=O y)(hij:i≠j)
  (hx:X.env.scope.names.lookup x=O .local) (hy:X.env.scope.names.lookup y=O .local) (ha:DA X [a,b] ms)
  (hw:swappedStores [.Tuple [.Name x px,.Name y py] kt pt] (.Tuple [a,b] k2 pt2) X.env=pure (O [x,y])) :
  DS X (.Assign [.Tuple [.Name x px,.Name y py] kt pt] (.Tuple [a,b] k2 pt2) pos) (jv i j ms):=
 PS.imp (Ph hc hN hi hj hij hx hy ha hw rfl) λE σ H ⟨μ,S,env,o,hS,hE,h,post⟩=>by
  obtain⟨⟨ds,S1⟩,h1,h⟩:=SJ.mp h
  refine⟨μ,S,env,ds,S1,hS,hE,h1,λvs H1 μ1 e1 s1 r1=>?_⟩
  dsimp only at h
  split at h
  ·rename_i v w
   cases h
   obtain⟨v',w',rfl,rv,rw'⟩:=r1.two
   exact⟨v',w',rfl,post _ H1 μ1 e1 s1 (((hE.mono e1).set rv i).set rw' j)⟩
  ·cases h
noncomputable def rO:Expr->Bool
 | .Starred _ _=>false
 | _=>true
theorem Ga{x y:Str}{a b:Expr}{px py pt:Pos}{kt k2:Nat}{pt2:Pos}(hb:X.env.blockKind=.function)(hx:X.env.scope.names.lookup x=O .local)(hy:X.env.scope.names.lookup y=O .local)(hne:(x == y)=false)
  (hl:(py.line == px.line)=true) (ha:rO a=true) (hb':rO b=true) (hf:(foldedForSure 8 a&&foldedForSure 8 b)=false) (hcn:(constantsAlone 8 a&&constantsAlone 8 b)=false) :
  swappedStores [.Tuple [.Name x px,.Name y py] kt pt] (.Tuple [a,b] k2 pt2) X.env=pure (O [x,y]):=by
 have hkx:X.env.kindOf x=O .local:=hx
 have hky:X.env.kindOf y=O .local:=hy
 have hs:([a,b].any λe=>match e with | .Starred ..=>true | _=>false)=false:=by
  have q:∀ e:Expr,rO e=true->(match e with | .Starred ..=>true | _=>false:Bool)=false:=λe h=>by cases e <;> first | rfl | cases h
  simp only [UO,List.any_nil,q a ha,q b hb',Bool.or_self]
 have hxy:(y == x)=false:=by
  rw [Bool.eq_false_iff] at hne ⊢
  intro z;exact hne (by rw [beq_iff_eq] at z ⊢;exact z.symm)
 have hed:([x,y]:List Str).eraseDups=[x,y]:=by simp [List.eraseDups_cons,hxy]
 have hl':py.line=px.line:=by simpa using hl
 unfold swappedStores
 simp only [SY,Uk,hb]
 simp only [Ur,List.all_nil,VF,hf,hcn]
 generalize hg:List.filterMap _ [Expr.Name x px,Expr.Name y py]=L
 have hL:L=[x,y]:=by
  rw [<- hg]
  have e0:(Option.map (λ(x:Expr)=>x.pos.line) [Expr.Name x px,Expr.Name y py].head?).getD 0=px.line:=rfl
  rw [Um,Um]
  have e1:(Expr.Name x px).pos=px:=rfl
  simp [hkx,hky,e0,e1,hl']
 subst hL
 rw [Ts (by decide)]
 rw [Ts (by
  intro z
  have:([a,b].any λe=>match e with | .Starred ..=>true | _=>false)=true:=z
  rw [hs] at this;cases this)]
 rw [Ts (by rw [hed];simp),Ts SZ,Ts SZ]
end
end M
namespace L2
section
variable{X:Cx}{pins:List (Addr×Obj)}{σ:St}{H:Hp}{s:Shared}{a:Addr}{xs:List V}
variable{o e:Expr}{es:List Expr}{to:TE}{t:TA}{name:Str}{apos cpos:Pos}{id:String}{r:V->List V->Hp->VK->Prop}
end
end L2
namespace M
open L2
section
variable{X:Cx}{K:W.Frag}{μ:Fp}{H:Hp}{S:aa}
noncomputable def OF:D->Bool
 | .tup _=>true
 | _=>false
noncomputable def Md:MF:=λo ds S=>if OF o=true then xN o ds S else U
end
end M
namespace HT
section
variable{prog:Program}{w:World}{A:Around}{E:Value->Shared->Prop}{s:Shared}
structure yf(z TI TO i1 i2:Addr)(fp1 fp2:List Addr):Prop where
 TIz:TI≠z
 TOz:TO≠z
 TITO:TI≠TO
 z1:z ∉ fp1
 z2:z ∉ fp2
 o1:TO ∉ fp1
 o2:TO ∉ fp2
 i12:i1 ∉ fp2
 i21:i2 ∉ fp1
 t1:TI≠i1
 t2:TI≠i2
 m1:i1∈fp1
 m2:i2∈fp2
theorem Dw{z TI TO i1 i2:Addr}{fp1 fp2:List Addr}{n1 n2 k1 k2:Nat}{P1 P2:Nat->Value->Prop}{St1 St2:Nat->Heap->Prop}{a b:Value}{Q:Value->Shared->Prop}
  (Z:yf z TI TO i1 i2 fp1 fp2) (D1:Draws prog w A i1 fp1 n1 P1 St1) (D2:Draws prog w A i2 fp2 n2 P2 St2) (hz:IsZip s.heap z TI TO .none) (hTI:IsPair s.heap TI (.ref i1) (.ref i2)) (hTO:IsPair s.heap TO a b)
  (s1:St1 k1 s.heap) (s2:St2 k2 s.heap) (l1:k1<n1) (l2:k2<n2)
  (hQ:∀ x y h' tk,P1 k1 x->P2 k2 y->IsZip h' z TI TO (rawInt s.heap.objs.size)->IsPair h' TO x y->St1 (k1+1) h'->St2 (k2+1) h'->IsPair h' s.heap.objs.size x y->h'.objs.size=s.heap.objs.size+1 ->
   (∀ c o,c≠z->c≠TO->c≠i1->c≠i2->s.heap.get? c=O o->h'.get? c=O o)->Q (.ref s.heap.objs.size) { s with heap:=h',toks:=tk }) :
  wpAny (model prog w) A (Builtin.«zip.__next__» ⟨[.ref z],[]⟩) (λfin s'=>∃ v,fin=.done (.ret v)/\Q v s') E s:=by
 unfold Builtin.«zip.__next__»
 show wpAny _ _ (field (.ref z) 2 >>= _) _ _ s
 refine SK (TQ hz rfl (x:=.bool false) rfl ?_)
 refine SK (TQ hz rfl (x:=.ref TI) rfl ?_)
 refine SK (Uv hTI rfl ?_)
 show wpAny _ _ (Builtin.SmallTypes.ownedTupleIsFree (.ref z) >>= _) _ _ s
 refine SK ?_
 unfold Builtin.SmallTypes.ownedTupleIsFree
 refine SK (TQ hz rfl (x:=.none) rfl (SU ?_))
 show wpAny _ _ (rule "zip.__next__.owned-tuple-again" >>= _) _ _ s
 refine SK (Vl ?_)
 refine SK (TQ hz rfl (x:=.ref TO) rfl ?_)
 refine SK (Uu hz rfl (by simp) ?_)
 refine SK ?_
 show wpAny _ _ (forIn [((Value.ref i1,0):Value×Nat),(Value.ref i2,1)] _ _) _ _ _
 rw [Uy]
 refine SK ?_
 refine SK (VB ?_)
 refine SK ?_
 have ez:(s.heap.update z (Obj.mapFields λvs=>vs.setIfInBounds 0 .ellipsis)).get? z=O { cls:=.type "zip",data:=.fields #[.ellipsis,.bool false,.bool false,.ref TI,.ref TO] }:=TR _ hz rfl
 have ne0:∀ c,c≠z->(s.heap.update z (Obj.mapFields λvs=>vs.setIfInBounds 0 .ellipsis)).get? c=s.heap.get? c:=λc hc=>TH _ _ _ _ hc
 have sz0:(s.heap.update z (Obj.mapFields λvs=>vs.setIfInBounds 0 .ellipsis)).objs.size=s.heap.objs.size:=(Uo ..).1
 generalize (s.heap.update z (Obj.mapFields λvs=>vs.setIfInBounds 0 .ellipsis))=h0 at ez ne0 sz0 ⊢
 have zi1:z≠i1:=λe=>Z.z1 (e ▸ Z.m1)
 have zi2:z≠i2:=λe=>Z.z2 (e ▸ Z.m2)
 have oi1:TO≠i1:=λe=>Z.o1 (e ▸ Z.m1)
 have oi2:TO≠i2:=λe=>Z.o2 (e ▸ Z.m2)
 refine D1.item k1 { s with heap:=h0 } _ _ l1 (D1.frame _ _ _ s1 λc hc o ho=>(ne0 c (λe=>Z.z1 (e ▸ hc))).trans ho) λx h1 tk1 px st1 sb1=>SU ?_
 have o1:h1.get? TO=O { cls:=.type "tuple",data:=.seq #[a,b] }:=(sb1.2 TO oi1).trans ((ne0 TO Z.TOz).trans hTO)
 show wpAny _ _ (seqItems? (Value.ref TO) >>= _) _ _ _
 refine SK (Uv o1 rfl ?_)
 refine SK (Wu o1 rfl ?_ (by show 2<=sizeLine;decide) (by simp;decide))
 refine SK (Xh (SU ?_))
 have eo:(h1.update TO (Obj.mapSeq λvs=>vs.setIfInBounds 0 x)).get? TO=O { cls:=.type "tuple",data:=.seq #[x,b] }:=TR _ o1 rfl
 have ne1:∀ c,c≠TO->(h1.update TO (Obj.mapSeq λvs=>vs.setIfInBounds 0 x)).get? c=h1.get? c:=λc hc=>TH _ _ _ _ hc
 have sz1:(h1.update TO (Obj.mapSeq λvs=>vs.setIfInBounds 0 x)).objs.size=s.heap.objs.size:=(Uo ..).1.trans (sb1.1.trans sz0)
 generalize (h1.update TO (Obj.mapSeq λvs=>vs.setIfInBounds 0 x))=h2 at eo ne1 sz1 ⊢
 show wpAny _ _ (forIn [((Value.ref i2,1):Value×Nat)] _ _) _ _ _
 rw [Uy]
 refine SK ?_
 refine SK (VB ?_)
 refine SK ?_
 refine D2.item k2 { s with heap:=h2,toks:=tk1 } _ _ l2 (D2.frame _ _ _ s2 λc hc o ho=>(ne1 c (λe=>Z.o2 (e ▸ hc))).trans ((sb1.2 c (λe=>Z.i12 (e ▸ hc))).trans ((ne0 c (λe=>Z.z2 (e ▸ hc))).trans ho))) λy h3 tk2 py st2 sb2=>SU ?_
 have o2:h3.get? TO=O { cls:=.type "tuple",data:=.seq #[x,b] }:=(sb2.2 TO oi2).trans eo
 show wpAny _ _ (seqItems? (Value.ref TO) >>= _) _ _ _
 refine SK (Uv o2 rfl ?_)
 refine SK (Wu o2 rfl ?_ (by show 2<=sizeLine;decide) (by simp;decide))
 refine SK (Xh (SU ?_))
 have eo2:(h3.update TO (Obj.mapSeq λvs=>vs.setIfInBounds 1 y)).get? TO=O { cls:=.type "tuple",data:=.seq #[x,y] }:=TR _ o2 rfl
 have ne2:∀ c,c≠TO->(h3.update TO (Obj.mapSeq λvs=>vs.setIfInBounds 1 y)).get? c=h3.get? c:=λc hc=>TH _ _ _ _ hc
 have sz2:(h3.update TO (Obj.mapSeq λvs=>vs.setIfInBounds 1 y)).objs.size=s.heap.objs.size:=(Uo ..).1.trans (sb2.1.trans sz1)
 generalize (h3.update TO (Obj.mapSeq λvs=>vs.setIfInBounds 1 y))=h4 at eo2 ne2 sz2 ⊢
 show wpAny _ _ (pure _) _ _ _
 refine SU ?_
 show wpAny _ _ (seqItems? (Value.ref TO) >>= _) _ _ _
 refine SK (Uv eo2 rfl ?_)
 show wpAny _ _ (newTuple [x,y] >>= _) _ _ _
 refine SK ?_
 simp only [newTuple]
 refine TL ?_ (by size_fits)
 have ez4:h4.get? z=O { cls:=.type "zip",data:=.fields #[.ellipsis,.bool false,.bool false,.ref TI,.ref TO] }:=(ne2 z Z.TOz.symm).trans ((sb2.2 z zi2).trans ((ne1 z Z.TOz.symm).trans ((sb1.2 z zi1).trans ez)))
 have ez5:=SL { cls:=.type "tuple",data:=.seq #[x,y] } ez4
 have et5:=SW h4 (o:={ cls:=.type "tuple",data:=.seq #[x,y] }) rfl
 have kk5:∀ c o,h4.get? c=O o->(h4.push { cls:=.type "tuple",data:=.seq #[x,y] }).get? c=O o:=λc o=>SL _
 have sz5:(h4.push { cls:=.type "tuple",data:=.seq #[x,y] }).objs.size=s.heap.objs.size+1:=by rw [TZ,sz2]
 dsimp only
 show wpAny _ _ _ _ _ { s with heap:=h4.push { cls:=.type "tuple",data:=.seq #[x,y] },toks:=tk2 }
 generalize (h4.push { cls:=.type "tuple",data:=.seq #[x,y] })=h5 at ez5 et5 kk5 sz5 ⊢
 rw [sz2] at et5 ⊢
 show wpAny _ _ ((setField (.ref z) 0 (rawInt s.heap.objs.size) >>= λ_=>setField (.ref z) 1 (.bool false)) >>= _) _ _ _
 refine SK (SK (Uu ez5 rfl (by simp) ?_))
 have ez6:(h5.update z (Obj.mapFields λvs=>vs.setIfInBounds 0 (rawInt s.heap.objs.size))).get? z=O { cls:=.type "zip",data:=.fields #[rawInt s.heap.objs.size,.bool false,.bool false,.ref TI,.ref TO] }:=TR _ ez5 rfl
 have ne6:∀ c,c≠z->(h5.update z (Obj.mapFields λvs=>vs.setIfInBounds 0 (rawInt s.heap.objs.size))).get? c=h5.get? c:=λc hc=>TH _ _ _ _ hc
 have sz6:(h5.update z (Obj.mapFields λvs=>vs.setIfInBounds 0 (rawInt s.heap.objs.size))).objs.size=s.heap.objs.size+1:=(Uo ..).1.trans sz5
 generalize (h5.update z (Obj.mapFields λvs=>vs.setIfInBounds 0 (rawInt s.heap.objs.size)))=h6 at ez6 ne6 sz6 ⊢
 refine Uu ez6 rfl (by simp) ?_
 have ez7:(h6.update z (Obj.mapFields λvs=>vs.setIfInBounds 1 (.bool false))).get? z=O { cls:=.type "zip",data:=.fields #[rawInt s.heap.objs.size,.bool false,.bool false,.ref TI,.ref TO] }:=TR _ ez6 rfl
 have ne7:∀ c,c≠z->(h6.update z (Obj.mapFields λvs=>vs.setIfInBounds 1 (.bool false))).get? c=h6.get? c:=λc hc=>TH _ _ _ _ hc
 have sz7:(h6.update z (Obj.mapFields λvs=>vs.setIfInBounds 1 (.bool false))).objs.size=s.heap.objs.size+1:=(Uo ..).1.trans sz6
 generalize (h6.update z (Obj.mapFields λvs=>vs.setIfInBounds 1 (.bool false)))=h7 at ez7 ne7 sz7 ⊢
 have k57:∀ c o,c≠z->h4.get? c=O o->h7.get? c=O o:=λc o hc ho=>(ne7 c hc).trans ((ne6 c hc).trans (kk5 c o ho))
 have newz:s.heap.objs.size≠z:=Uh (SV hz)
 refine SU ⟨_,rfl,hQ x y h7 tk2 px py ez7 (k57 TO _ Z.TOz eo2) ?_ ?_ ((ne7 _ newz).trans ((ne6 _ newz).trans et5)) sz7 λc o c1 c2 c3 c4 ho=>k57 c o c1 ((ne2 c c2).trans ((sb2.2 c c4).trans ((ne1 c c2).trans ((sb1.2 c c3).trans ((ne0 c c1).trans ho)))))⟩
 ·exact D1.frame _ _ _ st1 λc hc o ho=>k57 c o (λe=>Z.z1 (e ▸ hc)) ((ne2 c (λe=>Z.o1 (e ▸ hc))).trans ((sb2.2 c (λe=>Z.i21 (e ▸ hc))).trans ((ne1 c (λe=>Z.o1 (e ▸ hc))).trans ho)))
 ·exact D2.frame _ _ _ st2 λc hc o ho=>k57 c o (λe=>Z.z2 (e ▸ hc)) ((ne2 c (λe=>Z.o2 (e ▸ hc))).trans ho)
theorem Dy{z TI TO i1 i2:Addr}{fp1 fp2:List Addr}{n1:Nat}{P1:Nat->Value->Prop}{St1:Nat->Heap->Prop}{a b:Value}{Q:Fin->Shared->Prop}
  (Z:yf z TI TO i1 i2 fp1 fp2) (D1:Draws prog w A i1 fp1 n1 P1 St1) (hz:IsZip s.heap z TI TO .none) (hTI:IsPair s.heap TI (.ref i1) (.ref i2)) (hTO:IsPair s.heap TO a b)
  (s1:St1 n1 s.heap)
  (hE:∀ h' e tk,(∀ c o,c≠z->c≠TO->c≠i1->c≠i2->s.heap.get? c=O o->h'.get? c=O o)->(∃ o,h'.get? e=O o/\o.cls=.type "StopIteration")->E (.ref e) { s with heap:=h',toks:=tk }) :
  wpAny (model prog w) A (Builtin.«zip.__next__» ⟨[.ref z],[]⟩) Q E s:=by
 unfold Builtin.«zip.__next__»
 show wpAny _ _ (field (.ref z) 2 >>= _) _ _ s
 refine SK (TQ hz rfl (x:=.bool false) rfl ?_)
 refine SK (TQ hz rfl (x:=.ref TI) rfl ?_)
 refine SK (Uv hTI rfl ?_)
 show wpAny _ _ (Builtin.SmallTypes.ownedTupleIsFree (.ref z) >>= _) _ _ s
 refine SK ?_
 unfold Builtin.SmallTypes.ownedTupleIsFree
 refine SK (TQ hz rfl (x:=.none) rfl (SU ?_))
 show wpAny _ _ (rule "zip.__next__.owned-tuple-again" >>= _) _ _ s
 refine SK (Vl ?_)
 refine SK (TQ hz rfl (x:=.ref TO) rfl ?_)
 refine SK (Uu hz rfl (by simp) ?_)
 refine SK ?_
 show wpAny _ _ (forIn [((Value.ref i1,0):Value×Nat),(Value.ref i2,1)] _ _) _ _ _
 rw [Uy]
 refine SK ?_
 refine SK (VB ?_)
 refine SK ?_
 have ez:(s.heap.update z (Obj.mapFields λvs=>vs.setIfInBounds 0 .ellipsis)).get? z=O { cls:=.type "zip",data:=.fields #[.ellipsis,.bool false,.bool false,.ref TI,.ref TO] }:=TR _ hz rfl
 have ne0:∀ c,c≠z->(s.heap.update z (Obj.mapFields λvs=>vs.setIfInBounds 0 .ellipsis)).get? c=s.heap.get? c:=λc hc=>TH _ _ _ _ hc
 generalize (s.heap.update z (Obj.mapFields λvs=>vs.setIfInBounds 0 .ellipsis))=h0 at ez ne0 ⊢
 have zi1:z≠i1:=λe=>Z.z1 (e ▸ Z.m1)
 have zi2:z≠i2:=λe=>Z.z2 (e ▸ Z.m2)
 have oi1:TO≠i1:=λe=>Z.o1 (e ▸ Z.m1)
 have oi2:TO≠i2:=λe=>Z.o2 (e ▸ Z.m2)
 refine D1.done { s with heap:=h0 } _ _ (D1.frame _ _ _ s1 λc hc o ho=>(ne0 c (λe=>Z.z1 (e ▸ hc))).trans ho) λh1 e xb ⟨o,ho,hc⟩=>?_
 have z1:=xb z _ zi1 ez
 refine Uu z1 rfl (by simp) (hE _ e s.toks (λc o c1 c2 c3 c4 ho=>(TH _ _ _ _ c1).trans (xb c o c3 ((ne0 c c1).trans ho))) ?_)
 refine⟨o,(TH _ _ _ _ λh=>?_).trans ho,hc⟩
 rw [h,z1] at ho;cases ho;exact absurd (show Value.type "zip" = Value.type "StopIteration" from hc) (by decide)
theorem Dx{z TI TO i1 i2:Addr}{fp1 fp2:List Addr}{n1 n2 k1:Nat}{P1 P2:Nat->Value->Prop}{St1 St2:Nat->Heap->Prop}{a b:Value}{Q:Fin->Shared->Prop}
  (Z:yf z TI TO i1 i2 fp1 fp2) (D1:Draws prog w A i1 fp1 n1 P1 St1) (D2:Draws prog w A i2 fp2 n2 P2 St2) (hz:IsZip s.heap z TI TO .none) (hTI:IsPair s.heap TI (.ref i1) (.ref i2)) (hTO:IsPair s.heap TO a b)
  (s1:St1 k1 s.heap) (l1:k1<n1) (s2:St2 n2 s.heap)
  (hE:∀ h' e tk,(∀ c o,c≠z->c≠TO->c≠i1->c≠i2->s.heap.get? c=O o->h'.get? c=O o)->(∃ o,h'.get? e=O o/\o.cls=.type "StopIteration")->E (.ref e) { s with heap:=h',toks:=tk }) :
  wpAny (model prog w) A (Builtin.«zip.__next__» ⟨[.ref z],[]⟩) Q E s:=by
 unfold Builtin.«zip.__next__»
 show wpAny _ _ (field (.ref z) 2 >>= _) _ _ s
 refine SK (TQ hz rfl (x:=.bool false) rfl ?_)
 refine SK (TQ hz rfl (x:=.ref TI) rfl ?_)
 refine SK (Uv hTI rfl ?_)
 show wpAny _ _ (Builtin.SmallTypes.ownedTupleIsFree (.ref z) >>= _) _ _ s
 refine SK ?_
 unfold Builtin.SmallTypes.ownedTupleIsFree
 refine SK (TQ hz rfl (x:=.none) rfl (SU ?_))
 show wpAny _ _ (rule "zip.__next__.owned-tuple-again" >>= _) _ _ s
 refine SK (Vl ?_)
 refine SK (TQ hz rfl (x:=.ref TO) rfl ?_)
 refine SK (Uu hz rfl (by simp) ?_)
 refine SK ?_
 show wpAny _ _ (forIn [((Value.ref i1,0):Value×Nat),(Value.ref i2,1)] _ _) _ _ _
 rw [Uy]
 refine SK ?_
 refine SK (VB ?_)
 refine SK ?_
 have ez:(s.heap.update z (Obj.mapFields λvs=>vs.setIfInBounds 0 .ellipsis)).get? z=O { cls:=.type "zip",data:=.fields #[.ellipsis,.bool false,.bool false,.ref TI,.ref TO] }:=TR _ hz rfl
 have ne0:∀ c,c≠z->(s.heap.update z (Obj.mapFields λvs=>vs.setIfInBounds 0 .ellipsis)).get? c=s.heap.get? c:=λc hc=>TH _ _ _ _ hc
 generalize (s.heap.update z (Obj.mapFields λvs=>vs.setIfInBounds 0 .ellipsis))=h0 at ez ne0 ⊢
 have zi1:z≠i1:=λe=>Z.z1 (e ▸ Z.m1)
 have zi2:z≠i2:=λe=>Z.z2 (e ▸ Z.m2)
 have oi1:TO≠i1:=λe=>Z.o1 (e ▸ Z.m1)
 have oi2:TO≠i2:=λe=>Z.o2 (e ▸ Z.m2)
 refine D1.item k1 { s with heap:=h0 } _ _ l1 (D1.frame _ _ _ s1 λc hc o ho=>(ne0 c (λe=>Z.z1 (e ▸ hc))).trans ho) λx h1 tk1 px st1 sb1=>SU ?_
 have o1:h1.get? TO=O { cls:=.type "tuple",data:=.seq #[a,b] }:=(sb1.2 TO oi1).trans ((ne0 TO Z.TOz).trans hTO)
 show wpAny _ _ (seqItems? (Value.ref TO) >>= _) _ _ _
 refine SK (Uv o1 rfl ?_)
 refine SK (Wu o1 rfl ?_ (by show 2<=sizeLine;decide) (by simp;decide))
 refine SK (Xh (SU ?_))
 have ne1:∀ c,c≠TO->(h1.update TO (Obj.mapSeq λvs=>vs.setIfInBounds 0 x)).get? c=h1.get? c:=λc hc=>TH _ _ _ _ hc
 generalize (h1.update TO (Obj.mapSeq λvs=>vs.setIfInBounds 0 x))=h2 at ne1 ⊢
 show wpAny _ _ (forIn [((Value.ref i2,1):Value×Nat)] _ _) _ _ _
 rw [Uy]
 refine SK ?_
 refine SK (VB ?_)
 refine SK ?_
 refine D2.done { s with heap:=h2,toks:=tk1 } _ _ (D2.frame _ _ _ s2 λc hc o ho=>(ne1 c (λe=>Z.o2 (e ▸ hc))).trans ((sb1.2 c (λe=>Z.i12 (e ▸ hc))).trans ((ne0 c (λe=>Z.z2 (e ▸ hc))).trans ho))) λh3 e xb ⟨o,ho,hc⟩=>?_
 have z1:=xb z _ zi2 ((ne1 z Z.TOz.symm).trans ((sb1.2 z zi1).trans ez))
 refine Uu z1 rfl (by simp) (hE _ e tk1 (λc o c1 c2 c3 c4 ho=>(TH _ _ _ _ c1).trans (xb c o c4 ((ne1 c c2).trans ((sb1.2 c c3).trans ((ne0 c c1).trans ho))))) ?_)
 refine⟨o,(TH _ _ _ _ λh=>?_).trans ho,hc⟩
 rw [h,z1] at ho;cases ho;exact absurd (show Value.type "zip" = Value.type "StopIteration" from hc) (by decide)
theorem yG{z TI TO i1 i2:Addr}{fp1 fp2:List Addr}{n1 n2 k1 k2:Nat}{P1 P2:Nat->Value->Prop}{St1 St2:Nat->Heap->Prop}{a b:Value}{Q:Option Value->Shared->Prop}
  (Z:yf z TI TO i1 i2 fp1 fp2) (D1:Draws prog w A.in1 i1 fp1 n1 P1 St1) (D2:Draws prog w A.in1 i2 fp2 n2 P2 St2) (hz:IsZip s.heap z TI TO .none) (hTI:IsPair s.heap TI (.ref i1) (.ref i2)) (hTO:IsPair s.heap TO a b)
  (s1:St1 k1 s.heap) (s2:St2 k2 s.heap) (l1:k1<n1) (l2:k2<n2)
  (hQ:∀ x y h' tk,P1 k1 x->P2 k2 y->IsZip h' z TI TO (rawInt s.heap.objs.size)->IsPair h' TO x y->St1 (k1+1) h'->St2 (k2+1) h'->IsPair h' s.heap.objs.size x y->h'.objs.size=s.heap.objs.size+1 ->
   (∀ c o,c≠z->c≠TO->c≠i1->c≠i2->s.heap.get? c=O o->h'.get? c=O o)->Q (O (.ref s.heap.objs.size)) { s with heap:=h',toks:=tk }) :
  wpAny (model prog w) A (pyNext (.ref z)) Q E s:=by
 unfold pyNext
 refine SK (WL ?_)
 refine Ua (name:=Str.ofString "__next__") (T:="zip") ?_ Vb (UB Vb ?_ Wr (Dw Z D1 D2 hz hTI hTO s1 s2 l1 l2 λx y h' tk a1 a2 a3 a4 a5 a6 a7 a8 a9=>SU (hQ x y h' tk a1 a2 a3 a4 a5 a6 a7 a8 a9)) (Wj _)) <;> exact⟨_,hz,rfl⟩
end
end HT
namespace HT
section
variable{prog:Program}{w:World}{A:Around}{E:Value->Shared->Prop}{s:Shared}
theorem wG{z TI TO i1 i2:Addr}{fp1 fp2:List Addr}{n1:Nat}{P1:Nat->Value->Prop}{St1:Nat->Heap->Prop}{a b:Value}{Q:Option Value->Shared->Prop}
  (Z:yf z TI TO i1 i2 fp1 fp2) (D1:Draws prog w A.in1 i1 fp1 n1 P1 St1) (hz:IsZip s.heap z TI TO .none) (hTI:IsPair s.heap TI (.ref i1) (.ref i2)) (hTO:IsPair s.heap TO a b)
  (s1:St1 n1 s.heap) (hQ:∀ h' tk,(∀ c o,c≠z->c≠TO->c≠i1->c≠i2->s.heap.get? c=O o->h'.get? c=O o)->Q U { s with heap:=h',toks:=tk }) :
  wpAny (model prog w) A (pyNext (.ref z)) Q E s:=by
 unfold pyNext
 refine SK (WL ?_)
 refine Ua (name:=Str.ofString "__next__") (T:="zip") ⟨_,hz,rfl⟩ Vb (UB Vb ⟨_,hz,rfl⟩ Wr (Dy Z D1 hz hTI hTO s1 λh' e tk kk hc=>?_) (Wj _))
 show wpAny _ _ (isInstance (.ref e) (.type "StopIteration") >>= _) _ _ _
 exact SK (wpAny_isInstance (T:="StopIteration") (b:=true) hc (by first | exact sub_StopIteration | rfl) (SU (hQ h' tk kk)))
theorem wF{z TI TO i1 i2:Addr}{fp1 fp2:List Addr}{n1 n2 k1:Nat}{P1 P2:Nat->Value->Prop}{St1 St2:Nat->Heap->Prop}{a b:Value}{Q:Option Value->Shared->Prop}
  (Z:yf z TI TO i1 i2 fp1 fp2) (D1:Draws prog w A.in1 i1 fp1 n1 P1 St1) (D2:Draws prog w A.in1 i2 fp2 n2 P2 St2) (hz:IsZip s.heap z TI TO .none) (hTI:IsPair s.heap TI (.ref i1) (.ref i2)) (hTO:IsPair s.heap TO a b)
  (s1:St1 k1 s.heap) (l1:k1<n1) (s2:St2 n2 s.heap) (hQ:∀ h' tk,(∀ c o,c≠z->c≠TO->c≠i1->c≠i2->s.heap.get? c=O o->h'.get? c=O o)->Q U { s with heap:=h',toks:=tk }) :
  wpAny (model prog w) A (pyNext (.ref z)) Q E s:=by
 unfold pyNext
 refine SK (WL ?_)
 refine Ua (name:=Str.ofString "__next__") (T:="zip") ⟨_,hz,rfl⟩ Vb (UB Vb ⟨_,hz,rfl⟩ Wr (Dx Z D1 D2 hz hTI hTO s1 l1 s2 λh' e tk kk hc=>?_) (Wj _))
 show wpAny _ _ (isInstance (.ref e) (.type "StopIteration") >>= _) _ _ _
 exact SK (wpAny_isInstance (T:="StopIteration") (b:=true) hc (by first | exact sub_StopIteration | rfl) (SU (hQ h' tk kk)))
end
theorem FK(l1 l2:Addr)(xs ys:Array Value) :
  Meets (Builtin.«zip.__new__» ⟨[.type "zip",.ref l1,.ref l2],[]⟩) (λ_ R s=>s.heap.IsTuple l1 xs/\s.heap.IsTuple l2 ys /\
   ∀ h',IsZip h' (s.heap.objs.size+4) (s.heap.objs.size+2) (s.heap.objs.size+3) .none->IsPair h' (s.heap.objs.size+2) (.ref s.heap.objs.size) (.ref (s.heap.objs.size+1))->IsPair h' (s.heap.objs.size+3) .none .none ->
    h'.IsTupleIter s.heap.objs.size l1 0->h'.IsTupleIter (s.heap.objs.size+1) l2 0->h'.objs.size=s.heap.objs.size+5->(∀ c o,s.heap.get? c=O o->h'.get? c=O o)->R (.ok (.ret (.ref (s.heap.objs.size+4)))) { s with heap:=h' }):=
 .of_wp λprog w A R s h=>by
  obtain⟨hl,hl2,h⟩:=h
  unfold Builtin.«zip.__new__»
  refine SK ?_
  show wpAny _ _ (isType (.type "zip") >>= _) _ _ _
  refine SK (Xg (a:=true) (by first | rfl | simp [isType]) ?_)
  show wpAny _ _ (isSubtype (.type "zip") (.type "zip") >>= _) _ _ _
  refine SK (Xg sub_zip (SU ?_))
  show wpAny _ _ (Builtin.SmallTypes.iterAll [.ref l1,.ref l2] >>= _) _ _ _
  refine SK ?_
  unfold Builtin.SmallTypes.iterAll
  refine SK ?_
  rw [Uy]
  refine SK (SK (Tu (UV hl (SU ?_))))
  have g1:=SW s.heap (o:={ cls:=.type "tuple_iterator",data:=.fields #[.ref l1,.int 0 0] }) rfl
  have k1:∀ c o,s.heap.get? c=O o->(s.heap.push { cls:=.type "tuple_iterator",data:=.fields #[.ref l1,.int 0 0] }).get? c=O o:=λc o=>SL _
  have z1:(s.heap.push { cls:=.type "tuple_iterator",data:=.fields #[.ref l1,.int 0 0] }).objs.size=s.heap.objs.size+1:=TZ ..
  generalize s.heap.push { cls:=.type "tuple_iterator",data:=.fields #[.ref l1,.int 0 0] } = h1 at g1 k1 z1 ⊢
  have hl2':h1.IsTuple l2 ys:=by obtain⟨o,ho,r⟩:=hl2;exact⟨o,k1 _ _ ho,r⟩
  show wpAny _ _ (forIn [Value.ref l2] _ _) _ _ _
  rw [Uy]
  refine SK (SK (Tu (UV hl2' (SU ?_))))
  dsimp only
  have g2:=SW h1 (o:={ cls:=.type "tuple_iterator",data:=.fields #[.ref l2,.int 0 0] }) rfl
  have k2:∀ c o,h1.get? c=O o->(h1.push { cls:=.type "tuple_iterator",data:=.fields #[.ref l2,.int 0 0] }).get? c=O o:=λc o=>SL _
  have z2:(h1.push { cls:=.type "tuple_iterator",data:=.fields #[.ref l2,.int 0 0] }).objs.size=s.heap.objs.size+2:=by rw [TZ,z1]
  generalize h1.push { cls:=.type "tuple_iterator",data:=.fields #[.ref l2,.int 0 0] } = h2 at g2 k2 z2 ⊢
  rw [z1] at g2 ⊢
  show wpAny _ _ (pure _) _ _ _
  refine SU (SU ?_)
  show wpAny _ _ (newTuple [.ref s.heap.objs.size,.ref (s.heap.objs.size+1)] >>= _) _ _ _
  refine SK ?_
  simp only [newTuple]
  refine TL ?_ (by size_fits)
  have g3:=SW h2 (o:={ cls:=.type "tuple",data:=.seq #[.ref s.heap.objs.size,.ref (s.heap.objs.size+1)] }) rfl
  have k3:∀ c o,h2.get? c=O o->(h2.push { cls:=.type "tuple",data:=.seq #[.ref s.heap.objs.size,.ref (s.heap.objs.size+1)] }).get? c=O o:=λc o=>SL _
  have z3:(h2.push { cls:=.type "tuple",data:=.seq #[.ref s.heap.objs.size,.ref (s.heap.objs.size+1)] }).objs.size=s.heap.objs.size+3:=by rw [TZ,z2]
  dsimp only
  show wpAny _ _ _ _ _ { s with heap:=h2.push { cls:=.type "tuple",data:=.seq #[.ref s.heap.objs.size,.ref (s.heap.objs.size+1)] } }
  generalize h2.push { cls:=.type "tuple",data:=.seq #[.ref s.heap.objs.size,.ref (s.heap.objs.size+1)] } = h3 at g3 k3 z3 ⊢
  rw [z2] at g3 ⊢
  refine SK ?_
  show wpAny _ _ (newObj (.type "tuple") (.seq #[.none,.none])) _ _ _
  refine TL ?_ (by size_fits)
  have g4:=SW h3 (o:={ cls:=.type "tuple",data:=.seq #[.none,.none] }) rfl
  have k4:∀ c o,h3.get? c=O o->(h3.push { cls:=.type "tuple",data:=.seq #[.none,.none] }).get? c=O o:=λc o=>SL _
  have z4:(h3.push { cls:=.type "tuple",data:=.seq #[.none,.none] }).objs.size=s.heap.objs.size+4:=by rw [TZ,z3]
  dsimp only
  generalize h3.push { cls:=.type "tuple",data:=.seq #[.none,.none] } = h4 at g4 k4 z4 ⊢
  rw [z3] at g4 ⊢
  refine SK ?_
  show wpAny _ _ (newObj (.type "zip") (.fields #[.none,.bool false,.bool false,.ref (s.heap.objs.size+2),.ref (s.heap.objs.size+3)])) _ _ _
  refine TL ?_ (by size_fits)
  have g5:=SW h4 (o:={ cls:=.type "zip",data:=.fields #[.none,.bool false,.bool false,.ref (s.heap.objs.size+2),.ref (s.heap.objs.size+3)] }) rfl
  have k5:∀ c o,h4.get? c=O o->(h4.push { cls:=.type "zip",data:=.fields #[.none,.bool false,.bool false,.ref (s.heap.objs.size+2),.ref (s.heap.objs.size+3)] }).get? c=O o:=λc o=>SL _
  have z5:(h4.push { cls:=.type "zip",data:=.fields #[.none,.bool false,.bool false,.ref (s.heap.objs.size+2),.ref (s.heap.objs.size+3)] }).objs.size=s.heap.objs.size+5:=by rw [TZ,z4]
  dsimp only
  generalize h4.push { cls:=.type "zip",data:=.fields #[.none,.bool false,.bool false,.ref (s.heap.objs.size+2),.ref (s.heap.objs.size+3)] } = h5 at g5 k5 z5 ⊢
  rw [z4] at g5 ⊢
  refine SU ⟨_,rfl,h h5 g5 (k5 _ _ (k4 _ _ g3)) (k5 _ _ g4) ⟨_,k5 _ _ (k4 _ _ (k3 _ _ (k2 _ _ g1))),rfl,rfl⟩ ⟨_,k5 _ _ (k4 _ _ (k3 _ _ g2)),rfl,rfl⟩ z5 λc o e=>k5 _ _ (k4 _ _ (k3 _ _ (k2 _ _ (k1 _ _ e))))⟩
section
variable{prog:Program}{w:World}{A:Around}{E:Value->Shared->Prop}{s:Shared}
theorem Fe{l1 l2:Addr}{xs ys:Array Value}{Q:Value->Shared->Prop}(hL:s.heap.IsTuple l1 xs)(hL2:s.heap.IsTuple l2 ys)
  (h:∀ h':Heap,IsZip h' (s.heap.objs.size+4) (s.heap.objs.size+2) (s.heap.objs.size+3) .none->IsPair h' (s.heap.objs.size+2) (.ref s.heap.objs.size) (.ref (s.heap.objs.size+1))->IsPair h' (s.heap.objs.size+3) .none .none ->
    h'.IsTupleIter s.heap.objs.size l1 0->h'.IsTupleIter (s.heap.objs.size+1) l2 0->h'.objs.size=s.heap.objs.size+5->(∀ c o,s.heap.get? c=O o->h'.get? c=O o)->Q (.ref (s.heap.objs.size+4)) { s with heap:=h' }) :
  wpAny (model prog w) A (call (.type "zip") [.ref l1,.ref l2]) Q E s:=by
 refine callType_new F.called_zip (by decide) (F.typeCall_zip_2 _ _) (F.newCall_zip_2 _ _) (λobj=>F.args_object_init_3 obj _ _) F.entry_zip_new (FK l1 l2 xs ys) ⟨hL,hL2,λh' a b c d e f g=>?_⟩
 exact⟨⟨_,a,rfl⟩,h h' a b c d e f g⟩
end
end HT
namespace L2
section
noncomputable def Itz(K:W.Frag)(a b:Addr):It:=
 ⟨λi H=>∃ xs ys x y,kS K H a xs/\kS K H b ys/\xs[i]?=O x/\ys[i]?=O y,
 λi H x H'=>∃ p v u,x=.ref p/\H p=U/\H'=upd H p (.tup [v,u])/\(∀ xs,kS K H a xs->xs[i]?=O v)/\∀ ys,kS K H b ys->ys[i]?=O u,
 λi H=>∃ xs ys,kS K H a xs/\kS K H b ys/\(xs.length<=i\/ys.length<=i)⟩
noncomputable def TnZ(z TI TO i1 i2 a b:Addr)(i:Nat)(h:Heap):Prop:=IsZip h z TI TO .none/\IsPair h TI (.ref i1) (.ref i2)/\(∃ u v,IsPair h TO u v)/\h.IsTupleIter i1 a i/\h.IsTupleIter i2 b i
theorem Ag{prog:Program}{w:World}{A:Around}(hh:A.handled=U)(it a:Addr)(items:Array Value)(i:Nat)(hx:items[i]?=U) :
  Draws prog w A it [it,a] i (λ_ _=>True) (λj h=>j=i/\h.IsTupleIter it a i/\h.IsTuple a items):=
 {live:=λ_ _ q=>by obtain⟨_,⟨o,ho,_⟩,_⟩:=q;exact⟨o,ho⟩
  frame:=λ_ _ _ q hk=>by
   obtain⟨q0,⟨o,ho,r⟩,⟨o2,ho2,r2⟩⟩:=q
   exact⟨q0,⟨o,hk it (by simp) o ho,r⟩,⟨o2,hk a (by simp) o2 ho2,r2⟩⟩
  item:=λj _ _ _ hj q _=>absurd q.1 (Tk hj)
  done:=λs Q E q hE=>HT.pD hh q.2.1 q.2.2 hx hE }
theorem FQ{P:Program}{w:World}{K:W.Frag}{es:List Expr}{k:Nat}{pos:Pos}(a b z TI TO i1 i2:Addr)(Z:HT.yf z TI TO i1 i2 [i1,a] [i2,b]):um P w K (.Tuple es k pos) (Itz K a b) [z,TI,TO,i1,i2] z (TnZ z TI TO i1 i2 a b) where
 mem:=by simp
 obj:=λi h st c hc=>by
  obtain⟨hz,hTI,⟨u,v,hTO⟩,⟨o,ho,hc1,hd⟩,⟨o2,ho2,hc2,hd2⟩⟩:=st
  simp only [Tc,TD,UK] at hc
  rcases hc with rfl | rfl | rfl | rfl | rfl
  ·exact⟨_,hz,λv z=>by cases z⟩
  ·exact⟨_,hTI,λv z=>by cases z⟩
  ·exact⟨_,hTO,λv z=>by cases z⟩
  ·exact⟨o,ho,λv z=>by rw [hd] at z;cases z⟩
  ·exact⟨o2,ho2,λv z=>by rw [hd2] at z;cases z⟩
 keep:=λi h h' st kk=>by
  obtain⟨hz,hTI,⟨u,v,hTO⟩,⟨o,ho,r⟩,⟨o2,ho2,r2⟩⟩:=st
  exact⟨kk z (by simp) _ hz,kk TI (by simp) _ hTI,⟨u,v,kk TO (by simp) _ hTO⟩,⟨o,kk i1 (by simp) _ ho,r⟩,⟨o2,kk i2 (by simp) _ ho2,r2⟩⟩
 item:=by
  intro X hP hw hK hc i pins s σ H E I hf st hg
  subst hP hw hK
  obtain⟨xs,ys,x,y,hq,hq2,hx,hy⟩:=hg
  obtain⟨its,rv,p,hz0⟩:=I.tuple hq
  obtain⟨its2,rv2,p2,hz2⟩:=I.tuple hq2
  have hT:s.heap.IsTuple a its.toArray:=p
  have hT2:s.heap.IsTuple b its2.toArray:=p2
  have hh:=I.ok.hd hc
  obtain⟨hz,hTI,⟨u0,v0,hTO⟩,hit1,hit2⟩:=st
  have li:i<its.toArray.size:=by rw [SQ,<- rv.length];exact(SR.mp hx).1
  have li2:i<its2.toArray.size:=by rw [SQ,<- rv2.length];exact(SR.mp hy).1
  have nea:a≠i1:=λe=>by
   obtain⟨o',ho',hc',_⟩:=hit1
   obtain⟨o,ho,hcl,_⟩:=hT
   rw [e,ho'] at ho;cases ho;rw [hc'] at hcl;exact absurd hcl (by decide)
  have neb:b≠i2:=λe=>by
   obtain⟨o',ho',hc',_⟩:=hit2
   obtain⟨o,ho,hcl,_⟩:=hT2
   rw [e,ho'] at ho;cases ho;rw [hc'] at hcl;exact absurd hcl (by decide)
  have Tn:∀ c,c∈[z,TI,TO,i1,i2]->s.heap.objs.size≠c:=λc hc=>by
   simp only [Tc,TD,UK] at hc
   rcases hc with rfl | rfl | rfl | rfl | rfl
   ·exact Uh (SV hz)
   ·exact Uh (SV hTI)
   ·exact Uh (SV hTO)
   ·obtain⟨o,ho,_⟩:=hit1;exact Uh (SV ho)
   ·obtain⟨o,ho,_⟩:=hit2;exact Uh (SV ho)
  refine HT.yG Z (HT.tJ (prog:=X.prog) (w:=X.w) (A:=X.A.in1) hh i1 a nea its.toArray) (HT.tJ (prog:=X.prog) (w:=X.w) (A:=X.A.in1) hh i2 b neb its2.toArray) hz hTI hTO ⟨hit1,hT⟩ ⟨hit2,hT2⟩ li li2 λx' y' h1 tk hx' hy' ez eo st1 st2 hT1 hsz kk=>⟨_,rfl,?_⟩
  refine wpAny_letOwnedTupleGo_zip ez λh2 ez2 sb=>?_
  generalize hTT:s.heap.objs.size=T at *
  obtain⟨u,hu,ru⟩:=rv.get hx
  obtain⟨u2,hu2,ru2⟩:=rv2.get hy
  have ex:x'=u:=by
   rw [show its.toArray[i]?=its[i]? by simp,hu] at hx'
   exact(Tq hx').symm
  have ey:y'=u2:=by
   rw [show its2.toArray[i]?=its2[i]? by simp,hu2] at hy'
   exact(Tq hy').symm
  subst ex ey
  have kall:∀ c o,c ∉ [z,TI,TO,i1,i2]->s.heap.get? c=O o->h2.get? c=O o:=λc o hb q=>by
   simp only [Tc,TD,UK,Xo] at hb
   exact(sb.2 c hb.1).trans (kk c o hb.1 hb.2.2.1 hb.2.2.2.1 hb.2.2.2.2 q)
  have hTp:IsTupN h2 T #[x',y']:=⟨_,(sb.2 T (Tn z (by simp))).trans hT1,rfl,⟨_,rfl⟩,rfl⟩
  have hTs:s.heap.objs.size<=T:=Vu hTT
  have TIi:TI≠i1/\TI≠i2:=⟨Z.t1,Z.t2⟩
  refine⟨.ref T,upd H T (.tup [x,y]),I.turnLaid kall hf hTs ⟨by show 2<=sizeLine;decide,[x',y'],.cons ru (.cons ru2 .nil),hTp⟩,rfl,⟨T,x,y,rfl,I.hok.fresh hTs,rfl,λzs hz=>by rw [I.tuple_inj hz hq];exact hx,λzs hz=>by rw [I.tuple_inj hz hq2];exact hy⟩,⟨ez2,(sb.2 TI Z.TIz).trans (kk TI _ Z.TIz Z.TITO Z.t1 Z.t2 hTI),⟨x',y',(sb.2 TO Z.TOz).trans eo⟩,?_,?_⟩,λc hc=>?_⟩
  ·obtain⟨⟨o,ho,r⟩,_⟩:=st1
   exact⟨o,(sb.2 i1 (λe=>Z.z1 (by simp [e]))).trans ho,r⟩
  ·obtain⟨⟨o,ho,r⟩,_⟩:=st2
   exact⟨o,(sb.2 i2 (λe=>Z.z2 (by simp [e]))).trans ho,r⟩
  ·rw [aD (Tn c hc).symm]
   exact(hf c hc).1
 done:=by
  intro X hP hw hK hc i pins s σ H E I hf st hg
  subst hP hw hK
  obtain⟨xs,ys,hq,hq2,hl⟩:=hg
  obtain⟨its,rv,p,hz0⟩:=I.tuple hq
  obtain⟨its2,rv2,p2,hz2⟩:=I.tuple hq2
  have hT:s.heap.IsTuple a its.toArray:=p
  have hT2:s.heap.IsTuple b its2.toArray:=p2
  have hh:=I.ok.hd hc
  obtain⟨hz,hTI,⟨u0,v0,hTO⟩,hit1,hit2⟩:=st
  have fin:∀ h' tk,(∀ c o,c≠z->c≠TO->c≠i1->c≠i2->s.heap.get? c=O o->h'.get? c=O o)->(U:Option Value)=U/\Inv X pins σ H { s with heap:=h',toks:=tk }:=λh' tk kk=>⟨rfl,I.turnedL (fp:=[z,TI,TO,i1,i2]) (λc o hb q=>by
   simp only [Tc,TD,UK,Xo] at hb
   exact kk c o hb.1 hb.2.2.1 hb.2.2.2.1 hb.2.2.2.2 q) hf⟩
  by_cases h1:xs.length<=i
  ·exact HT.wG Z (Ag (prog:=X.prog) (w:=X.w) (A:=X.A.in1) hh i1 a its.toArray i (by simp;have:=rv.length;omega)) hz hTI hTO ⟨rfl,hit1,hT⟩ fin
  ·have h2:ys.length<=i:=hl.resolve_left h1
   have nea:a≠i1:=λe=>by
    obtain⟨o',ho',hc',_⟩:=hit1
    obtain⟨o,ho,hcl,_⟩:=hT
    rw [e,ho'] at ho;cases ho;rw [hc'] at hcl;exact absurd hcl (by decide)
   exact HT.wF Z (HT.tJ (prog:=X.prog) (w:=X.w) (A:=X.A.in1) hh i1 a nea its.toArray) (Ag (prog:=X.prog) (w:=X.w) (A:=X.A.in1) hh i2 b its2.toArray i (by simp;have:=rv2.length;omega)) hz hTI hTO ⟨hit1,hT⟩ (by simp;have:=rv.length;omega) ⟨rfl,hit2,hT2⟩ fin
 self:=λA i s Q E st h=>wpAny_pyIter_zip st.1 h
noncomputable def iZip(K:W.Frag)(t:TA):TI:=λσ H R=>t σ H λxs H1=>∃ a b,xs=[.ref a,.ref b]/\(∃ ys,kS K H1 a ys)/\(∃ ys,kS K H1 b ys)/\R (Itz K a b) H1
variable{X:Cx}
theorem FJ{n t t2:Nat}(h1:t<n)(h2:t2<n):HT.yf (n+4) (n+2) (n+3) n (n+1) [n,t] [n+1,t2]:=by
 constructor <;> simp only [Tc,TD,UK,Xo,ne_eq,true_or] <;> (try (show ¬ ((_:Nat)=_))) <;> (try omega)
 all_goals (refine⟨?_,?_⟩ <;> (show ¬ ((_:Nat)=_)) <;> omega)
theorem Kc{n b:Nat}(h:b∈[n+4,n+2,n+3,n,n+1]):n<=b:=by
 simp only [Tc,TD,UK] at h
 omega
theorem Pm{a b:Expr}{ta:TA}{es:List Expr}{k:Nat}{tp p pos:Pos}(hg:Gl X "zip")(hm:X.mg "zip" = U)(ha:PA X [a,b] ta)(hs:starEach [a,b] X.env=[(false,eval a X.env),(false,eval b X.env)])(hs2:starEach [b] X.env=[(false,eval b X.env)]) :
  PI X (.Tuple es k tp) (.Call (.Name "zip" p) [a,b] [] pos) (iZip X.K ta):=by
 intro pins s σ H R I h
 refine Call_ (jf I hg hm boot_zip (TM (cF (ha pos pins s σ H _ I h) λus s1 ⟨vs,H1,I1,r1,q1⟩=>?_) (by rw [hs,hs2]) (by rw [hs2];rfl)))
 obtain⟨t,t2,rfl,⟨ys,hq⟩,⟨ys2,hq2⟩,q⟩:=q1
 obtain⟨u,v,rfl,ru,rv⟩:=r1.two
 cases ru
 cases rv
 obtain⟨its,rv,pt,hz⟩:=I1.tuple hq
 obtain⟨its2,rv2,pt2,hz2⟩:=I1.tuple hq2
 have l1:t<s1.heap.objs.size:=by obtain⟨o,ho,_⟩:=pt;exact SV ho
 have l2:t2<s1.heap.objs.size:=by obtain⟨o,ho,_⟩:=pt2;exact SV ho
 refine HT.Fe pt pt2 λh' hz hTI hTO hi1 hi2 hsz kk=>wpAny_pyIter_zip hz ?_
 have Z:HT.yf (s1.heap.objs.size+4) (s1.heap.objs.size+2) (s1.heap.objs.size+3) s1.heap.objs.size (s1.heap.objs.size+1) [s1.heap.objs.size,t] [s1.heap.objs.size+1,t2]:=FJ l1 l2
 refine⟨s1.heap.objs.size+4,[s1.heap.objs.size+4,s1.heap.objs.size+2,s1.heap.objs.size+3,s1.heap.objs.size,s1.heap.objs.size+1],_,_,H1,rfl,I1.kept (t':=s1.toks) kk,FQ t t2 _ _ _ _ _ Z,⟨hz,hTI,⟨_,_,hTO⟩,hi1,hi2⟩,λb hb=>?_,q⟩
 have hb':s1.heap.objs.size<=b:=Kc hb
 exact I1.fpOk hb' (I1.hok.fresh hb')
end
end L2
namespace M
open L2
section
variable{X:Cx}{K:W.Frag}{μ μ':Fp}{H H':Hp}{S:aa}
noncomputable def jd:List D->List D->List D
 | x::r,y::q=>.tup [x,y]::jd r q
 | _,_=>[]
theorem yj:∀ (xs ys:List D) (i:Nat),(jd xs ys).length<=i->xs.length<=i\/ys.length<=i
 | [],_,i,_=>.inl (UA _)
 | _::_,[],i,_=>.inr (UA _)
 | x::r,y::q,0,h=>by simp [jd] at h
 | x::r,y::q,i+1,h=>by
  rw [jd,SY] at h
  rcases yj r q i (by omega) with h | h
  ·exact .inl (by rw [SY];omega)
  ·exact .inr (by rw [SY];omega)
theorem yk:∀ (xs ys:List D) (i:Nat) (d:D),(jd xs ys)[i]?=O d->∃ x y,xs[i]?=O x/\ys[i]?=O y/\d=.tup [x,y]
 | [],_,i,d,h=>by simp [jd] at h
 | _::_,[],i,d,h=>by simp [jd] at h
 | x::r,y::q,0,d,h=>by simp [jd] at h;exact⟨x,y,rfl,rfl,h.symm⟩
 | x::r,y::q,i+1,d,h=>by
  rw [jd,VD] at h
  simpa using yk r q i d h
theorem HY{a b:Addr}{xs ys:List D}(r:Rep K μ H (.ref a) (.tup xs))(q:Rep K μ H (.ref b) (.tup ys)):Aw K μ H (Itz K a b) (jd xs ys):=λμ' H' S' e s i=>by
 have r':=r.monoP e
 have q':=q.monoP e
 obtain⟨b1,vs,hb,hq,rs⟩:=r'.sqT
 cases hb
 obtain⟨b2,ws,hb,hq2,qs⟩:=q'.sqT
 cases hb
 refine⟨λd hd=>?_,λhl=>⟨vs,ws,hq,hq2,by rw [rs.length,qs.length];exact yj _ _ _ hl⟩⟩
 obtain⟨x,y,hx,hy,rfl⟩:=yk xs ys i d hd
 obtain⟨v,hv,rv⟩:=rs.get hx
 obtain⟨u,hu,ru⟩:=qs.get hy
 refine⟨⟨vs,ws,v,u,hq,hq2,hv,hu⟩,λy H2 hy=>?_⟩
 obtain⟨p,v',u',rfl,hp,rfl,hw,hw2⟩:=hy
 have ev:v'=v:=by have:=hw vs hq;rw [hv] at this;exact(Tq this).symm
 have eu:u'=u:=by have:=hw2 ws hq2;rw [hu] at this;exact(Tq this).symm
 subst ev eu
 obtain⟨e2,s2⟩:=s.laid (o:=.tup [v',u']) hp
 refine⟨e2,s2,?_⟩
 exact .tup aC (s.notMem hp) (.cons (rv.mono e2) (.cons (ru.mono e2) .nil))
noncomputable def jt(ms:MA):MA:=λenv S=>(ms env S).bind λp=>match p.1 with | [.tup xs,.tup ys]=>O (jd xs ys,p.2) | _=>U
theorem RT{a b:Expr}{ms:MA}{es:List Expr}{k:Nat}{tp p pos:Pos}(hm:X.mg "zip" = U)(ha:DA X [a,b] ms)(hg:Gl X "zip")(hs:starEach [a,b] X.env=[(false,eval a X.env),(false,eval b X.env)])(hs2:starEach [b] X.env=[(false,eval b X.env)]) :
  DI X (.Tuple es k tp) (.Call (.Name "zip" p) [a,b] [] pos) (jt ms):=PI.imp (Pm hg hm ha hs hs2) λσ H R ⟨μ,S,env,xs,S',hS,hE,h,post⟩=>by
 obtain⟨⟨ds,S1⟩,h1,h⟩:=SJ.mp h
 refine⟨μ,S,env,ds,S1,hS,hE,h1,λvs H1 μ1 e1 s1 r1=>?_⟩
 dsimp only at h
 split at h
 ·rename_i xs ys
  cases h
  obtain⟨v,u,rfl,rv,ru⟩:=r1.two
  have rv':=rv
  have ru':=ru
  obtain⟨b,ws,rfl,hq,rs⟩:=rv.sqT
  obtain⟨b2,ws2,rfl,hq2,rs2⟩:=ru.sqT
  exact⟨b,b2,rfl,⟨ws,hq⟩,⟨ws2,hq2⟩,post _ H1 μ1 e1 s1 (HY rv' ru')⟩
 ·cases h
end
section
variable{X:Cx}{K:W.Frag}{μ μ':Fp}{H H':Hp}{S S':aa}
noncomputable def eD:D->Option ba
 | .int i=>O (.inl i)
 | .str x=>O (.inr x)
 | _=>U
theorem fM{v:V}{d:D}{k:ba}(h:eD d=O k)(r:Rep K μ H v d):v=kV k:=by
 cases d <;> first | cases h | skip
 ·rw [r.int_inv];rfl
 ·rw [r.str_inv];rfl
noncomputable def dC(kvs:List (ba×D))(k:ba):Option D:=match kvs with
 | []=>U
 | p::r=>if p.1=k then O p.2 else dC r k
noncomputable def ED(kvs:List (ba×D))(k:ba):Bool:=match kvs with
 | []=>false
 | p::r=>if p.1=k then true else ED r k
noncomputable def DK(kvs:List (ba×D))(k:ba)(d:D):List (ba×D):=match kvs with
 | []=>[]
 | p::r=>(if p.1=k then (p.1,d) else p)::DK r k d
noncomputable def ua(kvs:List (ba×D))(k:ba)(d:D):List (ba×D):=if ED kvs k then DK kvs k d else kvs++[(k,d)]
noncomputable def em(kvs:List (ba×D)):List (ba×D)->List (ba×D)
 | []=>kvs
 | p::r=>em (ua kvs p.1 p.2) r
inductive KR(K:W.Frag)(μ:Fp)(H:Hp):List (ba×V)->List (ba×D)->Prop
 | nil:KR K μ H [] []
 | cons {k:ba} {v:V} {d:D} {vs:List (ba×V)} {ds:List (ba×D)} (h:Rep K μ H v d) (t:KR K μ H vs ds):KR K μ H ((k,v)::vs) ((k,d)::ds)
theorem KR.keys:∀ {vs ds},KR K μ H vs ds->vs.map (·.1)=ds.map (·.1)
 | _,_,.nil=>rfl
 | _,_,.cons _ t=>by rw [Ta,Ta,KR.keys t]
theorem KR.reps:∀ {vs ds},KR K μ H vs ds->Reps K μ H (vs.map (·.2)) (ds.map (·.2))
 | _,_,.nil=>.nil
 | _,_,.cons h t=>.cons h (KR.reps t)
theorem KR.length:∀ {vs ds},KR K μ H vs ds->vs.length=ds.length
 | _,_,.nil=>rfl
 | _,_,.cons _ t=>by rw [SY,SY,KR.length t]
theorem KR.mono(e:Ext μ H μ' H'):∀ {vs ds},KR K μ H vs ds->KR K μ' H' vs ds
 | _,_,.nil=>.nil
 | _,_,.cons h t=>.cons (h.mono e) (KR.mono e t)
theorem KR.less{p:Addr}{cs fb:List Addr}:∀ {vs ds},KR K ⟨cs,p::fb⟩ H vs ds->KR K ⟨cs,fb⟩ H vs ds
 | _,_,.nil=>.nil
 | _,_,.cons h t=>.cons h.less (KR.less t)
theorem KR.chg{p:Addr}{o:HO}(hp:p ∈ μ.fb):∀ {vs ds},KR K μ H vs ds->KR K μ (upd H p o) vs ds
 | _,_,.nil=>.nil
 | _,_,.cons h t=>.cons (h.chg hp) (KR.chg hp t)
theorem KR.of:∀ {kvs:List (ba×V)} {ks:List ba} {ds:List D},ks=kvs.map (·.1)->Reps K μ H (kvs.map (·.2)) ds->KR K μ H kvs (ks.zip ds)
 | [],_,_,e,r=>by subst e;cases r;exact .nil
 | p::q,_,_,e,r=>by
  subst e
  rw [Ta] at r
  cases r with | cons h t=>exact .cons h (KR.of rfl t)
theorem KR.val{k:ba}:∀ {vs ds},KR K μ H vs ds->∀ {d},dC ds k=O d->∃ v,lP vs k=O v/\Rep K μ H v d
 | _,_,.nil,d,h=>by cases h
 | _,_,.cons (k:=k') h t,d,q=>by
  unfold dC at q
  split at q
  ·rename_i e;cases q;exact⟨_,rm e,h⟩
  ·rename_i e
   obtain⟨v,h1,h2⟩:=KR.val t q
   exact⟨v,(mZ e).trans h1,h2⟩
theorem KR.valN{k:ba}:∀ {vs ds},KR K μ H vs ds->dC ds k=U->lP vs k=U
 | _,_,.nil,_=>rfl
 | _,_,.cons h t,q=>by
  unfold dC at q
  split at q
  ·cases q
  ·rename_i e;exact(mZ e).trans (KR.valN t q)
theorem KR.has{k:ba}:∀ {vs ds},KR K μ H vs ds->(vs.any λkv=>decide (kv.1=k))=ED ds k
 | _,_,.nil=>rfl
 | _,_,.cons (k:=k') h t=>by
  rw [UO,KR.has t]
  unfold ED
  by_cases e:k'=k
  ·simp [e]
  ·simp only [Tw e,Bool.false_or,Ts e];cases t <;> rfl
theorem KR.setv{k:ba}{x:V}{d:D}(r:Rep K μ H x d):∀ {vs ds},KR K μ H vs ds->KR K μ H (vs.map λkv=>if kv.1=k then (kv.1,x) else kv) (DK ds k d)
 | _,_,.nil=>.nil
 | _,_,.cons (k:=k') h t=>by
  rw [Ta]
  unfold DK
  by_cases e:k'=k
  ·simp only [Td e];exact .cons r (KR.setv r t)
  ·simp only [Ts e];exact .cons h (KR.setv r t)
theorem KR.snoc{k:ba}{x:V}{d:D}(r:Rep K μ H x d):∀ {vs ds},KR K μ H vs ds->KR K μ H (vs++[(k,x)]) (ds++[(k,d)])
 | _,_,.nil=>.cons r .nil
 | _,_,.cons h t=>.cons h (KR.snoc r t)
theorem KR.put{k:ba}{x:V}{d:D}{vs ds}(r:Rep K μ H x d)(t:KR K μ H vs ds):KR K μ H (oM vs k x) (ua ds k d):=by
 unfold oM ua
 rw [t.has]
 split
 ·exact t.setv r
 ·exact t.snoc r
theorem KR.merge:∀ {ws es vs ds},KR K μ H ws es->KR K μ H vs ds->KR K μ H (lb vs ws) (em ds es)
 | _,_,_,_,.nil,t=>t
 | _,_,vs,ds,.cons (k:=k) (v:=v) (d:=d) h q,t=>by
  have:=KR.merge q (t.put (k:=k) h)
  exact this
noncomputable abbrev MP:=av->aa->Option (List (ba×D)×aa)
noncomputable def je:List (ME×ME)->MP
 | []=>λ_ S=>O ([],S)
 | (a,b)::r=>λenv S=>(a env S).bind λp=>(eD p.1).bind λk=>(b env p.2).bind λq=>(je r env q.2).bind λz=>O ((k,q.1)::z.1,z.2)
noncomputable def DPs(X:Cx)(pos:Pos)(keys:List (Option Expr))(values:List Expr)(ms:List (ME×ME)):Prop:=PPs X pos keys values (ms.map λp=>(tM X.K p.1,tM X.K p.2))
theorem Mu{pos:Pos}:DPs X pos [] [] []:=KN
theorem Jh{pos:Pos}{k v:Expr}{ks:List (Option Expr)}{vs:List Expr}{mk mv:ME}{ms:List (ME×ME)}(hk:DE X k mk)(hv:DE X v mv)(hr:DPs X pos ks vs ms):DPs X pos (O k::ks) (v::vs) ((mk,mv)::ms):=GE hk hv hr
theorem oE{σ:L2.St}{env:av}:∀ {ms:List (ME×ME)} {μ:Fp} {H:Hp} {S S':aa} {kvs:List (ba×D)} {Q:List (V×V)->Hp->Prop},SOk K μ S H->EOk K μ H σ env->je ms env S=O (kvs,S') ->
  (∀ vs H' μ',Ext μ H μ' H'->SOk K μ' S' H'->KR K μ' H' vs kvs->Q (vs.map λkv=>(kV kv.1,kv.2)) H')->vZ (ms.map λp=>(tM K p.1,tM K p.2)) σ H Q
 | [],μ,H,S,S',kvs,Q,s,e,h,q=>by cases h;exact q [] H μ s.ext s .nil
 | (a,b)::r,μ,H,S,S',kvs,Q,s,e,h,q=>by
  obtain⟨⟨x,S1⟩,h1,h⟩:=SJ.mp h
  obtain⟨k,h2,h⟩:=SJ.mp h
  obtain⟨⟨y,S2⟩,h3,h⟩:=SJ.mp h
  obtain⟨⟨zs,S3⟩,h4,h⟩:=SJ.mp h
  cases h
  refine⟨μ,S,env,x,S1,s,e,h1,λv H1 μ1 e1 s1 r1=>⟨μ1,S1,env,y,S2,s1,e.mono e1,h3,λw H2 μ2 e2 s2 r2=>oE s2 ((e.mono e1).mono e2) h4 λvs H3 μ3 e3 s3 r3=>?_⟩⟩
  have:=q ((k,w)::vs) H3 μ3 ((e1.trans e2).trans e3) s3 (.cons (r2.mono e3) r3)
  rw [Ta] at this
  rw [fM h2 r1]
  exact this
theorem Ext.shut{p:Addr}{o o':HO}{cs fb:List Addr}{μ2:Fp}{H2:Hp}{S2:aa}(hp:H p=U)(hn:p ∉ fb)(e:Ext ⟨cs,p::fb⟩ (upd H p o) μ2 H2)(s:SOk K μ2 S2 H2) :
  Ext ⟨cs,fb⟩ H ⟨μ2.cs,fb⟩ (upd H2 p o')/\SOk K ⟨μ2.cs,fb⟩ S2 (upd H2 p o')/\(⟨μ2.cs,fb⟩:Fp).no p/\(∀ vs ds,KR K μ2 H2 vs ds->KR K ⟨μ2.cs,fb⟩ (upd H2 p o') vs ds)/\H2 p=O o:=by
 have pm:p ∈ μ2.fb:=by rw [e.fb];exact SN
 have ncs:p ∉ μ2.cs:=s.disj p pm
 have ncs0:p ∉ cs:=λz=>ncs (by obtain⟨l,q,_⟩:=e.pre;rw [q];exact TV _ z)
 have ef:μ2=⟨μ2.cs,p::fb⟩:=by have:=e.fb;obtain⟨a,b⟩:=μ2;simp only at this;rw [this]
 refine⟨⟨rfl,?_,λa o2 na ha=>?_,λa ha=>?_⟩,?_,⟨ncs,?_⟩,λvs ds r=>?_,e.keep p o ncs0 aC⟩
 ·obtain⟨l,q,hl⟩:=e.pre
  refine⟨l,q,λa ha=>?_⟩
  have:=hl a ha
  by_cases z:a=p
  ·subst z;exact hp
  ·rwa [aD z] at this
 ·have z:=bn ha hp
  rw [aD z]
  exact e.keep a o2 na ((aD z).trans ha)
 ·have z:a≠p:=λz=>ncs (z ▸ ha)
  rw [aD z];exact e.dom a ha
 ·have:=(s.chg (o:=o') pm)
  rw [ef] at this
  exact this.less
 ·exact hn
 ·have:=r.chg (o:=o') pm
  rw [ef] at this
  exact this.less
noncomputable def eZ(ms:List (ME×ME)):ME:=λenv S=>(je ms env S).bind λz=>if z.1.length<=15 then O (.dct ((em [] z.1).map (·.1)) ((em [] z.1).map (·.2)),z.2) else U
theorem MW{pos:Pos}{keys:List (Option Expr)}{values:List Expr}{ms:List (ME×ME)}(h:DPs X pos keys values ms)(hall:keys.all (·.isSome)=true)(hl:keys.length=values.length)(h0:keys≠[])(h15:keys.length<=15) :
  DE X (.Dict keys values pos) (eZ ms):=PE.imp (Cm h hall hl h0 h15) λσ H Q ⟨μ,S,env,d,S',hS,hE,hm,post⟩=>by
 obtain⟨⟨kvs,S1⟩,h1,hm⟩:=SJ.mp hm
 dsimp only at hm
 split at hm
 ·rename_i hl
  cases hm
  intro p hp
  obtain⟨cs,fb⟩:=μ
  refine oE (hS.more hp) (hE.more hp) h1 λvs H2 μ2 e2 s2 r2=>?_
  obtain⟨eF,sF,nF,rF,hF⟩:=Ext.shut (o':=.dK (lb [] vs)) hp (hS.notMem hp).2 e2 s2
  refine⟨hF,vs,rfl,by rw [r2.length];exact hl,post _ _ _ eF sF ?_⟩
  have rr:=(rF _ _ r2).merge KR.nil
  have:=Rep.dct (K:=X.K) (aC (H:=H2) (o:=.dK (lb [] vs))) nF rr.reps
  rw [rr.keys] at this
  exact this
 ·cases hm
noncomputable def yq(S:aa):D->Option (List (ba×D))
 | .dct ks vs=>O (ks.zip vs)
 | .ref r=>match S[r]? with | some (.dct ks vs)=>O (ks.zip vs) | _=>U
 | _=>U
theorem qK{v:V}{d:D}{kvs:List (ba×D)}(s:SOk K μ S H)(r:Rep K μ H v d)(h:yq S d=O kvs):∃ a vs,v=.ref a/\H a=O (.dK vs)/\KR K μ H vs kvs:=by
 cases r with
 | dct hd n rr=>cases h;exact⟨_,_,rfl,hd,KR.of rfl rr⟩
 | ref hr=>
  rename_i a i
  unfold yq at h
  dsimp only at h
  cases q:S[i]? with
  | none=>rw [q] at h;cases h
  | some c=>
   rw [q] at h
   have ck:=s.cell _ _ _ hr q
   cases c with
   | lst _=>cases h
   | dct ks xs=>cases h;obtain⟨vs,e,hk,rr⟩:=ck;exact⟨a,vs,rfl,e,KR.of hk rr⟩
 | _=>cases h
noncomputable def aQ(S:aa)(x y:D):Option D:=match yq S x with
 | some kvs=>(eD y).bind λk=>dC kvs k
 | none=>fIx S x y
theorem LO(hu:X.A.units+1<cLine):IxR X (λx y H Q=>∃ a v,x=.ref a/\DGet H a y (O v)/\Q v H):=by
 intro value slice pins s σ H x y v u Q I rx ry h hs
 obtain⟨a,z,rfl,g,q⟩:=h
 cases rx
 exact Xn (Ah I g) F.slot_dict_getitem.lookup (Fd hu I g ry λw' s' I' rw'=>⟨z,H,I',rw',q⟩) hs
theorem ix_DX(hu:X.A.units+1<cLine):IxR X (jN X.K aQ):=IxR.imp ((LO hu).or ix_D) λx y H Q ⟨μ,S,dx,dy,dz,hS,h1,h2,h3,post⟩=>by
 unfold aQ at h3
 split at h3
 ·rename_i kvs hk
  obtain⟨k,h4,h5⟩:=SJ.mp h3
  obtain⟨a,vs,rfl,ha,rr⟩:=qK hS h1 hk
  obtain⟨v,h6,h7⟩:=rr.val h5
  refine .inl ⟨a,v,rfl,?_,post.here hS h7⟩
  rw [fM h4 h2,<- h6]
  exact DGet.k ha
 ·exact .inr ⟨μ,S,dx,dy,dz,hS,h1,h2,h3,post⟩
theorem Se{a b:Expr}{ma mb:ME}{pos:Pos}(hu:X.A.units+1<cLine)(ha:DE X a ma)(hb:DE X b mb)(hs:qY b:=by intro _ _;rfl):DE X (.Subscript a b pos) (ay aQ ma mb):=
 PE.imp (GN (ix_DX hu) ha hb hs) λ_ _ _ h=>rA h
end
end M
namespace L2
section
variable{X:Cx}{o e:Expr}{es:List Expr}{to:TE}{t:TA}{name:Str}{apos cpos:Pos}{id:String}{r:V->List V->Hp->VK->Prop}
noncomputable def tBD(r:V->List V->Hp->VK->Prop)(to:TE)(t:TA):TE:=λσ H Q=>to σ H λx H1=>(∃ p,x=.ref p/\IsD H1 p)/\t σ H1 λxs H2=>r x xs H2 Q
theorem Pz(slot:Slot "dict" name id)(hty:typeOf (.builtin id)=pure (.type "method_descriptor"))(hm:MtR X id r)(ho:PE X o to)(ha:PA X (e::es) t)
  (hbase:attributeBase o name X.env (eval o X.env)=eval o X.env)
  (hfew:((backTo cpos (starEach (e::es) X.env)).all (λx=>!x.1)&&(backToKw cpos (keywordEach [] X.env)).all (λx=>x.1.isSome)&&decide ((e::es).length+([]:List Keyword).length+(if ([]:List Keyword).isEmpty then 0 else 1)<30))=true)
  (hline:(apos.endLine == cpos.line)=true) (hs:starEach (e::es) X.env=(false,eval e X.env)::starEach es X.env) (hplain:(backTo cpos (starEach es X.env)).any (·.1)=false) :
  PE X (.Call (.Attribute o name apos) (e::es) [] cpos) (tBD r to t):=by
 intro pins s σ H Q I h
 refine WS hbase hfew hline rfl (cF (ho pins s σ H _ I h) λv s1 ⟨x,H1,I1,r1,ty,q1⟩=>?_)
 obtain⟨p,rfl,hq⟩:=ty
 cases r1
 obtain⟨t1,t2,_⟩:=Rq I1 hq
 refine⟨"dict",id,F.plainAttrs_dict,slot,hty,t1,t2,?_⟩
 have hA:=ha cpos pins s1 σ H1 _ I1 q1
 rw [hs] at hA ⊢
 refine WW (by show (false||(backTo cpos (starEach es X.env)).any (·.1))=false;rw [hplain] <;> rfl) (Xe ?_)
 exact cF hA λus s2 ⟨vs,H2,I2,r2,q2⟩=>hm pins s2 σ H2 (V.ref p) vs _ us Q I2 (show RelV (V.ref p) (Value.ref p) from rfl) r2 q2
theorem Lx(hu:X.A.units+1<cLine):MtR X "dict.get" (λx xs H Q=>∃ a y o,x=.ref a/\DGet H a y o/\((xs=[y]/\Q (o.getD .non) H)\/∃ d,xs=[y,d]/\Q (o.getD d) H)):=by
 intro pins s σ H x xs v us Q I rx rv h
 obtain⟨a,y,o,rfl,g,h⟩:=h
 cases rx
 rcases h with ⟨rfl,q⟩ | ⟨d,rfl,q⟩
 ·obtain⟨u,rfl,ru⟩:=rv.one
  exact Sm hu I g ru λw' s3 I3 rw'=>⟨_,H,I3,rw',q⟩
 ·obtain⟨u,u2,rfl,ru,ru2⟩:=rv.two
  exact Sl hu I g ru ru2 λw' s4 I4 rw'=>⟨_,H,I4,rw',q⟩
end
end L2
namespace M
open L2
section
variable{X:Cx}{K:W.Frag}{μ μ':Fp}{H H':Hp}{S S':aa}
theorem yP{p a:Addr}{cs fb:List Addr}(n:(⟨cs,p::fb⟩:Fp).no a):(⟨cs++[p],fb⟩:Fp).no a:=
 ⟨λz=>(Tr.mp z).elim n.1 λz=>n.2 (by rw [Tg.mp z];exact SN),λz=>n.2 (SO _ z)⟩
theorem Rep.adopt{p:Addr}{cs fb:List Addr}{v:V}{d:D}(r:Rep K ⟨cs,p::fb⟩ H v d):Rep K ⟨cs++[p],fb⟩ H v d:=r.imp (λh n=>⟨h,yP n⟩) λh=>yd rfl h
theorem Reps.adopt{p:Addr}{cs fb:List Addr}{v:List V}{d:List D}(r:Reps K ⟨cs,p::fb⟩ H v d):Reps K ⟨cs++[p],fb⟩ H v d:=r.imp (λh n=>⟨h,yP n⟩) λh=>yd rfl h
theorem KR.adopt{p:Addr}{cs fb:List Addr}:∀ {vs ds},KR K ⟨cs,p::fb⟩ H vs ds->KR K ⟨cs++[p],fb⟩ H vs ds
 | _,_,.nil=>.nil
 | _,_,.cons h t=>.cons h.adopt (KR.adopt t)
theorem Ext.shutR{p:Addr}{o:HO}{cs fb:List Addr}{μ2:Fp}{H2:Hp}{S2:aa}{vs:List (ba×V)}{kvs:List (ba×D)}(hp:H p=U)(hn:p ∉ fb)(e:Ext ⟨cs,p::fb⟩ (upd H p o) μ2 H2)(s:SOk K μ2 S2 H2)(r:KR K μ2 H2 vs kvs) :
  Ext ⟨cs,fb⟩ H ⟨μ2.cs++[p],fb⟩ (upd H2 p (.dK vs))/\SOk K ⟨μ2.cs++[p],fb⟩ (S2++[.dct (kvs.map (·.1)) (kvs.map (·.2))]) (upd H2 p (.dK vs))/\H2 p=O o:=by
 have pm:p ∈ μ2.fb:=by rw [e.fb];exact SN
 have ncs:p ∉ μ2.cs:=s.disj p pm
 have ncs0:p ∉ cs:=λz=>ncs (by obtain⟨l,q,_⟩:=e.pre;rw [q];exact TV _ z)
 have ef:μ2.fb=p::fb:=e.fb
 obtain⟨cs2,fb2⟩:=μ2
 simp only at ef pm ncs
 subst ef
 refine⟨⟨rfl,?_,λa o2 na ha=>?_,λa ha=>?_⟩,⟨?_,by simp [s.len],λi a c h1 h2=>?_,λa ha=>?_,λa ha z=>?_⟩,e.keep p o ncs0 aC⟩
 ·obtain⟨l,q,hl⟩:=e.pre
  simp only at q
  refine⟨l++[p],by rw [q,TN],λa ha=>?_⟩
  rcases Tr.mp ha with ha | ha
  ·have:=hl a ha
   by_cases z:a=p
   ·subst z;exact hp
   ·rwa [aD z] at this
  ·rw [Tg.mp ha];exact hp
 ·have z:=bn ha hp
  rw [aD z]
  exact e.keep a o2 na ((aD z).trans ha)
 ·by_cases z:a=p
  ·subst z;rw [aC];simp
  ·rw [aD z]
   rcases Tr.mp ha with ha | ha
   ·exact e.dom a ha
   ·exact absurd (Tg.mp ha) z
 ·exact Ui.mpr ⟨s.nd,by simp,λa ha b hb=>by rw [Tg.mp hb];exact λz=>ncs (z ▸ ha)⟩
 ·have sc:=s.chg (o:=.dK vs) pm
  by_cases hi:i<cs2.length
  ·rw [To hi] at h1
   rw [To (by rw [<- s.len];exact hi)] at h2
   have ck:=sc.cell i a c h1 h2
   cases c with
   | lst ds=>obtain⟨ws,h,r⟩:=ck;exact⟨ws,h,r.adopt⟩
   | dct ks ds=>obtain⟨ws,h,q,r⟩:=ck;exact⟨ws,h,q,r.adopt⟩
  ·have hi':i=cs2.length:=by
    have:=(SR.mp h1).1
    simp at this;omega
   subst hi'
   rw [Ub (SS _)] at h1
   rw [show cs2.length=S2.length from s.len,Ub (SS _)] at h2
   simp at h1 h2
   subst h1 h2
   have rc:=(r.chg (o:=.dK vs) pm).adopt
   exact⟨vs,aC,rc.keys.symm,rc.reps⟩
 ·by_cases z:a=p
  ·subst z;rw [aC];simp
  ·rw [aD z];exact s.fdom a (SO _ ha)
 ·rcases Tr.mp z with z | z
  ·exact s.disj a (SO _ ha) z
  ·exact hn (Tg.mp z ▸ ha)
noncomputable def dD(ms:List (ME×ME)):ME:=λenv S=>(je ms env S).bind λz=>if z.1.length<=15 then O (.ref z.2.length,z.2++[.dct ((em [] z.1).map (·.1)) ((em [] z.1).map (·.2))]) else U
theorem JA{pos:Pos}{keys:List (Option Expr)}{values:List Expr}{ms:List (ME×ME)}(h:DPs X pos keys values ms)(hall:keys.all (·.isSome)=true)(hl:keys.length=values.length)(h0:keys≠[])(h15:keys.length<=15) :
  DE X (.Dict keys values pos) (dD ms):=PE.imp (Cm h hall hl h0 h15) λσ H Q ⟨μ,S,env,d,S',hS,hE,hm,post⟩=>by
 obtain⟨⟨kvs,S1⟩,h1,hm⟩:=SJ.mp hm
 dsimp only at hm
 split at hm
 ·rename_i hl
  cases hm
  intro p hp
  obtain⟨cs,fb⟩:=μ
  refine oE (hS.more hp) (hE.more hp) h1 λvs H2 μ2 e2 s2 r2=>?_
  obtain⟨eF,sF,hF⟩:=Ext.shutR hp (hS.notMem hp).2 e2 s2 (r2.merge KR.nil)
  exact⟨hF,vs,rfl,by rw [r2.length];exact hl,post _ _ _ eF sF (.ref (by rw [<- s2.len];simp))⟩
 ·cases hm
noncomputable def JG(S:aa):D->Bool
 | .dct _ _=>true
 | .ref r=>match S[r]? with | some (.dct _ _)=>true | _=>false
 | _=>false
theorem Na{v:V}{d:D}(s:SOk K μ S H)(r:Rep K μ H v d)(h:JG S d=true):∃ a,v=.ref a/\IsD H a:=by
 cases r with
 | dct hd n rr=>exact⟨_,rfl,.inl ⟨_,.inl hd⟩⟩
 | ref hr=>
  rename_i a i
  unfold JG at h
  dsimp only at h
  cases q:S[i]? with
  | none=>rw [q] at h;cases h
  | some c=>
   rw [q] at h
   have ck:=s.cell _ _ _ hr q
   cases c with
   | lst _=>cases h
   | dct ks xs=>obtain⟨vs,e,hk,rr⟩:=ck;exact⟨a,rfl,.inl ⟨_,.inl e⟩⟩
 | _=>cases h
noncomputable def og:MF:=λo ds S=>(yq S o).bind λkvs=>match ds with
 | [y]=>(eD y).bind λk=>O ((dC kvs k).getD .non,S)
 | [y,d]=>(eD y).bind λk=>O ((dC kvs k).getD d,S)
 | _=>U
theorem KR.getD{k:ba}{z:V}{e:D}{vs ds}(t:KR K μ H vs ds)(r:Rep K μ H z e):Rep K μ H ((lP vs k).getD z) ((dC ds k).getD e):=by
 cases q:dC ds k with
 | none=>rw [t.valN q];exact r
 | some d=>obtain⟨v,h1,h2⟩:=t.val q;rw [h1];exact h2
theorem Lz(hu:X.A.units+1<cLine):MtR X "dict.get" (Ky X.K og):=MtR.imp (Lx hu) λx vs H Q ⟨μ,S,dx,ds,d,S',hS,r1,r2,h,post⟩=>by
 obtain⟨kvs,hk,h⟩:=SJ.mp h
 obtain⟨a,ws,rfl,ha,rr⟩:=qK hS r1 hk
 split at h
 ·rename_i y
  obtain⟨k,h4,h5⟩:=SJ.mp h
  cases h5
  obtain⟨v,rfl,rv⟩:=r2.one
  have:=fM h4 rv
  subst this
  exact⟨a,_,_,rfl,DGet.k ha,.inl ⟨rfl,post.here hS (rr.getD .non)⟩⟩
 ·rename_i y e
  obtain⟨k,h4,h5⟩:=SJ.mp h
  cases h5
  obtain⟨v,w,rfl,rv,rw0⟩:=r2.two
  have:=fM h4 rv
  subst this
  exact⟨a,_,_,rfl,DGet.k ha,.inr ⟨w,rfl,post.here hS (rr.getD rw0)⟩⟩
 ·cases h
noncomputable def fUpdD:MF:=λo ds S=>match o,ds with
 | .ref r,[.dct ks2 vs2]=>match S[r]? with
  | some (.dct ks vs)=>if ks.length+ks2.length<=sizeLine then O (.non,S.set r (.dct ((em (ks.zip vs) (ks2.zip vs2)).map (·.1)) ((em (ks.zip vs) (ks2.zip vs2)).map (·.2)))) else U
  | _=>U
 | _,_=>U
noncomputable def cK(f:MF)(o:ME)(ms:MA):ME:=λenv S=>(o env S).bind λp=>if JG p.2 p.1=true then (ms env p.2).bind λq=>f p.1 q.1 q.2 else U
theorem Jy{o e:Expr}{es:List Expr}{mo:ME}{ms:MA}{f:MF}{name:Str}{id:String}{apos cpos:Pos}(slot:Slot "dict" name id)(hty:typeOf (.builtin id)=pure (.type "method_descriptor"))(hm:MtR X id (Ky X.K f))(ho:DE X o mo)(ha:DA X (e::es) ms)
  (hbase:attributeBase o name X.env (eval o X.env)=eval o X.env)
  (hfew:((backTo cpos (starEach (e::es) X.env)).all (λx=>!x.1)&&(backToKw cpos (keywordEach [] X.env)).all (λx=>x.1.isSome)&&decide ((e::es).length+([]:List Keyword).length+(if ([]:List Keyword).isEmpty then 0 else 1)<30))=true)
  (hline:(apos.endLine == cpos.line)=true) (hs:starEach (e::es) X.env=(false,eval e X.env)::starEach es X.env) (hpl:(backTo cpos (starEach es X.env)).any (·.1)=false) :
  DE X (.Call (.Attribute o name apos) (e::es) [] cpos) (cK f mo ms):=
 PE.imp (Pz slot hty hm ho ha hbase hfew hline hs hpl) λσ H Q ⟨μ,S,env,d,S',hS,hE,h,post⟩=>by
  obtain⟨⟨x,S1⟩,h1,h⟩:=SJ.mp h
  dsimp only at h
  split at h
  ·rename_i hl
   obtain⟨⟨xs,S2⟩,h2,h⟩:=SJ.mp h
   refine⟨μ,S,env,x,S1,hS,hE,h1,λv H1 μ1 e1 s1 r1=>⟨?_,μ1,S1,env,xs,S2,s1,hE.mono e1,h2,λvs H2 μ2 e2 s2 r2=>⟨μ2,S2,x,xs,d,S',s2,r1.mono e2,r2,h,(post.ext e1).ext e2⟩⟩⟩
   exact Na s1 r1 hl
  ·cases h
end
end M
namespace L2
section
variable{X:Cx}{a b:Expr}{rest:List Expr}{ta tb:TE}{pos:Pos}
noncomputable def tAndX(K:W.Frag)(ta tb:TE):TE:=λσ H Q=>ta σ H λx H1=>∃ c,FB K x H1 c/\if c=true then tb σ H1 Q else Q x H1
noncomputable def tOrX(K:W.Frag)(ta tb:TE):TE:=λσ H Q=>ta σ H λx H1=>∃ c,FB K x H1 c/\if c=true then Q x H1 else tb σ H1 Q
noncomputable def tNotX(K:W.Frag)(ta:TE):TE:=λσ H Q=>ta σ H λx H1=>∃ c,FB K x H1 c/\Q (.bl (!c)) H1
theorem Le(ha:PE X a ta)(hb:PE X (.BoolOp .And (b::rest) pos) tb):PE X (.BoolOp .And (a::b::rest) pos) (tAndX X.K ta tb):=by
 intro pins s σ H Q I h
 refine BoolOp_and (cF (ha pins s σ H _ I h) λv s1 ⟨x,H1,I1,r1,q1⟩=>?_)
 obtain⟨c,tv,q1⟩:=q1
 refine cF (vX pins s1 σ H1 x v (λk H'=>k=c/\H'=H1) I1 r1 ⟨c,tv,rfl,rfl⟩) λk s2 z=>?_
 obtain⟨H2,I2,rfl,rfl⟩:=z
 cases k with
 | true=>exact hb pins s2 σ H2 Q I2 q1
 | false=>exact⟨x,H2,I2,r1,q1⟩
theorem Pu(ha:PE X a ta)(hb:PE X (.BoolOp .Or (b::rest) pos) tb):PE X (.BoolOp .Or (a::b::rest) pos) (tOrX X.K ta tb):=by
 intro pins s σ H Q I h
 refine BoolOp_or (cF (ha pins s σ H _ I h) λv s1 ⟨x,H1,I1,r1,q1⟩=>?_)
 obtain⟨c,tv,q1⟩:=q1
 refine cF (vX pins s1 σ H1 x v (λk H'=>k=c/\H'=H1) I1 r1 ⟨c,tv,rfl,rfl⟩) λk s2 z=>?_
 obtain⟨H2,I2,rfl,rfl⟩:=z
 cases k with
 | false=>exact hb pins s2 σ H2 Q I2 q1
 | true=>exact⟨x,H2,I2,r1,q1⟩
theorem KZ(ha:PE X a ta):PE X (.UnaryOp .Not a pos) (tNotX X.K ta):=by
 intro pins s σ H Q I h
 refine UnaryOp_ (cF (ha pins s σ H _ I h) λv s1 ⟨x,H1,I1,r1,q1⟩=>?_)
 obtain⟨c,tv,q1⟩:=q1
 refine not_of (cF (vX pins s1 σ H1 x v (λk H'=>k=c/\H'=H1) I1 r1 ⟨c,tv,rfl,rfl⟩) λk s2 z=>?_)
 obtain⟨H2,I2,rfl,rfl⟩:=z
 exact⟨.bl (!k),H2,I2,rfl,q1⟩
end
end L2
namespace M
open L2
section
variable{X:Cx}{K:W.Frag}{μ μ':Fp}{H H':Hp}{S S':aa}{a b:Expr}{ma mb:ME}{rest:List Expr}{pos:Pos}
noncomputable def Hz(a b:ME):ME:=λenv S=>(a env S).bind λp=>(rq p.2 p.1).bind λk=>if k=true then b env p.2 else O (p.1,p.2)
noncomputable def Qe(a b:ME):ME:=λenv S=>(a env S).bind λp=>(rq p.2 p.1).bind λk=>if k=true then O (p.1,p.2) else b env p.2
noncomputable def Hr(a:ME):ME:=λenv S=>(a env S).bind λp=>(rq p.2 p.1).bind λk=>O (.bl (!k),p.2)
theorem MZ(ha:DE X a ma)(hb:DE X (.BoolOp .And (b::rest) pos) mb):DE X (.BoolOp .And (a::b::rest) pos) (Hz ma mb):=PE.imp (Le ha hb) λσ H Q ⟨μ,S,env,d,S',hS,hE,hm,post⟩=>by
 obtain⟨⟨x,S1⟩,h1,hm⟩:=SJ.mp hm
 obtain⟨k,h2,hm⟩:=SJ.mp hm
 refine⟨μ,S,env,x,S1,hS,hE,h1,λv H1 μ1 e1 s1 r1=>⟨k,qJ s1 r1 h2,?_⟩⟩
 cases k with
 | true=>rw [Td rfl];exact⟨μ1,S1,env,d,S',s1,hE.mono e1,hm,post.ext e1⟩
 | false=>cases hm;rw [Ts SZ];exact post _ H1 μ1 e1 s1 r1
theorem Sa(ha:DE X a ma)(hb:DE X (.BoolOp .Or (b::rest) pos) mb):DE X (.BoolOp .Or (a::b::rest) pos) (Qe ma mb):=PE.imp (Pu ha hb) λσ H Q ⟨μ,S,env,d,S',hS,hE,hm,post⟩=>by
 obtain⟨⟨x,S1⟩,h1,hm⟩:=SJ.mp hm
 obtain⟨k,h2,hm⟩:=SJ.mp hm
 refine⟨μ,S,env,x,S1,hS,hE,h1,λv H1 μ1 e1 s1 r1=>⟨k,qJ s1 r1 h2,?_⟩⟩
 cases k with
 | false=>rw [Ts SZ];exact⟨μ1,S1,env,d,S',s1,hE.mono e1,hm,post.ext e1⟩
 | true=>cases hm;rw [Td rfl];exact post _ H1 μ1 e1 s1 r1
theorem MN(ha:DE X a ma):DE X (.UnaryOp .Not a pos) (Hr ma):=PE.imp (KZ ha) λσ H Q ⟨μ,S,env,d,S',hS,hE,hm,post⟩=>by
 obtain⟨⟨x,S1⟩,h1,hm⟩:=SJ.mp hm
 obtain⟨k,h2,hm⟩:=SJ.mp hm
 cases hm
 exact⟨μ,S,env,x,_,hS,hE,h1,λv H1 μ1 e1 s1 r1=>⟨k,qJ s1 r1 h2,post _ H1 μ1 e1 s1 (.bl _)⟩⟩
end
section
variable{X:Cx}{K:W.Frag}{μ μ':Fp}{H H':Hp}{S S':aa}{tg iter:Expr}{pos:Pos}
noncomputable def eS(g:MG)(body:MS)(r:Nat):Nat->Nat->av->aa->Option qI
 | 0,_,_,_=>U
 | f+1,i,env,S=>match S[r]? with
  | some (.lst xs)=>match xs[i]? with
   | none=>O (.nx env S)
   | some d=>(g d env S).bind λp=>(body p.1 p.2).bind λo=>match o with
    | .nx e s=>eS g body r f (i+1) e s
    | .ct e s=>eS g body r f (i+1) e s
    | .bk e s=>O (.nx e s)
    | .rt d s=>O (.rt d s)
  | _=>U
noncomputable def eg(m:ME)(g:MG)(body:MS):MS:=λenv S=>(m env S).bind λp=>match p.1 with
 | .ref r=>eS g body r 2000 0 env p.2
 | .lst xs=>cx g body xs env p.2
 | .rol xs=>cx g body xs env p.2
 | .tup xs=>cx g body xs env p.2
 | _=>U
noncomputable def mForX(m:ME)(g:MG)(body:MS):MS:=λenv S=>(m env S).bind λp=>match p.1 with
 | .ref r=>eS g body r 2000 0 env p.2
 | _=>U
theorem Mr{body:List Stmt}{mi:ME}{g:MG}{mb:MS}(hp:PassesOwn (model X.prog X.w) X.A X.env X.xe)(hc:X.calm=true)(hi:DE X iter mi)(hg:DG X tg g)(hb:yi X body mb)
  (hs:∀ x,foldedSetIterable iter X.env x=pure x):DS X (.For tg iter body [] pos) (mForX mi g mb):=PS.imp (GB hp hc (KQ hi) hg hb hs) λE σ H ⟨μ,S,env,o,hS,hE,hm,post⟩=>by
 obtain⟨⟨d,S1⟩,h1,hm⟩:=SJ.mp hm
 dsimp only at hm
 split at hm
 ·rename_i r
  refine⟨μ,S,env,_,S1,hS,hE,h1,λv H1 μ1 e1 s1 r1=>?_⟩
  cases r1 with
  | @ref a _ ha=>
   have cell:∀ {μ' H' S' xs},Ext μ1 H1 μ' H'->SOk X.K μ' S' H'->S'[r]?=O (.lst xs)->∃ vs,H' a=O (.lst vs)/\Reps X.K μ' H' vs xs:=λ{μ' H' S' xs} e s q=>by
    obtain⟨l,ql,_⟩:=e.pre
    have ha':μ'.cs[r]?=O a:=by rw [ql,To (SR.mp ha).1];exact ha
    exact s.cell r a _ ha' q
   have hq0:∃ vs,jk X.K H1 a vs:=by
    unfold eS at hm
    split at hm
    ·rename_i xs q
     obtain⟨vs,hv,_⟩:=cell s1.ext s1 q
     exact⟨vs,.inl (.inl hv)⟩
    ·cases hm
   refine⟨a,rfl,hq0,?_⟩
   refine⟨λi n σ H=>∃ μ' S' env' o',Ext μ1 H1 μ' H/\SOk X.K μ' S' H/\EOk X.K μ' H σ env'/\eS g mb r n i env' S'=O o'/\PostS X.K μ' H o' E,
    ⟨2000,μ1,S1,env,o,s1.ext,s1,hE.mono e1,hm,post.ext e1⟩,?_⟩
   rintro i n σ' H' ⟨μ',S',env',o',e',s',r',hl,post'⟩
   cases n with
   | zero=>cases hl
   | succ n=>
    unfold eS at hl
    split at hl
    ·rename_i xs q
     obtain⟨vs,hv,rv⟩:=cell e' s' q
     have hsq:jk X.K H' a vs:=.inl (.inl hv)
     split at hl
     ·rename_i hx
      cases hl
      refine .inl ⟨⟨vs,hsq,?_⟩,post' σ' H' μ' s'.ext s' r'⟩
      rw [rv.length];simpa using hx
     ·rename_i d hx
      obtain⟨w,hw,rw0⟩:=rv.get hx
      refine .inr ⟨⟨vs,w,hsq,hw⟩,λσ2 H2=>∃ μ2 S2 env2 o2,Ext μ1 H1 μ2 H2/\SOk X.K μ2 S2 H2/\EOk X.K μ2 H2 σ2 env2/\eS g mb r n (i+1) env2 S2=O o2/\PostS X.K μ2 H2 o2 E,
       λσ2 H2 ⟨μ2,S2,env2,o2,q1,q2,q3,q4,q5⟩=>⟨n,by omega,μ2,S2,env2,o2,q1,q2,q3,q4,q5⟩,λx H2 y=>?_⟩
      obtain⟨e2,hy⟩:=y
      subst e2
      have ex:x=w:=by have:=hy vs hsq;rw [hw] at this;exact(Tq this).symm
      subst ex
      obtain⟨⟨env3,S3⟩,h3,hl⟩:=SJ.mp hl
      obtain⟨o4,h4,hl⟩:=SJ.mp hl
      refine⟨μ',S',env',d,env3,S3,s',r',rw0,h3,λσ3 H3 μ3 e3 s3 r3=>⟨μ3,S3,env3,o4,s3,r3,h4,?_⟩⟩
      have eT:Ext μ1 H1 μ3 H3:=e'.trans e3
      have pT:PostS X.K μ3 H3 o' E:=post'.ext e3
      cases o4 with
      | nx e5 s5=>exact λσ6 H6 μ6 e6 s6 r6=>⟨μ6,s5,e5,o',eT.trans e6,s6,r6,hl,pT.ext e6⟩
      | ct e5 s5=>exact λσ6 H6 μ6 e6 s6 r6=>⟨μ6,s5,e5,o',eT.trans e6,s6,r6,hl,pT.ext e6⟩
      | bk e5 s5=>cases hl;exact pT
      | rt d5 s5=>cases hl;exact pT
    ·cases hl
 ·cases hm
theorem Ms{body:List Stmt}{mi:ME}{g:MG}{mb:MS}(hp:PassesOwn (model X.prog X.w) X.A X.env X.xe)(hc:X.calm=true)(hi:DE X iter mi)(hg:DG X tg g)(hb:yi X body mb)
  (hs:∀ x,foldedSetIterable iter X.env x=pure x):DS X (.For tg iter body [] pos) (eg mi g mb):=by
 have hA:=Mr (pos:=pos) hp hc hi hg hb hs
 have hB:=Je (pos:=pos) hp hc (BU (tg:=tg) hi) hg hb hs
 intro pins s σ H E I ⟨μ,S,env,o,hS,hE,h,post⟩
 obtain⟨⟨x,S1⟩,h1,h⟩:=SJ.mp h
 cases x with
 | ref r=>exact hA pins s σ H E I ⟨μ,S,env,o,hS,hE,by show (mi env S).bind _=_;rw [h1];exact h,post⟩
 | lst xs=>exact hB pins s σ H E I ⟨μ,S,env,o,hS,hE,by show ((mi env S).bind _).bind _=_;rw [h1];exact h,post⟩
 | rol xs=>exact hB pins s σ H E I ⟨μ,S,env,o,hS,hE,by show ((mi env S).bind _).bind _=_;rw [h1];exact h,post⟩
 | tup xs=>exact hB pins s σ H E I ⟨μ,S,env,o,hS,hE,by show ((mi env S).bind _).bind _=_;rw [h1];exact h,post⟩
 | _=>cases h
end
end M
namespace L2
section
variable{X:Cx}{pos:Pos}
theorem sO:∀ {ns:List Int} {us:List Value},Vals (ns.map V.int) us->∃ xs:List (Int×Tok),us=xs.map (λp=>Value.int p.1 p.2)/\xs.map (·.1)=ns
 | [],_,.nil=>⟨[],rfl,rfl⟩
 | n::ns,_,.cons ⟨t,e⟩ r=>by
  subst e
  obtain⟨xs,e1,e2⟩:=sO r
  exact⟨(n,t)::xs,by rw [e1];rfl,by rw [Ta,e2]⟩
theorem Fj(hc:X.calm=true):CallR X (.builtin "max") (λxs H Q=>∃ p ns,xs=[.ref p]/\jk X.K H p (ns.map V.int)/\ns≠[]/\∀ m,m∈ns->(∀ a∈ns,a<=m)->Q (.int m) H):=by
 intro pins s σ H xs us Q I r h
 obtain⟨p,ns,rfl,hq,h0,q⟩:=h
 obtain⟨u,rfl,rx⟩:=gM r
 cases rx
 obtain⟨its,rv,pl,hz⟩:=I.list hq
 obtain⟨ps,e1,e2⟩:=sO rv
 have hl:s.heap.IsList p (intItems ps.toArray):=by
  have:=pl.isList
  rw [e1] at this
  have e:intItems ps.toArray=(ps.map (λp=>Value.int p.1 p.2)).toArray:=by simp [intItems]
  rw [e];exact this
 have hp:0<ps.toArray.size:=by
  rw [SQ]
  cases ps with
  | nil=>exact absurd e2.symm h0
  | cons _ _=>simp
 refine max_intList (I.ok.hd hc) hl hp λv h' tk hv kk=>?_
 obtain⟨g1,g2⟩:=argBest_gt (numAt ps.toArray) (ps.toArray.size - 1)
 generalize argBest (λi j=>decide (numAt ps.toArray i>numAt ps.toArray j)) (ps.toArray.size - 1)=b at hv g1 g2
 have hb:b<ps.length:=by rw [SQ] at g1 hp;omega
 have nb:∀ j (hj:j<ps.length),numAt ps.toArray j=ps[j].1:=λj hj=>by
  simp [numAt,hj]
 have ev:v=Value.int ps[b].1 ps[b].2:=by
  simp [intItems,hb] at hv
  exact hv.symm
 subst ev
 refine⟨.int ps[b].1,H,I.kept kk,⟨_,rfl⟩,q _ ?_ λa ha=>?_⟩
 ·rw [<- e2];exact Tz.mpr ⟨_,List.getElem_mem hb,rfl⟩
 ·rw [<- e2] at ha
  obtain⟨x,hx,rfl⟩:=Tz.mp ha
  obtain⟨j,hj,rfl⟩:=List.mem_iff_getElem.mp hx
  have:=g2 j (by rw [SQ];omega)
  rw [nb j hj,nb b hb] at this
  exact this
theorem rj:∀ (l:List Value) (lo:Nat),(∀ (j:Nat) (v:Value),l[j]?=O v->∃ t,v=.int ((lo+j:Nat):Int) t)->Vals ((List.range' lo l.length).map λ(i:Nat)=>V.int (i:Int)) l
 | [],_,_=>.nil
 | v::r,lo,h=>by
  rw [SY,List.range'_succ,Ta]
  obtain⟨t,e⟩:=h 0 v rfl
  refine .cons ⟨t,by simpa using e⟩ (rj r (lo+1) λj w hw=>?_)
  obtain⟨t,e⟩:=h (j+1) w (by simpa using hw)
  exact⟨t,by rw [e];congr 2;omega⟩
noncomputable def oK(n:Nat):List V:=(List.range n).map λ(i:Nat)=>V.int (i:Int)
theorem wH{a:Expr}{ta:TA}{p p2 pos pos2:Pos}(hc:X.calm=true)(hm:X.mg "list" = U)(hm2:X.mg "range" = U)(hg:Gl X "list")(hg2:Gl X "range")(ha:PA X [a] ta)(hs:starEach [a] X.env=[(false,eval a X.env)]) :
  PE X (.Call (.Name "list" p) [.Call (.Name "range" p2) [a] [] pos2] [] pos) (λσ H Q=>ta σ H λvs H1=>∃ j:Int,vs=[.int j]/\0<=j/\j<=1000/\∀ q,H1 q=U->Q (.ref q) (upd H1 q (.lst (oK j.toNat)))):=by
 intro pins s σ H Q I h
 refine Call_ (jf I hg hm boot_list (TM (Xu ?_) rfl rfl))
 refine Call_ (jf I hg2 hm2 boot_range (TM (cF (ha pos2 pins s σ H _ I h) λus s1 ⟨vs,H1,I1,r1,q1⟩=>?_) hs rfl))
 obtain⟨j,rfl,j0,j1,q⟩:=q1
 obtain⟨u,rfl,ru⟩:=r1.one
 obtain⟨t,rfl⟩:=ru
 refine call_range_1 (Calls.spliced_nil ?_)
 have I2:Inv X pins σ H1 { s1 with heap:=s1.heap.push { cls:=.type "range",data:=.fields #[.int 0 s1.toks,.int j t,.int 1 (s1.toks+1)] },toks:=s1.toks+1+1 }:=I1.kept λb o e=>SL _ e
 have hz:(s1.heap.push { cls:=.type "range",data:=.fields #[.int 0 s1.toks,.int j t,.int 1 (s1.toks+1)] }).objs.size=s1.heap.objs.size+1:=TZ ..
 refine call_list_range (n:=j.toNat) (I1.ok.hd hc) (IsRange.new ..) (small_one (by decide) (by decide) (by omega) (by omega)) (by rw [rangeSize_one];split <;> omega) (by omega) λh' tk acc c' kk hn it=>?_
 obtain⟨i1,i2⟩:=it
 have fr:H1 (s1.heap.objs.size+1)=U:=I1.hok.fresh (Vp _)
 dsimp only at hn ⊢
 rw [hz] at hn ⊢
 refine⟨.ref _,_,I2.laid (t':=tk) (a:=s1.heap.objs.size+1) (o:=.lst (oK j.toNat)) kk (by show _<=s1.heap.objs.size+1;rw [hz];exact SS _) ⟨?_,acc.toList,c',?_,?_⟩,rfl,q _ fr⟩
 ·simp [oK];rw [Ww];omega
 ·have:=rj acc.toList 0 (λj v hv=>by
   obtain⟨t,e⟩:=i2 j v (by simpa using hv)
   exact⟨t,by rw [e];congr 1;omega⟩)
  rw [UU,i1] at this
  rw [oK,List.range_eq_range']
  exact this
 ·simpa using hn
end
end L2
namespace M
open L2
section
variable{X:Cx}{K:W.Frag}{μ μ':Fp}{H H':Hp}{S S':aa}{pos:Pos}
noncomputable def CT(S:aa):D->Option (List D)
 | .lst xs=>O xs
 | .ref r=>match S[r]? with | some (.lst xs)=>O xs | _=>U
 | _=>U
theorem vc{v:V}{d:D}{ds:List D}(s:SOk K μ S H)(r:Rep K μ H v d)(h:CT S d=O ds):∃ a vs,v=.ref a/\H a=O (.lst vs)/\Reps K μ H vs ds:=by
 cases r with
 | lst hd n rr=>cases h;exact⟨_,_,rfl,hd,rr⟩
 | ref hr=>
  rename_i a i
  unfold CT at h
  dsimp only at h
  cases q:S[i]? with
  | none=>rw [q] at h;cases h
  | some c=>
   rw [q] at h
   have ck:=s.cell _ _ _ hr q
   cases c with
   | lst xs=>cases h;obtain⟨vs,e,rr⟩:=ck;exact⟨a,vs,rfl,e,rr⟩
   | dct ks xs=>cases h
 | _=>cases h
noncomputable def Ic:D->Bool
 | .ref _=>true
 | _=>false
noncomputable def bH(S:aa)(x y:D):Option D:=if Ic x||Ic y then (CT S x).bind λxs=>(CT S y).bind λys=>if xs.length+ys.length<=sizeLine then O (.lst (xs++ys)) else U else IC S x y
theorem Lp:OpR X (binaryOp .Add) (jN X.K bH):=OpR.imp (OpR.or GV PZ) λx y H Q ⟨μ,S,dx,dy,dz,hS,h1,h2,h3,post⟩=>by
 unfold bH at h3
 split at h3
 ·obtain⟨xs,e1,h3⟩:=SJ.mp h3
  obtain⟨ys,e2,h3⟩:=SJ.mp h3
  split at h3
  ·rename_i hl
   cases h3
   obtain⟨a,vs,rfl,q1,r1⟩:=vc hS h1 e1
   obtain⟨b,ws,rfl,q2,r2⟩:=vc hS h2 e2
   have l1:=r1.length
   have l2:=r2.length
   exact .inl ⟨a,b,vs,ws,rfl,rfl,q1,q2,by omega,λp hp=>post.lst hS hp (r1.append r2)⟩
  ·cases h3
 ·exact .inr ⟨μ,S,dx,dy,dz,hS,h1,h2,h3,post⟩
noncomputable def nJ:List Int->Int
 | []=>0
 | [a]=>a
 | a::r=>max a (nJ r)
theorem uO:∀ {ns:List Int},ns≠[]->nJ ns∈ns/\∀ a∈ns,a<=nJ ns
 | [a],_=>⟨by simp [nJ],λb hb=>by simp at hb;simp [nJ,hb]⟩
 | a::b::r,_=>by
  obtain⟨h1,h2⟩:=uO (ns:=b::r) (by simp)
  show max a (nJ (b::r))∈_/\∀ c∈_,c<=max a (nJ (b::r))
  generalize nJ (b::r)=m at h1 h2
  refine⟨?_,λc hc=>?_⟩
  ·by_cases h:m<=a
   ·rw [Int.max_eq_left h];exact SN
   ·rw [Int.max_eq_right (by omega)];exact SO _ h1
  ·rcases Tc.mp hc with rfl | hc
   ·exact Int.le_max_left _ _
   ·exact Int.le_trans (h2 c hc) (Int.le_max_right _ _)
theorem yZ{ns:List Int}{m:Int}(h0:ns≠[])(h1:m∈ns)(h2:∀ a∈ns,a<=m):m=nJ ns:=by
 obtain⟨g1,g2⟩:=uO h0
 have:=h2 _ g1
 have:=g2 _ h1
 omega
noncomputable def sY(S:aa):List D->Option D
 | [d]=>(pW S d).bind λns=>if ns.isEmpty then U else O (.int (nJ ns))
 | ds=>Oe S ds
theorem CallR.or{f:Value}{r r':List V->Hp->VK->Prop}(h:CallR X f r)(h':CallR X f r'):CallR X f (λxs H Q=>r xs H Q\/r' xs H Q):=by
 intro pins s σ H xs us Q I rv q
 rcases q with q | q
 ·exact h pins s σ H xs us Q I rv q
 ·exact h' pins s σ H xs us Q I rv q
theorem Fu(hc:X.calm=true):CallR X (.builtin "max") (DQ X.K (aq sY)):=CallR.imp (CallR.or (Fj hc) (Fv hc)) λxs H Q ⟨μ,S,ds,d,S',hS,hr,hm,post⟩=>by
 obtain⟨rfl,hm'⟩:=dh hm
 match ds,hr,hm,hm' with
 | [d0],hr,hm,hm'=>
  obtain⟨ns,h1,h2⟩:=SJ.mp hm'
  split at h2
  ·cases h2
  ·rename_i h0
   cases h2
   have h0:ns≠[]:=λz=>h0 (by rw [z];rfl)
   obtain⟨v,rfl,rv⟩:=hr.one
   obtain⟨b,rfl,hq,h64⟩:=sQ hS rv h1
   refine .inl ⟨b,ns,rfl,hq,h0,λm m1 m2=>?_⟩
   rw [yZ h0 m1 m2]
   exact post.here hS (.int _)
 | [],hr,hm,hm'=>cases hm'
 | _::_::_,hr,hm,hm'=>exact .inr ⟨μ,_,_,d,_,hS,hr,hm,post⟩
noncomputable def da(ms:MA):ME:=λenv S=>(ms env S).bind λp=>match p.1 with | [.int j]=>if 0<=j/\j<=1000 then O (.lst (bj 0 j.toNat),p.2) else U | _=>U
theorem AU(n:Nat):Reps K μ H (oK n) (bj 0 n):=by
 unfold oK bj
 generalize List.range n=l
 induction l with
 | nil=>exact .nil
 | cons a r ih=>rw [Ta,Ta,Int.zero_add];exact .cons (.int _) ih
theorem Jz{a:Expr}{ms:MA}{p p2 pos2:Pos}(hc:X.calm=true)(hm:X.mg "list" = U)(hm2:X.mg "range" = U)(hg:Gl X "list")(hg2:Gl X "range")(ha:DA X [a] ms)(hs:starEach [a] X.env=[(false,eval a X.env)]) :
  DE X (.Call (.Name "list" p) [.Call (.Name "range" p2) [a] [] pos2] [] pos) (da ms):=PE.imp (wH hc hm hm2 hg hg2 ha hs) λσ H Q ⟨μ,S,env,d,S',hS,hE,h,post⟩=>by
 obtain⟨⟨ds,S1⟩,h1,h⟩:=SJ.mp h
 refine⟨μ,S,env,ds,S1,hS,hE,h1,λvs H1 μ1 e1 s1 r1=>?_⟩
 dsimp only at h
 split at h
 ·rename_i j
  split at h
  ·rename_i hj
   cases h
   obtain⟨v,rfl,rv⟩:=r1.one
   exact⟨j,by rw [rv.int_inv],hj.1,hj.2,λq hq=>(post.ext e1).lst s1 hq (AU _)⟩
  ·cases h
 ·cases h
noncomputable def Cz(t:MT)(body:MS):Nat->av->aa->Option qI
 | 0,_,_=>U
 | f+1,env,S=>(t env S).bind λp=>if p.1=true then (body env p.2).bind λo=>match o with
   | .nx e s=>Cz t body f e s
   | .ct e s=>Cz t body f e s
   | .bk e s=>O (.nx e s)
   | .rt d s=>O (.rt d s)
  else O (.nx env p.2)
end
inductive TabRel:List (ba×Value)->List (ba×D)->Prop
 | nil:TabRel [] []
 | cons {k:ba} {v:Value} {d:D} {vs:List (ba×Value)} {ds:List (ba×D)} (x:V) (h:RelV x v) (r:∀ K μ H,Rep K μ H x d) (t:TabRel vs ds):TabRel ((k,v)::vs) ((k,d)::ds)
theorem TabRel.val{k:ba}:∀ {vs ds},TabRel vs ds->∀ {d},dC ds k=O d->∃ v x,valueAt vs k=O v/\RelV x v/\∀ K μ H,Rep K μ H x d
 | _,_,.nil,d,h=>by cases h
 | _,_,.cons (k:=k') (v:=v) x h r t,d,q=>by
  unfold dC at q
  split at q
  ·rename_i e;cases q;refine⟨v,x,?_,h,r⟩;simp only at e;simp [valueAt,e]
  ·rename_i e
   obtain⟨v',x',h1,h2,h3⟩:=TabRel.val t q
   refine⟨v',x',?_,h2,h3⟩
   simp only at e
   rw [<- h1]
   simp [valueAt,e]
structure vQ(w:World)(K:W.Frag)(mg:Str->Option Value)(x:Str)(l:List (ba×D)):Prop where
 ex:∃ (a:Addr) (vs:List (ba×Value)),mg x=O (.ref a)/\(∀ (P:Program) (h:Heap),K.In h->h.DictOf (bv P w) a vs)/\TabRel vs l
section
variable{X:Cx}
theorem Rj{a:Addr}{vs:List (ba×Value)}(hd:∀ (P:Program) (h:Heap),X.K.In h->h.DictOf (bv P X.w) a vs):IxR X (λx y H Q=>∃ k v z,x=.ref a/\y=kV k/\valueAt vs k=O v/\RelV z v/\Q z H):=by
 intro value slice pins s σ H x y v u Q I rx ry h hs
 obtain⟨k,v',z,rfl,rfl,hv,rz,q⟩:=h
 cases rx
 have dd:=hd X.prog s.heap I.kIn
 exact Xn dd.typeIs F.slot_dict_getitem.lookup (wpAny_getItem_of (lh ry) dd.mapOf hv ⟨z,H,I.tok _,rz,q⟩) hs
noncomputable def cI(l:List (ba×D))(mi:ME):ME:=λenv S=>(mi env S).bind λp=>(eD p.1).bind λk=>(dC l k).bind λd=>O (d,p.2)
theorem Jt{x:Str}{l:List (ba×D)}{i:Expr}{mi:ME}{p pos:Pos}(g:vQ X.w X.K X.mg x l)(hg:Gl X x)(hx:(x == ("__debug__":Str))=false)(hi:DE X i mi)(hs:qY i:=by intro _ _;rfl):DE X (.Subscript (.Name x p) i pos) (cI l mi):=by
 obtain⟨a,vs,h1,h2,h3⟩:=g.ex
 refine PE.imp (GN (Rj h2) (Ck (v:=.ref a) hg h1 rfl hx) hi hs) λσ H Q ⟨μ,S,env,d,S',hS,hE,hm,post⟩=>?_
 obtain⟨⟨y,S1⟩,e1,hm⟩:=SJ.mp hm
 obtain⟨k,e2,hm⟩:=SJ.mp hm
 obtain⟨d',e3,hm⟩:=SJ.mp hm
 cases hm
 obtain⟨v,z,v1,v2,v3⟩:=h3.val e3
 exact⟨μ,S,env,y,_,hS,hE,e1,λu H1 μ1 ex s1 r1=>⟨k,v,z,rfl,fM e2 r1,v1,v2,post _ H1 μ1 ex s1 (v3 _ _ _)⟩⟩
end
theorem FT{w:World}{K:W.Frag}{a:Addr}{es:Array DictEntry}{n:Nat}(hl:K.lookup a=O ⟨.type "dict",U,.dict es n,#[]⟩){vs:List (ba×Value)}(hp:∀ P,Pairs (bv P w) es.toList vs)(hk:∀ P,KeysOf (bv P w) es)(hn:(vs.map (·.1)).Nodup) :
  ∀ (P:Program) (h:Heap),K.In h->h.DictOf (bv P w) a vs:=λP h KX=>⟨_,es,n,KX a _ hl,⟨rfl,rfl,rfl⟩,rfl,hk P,hp P,hn⟩
inductive TabLit(w:World):List DictEntry->List (ba×Value)->Prop
 | nil:TabLit w [] []
 | cons {x:Str} {t:Tok} {v:Value} {es:List DictEntry} {vs:List (ba×Value)} (h:TabLit w es vs):TabLit w (⟨PyData.keyHash w.params x,.str x t,v⟩::es) ((.inr x,v)::vs)
theorem TabLit.pairs{w:World}{P:Program}:∀ {es vs},TabLit w es vs->Pairs (bv P w) es vs
 | _,_,.nil=>.nil
 | _,_,.cons (x:=x) (t:=t) h=>.cons (lh (k:=.inr x) (show RelV (V.str x) (Value.str x t) from ⟨t,rfl⟩)) rfl h.pairs
theorem TabLit.keys{w:World}{P:Program}:∀ {es vs},TabLit w es vs->∀ e∈es,∃ k,(bv P w).is k e.key=true/\e.hash=(bv P w).hash k
 | _,_,.nil,e,h=>by simp at h
 | _,_,.cons (x:=x) (t:=t) h,e,he=>by
  rcases Tc.mp he with rfl | he
  ·exact⟨.inr x,lh (k:=.inr x) (show RelV (V.str x) (Value.str x t) from ⟨t,rfl⟩),rfl⟩
  ·exact h.keys e he
theorem OG{w:World}{K:W.Frag}{mg:Str->Option Value}{x:Str}{a:Addr}{es:List DictEntry}{n:Nat}{vs:List (ba×Value)}{l:List (ba×D)}(hg:mg x=O (.ref a))(hl:K.lookup a=O ⟨.type "dict",U,.dict es.toArray n,#[]⟩)(t:TabLit w es vs)(hn:(vs.map (·.1)).Nodup)(r:TabRel vs l):vQ w K mg x l:=
 ⟨a,vs,hg,FT hl (λP=>by simpa using t.pairs) (λP e he=>t.keys e (by simpa using he)) hn,r⟩
section
variable{X:Cx}{K:W.Frag}{μ:Fp}{H:Hp}{S:aa}
noncomputable def fIndex:MF:=λo ds S=>match ds with
 | [x]=>if ue S o=true then (fV S o).bind λys=>if bP 40 x=true/\ys.all (bP 39)=true/\ys.length<=sizeLine then (ys.findIdx? λd=>kf d x).bind λj=>O (.int (j:Nat),S) else U else U
 | _=>U
end
section
variable{X:Cx}{K:W.Frag}{μ μ':Fp}{H H':Hp}{S S':aa}{tg iter:Expr}{pos:Pos}
noncomputable def CQ(g:MG)(t:MT)(e:ME)(r:Nat):Nat->Nat->av->aa->Option (List D×aa)
 | 0,_,_,_=>U
 | f+1,i,env,S=>match S[r]? with
  | some (.lst xs)=>match xs[i]? with
   | none=>O ([],S)
   | some d=>(g d env S).bind λp=>(t p.1 p.2).bind λb=>if b.1=true then (e p.1 b.2).bind λy=>(CQ g t e r f (i+1) p.1 y.2).bind λz=>O (y.1::z.1,z.2) else CQ g t e r f (i+1) p.1 b.2
  | _=>U
end
end M
namespace L2
section
variable{X:Cx}
noncomputable def rAddS:R2:=λx y H Q=>∃ a b,x=.str a/\y=.str b/\a.length+b.length<=sizeLine/\Q (.str (a++b)) H
theorem Lm:OpR X (binaryOp .Add) rAddS:=by
 intro pins s σ H x y v u Q I rx ry h
 obtain⟨a,b,rfl,rfl,hz,q⟩:=h
 obtain⟨t,rfl⟩:=rx
 obtain⟨t2,rfl⟩:=ry
 exact add_str (λt' tk=>⟨.str _,H,I.tok _,⟨_,rfl⟩,q⟩) hz
noncomputable def rMulS:R2:=λx y H Q=>∃ a n,x=.str a/\y=.int n/\a.length<=1048576/\0<=n/\n<=16/\Q (.str (Txt.mul a n)) H
theorem Li:OpR X (binaryOp .Mult) rMulS:=by
 intro pins s σ H x y v u Q I rx ry h
 obtain⟨a,n,rfl,rfl,hz,h0,h1,q⟩:=h
 obtain⟨t,rfl⟩:=rx
 obtain⟨t2,rfl⟩:=ry
 exact SB.mul (mulOk_of 1048576 16 hz (by omega) (by omega) (by decide) (by decide)) λt' tk=>⟨.str _,H,I.tok _,⟨_,rfl⟩,q⟩
theorem Ff:CallR X (.type "str") (λxs H Q=>(∃ i,xs=[.int i]/\i.natAbs.log2<1920/\Q (.str (toString i)) H)\/(xs=[.non]/\Q (.str "None") H)):=by
 intro pins s σ H xs us Q I r h
 rcases h with h | ⟨rfl,q⟩
 ·exact xZ pins s σ H xs us Q I r h
 ·obtain⟨u,rfl,hu⟩:=gM r
  cases hu
  exact PySem.P.str_of_none ⟨.str _,H,I.tok _,⟨_,rfl⟩,q⟩
noncomputable def tFmt(t:TE):TE:=λσ H Q=>t σ H λx H1=>(∃ y,x=.str y/\y.length<=sizeLine/\Q (.str y) H1)\/∃ i,x=.int i/\i.natAbs.log2<1920/\Q (.str (toString i)) H1
theorem Py{e:Expr}{t:TE}{pos:Pos}(h:PE X e t):PE X (.FormattedValue e (-1) U pos) (tFmt t):=by
 intro pins s σ H Q I q
 refine FormattedValue_plain (cF (h pins s σ H _ I q) λv s1 ⟨x,H1,I1,r1,q1⟩=>?_)
 rcases q1 with ⟨y,rfl,hz,q1⟩ | ⟨i,rfl,hz,q1⟩
 ·obtain⟨t,rfl⟩:=r1
  exact formatField_str (λt' tk=>⟨.str _,H1,I1.tok _,⟨_,rfl⟩,q1⟩) hz
 ·obtain⟨t,rfl⟩:=r1
  exact formatField_int_small hz ⟨.str _,H1,I1.tok _,⟨_,rfl⟩,q1⟩
noncomputable def rJoin(K:W.Frag):V->List V->Hp->VK->Prop:=λx vs H Q=>∃ sep a ys,x=.str sep/\vs=[.ref a]/\(jk K H a (ys.map V.str)\/kS K H a (ys.map V.str))/\(ys.map (·.length)).sum+ys.length * sep.length<=16777216/\Q (.str (Str.join sep ys)) H
theorem mE:∀ {ys:List Str} {us:List Value},Vals (ys.map V.str) us->StrsAre us ys
 | [],_,r=>by cases r;exact .nil
 | y::ys,_,r=>by
  cases r with
  | cons h t=>obtain⟨tk,rfl⟩:=h;exact .cons y tk (mE t)
theorem Lw:MtR X "str.join" (rJoin X.K):=by
 intro pins s σ H x vs v us Q I rx rv h
 obtain⟨sep,a,ys,rfl,rfl,hs,hz,q⟩:=h
 obtain⟨t,rfl⟩:=rx
 obtain⟨u,rfl,hu⟩:=gM rv
 cases hu
 have e:Txt.join sep ys=Str.join sep ys:=StrLaws.glued_eq_join sep ys
 rcases hs with hs | hs
 ·obtain⟨its,r,p,_⟩:=I.list hs
  obtain⟨o,n,p1,p2,p3,p4⟩:=p
  exact join_list ⟨o,p1,p2,n,p4⟩ (mE r) hz λt' k=>⟨.str _,H,I.tok _,⟨_,rfl⟩,e ▸ q⟩
 ·obtain⟨its,r,p,_⟩:=I.tuple hs
  exact join_tuple p (mE r) hz λt' k=>⟨.str _,H,I.tok _,⟨_,rfl⟩,e ▸ q⟩
end
end L2
namespace M
open L2
section
variable{X:Cx}{K:W.Frag}{μ μ':Fp}{H H':Hp}{S:aa}
noncomputable def aY(S:aa)(x y:D):Option D:=match x,y with
 | .str a,.str b=>if a.length+b.length<=sizeLine then O (.str (a++b)) else U
 | _,_=>U
noncomputable def mq(S:aa)(x y:D):Option D:=match x,y with
 | .str a,.int n=>if a.length<=1048576/\0<=n/\n<=16 then O (.str (Txt.mul a n)) else U
 | _,_=>U
theorem Lq:OpR X (binaryOp .Add) (jN X.K aY):=OpR.imp Lm λx y H Q ⟨μ,S,dx,dy,dz,hS,h1,h2,h3,post⟩=>by
 cases dx <;> first | cases h3 | skip
 cases dy <;> first | cases h3 | skip
 rename_i a b
 dsimp only [aY] at h3
 by_cases hz:a.length+b.length<=sizeLine
 ·rw [Td hz] at h3;cases h3;exact⟨a,b,h1.str_inv,h2.str_inv,hz,post.here hS (.str _)⟩
 ·rw [Ts hz] at h3;cases h3
theorem Lo:OpR X (binaryOp .Mult) (jN X.K mq):=OpR.imp Li λx y H Q ⟨μ,S,dx,dy,dz,hS,h1,h2,h3,post⟩=>by
 cases dx <;> first | cases h3 | skip
 cases dy <;> first | cases h3 | skip
 rename_i a n
 dsimp only [mq] at h3
 by_cases hz:a.length<=1048576/\0<=n/\n<=16
 ·rw [Td hz] at h3;cases h3;exact⟨a,n,h1.str_inv,h2.int_inv,hz.1,hz.2.1,hz.2.2,post.here hS (.str _)⟩
 ·rw [Ts hz] at h3;cases h3
noncomputable def ce(S:aa)(ds:List D):Option D:=match ds with
 | [.int i]=>if i.natAbs.log2<1920 then O (.str (toString i)) else U
 | [.non]=>O (.str "None")
 | _=>U
theorem JO:CallR X (.type "str") (DQ X.K (aq ce)):=CallR.imp Ff λxs H Q ⟨μ,S,ds,d,S',hS,hr,hm,post⟩=>by
 obtain⟨rfl,hm⟩:=dh hm
 cases ds with
 | nil=>cases hm
 | cons x r=>
  cases r with
  | cons _ _=>cases x <;> cases hm
  | nil=>
   obtain⟨v,rfl,r⟩:=hr.one
   cases x with
   | non=>cases hm;cases r;exact .inr ⟨rfl,post.here hS (.str _)⟩
   | int i=>
    dsimp only [ce] at hm
    by_cases hz:i.natAbs.log2<1920
    ·rw [Td hz] at hm;cases hm;exact .inl ⟨i,by rw [r.int_inv],hz,post.here hS (.str _)⟩
    ·rw [Ts hz] at hm;cases hm
   | _=>cases hm
noncomputable def LS:D->Option Str
 | .str y=>if y.length<=sizeLine then O y else U
 | .int i=>if i.natAbs.log2<1920 then O (toString i) else U
 | _=>U
noncomputable def dY(m:ME):ME:=λenv S=>(m env S).bind λp=>(LS p.1).bind λy=>O (.str y,p.2)
theorem Sg{e:Expr}{m:ME}{pos:Pos}(h:DE X e m):DE X (.FormattedValue e (-1) U pos) (dY m):=PE.imp (Py h) λσ H Q ⟨μ,S,env,d,S',hS,hE,hm,post⟩=>by
 obtain⟨⟨x,S1⟩,h1,hm⟩:=SJ.mp hm
 obtain⟨y,h2,hm⟩:=SJ.mp hm
 cases hm
 refine⟨μ,S,env,x,S1,hS,hE,h1,λv H1 μ1 e1 s1 r1=>?_⟩
 dsimp only at h2
 cases x with
 | int i=>
  dsimp only [LS] at h2
  by_cases hz:i.natAbs.log2<1920
  ·rw [Td hz] at h2;cases h2;exact .inr ⟨i,r1.int_inv,hz,post _ H1 μ1 e1 s1 (.str _)⟩
  ·rw [Ts hz] at h2;cases h2
 | str z=>
  dsimp only [LS] at h2
  by_cases hz:z.length<=sizeLine
  ·rw [Td hz] at h2;cases h2;exact .inl ⟨_,r1.str_inv,hz,post _ H1 μ1 e1 s1 (.str _)⟩
  ·rw [Ts hz] at h2;cases h2
 | _=>cases h2
noncomputable def bq:List ME->Str->ME
 | [],out=>λ_ S=>O (.str out,S)
 | m::r,out=>λenv S=>(m env S).bind λp=>match p.1 with
  | .str y=>if (out++y).length<=sizeLine then bq r (out++y) env p.2 else U
  | _=>U
inductive DEs(X:Cx):List Expr->List ME->Prop
 | nil:DEs X [] []
 | cons {e:Expr} {m:ME} {es:List Expr} {ms:List ME} (h:DE X e m) (t:DEs X es ms):DEs X (e::es) (m::ms)
theorem zK:∀ {es:List Expr} {ms:List ME},DEs X es ms->∀ (out:Str),out.length<=sizeLine->∀ (pins:List (Addr×Obj)) (s:Shared) (σ:L2.St) (H:Hp) (Q:VK),Inv X pins σ H s->tM X.K (bq ms out) σ H Q ->
  wpAny (model X.prog X.w) X.A (joinParts out (evalEach es X.env)) (EP X pins σ Q) X.xe s
 | _,_,.nil,out,ho,pins,s,σ,H,Q,I,⟨μ,S,env,d,S',hS,hE,hm,post⟩=>by
  cases hm
  exact joinParts_nil ⟨.str _,H,I.tok _,⟨_,rfl⟩,post.here hS (.str _)⟩ ho
 | _,_,.cons h t,out,ho,pins,s,σ,H,Q,I,⟨μ,S,env,d,S',hS,hE,hm,post⟩=>by
  obtain⟨⟨x,S1⟩,h1,hm⟩:=SJ.mp hm
  dsimp only at hm
  cases x <;> first | cases hm | skip
  rename_i y
  dsimp only at hm
  by_cases hz:(out++y).length<=sizeLine
  ·rw [Td hz] at hm
   refine joinParts_cons (cF (h pins s σ H (λw H1=>w=.str y/\tM X.K (bq _ (out++y)) σ H1 Q) I ⟨μ,S,env,_,S1,hS,hE,h1,λv H1 μ1 e1 s1 r1=>⟨r1.str_inv,μ1,S1,env,d,S',s1,hE.mono e1,hm,post.ext e1⟩⟩) λv s1 ⟨w,H1,I1,r1,e1,q1⟩=>?_)
   subst e1
   obtain⟨tk,rfl⟩:=r1
   exact⟨hz,zK t (out++y) hz pins s1 σ H1 Q I1 q1⟩
  ·rw [Ts hz] at hm;cases hm
theorem Fb{a b:Expr}{es:List Expr}{ms:List ME}{pos:Pos}(h:DEs X (a::b::es) ms):DE X (.JoinedStr (a::b::es) pos) (bq ms Str.empty):=λpins s σ H Q I q=>
 JoinedStr_many (zK h Str.empty (by decide) pins s σ H Q I q)
theorem BV{a:Expr}{m:ME}{pos:Pos}(h:DE X a m):DE X (.JoinedStr [a] pos) m:=λpins s σ H Q I q=>JoinedStr_one (h pins s σ H Q I q)
noncomputable def uE:List D->Option (List Str)
 | []=>O []
 | .str x::r=>(uE r).bind λxs=>O (x::xs)
 | _::_=>U
theorem uC:∀ {ds:List D} {vs:List V} {ys:List Str},Reps K μ H vs ds->uE ds=O ys->vs=ys.map V.str
 | _,_,_,.nil,h=>by cases h;rfl
 | d::_,_,_,.cons r t,h=>by
  cases d <;> first | cases h | skip
  obtain⟨zs,h1,h2⟩:=SJ.mp h
  cases h2
  rw [r.str_inv,uC t h1];rfl
noncomputable def ja:MF:=λo ds S=>match o,ds with
 | .str sep,[y]=>(fV S y).bind λxs=>(uE xs).bind λys=>if (ys.map (·.length)).sum+ys.length * sep.length<=16777216 then O (.str (Str.join sep ys),S) else U
 | _,_=>U
theorem Ly:MtR X "str.join" (Ky X.K ja):=MtR.imp Lw λx vs H Q ⟨μ,S,dx,ds,d,S',hS,r1,r2,h,post⟩=>by
 cases dx <;> first | cases h | skip
 rename_i sep
 cases ds with
 | nil=>cases h
 | cons y l=>
  cases l with
  | cons _ _=>cases h
  | nil=>
   obtain⟨xs,h1,h⟩:=SJ.mp h
   obtain⟨ys,h2,h⟩:=SJ.mp h
   by_cases hz:(ys.map (·.length)).sum+ys.length * sep.length<=16777216
   ·rw [Td hz] at h;cases h
    obtain⟨v,rfl,rv⟩:=r2.one
    obtain⟨a,ws,rfl,hq,rs⟩:=ip hS rv h1
    have e:=uC rs h2
    subst e
    exact⟨sep,a,ys,r1.str_inv,rfl,hq,hz,post.here hS (.str _)⟩
   ·rw [Ts hz] at h;cases h
noncomputable def Ib:D->Bool
 | .str _=>true
 | _=>false
noncomputable def bL(o:ME)(ms:MA):ME:=λenv S=>(o env S).bind λp=>if Ib p.1=true then (ms env p.2).bind λq=>ja p.1 q.1 q.2 else U
theorem Jw{o e:Expr}{es:List Expr}{mo:ME}{ms:MA}{apos cpos:Pos}(ho:DE X o mo)(ha:DA X (e::es) ms)
  (hbase:attributeBase o "join" X.env (eval o X.env)=eval o X.env)
  (hfew:((backTo cpos (starEach (e::es) X.env)).all (λx=>!x.1)&&(backToKw cpos (keywordEach [] X.env)).all (λx=>x.1.isSome)&&decide ((e::es).length+([]:List Keyword).length+(if ([]:List Keyword).isEmpty then 0 else 1)<30))=true)
  (hline:(apos.endLine == cpos.line)=true) (hs:starEach (e::es) X.env=(false,eval e X.env)::starEach es X.env) (hpl:(backTo cpos (starEach es X.env)).any (·.1)=false) :
  DE X (.Call (.Attribute o "join" apos) (e::es) [] cpos) (bL mo ms):=
 PE.imp (GS (X:=X) F.plainAttrs_str F.slot_str_join F.type_str_join Ly ho ha hbase hfew hline hs hpl) λσ H Q ⟨μ,S,env,d,S',hS,hE,h,post⟩=>by
  obtain⟨⟨x,S1⟩,h1,h⟩:=SJ.mp h
  dsimp only at h
  cases x <;> first | cases h | skip
  rename_i z
  obtain⟨⟨xs,S2⟩,h2,h⟩:=SJ.mp h
  refine⟨μ,S,env,_,S1,hS,hE,h1,λv H1 μ1 e1 s1 r1=>⟨?_,μ1,S1,env,xs,S2,s1,hE.mono e1,h2,λvs H2 μ2 e2 s2 r2=>⟨μ2,S2,_,xs,d,S',s2,r1.mono e2,r2,h,(post.ext e1).ext e2⟩⟩⟩
  rw [r1.str_inv]
  exact rfl
end
end M
namespace HT
section
variable{prog:Program}{w:World}{A:Around}{E:Value->Shared->Prop}{s:Shared}
end
end HT
namespace L2
section
variable{X:Cx}
end
end L2
namespace M
open L2
section
variable{X:Cx}{K:W.Frag}{μ μ':Fp}{H H':Hp}{S:aa}
end
end M
namespace HT
section
variable{prog:Program}{w:World}{A:Around}{E:Value->Shared->Prop}{s:Shared}
end
end HT
namespace L2
section
variable{X:Cx}
end
end L2
namespace M
open L2
section
variable{X:Cx}{K:W.Frag}{μ:Fp}{H:Hp}{S:aa}
end
end M
namespace HT
open SeqAt
end HT
namespace M
open L2
section
variable{X:Cx}{K:W.Frag}{μ:Fp}{H:Hp}{S:aa}
end
end M
namespace L2
noncomputable def Rs(e iter:Expr)(acc:Value)(env:Env):Sem Unit:=do
 let x <- eval iter env
 standAt iter.pos
 let x <- foldedSetIterable iter env x
 let it <- holding [x] (pyIter x)
 let _ <- runOwn (.compStart e 1 it acc env) env
 pure ()
theorem mx(elt tg iter tg2 iter2:Expr)(ifs ifs2:List Expr)(scope:Scope)(pos:Pos)(it acc:Value)(env:Env) :
  compTurn (.ListComp elt [⟨tg,iter,ifs,0⟩,⟨tg2,iter2,ifs2,0⟩] scope pos) 0 it acc env=cH (.ListComp elt [⟨tg,iter,ifs,0⟩,⟨tg2,iter2,ifs2,0⟩] scope pos) tg iter.pos ifs 0 it acc env (Rs (.ListComp elt [⟨tg,iter,ifs,0⟩,⟨tg2,iter2,ifs2,0⟩] scope pos) iter2 acc env):=by
 unfold cH Rs
 simp only [bind_assoc,Wx]
 rfl
theorem ui(elt tg iter tg2 iter2:Expr)(ifs ifs2:List Expr)(scope:Scope)(pos:Pos)(it acc:Value)(env:Env) :
  compTurn (.ListComp elt [⟨tg,iter,ifs,0⟩,⟨tg2,iter2,ifs2,0⟩] scope pos) 1 it acc env=cH (.ListComp elt [⟨tg,iter,ifs,0⟩,⟨tg2,iter2,ifs2,0⟩] scope pos) tg2 iter2.pos ifs2 1 it acc env (pB elt acc env):=rfl
theorem kQ{prog:Program}{w:World}{A:Around}{R:Result->Shared->Prop}{s:Shared}{elt:Expr}{g1:Comprehension}{tg2 iter2:Expr}{ifs2:List Expr}{scope:Scope}{pos:Pos}{it acc:Value}{env:Env}
  (h0:codeAny (model prog w) A (.compLoop (.ListComp elt [g1,⟨tg2,iter2,ifs2,0⟩] scope pos) 1 it acc env) R s)
  (h:wpAny (model prog w) A (pyIter it) (λit' s'=>codeAny (model prog w) A (.compLoop (.ListComp elt [g1,⟨tg2,iter2,ifs2,0⟩] scope pos) 1 it' acc env) R s') (notedBy (model prog w) A env λx s'=>R (.error x) s') s) :
  codeAny (model prog w) A (.compStart (.ListComp elt [g1,⟨tg2,iter2,ifs2,0⟩] scope pos) 1 it acc env) R s:=by
 refine Wy ?_
 refine wpAny_notedAt ?_
 show wpAny _ _ (compStart _ 1 _ _ _) _ _ _
 refine SK (wpAny_askSetting (wpAny_ite ?_))
 by_cases hq:({ program:=(model prog w).prog,params:=(model prog w).w.params:Setting }.params.followText "comprehension-iter-twice")=true
 ·rw [Td hq];exact SK (SU (SU ⟨rfl,h0⟩))
 ·rw [Ts hq];exact SK (Vl (SK (Ue (SK (Tp h (λit' s' h'=>SU ⟨rfl,h'⟩) λ_ _ z=>z)))))
noncomputable def tIn(wi:TI)(g:TG)(tt:TT)(te:TE)(p:Addr):TB:=λσ H Q=>wi σ H λJ H1=>mB J g tt (tEm te p) σ H1 Q
theorem ND{X:Cx}{elt tg iter tg2 iter2:Expr}{ifs ifs2:List Expr}{scope:Scope}{pos:Pos}{wi:TI}{g:TG}{tt:TT}{te:TE}{p:Addr}(hc:X.calm=true)(hx:∀ e s,X.xe e s->False)
  (hi:PI X tg2 iter2 wi) (hg:PG X tg2 g) (ht:Dv X ifs2 tt) (he:PE X elt te) (hs:∀ x,foldedSetIterable iter2 X.env x=pure x) :
  PB X (Rs (.ListComp elt [⟨tg,iter,ifs,0⟩,⟨tg2,iter2,ifs2,0⟩] scope pos) iter2 (.ref p) X.env) (tIn wi g tt te p):=λpins s σ H Q I h=>by
 refine SK (cF (hi pins s σ H _ I h) λx s1 h1=>SK (Ue ?_))
 rw [hs]
 refine SK (SU (SK (Tu (cF h1 λitv s2 h2=>?_))))
 obtain⟨it,fp,tn,J,H1,e,I2,T,st2,f2,hL⟩:=h2
 subst e
 have loop:=pG (d:=1) hc hx rfl (ui elt tg iter tg2 iter2 ifs ifs2 scope pos _ _ _) hg ht (qL (p:=p) he) T I2 st2 f2 hL
 refine SK (wpAny_runOwn ?_)
 rw [Around.mark_none]
 refine Ug (kQ loop (T.self _ 0 _ _ _ st2 loop)) λr s' ⟨σ',H',hr,J',q'⟩=>?_
 subst hr
 exact SU ⟨σ',H',J',q'⟩
end L2
namespace M
open L2
section
variable{X:Cx}{K:W.Frag}{H:Hp}{pos:Pos}
inductive iMs(K:W.Frag)(m:MA)(σ:L2.St)(H:Hp)(R:It->Hp->Prop):Prop
 | mk (μ:Fp) (S:aa) (env:av) (xs:List D) (S':aa) (hS:SOk K μ S H) (hE:EOk K μ H σ env) (h:m env S=O (xs,S')) (post:∀ J H' μ',Ext μ H μ' H'->SOk K μ' S' H'->(∀ μ2 H2,(∀ v d,Rep K μ' H' v d->Rep K μ2 H2 v d)->Aw K μ2 H2 J xs)->R J H')
noncomputable def Nt(X:Cx)(tg iter:Expr)(m:MA):Prop:=PI X tg iter (iMs X.K m)
theorem BS{tg a:Expr}{ms:MA}{p:Pos}(hm:X.mg "range" = U)(ha:DA X [a] ms)(hg:Gl X "range":=by rfl)(hs:starEach [a] X.env=[(false,eval a X.env)]:=by rfl):Nt X tg (.Call (.Name "range" p) [a] [] pos) (aL ms):=
 PI.imp (uL hg hm ha hs) λσ H R ⟨μ,S,env,xs,S',hS,hE,hm,post⟩=>by
  obtain⟨⟨ds,S1⟩,h1,hm⟩:=SJ.mp hm
  refine⟨μ,S,env,ds,S1,hS,hE,h1,λvs H1 μ1 e1 s1 r1=>?_⟩
  dsimp only at hm
  split at hm
  ·split at hm
   ·rename_i hb
    cases hm
    obtain⟨v,rfl,r⟩:=r1.one
    exact⟨_,by rw [r.int_inv],hb.1,hb.2,post _ H1 μ1 e1 s1 λ_ _ _=>mR 0 _⟩
   ·cases hm
  ·cases hm
theorem Mx{tg iter:Expr}{m:ME}(h:DE X iter m):Nt X tg iter (cf m):=PI.imp (GG h) λσ H R ⟨μ,S,env,xs,S',hS,hE,hm,post⟩=>by
 obtain⟨⟨d,S1⟩,h1,hm⟩:=SJ.mp hm
 refine⟨μ,S,env,d,S1,hS,hE,h1,λv H1 μ1 e1 s1 r1=>?_⟩
 cases d with
 | lst ys=>
  cases hm
  have r1':=r1
  obtain⟨a,vs,rfl,q,_,rs⟩:=r1.sqL
  exact⟨a,rfl,.inl ⟨⟨vs,.inl (.inl q)⟩,post _ H1 μ1 e1 s1 λ_ _ f=>lK (.inl rfl) (f _ _ r1') rfl⟩⟩
 | tup ys=>
  cases hm
  have r1':=r1
  obtain⟨a,vs,rfl,q,rs⟩:=r1.sqT
  exact⟨a,rfl,.inr ⟨⟨vs,q⟩,post _ H1 μ1 e1 s1 λ_ _ f=>zL (f _ _ r1')⟩⟩
 | rol ys=>
  cases hm
  have r1':=r1
  obtain⟨a,vs,rfl,q,rs⟩:=r1.sqR
  exact⟨a,rfl,.inl ⟨⟨vs,q⟩,post _ H1 μ1 e1 s1 λ_ _ f=>lK (.inr rfl) (f _ _ r1') rfl⟩⟩
 | _=>cases hm
noncomputable def ib(g:MG)(t:MT)(e:ME):List D->av->aa->Option (List D×av×aa)
 | [],env,S=>O ([],env,S)
 | d::ds,env,S=>(g d env S).bind λp=>(t p.1 p.2).bind λb=>if b.1=true then (e p.1 b.2).bind λq=>(ib g t e ds p.1 q.2).bind λr=>O (q.1::r.1,r.2) else ib g t e ds p.1 b.2
noncomputable def ia(g:MG)(t:MT)(mi2:MA)(g2:MG)(t2:MT)(e:ME):List D->av->aa->Option (List D×aa)
 | [],_,S=>O ([],S)
 | d::ds,env,S=>(g d env S).bind λp=>(t p.1 p.2).bind λb=>if b.1=true then (mi2 p.1 b.2).bind λq=>(ib g2 t2 e q.1 p.1 q.2).bind λr=>(ia g t mi2 g2 t2 e ds r.2.1 r.2.2).bind λz=>O (r.1++z.1,z.2) else ia g t mi2 g2 t2 e ds p.1 b.2
noncomputable def cg(mi:MA)(g:MG)(t:MT)(mi2:MA)(g2:MG)(t2:MT)(e:ME)(cap:List (Option Nat)):ME:=λenv S=>(mi env S).bind λp=>(ia g t mi2 g2 t2 e p.1 (iX cap env) p.2).bind λq=>if q.1.length<=sizeLine then O (.lst q.1,q.2) else U
structure CpI(K:W.Frag)(μ1:Fp)(H1:Hp)(p:Addr)(σ:L2.St)(H:Hp)(cs:List Addr)(S:aa)(env:av)(vs:List V)(zs:List D):Prop where
 ext:ExtP μ1 H1 ⟨cs,p::μ1.fb⟩ H
 sok:SOk K ⟨cs,p::μ1.fb⟩ S H
 eok:EOk K ⟨cs,p::μ1.fb⟩ H σ env
 lst:H p=O (.lst vs)
 rep:Reps K ⟨cs,p::μ1.fb⟩ H vs zs
theorem CpI.go{μ1:Fp}{H1 H H':Hp}{p:Addr}{σ σ':L2.St}{cs cs':List Addr}{S S':aa}{env env':av}{vs:List V}{zs:List D}(c:CpI K μ1 H1 p σ H cs S env vs zs)(e:Ext ⟨cs,p::μ1.fb⟩ H ⟨cs',p::μ1.fb⟩ H')(s:SOk K ⟨cs',p::μ1.fb⟩ S' H')(r:EOk K ⟨cs',p::μ1.fb⟩ H' σ' env'):CpI K μ1 H1 p σ' H' cs' S' env' vs zs:=
 ⟨c.ext.then e,s,r,(e.keeps c.lst λz=>c.sok.disj p SN z).1,c.rep.mono e⟩
theorem CpI.app{μ1:Fp}{H1 H:Hp}{p:Addr}{σ:L2.St}{cs:List Addr}{S:aa}{env:av}{vs:List V}{zs:List D}{v:V}{d:D}(c:CpI K μ1 H1 p σ H cs S env vs zs)(hp:H1 p=U)(r:Rep K ⟨cs,p::μ1.fb⟩ H v d):CpI K μ1 H1 p σ (upd H p (.lst (vs++[v]))) cs S env (vs++[v]) (zs++[d]):=
 ⟨c.ext.chg hp,c.sok.chg SN,c.eok.chg SN,aC,Reps.chg SN (c.rep.append (.cons r .nil))⟩
theorem uz{mi mi2:MA}{g g2:MG}{t t2:MT}{e:ME}{cap:List (Option Nat)}{σ:L2.St}{Q:VK}(h:tM K (cg mi g t mi2 g2 t2 e cap) σ H Q):oF (iM K mi) (yh K g) (qv K t) (tIn (iMs K mi2) (yh K g2) (qv K t2) (tM K e)) cap σ H Q:=by
 obtain⟨μ,S,env,d,S9,hS,hE,hm,post⟩:=h
 obtain⟨⟨xs,S1⟩,h1,hm⟩:=SJ.mp hm
 obtain⟨⟨ys,S2⟩,h2,hm⟩:=SJ.mp hm
 dsimp only at hm
 split at hm
 case isFalse=>cases hm
 rename_i hsz
 cases hm
 refine⟨μ,S,env,xs,S1,hS,hE,h1,λJ H1 μ1 e1 s1 it p hp=>?_⟩
 have hpn:=s1.notMem hp
 refine⟨λi n σ' H'=>n=xs.length - i/\i<=xs.length/\∃ (cs:List Addr) (S':aa) (env':av) (vs:List V) (zs rest:List D),CpI K μ1 H1 p σ' H' cs S' env' vs zs/\ia g t mi2 g2 t2 e (xs.drop i) env' S'=O (rest,S9)/\ys=zs++rest,
  ⟨xs.length,by simp,UA _,μ1.cs,S1,iX cap env,[],[],ys,⟨?_,s1.more hp,((hE.mono e1).block cap).more hp,aC,.nil⟩,by rw [UF];exact h2,rfl⟩,?_⟩
 ·exact⟨⟨[p],rfl,λa z=>by rw [Tg.mp z];exact hp⟩,⟨[],by simp,λ_ z=>by simp at z⟩,λa o' n h=>by rw [aD (bn h hp)];exact h,λa ha=>by
   by_cases z:a=p
   ·subst z;rw [aC];simp
   ·rw [aD z];exact s1.dom a ha⟩
 rintro i n σ' H' ⟨rfl,hi,cs,S',env',vs,zs,rest,c,hl,rfl⟩
 have iti:=it _ H' S' c.ext c.sok i
 by_cases hlt:i<xs.length
 ·refine .inr ⟨(iti.1 xs[i] (Tb hlt)).1,λx H2 y=>?_⟩
  obtain⟨e2,s2,rx⟩:=(iti.1 xs[i] (Tb hlt)).2 x H2 y
  rw [TW hlt] at hl
  obtain⟨⟨env3,S3⟩,h3,hl⟩:=SJ.mp hl
  obtain⟨⟨b,S4⟩,h4,hl⟩:=SJ.mp hl
  refine⟨_,S',env',xs[i],env3,S3,s2,c.eok.mono e2,rx,h3,λσ3 H3 μ3 e3 s3 r3=>⟨μ3,S3,env3,b,S4,s3,r3,h4,λH4 μ4 e4 s4=>?_⟩⟩
  have eA:=(e2.trans e3).trans e4
  obtain⟨cs4,fb4⟩:=μ4
  have hfb:fb4=p::μ1.fb:=eA.fb
  subst hfb
  have c4:=c.go eA s4 (r3.mono e4)
  cases b with
  | false=>
   rw [Ts SZ] at hl
   dsimp only
   rw [Ts SZ]
   exact⟨xs.length - (i+1),by omega,rfl,hlt,cs4,S4,env3,vs,zs,rest,c4,hl,rfl⟩
  | true=>
   rw [Td rfl] at hl
   dsimp only
   rw [Td rfl]
   obtain⟨⟨us,S5⟩,h5,hl⟩:=SJ.mp hl
   obtain⟨⟨ws,env6,S6⟩,h6,hl⟩:=SJ.mp hl
   obtain⟨⟨rs,S7⟩,h7,hl⟩:=SJ.mp hl
   cases hl
   refine⟨_,S4,env3,us,S5,s4,r3.mono e4,h5,λJ2 H5 μ5 e5 s5 it2=>?_⟩
   obtain⟨cs5,fb5⟩:=μ5
   have hfb:fb5=p::μ1.fb:=e5.fb
   subst hfb
   refine⟨λj n σ' H'=>n=us.length - j/\j<=us.length/\∃ (cs:List Addr) (S':aa) (env':av) (vs:List V) (zs' rest:List D),CpI K μ1 H1 p σ' H' cs S' env' vs zs'/\(∀ v d,Rep K ⟨cs5,p::μ1.fb⟩ H5 v d->Rep K ⟨cs,p::μ1.fb⟩ H' v d)/\ib g2 t2 e (us.drop j) env' S'=O (rest,env6,S6)/\zs++ws=zs'++rest,
    ⟨us.length,by simp,UA _,cs5,S5,env3,vs,zs,ws,c4.go e5 s5 (c4.eok.mono e5),λ_ _ z=>z,by rw [UF];exact h6,rfl⟩,?_⟩
   rintro j n σ' H' ⟨rfl,hj,cs,S',env',vs',zs',rest',c',rk,hl',hz⟩
   have itj:=it2 _ _ rk _ H' S' c'.sok.ext.toP c'.sok j
   by_cases hlj:j<us.length
   ·refine .inr ⟨(itj.1 us[j] (Tb hlj)).1,λx2 H2 y2=>?_⟩
    obtain⟨f2,q2,rx2⟩:=(itj.1 us[j] (Tb hlj)).2 x2 H2 y2
    rw [TW hlj] at hl'
    obtain⟨⟨env3',S3'⟩,k3,hl'⟩:=SJ.mp hl'
    obtain⟨⟨b',S4'⟩,k4,hl'⟩:=SJ.mp hl'
    refine⟨_,S',env',us[j],env3',S3',q2,c'.eok.mono f2,rx2,k3,λσ3 H3 μ3 e3 s3 r3=>⟨μ3,S3',env3',b',S4',s3,r3,k4,λH4 μ4 e4 s4=>?_⟩⟩
    have eA:=(f2.trans e3).trans e4
    obtain⟨cs4,fb4⟩:=μ4
    have hfb:fb4=p::μ1.fb:=eA.fb
    subst hfb
    have c4:=c'.go eA s4 (r3.mono e4)
    cases b' with
    | false=>
     rw [Ts SZ] at hl'
     dsimp only
     rw [Ts SZ]
     exact⟨us.length - (j+1),by omega,rfl,hlj,cs4,S4',env3',vs',zs',rest',c4,λv d z=>(rk v d z).mono eA,hl',hz⟩
    | true=>
     rw [Td rfl] at hl'
     dsimp only
     rw [Td rfl]
     obtain⟨⟨dv,S8⟩,k5,hl'⟩:=SJ.mp hl'
     obtain⟨⟨rs',q8⟩,k6,hl'⟩:=SJ.mp hl'
     cases hl'
     refine⟨_,S4',env3',dv,S8,s4,c4.eok,k5,λv H5 μ5 e5 s5 r5=>?_⟩
     obtain⟨cs5,fb5⟩:=μ5
     have hfb:fb5=p::μ1.fb:=e5.fb
     subst hfb
     have c5:=c4.go e5 s5 (c4.eok.mono e5)
     have hv:=c5.rep.length
     have hlen:=congrArg List.length hz
     simp only [Tl,SY] at hlen hsz
     exact⟨vs',c5.lst,by omega,us.length - (j+1),by omega,rfl,hlj,cs5,S8,env3',vs'++[v],zs'++[dv],rs',c5.app hp r5,λv d z=>Rep.chg SN ((((rk v d z).mono eA)).mono e5),k6,by rw [hz];simp⟩
   ·have e:j=us.length:=by omega
    subst e
    rw [UT] at hl'
    cases hl'
    rw [Tx] at hz
    subst hz
    exact .inl ⟨itj.2 (SS _),xs.length - (i+1),by omega,rfl,hlt,cs,S6,env6,vs',zs++ws,rs,c',h7,by simp⟩
 ·have e:i=xs.length:=by omega
  subst e
  refine .inl ⟨iti.2 (SS _),?_⟩
  rw [UT] at hl
  cases hl
  have eF:Ext μ1 H1 ⟨cs,μ1.fb⟩ H':=⟨rfl,c.ext.pre,c.ext.keep,c.ext.dom⟩
  rw [Tx] at post
  exact post _ H' ⟨cs,μ1.fb⟩ (e1.trans eF) c.sok.less (.lst c.lst ⟨λz=>c.sok.disj p SN z,hpn.2⟩ c.rep.less)
variable{elt tg iter tg2 iter2:Expr}{ifs ifs2:List Expr}{scope:Scope}{spos py:Pos}{N':List Str}{cap:List (Option Nat)}{mi mi2:MA}{g g2:MG}{t t2:MT}{me:ME}{y:Str}{i:Nat}
theorem JD(hc:X.calm=true)(B:BlockOk X N' scope cap)(hi:DI X tg iter mi)(hg:∀ C s H fp,DG (fU X N' scope C s H fp) tg g)(ht:∀ C s H fp,Ax (fU X N' scope C s H fp) ifs t)
  (hi2:∀ C s H fp,Nt (fU X N' scope C s H fp) tg2 iter2 mi2) (hg2:∀ C s H fp,DG (fU X N' scope C s H fp) tg2 g2) (ht2:∀ C s H fp,Ax (fU X N' scope C s H fp) ifs2 t2) (he:∀ C s H fp,DE (fU X N' scope C s H fp) elt me)
  (hs:∀ x,foldedSetIterable iter X.env x=pure x) (hs2:∀ env x,foldedSetIterable iter2 env x=pure x):DE X (.ListComp elt [⟨tg,iter,ifs,0⟩,⟨tg2,iter2,ifs2,0⟩] scope pos) (cg mi g t mi2 g2 t2 me cap):=
 PE.imp (rP (g:=yh X.K g) (tt:=qv X.K t) (tb:=tIn (iMs X.K mi2) (yh X.K g2) (qv X.K t2) (tM X.K me)) hc B hi hg ht (λ_ _ _=>mx ..) (λC s H fp p=>ND hc (λ_ _ z=>z) (hi2 C s H fp) (hg2 C s H fp) (ht2 C s H fp) (he C s H fp) (hs2 _)) hs) λ_ _ _ h=>uz h
theorem Ae(hN:X.N.Nodup)(hy:X.N[i]?=O y)(hx:JZ X.env.scope y)
  (hc:X.calm=true) (B:BlockOk X N' scope cap) (hi:DI X tg iter mi) (hg:∀ C s H fp,DG (fU X N' scope C s H fp) tg g) (ht:∀ C s H fp,Ax (fU X N' scope C s H fp) ifs t)
  (hi2:∀ C s H fp,Nt (fU X N' scope C s H fp) tg2 iter2 mi2) (hg2:∀ C s H fp,DG (fU X N' scope C s H fp) tg2 g2) (ht2:∀ C s H fp,Ax (fU X N' scope C s H fp) ifs2 t2) (he:∀ C s H fp,DE (fU X N' scope C s H fp) elt me)
  (hsw:swapsWith (.ListComp elt [⟨tg,iter,ifs,0⟩,⟨tg2,iter2,ifs2,0⟩] scope pos) (O (.Name y py)) spos.line X.env=pure true)
  (hs:∀ x,foldedSetIterable iter X.env x=pure x) (hs2:∀ env x,foldedSetIterable iter2 env x=pure x) (hf:X.fn y=true\/X.env.scope.names.lookup y=O .local) :
  DS X (.Assign [.Name y py] (.ListComp elt [⟨tg,iter,ifs,0⟩,⟨tg2,iter2,ifs2,0⟩] scope pos) spos) (aE (cg mi g t mi2 g2 t2 me cap) (ah i)):=
 PS.imp (kZ (g:=yh X.K g) (tt:=qv X.K t) (tb:=tIn (iMs X.K mi2) (yh X.K g2) (qv X.K t2) (tM X.K me)) hN hy hx hc B hi hg ht (λ_ _ _=>mx ..) (λC s H fp p=>ND hc (λ_ _ z=>z) (hi2 C s H fp) (hg2 C s H fp) (ht2 C s H fp) (he C s H fp) (hs2 _)) hsw hs hf) λE σ H h=>by
  obtain⟨μ,S,env,o,hS,hE,hm,post⟩:=h
  obtain⟨⟨d,S1⟩,h1,hm⟩:=SJ.mp hm
  cases hm
  exact uz ⟨μ,S,env,d,S1,hS,hE,h1,λv H1 μ1 e1 s1 r1=>post _ H1 μ1 e1 s1 ((hE.mono e1).set r1 i)⟩
end
section
variable{P:Program}{w:World}{K:W.Frag}{mg:Str->Option Value}{base:Heap}{k:Nat}
end
section
variable{X:Cx}{k i:Nat}{x b:Str}{e ix:Expr}{es:List Expr}{mi:ME}{ms:MA}{p pb pt ps pa pc pr:Pos}{l:List (ba×Nat×(List D->aa->Option (D×aa)))}
end
section
variable{P:Program}{w:World}{K:W.Frag}{mg:Str->Option Value}{base:Heap}{k:Nat}
end
section
variable{X:Cx}{e:Expr}{m:ME}{pos:Pos}
end
section
variable{X:Cx}{K:W.Frag}{μ μ':Fp}{H H':Hp}{S S':aa}{pos:Pos}
noncomputable def Hu(g:MG)(body:MS)(xs:List D)(r:Nat):Nat->Nat->av->aa->Option qI
 | 0,_,_,_=>U
 | f+1,i,env,S=>match S[r]? with
  | some (.lst ys)=>match xs[i]?,ys[i]? with
   | some x,O y=>(g (.tup [x,y]) env S).bind λp=>(body p.1 p.2).bind λo=>match o with
    | .nx e s=>Hu g body xs r f (i+1) e s
    | .ct e s=>Hu g body xs r f (i+1) e s
    | .bk e s=>O (.nx e s)
    | .rt d s=>O (.rt d s)
   | _,_=>O (.nx env S)
  | _=>U
end
end M
namespace HT
section
variable{prog:Program}{w:World}{A:Around}{E:Value->Shared->Prop}{s:Shared}{a:Addr}{o:Obj}{items:Array Value}{n:Nat}{ts:List Str}
end
end HT
namespace L2
end L2
namespace M
open L2
section
variable{X:Cx}{K:W.Frag}{μ μ':Fp}{H H':Hp}{S:aa}
noncomputable def flatK:D->Option (Option ba)
 | .non=>O U
 | .int i=>O (O (.inl i))
 | .str x=>O (O (.inr x))
 | _=>U
noncomputable def Im:List D->Option (List (Option ba))
 | []=>O []
 | d::ds=>(flatK d).bind λk=>(Im ds).bind λks=>O (k::ks)
end
end M
namespace HT
section
variable{prog:Program}{w:World}{A:Around}{E:Value->Shared->Prop}{h:Heap}{g:Array GenState}{d:Drawn}{t:Nat}{os:OsState}
variable{nm q:Str}{C N:Addr}{bs bm bmB:List Value}{hdct:Bool}{sn:List Str}{sub:List Value}{ab:Bool}{col:Option Bool}{dd:Option Addr}{k0 k1 k2 k3 k5:Option Value}{B newId initId:String}
end
section
open PySem.W Builtin Builtin.ObjectAttr Builtin.Getset_descriptor
variable{prog:Program}{w:World}{A:Around}{E:Value->Shared->Prop}{s:Shared}{K:Frag}{x C:Addr}{R:Result->Shared->Prop}
end
end HT
namespace HT
end HT
namespace HT
section
variable{M:Model}{A:Around}{E:Value->Shared->Prop}{s:Shared}
end
end HT
namespace L2
section
variable{X:Cx}{pins:List (Addr×Obj)}{σ:St}{H:Hp}{s s':Shared}{E:XK}{e:Value}
end
section
variable{X:Cx}{o value:Expr}{f:Str}{pos pos':Pos}{ta tv:TE}
end
section
variable{X:Cx}{pins:List (Addr×Obj)}{σ:St}{H:Hp}{s:Shared}
end
section
variable{X:Cx}{e:Expr}{x:Str}{np cpos pos:Pos}{te:TE}{C f:Addr}{fl:Str}{k:Nat}
end
section
variable{X:Cx}{pins:List (Addr×Obj)}{σ:St}{H:Hp}{s s':Shared}{E:XK}{e:Value}
end
section
variable{X:Cx}{k:Nat}{f:Addr}{fd:FuncData}{ps:List Str}{sp:Sp}{dvs:List V}{ds:List Value}{E:XK}{x:Str}{p pos:Pos}{e:Expr}{es:List Expr}{t:TA}{pins:List (Addr×Obj)}{σ:St}{H:Hp}{s:Shared}{Q:VK}
end
section
variable{X:Cx}{pins:List (Addr×Obj)}{σ:St}{H:Hp}{s:Shared}
end
end L2
namespace HT
section
variable{M:Model}{A:Around}{E:Value->Shared->Prop}{h:Heap}{g:Array GenState}{d:Drawn}{t:Nat}{os:OsState}
variable{nm q nm' q':Str}{C N C' N':Addr}{bs bm bs' bm':List Value}{hdct hdct':Bool}{sn sn':List Str}{sub sub':List Value}{ab ab':Bool}{col col':Option Bool}{dd dd':Option Addr}{k0 k1 k2 k3 k5 l0 l1 l2 l3 l5:Option Value}{newId newId':String}
end
end HT
namespace L2
section
variable{X:Cx}{pins:List (Addr×Obj)}{σ:St}{H:Hp}{s:Shared}{v:Value}{E:Value->Shared->Prop}
end
section
variable{X:Cx}{k:Nat}{f:Addr}{fd:FuncData}{ps:List Str}{sp:Sp}{dvs:List V}{ds:List Value}{x:Str}{p cpos p1:Pos}{e:Expr}{es:List Expr}{t:TA}
end
end L2
namespace HT
open PySem PySem.Spec PySem.Calls PyProof.Rows PySem.W Builtin Builtin.ObjectAttr
structure SH(K:Frag)(C:Addr):Prop where
 ga:findIn K (.ref C) "__getattribute__" = O (O (.builtin "BaseException.__getattribute__"))
 gt:findIn K (.ref C) "__getattr__" = O U
 mb:mroIn K C (.type "BaseException")=O true
section
variable{prog:Program}{w:World}{A:Around}{E:Value->Shared->Prop}{s:Shared}{K:Frag}{x C:Addr}{ox:Obj}{od:Option Obj}{name:Str}{expr fill:Bool}{Q:Value->Shared->Prop}{tk:Tok}
end
end HT
namespace L2
structure ExcGet(K:W.Frag)(C:Addr)(f:Str):Prop where
 wy:HT.SH K C
 hd:W.hasDictIn K C=true
 no:W.findIn K (.ref C) f=O U
section
variable{X:Cx}{e:Expr}{f:Str}{pos:Pos}{ta:TE}
end
section
variable{X:Cx}{pins:List (Addr×Obj)}{σ:St}{s:Shared}{E:Value->Shared->Prop}
end
section
variable{X:Cx}{k:Nat}{f:Addr}{fd:FuncData}{ps:List Str}{sp:Sp}{dvs:List V}{ds:List Value}{x:Str}{p cpos:Pos}{e:Expr}{es:List Expr}{t:TA}
end
end L2
namespace M
open L2
section
variable{X:Cx}{K:W.Frag}{μ μ':Fp}{H H':Hp}{S S':aa}{C:Addr}{fl:Str}{E:XK}{Z:tV}{st:Stmt}{pos:Pos}
end
section
variable{X:Cx}{K:W.Frag}{μ μ':Fp}{H H':Hp}{S S':aa}{C:Addr}{fl:Str}
end
end M
namespace L2
section
variable{X:Cx}{pos:Pos}
end
end L2
namespace M
open L2
section
variable{X:Cx}
end
section
variable{X:Cx}{K:W.Frag}{μ μ':Fp}{H H':Hp}{S S':aa}{C:Addr}{fl:Str}
end
end M
namespace HT
open PySem PySem.Spec PyProof.Rows Builtin
section
variable{prog:Program}{w:World}{A:Around}{E:Value->Shared->Prop}{s:Shared}
theorem pC{it t:Addr}{items:Array Value}(hne:t≠it):∀ (n i:Nat) (s:Shared) (Q:List Value->Shared->Prop),s.heap.IsListIter it t i->s.heap.IsList t items->i+n<=items.size ->
  (∀ h':Heap,h'.IsListIter it t (i+n)->Heap.SameBut it s.heap h'->h'.IsList t items->Q ((items.toList.drop i).take n) { s with heap:=h' })->wpAny (model prog w) A (draw (.ref it) n) Q E s
 | 0,i,s,Q,hit,hl,_,hQ=>by
  show wpAny _ _ (pure []) Q E s
  exact SU (by simpa using hQ s.heap hit (Heap.SameBut.refl ..) hl)
 | n+1,i,s,Q,hit,ht,hle,hQ=>by
  have hlt:i<items.size:=by omega
  show wpAny _ _ (pyNext (.ref it) >>= _) Q E s
  refine SK (WR hit ht (x:=items[i]) (by simp [hlt]) λh₁ hit₁ hs₁=>?_)
  have ht₁:h₁.IsList t items:=by
   obtain⟨o,ho,r⟩:=ht
   exact⟨o,hs₁.extBut t o hne ho,r⟩
  refine SK (Tu (pC hne n (i+1) _ _ hit₁ ht₁ (by omega) λh₂ hit₂ hs₂ ht₂=>SU ?_))
  have hd:items.toList.drop i=items[i]::items.toList.drop (i+1):=by simp [TW,hlt]
  have:=hQ h₂ (by rw [show i+(n+1)=i+1+n by omega];exact hit₂) (hs₁.trans hs₂) ht₂
  rw [hd,List.take_succ_cons] at this
  exact this
theorem oB{env:Env}{elts:List Expr}{x1}{pos:Pos}{t:Addr}{items:Array Value}{Q:Unit->Shared->Prop}(hh:A.handled=U)(ht:s.heap.IsList t items)
  (hn:(assignEach elts env).length=items.size) (hstar:(assignEach elts env).findIdx? (·.1)=U)
  (h:∀ h',Heap.ExtBut s.heap.objs.size s.heap h'->wpAny (model prog w) A (assignInOrder ((assignEach elts env).map (·.2)) items.toList) Q E { s with heap:=h' }) :
  wpAny (model prog w) A (assign (.Tuple elts x1 pos) env (.ref t)) Q E s:=by
 have hlt:t≠s.heap.objs.size:=by obtain⟨o,ho,_⟩:=ht;exact Tk (SV ho)
 rw [assign_Tuple]
 refine SK (Ue ?_)
 unfold unpack
 rw [hn,hstar]
 refine SK (Tu ?_)
 unfold unpackItems
 refine SK ?_
 unfold notIterableAtAll
 refine SK (wpAny_specialOf ht.typeIs slot_list_iter.lookup ?_)
 refine SU ?_
 simp only [Ut,UL]
 refine SK (Tu (UJ ht ?_))
 have ht0:(s.heap.push { cls:=.type "list_iterator",data:=.fields #[.ref t,.int 0 0] }).IsList t items:=by
  obtain⟨o,ho,r⟩:=ht
  exact⟨o,SL _ ho,r⟩
 refine SK (Tu (pC hlt items.size 0 _ _ ⟨_,SW _ rfl,rfl,rfl⟩ ht0 (by omega) λh₁ hit₁ hs₁ ht₁=>?_))
 have hall:List.take items.size (List.drop 0 items.toList)=items.toList:=by
  rw [UF];exact Vc (by simp)
 rw [hall]
 rw [Ts (by simp)]
 refine SK (Tu (WY hh hit₁ ht₁ (by simp) λh₂ he₂=>?_))
 simp only [Option.isSome_none,Ut,UL]
 exact SU (h h₂ λb o hb e=>he₂ b o hb (hs₁.extBut b o hb (SL _ e)))
end
end HT
namespace L2
noncomputable def gLst(K:W.Frag)(n:Nat)(t:FH):TG:=λv σ H Q=>∃ a xs,v=.ref a/\jk K H a xs/\xs.length=n/\t xs σ H Q
theorem Pq{X:Cx}{es:List Expr}{k:Nat}{t:FH}{n:Nat}{pos:Pos}(hc:X.calm=true)(h:PGs X es t)
  (hn:(assignEach es X.env).length=n:=by rfl) (hst:(assignEach es X.env).findIdx? (·.1)=U:=by rfl):PG X (.Tuple es k pos) (gLst X.K n t):=by
 intro pins s σ H v u Q I r hw
 obtain⟨a,xs,e1,hq,hl,hw⟩:=hw
 subst e1
 cases r
 obtain⟨its,rv,ht,hz⟩:=I.list hq
 refine HT.oB (I.ok.hd hc) ht.isList (by simp [hn,<- hl,rv.length]) hst λh' hx=>?_
 have I1:Inv X pins σ H { s with heap:=h' }:=I.kept (t':=s.toks) λb o e=>hx b o (Tk (SV e)) e
 exact h pins _ σ H xs _ Q I1 (by simpa using rv) hw
end L2
namespace M
open L2
noncomputable def gp(n:Nat)(gs:lU):MG:=λd env S=>match d with | .lst xs=>if xs.length=n then gs xs env S else U | _=>U
theorem MC{X:Cx}{pos:Pos}{es:List Expr}{k n:Nat}{gs:lU}(hc:X.calm=true)(h:Nu X es gs)(hn:(assignEach es X.env).length=n:=by rfl)(hst:(assignEach es X.env).findIdx? (·.1)=U:=by rfl):DG X (.Tuple es k pos) (gp n gs):=
 PG.imp (Pq hc h hn hst) λv σ H Q ⟨μ,S,env,d,env',S',hS,hE,hr,hm,post⟩=>by
  cases d with
  | lst xs=>
   simp only [gp] at hm
   split at hm
   ·rename_i hl
    obtain⟨a,vs,rfl,q,_,r⟩:=hr.sqL
    exact⟨a,vs,rfl,.inl (.inl q),by rw [r.length];exact hl,μ,S,env,xs,env',S',hS,hE,r,hm,post⟩
   ·cases hm
  | _=>cases hm
end M
namespace L2
section
variable{X:Cx}{e st:Expr}{te:TE}{ts:TO}{pos p2:Pos}
end
end L2
namespace M
open L2
section
variable{X:Cx}{K:W.Frag}{μ:Fp}{H:Hp}{S:aa}
end
end M
namespace L2
theorem PB.imp{X:Cx}{m:Sem Unit}{t t':TB}(h:PB X m t)(i:∀ σ H Q,t' σ H Q->t σ H Q):PB X m t':=λpins s σ H Q I q=>h pins s σ H Q I (i σ H Q q)
noncomputable def zN(e iter:Expr)(d:Nat)(acc:Value)(env:Env):Sem Unit:=do
 let x <- eval iter env
 standAt iter.pos
 let x <- foldedSetIterable iter env x
 let it <- holding [x] (pyIter x)
 let _ <- runOwn (.compStart e d it acc env) env
 pure ()
section
variable{elt tg iter tg2 iter2:Expr}{gens:List Comprehension}{ifs ifs2:List Expr}{scope:Scope}{pos:Pos}{d:Nat}
theorem An(h1:gens[d]?=O ⟨tg,iter,ifs,0⟩)(h2:gens[d+1]?=O ⟨tg2,iter2,ifs2,0⟩)(it acc:Value)(env:Env) :
  compTurn (.ListComp elt gens scope pos) d it acc env=cH (.ListComp elt gens scope pos) tg iter.pos ifs d it acc env (zN (.ListComp elt gens scope pos) iter2 (d+1) acc env):=by
 unfold compTurn cH zN
 simp only [h1,h2,bind_assoc,Wx]
 rfl
theorem uj(h1:gens[d]?=O ⟨tg,iter,ifs,0⟩)(h2:gens[d+1]?=U)(it acc:Value)(env:Env) :
  compTurn (.ListComp elt gens scope pos) d it acc env=cH (.ListComp elt gens scope pos) tg iter.pos ifs d it acc env (pB elt acc env):=by
 unfold compTurn cH pB
 simp only [h1,h2,bind_assoc,Wx]
 rfl
theorem lB{prog:Program}{w:World}{A:Around}{R:Result->Shared->Prop}{s:Shared}{it acc:Value}{env:Env}(h1:gens[d]?=O ⟨tg,iter,ifs,0⟩)
  (h0:codeAny (model prog w) A (.compLoop (.ListComp elt gens scope pos) d it acc env) R s)
  (h:wpAny (model prog w) A (pyIter it) (λit' s'=>codeAny (model prog w) A (.compLoop (.ListComp elt gens scope pos) d it' acc env) R s') (notedBy (model prog w) A env λx s'=>R (.error x) s') s) :
  codeAny (model prog w) A (.compStart (.ListComp elt gens scope pos) d it acc env) R s:=by
 refine Wy ?_
 refine wpAny_notedAt ?_
 show wpAny _ _ (compStart _ d _ _ _) _ _ _
 unfold compStart
 have hc:clausesOf (.ListComp elt gens scope pos)=gens:=rfl
 rw [hc,h1]
 refine SK (wpAny_askSetting (wpAny_ite ?_))
 by_cases hq:({ program:=(model prog w).prog,params:=(model prog w).w.params:Setting }.params.followText "comprehension-iter-twice")=true
 ·rw [Td hq];exact SK (SU (SU ⟨rfl,h0⟩))
 ·rw [Ts hq];exact SK (Vl (SK (Ue (SK (Tp h (λit' s' h'=>SU ⟨rfl,h'⟩) λ_ _ z=>z)))))
noncomputable def tInB(wi:TI)(g:TG)(tt:TT)(tb:TB):TB:=λσ H Q=>wi σ H λJ H1=>mB J g tt tb σ H1 Q
theorem PC{X:Cx}{wi:TI}{g:TG}{tt:TT}{tb:TB}{p:Addr}{bc:Sem Unit}(hc:X.calm=true)(hx:∀ e s,X.xe e s->False)(h1:gens[d]?=O ⟨tg,iter,ifs,0⟩)
  (htn:∀ it,compTurn (.ListComp elt gens scope pos) d it (.ref p) X.env=cH (.ListComp elt gens scope pos) tg iter.pos ifs d it (.ref p) X.env bc)
  (hi:PI X tg iter wi) (hg:PG X tg g) (ht:Dv X ifs tt) (hb:PB X bc tb) (hs:∀ x,foldedSetIterable iter X.env x=pure x) :
  PB X (zN (.ListComp elt gens scope pos) iter d (.ref p) X.env) (tInB wi g tt tb):=λpins s σ H Q I h=>by
 refine SK (cF (hi pins s σ H _ I h) λx s1 h1'=>SK (Ue ?_))
 rw [hs]
 refine SK (SU (SK (Tu (cF h1' λitv s2 h2=>?_))))
 obtain⟨it,fp,tn,J,H1,e,I2,T,st2,f2,hL⟩:=h2
 subst e
 have loop:=pG (d:=d) hc hx rfl (htn _) hg ht hb T I2 st2 f2 hL
 refine SK (wpAny_runOwn ?_)
 rw [Around.mark_none]
 refine Ug (lB h1 loop (T.self _ 0 _ _ _ st2 loop)) λr s' ⟨σ',H',hr,J',q'⟩=>?_
 subst hr
 exact SU ⟨σ',H',J',q'⟩
end
end L2
namespace M
open L2
noncomputable abbrev MB:=av->aa->Option (List D×av×aa)
noncomputable def sx(e:ME):MB:=λenv S=>(e env S).bind λq=>O ([q.1],env,q.2)
noncomputable def iI(g:MG)(t:MT)(b:MB):List D->av->aa->Option (List D×av×aa)
 | [],env,S=>O ([],env,S)
 | d::ds,env,S=>(g d env S).bind λp=>(t p.1 p.2).bind λk=>if k.1=true then (b p.1 k.2).bind λr=>(iI g t b ds r.2.1 r.2.2).bind λz=>O (r.1++z.1,z.2) else iI g t b ds p.1 k.2
noncomputable def gE(mi:MA)(g:MG)(t:MT)(b:MB):MB:=λenv S=>(mi env S).bind λq=>iI g t b q.1 env q.2
noncomputable def cr(mi:MA)(g:MG)(t:MT)(b:MB)(cap:List (Option Nat)):ME:=λenv S=>(mi env S).bind λp=>(iI g t b p.1 (iX cap env) p.2).bind λq=>if q.1.length<=sizeLine then O (.lst q.1,q.2.2) else U
section
variable{X:Cx}{K:W.Frag}{μ1:Fp}{H1 H:Hp}{p:Addr}{σ:L2.St}{cs:List Addr}{S S':aa}{env env':av}{vs:List V}{zs ds xs:List D}
inductive Nx(K:W.Frag)(m:MB)(p:Addr)(σ:L2.St)(H:Hp)(Q:L2.St->Hp->Prop):Prop
 | mk (μ1:Fp) (H1:Hp) (cs:List Addr) (S:aa) (env:av) (vs:List V) (zs ds:List D) (env':av) (S':aa) (hp:H1 p=U) (c:CpI K μ1 H1 p σ H cs S env vs zs) (h:m env S=O (ds,env',S')) (hz:zs.length+ds.length<=sizeLine)
  (post:∀ σ' H' cs' vs',CpI K μ1 H1 p σ' H' cs' S' env' vs' (zs++ds)->(∀ v d,Rep K ⟨cs,p::μ1.fb⟩ H v d->Rep K ⟨cs',p::μ1.fb⟩ H' v d)->Q σ' H')
theorem OI{e:ME}{Q:L2.St->Hp->Prop}(h:Nx K (sx e) p σ H Q):tEm (tM K e) p σ H Q:=by
 obtain⟨μ1,H1,cs,S,env,vs,zs,ds,env',S',hp,c,hm,hz,post⟩:=h
 obtain⟨⟨d,S1⟩,h1,hm⟩:=SJ.mp hm
 cases hm
 refine⟨_,S,env,d,S1,c.sok,c.eok,h1,λv H5 μ5 e5 s5 r5=>?_⟩
 obtain⟨cs5,fb5⟩:=μ5
 have hfb:fb5=p::μ1.fb:=e5.fb
 subst hfb
 have c5:=c.go e5 s5 (c.eok.mono e5)
 have hv:=c5.rep.length
 simp only [SY,Uk] at hz
 exact⟨vs,c5.lst,by omega,post _ _ cs5 _ (c5.app hp r5) λv d z=>Rep.chg SN (z.mono e5)⟩
theorem ux{g:MG}{t:MT}{b:MB}{J:It}{Q:L2.St->Hp->Prop}(hp:H1 p=U)(c:CpI K μ1 H1 p σ H cs S env vs zs)(hm:iI g t b xs env S=O (ds,env',S'))(hz:zs.length+ds.length<=sizeLine)
  (it:∀ σ' H' cs' S' env' vs' zs',CpI K μ1 H1 p σ' H' cs' S' env' vs' zs'->(∀ v d,Rep K ⟨cs,p::μ1.fb⟩ H v d->Rep K ⟨cs',p::μ1.fb⟩ H' v d)->∀ i,(∀ d,xs[i]?=O d->J.go i H'/\∀ x H2,J.yld i H' x H2->Ext ⟨cs',p::μ1.fb⟩ H' ⟨cs',p::μ1.fb⟩ H2/\SOk K ⟨cs',p::μ1.fb⟩ S' H2/\Rep K ⟨cs',p::μ1.fb⟩ H2 x d)/\(xs.length<=i->J.stop i H'))
  (post:∀ σ' H' cs' vs',CpI K μ1 H1 p σ' H' cs' S' env' vs' (zs++ds)->(∀ v d,Rep K ⟨cs,p::μ1.fb⟩ H v d->Rep K ⟨cs',p::μ1.fb⟩ H' v d)->Q σ' H'):mB J (yh K g) (qv K t) (Nx K b p) σ H Q:=by
 refine⟨λi n σ' H'=>n=xs.length - i/\i<=xs.length/\∃ (cs':List Addr) (S2:aa) (env2:av) (vs':List V) (zs' rest:List D),CpI K μ1 H1 p σ' H' cs' S2 env2 vs' zs'/\(∀ v d,Rep K ⟨cs,p::μ1.fb⟩ H v d->Rep K ⟨cs',p::μ1.fb⟩ H' v d)/\iI g t b (xs.drop i) env2 S2=O (rest,env',S')/\zs++ds=zs'++rest,
  ⟨xs.length,by simp,UA _,cs,S,env,vs,zs,ds,c,λ_ _ z=>z,by rw [UF];exact hm,rfl⟩,?_⟩
 rintro i n σ' H' ⟨rfl,hi,cs',S2,env2,vs',zs',rest,c',rk,hl,hq⟩
 have iti:=it _ _ _ _ _ _ _ c' rk i
 by_cases hlt:i<xs.length
 ·refine .inr ⟨(iti.1 xs[i] (Tb hlt)).1,λx H2 y=>?_⟩
  obtain⟨e2,s2,rx⟩:=(iti.1 xs[i] (Tb hlt)).2 x H2 y
  rw [TW hlt] at hl
  obtain⟨⟨env3,S3⟩,h3,hl⟩:=SJ.mp hl
  obtain⟨⟨k,S4⟩,h4,hl⟩:=SJ.mp hl
  refine⟨_,S2,env2,xs[i],env3,S3,s2,c'.eok.mono e2,rx,h3,λσ3 H3 μ3 e3 s3 r3=>⟨μ3,S3,env3,k,S4,s3,r3,h4,λH4 μ4 e4 s4=>?_⟩⟩
  have eA:=(e2.trans e3).trans e4
  obtain⟨cs4,fb4⟩:=μ4
  have hfb:fb4=p::μ1.fb:=eA.fb
  subst hfb
  have c4:=c'.go eA s4 (r3.mono e4)
  cases k with
  | false=>
   rw [Ts SZ] at hl
   dsimp only
   rw [Ts SZ]
   exact⟨xs.length - (i+1),by omega,rfl,hlt,cs4,S4,env3,vs',zs',rest,c4,λv d z=>(rk v d z).mono eA,hl,hq⟩
  | true=>
   rw [Td rfl] at hl
   dsimp only
   rw [Td rfl]
   obtain⟨⟨ws,env5,S5⟩,h5,hl⟩:=SJ.mp hl
   obtain⟨⟨rs,q6⟩,h6,hl⟩:=SJ.mp hl
   cases hl
   have hlen:=congrArg List.length hq
   simp only [Tl] at hlen
   refine⟨μ1,H1,cs4,S4,env3,vs',zs',ws,env5,S5,hp,c4,h5,by omega,λσ5 H5 cs5 vs5 c5 k5=>?_⟩
   exact⟨xs.length - (i+1),by omega,rfl,hlt,cs5,S5,env5,vs5,zs'++ws,rs,c5,λv d z=>k5 v d ((rk v d z).mono eA),h6,by rw [hq,TN]⟩
 ·have e:i=xs.length:=by omega
  subst e
  refine .inl ⟨iti.2 (SS _),?_⟩
  rw [UT] at hl
  cases hl
  rw [Tx] at hq
  subst hq
  exact post _ _ _ _ c' rk
theorem Km{mi:MA}{g:MG}{t:MT}{b:MB}{Q:L2.St->Hp->Prop}(h:Nx K (gE mi g t b) p σ H Q):tInB (iMs K mi) (yh K g) (qv K t) (Nx K b p) σ H Q:=by
 obtain⟨μ1,H1,cs,S,env,vs,zs,ds,env',S',hp,c,hm,hz,post⟩:=h
 obtain⟨⟨us,S5⟩,h5,hm⟩:=SJ.mp hm
 refine⟨_,S,env,us,S5,c.sok,c.eok,h5,λJ2 H5 μ5 e5 s5 it2=>?_⟩
 obtain⟨cs5,fb5⟩:=μ5
 have hfb:fb5=p::μ1.fb:=e5.fb
 subst hfb
 exact ux hp (c.go e5 s5 (c.eok.mono e5)) hm hz (λσ' H' cs' S' env' vs' zs' c' rk i=>it2 _ _ rk _ H' S' c'.sok.ext.toP c'.sok i) λσ' H' cs' vs' c' rk=>post _ _ _ _ c' λv d z=>rk v d (z.mono e5)
theorem uy{mi:MA}{g:MG}{t:MT}{b:MB}{cap:List (Option Nat)}{Q:VK}(h:tM K (cr mi g t b cap) σ H Q):oF (iM K mi) (yh K g) (qv K t) (Nx K b) cap σ H Q:=by
 obtain⟨μ,S,env,d,S9,hS,hE,hm,post⟩:=h
 obtain⟨⟨xs,S1⟩,h1,hm⟩:=SJ.mp hm
 obtain⟨⟨ys,env2,S2⟩,h2,hm⟩:=SJ.mp hm
 dsimp only at hm
 split at hm
 case isFalse=>cases hm
 rename_i hsz
 cases hm
 refine⟨μ,S,env,xs,S1,hS,hE,h1,λJ H1 μ1 e1 s1 it p hp=>?_⟩
 have hpn:=s1.notMem hp
 refine ux (μ1:=μ1) (H1:=H1) (cs:=μ1.cs) (zs:=[]) (vs:=[]) hp ⟨?_,s1.more hp,((hE.mono e1).block cap).more hp,aC,.nil⟩ h2 (by simpa using hsz) (λσ' H' cs' S' env' vs' zs' c' _ i=>it _ H' S' c'.ext c'.sok i) λσ' H' cs' vs' c' _=>?_
 ·exact⟨⟨[p],rfl,λa z=>by rw [Tg.mp z];exact hp⟩,⟨[],by simp,λ_ z=>by simp at z⟩,λa o' n h=>by rw [aD (bn h hp)];exact h,λa ha=>by
   by_cases z:a=p
   ·subst z;rw [aC];simp
   ·rw [aD z];exact s1.dom a ha⟩
 ·have eF:Ext μ1 H1 ⟨cs',μ1.fb⟩ H':=⟨rfl,c'.ext.pre,c'.ext.keep,c'.ext.dom⟩
  exact post _ H' ⟨cs',μ1.fb⟩ (e1.trans eF) c'.sok.less (.lst c'.lst ⟨λz=>c'.sok.disj p SN z,hpn.2⟩ (by simpa using c'.rep.less))
end
noncomputable def Ou(X:Cx)(bc:Sem Unit)(p:Addr)(b:MB):Prop:=PB X bc (Nx X.K b p)
section
variable{X:Cx}{elt tg iter:Expr}{gens:List Comprehension}{ifs:List Expr}{scope:Scope}{pos:Pos}{d:Nat}{mi:MA}{g:MG}{t:MT}{b:MB}{e:ME}{p:Addr}{bc:Sem Unit}
theorem Nb(he:DE X elt e):Ou X (pB elt (.ref p) X.env) p (sx e):=PB.imp (qL he) λ_ _ _ h=>OI h
theorem db_in(hc:X.calm=true)(hx:∀ e s,X.xe e s->False)(h1:gens[d]?=O ⟨tg,iter,ifs,0⟩)(htn:∀ it,compTurn (.ListComp elt gens scope pos) d it (.ref p) X.env=cH (.ListComp elt gens scope pos) tg iter.pos ifs d it (.ref p) X.env bc)
  (hi:Nt X tg iter mi) (hg:DG X tg g) (ht:Ax X ifs t) (hb:Ou X bc p b) (hs:∀ x,foldedSetIterable iter X.env x=pure x):Ou X (zN (.ListComp elt gens scope pos) iter d (.ref p) X.env) p (gE mi g t b):=
 PB.imp (PC hc hx h1 htn hi hg ht hb hs) λ_ _ _ h=>Km h
end
section
variable{X:Cx}{elt tg iter:Expr}{ifs:List Expr}{rest:List Comprehension}{scope:Scope}{pos spos py:Pos}{N':List Str}{cap:List (Option Nat)}{mi:MA}{g:MG}{t:MT}{b:MB}{y:Str}{i:Nat}{bc:Value->Env->Sem Unit}
theorem JC(hc:X.calm=true)(B:BlockOk X N' scope cap)(hi:DI X tg iter mi)(hg:∀ C s H fp,DG (fU X N' scope C s H fp) tg g)(ht:∀ C s H fp,Ax (fU X N' scope C s H fp) ifs t)
  (htn:∀ it acc env,compTurn (.ListComp elt (⟨tg,iter,ifs,0⟩::rest) scope pos) 0 it acc env=cH (.ListComp elt (⟨tg,iter,ifs,0⟩::rest) scope pos) tg iter.pos ifs 0 it acc env (bc acc env))
  (hb:∀ C s H fp p,Ou (fU X N' scope C s H fp) (bc (.ref p) (fU X N' scope C s H fp).env) p b)
  (hs:∀ x,foldedSetIterable iter X.env x=pure x):DE X (.ListComp elt (⟨tg,iter,ifs,0⟩::rest) scope pos) (cr mi g t b cap):=
 PE.imp (rP (g:=yh X.K g) (tt:=qv X.K t) (tb:=Nx X.K b) hc B hi hg ht htn hb hs) λ_ _ _ h=>uy h
theorem Ad(hN:X.N.Nodup)(hy:X.N[i]?=O y)(hx:JZ X.env.scope y)(hc:X.calm=true)(B:BlockOk X N' scope cap)(hi:DI X tg iter mi)(hg:∀ C s H fp,DG (fU X N' scope C s H fp) tg g)(ht:∀ C s H fp,Ax (fU X N' scope C s H fp) ifs t)
  (htn:∀ it acc env,compTurn (.ListComp elt (⟨tg,iter,ifs,0⟩::rest) scope pos) 0 it acc env=cH (.ListComp elt (⟨tg,iter,ifs,0⟩::rest) scope pos) tg iter.pos ifs 0 it acc env (bc acc env))
  (hb:∀ C s H fp p,Ou (fU X N' scope C s H fp) (bc (.ref p) (fU X N' scope C s H fp).env) p b)
  (hsw:swapsWith (.ListComp elt (⟨tg,iter,ifs,0⟩::rest) scope pos) (O (.Name y py)) spos.line X.env=pure true)
  (hs:∀ x,foldedSetIterable iter X.env x=pure x) (hf:X.fn y=true\/X.env.scope.names.lookup y=O .local) :
  DS X (.Assign [.Name y py] (.ListComp elt (⟨tg,iter,ifs,0⟩::rest) scope pos) spos) (aE (cr mi g t b cap) (ah i)):=
 PS.imp (kZ (g:=yh X.K g) (tt:=qv X.K t) (tb:=Nx X.K b) hN hy hx hc B hi hg ht htn hb hsw hs hf) λE σ H h=>by
  obtain⟨μ,S,env,o,hS,hE,hm,post⟩:=h
  obtain⟨⟨d,S1⟩,h1,hm⟩:=SJ.mp hm
  cases hm
  exact uy ⟨μ,S,env,d,S1,hS,hE,h1,λv H1 μ1 e1 s1 r1=>post _ H1 μ1 e1 s1 ((hE.mono e1).set r1 i)⟩
end
end M
namespace L2
section
variable{prog:Program}{w:World}{A:Around}{R:Result->Shared->Prop}{s:Shared}
theorem kR{e kx vx tg:Expr}{gens:List Comprehension}{scope:Scope}{pos p0:Pos}{ifs:List Expr}{d:Nat}{it acc:Value}{env:Env}{bc:Sem Unit}(he:e=.DictComp kx vx gens scope pos)(htn:compTurn e d it acc env=cH e tg p0 ifs d it acc env bc)(I:Nat->Shared->Prop)
  (turn:∀ n s,I n s->wpAny (model prog w) A (pyNext it) (λr s₁=>match r with
   | none=>R (.ok .next) s₁
   | some v=>wpAny (model prog w) A (letOwnedTupleGo tg it v) (λ_ s₁'=>wpAny (model prog w) A (assign tg env v) (λ_ s₂=>
     wpAny (model prog w) A (forIn ifs true λc r=>if r=true then do let ok <- isTrue c env (eval c env);pure (ForInStep.yield ok) else pure (ForInStep.yield r)) (λok s₃=>
      if ok=true then wpAny (model prog w) A bc (λ_ s₅=>∃ m,m<n/\I m s₅) (λ_ _=>False) s₃
      else ∃ m,m<n/\I m s₃) (λ_ _=>False) s₂) (λ_ _=>False) s₁') (λ_ _=>False) s₁) (λ_ _=>False) s)
  (n:Nat) (h:I n s) :
  codeAny (model prog w) A (.compLoop e d it acc env) R s:=by
 refine codeAny_loop rfl I (λn s hI=>?_) n h
 subst he
 show wpAny _ A ((compTurn (.DictComp kx vx gens scope pos) d it acc env).onRaise (λx=>do noteFrame x env;theTreesLotGoes x)) _ _ s
 refine wpAny_noted ?_
 rw [htn]
 refine SK (Ue (SK (Tp (turn n s hI) (λr s₁ h₁=>?_) λ_ _ h'=>h'.elim)))
 cases r with
 | none=>exact SU h₁
 | some v=>
  refine SK (Tp h₁ (λ_ s₁' h₁'=>?_) λ_ _ h'=>h'.elim)
  refine SK (Tp h₁' (λ_ s₂ h₂=>SK (Tp h₂ (λok s₃ h₃=>?_) λ_ _ h'=>h'.elim)) λ_ _ h'=>h'.elim)
  cases ok with
  | false=>exact SU ⟨rfl,h₃⟩
  | true=>exact SK (Tp h₃ (λ_ s₅ h₅=>SU ⟨rfl,h₅⟩) λ_ _ h'=>h'.elim)
end
theorem BX{X:Cx}{e kx vx tg:Expr}{gens:List Comprehension}{scope:Scope}{pos p0:Pos}{ifs:List Expr}{d:Nat}{acc:Value}{bc:Sem Unit}{g:TG}{tt:TT}{tb:TB}{it:Addr}{fp:List Addr}{tn:Nat->Heap->Prop}{J:It}
  (hc:X.calm=true) (hx:∀ e s,X.xe e s->False) (hl:e=.DictComp kx vx gens scope pos) (htn:compTurn e d (.ref it) acc X.env=cH e tg p0 ifs d (.ref it) acc X.env bc) (hg:PG X tg g) (ht:Dv X ifs tt) (hb:PB X bc tb) (T:um X.prog X.w X.K tg J fp it tn)
  {pins:List (Addr×Obj)} {s:Shared} {σ:St} {H:Hp} {Q:St->Hp->Prop} (I:Inv X pins σ H s) (st:tn 0 s.heap) (f2:∀ b∈fp,lV X pins H b) (h:mB J g tt tb σ H Q) :
  codeAny (model X.prog X.w) X.A (.compLoop e d (.ref it) acc X.env) (λr s'=>∃ σ' H',r=.ok .next/\Inv X pins σ' H' s'/\Q σ' H') s:=by
 obtain⟨W,⟨m0,w0⟩,turn⟩:=h
 have no:∀ e s,X.xe e s->(λ(_:Value) (_:Shared)=>False) e s:=hx
 have stat:∀ {H':Hp},(∀ b∈fp,H' b=U)->∀ b∈fp,lV X pins H' b:=λhn b hb=>⟨hn b hb,(f2 b hb).2⟩
 refine kR hl htn (λn s'=>∃ i σ' H',Inv X pins σ' H' s'/\tn i s'.heap/\(∀ b∈fp,H' b=U)/\W i n σ' H') ?_ m0 ⟨0,_,_,I,st,λb hb=>(f2 b hb).1,w0⟩
 rintro n s3 ⟨i,σ3,H3,J3,st3,fr3,w3⟩
 rcases turn i n σ3 H3 w3 with ⟨stop,qn⟩ | ⟨go,step⟩
 ·refine cF (T.done X rfl rfl rfl hc i pins s3 σ3 H3 _ J3 (stat fr3) st3 stop) λr s4 ⟨hr,J4⟩=>?_
  subst hr
  exact⟨σ3,H3,rfl,J4,qn⟩
 ·refine cF (T.item X rfl rfl rfl hc i pins s3 σ3 H3 _ J3 (stat fr3) st3 go) λr s4 ⟨u,hr,h4⟩=>?_
  subst hr
  refine cF h4 λ_ s5 ⟨x,H5,J5,r5,y5,st5,fr5⟩=>?_
  have J5':=J5.pinned (stat fr5) (T.obj _ _ st5)
  refine Tp (hg _ s5 σ3 H5 x u _ J5' r5 (step x H5 y5)) (λ_ s6 ⟨σ6,H6,J6,q6⟩=>?_) no
  refine Tp (ht _ s6 σ6 H6 _ J6 q6) (λok s7 ⟨H7,J7,q7⟩=>?_) no
  have again:∀ {s':Shared} {σ7:St} {H7:Hp},Inv X (pins++oN fp s5.heap) σ7 H7 s'->(∃ m',m'<n/\W (i+1) m' σ7 H7)->∃ m,m<n/\∃ i σ' H',Inv X pins σ' H' s'/\tn i s'.heap/\(∀ b∈fp,H' b=U)/\W i m σ' H':=λ{s' σ7 H7} J7 n7=>by
   obtain⟨m',hm,w7⟩:=n7
   refine⟨m',hm,i+1,σ7,H7,J7.unpinned,T.keep _ _ _ st5 λb hb o e=>(J7.pin (b,o) (Tt _ (Tt _ (gA hb e)))).1,λb hb=>?_,w7⟩
   obtain⟨o,e,d⟩:=T.obj _ _ st5 b hb
   exact(J7.pin (b,o) (Tt _ (Tt _ (gA hb e)))).2.1
  cases ok with
  | false=>
   rw [Ts SZ] at q7 ⊢
   exact again J7 q7
  | true=>
   rw [Td rfl] at q7 ⊢
   exact Tp (hb _ s7 σ6 H7 _ J7 q7) (λ_ s9 ⟨σ9,H9,J9,q9⟩=>again J9 q9) no
noncomputable def wa(wi:TI)(g:TG)(tt:TT)(tb:Addr->TB)(cap:List (Option Nat)):TE:=λσ H Q=>wi σ H λJ H1=>∀ p,H1 p=U->mB J g tt (tb p) (σB cap σ) (upd H1 p (.dK [])) λ_ H'=>Q (.ref p) H'
theorem Am{X:Cx}{kx vx iter tg:Expr}{ifs:List Expr}{rest:List Comprehension}{scope:Scope}{pos:Pos}{N':List Str}{cap:List (Option Nat)}{wi:TI}{g:TG}{tt:TT}{tb:Addr->TB}{bc:Value->Env->Sem Unit}
  (hc:X.calm=true) (B:BlockOk X N' scope cap) (hi:PI X tg iter wi) (hg:∀ C s H fp,PG (fU X N' scope C s H fp) tg g) (ht:∀ C s H fp,Dv (fU X N' scope C s H fp) ifs tt)
  (htn:∀ it acc env,compTurn (.DictComp kx vx (⟨tg,iter,ifs,0⟩::rest) scope pos) 0 it acc env=cH (.DictComp kx vx (⟨tg,iter,ifs,0⟩::rest) scope pos) tg iter.pos ifs 0 it acc env (bc acc env))
  (hb:∀ C s H fp p,PB (fU X N' scope C s H fp) (bc (.ref p) (fU X N' scope C s H fp).env) (tb p))
  {pins:List (Addr×Obj)} {s:Shared} {σ:St} {H:Hp} {Q:VK} (I:Inv X pins σ H s) (h:wa wi g tt tb cap σ H Q) {E:Value->Shared->Prop} (hE:∀ e s,X.xe e s->E e s) :
  wpAny (model X.prog X.w) X.A (eval iter X.env) (λx s₁=>wpAny (model X.prog X.w) X.A (pyIter x) (λit s₂=>wpAny (model X.prog X.w) X.A (newDict) (λacc s₃=>
   wpAny (model X.prog X.w) X.A (newFunctionEnv scope X.env.globals (kg X.env.cells scope.names []) [] X.env.qual U .none (O X.env)) (λcenv s₄=>
    codeAny (model X.prog X.w) X.A (.compStart (.DictComp kx vx (⟨tg,iter,ifs,0⟩::rest) scope pos) 0 it acc { cenv with scope:=relabel scope X.env }) (Behind X pins σ Q acc cenv.locals) s₄) E s₃) E s₂) E s₁) E s:=by
 refine Tp (hi pins s σ H _ I h) (λv s1 h1=>Tp h1 (λitv s2 h2=>?_) hE) hE
 obtain⟨it,fp,tn,J,H1,e,I2,T,st2,f2,hW⟩:=h2
 subst e
 refine TL (Xc B.nocell (by intro y hy;simp at hy) (λh₁ hns₁ hsb₁=>?_) B.kind)
 dsimp only at hns₁ hsb₁ ⊢
 have hp1:H1 s2.heap.objs.size=U:=I2.hok.fresh (SS _)
 have hL:=hW s2.heap.objs.size hp1
 have I3:Inv X pins σ (upd H1 s2.heap.objs.size (.dK [])) { s2 with heap:=s2.heap.push { cls:=.type "dict",data:=.dict #[] },toks:=s2.toks }:=
  I2.laid (λb o e=>SL _ e) (SS _) (tK s2.heap I2.big)
 generalize hH2:s2.heap.push { cls:=.type "dict",data:=.dict #[] } = H2 at hns₁ hsb₁ I3 ⊢
 have hC:H2.objs.size=s2.heap.objs.size+1:=by rw [<- hH2,TZ]
 have ltfp:∀ b∈fp,b<s2.heap.objs.size:=λb hb=>by
  obtain⟨o,e,_⟩:=T.obj _ _ st2 b hb
  exact SV e
 have hf3:∀ b∈fp,lV X pins (upd H1 s2.heap.objs.size (.dK [])) b/\b<H2.objs.size:=λb hb=>by
  obtain⟨a0,a⟩:=f2 b hb
  refine⟨⟨?_,a⟩,by rw [hC];exact Vz (ltfp b hb)⟩
  rw [aD (Tk (ltfp b hb))];exact a0
 have up:∀ b o,H2.get? b=O o->h₁.get? b=O o:=λb o e=>hsb₁.extBut b o (Tk (SV e)) (SL _ e)
 have I4:=I3.block (C:=H2.objs.size) (fp:=fp) (h4:=h₁) (tk:=s2.toks+([]:List (Str×Value)).length) B hf3 (SS _) up hns₁
 have st4:tn 0 h₁:=T.keep _ _ _ st2 λb hb o e=>up b o (by rw [<- hH2];exact SL _ e)
 have loop:codeAny (model X.prog X.w) X.A (.compLoop (.DictComp kx vx (⟨tg,iter,ifs,0⟩::rest) scope pos) 0 (.ref it) (.ref s2.heap.objs.size) (compEnvC scope (kg X.env.cells scope.names []) H2.objs.size X.env))
    (Behind X pins σ Q (.ref s2.heap.objs.size) H2.objs.size) { s2 with heap:=h₁,toks:=s2.toks+([]:List (Str×Value)).length }:=by
  refine Ug (BX (X:=fU X N' scope H2.objs.size { s2 with heap:=H2,toks:=s2.toks } (upd H1 s2.heap.objs.size (.dK [])) fp) hc (λ_ _ z=>z) rfl (htn _ _ _) (hg _ _ _ _) (ht _ _ _ _) (hb _ _ _ _ _) T I4 st4 (λb hb=>?_) hL) λr s4 ⟨σ4,H4,hr,J4,qn⟩=>?_
  ·obtain⟨h0,h1,h2,h3,h4',h5⟩:=(hf3 b hb).1
   exact⟨h0,Tk (hf3 b hb).2,I3.notStk h1 h2,.inl hb,λx c e=>h4' x c (B.cl I3.ok x c e),λp hp=>absurd (show p∈([]:List (Addr×Obj)) from hp) (by simp)⟩
  ·obtain⟨m,hm,_⟩:=J4.loc
   have IX:=I3.unblock (λb hb=>(hf3 b hb).1) J4
   refine⟨_,H4,m,hr,rfl,IX,qn,hm,J4.free,?_,?_,λx c e z=>?_,λq hq z=>?_⟩
   ·exact Ne.symm (Tk I3.lt)
   ·exact I3.sz
   ·obtain⟨v,q⟩:=I3.cell x c e
    exact absurd q.lt (by rw [z];exact Uf _)
   ·exact absurd (SV (I3.pin q hq).1) (by rw [z];exact Uf _)
 exact codeAny_compStart_dict loop (T.self _ 0 _ _ _ st4 loop)
theorem DX{X:Cx}{kx vx iter tg:Expr}{ifs:List Expr}{rest:List Comprehension}{scope:Scope}{pos:Pos}{N':List Str}{cap:List (Option Nat)}{wi:TI}{g:TG}{tt:TT}{tb:Addr->TB}{bc:Value->Env->Sem Unit}
  (hc:X.calm=true) (B:BlockOk X N' scope cap) (hi:PI X tg iter wi) (hg:∀ C s H fp,PG (fU X N' scope C s H fp) tg g) (ht:∀ C s H fp,Dv (fU X N' scope C s H fp) ifs tt) (htn:∀ it acc env,compTurn (.DictComp kx vx (⟨tg,iter,ifs,0⟩::rest) scope pos) 0 it acc env=cH (.DictComp kx vx (⟨tg,iter,ifs,0⟩::rest) scope pos) tg iter.pos ifs 0 it acc env (bc acc env))
  (hb:∀ C s H fp p,PB (fU X N' scope C s H fp) (bc (.ref p) (fU X N' scope C s H fp).env) (tb p))
  (hs:∀ x,foldedSetIterable iter X.env x=pure x:=by intro _;rfl):PE X (.DictComp kx vx (⟨tg,iter,ifs,0⟩::rest) scope pos) (wa wi g tt tb cap):=by
 intro pins s σ H Q I h
 rw [arm_eval_DictComp]
 refine Vx (use:=U) rfl hs (ji (B.cells I.ok)) B.kind B.names ?_
 refine Tp (Am hc B hi hg ht htn hb I h λ_ _ x=>x) (λx s1 h1=>Tp h1 (λit s2 h2=>Tp h2 (λacc s3 h3=>Tp h3 (λcenv s4 h4=>Ug h4 λr s' hr=>?_) λ_ _ x=>x) λ_ _ x=>x) λ_ _ x=>x) λ_ _ x=>x
 obtain⟨p,Hf,m,rfl,rfl,J,q,hn,c1,c2,c3,c4,c5⟩:=hr
 exact⟨m,hn,λh' sb=>⟨_,Hf,J.turned (t':=s'.toks) (λb o hb e=>(sb.2 b hb).trans e) c1 c2 (.inr c3) c4 c5,(show RelV (.ref p) (.ref p) from rfl),q⟩⟩
noncomputable def Oj(kx vx:Expr)(acc:Value)(env:Env):Sem Unit:=do
 let kv <- eval kx env
 let vv <- holding [kv] (eval vx env)
 match acc with
 | .ref d=>do
  standAt { kx.pos with endLine:=vx.pos.endLine,endCol:=vx.pos.endCol }
  holding [kv,vv] (dictSet d kv vv)
 | _=>unsupported "internal:dictcomp"
theorem tQ(kx vx tg iter:Expr)(ifs:List Expr)(scope:Scope)(pos:Pos)(it acc:Value)(env:Env) :
  compTurn (.DictComp kx vx [⟨tg,iter,ifs,0⟩] scope pos) 0 it acc env=cH (.DictComp kx vx [⟨tg,iter,ifs,0⟩] scope pos) tg iter.pos ifs 0 it acc env (Oj kx vx acc env):=rfl
noncomputable def OJ(tk tv:TE)(p:Addr):TB:=λσ H Q=>tk σ H λx H1=>tv σ H1 λy H2=>∃ kvs k,x=kV k/\H2 p=O (.dK kvs)/\kvs.length<sizeLine/\Q σ (upd H2 p (.dK (oM kvs k y)))
theorem GT{X:Cx}{kx vx:Expr}{tk tv:TE}{p:Addr}(hk:PE X kx tk)(hv:PE X vx tv):PB X (Oj kx vx (.ref p) X.env) (OJ tk tv p):=λpins s σ H Q I h=>by
 refine SK (cF (hk pins s σ H _ I h) λkv s1 ⟨x,H1,I1,r1,q1⟩=>SK (Tu (cF (hv pins s1 σ H1 _ I1 q1) λvv s2 ⟨y,H2,I2,r2,q2⟩=>?_)))
 obtain⟨kvs,k,rfl,e,l,q⟩:=q2
 refine SK (Ue (Tu ?_))
 obtain⟨z,hd,vs,rel,dd⟩:=Om I2.hok e
 have hz:vs.length<=sizeLine:=by rw [<- rel.length];exact z
 have hl:(oM kvs k y).length<=sizeLine:=by have:=pS kvs k y;omega
 refine wpAny_dictSet_pairs (hsz:=hz) (lh r1) dd λh' dd' hs=>?_
 have he:∃ q,h'.get? p=O q:=let ⟨q,_,_,hq,_⟩:=dd';⟨q,hq⟩
 exact⟨σ,_,Dr I2 (by rw [e];exact True.intro) hs he (Jk hl hd (rel.put k r2) dd'),q⟩
end L2
namespace M
open L2
noncomputable def mJ(g:MG)(t:MT)(kx vx:ME):List D->av->aa->List (ba×D)->Option (List (ba×D)×aa)
 | [],_,S,kvs=>O (kvs,S)
 | d::ds,env,S,kvs=>(g d env S).bind λp=>(t p.1 p.2).bind λb=>if b.1=true then (kx p.1 b.2).bind λk=>(vx p.1 k.2).bind λv=>(eD k.1).bind λkey=>if kvs.length<sizeLine then mJ g t kx vx ds p.1 v.2 (ua kvs key v.1) else U else mJ g t kx vx ds p.1 b.2 kvs
noncomputable def dc(mi:MA)(g:MG)(t:MT)(kx vx:ME)(cap:List (Option Nat)):ME:=λenv S=>(mi env S).bind λp=>(mJ g t kx vx p.1 (iX cap env) p.2 []).bind λq=>O (.dct (q.1.map (·.1)) (q.1.map (·.2)),q.2)
section
variable{X:Cx}{K:W.Frag}
structure CpD(K:W.Frag)(μ1:Fp)(H1:Hp)(p:Addr)(σ:L2.St)(H:Hp)(cs:List Addr)(S:aa)(env:av)(vs:List (ba×V))(zs:List (ba×D)):Prop where
 ext:ExtP μ1 H1 ⟨cs,p::μ1.fb⟩ H
 sok:SOk K ⟨cs,p::μ1.fb⟩ S H
 eok:EOk K ⟨cs,p::μ1.fb⟩ H σ env
 dct:H p=O (.dK vs)
 rep:KR K ⟨cs,p::μ1.fb⟩ H vs zs
theorem CpD.go{μ1:Fp}{H1 H H':Hp}{p:Addr}{σ σ':L2.St}{cs cs':List Addr}{S S':aa}{env env':av}{vs:List (ba×V)}{zs:List (ba×D)}(c:CpD K μ1 H1 p σ H cs S env vs zs)(e:Ext ⟨cs,p::μ1.fb⟩ H ⟨cs',p::μ1.fb⟩ H')(s:SOk K ⟨cs',p::μ1.fb⟩ S' H')(r:EOk K ⟨cs',p::μ1.fb⟩ H' σ' env'):CpD K μ1 H1 p σ' H' cs' S' env' vs zs:=
 ⟨c.ext.then e,s,r,(e.keeps c.dct λz=>c.sok.disj p SN z).1,c.rep.mono e⟩
theorem DJ{mi:MA}{g:MG}{t:MT}{kx vx:ME}{cap:List (Option Nat)}{σ:L2.St}{H:Hp}{Q:VK}(h:tM K (dc mi g t kx vx cap) σ H Q):wa (iM K mi) (yh K g) (qv K t) (OJ (tM K kx) (tM K vx)) cap σ H Q:=by
 obtain⟨μ,S,env,d,S9,hS,hE,hm,post⟩:=h
 obtain⟨⟨xs,S1⟩,h1,hm⟩:=SJ.mp hm
 obtain⟨⟨ys,S2⟩,h2,hm⟩:=SJ.mp hm
 cases hm
 refine⟨μ,S,env,xs,S1,hS,hE,h1,λJ H1 μ1 e1 s1 it p hp=>?_⟩
 have hpn:=s1.notMem hp
 refine⟨λi n σ' H'=>n=xs.length - i/\i<=xs.length/\∃ (cs:List Addr) (S':aa) (env':av) (vs:List (ba×V)) (zs:List (ba×D)),CpD K μ1 H1 p σ' H' cs S' env' vs zs/\mJ g t kx vx (xs.drop i) env' S' zs=O (ys,S2),
  ⟨xs.length,by simp,UA _,μ1.cs,S1,iX cap env,[],[],⟨?_,s1.more hp,((hE.mono e1).block cap).more hp,aC,.nil⟩,by rw [UF];exact h2⟩,?_⟩
 ·exact⟨⟨[p],rfl,λa z=>by rw [Tg.mp z];exact hp⟩,⟨[],by simp,λ_ z=>by simp at z⟩,λa o' n h=>by rw [aD (bn h hp)];exact h,λa ha=>by
   by_cases z:a=p
   ·subst z;rw [aC];simp
   ·rw [aD z];exact s1.dom a ha⟩
 rintro i n σ' H' ⟨rfl,hi,cs,S',env',vs,zs,c,hl⟩
 have iti:=it _ H' S' c.ext c.sok i
 by_cases hlt:i<xs.length
 ·refine .inr ⟨(iti.1 xs[i] (Tb hlt)).1,λx H2 y=>?_⟩
  obtain⟨e2,s2,rx⟩:=(iti.1 xs[i] (Tb hlt)).2 x H2 y
  rw [TW hlt] at hl
  obtain⟨⟨env3,S3⟩,h3,hl⟩:=SJ.mp hl
  obtain⟨⟨b,S4⟩,h4,hl⟩:=SJ.mp hl
  refine⟨_,S',env',xs[i],env3,S3,s2,c.eok.mono e2,rx,h3,λσ3 H3 μ3 e3 s3 r3=>⟨μ3,S3,env3,b,S4,s3,r3,h4,λH4 μ4 e4 s4=>?_⟩⟩
  have eA:=(e2.trans e3).trans e4
  obtain⟨cs4,fb4⟩:=μ4
  have hfb:fb4=p::μ1.fb:=eA.fb
  subst hfb
  have c4:=c.go eA s4 (r3.mono e4)
  cases b with
  | false=>
   rw [Ts SZ] at hl
   dsimp only
   rw [Ts SZ]
   exact⟨xs.length - (i+1),by omega,rfl,hlt,cs4,S4,env3,vs,zs,c4,hl⟩
  | true=>
   rw [Td rfl] at hl
   dsimp only
   rw [Td rfl]
   obtain⟨⟨kd,S5⟩,h5,hl⟩:=SJ.mp hl
   obtain⟨⟨vd,S6⟩,h6,hl⟩:=SJ.mp hl
   obtain⟨key,h7,hl⟩:=SJ.mp hl
   dsimp only at hl
   split at hl
   case isFalse=>cases hl
   rename_i hz
   refine⟨_,S4,env3,kd,S5,s4,c4.eok,h5,λkv H5 μ5 e5 s5 r5=>⟨μ5,S5,env3,vd,S6,s5,c4.eok.mono e5,h6,λvv H6 μ6 e6 s6 r6=>?_⟩⟩
   have eB:=e5.trans e6
   obtain⟨cs6,fb6⟩:=μ6
   have hfb:fb6=p::μ1.fb:=eB.fb
   subst hfb
   have c6:=c4.go eB s6 (c4.eok.mono eB)
   refine⟨vs,key,fM h7 r5,c6.dct,by rw [c6.rep.length];exact hz,xs.length - (i+1),by omega,rfl,hlt,cs6,S6,env3,oM vs key vv,ua zs key vd,⟨c6.ext.chg hp,c6.sok.chg SN,c6.eok.chg SN,aC,(KR.put r6 c6.rep).chg SN⟩,hl⟩
 ·have e:i=xs.length:=by omega
  subst e
  refine .inl ⟨iti.2 (SS _),?_⟩
  rw [UT] at hl
  cases hl
  have eF:Ext μ1 H1 ⟨cs,μ1.fb⟩ H':=⟨rfl,c.ext.pre,c.ext.keep,c.ext.dom⟩
  refine post _ H' ⟨cs,μ1.fb⟩ (e1.trans eF) c.sok.less ?_
  rw [<- c.rep.keys]
  exact .dct c.dct ⟨λz=>c.sok.disj p SN z,hpn.2⟩ c.rep.less.reps
variable{kx vx tg iter:Expr}{ifs:List Expr}{scope:Scope}{pos:Pos}{N':List Str}{cap:List (Option Nat)}{mi:MA}{g:MG}{t:MT}{mk mv:ME}
theorem JB(hc:X.calm=true)(B:BlockOk X N' scope cap)(hi:DI X tg iter mi)(hg:∀ C s H fp,DG (fU X N' scope C s H fp) tg g)(ht:∀ C s H fp,Ax (fU X N' scope C s H fp) ifs t)
  (hk:∀ C s H fp,DE (fU X N' scope C s H fp) kx mk) (hv:∀ C s H fp,DE (fU X N' scope C s H fp) vx mv)
  (hs:∀ x,foldedSetIterable iter X.env x=pure x):DE X (.DictComp kx vx [⟨tg,iter,ifs,0⟩] scope pos) (dc mi g t mk mv cap):=
 PE.imp (DX (g:=yh X.K g) (tt:=qv X.K t) (tb:=OJ (tM X.K mk) (tM X.K mv)) hc B hi hg ht (λ_ _ _=>tQ ..) (λC s H fp p=>GT (hk C s H fp) (hv C s H fp)) hs) λ_ _ _ h=>DJ h
end
end M
namespace L2
open PySem PySem.Spec PyProof.Rows Builtin Builtin.Str
section
variable{X:Cx}
theorem ur:∀ (tk:Nat) (xs:List Str),Vals (xs.map V.str) (strsFrom tk xs)
 | _,[]=>.nil
 | tk,x::r=>.cons ⟨tk,rfl⟩ (ur (tk+1) r)
noncomputable def Pb:V->List V->Hp->VK->Prop:=λx xs H Q=>∃ z y,x=.str z/\xs=[.str y]/\(y.length == 0)=false/\z.length<=1000000/\∀ p,H p=U->Q (.ref p) (upd H p (.lst ((Txt.split z y).map V.str)))
theorem Ha:MtR X "str.split" Pb:=by
 intro pins s σ H x vs v us Q I rx rv h
 obtain⟨z,y,rfl,rfl,hy,hz,q⟩:=h
 obtain⟨t,rfl⟩:=rx
 obtain⟨u,rfl,hu⟩:=gM rv
 obtain⟨t2,rfl⟩:=hu
 have hs:z.length<=sizeLine:=Th hz (by decide)
 have hn:(partsBetween z (occurrences z y 0 z.length (z.length+1)) y.length).length<=sizeLine:=by
  rw [len_partsBetween]
  have:=StrLaws.occ_length_le_len z y 0 z.length (z.length+1)
  exact Th (show _<=1000002 by omega) (by decide)
 have q':=q _ (I.hok.fresh (SS _))
 have one:Txt.split z y=[z]->EP X pins σ Q (.ref s.heap.objs.size) { s with heap:=s.heap.push { cls:=.type "list",data:=.seq [Value.str z t].toArray } }:=λe=>by
  rw [e] at q'
  exact⟨.ref _,_,I.laid (t':=s.toks) (o:=.lst [V.str z]) (λb ob q=>SL _ q) (SS _) ⟨by show 1<=sizeLine;decide,_,0,.cons ⟨t,rfl⟩ .nil,SW _ rfl⟩,rfl,q'⟩
 cases h1:(decide (z.length<y.length)||decide (strKind z<strKind y))
 ·cases hf:(occurrences z y 0 z.length (z.length+1)).isEmpty
  ·refine UM VH (Wb _ _ _) Wi (Wa _ _) (meets_str_split_sep z y t t2 h1 hy hf hs hn) ?_
   have e:Txt.split z y=partsBetween z (occurrences z y 0 z.length (z.length+1)) y.length:=(Ts (VU h1)).trans (Ts (VU hf))
   rw [e] at q'
   exact⟨.ref _,_,I.laid (o:=.lst ((partsBetween z (occurrences z y 0 z.length (z.length+1)) y.length).map V.str)) (λb ob q=>SL _ q) (SS _) ⟨by rw [SX];exact hn,_,0,ur _ _,SW _ rfl⟩,rfl,q'⟩
  ·exact UM VH (Wb _ _ _) Wi (Wa _ _) (meets_str_split_not_found z y t t2 h1 hy hf) (one ((Ts (VU h1)).trans (Td hf)))
 ·exact UM VH (Wb _ _ _) Wi (Wa _ _) (meets_str_split_cannot_occur z y t t2 h1) (one (Td h1))
theorem Fq:CallR X (.type "int") (λxs H Q=>∃ x n,xs=[.str x]/\x.length<=640/\intText? x=O n/\Q (.int n) H):=by
 intro pins s σ H xs us Q I r h
 obtain⟨x,n,rfl,hl,hn,q⟩:=h
 obtain⟨u,rfl,t,rfl⟩:=gM r
 exact W.KIN.call_text hn hl ⟨.int n,H,I.tok _,⟨_,rfl⟩,q⟩
theorem PN(hu:X.A.units+1<cLine):OpR X (compareOp .In) (λx y H Q=>∃ a o,y=.ref a/\DGet H a x o/\Q (.bl o.isSome) H):=λpins s σ H x y v u Q I rx ry ⟨a,o,e,g,q⟩=>by
 subst e
 cases ry
 exact d_in hu I g rx λs' I'=>⟨.bl _,H,I',rfl,q⟩
theorem Ea(hu:X.A.units+1<cLine):OpR X (compareOp .NotIn) (λx y H Q=>∃ a o,y=.ref a/\DGet H a x o/\Q (.bl (!o.isSome)) H):=λpins s σ H x y v u Q I rx ry ⟨a,o,e,g,q⟩=>by
 subst e
 cases ry
 exact Nd hu I g rx λs' I'=>⟨.bl _,H,I',rfl,q⟩
noncomputable def Its(z:Str):It:=⟨λi _=>∃ c,z.cps[i]?=O c,λi H x H'=>H'=H/\∃ c,z.cps[i]?=O c/\x=.str ⟨#[c]⟩,λi _=>z.cps[i]?=U⟩
theorem FR{P:Program}{w:World}{K:W.Frag}{tg:Expr}(z:Str)(t:Tok)(it:Addr):um P w K tg (Its z) [it] it (λi h=>h.IsStrIter it "str_ascii_iterator" z t i) where
 mem:=by simp
 obj:=λi h st b hb=>by
  have e:b=it:=by simpa using hb
  subst e
  obtain⟨o,e,c,d⟩:=st
  exact⟨o,e,λv z=>by rw [d] at z;cases z⟩
 keep:=λi h h' st k=>by
  obtain⟨o,ho,r⟩:=st
  exact⟨o,k it (by simp) o ho,r⟩
 item:=by
  intro X hP hw hK hc i pins s σ H E I hf st hg
  subst hP hw hK
  obtain⟨c,hx⟩:=hg
  obtain⟨f0,f1,f2,f3,f4,f5⟩:=hf it (by simp)
  refine wpAny_pyNext_ascii_item st hx λh' st' sb=>?_
  have I1:Inv X pins σ H { s with heap:=h',toks:=s.toks+1 }:=I.turned (t':=s.toks+1) (λb o hb e=>(sb.2 b hb).trans e) f0 f1 f3 f4 f5
  obtain⟨o,e,c,d⟩:=id st'
  exact⟨_,rfl,De (s:={ s with heap:=h',toks:=s.toks+1 }) e c d (by decide) ⟨.str _,H,I1,⟨_,rfl⟩,⟨rfl,_,hx,rfl⟩,st',λb hb=>(hf b hb).1⟩⟩
 done:=by
  intro X hP hw hK hc i pins s σ H E I hf st hg
  subst hP hw hK
  obtain⟨f0,f1,f2,f3,f4,f5⟩:=hf it (by simp)
  exact wpAny_pyNext_ascii_end (I.ok.hd hc) st hg λh' eb=>⟨rfl,I.turned (t':=s.toks) (λb o hb e=>eb b o hb e) f0 f1 f3 f4 f5⟩
 self:=λ_ _ _ _ _ st h=>wpAny_pyIter_striter_ascii st h
noncomputable def iStr(tl:TE):TI:=λσ H R=>tl σ H λx H1=>∃ z,x=.str z/\z.cps.all (· < 128)=true/\R (Its z) H1
theorem Pn{tg l:Expr}{tl:TE}(hl:PE X l tl):PI X tg l (iStr tl):=by
 intro pins s σ H R I h
 refine cF (hl pins s σ H _ I h) λv s1 ⟨x,H1,I1,r1,q1⟩=>?_
 obtain⟨z,e,ha,q⟩:=q1
 subst e
 obtain⟨t,rfl⟩:=r1
 refine wpAny_pyIter_ascii ha ?_
 refine⟨s1.heap.objs.size,[s1.heap.objs.size],_,_,H1,rfl,I1.kept (t':=s1.toks) λb o e=>SL _ e,FR z t _,⟨_,SW _ rfl,rfl,rfl⟩,λb hb=>?_,q⟩
 have e:b=s1.heap.objs.size:=by simpa using hb
 subst e
 exact I1.fpOk (SS _) (I1.hok.fresh (SS _))
noncomputable def SG(K:W.Frag)(a:Addr):It:=
 ⟨λi H=>∃ xs x,jk K H a xs/\xs[i]?=O x,λi H x H'=>∃ p v,x=.ref p/\H p=U/\H'=upd H p (.tup [.int (i:Nat),v])/\∀ xs,jk K H a xs->xs[i]?=O v,λi H=>∃ xs,jk K H a xs/\xs.length<=i⟩
theorem AF{P:Program}{w:World}{K:W.Frag}{es:List Expr}{k:Nat}{pos:Pos}(a e it:Addr)(hei:e≠it):um P w K (.Tuple es k pos) (SG K a) [e,it] e (λi h=>(∃ old,IsEnum h e it i old)/\h.IsListIter it a i) where
 mem:=by simp
 obj:=λi h st b hb=>by
  obtain⟨⟨old,he⟩,⟨o,ho,hc,hd⟩⟩:=st
  simp only [Tc,TD,UK] at hb
  rcases hb with rfl | rfl
  ·exact⟨_,he,λv z=>by cases z⟩
  ·exact⟨o,ho,λv z=>by rw [hd] at z;cases z⟩
 keep:=λi h h' st kk=>by
  obtain⟨⟨old,he⟩,⟨o,ho,r⟩⟩:=st
  exact⟨⟨old,kk e (by simp) _ he⟩,⟨o,kk it (by simp) _ ho,r⟩⟩
 item:=by
  intro X hP hw hK hc i pins s σ H E I hf st hg
  subst hP hw hK
  obtain⟨xs,x,hq,hx⟩:=hg
  obtain⟨its,rv,p,hz⟩:=I.list hq
  have hT:s.heap.IsList a its.toArray:=p.isList
  have hh:=I.ok.hd hc
  have ne1:a≠e:=λz=>by
   obtain⟨⟨old,he⟩,_⟩:=st
   obtain⟨o,ho,hcl,_⟩:=hT
   rw [z,he] at ho;cases ho;exact absurd (show Value.type "enumerate" = Value.type "list" from hcl) (by decide)
  have ne2:a≠it:=λz=>by
   obtain⟨_,⟨o',ho',hc',_⟩⟩:=st
   obtain⟨o,ho,hcl,_⟩:=hT
   rw [z,ho'] at ho;cases ho;rw [hc'] at hcl;exact absurd hcl (by decide)
  have W:=Vy (Draws.list (prog:=X.prog) (w:=X.w) (A:=X.A.in1) hh it a ne2 its.toArray) e hei (by simp;exact⟨hei,λz=>ne1 z.symm⟩) (by simp)
  have hi:i<its.toArray.size:=by rw [SQ,<- rv.length];exact(SR.mp hx).1
  obtain⟨⟨old,he⟩,hit⟩:=st
  have Te:s.heap.objs.size≠e:=Uh (SV he)
  have Ti:s.heap.objs.size≠it:=by
   obtain⟨o,ho,_⟩:=hit
   exact Uh (SV ho)
  refine WK (Draws.list (prog:=X.prog) (w:=X.w) (A:=X.A.in1) hh it a ne2 its.toArray) he ⟨hit,hT⟩ hi hei (by simp;exact⟨hei,λz=>ne1 z.symm⟩) λy h1 tk hy ho st1 hT1 hsz kk=>⟨_,rfl,?_⟩
  refine W.go es k pos i s.heap.objs.size _ _ _ ⟨⟨y,ho⟩,st1,Te,Ti⟩ λh2 st2 kk2=>?_
  generalize hTT:s.heap.objs.size=T at *
  obtain⟨u,hu,ru⟩:=rv.get hx
  have ey:y=u:=by
   rw [show its.toArray[i]?=its[i]? by simp,hu] at hy
   exact(Tq hy).symm
  subst ey
  have apT:T ∉ [e,it]:=by simp;exact⟨Te,Ti⟩
  have kall:∀ b o,b ∉ [e,it]->s.heap.get? b=O o->h2.get? b=O o:=λb o hb q=>kk2 b o hb (kk b o (λz=>hb (by simp [z])) (λz=>hb (by simp [z])) q)
  have hT2:IsTupN h2 T #[.int i tk,y]:=⟨_,kk2 T _ apT hT1,rfl,⟨_,rfl⟩,rfl⟩
  have hTs:s.heap.objs.size<=T:=Vu hTT
  refine⟨.ref T,upd H T (.tup [.int (i:Nat),x]),I.turnLaid kall hf hTs ⟨by show 2<=sizeLine;decide,[.int i tk,y],.cons ⟨_,rfl⟩ (.cons ru .nil),hT2⟩,rfl,⟨T,x,rfl,I.hok.fresh hTs,rfl,λys hy=>by rw [I.list_inj hy hq];exact hx⟩,⟨st2.1,st2.2.1⟩,λb hb=>?_⟩
  have nb:b≠T:=λz=>apT (by rw [<- z];exact hb)
  rw [aD nb]
  exact(hf b hb).1
 done:=by
  intro X hP hw hK hc i pins s σ H E I hf st hg
  subst hP hw hK
  obtain⟨xs,hq,hx⟩:=hg
  obtain⟨its,rv,p,hz⟩:=I.list hq
  have hT:s.heap.IsList a its.toArray:=p.isList
  have hh:=I.ok.hd hc
  have ne1:a≠e:=λz=>by
   obtain⟨⟨old,he⟩,_⟩:=st
   obtain⟨o,ho,hcl,_⟩:=hT
   rw [z,he] at ho;cases ho;exact absurd (show Value.type "enumerate" = Value.type "list" from hcl) (by decide)
  have D':Draws X.prog X.w X.A.in1 it [it,a] i (λ_ _=>True) (λj h=>j=i/\h.IsListIter it a i/\h.IsList a its.toArray):=
   {live:=λ_ _ q=>by obtain⟨_,⟨o,ho,_⟩,_⟩:=q;exact⟨o,ho⟩
    frame:=λ_ _ _ q hk=>by
     obtain⟨q0,⟨o,ho,r⟩,⟨o2,ho2,r2⟩⟩:=q
     exact⟨q0,⟨o,hk it (by simp) o ho,r⟩,⟨o2,hk a (by simp) o2 ho2,r2⟩⟩
    item:=λj _ _ _ hj q _=>absurd q.1 (Tk hj)
    done:=λs Q E q hE=>wpAny_nextOf_list_end hh q.2.1 q.2.2 (by simp;have:=rv.length;omega) hE }
  have W:=Vy D' e hei (by simp;exact⟨hei,λz=>ne1 z.symm⟩) (by simp)
  refine W.done s _ _ ⟨st.1,rfl,st.2,hT⟩ λh2 tk kk=>⟨rfl,I.turnedL kk hf⟩
 self:=λA i s Q E st h=>by
  obtain⟨⟨old,he⟩,_⟩:=st
  exact Vw he h
noncomputable def Rt(K:W.Frag)(t:TA):TI:=λσ H R=>t σ H λxs H1=>∃ a,xs=[.ref a]/\(∃ ys,jk K H1 a ys)/\R (SG K a) H1
theorem GH{a:Expr}{ta:TA}{es:List Expr}{k:Nat}{tp p pos:Pos}(hg:Gl X "enumerate")(hm:X.mg "enumerate" = U)(ha:PA X [a] ta)(hs:starEach [a] X.env=[(false,eval a X.env)]) :
  PI X (.Tuple es k tp) (.Call (.Name "enumerate" p) [a] [] pos) (Rt X.K ta):=by
 intro pins s σ H R I h
 refine Call_ (jf I hg hm boot_enumerate (TM (cF (ha pos pins s σ H _ I h) λus s1 ⟨vs,H1,I1,r1,q1⟩=>?_) hs rfl))
 obtain⟨t,rfl,⟨ys,hq⟩,q⟩:=q1
 obtain⟨u,rfl,ru⟩:=r1.one
 cases ru
 obtain⟨its,rv,pt,hz⟩:=I1.list hq
 refine call_enumerate_list pt.isList λh' he hi hsz kk=>Vw he ?_
 refine⟨s1.heap.objs.size+1,[s1.heap.objs.size+1,s1.heap.objs.size],_,_,H1,rfl,I1.kept (t':=s1.toks) kk,AF t _ _ (Nat.succ_ne_self _),⟨⟨_,he⟩,hi⟩,λb hb=>?_,q⟩
 simp only [Tc,TD,UK] at hb
 rcases hb with rfl | rfl
 ·exact I1.fpOk (Vp _) (I1.hok.fresh (Vp _))
 ·exact I1.fpOk (SS _) (I1.hok.fresh (SS _))
end
end L2
namespace HT
open PySem PySem.Spec PyProof.Rows Builtin
theorem pJ{prog:Program}{w:World}{A:Around}{E:Value->Shared->Prop}{s:Shared}{env:Env}{elts:List Expr}{x1}{pos:Pos}{t:Addr}{v:Value}{r:List Value}{Q:Unit->Shared->Prop}(hh:A.handled=U)(ht:s.heap.IsList t (v::r).toArray)
  (hn:(assignEach elts env).length=2) (hstar:(assignEach elts env).findIdx? (·.1)=O 1) (hz:r.length<16384)
  (h:∀ h' tk,Heap.ExtBut s.heap.objs.size s.heap h'->wpAny (model prog w) A (assignInOrder ((assignEach elts env).map (·.2)) [v,.ref h'.objs.size]) Q E { s with heap:=h'.push { cls:=.type "list",data:=.seq r.toArray },toks:=tk }) :
  wpAny (model prog w) A (assign (.Tuple elts x1 pos) env (.ref t)) Q E s:=by
 have hll:t<s.heap.objs.size:=by obtain⟨o,ho,_⟩:=ht;exact SV ho
 have hlt:t≠s.heap.objs.size:=Tk hll
 have hsz:(v::r).toArray.size=r.length+1:=by simp
 rw [assign_Tuple]
 refine SK (Ue ?_)
 unfold unpack
 rw [hn,hstar]
 refine SK (Tu ?_)
 unfold unpackItems
 refine SK ?_
 unfold notIterableAtAll
 refine SK (wpAny_specialOf ht.typeIs slot_list_iter.lookup ?_)
 refine SU ?_
 simp only [Ut,UL]
 refine SK (Tu (UJ ht ?_))
 have ht0:(s.heap.push { cls:=.type "list_iterator",data:=.fields #[.ref t,.int 0 0] }).IsList t (v::r).toArray:=by
  obtain⟨o,ho,q⟩:=ht
  exact⟨o,SL _ ho,q⟩
 refine SK (Tu (pC hlt 1 0 _ _ ⟨_,SW _ rfl,rfl,rfl⟩ ht0 (by rw [hsz];omega) λh₁ hit₁ hs₁ ht₁=>?_))
 have hfirst:List.take 1 (List.drop 0 (v::r).toArray.toList)=[v]:=by simp
 rw [hfirst]
 rw [Ts (by simp)]
 obtain⟨oi,hoi,_⟩:=id hit₁
 obtain⟨ol,hol,_⟩:=id ht₁
 refine SK (Tu (W.kun_collect (s:={ s with heap:=h₁ }) (T:="list_iterator") (.inr (.inr (.inl rfl))) (Walks.list (A:=A.in1) hh s.heap.objs.size t hlt (v::r).toArray) (λj u st=>st.1.typeIs) (k:=1) (by rw [hsz];omega) ⟨hit₁,ht₁⟩ (SV hoi) (SV hol) (λh₂ tk hk=>?_) (by rw [hsz];exact Th hz (by decide))))
 have hdrop:List.drop 1 (v::r).toArray.toList=r:=by simp
 rw [hdrop]
 have hq:¬ r.length<2 - 1 - 1:=by omega
 show wpAny _ _ (if r.length<2 - 1 - 1 then _ else _) _ _ _
 rw [Ts hq]
 show wpAny _ _ (newList (r.take (r.length - (2 - 1 - 1))) >>= λd=>pure ([v]++[d]++r.drop (r.length - (2 - 1 - 1)))) _ _ _
 have e1:r.take (r.length - (2 - 1 - 1))=r:=Vc (by omega)
 have e2:r.drop (r.length - (2 - 1 - 1))=[]:=List.drop_of_length_le (by omega)
 rw [e1,e2]
 have he:Heap.ExtBut s.heap.objs.size s.heap h₂:=λb o hb e=>hk b o hb (hs₁.extBut b o hb (SL _ e))
 refine SK (wpAny_newList (SU ?_) (Th (VL hz) (by decide)))
 exact h h₂ tk he
end HT
namespace L2
noncomputable def Rv(K:W.Frag)(t:FH):TG:=λv σ H Q=>∃ a x xs,v=.ref a/\jk K H a (x::xs)/\xs.length<16384/\∀ p,H p=U->t [x,.ref p] σ (upd H p (.lst xs)) Q
theorem KW{X:Cx}{es es':List Expr}{k:Nat}{t:FH}{pos:Pos}(hc:X.calm=true)(h:PGs X es' t)(he:(assignEach es X.env).map (·.2)=(assignEach es' X.env).map (·.2))
  (hn:(assignEach es X.env).length=2) (hst:(assignEach es X.env).findIdx? (·.1)=O 1):PG X (.Tuple es k pos) (Rv X.K t):=by
 intro pins s σ H v u Q I r hw
 obtain⟨a,x,xs,e1,hq,hl,hw⟩:=hw
 subst e1
 cases r
 obtain⟨its,rv,ht,hz⟩:=I.list hq
 cases rv with
 | @cons _ uv _ us rx rr=>
  refine HT.pJ (I.ok.hd hc) ht.isList hn hst (by rw [<- rr.length];exact hl) λh' tk hx=>?_
  have I1:Inv X pins σ H { s with heap:=h',toks:=tk }:=I.kept (t':=tk) λb o e=>hx b o (Tk (SV e)) e
  rw [he]
  have I2:Inv X pins σ (upd H h'.objs.size (.lst xs)) { s with heap:=h'.push { cls:=.type "list",data:=.seq us.toArray },toks:=tk }:=I1.laid (t':=tk) (o:=.lst xs) (λb ob q=>SL _ q) (SS _) ⟨Th (VL hl) (by decide),_,0,rr,SW _ rfl⟩
  exact h pins _ σ _ [x,.ref _] _ Q I2 (.cons rx (.cons rfl .nil)) (hw _ (I1.hok.fresh (SS _)))
end L2
namespace M
open L2
section
variable{X:Cx}{K:W.Frag}{μ:Fp}{H:Hp}{S:aa}
noncomputable def gh(gs:lU):MG:=λd env S=>match d with | .lst (x::xs)=>if xs.length<16384 then gs [x,.lst xs] env S else U | _=>U
theorem MD{pos:Pos}{es es':List Expr}{k:Nat}{gs:lU}(hc:X.calm=true)(h:Nu X es' gs)(he:(assignEach es X.env).map (·.2)=(assignEach es' X.env).map (·.2))(hn:(assignEach es X.env).length=2)(hst:(assignEach es X.env).findIdx? (·.1)=O 1):DG X (.Tuple es k pos) (gh gs):=
 PG.imp (KW hc h he hn hst) λv σ H Q ⟨μ,S,env,d,env',S',hS,hE,hr,hm,post⟩=>by
  cases d with
  | lst xs=>
   cases xs with
   | nil=>cases hm
   | cons x xs=>
    simp only [gh] at hm
    split at hm
    ·rename_i hl
     obtain⟨a,vs,rfl,q,_,r⟩:=hr.sqL
     cases r with
     | @cons v _ vs _ rx rr=>
      refine⟨a,v,vs,rfl,.inl (.inl q),by rw [rr.length];exact hl,λp hp=>?_⟩
      obtain⟨e2,s2⟩:=hS.laid (o:=.lst vs) hp
      exact⟨μ,S,env,_,env',S',s2,hE.mono e2,.cons (rx.mono e2) (.cons (.lst aC (hS.notMem hp) (rr.mono e2)) .nil),hm,post.ext e2⟩
    ·cases hm
  | _=>cases hm
noncomputable def cJ(o:ME)(ms:MA):ME:=λenv S=>(o env S).bind λp=>match p.1 with
 | .str z=>(ms env p.2).bind λq=>match q.1 with
  | [.str y]=>if (y.length == 0)=false/\z.length<=1000000 then O (.lst ((Txt.split z y).map .str),q.2) else U
  | _=>U
 | _=>U
theorem yt:∀ xs:List Str,Reps K μ H (xs.map V.str) (xs.map D.str)
 | []=>.nil
 | x::r=>.cons (.str x) (yt r)
theorem Ju{o e:Expr}{es:List Expr}{mo:ME}{ms:MA}{apos cpos:Pos}(ho:DE X o mo)(ha:DA X (e::es) ms)
  (hbase:attributeBase o "split" X.env (eval o X.env)=eval o X.env)
  (hfew:((backTo cpos (starEach (e::es) X.env)).all (λx=>!x.1)&&(backToKw cpos (keywordEach [] X.env)).all (λx=>x.1.isSome)&&decide ((e::es).length+([]:List Keyword).length+(if ([]:List Keyword).isEmpty then 0 else 1)<30))=true)
  (hline:(apos.endLine == cpos.line)=true) (hs:starEach (e::es) X.env=(false,eval e X.env)::starEach es X.env) (hpl:(backTo cpos (starEach es X.env)).any (·.1)=false) :
  DE X (.Call (.Attribute o "split" apos) (e::es) [] cpos) (cJ mo ms):=
 PE.imp (GS (X:=X) F.plainAttrs_str VH F.type_str_split Ha ho ha hbase hfew hline hs hpl) λσ H Q ⟨μ,S,env,d,S',hS,hE,h,post⟩=>by
  obtain⟨⟨x,S1⟩,h1,h⟩:=SJ.mp h
  dsimp only at h
  split at h
  ·rename_i z
   obtain⟨⟨xs,S2⟩,h2,h⟩:=SJ.mp h
   dsimp only at h
   split at h
   ·rename_i y
    split at h
    ·rename_i hc
     cases h
     refine⟨μ,S,env,_,S1,hS,hE,h1,λv H1 μ1 e1 s1 r1=>⟨?_,μ1,S1,env,_,_,s1,hE.mono e1,h2,λvs H2 μ2 e2 s2 r2=>?_⟩⟩
     ·rw [r1.str_inv];exact rfl
     ·obtain⟨w,rfl,rw'⟩:=r2.one
      refine⟨z,y,r1.str_inv,by rw [rw'.str_inv],hc.1,hc.2,λp hp=>?_⟩
      exact((post.ext e1).ext e2).lst s2 hp (yt _)
    ·cases h
   ·cases h
  ·cases h
noncomputable def BH(S:aa)(x y:D):Option D:=match x,y with
 | .str z,.int i=>if z.length<=sizeLine then (lD z.cps.toList i).bind λc=>O (.str ⟨#[c]⟩) else U
 | _,_=>U
theorem ix_S:IxR X (jN X.K BH):=IxR.imp Rn λx y H Q ⟨μ,S,dx,dy,dz,hS,h1,h2,h3,post⟩=>by
 unfold BH at h3
 split at h3
 ·split at h3
  ·rename_i z i hi
   obtain⟨c,hc,h3⟩:=SJ.mp h3
   cases h3
   exact⟨z,i,c,h1.str_inv,h2.int_inv,hi,hc,post.here hS (.str _)⟩
  ·cases h3
 ·cases h3
noncomputable def mr(S:aa):List D->Option D
 | [.str x]=>if x.length<=640 then (intText? x).bind λn=>O (.int n) else U
 | _=>U
theorem Fx:CallR X (.type "int") (DQ X.K (aq mr)):=CallR.imp Fq λxs H Q ⟨μ,S,ds,d,S',hS,hr,hm,post⟩=>by
 obtain⟨rfl,hm⟩:=dh hm
 unfold mr at hm
 split at hm
 ·rename_i x
  split at hm
  ·rename_i hl
   obtain⟨n,h1,hm⟩:=SJ.mp hm
   cases hm
   obtain⟨v,rfl,r⟩:=hr.one
   exact⟨_,n,by rw [r.str_inv],hl,h1,post.here hS (.int _)⟩
  ·cases hm
 ·cases hm
noncomputable def fInK(S:aa)(x y:D):Option D:=(yq S y).bind λkvs=>(eD x).bind λk=>O (.bl (dC kvs k).isSome)
noncomputable def oa(S:aa)(x y:D):Option D:=(yq S y).bind λkvs=>(eD x).bind λk=>O (.bl (!(dC kvs k).isSome))
theorem KR.some_iff{k:ba}{vs ds}(t:KR K μ H vs ds):(lP vs k).isSome=(dC ds k).isSome:=by
 cases q:dC ds k with
 | none=>rw [t.valN q];rfl
 | some d=>obtain⟨v,h1,_⟩:=t.val q;rw [h1];rfl
theorem PX(hu:X.A.units+1<cLine):OpR X (compareOp .In) (jN X.K fInK):=OpR.imp (PN hu) λx y H Q ⟨μ,S,dx,dy,dz,hS,h1,h2,h3,post⟩=>by
 obtain⟨kvs,hk,h3⟩:=SJ.mp h3
 obtain⟨k,hx,h3⟩:=SJ.mp h3
 cases h3
 obtain⟨a,vs,rfl,ha,rr⟩:=qK hS h2 hk
 refine⟨a,lP vs k,rfl,?_,?_⟩
 ·rw [fM hx h1];exact DGet.k ha
 ·rw [rr.some_iff];exact post.here hS (.bl _)
theorem Eb(hu:X.A.units+1<cLine):OpR X (compareOp .NotIn) (jN X.K oa):=OpR.imp (Ea hu) λx y H Q ⟨μ,S,dx,dy,dz,hS,h1,h2,h3,post⟩=>by
 obtain⟨kvs,hk,h3⟩:=SJ.mp h3
 obtain⟨k,hx,h3⟩:=SJ.mp h3
 cases h3
 obtain⟨a,vs,rfl,ha,rr⟩:=qK hS h2 hk
 refine⟨a,lP vs k,rfl,?_,?_⟩
 ·rw [fM hx h1];exact DGet.k ha
 ·rw [rr.some_iff];exact post.here hS (.bl _)
noncomputable def rE(z:Str):List D:=z.cps.toList.map λc=>.str ⟨#[c]⟩
noncomputable def lf(m:ME):MA:=λenv S=>(m env S).bind λp=>match p.1 with | .str z=>if z.cps.all (· < 128)=true then O (rE z,p.2) else U | _=>U
theorem RU{tg iter:Expr}{m:ME}(h:DE X iter m):DI X tg iter (lf m):=PI.imp (Pn h) λσ H R ⟨μ,S,env,xs,S',hS,hE,hm,post⟩=>by
 obtain⟨⟨d,S1⟩,h1,hm⟩:=SJ.mp hm
 refine⟨μ,S,env,d,S1,hS,hE,h1,λv H1 μ1 e1 s1 r1=>?_⟩
 dsimp only at hm
 split at hm
 ·rename_i z
  split at hm
  ·rename_i ha
   cases hm
   refine⟨z,r1.str_inv,ha,post _ H1 μ1 e1 s1 λμ' H' S' e s i=>⟨λd hd=>?_,λhl=>?_⟩⟩
   ·unfold rE at hd
    rw [UN,Array.getElem?_toList] at hd
    obtain⟨c,hc,rfl⟩:=VJ.mp hd
    refine⟨⟨c,hc⟩,λx H2 ⟨e2,c',hc',ex⟩=>?_⟩
    rw [hc] at hc'
    cases hc'
    subst e2 ex
    exact⟨s.ext,s,.str _⟩
   ·have:z.cps.size<=i:=by simpa [rE] using hl
    exact Array.getElem?_eq_none this
  ·cases hm
 ·cases hm
noncomputable def dZ(ms:MA):MA:=λenv S=>(ms env S).bind λp=>match p.1 with | [.lst xs]=>O (gR 0 xs,p.2) | _=>U
theorem Bz{a:Addr}{xs:List D}(r:Rep K μ H (.ref a) (.lst xs)):Aw K μ H (SG K a) (gR 0 xs):=λμ' H' S' e s i=>by
 have r':=r.monoP e
 obtain⟨b,vs,hb,hq',_,rs⟩:=r'.sqL
 cases hb
 have hq:jk K H' a vs:=.inl (.inl hq')
 refine⟨λd hd=>?_,λhl=>⟨vs,hq,by rw [rs.length];rw [pz] at hl;exact hl⟩⟩
 obtain⟨x,hx,rfl⟩:=pA 0 xs i d hd
 obtain⟨v,hv,rv⟩:=rs.get hx
 refine⟨⟨vs,v,hq,hv⟩,λy H2 hy=>?_⟩
 obtain⟨p,w,rfl,hp,rfl,hw⟩:=hy
 have ew:w=v:=by have:=hw vs hq;rw [hv] at this;exact(Tq this).symm
 subst ew
 obtain⟨e2,s2⟩:=s.laid (o:=.tup [.int (i:Nat),w]) hp
 refine⟨e2,s2,?_⟩
 rw [Nat.zero_add]
 exact .tup aC (s.notMem hp) (.cons (.int _) (.cons (rv.mono e2) .nil))
theorem Jl{a:Expr}{ms:MA}{es:List Expr}{k:Nat}{tp p pos:Pos}(hm:X.mg "enumerate" = U)(ha:DA X [a] ms)(hg:Gl X "enumerate")(hs:starEach [a] X.env=[(false,eval a X.env)]) :
  DI X (.Tuple es k tp) (.Call (.Name "enumerate" p) [a] [] pos) (dZ ms):=PI.imp (GH hg hm ha hs) λσ H R ⟨μ,S,env,xs,S',hS,hE,h,post⟩=>by
 obtain⟨⟨ds,S1⟩,h1,h⟩:=SJ.mp h
 refine⟨μ,S,env,ds,S1,hS,hE,h1,λvs H1 μ1 e1 s1 r1=>?_⟩
 dsimp only at h
 split at h
 ·rename_i ys
  cases h
  obtain⟨v,rfl,rv⟩:=r1.one
  have rv':=rv
  obtain⟨b,ws,rfl,hq,_,rs⟩:=rv.sqL
  exact⟨b,rfl,⟨ws,.inl (.inl hq)⟩,post _ H1 μ1 e1 s1 (Bz rv')⟩
 ·cases h
theorem lO{o:Expr}{name:Str}{env:Env}{w:Sem Value}(h:(match o with | .Call (.Name id _) [] [] _=>id != ("super":Str) | .Call _ _ _ _=>false | _=>true)=true):attributeBase o name env w=w:=by
 unfold attributeBase
 split
 ·rename_i id _ _
  have h':(id != ("super":Str))=true:=h
  rw [h'];rfl
 ·rfl
end
end M
namespace MI
open L2 M
@[irreducible] noncomputable def mC(d:D):ME:=M.mC d
theorem sA{d:D}:mC d=M.mC d:=by unfold mC;rfl
@[irreducible] noncomputable def ae(i:Nat):ME:=M.ae i
theorem CA{i:Nat}:ae i=M.ae i:=by unfold ae;rfl
@[irreducible] noncomputable def ay(f:aa->D->D->Option D)(a b:ME):ME:=M.ay f a b
theorem gB{f:aa->D->D->Option D}{a b:ME}:ay f a b=M.ay f a b:=by unfold ay;rfl
@[irreducible] noncomputable def aF(m:ME):MT:=M.aF m
theorem so{m:ME}:aF m=M.aF m:=by unfold aF;rfl
@[irreducible] noncomputable def bU(f g:aa->D->D->Option D)(a b c:ME):ME:=M.bU f g a b c
theorem pd{f g:aa->D->D->Option D}{a b c:ME}:bU f g a b c=M.bU f g a b c:=by unfold bU;rfl
@[irreducible] noncomputable def cn(m:ME):MT:=M.cn m
theorem xn{m:ME}:cn m=M.cn m:=by unfold cn;rfl
@[irreducible] noncomputable def dG(a b:MT):MT:=M.dG a b
theorem sB{a b:MT}:dG a b=M.dG a b:=by unfold dG;rfl
@[irreducible] noncomputable def dX(a b:MT):MT:=M.dX a b
theorem xo{a b:MT}:dX a b=M.dX a b:=by unfold dX;rfl
@[irreducible] noncomputable def bK(a:MT):MT:=M.bK a
theorem zk{a:MT}:bK a=M.bK a:=by unfold bK;rfl
@[irreducible] noncomputable def fe(a b:ME):ME:=M.Hz a b
theorem CS{a b:ME}:fe a b=M.Hz a b:=by unfold fe;rfl
@[irreducible] noncomputable def xp(a b:ME):ME:=M.Qe a b
theorem Ho{a b:ME}:xp a b=M.Qe a b:=by unfold xp;rfl
@[irreducible] noncomputable def gO(a:ME):ME:=M.Hr a
theorem zj{a:ME}:gO a=M.Hr a:=by unfold gO;rfl
@[irreducible] noncomputable def nO(t:MT)(a b:ME):ME:=M.nO t a b
theorem Ht{t:MT}{a b:ME}:nO t a b=M.nO t a b:=by unfold nO;rfl
@[irreducible] noncomputable def af:MA:=M.af 
theorem xq  : af  = M.af  := by unfold af;rfl
@[irreducible] noncomputable def ac(a:ME)(r:MA):MA:=M.ac a r
theorem zu{a:ME}{r:MA}:ac a r=M.ac a r:=by unfold ac;rfl
@[irreducible] noncomputable def bZ(ms:MA):ME:=M.bZ ms
theorem CB{ms:MA}:bZ ms=M.bZ ms:=by unfold bZ;rfl
@[irreducible] noncomputable def cU(ms:MA):ME:=M.cU ms
theorem CG{ms:MA}:cU ms=M.cU ms:=by unfold cU;rfl
@[irreducible] noncomputable def dm(ms:MA):ME:=M.dm ms
theorem zn{ms:MA}:dm ms=M.dm ms:=by unfold dm;rfl
@[irreducible] noncomputable def xm(f:aa->D->Option D)(a:ME):ME:=M.xm f a
theorem Hj{f:aa->D->Option D}{a:ME}:xm f a=M.xm f a:=by unfold xm;rfl
@[irreducible] noncomputable def cZ:MO:=M.cZ 
theorem uV  : cZ  = M.cZ  := by unfold cZ;rfl
@[irreducible] noncomputable def eY(m:ME):MO:=M.eY m
theorem zh{m:ME}:eY m=M.eY m:=by unfold eY;rfl
@[irreducible] noncomputable def cY(a:ME)(lo hi:MO):ME:=M.cY a lo hi
theorem uT{a:ME}{lo hi:MO}:cY a lo hi=M.cY a lo hi:=by unfold cY;rfl
@[irreducible] noncomputable def aA(f:List D->aa->Option (D×aa))(ms:MA):ME:=M.aA f ms
theorem fc{f:List D->aa->Option (D×aa)}{ms:MA}:aA f ms=M.aA f ms:=by unfold aA;rfl
@[irreducible] noncomputable def db(T:String)(m:ME):ME:=M.db T m
theorem CK{T:String}{m:ME}:db T m=M.db T m:=by unfold db;rfl
@[irreducible] noncomputable def ag(n:Nat)(f:List D->aa->Option (D×aa))(ms:MA):ME:=M.ag n f ms
theorem pe{n:Nat}{f:List D->aa->Option (D×aa)}{ms:MA}:ag n f ms=M.ag n f ms:=by unfold ag;rfl
@[irreducible] noncomputable def aI:MS:=M.aI 
theorem nL  : aI  = M.aI  := by unfold aI;rfl
@[irreducible] noncomputable def aw(a b:MS):MS:=M.aw a b
theorem CC{a b:MS}:aw a b=M.aw a b:=by unfold aw;rfl
@[irreducible] noncomputable def aN(m:ME):MS:=M.aN m
theorem CD{m:ME}:aN m=M.aN m:=by unfold aN;rfl
@[irreducible] noncomputable def cG(m:ME):MS:=M.cG m
theorem zq{m:ME}:cG m=M.cG m:=by unfold cG;rfl
@[irreducible] noncomputable def bx(t:MT)(a b:MS):MS:=M.bx t a b
theorem CM{t:MT}{a b:MS}:bx t a b=M.bx t a b:=by unfold bx;rfl
@[irreducible] noncomputable def ah(i:Nat):MG:=M.ah i
theorem jZ{i:Nat}:ah i=M.ah i:=by unfold ah;rfl
@[irreducible] noncomputable def be:lU:=M.be 
theorem zT  : be  = M.be  := by unfold be;rfl
@[irreducible] noncomputable def ai(g:MG)(gs:lU):lU:=M.ai g gs
theorem vw{g:MG}{gs:lU}:ai g gs=M.ai g gs:=by unfold ai;rfl
@[irreducible] noncomputable def bg(n:Nat)(gs:lU):MG:=M.bg n gs
theorem jB{n:Nat}{gs:lU}:bg n gs=M.bg n gs:=by unfold bg;rfl
@[irreducible] noncomputable def ei(o i:ME):MG:=M.ei o i
theorem zR{o i:ME}:ei o i=M.ei o i:=by unfold ei;rfl
@[irreducible] noncomputable def aE(m:ME)(g:MG):MS:=M.aE m g
theorem gf{m:ME}{g:MG}:aE m g=M.aE m g:=by unfold aE;rfl
@[irreducible] noncomputable def aL(ms:MA):MA:=M.aL ms
theorem mH{ms:MA}:aL ms=M.aL ms:=by unfold aL;rfl
@[irreducible] noncomputable def cq(ms:MA):MA:=M.cq ms
theorem sq{ms:MA}:cq ms=M.cq ms:=by unfold cq;rfl
@[irreducible] noncomputable def gG(mi:MA)(g:MG)(body:MS):MS:=M.gG mi g body
theorem CN{mi:MA}{g:MG}{body:MS}:gG mi g body=M.gG mi g body:=by unfold gG;rfl
@[irreducible] noncomputable def bF(mi:MA)(g:MG)(t:MT)(e:ME)(cap:List (Option Nat)):ME:=M.bF mi g t e cap
theorem sy{mi:MA}{g:MG}{t:MT}{e:ME}{cap:List (Option Nat)}:bF mi g t e cap=M.bF mi g t e cap:=by unfold bF;rfl
@[irreducible] noncomputable def cf(m:ME):MA:=M.cf m
theorem qQ{m:ME}:cf m=M.cf m:=by unfold cf;rfl
@[irreducible] noncomputable def aG:MT:=M.aG 
theorem zg  : aG  = M.aG  := by unfold aG;rfl
@[irreducible] noncomputable def cT(f:MF)(o:ME)(ms:MA):ME:=M.cT f o ms
theorem zl{f:MF}{o:ME}{ms:MA}:cT f o ms=M.cT f o ms:=by unfold cT;rfl
@[irreducible] noncomputable def gc(ms:MA):MA:=M.gc ms
theorem zp{ms:MA}:gc ms=M.gc ms:=by unfold gc;rfl
@[irreducible] noncomputable def ca(ms:MA):ME:=M.ca ms
theorem sr{ms:MA}:ca ms=M.ca ms:=by unfold ca;rfl
@[irreducible] noncomputable def jv(i j:Nat)(ms:MA):MS:=M.jv i j ms
theorem CF{i j:Nat}{ms:MA}:jv i j ms=M.jv i j ms:=by unfold jv;rfl
@[irreducible] noncomputable def jt(ms:MA):MA:=M.jt ms
theorem Cy{ms:MA}:jt ms=M.jt ms:=by unfold jt;rfl
@[irreducible] noncomputable def eZ(ms:List (ME×ME)):ME:=M.eZ ms
theorem zr{ms:List (ME×ME)}:eZ ms=M.eZ ms:=by unfold eZ;rfl
@[irreducible] noncomputable def dD(ms:List (ME×ME)):ME:=M.dD ms
theorem uZ{ms:List (ME×ME)}:dD ms=M.dD ms:=by unfold dD;rfl
@[irreducible] noncomputable def cK(f:MF)(o:ME)(ms:MA):ME:=M.cK f o ms
theorem uW{f:MF}{o:ME}{ms:MA}:cK f o ms=M.cK f o ms:=by unfold cK;rfl
@[irreducible] noncomputable def eg(m:ME)(g:MG)(body:MS):MS:=M.eg m g body
theorem zo{m:ME}{g:MG}{body:MS}:eg m g body=M.eg m g body:=by unfold eg;rfl
@[irreducible] noncomputable def da(ms:MA):ME:=M.da ms
theorem uX{ms:MA}:da ms=M.da ms:=by unfold da;rfl
@[irreducible] noncomputable def cI(l:List (ba×D))(a:ME):ME:=M.cI l a
theorem uR{l:List (ba×D)}{a:ME}:cI l a=M.cI l a:=by unfold cI;rfl
@[irreducible] noncomputable def dY(m:ME):ME:=M.dY m
theorem CP{m:ME}:dY m=M.dY m:=by unfold dY;rfl
@[irreducible] noncomputable def bq(ms:List ME)(out:Str):ME:=M.bq ms out
theorem lH{ms:List ME}{out:Str}:bq ms out=M.bq ms out:=by unfold bq;rfl
@[irreducible] noncomputable def bL(o:ME)(ms:MA):ME:=M.bL o ms
theorem uU{o:ME}{ms:MA}:bL o ms=M.bL o ms:=by unfold bL;rfl
@[irreducible] noncomputable def cg(mi:MA)(g:MG)(t:MT)(mi2:MA)(g2:MG)(t2:MT)(e:ME)(cap:List (Option Nat)):ME:=M.cg mi g t mi2 g2 t2 e cap
theorem oZ{mi:MA}{g:MG}{t:MT}{mi2:MA}{g2:MG}{t2:MT}{e:ME}{cap:List (Option Nat)}:cg mi g t mi2 g2 t2 e cap=M.cg mi g t mi2 g2 t2 e cap:=by unfold cg;rfl
@[irreducible] noncomputable def sx(e:ME):MB:=M.sx e
theorem Hw{e:ME}:sx e=M.sx e:=by unfold sx;rfl
@[irreducible] noncomputable def gE(mi:MA)(g:MG)(t:MT)(b:MB):MB:=M.gE mi g t b
theorem CL{mi:MA}{g:MG}{t:MT}{b:MB}:gE mi g t b=M.gE mi g t b:=by unfold gE;rfl
@[irreducible] noncomputable def cr(mi:MA)(g:MG)(t:MT)(b:MB)(cap:List (Option Nat)):ME:=M.cr mi g t b cap
theorem oY{mi:MA}{g:MG}{t:MT}{b:MB}{cap:List (Option Nat)}:cr mi g t b cap=M.cr mi g t b cap:=by unfold cr;rfl
@[irreducible] noncomputable def dc(mi:MA)(g:MG)(t:MT)(kx vx:ME)(cap:List (Option Nat)):ME:=M.dc mi g t kx vx cap
theorem vb{mi:MA}{g:MG}{t:MT}{kx vx:ME}{cap:List (Option Nat)}:dc mi g t kx vx cap=M.dc mi g t kx vx cap:=by unfold dc;rfl
@[irreducible] noncomputable def cJ(o:ME)(ms:MA):ME:=M.cJ o ms
theorem uS{o:ME}{ms:MA}:cJ o ms=M.cJ o ms:=by unfold cJ;rfl
@[irreducible] noncomputable def lf(m:ME):MA:=M.lf m
theorem CJ{m:ME}:lf m=M.lf m:=by unfold lf;rfl
@[irreducible] noncomputable def dZ(ms:MA):MA:=M.dZ ms
theorem uY{ms:MA}:dZ ms=M.dZ ms:=by unfold dZ;rfl
@[irreducible] noncomputable def gh(gs:lU):MG:=M.gh gs
theorem zS{gs:lU}:gh gs=M.gh gs:=by unfold gh;rfl
@[irreducible] noncomputable def gp(n:Nat)(gs:lU):MG:=M.gp n gs
theorem zQ{n:Nat}{gs:lU}:gp n gs=M.gp n gs:=by unfold gp;rfl
theorem Bt{f:List D->aa->Option (D×aa)}:ag 0 f af=M.ag 0 f M.af:=by rw [pe,xq]
theorem Bo{f:aa->D->D->Option D}{a b:ME}:aF (ay f a b)=M.aF (M.ay f a b):=by rw [so,gB]
theorem Bp{f g:aa->D->D->Option D}{a b c:ME}:aF (bU f g a b c)=M.aF (M.bU f g a b c):=by rw [so,pd]
theorem mL{m:ME}{i:Nat}:aE m (ah i)=M.aE m (M.ah i):=by rw [gf,jZ]
theorem zy{mi:MA}{g:MG}{t:MT}{e:ME}{cap:List (Option Nat)}{i:Nat}:aE (bF mi g t e cap) (ah i)=M.aE (M.bF mi g t e cap) (M.ah i):=by rw [gf,jZ,sy]
theorem xu{mi mi2:MA}{g g2:MG}{t t2:MT}{e:ME}{cap:List (Option Nat)}{i:Nat}:aE (cg mi g t mi2 g2 t2 e cap) (ah i)=M.aE (M.cg mi g t mi2 g2 t2 e cap) (M.ah i):=by rw [gf,jZ,oZ]
theorem xt{mi:MA}{g:MG}{t:MT}{b:MB}{cap:List (Option Nat)}{i:Nat}:aE (cr mi g t b cap) (ah i)=M.aE (M.cr mi g t b cap) (M.ah i):=by rw [gf,jZ,oY]
section
variable{X:Cx}{e:Expr}{es:List Expr}{s:Stmt}{ss:List Stmt}
theorem Op{bc:Sem Unit}{p:Addr}{m m':MB}(h:m=m')(d:Ou X bc p m'):Ou X bc p m:=by rw [h];exact d
theorem aZ{m m':ME}(h:m=m')(d:DE X e m'):DE X e m:=by rw [h];exact d
theorem Aq{m m':MT}(h:m=m')(d:DT X e m'):DT X e m:=by rw [h];exact d
theorem Du{m m':MT}(h:m=m')(d:DW X e m'):DW X e m:=by rw [h];exact d
theorem Oq{m m':MA}(h:m=m')(d:DA X es m'):DA X es m:=by rw [h];exact d
theorem Oo{o:Option Expr}{m m':MO}(h:m=m')(d:DO X o m'):DO X o m:=by rw [h];exact d
theorem tR{m m':MG}(h:m=m')(d:DG X e m'):DG X e m:=by rw [h];exact d
theorem JM{m m':lU}(h:m=m')(d:Nu X es m'):Nu X es m:=by rw [h];exact d
theorem qt{tg:Expr}{m m':MA}(h:m=m')(d:DI X tg e m'):DI X tg e m:=by rw [h];exact d
theorem JL{tg:Expr}{m m':MA}(h:m=m')(d:Nt X tg e m'):Nt X tg e m:=by rw [h];exact d
theorem Sq{m m':MT}(h:m=m')(d:Ax X es m'):Ax X es m:=by rw [h];exact d
theorem io{m m':MS}(h:m=m')(d:DS X s m'):DS X s m:=by rw [h];exact d
theorem JK{m m':MS}(h:m=m')(d:yi X ss m'):yi X ss m:=by rw [h];exact d
end
inductive GI where
 | fn (n:Nat) (f:List D->aa->Option (D×aa))
 | con (d:D)
 | blt
 | tab (l:List (ba×D))
structure CI where
 N:List Str
 sc:Scope
 all:Bool
 gs:List (Str×GI)
 mt:List Nat
 nx:Bool
noncomputable def GOk(X:Cx)(k:Nat)(x:Str):GI->Prop
 | .fn n f=>Fn X.prog X.w X.K X.mg X.base k x n f
 | .con d=>GC X.K X.mg x d
 | .blt=>X.mg x=U
 | .tab l=>vQ X.w X.K X.mg x l
structure NX(X:Cx):Prop where
 xe:X.xe=λ_ _=>False
 hs:X.stack=X.env::X.outer
 hfm:X.env.frame=O X.env.locals
 hex:X.ex=[]
structure hZ(k:Nat)(c:CI)(X:Cx):Prop where
 N:X.N=c.N
 nd:c.N.Nodup
 sc:X.env.scope=c.sc
 fk:c.sc.kind=.function
 fn:c.all=true->∀ x,X.fn x=true
 calm:X.calm=true
 room:Room k X.A
 xe:PassesOwn (model X.prog X.w) X.A X.env X.xe
 xf:c.nx=true->NX X
 gs:∀ p∈c.gs,GOk X k p.1 p.2
noncomputable def gC:ME:=λ_ _=>U
noncomputable def ud:MT:=λ_ _=>U
noncomputable def fT:MS:=λ_ _=>U
noncomputable def nM:MA:=λ_ _=>U
noncomputable def Ik:MG:=λ_ _ _=>U
section
variable{X:Cx}{k:Nat}{c:CI}{e:Expr}{pos:Pos}
theorem bu:DE X e gC:=λ_ _ _ _ _ _ ⟨_,_,_,_,_,_,_,h,_⟩=>by cases h
theorem on:DT X e ud:=λ_ _ _ _ _ _ ⟨_,_,_,_,_,_,_,h,_⟩=>by cases h
theorem im{s:Stmt}:DS X s fT:=λ_ _ _ _ _ _ ⟨_,_,_,_,_,_,h,_⟩=>by cases h
theorem oo{s:Stmt}{g:MG}:DS X s (aE gC g):=by
 rw [show aE gC g=fT from by rw [gf];rfl]
 exact im
theorem RP{s:List Stmt}:yi X s fT:=λ_ _ _ _ _ _ ⟨_,_,_,_,_,_,h,_⟩=>by cases h
theorem da_no{es:List Expr}:DA X es nM:=λ_ _ _ _ _ _ _ ⟨_,_,_,_,_,_,_,h,_⟩=>by cases h
theorem tL{tg:Expr}:DI X tg e nM:=λ_ _ _ _ _ _ ⟨_,_,_,_,_,_,_,h,_⟩=>by cases h
theorem vJ:DG X e Ik:=λ_ _ _ _ _ _ _ _ _ ⟨_,_,_,_,_,_,_,_,_,h,_⟩=>by cases h
noncomputable def mQ(x:Str):List Str->Option Nat
 | []=>U
 | y::r=>if x == y then O 0 else (mQ x r).map (· + 1)
theorem cP{x:Str}:∀ {l:List Str} {i:Nat},mQ x l=O i->l[i]?=O x
 | y::r,i,h=>by
  unfold mQ at h
  split at h
  ·rename_i e;cases h;simp at e;simp [e]
  ·cases q:mQ x r with
   | none=>rw [q] at h;cases h
   | some j=>rw [q] at h;cases h;simpa using cP q
noncomputable def fu(x:Str):Bool:=!(x == ("__debug__":Str)) && !(x == ("__classdict__":Str)) && !(x == ("__name__":Str))
theorem cD{x:Str}(h:fu x=true):(x == ("__debug__":Str))=false:=by
 unfold fu at h;rw [SM,SM] at h;simpa only [Bool.not_eq_true'] using h.1.1
theorem GY{x:Str}(h:fu x=true):(x == ("__classdict__":Str))=false:=by
 unfold fu at h;rw [SM,SM] at h;simpa only [Bool.not_eq_true'] using h.1.2
theorem eX{x:Str}(h:fu x=true):x ≠ "__name__":=by
 unfold fu at h;rw [SM,SM] at h
 have:=h.2
 rw [Bool.not_eq_true'] at this
 intro z;rw [z] at this;simp at this
noncomputable def Rx(c:CI)(x:Str):Option GI:=match c.sc.names.lookup x with | some .globalImplicit=>if fu x then c.gs.lookup x else U | _=>U
theorem jC{g:GI}{x:Str}(C:hZ k c X)(h:Rx c x=O g):Gl X x/\fu x=true/\GOk X k x g:=by
 unfold Rx at h
 split at h
 ·rename_i e
  split at h
  ·rename_i o
   refine⟨?_,o,C.gs _ (Uz h)⟩
   show X.env.scope.names.lookup x=_
   rw [C.sc,e]
  ·cases h
 ·cases h
noncomputable def BJ(c:CI)(x:Str):ME:=match c.sc.names.lookup x with
 | some .globalImplicit=>match Rx c x with | some (.con d)=>mC d | _=>gC
 | some .local=>match mQ x c.N with | some i=>if fu x then ae i else gC | none=>gC
 | some .cell=>match mQ x c.N with | some i=>if fu x then ae i else gC | none=>gC
 | some .free=>match mQ x c.N with | some i=>if fu x then ae i else gC | none=>gC
 | _=>gC
theorem mV(C:hZ k c X){x:Str}(hv:Vis c.sc x):DE X (.Name x pos) (match mQ x c.N with | some i=>if fu x then ae i else gC | none=>gC):=by
 split
 ·rename_i i e
  split
  ·rename_i o
   exact aZ CA <| M.RX (by rw [C.N];exact cP e) (by rw [C.sc];exact hv) (cD o) (GY o)
  ·exact bu
 ·exact bu
theorem EK(C:hZ k c X)(x:Str):DE X (.Name x pos) (BJ c x):=by
 unfold BJ
 split
 ·split
  ·rename_i d e
   obtain⟨g,o,G⟩:=jC C e
   exact aZ sA <| M.MU G g (cD o)
  ·exact bu
 ·rename_i e;exact mV C (.inl e)
 ·rename_i e;exact mV C (.inr (.inl e))
 ·rename_i e;exact mV C (.inr (.inr e))
 ·exact bu
noncomputable def Dm:Const->ME
 | .int i=>mC (.int i)
 | .bool b=>mC (.bl b)
 | .none=>mC .non
 | .str x=>mC (.str x)
 | _=>gC
theorem BM(v:Const){j:Nat}:DE X (.Constant v j pos) (Dm v):=by
 cases v <;> first | exact aZ sA <| M.Sf | exact aZ sA <| M.de_bl | exact aZ sA <| M.Sb | exact aZ sA <| M.RZ | exact bu
noncomputable def IQ(z:Bool)(op:Operator)(a b:ME):ME:=match op with
 | .Add=>if z then ay aY a b else ay bH a b
 | .Sub=>ay Iv a b
 | .Mult=>if z then ay mq a b else ay dN a b
 | .Mod=>ay ke a b
 | .FloorDiv=>ay EI a b
 | .Pow=>ay ug a b
 | _=>gC
theorem IP{z:Bool}{op:Operator}{a b:Expr}{ma mb:ME}(ha:DE X a ma)(hb:DE X b mb):DE X (.BinOp a op b pos) (IQ z op ma mb):=by
 cases op <;> first | exact bu | skip
 ·cases z
  ·exact aZ gB <| M.qo Lp ha hb
  ·exact aZ gB <| M.qo Lq ha hb
 ·exact aZ gB <| M.qo PQ ha hb
 ·cases z
  ·exact aZ gB <| M.qo Ln ha hb
  ·exact aZ gB <| M.qo Lo ha hb
 ·exact aZ gB <| M.qo PV ha hb
 ·exact aZ gB <| M.qo PR ha hb
 ·exact aZ gB <| M.qo PY ha hb
noncomputable def evUn(op:UnaryOp)(a:ME):ME:=match op with
 | .Not=>gO a
 | .USub=>xm RC a
 | _=>gC
theorem Mf{op:UnaryOp}{a:Expr}{ma:ME}(ha:DE X a ma):DE X (.UnaryOp op a pos) (evUn op ma):=by
 cases op <;> first | exact bu | skip
 ·exact aZ zj <| M.MN ha
 ·exact aZ Hj <| M.de_un Kh ha
noncomputable def Sn:CmpOp->Option (aa->D->D->Option D)
 | .Eq=>O iP
 | .NotEq=>O qk
 | .Lt=>O fLt
 | .LtE=>O LY
 | .Gt=>O Kb
 | .GtE=>O fGe
 | .In=>O EH
 | .NotIn=>O mT
 | .Is=>O Ka
 | .IsNot=>O ig
theorem Ds{op:CmpOp}{f:aa->D->D->Option D}(r:Room k X.A)(h:Sn op=O f):OpR X (compareOp op) (jN X.K f):=by
 cases op <;> cases h
 ·exact op_Eq r.units
 ·exact op_Ne r.units
 ·exact op_Lt
 ·exact op_Le
 ·exact op_Gt
 ·exact op_Ge
 ·exact op_Is
 ·exact GX
 ·exact op_In r.units
 ·exact GW r.units
noncomputable def qr(z:Bool)(op:CmpOp):Option (aa->D->D->Option D):=if z then (match op with | .In=>O fInK | .NotIn=>O oa | op=>Sn op) else Sn op
theorem jG{z:Bool}{op:CmpOp}{f:aa->D->D->Option D}(r:Room k X.A)(h:qr z op=O f):OpR X (compareOp op) (jN X.K f):=by
 have hu:X.A.units+1<cLine:=by have:=r.units;omega
 unfold qr at h
 split at h
 ·split at h
  ·cases h;exact PX hu
  ·cases h;exact Eb hu
  ·exact Ds r h
 ·exact Ds r h
noncomputable def fv:Expr->Bool
 | .Set _ _ _=>false
 | _=>true
theorem ir{op:CmpOp}(h:fv e=true):behindInMarks op e=false:=by cases e <;> first | rfl | cases h
theorem cw(h:fv e=true)(x:Value):foldedSetIterable e X.env x=pure x:=by cases e <;> first | rfl | cases h
noncomputable def IN(c:CI)(E:CI->Expr->ME)(a:Expr)(ops:List CmpOp)(bs:List Expr):ME:=match ops,bs with
 | [op],[b]=>if fv b then (match qr (c.mt.contains 990000) op with | some f=>ay f (E c a) (E c b) | none=>gC) else gC
 | [op,op'],[b,d]=>if fv d then (match qr (c.mt.contains 990000) op,qr (c.mt.contains 990000) op' with | some f,O g=>bU f g (E c a) (E c b) (E c d) | _,_=>gC) else gC
 | _,_=>gC
noncomputable def BN(c:CI)(E:CI->Expr->ME)(a:Expr)(ops:List CmpOp)(bs:List Expr):MT:=match ops,bs with
 | [op],[b]=>if fv b then (match qr (c.mt.contains 990000) op with | some f=>aF (ay f (E c a) (E c b)) | none=>ud) else ud
 | [op,op'],[b,d]=>if fv d then (match qr (c.mt.contains 990000) op,qr (c.mt.contains 990000) op' with | some f,O g=>aF (bU f g (E c a) (E c b) (E c d)) | _,_=>ud) else ud
 | _,_=>ud
section
variable{E:CI->Expr->ME}{T:CI->Expr->MT}
theorem IM(C:hZ k c X)(hE:∀ e,DE X e (E c e)){a:Expr}{ops:List CmpOp}{bs:List Expr}:DE X (.Compare a ops bs pos) (IN c E a ops bs):=by
 unfold IN
 split
 ·split
  ·rename_i hm
   split
   ·rename_i f h;exact aZ gB <| M.Sh (jG C.room h) (hE _) (hE _) (ir hm)
   ·exact bu
  ·exact bu
 ·split
  ·rename_i hm
   split
   ·rename_i f g h1 h2;exact aZ pd <| M.JE (jG C.room h1) (jG C.room h2) (hE _) (hE _) (hE _) (ir hm)
   ·exact bu
  ·exact bu
 ·exact bu
theorem EO(C:hZ k c X)(hE:∀ e,DE X e (E c e)){a:Expr}{ops:List CmpOp}{bs:List Expr}:DT X (.Compare a ops bs pos) (BN c E a ops bs):=by
 unfold BN
 split
 ·split
  ·rename_i hm
   split
   ·rename_i f h;exact Aq Bo <| M.RO (jG C.room h) (hE _) (hE _) (ir hm)
   ·exact on
  ·exact on
 ·split
  ·rename_i hm
   split
   ·rename_i f g h1 h2;exact Aq Bp <| M.Jc (jG C.room h1) (jG C.room h2) (hE _) (hE _) (hE _) (ir hm)
   ·exact on
  ·exact on
 ·exact on
noncomputable def zW(f:ME->ME->ME):List ME->ME
 | []=>gC
 | [m]=>m
 | m::r=>f m (zW f r)
noncomputable def sW(f:MT->MT->MT):List MT->MT
 | []=>ud
 | [m]=>m
 | m::r=>f m (sW f r)
theorem vz{E:Expr->ME}(hE:∀ e,DE X e (E e)):∀ vs:List Expr,DE X (.BoolOp .And vs pos) (zW fe (vs.map E))
 | []=>bu
 | [e]=>Jx (hE e)
 | e::e'::r=>aZ CS <| M.MZ (hE e) (vz hE (e'::r))
theorem zV{E:Expr->ME}(hE:∀ e,DE X e (E e)):∀ vs:List Expr,DE X (.BoolOp .Or vs pos) (zW xp (vs.map E))
 | []=>bu
 | [e]=>Jx (hE e)
 | e::e'::r=>aZ Ho <| M.Sa (hE e) (zV hE (e'::r))
theorem EE{E:Expr->MT}(hE:∀ e,DT X e (E e)):∀ vs:List Expr,DT X (.BoolOp .And vs pos) (sW dG (vs.map E))
 | []=>on
 | [e]=>Mm (Do (hE e))
 | e::e'::r=>Mm (Du sB <| M.Ja (hE e) (foldT_andW hE (e'::r) (by simp)))
where foldT_andW {E:Expr->MT} (hE:∀ e,DT X e (E e)):∀ vs:List Expr,vs≠[]->DW X (.BoolOp .And vs pos) (sW dG (vs.map E))
 | [],h=>absurd rfl h
 | [e],_=>Do (hE e)
 | e::e'::r,_=>Du sB <| M.Ja (hE e) (foldT_andW hE (e'::r) (by simp))
theorem Il{E:Expr->MT}(hE:∀ e,DT X e (E e)):∀ vs:List Expr,DT X (.BoolOp .Or vs pos) (sW dX (vs.map E))
 | []=>on
 | [e]=>Mm (IZ (hE e))
 | e::e'::r=>Mm (Du xo <| M.Ol (hE e) (foldT_orW hE (e'::r) (by simp)))
where foldT_orW {E:Expr->MT} (hE:∀ e,DT X e (E e)):∀ vs:List Expr,vs≠[]->DW X (.BoolOp .Or vs pos) (sW dX (vs.map E))
 | [],h=>absurd rfl h
 | [e],_=>IZ (hE e)
 | e::e'::r,_=>Du xo <| M.Ol (hE e) (foldT_orW hE (e'::r) (by simp))
noncomputable def bB:Expr->Bool
 | .Starred _ _=>false
 | _=>true
theorem aR{es:List Expr}(h:bB e=true):starEach (e::es) X.env=(false,eval e X.env)::starEach es X.env:=by cases e <;> first | rfl | cases h
theorem gr:∀ {es:List Expr},es.all bB=true->(backTo pos (starEach es X.env)).any (·.1)=false
 | [],_=>rfl
 | e::es,h=>by
  rw [Ur,SM] at h
  rw [aR h.1]
  show (false||(backTo pos (starEach es X.env)).any (·.1))=false
  rw [gr h.2];rfl
noncomputable def tj(E:Expr->ME):List Expr->MA
 | []=>af
 | e::r=>if bB e then ac (E e) (tj E r) else nM
theorem dE{E:Expr->ME}(hE:∀ e,DE X e (E e)):∀ es:List Expr,DA X es (tj E es)
 | []=>Oq xq <| M.Sk
 | e::r=>by
  unfold tj
  split
  ·rename_i h;exact Oq zu <| M.Nc (hE e) (dE hE r) (aR h)
  ·exact da_no
noncomputable def evO(E:Expr->ME):Option Expr->MO
 | none=>cZ
 | some e=>eY (E e)
theorem IG{E:Expr->ME}(hE:∀ e,DE X e (E e)):∀ o:Option Expr,DO X o (evO E o)
 | none=>Oo uV <| M.Mw
 | some e=>Oo zh <| M.Mv (hE e)
noncomputable def yp(c:CI):Expr->Option (List (ba×D))
 | .Name x _=>match Rx c x with | some (.tab l)=>O l | _=>U
 | _=>U
theorem AG{a:Expr}{l:List (ba×D)}(C:hZ k c X)(h:yp c a=O l):∃ x p,a=.Name x p/\Gl X x/\fu x=true/\vQ X.w X.K X.mg x l:=by
 unfold yp at h
 split at h
 ·split at h
  ·rename_i e
   cases h
   obtain⟨g,o,G⟩:=jC C e
   exact⟨_,_,rfl,g,o,G⟩
  ·cases h
 ·cases h
noncomputable def Og(c:CI)(E:Expr->ME)(a i:Expr):ME:=match i with
 | .Slice lo hi st _=>match st with | none=>cY (E a) (evO E lo) (evO E hi) | some st=>(match lo,hi with | none,U=>gC | _,_=>gC)
 | i=>match yp c a with | some l=>cI l (E i) | none=>if c.mt.contains 980000 then ay BH (E a) (E i) else ay aQ (E a) (E i)
theorem EJ(C:hZ k c X){E:Expr->ME}(hE:∀ e,DE X e (E e))(a i:Expr)(hs:qY i:=by intro _ _;rfl):DE X (.Subscript a i pos) (match yp c a with | some l=>cI l (E i) | none=>if c.mt.contains 980000 then ay BH (E a) (E i) else ay aQ (E a) (E i)):=by
 cases ht:yp c a with
 | none=>
  dsimp only
  split
  ·exact aZ gB (PE.imp (GN ix_S (hE a) (hE _) hs) λ_ _ _ h=>rA h)
  ·exact aZ gB <| M.Se (by have:=C.room.units;omega) (hE a) (hE _) hs
 | some l=>
  obtain⟨x,p,rfl,g,o,G⟩:=AG C ht
  exact aZ uR (M.Jt G g (cD o) (hE _) hs)
theorem ID(C:hZ k c X){E:Expr->ME}(hE:∀ e,DE X e (E e))(a i:Expr):DE X (.Subscript a i pos) (Og c E a i):=by
 cases i with
 | Slice lo hi st p=>
  cases st with
  | none=>exact aZ uT <| M.Jv (hE a) (IG hE lo) (IG hE hi)
  | some st=>
   cases lo with
   | none=>
    cases hi with
    | none=>exact bu
    | some _=>exact bu
   | some _=>exact bu
 | _=>exact EJ C hE a _
noncomputable def rV:Expr->Option Str
 | .Name x _=>O x
 | _=>U
theorem la{x:Str}(h:rV e=O x):∃ p,e=.Name x p:=by cases e <;> cases h;exact⟨_,rfl⟩
noncomputable def pI:Expr->Option (Str×List Expr)
 | .Call f es [] _=>(rV f).map λx=>(x,es)
 | _=>U
theorem jb{x:Str}{es:List Expr}(h:pI e=O (x,es)):∃ p p2,e=.Call (.Name x p) es [] p2:=by
 cases e with
 | Call f es' ks p2=>
  cases ks with
  | nil=>
   obtain⟨y,h1,h2⟩:=VJ.mp h
   cases h2
   obtain⟨p,rfl⟩:=la h1
   exact⟨p,p2,rfl⟩
  | cons _ _=>cases h
 | _=>cases h
noncomputable def ll(c:CI)(x:Str):Bool:=match Rx c x with | some .blt=>true | _=>false
theorem jx{x:Str}(C:hZ k c X)(h:ll c x=true):X.mg x=U/\Gl X x/\fu x=true:=by
 unfold ll at h
 split at h
 ·rename_i e;obtain⟨a,b,d⟩:=jC C e;exact⟨d,a,b⟩
 ·cases h
noncomputable def AL(c:CI)(es:List Expr):Option Expr:=match es with
 | [e1]=>match pI e1 with
  | some (y,[a])=>if y == "set" && ll c y&&bB a then O a else U
  | _=>U
 | _=>U
theorem yw{es:List Expr}{a:Expr}(h:AL c es=O a):∃ p p2,es=[.Call (.Name "set" p) [a] [] p2]/\ll c "set" = true/\bB a=true:=by
 unfold AL at h
 split at h
 ·split at h
  ·rename_i hc
   split at h
   ·rename_i hb
    cases h
    rw [SM,SM] at hb
    obtain⟨p,p2,rfl⟩:=jb hc
    have z:=hb.1.1
    rw [beq_iff_eq] at z;subst z
    exact⟨p,p2,rfl,hb.1.2,hb.2⟩
   ·cases h
  ·cases h
 ·cases h
noncomputable def rN(c:CI)(es:List Expr):Option Expr:=match es with
 | [e1]=>match pI e1 with
  | some (y,[a])=>if y == "range" && ll c y&&bB a then O a else U
  | _=>U
 | _=>U
theorem tZ{es:List Expr}{a:Expr}(h:rN c es=O a):∃ p p2,es=[.Call (.Name "range" p) [a] [] p2]/\ll c "range" = true/\bB a=true:=by
 unfold rN at h
 split at h
 ·split at h
  ·rename_i hc
   split at h
   ·rename_i hb
    cases h
    rw [SM,SM] at hb
    obtain⟨p,p2,rfl⟩:=jb hc
    have z:=hb.1.1
    rw [beq_iff_eq] at z;subst z
    exact⟨p,p2,rfl,hb.1.2,hb.2⟩
   ·cases h
  ·cases h
 ·cases h
noncomputable def Sr(z y n:Bool)(x:Str):Option (List D->aa->Option (D×aa)):=
 if x == "len" then O (aq eN) else if x == "int" then O (aq (if n then mr else kN)) else if x == "max" then O (aq sY) else if x == "min" then O (aq zY)
 else if x == "list" then O (aq (fS .lst)) else if x == "tuple" then O (aq (fS .tup)) else if x == "all" then O (aq pv) else if x == "str" then O (aq ce) else U
set_option maxHeartbeats 800000 in
theorem Nh{zz yy nn:Bool}{x:Str}{f:List D->aa->Option (D×aa)}{es:List Expr}{ms:MA}{p:Pos}(C:hZ k c X)(h:Sr zz yy nn x=O f)(hm:X.mg x=U)(hg:Gl X x)(o:fu x=true)(hs:(e::es).all bB=true)(ha:DA X (e::es) ms) :
  DE X (.Call (.Name x p) (e::es) [] pos) (aA f ms):=by
 rw [Ur,SM] at hs
 have q1:=aR (X:=X) (es:=es) hs.1
 have q2:=gr (X:=X) (pos:=pos) hs.2
 unfold Sr at h
 split at h
 ·rename_i z;cases h;rw [beq_iff_eq] at z;subst z;exact aZ fc <| M.ou JP hm boot_len ha hg (eX o) (cD o) q1 q2
 split at h
 ·rename_i z;cases h;rw [beq_iff_eq] at z;subst z;cases nn;exact aZ fc <| M.jF JQ hm boot_int ha hg (eX o) (cD o) q1 q2;exact aZ fc <| M.jF Fx hm boot_int ha hg (eX o) (cD o) q1 q2
 split at h
 ·rename_i z;cases h;rw [beq_iff_eq] at z;subst z;exact aZ fc <| M.ou (Fu C.calm) hm boot_max ha hg (eX o) (cD o) q1 q2
 split at h
 ·rename_i z;cases h;rw [beq_iff_eq] at z;subst z;exact aZ fc <| M.ou (Ft C.calm) hm boot_min ha hg (eX o) (cD o) q1 q2
 split at h
 ·rename_i z;cases h;rw [beq_iff_eq] at z;subst z;exact aZ fc <| M.jF Fw hm boot_list ha hg (eX o) (cD o) q1 q2
 split at h
 ·rename_i z;cases h;rw [beq_iff_eq] at z;subst z;exact aZ fc <| M.jF Cb hm boot_tuple ha hg (eX o) (cD o) q1 q2
 split at h
 ·rename_i z;cases h;rw [beq_iff_eq] at z;subst z;exact aZ fc <| M.ou (JR C.calm) hm boot_all ha hg (eX o) (cD o) q1 q2
 split at h
 ·rename_i z;cases h;rw [beq_iff_eq] at z;subst z;exact aZ fc <| M.jF JO hm boot_str ha hg (eX o) (cD o) q1 q2
 cases h
noncomputable def OB(x:Str):Option String:=if x == "int" then O "int" else if x == "bool" then O "bool" else if x == "str" then O "str" else if x == "tuple" then O "tuple" else if x == "list" then O "list" else if x == "dict" then O "dict" else U
theorem Cj{x:Str}{T:String}(h:OB x=O T):bootBuiltins x=O (.type T)/\(T = "int"\/T = "bool"\/T = "str"\/T = "tuple"\/T = "list"\/T = "dict"):=by
 unfold OB at h
 split at h
 ·rename_i z;cases h;rw [beq_iff_eq] at z;subst z;exact⟨boot_int,by simp⟩
 split at h
 ·rename_i z;cases h;rw [beq_iff_eq] at z;subst z;exact⟨boot_bool,by simp⟩
 split at h
 ·rename_i z;cases h;rw [beq_iff_eq] at z;subst z;exact⟨boot_str,by simp⟩
 split at h
 ·rename_i z;cases h;rw [beq_iff_eq] at z;subst z;exact⟨boot_tuple,by simp⟩
 split at h
 ·rename_i z;cases h;rw [beq_iff_eq] at z;subst z;exact⟨boot_list,by simp⟩
 split at h
 ·rename_i z;cases h;rw [beq_iff_eq] at z;subst z;exact⟨boot_dict,by simp⟩
 cases h
noncomputable def Oh(c:CI)(E:Expr->ME):List Expr->ME
 | [a,t]=>match rV t with
  | some y=>match Rx c y,OB y with | some .blt,O T=>if bB a then db T (E a) else gC | _,_=>gC
  | none=>gC
 | _=>gC
noncomputable def xU(c:CI)(E:Expr->ME)(x:Str)(es:List Expr):ME:=match Rx c x with
 | some (.fn n f)=>match es with
  | []=>if n == 0 then ag 0 f af else gC
  | e::r=>if (e::r).all bB then ag n f (tj E (e::r)) else gC
 | some .blt=>if x == "isinstance" then Oh c E es else match (if x == "len" then AL c es else U) with
  | some a=>ca (tj E [a])
  | none=>match (if x == "list" then rN c es else U) with
  | some a=>da (tj E [a])
  | none=>match Sr (c.mt.contains 400000) (c.mt.contains 950000) (c.mt.contains 960000) x,es with
   | some f,e::r=>if (e::r).all bB then aA f (tj E (e::r)) else gC
   | _,_=>gC
 | _=>gC
theorem EQ(C:hZ k c X){E:Expr->ME}(hE:∀ e,DE X e (E e)){x:Str}{es:List Expr}{p:Pos}:DE X (.Call (.Name x p) es [] pos) (xU c E x es):=by
 unfold xU
 split
 ·rename_i n f hg
  obtain⟨g,o,G⟩:=jC C hg
  split
  ·split
   ·rename_i hn
    have:n=0:=by simpa using hn
    subst this
    exact aZ Bt <| M.JF G C.room g (cD o)
   ·exact bu
  ·split
   ·rename_i hs
    have hs':=hs
    rw [Ur,SM] at hs
    exact aZ pe <| M.MY G C.room (dE hE _) g (cD o) (aR hs.1) (gr hs.2)
   ·exact bu
 ·rename_i hg
  obtain⟨g,o,G⟩:=jC C hg
  split
  ·rename_i z
   rw [beq_iff_eq] at z;subst z
   unfold Oh
   split
   ·split
    ·rename_i y hy
     obtain⟨p2,rfl⟩:=la hy
     split
     ·rename_i T h1 h2
      obtain⟨g',o',G'⟩:=jC C h1
      split
      ·rename_i hs
       exact aZ CK <| M.Fc G G' (Cj h2).1 (hE _) (Cj h2).2 g g' (eX o') (cD o') (aR hs) rfl rfl
      ·exact bu
     ·exact bu
    ·exact bu
   ·exact bu
  ·split
   ·rename_i a ha
    split at ha
    ·rename_i z
     rw [beq_iff_eq] at z;subst z
     obtain⟨p3,p4,rfl,hb,hs⟩:=yw ha
     obtain⟨m2,g2,o2⟩:=jx C hb
     exact aZ sr (M.Fa C.calm G m2 g g2 (dE hE _) (aR hs))
    ·cases ha
   ·split
    ·rename_i a ha
     split at ha
     ·rename_i z
      rw [beq_iff_eq] at z;subst z
      obtain⟨p3,p4,rfl,hb,hs⟩:=tZ ha
      obtain⟨m2,g2,o2⟩:=jx C hb
      exact aZ uX (M.Jz C.calm G m2 g g2 (dE hE _) (aR hs))
     ·cases ha
    ·split
     ·rename_i _ f e r hf
      split
      ·rename_i hs
       exact Nh C (by assumption) G g o hs (dE hE _)
      ·exact bu
     ·exact bu
 ·exact bu
noncomputable def Cc:Expr->Option (Expr×Str×Pos)
 | .Attribute o nm ap=>O (o,nm,ap)
 | _=>U
theorem As{o:Expr}{nm:Str}{ap:Pos}(h:Cc e=O (o,nm,ap)):e=.Attribute o nm ap:=by cases e <;> cases h;rfl
noncomputable def Hd(x:Str):Option MF:=if x == "append" then O cX else if x == "insert" then O gJ else if x == "count" then O xM else U
theorem Hc{x:Str}{f:MF}(C:hZ k c X)(h:Hd x=O f):∃ id,Slot "list" x id/\typeOf (.builtin id)=pure (.type "method_descriptor")/\MtR X id (Ky X.K f):=by
 unfold Hd at h
 split at h
 ·rename_i z;cases h;rw [beq_iff_eq] at z;subst z;exact⟨_,Xt,F.type_list_append,Eg⟩
 split at h
 ·rename_i z;cases h;rw [beq_iff_eq] at z;subst z;exact⟨_,Xs,F.type_list_insert,Ef⟩
 split at h
 ·rename_i z;cases h;rw [beq_iff_eq] at z;subst z;exact⟨_,F.slot_list_count,F.type_list_count,Hb C.room.units⟩
 cases h
noncomputable def Bg(x:Str):Option MF:=if x == "get" then O og else U
theorem Eh{x:Str}{f:MF}(C:hZ k c X)(h:Bg x=O f):∃ id,Slot "dict" x id/\typeOf (.builtin id)=pure (.type "method_descriptor")/\MtR X id (Ky X.K f):=by
 unfold Bg at h
 split at h
 ·rename_i z;cases h;rw [beq_iff_eq] at z;subst z;exact⟨_,Vs,F.type_dict_get,Lz (by have:=C.room.units;omega)⟩
 cases h
theorem yu:∀ {es:List Expr},es.all bB=true->(backTo pos (starEach es X.env)).all (λx=>!x.1)=true
 | [],_=>rfl
 | e::es,h=>by
  rw [Ur,SM] at h
  rw [aR h.1]
  show (true&&(backTo pos (starEach es X.env)).all (λx=>!x.1))=true
  rw [yu h.2];rfl
noncomputable def Pl(o:Expr):Bool:=match o with | .Call (.Name id _) [] [] _=>id != ("super":Str) | .Call _ _ _ _=>false | _=>true
noncomputable def xR(z:Bool)(E:Expr->ME)(o:Expr)(nm:Str)(ap cp:Pos)(es:List Expr):ME:=match Pl o,es with
 | true,e::r=>if (e::r).all bB&&(decide ((e::r).length<30)&&ap.endLine == cp.line) then
   (if nm == "count" then gC else if nm == "join" then bL (E o) (tj E (e::r)) else if nm == "split" then cJ (E o) (tj E (e::r)) else match Bg nm with | some f=>cK f (E o) (tj E (e::r)) | none=>match Hd nm with | some f=>cT f (E o) (tj E (e::r)) | none=>gC) else gC
 | _,_=>gC
theorem EL{z:Bool}(C:hZ k c X){E:Expr->ME}(hE:∀ e,DE X e (E e)){o:Expr}{nm:Str}{ap:Pos}{es:List Expr}:DE X (.Call (.Attribute o nm ap) es [] pos) (xR z E o nm ap pos es):=by
 unfold xR
 split
 ·rename_i e r hx
  split
  ·rename_i h
   rw [SM,SM] at h
   have hs:=h.1
   rw [Ur,SM] at hs
   have few:((backTo pos (starEach (e::r) X.env)).all (λx=>!x.1)&&(backToKw pos (keywordEach [] X.env)).all (λx=>x.1.isSome)&&decide ((e::r).length+([]:List Keyword).length+(if ([]:List Keyword).isEmpty then 0 else 1)<30))=true:=by
    rw [yu h.1]
    show (true&&decide ((e::r).length+0+0<30))=true
    exact h.2.1
   split
   ·rename_i hc
    rw [beq_iff_eq] at hc;subst hc
    exact bu
   split
   ·rename_i hc
    rw [beq_iff_eq] at hc;subst hc
    exact aZ uU (M.Jw (hE _) (dE hE _) (lO hx) few h.2.2 (aR hs.1) (gr hs.2))
   split
   ·rename_i hc
    rw [beq_iff_eq] at hc;subst hc
    exact aZ uS (M.Ju (hE _) (dE hE _) (lO hx) few h.2.2 (aR hs.1) (gr hs.2))
   ·split
    ·rename_i f hf
     obtain⟨id,h1,h2,h3⟩:=Eh C hf
     exact aZ uW (M.Jy h1 h2 h3 (hE _) (dE hE _) (lO hx) few h.2.2 (aR hs.1) (gr hs.2))
    ·split
     ·rename_i f hf
      obtain⟨id,h1,h2,h3⟩:=Hc C hf
      exact aZ zl (M.MQ h1 h2 h3 (hE _) (dE hE _) (lO hx) few h.2.2 (aR hs.1) (gr hs.2))
     ·exact bu
  ·exact bu
 ·exact bu
noncomputable def yM:Expr->Bool
 | .Slice _ _ _ _=>false
 | _=>true
noncomputable def Ab(G:Expr->MG):List Expr->lU
 | []=>be
 | e::r=>ai (if bB e then G e else Ik) (Ab G r)
noncomputable def qG(c:CI)(x:Str):MG:=match c.sc.names.lookup x,mQ x c.N with
 | some .local,O i=>ah i
 | some .cell,O i=>if c.all then ah i else Ik
 | _,_=>Ik
noncomputable def IJ(c:CI)(E:Expr->ME):Expr->MG
 | .Name x _=>qG c x
 | .Subscript o i _=>if yM i then ei (E o) (E i) else Ik
 | _=>Ik
noncomputable def AK:List Expr->Option (Expr×Expr)
 | [a,b]=>match b with | .Starred e _=>if bB a&&bB e then O (a,e) else U | _=>U
 | _=>U
noncomputable def RM(c:CI)(G1 G:Expr->MG)(es:List Expr):MG:=if es.all bB then (if c.mt.contains 975000 then gp es.length (Ab G es) else bg es.length (Ab G es)) else match AK es with | some (a,b)=>gh (Ab G1 [a,b]) | none=>Ik
noncomputable def Dl(c:CI)(E:Expr->ME):Expr->MG
 | .Tuple es _ _=>RM c (IJ c E) (λe=>match e with | .Tuple es _ _=>if es.all bB then bg es.length (Ab (IJ c E) es) else Ik | e=>IJ c E e) es
 | e=>IJ c E e
theorem Mi(C:hZ k c X)(x:Str):DG X (.Name x pos) (qG c x):=by
 unfold qG
 split
 ·rename_i h1 h2
  exact tR jZ <| M.Dq (by rw [C.N];exact C.nd) (by rw [C.N];exact cP h2) (by rw [C.sc];exact .inl h1) (.inr (by rw [C.sc];exact h1))
 ·rename_i h1 h2
  split
  ·rename_i ha
   exact tR jZ <| M.Dq (by rw [C.N];exact C.nd) (by rw [C.N];exact cP h2) (by rw [C.sc];exact .inr h1) (.inl (C.fn ha x))
  ·exact vJ
 ·exact vJ
theorem Mj(C:hZ k c X){E:Expr->ME}(hE:∀ e,DE X e (E e))(e:Expr):DG X e (IJ c E e):=by
 cases e with
 | Name x p=>exact Mi C x
 | Subscript o i p=>
  show DG X _ (if yM i then ei (E o) (E i) else Ik)
  split
  ·rename_i h
   refine tR zR (M.RV (hE o) (hE i) ?_)
   cases i <;> first | (intro _;rfl) | cases h
  ·exact vJ
 | _=>exact vJ
theorem iE{es:List Expr}(h:bB e=true):assignEach (e::es) X.env=(false,assign e X.env)::assignEach es X.env:=by cases e <;> first | rfl | cases h
theorem ku:∀ {es:List Expr},es.all bB=true->(assignEach es X.env).length=es.length/\(assignEach es X.env).findIdx? (·.1)=U
 | [],_=>⟨rfl,rfl⟩
 | e::es,h=>by
  rw [Ur,SM] at h
  rw [iE h.1]
  obtain⟨a,b⟩:=ku h.2
  exact⟨by simp [a],by simp [List.findIdx?_cons,b]⟩
theorem oh{G:Expr->MG}(hG:∀ e,DG X e (G e)):∀ es:List Expr,es.all bB=true->Nu X es (Ab G es)
 | [],_=>JM zT <| M.Mz
 | e::r,h=>by
  rw [Ur,SM] at h
  unfold Ab
  rw [Td h.1]
  exact JM vw <| M.Jm (hG e) (oh hG r h.2) (by rw [iE h.1];rfl)
theorem Mh(C:hZ k c X){G:Expr->MG}(hG:∀ e,DG X e (G e))(es:List Expr)(j:Nat):DG X (.Tuple es j pos) (if es.all bB then bg es.length (Ab G es) else Ik):=by
 split
 ·rename_i h
  exact tR jB <| M.Jn C.calm (oh hG es h) (ku h).1 (ku h).2
 ·exact vJ
theorem yv{es:List Expr}{a b:Expr}(h:AK es=O (a,b)):∃ p,es=[a,.Starred b p]/\bB a=true/\bB b=true:=by
 unfold AK at h
 split at h
 ·split at h
  ·split at h
   ·rename_i q
    cases h
    rw [SM] at q
    exact⟨_,rfl,q.1,q.2⟩
   ·cases h
  ·cases h
 ·cases h
theorem II(C:hZ k c X){G1 G:Expr->MG}(hG1:∀ e,DG X e (G1 e))(hG:∀ e,DG X e (G e))(es:List Expr)(j:Nat):DG X (.Tuple es j pos) (RM c G1 G es):=by
 unfold RM
 split
 ·rename_i h
  split
  ·exact tR zQ <| M.MC C.calm (oh hG es h) (ku h).1 (ku h).2
  ·exact tR jB <| M.Jn C.calm (oh hG es h) (ku h).1 (ku h).2
 ·split
  ·rename_i a b hs
   obtain⟨p,rfl,ha,hb⟩:=yv hs
   have e1:assignEach [a,.Starred b p] X.env=[(false,assign a X.env),(true,assign b X.env)]:=by rw [iE ha];rfl
   have e2:assignEach [a,b] X.env=[(false,assign a X.env),(false,assign b X.env)]:=by rw [iE ha,iE hb];rfl
   refine tR zS <| M.MD C.calm (oh hG1 [a,b] (by simp [ha,hb])) ?_ ?_ ?_
   ·rw [e1,e2];rfl
   ·rw [e1];rfl
   ·rw [e1];rfl
  ·exact vJ
theorem gi(C:hZ k c X){E:Expr->ME}(hE:∀ e,DE X e (E e))(e:Expr):DG X e (Dl c E e):=by
 have h1:=Mj C hE
 cases e with
 | Tuple es j p=>
  refine II C h1 (λe=>?_) es j
  cases e with
  | Tuple es j p=>exact Mh C h1 es j
  | _=>exact h1 _
 | _=>exact h1 _
noncomputable def Oi(c:CI)(E:Expr->ME)(tg it:Expr):MA:=match pI it with
 | some (x,es)=>if x == "enumerate" && ll c x then (match tg,es with
   | .Tuple _ _ _,[a]=>if bB a then (if c.mt.contains 985000 then dZ (tj E [a]) else gc (tj E [a])) else nM
   | _,_=>nM) else if x == "zip" && ll c x then (match tg,es with
   | .Tuple _ _ tp,[a,b]=>if bB a&&bB b then (jt (tj E [a,b])) else nM
   | _,_=>nM) else if x == "range" && ll c x then (match es with
   | [a]=>if bB a then aL (tj E [a]) else nM
   | [a,b]=>if bB a&&bB b then cq (tj E [a,b]) else nM
   | _=>nM) else cf (E it)
 | none=>if c.mt.contains 970000 then lf (E it) else cf (E it)
theorem lv(C:hZ k c X){E:Expr->ME}(hE:∀ e,DE X e (E e)){tg it:Expr}:DI X tg it (Oi c E tg it):=by
 unfold Oi
 split
 ·rename_i x es he
  obtain⟨p,p2,rfl⟩:=jb he
  split
  ·rename_i hx
   rw [SM] at hx
   obtain⟨m,g,o⟩:=jx C hx.2
   have z:=hx.1
   rw [beq_iff_eq] at z;subst z
   split
   ·split
    ·rename_i h
     split
     ·exact qt uY (M.Jl m (dE hE _) g (aR h))
     ·exact qt zp (M.My m (dE hE _) g (aR h))
    ·exact tL
   ·exact tL
  split
  ·rename_i hx
   rw [SM] at hx
   obtain⟨m,g,o⟩:=jx C hx.2
   have z:=hx.1
   rw [beq_iff_eq] at z;subst z
   split
   ·split
    ·rename_i h
     rw [SM] at h
     exact qt Cy (M.RT m (dE hE _) g (by rw [aR h.1,aR h.2];rfl) (aR h.2))
    ·exact tL
   ·exact tL
  split
  ·rename_i hx
   rw [SM] at hx
   obtain⟨m,g,o⟩:=jx C hx.2
   have z:=hx.1
   rw [beq_iff_eq] at z;subst z
   split
   ·split
    ·rename_i h
     exact qt mH <| M.EX m (dE hE _) g (aR h)
    ·exact tL
   ·split
    ·rename_i h
     rw [SM] at h
     exact qt sq <| M.EW m (dE hE _) g (by rw [aR h.1,aR h.2];rfl) (aR h.2)
    ·exact tL
   ·exact tL
  ·exact qt qQ <| M.BU (hE _)
 ·split
  ·exact qt CJ <| M.RU (hE _)
  ·exact qt qQ <| M.BU (hE _)
noncomputable def NY(c:CI)(it:Expr):Bool:=match pI it with | some (x,_)=>(x == "enumerate" || x == "zip" || x == "range")&&ll c x | none=>false
noncomputable def kY(scope sc:Scope):Scope:={ scope with names:=scope.names.map λx=>match x with | (n,k)=>if (k == NameKind.free&&sc.kind == .function&&sc.names.lookup n == O .cell)=true then (n,.cell) else (n,k) }
theorem NB(scope:Scope)(env:Env):relabel scope env=kY scope env.scope:=rfl
noncomputable def Ar(scope:Scope):List Str:=(scope.names.filter λx=>x.2 == .local && !(x.1 == (".0":Str))).map (·.1)++(scope.names.filter λx=>x.2 == .free).map (·.1)
noncomputable def mY(c:CI)(scope:Scope):List (Option Nat):=(scope.names.filter λx=>x.2 == .local && !(x.1 == (".0":Str))).map (λ_=>U)++(scope.names.filter λx=>x.2 == .free).map (λx=>mQ x.1 c.N)
noncomputable def Fy(c:CI)(scope:Scope):Bool:=
 scope.kind == .function&&(scope.names.all λx=>x.2 != .cell)&&(scope.names.all λx=>x.2 != .local||scope.names.lookup x.1 == O .local)
 && (scope.names.all λx=>x.2 != .free||c.sc.names.lookup x.1 == O .cell||c.sc.names.lookup x.1 == O .free)
 && uk c.N (Ar scope) (λy=>c.sc.names.lookup y) (λy=>(kY scope c.sc).names.lookup y) (mY c scope) (Ar scope)&&decide (Ar scope).Nodup
noncomputable def il(c:CI)(scope:Scope):CI:=⟨Ar scope,kY scope c.sc,false,c.gs,c.mt,false⟩
theorem ko{scope:Scope}(C:hZ k c X)(h:Fy c scope=true):BlockOk X (Ar scope) scope (mY c scope)/\∀ A s H fp,hZ k (il c scope) (fU X (Ar scope) scope A s H fp):=by
 unfold Fy at h
 simp only [SM,TU,beq_iff_eq] at h
 obtain⟨⟨⟨⟨⟨h1,h2⟩,h3⟩,h4⟩,h5⟩,h6⟩:=h
 refine⟨blk h6 h1 h2 h3 ?_ ?_,λA s H fp=>⟨rfl,h6,?_,h1,(λz=>nomatch z),C.calm,C.room,WB,(λz=>nomatch z),C.gs⟩⟩
 ·show (scope.names.all λx=>x.2 != .free||X.env.scope.names.lookup x.1 == O .cell||X.env.scope.names.lookup x.1 == O .free)=true
  rw [C.sc];exact h4
 ·show uk X.N (Ar scope) (λy=>X.env.scope.names.lookup y) (λy=>(kY scope X.env.scope).names.lookup y) (mY c scope) (Ar scope)=true
  rw [C.sc,C.N];exact h5
 ·show kY scope X.env.scope=_
  rw [C.sc];rfl
noncomputable def BI(T:Expr->MT):List Expr->MT
 | []=>aG
 | [e]=>T e
 | _=>ud
theorem gK{T:Expr->MT}(hT:∀ e,DT X e (T e)):∀ es:List Expr,Ax X es (BI T es)
 | []=>Sq zg <| M.Jb
 | [e]=>Mk (hT e)
 | _::_::_=>λ_ _ _ _ _ _ ⟨_,_,_,_,_,_,_,h,_⟩=>by cases h
noncomputable def Mg(c:CI)(E:Expr->ME)(it:Expr):MA:=match pI it with
 | some (x,es)=>if x == "range" && ll c x then (match es with
   | [a]=>if bB a then aL (tj E [a]) else nM
   | _=>nM) else nM
 | none=>cf (E it)
theorem xS(C:hZ k c X){E:Expr->ME}(hE:∀ e,DE X e (E e)){tg it:Expr}:Nt X tg it (Mg c E it):=by
 have no:Nt X tg it nM:=λ_ _ _ _ _ _ h=>by obtain⟨_,_,_,_,_,_,_,h,_⟩:=h;cases h
 unfold Mg
 split
 ·rename_i x es he
  obtain⟨p,p2,rfl⟩:=jb he
  split
  ·rename_i hx
   rw [SM] at hx
   obtain⟨m,g,o⟩:=jx C hx.2
   have z:=hx.1
   rw [beq_iff_eq] at z;subst z
   split
   ·split
    ·rename_i h
     exact JL mH (M.BS m (dE hE _) g (aR h))
    ·exact no
   ·exact no
  ·exact no
 ·exact JL qQ (M.Mx (hE _))
theorem nD{e:Expr}(h:fv e=true)(env:Env)(x:Value):foldedSetIterable e env x=pure x:=by cases e <;> first | rfl | cases h
noncomputable def BO(c:CI)(E:Expr->ME)(T:Expr->MT)(elt:Expr):List Comprehension->Option MB
 | []=>O (sx (E elt))
 | ⟨tg,it,ifs,a⟩::r=>if a == 0&&fv it then (BO c E T elt r).bind λb=>O (gE (Mg c E it) (Dl c E tg) (BI T ifs) b) else U
noncomputable def Os(e elt:Expr)(d:Nat)(acc:Value)(env:Env):List Comprehension->Sem Unit
 | []=>pB elt acc env
 | g::_=>zN e g.iter d acc env
theorem Dp{α:Type}{l:List α}{d:Nat}{x:α}{r:List α}(h:l.drop d=x::r):l[d]?=O x/\l.drop (d+1)=r:=by
 have h1:(l.drop d)[0]?=O x:=by rw [h];rfl
 rw [VX,Nat.add_zero] at h1
 refine⟨h1,?_⟩
 rw [<- VT,h];rfl
theorem EV{α:Type}{l:List α}{d:Nat}(h:l.drop d=[]):l[d]?=U:=Vg (List.drop_eq_nil_iff.mp h)
theorem vF{E:Expr->ME}{T:Expr->MT}{elt:Expr}{g:Comprehension}{r:List Comprehension}{b:MB}(h:BO c E T elt (g::r)=O b):∃ tg it ifs,g=⟨tg,it,ifs,0⟩:=by
 obtain⟨tg,it,ifs,a⟩:=g
 unfold BO at h
 split at h
 ·rename_i q
  rw [SM,beq_iff_eq] at q
  rw [q.1]
  exact⟨_,_,_,rfl⟩
 ·cases h
theorem oD{E:Expr->ME}{T:Expr->MT}{elt tg iter:Expr}{gens r:List Comprehension}{ifs:List Expr}{scope:Scope}{d:Nat}{b:MB}(h1:gens[d]?=O ⟨tg,iter,ifs,0⟩)(h2:gens.drop (d+1)=r)(hb:BO c E T elt r=O b)(it acc:Value)(env:Env) :
  compTurn (.ListComp elt gens scope pos) d it acc env=cH (.ListComp elt gens scope pos) tg iter.pos ifs d it acc env (Os (.ListComp elt gens scope pos) elt (d+1) acc env r):=by
 cases r with
 | nil=>exact uj h1 (EV h2) it acc env
 | cons g r=>
  obtain⟨tg2,it2,ifs2,rfl⟩:=vF hb
  exact An h1 (Dp h2).1 it acc env
theorem xV{E:Expr->ME}{T:Expr->MT}(C:hZ k c X)(hx:∀ e s,X.xe e s->False)(hE:∀ e,DE X e (E e))(hT:∀ e,DT X e (T e)){elt:Expr}{gens:List Comprehension}{scope:Scope}{p:Addr}:∀ {rest:List Comprehension} {d:Nat} {b:MB},gens.drop d=rest->BO c E T elt rest=O b->Ou X (Os (.ListComp elt gens scope pos) elt d (.ref p) X.env rest) p b
 | [],d,b,_,h=>by cases h;exact Op Hw (Nb (hE elt))
 | g::r,d,b,hd,h=>by
  obtain⟨tg,it,ifs,rfl⟩:=vF h
  unfold BO at h
  split at h
  ·rename_i q
   rw [SM] at q
   obtain⟨b',hb,h⟩:=SJ.mp h
   cases h
   obtain⟨h1,h2⟩:=Dp hd
   exact Op CL (db_in C.calm hx h1 (λit=>oD h1 h2 hb it _ _) (xS C hE) (gi C hE tg) (gK hT ifs) (xV C hx hE hT h2 hb) (cw q.2))
  ·cases h
noncomputable def lz(c:CI)(E:CI->Expr->ME)(T:CI->Expr->MT)(elt:Expr)(gens:List Comprehension)(scope:Scope)(line:Nat):ME:=match gens with
 | [⟨tg,it,ifs,a⟩]=>if a == 0&&fv it&&Fy c scope then if c.mt.contains (line+100000) then gC else bF (Oi c (E c) tg it) (Dl (il c scope) (E (il c scope)) tg) (BI (T (il c scope)) ifs) (E (il c scope) elt) (mY c scope) else gC
 | [⟨tg,it,ifs,a⟩,⟨tg2,it2,ifs2,a2⟩]=>if a == 0&&a2 == 0&&fv it&&fv it2&&Fy c scope then cg (Oi c (E c) tg it) (Dl (il c scope) (E (il c scope)) tg) (BI (T (il c scope)) ifs) (Mg (il c scope) (E (il c scope)) it2) (Dl (il c scope) (E (il c scope)) tg2) (BI (T (il c scope)) ifs2) (E (il c scope) elt) (mY c scope) else gC
 | ⟨tg,it,ifs,a⟩::g2::g3::r=>if a == 0&&fv it&&Fy c scope then (match BO (il c scope) (E (il c scope)) (T (il c scope)) elt (g2::g3::r) with | some b=>cr (Oi c (E c) tg it) (Dl (il c scope) (E (il c scope)) tg) (BI (T (il c scope)) ifs) b (mY c scope) | none=>gC) else gC
 | _=>gC
theorem vE(C:hZ k c X)(hE:∀ c X,hZ k c X->∀ e,DE X e (E c e))(hT:∀ c X,hZ k c X->∀ e,DT X e (T c e)){elt:Expr}{gens:List Comprehension}{scope:Scope}{line:Nat}:DE X (.ListComp elt gens scope pos) (lz c E T elt gens scope line):=by
 unfold lz
 split
 ·rename_i tg it ifs a
  split
  ·rename_i h
   simp only [SM,beq_iff_eq] at h
   obtain⟨⟨h0,h1⟩,h2⟩:=h
   subst h0
   obtain⟨B,C'⟩:=ko C h2
   split
   ·exact bu
   ·exact aZ sy <| M.MX C.calm B (lv C (hE _ _ C)) (λA s H fp=>gi (C' A s H fp) (hE _ _ (C' A s H fp)) tg) (λA s H fp=>gK (hT _ _ (C' A s H fp)) ifs) (λA s H fp=>hE _ _ (C' A s H fp) elt) (cw h1)
  ·exact bu
 ·rename_i tg it ifs a tg2 it2 ifs2 a2
  split
  ·rename_i h
   simp only [SM,beq_iff_eq] at h
   obtain⟨⟨⟨⟨h0,h0'⟩,h1⟩,h1'⟩,h2⟩:=h
   subst h0 h0'
   obtain⟨B,C'⟩:=ko C h2
   exact aZ oZ <| M.JD C.calm B (lv C (hE _ _ C)) (λA s H fp=>gi (C' A s H fp) (hE _ _ (C' A s H fp)) tg) (λA s H fp=>gK (hT _ _ (C' A s H fp)) ifs) (λA s H fp=>xS (C' A s H fp) (hE _ _ (C' A s H fp))) (λA s H fp=>gi (C' A s H fp) (hE _ _ (C' A s H fp)) tg2) (λA s H fp=>gK (hT _ _ (C' A s H fp)) ifs2) (λA s H fp=>hE _ _ (C' A s H fp) elt) (cw h1) (nD h1')
  ·exact bu
 ·rename_i tg it ifs a g2 g3 r
  split
  ·rename_i h
   simp only [SM,beq_iff_eq] at h
   obtain⟨⟨h0,h1⟩,h2⟩:=h
   subst h0
   obtain⟨B,C'⟩:=ko C h2
   split
   ·rename_i b hb
    exact aZ oY <| M.JC C.calm B (lv C (hE _ _ C)) (λA s H fp=>gi (C' A s H fp) (hE _ _ (C' A s H fp)) tg) (λA s H fp=>gK (hT _ _ (C' A s H fp)) ifs) (λit acc env=>oD rfl rfl hb it acc env) (λA s H fp p=>xV (C' A s H fp) (λ_ _ z=>z) (hE _ _ (C' A s H fp)) (hT _ _ (C' A s H fp)) rfl hb) (cw h1)
   ·exact bu
  ·exact bu
 ·exact bu
noncomputable def xT(c:CI)(E:CI->Expr->ME)(T:CI->Expr->MT)(kx vx:Expr)(gens:List Comprehension)(scope:Scope):ME:=match gens with
 | [⟨tg,it,ifs,a⟩]=>if a == 0&&fv it&&Fy c scope then dc (Oi c (E c) tg it) (Dl (il c scope) (E (il c scope)) tg) (BI (T (il c scope)) ifs) (E (il c scope) kx) (E (il c scope) vx) (mY c scope) else gC
 | _=>gC
theorem BK(C:hZ k c X)(hE:∀ c X,hZ k c X->∀ e,DE X e (E c e))(hT:∀ c X,hZ k c X->∀ e,DT X e (T c e)){kx vx:Expr}{gens:List Comprehension}{scope:Scope}:DE X (.DictComp kx vx gens scope pos) (xT c E T kx vx gens scope):=by
 unfold xT
 split
 ·rename_i tg it ifs a
  split
  ·rename_i h
   simp only [SM,beq_iff_eq] at h
   obtain⟨⟨h0,h1⟩,h2⟩:=h
   subst h0
   obtain⟨B,C'⟩:=ko C h2
   exact aZ vb <| M.JB C.calm B (lv C (hE _ _ C)) (λA s H fp=>gi (C' A s H fp) (hE _ _ (C' A s H fp)) tg) (λA s H fp=>gK (hT _ _ (C' A s H fp)) ifs) (λA s H fp=>hE _ _ (C' A s H fp) kx) (λA s H fp=>hE _ _ (C' A s H fp) vx) (cw h1)
  ·exact bu
 ·exact bu
noncomputable def RL(E:Expr->ME):List (Option Expr)->List Expr->Option (List (ME×ME))
 | [],[]=>O []
 | some k::ks,v::vs=>(RL E ks vs).bind λr=>O ((E k,E v)::r)
 | _,_=>U
theorem Dj{E:Expr->ME}(hE:∀ e,DE X e (E e)):∀ {ks:List (Option Expr)} {vs:List Expr} {ms:List (ME×ME)},RL E ks vs=O ms->DPs X pos ks vs ms/\ks.all (·.isSome)=true/\ks.length=vs.length
 | [],[],ms,h=>by cases h;exact⟨Mu,rfl,rfl⟩
 | some k::ks,v::vs,ms,h=>by
  obtain⟨r,h1,h2⟩:=SJ.mp h
  cases h2
  obtain⟨a,b,d⟩:=Dj hE h1
  exact⟨Jh (hE k) (hE v) a,by rw [Ur,b];rfl,by rw [SY,SY,d]⟩
 | [],_::_,_,h=>by cases h
 | none::_,_,_,h=>by cases h
 | some _::_,[],_,h=>by cases h
noncomputable def BL(c:CI)(E:Expr->ME)(ks:List (Option Expr))(vs:List Expr)(line:Nat):ME:=match ks with
 | []=>if vs.isEmpty && !c.mt.contains line then mC (.dct [] []) else gC
 | k::r=>if (k::r).length<=15 then (match RL E (k::r) vs with | some ms=>if c.mt.contains line then dD ms else eZ ms | none=>gC) else gC
theorem EN{E:Expr->ME}(C:hZ k c X)(hE:∀ e,DE X e (E e))(ks:List (Option Expr))(vs:List Expr)(line:Nat):DE X (.Dict ks vs pos) (BL c E ks vs line):=by
 unfold BL
 split
 ·split
  ·rename_i h
   rw [SM] at h
   have:vs=[]:=by simpa using h.1
   subst this
   exact aZ sA <| M.MV
  ·exact bu
 ·rename_i k r
  split
  ·rename_i hl
   split
   ·rename_i ms h
    obtain⟨a,b,d⟩:=Dj (pos:=pos) hE h
    split
    ·exact aZ uZ (M.JA a b d (by simp) hl)
    ·exact aZ zr (M.MW a b d (by simp) hl)
   ·exact bu
  ·exact bu
theorem Jo{E:Expr->ME}(hE:∀ e,DE X e (E e)):∀ es:List Expr,M.DEs X es (es.map E)
 | []=>.nil
 | e::r=>.cons (hE e) (Jo hE r)
noncomputable def IH(E:Expr->ME):List Expr->ME
 | []=>gC
 | [e]=>E e
 | a::b::r=>bq ((a::b::r).map E) Str.empty
theorem EM{E:Expr->ME}(hE:∀ e,DE X e (E e)):∀ es:List Expr,DE X (.JoinedStr es pos) (IH E es)
 | []=>bu
 | [e]=>M.BV (hE e)
 | a::b::r=>aZ lH (M.Fb (Jo hE _))
noncomputable def IL(E:Expr->ME)(v:Expr)(cv:Int)(f:Option Expr):ME:=match cv,f with
 | -1,U=>dY (E v)
 | _,_=>gC
theorem IK{E:Expr->ME}(hE:∀ e,DE X e (E e)){v:Expr}{cv:Int}{f:Option Expr}:DE X (.FormattedValue v cv f pos) (IL E v cv f):=by
 unfold IL
 split
 ·exact aZ CP (M.Sg (hE v))
 ·exact bu
noncomputable def NA(E:CI->Expr->ME)(T:CI->Expr->MT)(c:CI):Expr->ME
 | .Constant v _ _=>Dm v
 | .Name x _=>BJ c x
 | .BinOp a op b p=>IQ (c.mt.contains (p.line+200000)) op (E c a) (E c b)
 | .UnaryOp op a _=>evUn op (E c a)
 | .Compare a ops bs _=>IN c E a ops bs
 | .BoolOp op vs _=>match op with | .And=>zW fe (vs.map (E c)) | .Or=>zW xp (vs.map (E c))
 | .IfExp t a b _=>nO (T c t) (E c a) (E c b)
 | .Tuple es _ _=>bZ (tj (E c) es)
 | .List es pos=>if c.mt.contains pos.line then dm (tj (E c) es) else cU (tj (E c) es)
 | .Dict ks vs pos=>BL c (E c) ks vs pos.line
 | .Subscript a i _=>Og c (E c) a i
 | .Call f es ks p=>match rV f,Cc f,ks with | some x,_,[]=>xU c (E c) x es | none,O (o,nm,ap),[]=>xR (c.mt.contains 500000) (E c) o nm ap p es | _,_,_=>gC
 | .ListComp elt gens scope p=>lz c E T elt gens scope p.line
 | .DictComp kx vx gens scope _=>xT c E T kx vx gens scope
 | .JoinedStr es _=>IH (E c) es
 | .FormattedValue v cv f _=>IL (E c) v cv f
 | _=>gC
noncomputable def Ny(E:CI->Expr->ME)(T:CI->Expr->MT)(c:CI):Expr->MT
 | .UnaryOp op a p=>match op with | .Not=>bK (T c a) | op=>cn (E c (.UnaryOp op a p))
 | .BoolOp op vs _=>match op with | .And=>sW dG (vs.map (T c)) | .Or=>sW dX (vs.map (T c))
 | .Compare a ops bs _=>BN c E a ops bs
 | .IfExp _ _ _ _=>ud
 | e=>cn (E c e)
theorem Gf(hE:∀ c X,hZ k c X->∀ e,DE X e (E c e))(hT:∀ c X,hZ k c X->∀ e,DT X e (T c e))(C:hZ k c X)(e:Expr):DE X e (NA E T c e):=by
 have h1:=hE c X C
 have h2:=hT c X C
 cases e with
 | Constant v j p=>exact BM v
 | Name x p=>exact EK C x
 | BinOp a op b p=>
  show DE X _ (IQ (c.mt.contains (p.line+200000)) op (E c a) (E c b))
  exact IP (z:=c.mt.contains (p.line+200000)) (h1 a) (h1 b)
 | UnaryOp op a p=>exact Mf (h1 a)
 | Compare a ops bs p=>exact IM C h1
 | BoolOp op vs p=>cases op with | And=>exact vz h1 vs | Or=>exact zV h1 vs
 | IfExp t a b p=>exact aZ Ht <| M.de_if (h2 t) (h1 a) (h1 b)
 | Tuple es j p=>exact aZ CB <| M.RY (dE h1 es)
 | List es p=>
  show DE X _ (if c.mt.contains p.line then dm (tj (E c) es) else cU (tj (E c) es))
  split
  ·exact aZ zn <| M.MR (dE h1 es)
  ·exact aZ CG <| M.Sd (dE h1 es)
 | Dict ks vs p=>exact EN C h1 ks vs p.line
 | Subscript a i p=>exact ID C h1 a i
 | Call f es ks p=>
  show DE X _ (match rV f,Cc f,ks with | some x,_,[]=>xU c (E c) x es | none,O (o,nm,ap),[]=>xR (c.mt.contains 500000) (E c) o nm ap p es | _,_,_=>gC)
  split
  ·rename_i x h
   obtain⟨p2,rfl⟩:=la h
   exact EQ C h1
  ·rename_i o nm ap _ ha
   have:=As ha
   subst this
   exact EL C h1
  ·exact bu
 | ListComp elt gens scope p=>exact vE C hE hT
 | DictComp kx vx gens scope p=>exact BK C hE hT
 | JoinedStr es p=>exact EM h1 es
 | FormattedValue v cv f p=>exact IK h1
 | _=>exact bu
theorem Gd(hE:∀ c X,hZ k c X->∀ e,DE X e (E c e))(hT:∀ c X,hZ k c X->∀ e,DT X e (T c e))(C:hZ k c X)(e:Expr):DT X e (Ny E T c e):=by
 have h1:=hE c X C
 have h2:=hT c X C
 cases e with
 | UnaryOp op a p=>cases op <;> first | exact Aq zk <| M.RN (h2 a) | exact Aq xn <| M.Ac (h1 _)
 | BoolOp op vs p=>cases op with | And=>exact EE h2 vs | Or=>exact Il h2 vs
 | Compare a ops bs p=>exact EO C h1
 | IfExp t a b p=>exact on
 | _=>exact Aq xn <| M.Ac (h1 _)
noncomputable def ev:Nat->(CI->Expr->ME)×(CI->Expr->MT)
 | 0=>(λ_ _=>gC,λ_ _=>ud)
 | n+1=>(NA (ev n).1 (ev n).2,Ny (ev n).1 (ev n).2)
theorem vD:∀ n:Nat,(∀ c X,hZ k c X->∀ e,DE X e ((ev n).1 c e))/\(∀ c X,hZ k c X->∀ e,DT X e ((ev n).2 c e))
 | 0=>⟨λ_ _ _ _=>bu,λ_ _ _ _=>on⟩
 | n+1=>⟨λ_ _ C e=>Gf (vD n).1 (vD n).2 C e,λ_ _ C e=>Gd (vD n).1 (vD n).2 C e⟩
noncomputable def jP:Expr->Bool
 | .ListComp _ _ _ _=>false
 | .SetComp _ _ _ _=>false
 | .DictComp _ _ _ _ _=>false
 | _=>true
theorem gI{t:Option Expr}{l:Nat}(h:jP e=true):swapsWith e t l X.env=pure false:=by cases e <;> first | rfl | cases h
noncomputable def vm:Expr->Bool
 | .Tuple _ _ _=>true
 | .List _ _=>true
 | _=>false
theorem Bc{t:Expr}(h:vm t=false\/vm e=false):swappedStores [t] e X.env=pure U:=by
 rcases h with h | h
 ·cases t <;> first | rfl | cases h
 ·cases t <;> first | rfl | (cases e <;> first | rfl | cases h)
noncomputable def IV(c:CI)(E:CI->Expr->ME)(T:CI->Expr->MT)(x:Str)(px:Pos)(e:Expr):MS:=match e with
 | .ListComp elt gens scope p=>if c.all&&(c.sc.names.lookup x == O .local&&px.line == p.line && !(scope.names.any λy=>y.1 == x&&(y.2 == .local||y.2 == .cell))) then aE (lz c E T elt gens scope p.line) (qG c x) else if c.all&&c.sc.names.lookup x == O .cell then aE (lz c E T elt gens scope p.line) (qG c x) else fT
 | e=>if jP e then aE (E c e) (qG c x) else fT
noncomputable def Kj:Expr->Option (Expr×Expr)
 | .Tuple [a,b] _ _=>O (a,b)
 | _=>U
theorem uw{t a b:Expr}(h:Kj t=O (a,b)):∃ k p,t=.Tuple [a,b] k p:=by
 unfold Kj at h
 split at h
 ·cases h;exact⟨_,_,rfl⟩
 ·cases h
noncomputable def nmP:Expr->Option (Str×Pos)
 | .Name x p=>O (x,p)
 | _=>U
theorem yQ{e:Expr}{x:Str}{p:Pos}(h:nmP e=O (x,p)):e=.Name x p:=by cases e <;> cases h;rfl
noncomputable def par2(t:Expr):Option (Str×Pos×Str×Pos):=(Kj t).bind λq=>(nmP q.1).bind λx=>(nmP q.2).bind λy=>O (x.1,x.2,y.1,y.2)
theorem DZ{t:Expr}{x y:Str}{px py:Pos}(h:par2 t=O (x,px,y,py)):∃ k p,t=.Tuple [.Name x px,.Name y py] k p:=by
 obtain⟨⟨a,b⟩,h1,h⟩:=SJ.mp h
 obtain⟨x,h2,h⟩:=SJ.mp h
 obtain⟨y,h3,h⟩:=SJ.mp h
 cases h
 cases yQ h2
 cases yQ h3
 exact uw h1
theorem AI{x y:Str}{px py p p2:Pos}{k k2:Nat}{a b:Expr}(h:(X.env.kindOf x == O NameKind.local&&X.env.kindOf y == O NameKind.local)=false):swappedStores [.Tuple [.Name x px,.Name y py] k p] (.Tuple [a,b] k2 p2) X.env=pure U:=by
 unfold swappedStores
 simp only
 split
 ·rfl
 split
 ·rfl
 rw [Td]
 generalize hg:List.filterMap _ [Expr.Name x px,Expr.Name y py]=L
 have hL:L.length<=1:=by
  rw [<- hg,Um,Um]
  cases hx:(X.env.kindOf x == O NameKind.local) with
  | false=>simp only [hx,UR,Ut,UL];split <;> simp
  | true=>
   have hy:(X.env.kindOf y == O NameKind.local)=false:=by rw [hx,Us] at h;exact h
   simp only [hy,UR,Ut,UL];split <;> simp
 have h2:(L.length != [Expr.Name x px,Expr.Name y py].length)=true:=by
  rw [WI];show L.length≠2;omega
 rw [h2];rfl
noncomputable def Ct(c:CI)(x y:Str):Bool:=!(c.sc.names.lookup x == O .local&&c.sc.names.lookup y == O .local)
noncomputable def Dk(c:CI)(E:CI->Expr->ME)(t e:Expr):Option MS:=match par2 t,Kj e with
 | some (x,px,y,py),O (a,b)=>if Ct c x y then O (aE (E c e) (Dl c (E c) t)) else match mQ x c.N,mQ y c.N with
  | some i,O j=>if (c.all&&c.sc.names.lookup x == O .local&&c.sc.names.lookup y == O .local && !(x == y)&&py.line == px.line&&rO a&&rO b && !(foldedForSure 8 a&&foldedForSure 8 b) && !(constantsAlone 8 a&&constantsAlone 8 b) && !(i == j))=true then O (jv i j (tj (E c) [a,b])) else U
  | _,_=>U
 | _,_=>U
theorem IF(C:hZ k c X){E:CI->Expr->ME}(hE:∀ e,DE X e (E c e)){t:Expr}{m:MS}(h:Dk c E t e=O m):DS X (.Assign [t] e pos) m:=by
 unfold Dk at h
 split at h
 ·rename_i x px y py a b h1 h2
  obtain⟨k1,p1,rfl⟩:=DZ h1
  obtain⟨k2,p2,rfl⟩:=uw h2
  split at h
  ·rename_i hn
   cases h
   refine io gf <| M.Jg (hE _) (gi C hE _) rfl (AI ?_) rfl
   unfold Ct at hn
   rw [Bool.not_eq_true'] at hn
   show (X.env.scope.names.lookup x == O NameKind.local&&X.env.scope.names.lookup y == O NameKind.local)=false
   rw [C.sc];exact hn
  split at h
  ·rename_i i j hi hj
   split at h
   ·rename_i hc
    cases h
    simp only [SM,beq_iff_eq,Bool.not_eq_true'] at hc
    obtain⟨⟨⟨⟨⟨⟨⟨⟨⟨_,hx⟩,hy⟩,hne⟩,hl⟩,ha⟩,hb⟩,hf⟩,hcn⟩,hij⟩:=hc
    have hx':X.env.scope.names.lookup x=O .local:=by rw [C.sc];exact hx
    have hy':X.env.scope.names.lookup y=O .local:=by rw [C.sc];exact hy
    have hbk:X.env.blockKind=.function:=by unfold Env.blockKind;rw [C.sc,C.fk];rfl
    exact io CF (M.RR C.calm (by rw [C.N];exact C.nd) (by rw [C.N];exact cP hi) (by rw [C.N];exact cP hj) (by simpa using hij) hx' hy' (dE hE _) (Ga hbk hx' hy' hne (by simpa using hl) ha hb hf hcn))
   ·cases h
  ·cases h
 ·cases h
noncomputable def IW(c:CI)(E:CI->Expr->ME)(T:CI->Expr->MT)(t e:Expr):MS:=match t with
 | .Name x px=>IV c E T x px e
 | t=>match Dk c E t e with
 | some m=>m
 | none=>if jP e&&bB t&&(!vm t || !vm e) then aE (E c e) (Dl c (E c) t) else fT
theorem nQ{m:ME}{s:Stmt}:DS X s (aE m Ik):=λ_ _ _ _ _ _ ⟨_,_,_,_,_,_,h,_⟩=>by
 rw [gf] at h
 obtain⟨_,_,h⟩:=SJ.mp h
 cases h
theorem ER(C:hZ k c X)(hE:∀ c X,hZ k c X->∀ e,DE X e (E c e))(hT:∀ c X,hZ k c X->∀ e,DT X e (T c e)){x:Str}{px:Pos}:DS X (.Assign [.Name x px] e pos) (IV c E T x px e):=by
 have h1:=hE c X C
 have gen:∀ e,jP e=true->DS X (.Assign [.Name x px] e pos) (aE (E c e) (qG c x)):=λe hn=>by
  unfold qG
  split
  ·rename_i h1' h2
   exact io mL <| M.BQ (by rw [C.N];exact C.nd) (by rw [C.N];exact cP h2) (by rw [C.sc];exact .inl h1') (h1 e) (gI hn) (.inr (by rw [C.sc];exact h1'))
  ·rename_i h1' h2
   split
   ·rename_i ha
    exact io mL <| M.BQ (by rw [C.N];exact C.nd) (by rw [C.N];exact cP h2) (by rw [C.sc];exact .inr h1') (h1 e) (gI hn) (.inl (C.fn ha x))
   ·exact nQ
  ·exact nQ
 cases e with
 | ListComp elt gens scope p=>
  show DS X _ (if c.all&&(c.sc.names.lookup x == O .local&&px.line == p.line && !(scope.names.any λy=>y.1 == x&&(y.2 == .local||y.2 == .cell))) then aE (lz c E T elt gens scope p.line) (qG c x) else if c.all&&c.sc.names.lookup x == O .cell then aE (lz c E T elt gens scope p.line) (qG c x) else fT)
  split
  ·rename_i hw
   rw [SM] at hw
   have hw1:=hw.2
   simp only [SM,beq_iff_eq] at hw1
   have hl:=hw1.1.1
   unfold qG
   rw [hl]
   cases hi:mQ x c.N with
   | none=>exact nQ
   | some i=>
    have sw:(pure (X.env.blockKind == .function&&X.env.scope.names.lookup x == O .local&&px.line == p.line && !(scope.names.any λy=>y.1 == x&&(y.2 == .local||y.2 == .cell))):Sem Bool)=pure true:=by
     have hb:X.env.blockKind=.function:=by unfold Env.blockKind;rw [C.sc,C.fk];rfl
     rw [hb,C.sc]
     have:=hw.2
     simp only [Bool.and_assoc] at this ⊢
     rw [this];rfl
    unfold lz
    split
    ·rename_i tg it ifs a
     split
     ·rename_i h
      simp only [SM,beq_iff_eq] at h
      obtain⟨⟨h0,h1'⟩,h2⟩:=h
      subst h0
      obtain⟨B,C'⟩:=ko C h2
      split
      ·exact oo
      ·exact io zy <| M.BP (by rw [C.N];exact C.nd) (by rw [C.N];exact cP hi) (by rw [C.sc];exact .inl hl) C.calm B (lv C (hE _ _ C)) (λA s H fp=>gi (C' A s H fp) (hE _ _ (C' A s H fp)) tg) (λA s H fp=>gK (hT _ _ (C' A s H fp)) ifs) (λA s H fp=>hE _ _ (C' A s H fp) elt) sw (cw h1') (.inr (by rw [C.sc];exact hl))
     ·intro _ _ _ _ _ _ ⟨_,_,_,_,_,_,h,_⟩
      rw [gf] at h
      obtain⟨_,z,h⟩:=SJ.mp h
      cases z
    ·rename_i tg it ifs a tg2 it2 ifs2 a2
     split
     ·rename_i h
      simp only [SM,beq_iff_eq] at h
      obtain⟨⟨⟨⟨h0,h0'⟩,h1'⟩,h1''⟩,h2⟩:=h
      subst h0 h0'
      obtain⟨B,C'⟩:=ko C h2
      exact io xu <| M.Ae (by rw [C.N];exact C.nd) (by rw [C.N];exact cP hi) (by rw [C.sc];exact .inl hl) C.calm B (lv C (hE _ _ C)) (λA s H fp=>gi (C' A s H fp) (hE _ _ (C' A s H fp)) tg) (λA s H fp=>gK (hT _ _ (C' A s H fp)) ifs) (λA s H fp=>xS (C' A s H fp) (hE _ _ (C' A s H fp))) (λA s H fp=>gi (C' A s H fp) (hE _ _ (C' A s H fp)) tg2) (λA s H fp=>gK (hT _ _ (C' A s H fp)) ifs2) (λA s H fp=>hE _ _ (C' A s H fp) elt) sw (cw h1') (nD h1'') (.inr (by rw [C.sc];exact hl))
     ·intro _ _ _ _ _ _ ⟨_,_,_,_,_,_,h,_⟩
      rw [gf] at h
      obtain⟨_,z,h⟩:=SJ.mp h
      cases z
    ·rename_i tg it ifs a g2 g3 r
     split
     ·rename_i h
      simp only [SM,beq_iff_eq] at h
      obtain⟨⟨h0,h1'⟩,h2⟩:=h
      subst h0
      obtain⟨B,C'⟩:=ko C h2
      split
      ·rename_i b hb
       exact io xt <| M.Ad (by rw [C.N];exact C.nd) (by rw [C.N];exact cP hi) (by rw [C.sc];exact .inl hl) C.calm B (lv C (hE _ _ C)) (λA s H fp=>gi (C' A s H fp) (hE _ _ (C' A s H fp)) tg) (λA s H fp=>gK (hT _ _ (C' A s H fp)) ifs) (λit acc env=>oD rfl rfl hb it acc env) (λA s H fp p=>xV (C' A s H fp) (λ_ _ z=>z) (hE _ _ (C' A s H fp)) (hT _ _ (C' A s H fp)) rfl hb) sw (cw h1') (.inr (by rw [C.sc];exact hl))
      ·exact oo
     ·exact oo
    ·exact oo
  ·split
   ·rename_i hw
    rw [SM,beq_iff_eq] at hw
    unfold qG
    rw [hw.2]
    cases hi:mQ x c.N with
    | none=>exact nQ
    | some i=>
     dsimp only
     rw [Td hw.1]
     refine io mL <| M.BQ (by rw [C.N];exact C.nd) (by rw [C.N];exact cP hi) (by rw [C.sc];exact .inr hw.2) (vE C hE hT) ?_ (.inl (C.fn hw.1 x))
     show (pure (X.env.blockKind == .function&&X.env.scope.names.lookup x == O .local&&px.line == p.line && !(scope.names.any λy=>y.1 == x&&(y.2 == .local||y.2 == .cell))):Sem Bool)=pure false
     rw [C.sc,hw.2]
     have:((O NameKind.cell:Option NameKind) == O .local)=false:=by decide
     rw [this,Vv];rfl
   ·exact im
 | SetComp _ _ _ _=>exact im
 | DictComp _ _ _ _ _=>exact im
 | _=>exact gen _ rfl
theorem IU(C:hZ k c X)(hE:∀ c X,hZ k c X->∀ e,DE X e (E c e))(hT:∀ c X,hZ k c X->∀ e,DT X e (T c e)){t:Expr}:DS X (.Assign [t] e pos) (IW c E T t e):=by
 have gen:∀ t,DS X (.Assign [t] e pos) (match Dk c E t e with | some m=>m | none=>if jP e&&bB t&&(!vm t || !vm e) then aE (E c e) (Dl c (E c) t) else fT):=λt=>by
  split
  ·rename_i h
   exact IF C (hE _ _ C) h
  split
  ·rename_i h
   simp only [SM,VR,Bool.not_eq_true'] at h
   refine io gf <| M.Jg (hE _ _ C e) (gi C (hE _ _ C) t) (gI h.1.1) (Bc h.2) ?_
   rw [iE h.1.2];rfl
  ·exact im
 cases t with
 | Name x px=>exact ER C hE hT
 | _=>exact gen _
noncomputable def wg:List MS->MS
 | []=>aI
 | [m]=>m
 | m::r=>aw m (wg r)
theorem lF{F:Stmt->MS}(h:∀ s,DS X s (F s)):∀ ss:List Stmt,yi X ss (wg (ss.map F))
 | []=>JK nL <| M.Mo
 | [s]=>Mn (h s)
 | s::s'::r=>JK CC <| M.Jd (h s) (lF h (s'::r))
noncomputable def BB:Expr->Bool
 | .Constant (.str _) _ _=>true
 | _=>false
noncomputable def IT(c:CI)(E:Expr->ME)(op:Operator)(e:Expr):Expr->MS
 | .Name x _=>match op,c.sc.names.lookup x,mQ x c.N with
  | .Add,O .local,O i=>fT
  | _,_,_=>fT
 | _=>fT
theorem IS{E:Expr->ME}(C:hZ k c X)(hE:∀ e,DE X e (E e)){op:Operator}(e:Expr)(t:Expr):DS X (.AugAssign t op e pos) (IT c E op e t):=by
 unfold IT
 split
 ·split
  ·rename_i h1 h2
   exact im
  ·exact im
 ·exact im
noncomputable def asgOf:Stmt->Option (Expr×Expr)
 | .Assign ts v _=>ts.head?.bind λt=>if ts.length=1 then O (t,v) else U
 | _=>U
theorem Sx{s:Stmt}{t v:Expr}(h:asgOf s=O (t,v)):∃ p,s=.Assign [t] v p:=by
 cases s <;> try cases h
 rename_i ts v' p
 obtain⟨t',h1,h⟩:=SJ.mp h
 split at h
 ·rename_i hl
  cases h
  cases ts with
  | nil=>cases hl
  | cons a r=>
   cases r with
   | nil=>cases h1;exact⟨_,rfl⟩
   | cons b r=>simp at hl
 ·cases h
noncomputable def Nz(E:CI->Expr->ME)(T:CI->Expr->MT)(F:CI->Stmt->MS)(c:CI):Stmt->MS
 | .Return o _=>match o with | some e=>aN (E c e) | none=>λ_ S=>O (.rt .non S)
 | .Pass _=>aI
 | .Break _=>λenv S=>O (.bk env S)
 | .Continue _=>λenv S=>O (.ct env S)
 | .Expr e _=>if BB e then aI else if jP e then cG (E c e) else fT
 | .If t a b _=>bx (T c t) (wg (a.map (F c))) (wg (b.map (F c)))
 | .Assign ts e _=>match ts with | [t]=>IW c E T t e | _=>fT
 | .AugAssign t op e _=>IT c (E c) op e t
 | .While tst body els _=>match els with | []=>fT | _=>fT
 | .For tg it body els _=>match els with | []=>if fv it then (if NY c it then gG (Oi c (E c) tg it) (Dl c (E c) tg) (wg (body.map (F c))) else eg (E c it) (Dl c (E c) tg) (wg (body.map (F c)))) else fT | _=>fT
 | _=>fT
theorem Ge{F:CI->Stmt->MS}(hE:∀ c X,hZ k c X->∀ e,DE X e (E c e))(hT:∀ c X,hZ k c X->∀ e,DT X e (T c e))(hF:∀ c X,hZ k c X->∀ e,DS X e (F c e))(C:hZ k c X)(s:Stmt):DS X s (Nz E T F c s):=by
 have h1:=hE c X C
 have h2:=hT c X C
 have h3:=hF c X C
 cases s with
 | Return o p=>cases o with | none=>exact Mp | some e=>exact io CD <| M.RQ (h1 e)
 | Pass p=>exact io nL <| M.Mq
 | Break p=>exact Jf
 | Continue p=>exact Af
 | Expr e p=>
  show DS X _ (if BB e then aI else if jP e then cG (E c e) else fT)
  split
  ·rename_i h
   unfold BB at h
   split at h
   ·exact io nL <| M.RS
   ·cases h
  ·split
   ·rename_i h;exact io zq <| M.Mt (h1 e) (gI h)
   ·exact im
 | If t a b p=>exact io CM <| M.ds_if (h2 t) (lF h3 a) (lF h3 b)
 | Assign ts e p=>
  show DS X _ (match ts with | [t]=>IW c E T t e | _=>fT)
  split
  ·exact IU C hE hT
  ·exact im
 | AugAssign t op e p=>exact IS C h1 e t
 | While tst body els p=>
  cases els with
  | nil=>exact im
  | cons _ _=>exact im
 | For tg it body els p=>
  cases els with
  | nil=>
   show DS X _ (if fv it then (if NY c it then gG (Oi c (E c) tg it) (Dl c (E c) tg) (wg (body.map (F c))) else eg (E c it) (Dl c (E c) tg) (wg (body.map (F c)))) else fT)
   split
   ·rename_i h
    split
    ·exact io CN <| M.Je C.xe C.calm (lv C h1) (gi C h1 tg) (lF h3 body) (cw h)
    ·exact io zo <| M.Ms C.xe C.calm (h1 it) (gi C h1 tg) (lF h3 body) (cw h)
   ·exact im
  | cons _ _=>exact im
 | _=>exact im
noncomputable def evS(n:Nat):Nat->CI->Stmt->MS
 | 0=>λ_ _=>fT
 | m+1=>Nz (ev n).1 (ev n).2 (evS n m)
theorem IE(n:Nat):∀ m:Nat,∀ c X,hZ k c X->∀ s,DS X s (evS n m c s)
 | 0=>λ_ _ _ _=>im
 | m+1=>λ_ _ C s=>Ge (vD n).1 (vD n).2 (IE n m) C s
noncomputable def jE(c:CI)(body:List Stmt):MS:=wg (body.map (evS 40 20 c))
theorem IR(C:hZ k c X)(body:List Stmt):yi X body (jE c body):=lF (IE 40 20 c X C) body
end
end
noncomputable def kO(N:List Str)(st:Stmt)(gs:List (Str×GI))(mt:List Nat):CI:=⟨N,am st,true,gs,mt,true⟩
noncomputable def GK(P:Program)(w:World)(K:W.Frag)(mg:Str->Option Value)(base:Heap)(k:Nat)(p:Str×GI):Prop:=match p.2 with
 | .fn n f=>Fn P w K mg base k p.1 n f
 | .con d=>GC K mg p.1 d
 | .blt=>mg p.1=U
 | .tab l=>vQ w K mg p.1 l
theorem Jp{P:Program}{w:World}{K:W.Frag}{mg:Str->Option Value}{base:Heap}{k:Nat}{x:Str}{st:Stmt}{N ps:List Str}{gs:List (Str×GI)}{mt:List Nat}
  (F:bJ K mg x st) (Sc:aH N ps (am st)) (hb:tW x st ps) (hg:∀ p∈gs,GK P w K mg base k p) :
  Fn P w K mg base (k+1) x ps.length (aU N (jE (kO N st gs mt) (aB st)) ps.length):=
 RW F Sc hb λa cdv A outer s H E hr=>IR (k:=k) ⟨rfl,Sc.nd,rfl,Sc.kind,λ_ _=>rfl,rfl,hr,WB,λ_=>⟨rfl,rfl,rfl,rfl⟩,λp hp=>by
  have:=hg p hp
  obtain⟨x,g⟩:=p
  cases g <;> exact this⟩ _
noncomputable def GKs(P:Program)(w:World)(K:W.Frag)(mg:Str->Option Value)(base:Heap)(k:Nat):List (Str×GI)->Prop
 | []=>True
 | p::r=>GK P w K mg base k p/\GKs P w K mg base k r
theorem GKs.mem{P:Program}{w:World}{K:W.Frag}{mg:Str->Option Value}{base:Heap}{k:Nat}:∀ {gs:List (Str×GI)},GKs P w K mg base k gs->∀ p∈gs,GK P w K mg base k p
 | q::r,h,p,hp=>by
  rcases Tc.mp hp with rfl | hp
  ·exact h.1
  ·exact GKs.mem h.2 p hp
theorem Qk{P:Program}{w:World}{K:W.Frag}{mg:Str->Option Value}{k:Nat}{st:Stmt}{N:List Str}{gs:List (Str×GI)}{mt:List Nat}{fa:Addr}(F:bJ K mg "law" st)(hfa:mg "law" = O (.ref fa))(Sc:aH N ["_law_script"] (am st))
  (hbt:∀ (kV doc pm:Value) (an:Option Addr) (cdv ct v:Value),bindArgs (W.fnOf "law" "law" (iw st) (aB st) (am st) .none kV doc pm an cdv ct) ⟨[v],[]⟩=pure [(("_law_script":Str),v)])
  (hg:∀ base,GKs P w K mg base k gs) :
  ∃ fd:FuncData,(∀ (s:Shared) (v:Value),BindsTo s fd ⟨[v],[]⟩ [("_law_script",v)])/\∀ base:Heap,K.In base->base.Ns mainGlobals mg->FnOk P w K mg base FD (k+1) fa fd ["_law_script"] (Kp K 1 (aU N (jE (kO N st gs mt) (aB st)) 1)):=
 Qj F hfa Sc hbt λbase a cdv A outer s H E hr=>IR (k:=k) ⟨rfl,Sc.nd,rfl,Sc.kind,λ_ _=>rfl,rfl,hr,WB,λ_=>⟨rfl,rfl,rfl,rfl⟩,λp hp=>by
  have:=GKs.mem (hg base) p hp
  obtain⟨x,g⟩:=p
  cases g <;> exact this⟩ _
section
variable{P:List Value->Prop}
theorem lX(h:P []):∀ us:List Value,us.length=0->P us:=λus e=>by rw [Vk e];exact h
theorem iV{n:Nat}(h:∀ a,∀ us:List Value,us.length=n->P (a::us)):∀ us:List Value,us.length=n+1->P us:=λus e=>by
 cases us with
 | nil=>cases e
 | cons a us=>exact h a us (Nat.succ.inj e)
end
noncomputable def Gx(N:List Str)(st:Stmt)(gs:List (Str×GI))(mt:List Nat)(x:Str)(a:Nat):Nat->List D->aa->Option (D×aa)
 | 0=>λ_ _=>U
 | n+1=>aU N (jE (kO N st ((x,.fn a (Gx N st gs mt x a n))::gs) mt) (aB st)) a
section
variable{P:Program}{w:World}{K:W.Frag}{mg:Str->Option Value}{base:Heap}{k:Nat}{x:Str}{st:Stmt}{N ps:List Str}{gs:List (Str×GI)}{mt:List Nat}
theorem GK.up{k':Nat}(h:k<=k'):∀ {p:Str×GI},GK P w K mg base k p->GK P w K mg base k' p
 | (_,.fn _ _),g=>Fn.up g h
 | (_,.con _),g=>g
 | (_,.blt),g=>g
 | (_,.tab _),g=>g
theorem LR(F:bJ K mg x st)(Sc:aH N ps (am st))(hb:tW x st ps):Fn P w K mg base (k+1) x ps.length (λ_ _=>U):=by
 obtain⟨a,fd,F,hmg⟩:=F.ex
 exact Od F Sc hmg (F.binds hb) λcdv A outer s H E hr=>⟨fT,RP,λds S d S' _ _ _ h=>by cases h⟩
theorem Gw(F:bJ K mg x st)(Sc:aH N ps (am st))(hb:tW x st ps)(hg:GKs P w K mg base k gs):∀ n,Fn P w K mg base (k+1+n) x ps.length (Gx N st gs mt x ps.length n)
 | 0=>LR F Sc hb
 | n+1=>Jp (k:=k+1+n) F Sc hb λp hp=>by
  rcases Tc.mp hp with rfl | hp
  ·exact Gw F Sc hb hg n
  ·exact GK.up (by omega) (GKs.mem hg p hp)
end
noncomputable def kE(P:Params)(x:Str)(t:Nat)(v:Value):DictEntry:=⟨PyData.keyHash P x,.str x t,v⟩
noncomputable def kC(x:Str)(t l n a b:Nat)(u v:Value)(c d:Nat):Obj:=⟨.type "code",U,.fields #[.str x t,.str x (t+1),.str "/claim/cut.py" (t+2),.int l 0,.int n 0,.int 0 0,.int 0 0,.int 3 0,.ref a,.bool true,.int 181 0,.ref b,.none,u,v,.ref c,.int d 0,.int l 0,.str "/claim/cut.py" (d+1)],#[]⟩
noncomputable def kF(x:Str)(st:Stmt)(m:Str)(t c:Nat):Obj:=⟨.type "function",U,.func (W.fnOf x x (iw st) (aB st) (am st) .none .none .none (.str m t) U (.ref c) .none),#[]⟩
theorem eU{K:W.Frag}{h:Heap}{mg:Str->Option Value}(X:K.In h)(G:h.Ns mainGlobals mg){x:Str}{st:Stmt}(m:Str)(f t c:Nat)(e:(W.nsIn K mainGlobals x,K.lookup f,W.codeIn K (.ref c) x,W.keepIn K (.ref f))=(O (O (.ref f)),O (kF x st m t c),true,true)):bJ K mg x st:=by
 have e1:=congrArg (·.1) e
 have e2:=congrArg (·.2.1) e
 have e3:=congrArg (·.2.2.1) e
 have e4:=congrArg (·.2.2.2) e
 exact⟨_,_,Ry (st:=st) (show K.lookup f=O ⟨.type "function",U,.func (W.fnOf x x (iw st) (aB st) (am st) .none .none .none (.str m t) U (.ref c) .none),#[]⟩ from e2) e3 e4,Vo X G e1⟩
theorem bf{P:Program}{w:World}{K:W.Frag}{mg:Str->Option Value}{base:Heap}{k:Nat}{x:Str}{st:Stmt}{N ps:List Str}{gs:List (Str×GI)}{mt:List Nat}
  (F:bJ K mg x st) (Sc:aH N ps (am st)) (hb:tW x st ps) (hg:GKs P w K mg base k gs):Fn P w K mg base (k+1) x ps.length (aU N (jE (kO N st gs mt) (aB st)) ps.length):=Jp F Sc hb (GKs.mem hg)
theorem lY{N:List Str}{c:CI}{b:List Stmt}{m:MS}{n:Nat}(h:jE c b=m):aU N (jE c b) n=aU N m n:=by rw [h]
section
variable{env e:av}{S S':aa}{x y d:D}{f g:aa->D->D->Option D}{a b c:ME}{ms:MA}{t u:MT}{k l:Bool}{p q:MS}{tg:MG}
@[simp high] theorem ob{α β:Type}{a:α}{f:α->Option β}:(O a).bind f=f a:=id rfl
@[simp high] theorem obn{α β:Type}{f:α->Option β}:(U:Option α).bind f=U:=id rfl
@[simp high] theorem oj{α:Type}{a:Option α}:(O a).join=a:=rfl
@[simp high] theorem df{α:Type}{a:α}{l:List α}:(a::l)[0]?=O a:=rfl
@[simp high] theorem eW{α:Type}{a b:α}{l:List α}:(a::b::l)[1]?=O b:=rfl
@[simp high] theorem eV{α:Type}{a:α}{l:List α}{i:Nat}:(a::l)[i+1]?=l[i]?:=rfl
@[simp high] theorem mf{α:Type}{a b:α}{l:List α}:(a::l).set 0 b=b::l:=rfl
@[simp high] theorem pg{α:Type}{a b:α}{l:List α}{i:Nat}:(a::l).set (i+1) b=a::l.set i b:=rfl
noncomputable def sE(S:aa)(z:D):Option (D×aa):=O (z,S)
@[simp] theorem ao:sE S d=O (d,S):=rfl
@[simp] theorem bG:mC d env S=O (d,S):=by rw [sA];rfl
@[simp] theorem ar{i:Nat}:ae i env S=(env[i]?).join.bind (sE S):=by rw [CA];rfl
noncomputable def QA(f:aa->D->D->Option D)(x:D)(q:D×aa):Option (D×aa):=(f q.2 x q.1).bind (sE q.2)
noncomputable def kOp1(f:aa->D->D->Option D)(b:ME)(env:av)(q:D×aa):Option (D×aa):=(b env q.2).bind (QA f q.1)
@[simp] theorem aK:kOp1 f b env (x,S)=(b env S).bind (QA f x):=id rfl
@[simp] theorem aJ:QA f x (y,S)=(f S x y).bind (sE S):=id rfl
@[simp] theorem bb:ay f a b env S=(a env S).bind (kOp1 f b env):=by rw [gB];rfl
noncomputable def NL(q:D×aa):Option (Bool×aa):=match q.1 with | .bl k=>O (k,q.2) | _=>U
@[simp] theorem bz:NL (.bl k,S)=O (k,S):=id rfl
@[simp] theorem bw:aF a env S=(a env S).bind NL:=by rw [so];rfl
noncomputable def QU(g:aa->D->D->Option D)(y:D)(q:D×aa):Option (D×aa):=(g q.2 y q.1).bind (sE q.2)
noncomputable def HQ(g:aa->D->D->Option D)(c:ME)(env:av)(y:D)(S:aa)(z:D):Option (D×aa):=match z with
 | .bl true=>(c env S).bind (QU g y)
 | .bl false=>O (.bl false,S)
 | _=>U
noncomputable def LM(f g:aa->D->D->Option D)(c:ME)(env:av)(x:D)(q:D×aa):Option (D×aa):=(f q.2 x q.1).bind (HQ g c env q.1 q.2)
noncomputable def QX(f g:aa->D->D->Option D)(b c:ME)(env:av)(q:D×aa):Option (D×aa):=(b env q.2).bind (LM f g c env q.1)
@[simp] theorem QW:QX f g b c env (x,S)=(b env S).bind (LM f g c env x):=id rfl
@[simp] theorem QV:LM f g c env x (y,S)=(f S x y).bind (HQ g c env y S):=id rfl
@[simp] theorem QS:HQ g c env y S (.bl true)=(c env S).bind (QU g y):=id rfl
@[simp] theorem kChz_f:HQ g c env y S (.bl false)=O (.bl false,S):=id rfl
@[simp] theorem QT:QU g y (x,S)=(g S y x).bind (sE S):=id rfl
@[simp] theorem Hy:bU f g a b c env S=(a env S).bind (QX f g b c env):=by
 rw [pd];unfold M.bU QX LM HQ
 congr 1
noncomputable def Bv(q:D×aa):Option (Bool×aa):=(rq q.2 q.1).bind λk=>O (k,q.2)
@[simp] theorem ic:Bv (.bl k,S)=O (k,S):=id rfl
@[simp] theorem kTru_n:Bv (.non,S)=O (false,S):=id rfl
@[simp] theorem kTru_i{i:Int}:Bv (.int i,S)=O (i != 0,S):=id rfl
@[simp] theorem kTru_t{xs:List D}:Bv (.tup xs,S)=O (!xs.isEmpty,S):=id rfl
@[simp] theorem kTru_l{xs:List D}:Bv (.lst xs,S)=O (!xs.isEmpty,S):=id rfl
@[simp] theorem fZ:cn a env S=(a env S).bind Bv:=by rw [xn];rfl
noncomputable def HW(u:MT)(env:av)(q:Bool×aa):Option (Bool×aa):=if q.1=true then u env q.2 else O (false,q.2)
noncomputable def Qz(u:MT)(env:av)(q:Bool×aa):Option (Bool×aa):=if q.1=true then O (true,q.2) else u env q.2
noncomputable def NQ(q:Bool×aa):Option (Bool×aa):=O (!q.1,q.2)
@[simp] theorem xH:HW u env (true,S)=u env S:=id rfl
@[simp] theorem Da:HW u env (false,S)=O (false,S):=id rfl
@[simp] theorem Qy:Qz u env (true,S)=O (true,S):=id rfl
@[simp] theorem jX:Qz u env (false,S)=u env S:=id rfl
@[simp] theorem gg:NQ (k,S)=O (!k,S):=id rfl
@[simp] theorem nR:dG t u env S=(t env S).bind (HW u env):=by rw [sB];rfl
@[simp] theorem jR:dX t u env S=(t env S).bind (Qz u env):=by rw [xo];rfl
@[simp] theorem gb:bK t env S=(t env S).bind NQ:=by rw [zk];rfl
@[simp] theorem ee:aG env S=O (true,S):=by rw [zg];rfl
noncomputable def Rh(b:ME)(env:av)(q:D×aa):Option (D×aa):=(rq q.2 q.1).bind λk=>if k=true then b env q.2 else O (q.1,q.2)
noncomputable def kOr(b:ME)(env:av)(q:D×aa):Option (D×aa):=(rq q.2 q.1).bind λk=>if k=true then O (q.1,q.2) else b env q.2
@[simp] theorem pp:Rh b env (.bl true,S)=b env S:=id rfl
@[simp] theorem HV:Rh b env (.bl false,S)=O (.bl false,S):=id rfl
@[simp] theorem NO:kOr b env (.bl true,S)=O (.bl true,S):=id rfl
@[simp] theorem NP:kOr b env (.bl false,S)=b env S:=id rfl
@[simp] theorem pf:fe a b env S=(a env S).bind (Rh b env):=by rw [CS];rfl
@[simp] theorem Hn:xp a b env S=(a env S).bind (kOr b env):=by rw [Ho];rfl
noncomputable def CW(q:D×aa):Option (D×aa):=(rq q.2 q.1).bind λk=>O (.bl (!k),q.2)
@[simp] theorem kNotV_l{xs:List D}:CW (.lst xs,S)=O (.bl (!!xs.isEmpty),S):=id rfl
@[simp] theorem kNotV_t{xs:List D}:CW (.tup xs,S)=O (.bl (!!xs.isEmpty),S):=id rfl
@[simp] theorem kOr_c{d:D}{ds:List D}:kOr b env (.lst (d::ds),S)=O (.lst (d::ds),S):=id rfl
@[simp] theorem kOr_e:kOr b env (.lst [],S)=b env S:=id rfl
@[simp] theorem kNotV_s:CW (.bl k,S)=O (.bl (!k),S):=id rfl
@[simp] theorem mNotV_s:gO a env S=(a env S).bind CW:=by rw [zj];rfl
noncomputable def kIf(a b:ME)(env:av)(q:Bool×aa):Option (D×aa):=if q.1=true then a env q.2 else b env q.2
@[simp] theorem CY:kIf a b env (true,S)=a env S:=id rfl
@[simp] theorem HF:kIf a b env (false,S)=b env S:=id rfl
@[simp] theorem sv:nO t a b env S=(t env S).bind (kIf a b env):=by rw [Ht];rfl
@[simp] theorem ax:af env S=O ([],S):=by rw [xq];rfl
noncomputable def Bx(x:D)(q:List D×aa):Option (List D×aa):=O (x::q.1,q.2)
noncomputable def HK(ms:MA)(env:av)(q:D×aa):Option (List D×aa):=(ms env q.2).bind (Bx q.1)
@[simp] theorem aj{xs:List D}:Bx x (xs,S)=O (x::xs,S):=id rfl
@[simp] theorem ak:HK ms env (x,S)=(ms env S).bind (Bx x):=id rfl
@[simp] theorem au:ac a ms env S=(a env S).bind (HK ms env):=by rw [zu];rfl
noncomputable def kP(q:List D×aa):Option (D×aa):=if q.1.length<=sizeLine then O (.tup q.1,q.2) else U
noncomputable def mO(q:List D×aa):Option (D×aa):=if q.1.length<=sizeLine then O (.lst q.1,q.2) else U
noncomputable def zF(q:List D×aa):Option (D×aa):=if q.1.length<=sizeLine then O (.ref q.2.length,q.2++[.lst q.1]) else U
theorem sz{n:Nat}(h:n<=1000):n<=sizeLine:=Th h (by decide)
theorem cW{xs:List D}(h:xs.length<=1000):kP (xs,S)=O (.tup xs,S):=Td (sz h)
theorem eh{xs:List D}(h:xs.length<=1000):mO (xs,S)=O (.lst xs,S):=Td (sz h)
theorem sH{xs:List D}(h:xs.length<=1000):zF (xs,S)=O (.ref S.length,S++[.lst xs]):=Td (sz h)
@[simp] theorem fY:bZ ms env S=(ms env S).bind kP:=by rw [CB];rfl
@[simp] theorem mI:cU ms env S=(ms env S).bind mO:=by rw [CG];rfl
@[simp] theorem CH:dm ms env S=(ms env S).bind zF:=by rw [zn];rfl
noncomputable def NV(f:List D->aa->Option (D×aa))(q:List D×aa):Option (D×aa):=f q.1 q.2
@[simp] theorem bT{f:List D->aa->Option (D×aa)}{xs:List D}:NV f (xs,S)=f xs S:=id rfl
@[simp] theorem bS{f:List D->aa->Option (D×aa)}:aA f ms env S=(ms env S).bind (NV f):=by rw [fc];rfl
noncomputable def po(n:Nat)(f:List D->aa->Option (D×aa))(q:List D×aa):Option (D×aa):=if q.1.length=n then f q.1 q.2 else U
@[simp] theorem HS{f:List D->aa->Option (D×aa)}:po 0 f ([],S)=f [] S:=id rfl
@[simp] theorem cE{f:List D->aa->Option (D×aa)}:po 1 f ([x],S)=f [x] S:=id rfl
@[simp] theorem bN{f:List D->aa->Option (D×aa)}:po 2 f ([x,y],S)=f [x,y] S:=id rfl
@[simp] theorem sM{f:List D->aa->Option (D×aa)}{z:D}:po 3 f ([x,y,z],S)=f [x,y,z] S:=id rfl
@[simp] theorem kCallN_4{f:List D->aa->Option (D×aa)}{z w:D}:po 4 f ([x,y,z,w],S)=f [x,y,z,w] S:=id rfl
@[simp] theorem aO{n:Nat}{f:List D->aa->Option (D×aa)}:ag n f ms env S=(ms env S).bind (po n f):=by rw [pe];rfl
noncomputable def kIsI(T:String)(q:D×aa):Option (D×aa):=(ij T q.2 q.1).bind (sE q.2)
@[simp] theorem mP{T:String}:kIsI T (x,S)=(ij T S x).bind (sE S):=id rfl
@[simp] theorem mK{T:String}:db T a env S=(a env S).bind (kIsI T):=by rw [CK];rfl
noncomputable def kUn(f:aa->D->Option D)(q:D×aa):Option (D×aa):=(f q.2 q.1).bind (sE q.2)
@[simp] theorem kUn_s{f:aa->D->Option D}:kUn f (x,S)=(f S x).bind (sE S):=id rfl
@[simp] theorem mUn_s{f:aa->D->Option D}:xm f a env S=(a env S).bind (kUn f):=by rw [Hj];rfl
@[simp] theorem Hm:cZ env S=O (U,S):=by rw [uV];rfl
noncomputable def NN(q:D×aa):Option (Option Int×aa):=match q.1 with | .int i=>O (O i,q.2) | _=>U
@[simp] theorem LF{i:Int}:NN (.int i,S)=O (O i,S):=id rfl
@[simp] theorem LA:eY a env S=(a env S).bind NN:=by rw [zh];rfl
noncomputable def Er(x:D)(l:Option Int)(q:Option Int×aa):Option (D×aa):=match x with
 | .tup xs=>O (.tup (lT xs l q.1),q.2)
 | .lst xs=>O (.lst (lT xs l q.1),q.2)
 | .rol xs=>O (.lst (lT xs l q.1),q.2)
 | .ref r=>match q.2[r]? with | some (.lst xs)=>O (.lst (lT xs l q.1),q.2) | _=>U
 | _=>U
noncomputable def Qr(hi:MO)(env:av)(x:D)(q:Option Int×aa):Option (D×aa):=(hi env q.2).bind (Er x q.1)
noncomputable def kSl1(lo hi:MO)(env:av)(q:D×aa):Option (D×aa):=(lo env q.2).bind (Qr hi env q.1)
@[simp] theorem Qs{lo hi:MO}:kSl1 lo hi env (x,S)=(lo env S).bind (Qr hi env x):=id rfl
@[simp] theorem Qq{hi:MO}{l:Option Int}:Qr hi env x (l,S)=(hi env S).bind (Er x l):=id rfl
@[simp] theorem Qp{xs:List D}{l h:Option Int}:Er (.tup xs) l (h,S)=O (.tup (lT xs l h),S):=id rfl
@[simp] theorem kSl3_l{xs:List D}{l h:Option Int}:Er (.lst xs) l (h,S)=O (.lst (lT xs l h),S):=id rfl
@[simp] theorem kSl3_r{xs:List D}{l h:Option Int}:Er (.rol xs) l (h,S)=O (.lst (lT xs l h),S):=id rfl
@[simp] theorem Hl{lo hi:MO}:cY a lo hi env S=(a env S).bind (kSl1 lo hi env):=by rw [uT];rfl
@[simp] theorem bI:aI env S=O (.nx env S):=by rw [nL];rfl
noncomputable def HE(q:MS):qI->Option qI
 | .nx e S=>q e S
 | .rt d S=>O (.rt d S)
 | .bk e S=>O (.bk e S)
 | .ct e S=>O (.ct e S)
@[simp] theorem aX:HE q (.nx e S)=q e S:=id rfl
@[simp] theorem jV:HE q (.rt d S)=O (.rt d S):=id rfl
@[simp] theorem kSeq_bk:HE q (.bk e S)=O (.bk e S):=id rfl
@[simp] theorem kSeq_ct:HE q (.ct e S)=O (.ct e S):=id rfl
@[simp] theorem bC:aw p q env S=(p env S).bind (HE q):=by rw [CC];unfold M.aw;congr 1;funext o;cases o <;> rfl
noncomputable def kRt(q:D×aa):Option qI:=O (.rt q.1 q.2)
@[simp] theorem bQ:kRt (d,S)=O (.rt d S):=id rfl
@[simp] theorem bo:aN a env S=(a env S).bind kRt:=by rw [CD];rfl
noncomputable def NT(env:av)(q:D×aa):Option qI:=O (.nx env q.2)
@[simp] theorem nV:NT env (d,S)=O (.nx env S):=id rfl
@[simp] theorem nP:cG a env S=(a env S).bind (NT env):=by rw [zq];rfl
noncomputable def QC(p q:MS)(env:av)(r:Bool×aa):Option qI:=if r.1=true then p env r.2 else q env r.2
@[simp] theorem iK:QC p q env (true,S)=p env S:=id rfl
@[simp] theorem cj:QC p q env (false,S)=q env S:=id rfl
@[simp] theorem bM:bx t p q env S=(t env S).bind (QC p q env):=by rw [CM];rfl
noncomputable def kNx(q:av×aa):Option qI:=O (.nx q.1 q.2)
@[simp] theorem dI:kNx (e,S)=O (.nx e S):=id rfl
noncomputable def kAsg(tg:MG)(env:av)(q:D×aa):Option qI:=(tg q.1 env q.2).bind kNx
@[simp] theorem cm:kAsg tg env (d,S)=(tg d env S).bind kNx:=id rfl
@[simp] theorem ci:aE a tg env S=(a env S).bind (kAsg tg env):=by rw [gf];rfl
@[simp] theorem aT{i:Nat}:ah i d env S=O (env.set i (O d),S):=by rw [jZ];rfl
@[simp] theorem fo:be [] env S=O (env,S):=by rw [zT];rfl
noncomputable def kGs(gs:lU)(r:List D)(q:av×aa):Option (av×aa):=gs r q.1 q.2
@[simp] theorem kH{gs:lU}{r:List D}:kGs gs r (e,S)=gs r e S:=id rfl
@[simp] theorem dL{gs:lU}{r:List D}:ai tg gs (d::r) env S=(tg d env S).bind (kGs gs r):=by rw [vw];rfl
theorem gTupD_of{n:Nat}{gs:lU}{xs:List D}(h:xs.length=n):bg n gs (.tup xs) env S=gs xs env S:=by rw [jB];exact Td h
@[simp] theorem qT{gs:lU}:bg 2 gs (.tup [x,y]) env S=gs [x,y] env S:=by rw [jB];rfl
@[simp] theorem gTupD_3{gs:lU}{z:D}:bg 3 gs (.tup [x,y,z]) env S=gs [x,y,z] env S:=by rw [jB];rfl
@[simp] theorem nZ{gs:lU}{z w:D}:bg 4 gs (.tup [x,y,z,w]) env S=gs [x,y,z,w] env S:=by rw [jB];rfl
noncomputable def zD(env:av)(d:D)(r:Nat)(k:Int)(S:aa):Option (av×aa):=match S[r]? with
 | some (.lst xs)=>(Ey xs.length k).bind λj=>O (env,S.set r (.lst (xs.set j d)))
 | _=>U
noncomputable def CV(env:av)(d o:D)(q:D×aa):Option (av×aa):=match o,q.1 with
 | .ref r,.int k=>zD env d r k q.2
 | _,_=>U
noncomputable def HC(i:ME)(env:av)(d:D)(q:D×aa):Option (av×aa):=(i env q.2).bind (CV env d q.1)
@[simp] theorem kSub1_s:HC a env d (x,S)=(a env S).bind (CV env d x):=id rfl
@[simp] theorem kSub2_s{r:Nat}{i:Int}:CV env d (.ref r) (.int i,S)=zD env d r i S:=id rfl
theorem sD{r:Nat}{i:Int}{xs:List D}{j:Nat}(h:S[r]?=O (.lst xs))(hj:Ey xs.length i=O j):zD env d r i S=O (env,S.set r (.lst (xs.set j d))):=by
 unfold zD;rw [h];show (Ey xs.length i).bind _=_;rw [hj];rfl
@[simp] theorem gSubD_s:ei a b d env S=(a env S).bind (HC b env d):=by
 rw [zR];unfold M.ei HC CV zD;congr 1
noncomputable def kFor(tg:MG)(p:MS)(env:av)(q:List D×aa):Option qI:=cx tg p q.1 env q.2
@[simp] theorem xF{xs:List D}:kFor tg p env (xs,S)=cx tg p xs env S:=id rfl
@[simp] theorem xr:gG ms tg p env S=(ms env S).bind (kFor tg p env):=by rw [CN];rfl
noncomputable def Et(tg:MG)(p:MS)(xs:List D):qI->Option qI
 | .nx e s=>cx tg p xs e s
 | .ct e s=>cx tg p xs e s
 | .bk e s=>O (.nx e s)
 | .rt d s=>O (.rt d s)
noncomputable def kLp1(tg:MG)(p:MS)(xs:List D)(q:av×aa):Option qI:=(p q.1 q.2).bind (Et tg p xs)
@[simp] theorem pk{xs:List D}:kLp1 tg p xs (e,S)=(p e S).bind (Et tg p xs):=id rfl
@[simp] theorem lJ{xs:List D}:Et tg p xs (.nx e S)=cx tg p xs e S:=id rfl
@[simp] theorem kLp2_ct{xs:List D}:Et tg p xs (.ct e S)=cx tg p xs e S:=id rfl
@[simp] theorem kLp2_bk{xs:List D}:Et tg p xs (.bk e S)=O (.nx e S):=id rfl
@[simp] theorem kLp2_rt{xs:List D}:Et tg p xs (.rt d S)=O (.rt d S):=id rfl
@[simp] theorem mForL_nil:cx tg p [] env S=O (.nx env S):=id rfl
theorem gF{xs:List D}:cx tg p (d::xs) env S=(tg d env S).bind (kLp1 tg p xs):=by
 show (tg d env S).bind _=_
 first | rfl | (congr 1;funext q;show (p q.1 q.2).bind _=(p q.1 q.2).bind _;congr 1;funext o;cases o <;> rfl)
noncomputable def xE(q:D×aa):Option (List D×aa):=match q.1 with | .lst xs=>O (xs,q.2) | .rol xs=>O (xs,q.2) | .tup xs=>O (xs,q.2) | _=>U
@[simp] theorem sI{xs:List D}:xE (.lst xs,S)=O (xs,S):=id rfl
@[simp] theorem kItS_r{xs:List D}:xE (.rol xs,S)=O (xs,S):=id rfl
@[simp] theorem xD{xs:List D}:xE (.tup xs,S)=O (xs,S):=id rfl
@[simp] theorem gD:cf a env S=(a env S).bind xE:=by rw [qQ];rfl
noncomputable def NM(q:List D×aa):Option (List D×aa):=match q.1 with | [.int j]=>if -(2 ^ 62)<=j/\j<2 ^ 62 then O (bj 0 j.toNat,q.2) else U | _=>U
theorem jW{j:Int}(h:-1000000<=j)(h':j<=1000000):NM ([.int j],S)=O (bj 0 j.toNat,S):=Td ⟨by omega,by omega⟩
@[simp] theorem eL:aL ms env S=(ms env S).bind NM:=by rw [mH];rfl
noncomputable def kR2(q:List D×aa):Option (List D×aa):=match q.1 with | [.int i,.int j]=>if -(2 ^ 62)<=i/\i<2 ^ 62/\-(2 ^ 62)<=j/\j<2 ^ 62 then O (bj i (j - i).toNat,q.2) else U | _=>U
@[simp] theorem mRange2_s:cq ms env S=(ms env S).bind kR2:=by rw [sq];rfl
noncomputable def By(q:List D×aa):Option (D×aa):=O (.lst q.1,q.2)
noncomputable def sL(g:MG)(t:MT)(e:ME)(cap:List (Option Nat))(env:av)(q:List D×aa):Option (D×aa):=if q.1.length<=sizeLine then (er g t e q.1 (iX cap env) q.2).bind By else U
theorem sK{cap:List (Option Nat)}{xs:List D}(h:xs.length<=1000):sL tg t a cap env (xs,S)=(er tg t a xs (iX cap env) S).bind By:=Td (sz h)
@[simp] theorem zI{xs:List D}:By (xs,S)=O (.lst xs,S):=id rfl
@[simp] theorem ge{cap:List (Option Nat)}:bF ms tg t a cap env S=(ms env S).bind (sL tg t a cap env):=by rw [sy];rfl
noncomputable def QP(x:D)(q:List D×aa):Option (List D×aa):=O (x::q.1,q.2)
noncomputable def QQ(g:MG)(t:MT)(e:ME)(xs:List D)(env:av)(q:D×aa):Option (List D×aa):=(er g t e xs env q.2).bind (QP q.1)
noncomputable def LL(g:MG)(t:MT)(e:ME)(xs:List D)(env:av)(q:Bool×aa):Option (List D×aa):=if q.1=true then (e env q.2).bind (QQ g t e xs env) else er g t e xs env q.2
noncomputable def kCl1(g:MG)(t:MT)(e:ME)(xs:List D)(q:av×aa):Option (List D×aa):=(t q.1 q.2).bind (LL g t e xs q.1)
@[simp] theorem HP{xs:List D}:kCl1 tg t a xs (e,S)=(t e S).bind (LL tg t a xs e):=id rfl
@[simp] theorem HN{xs:List D}:LL tg t a xs e (true,S)=(a e S).bind (QQ tg t a xs e):=id rfl
@[simp] theorem QR{xs:List D}:LL tg t a xs e (false,S)=er tg t a xs e S:=id rfl
@[simp] theorem HM{xs:List D}:QQ tg t a xs e (d,S)=(er tg t a xs e S).bind (QP d):=id rfl
@[simp] theorem HL{xs:List D}:QP d (xs,S)=O (d::xs,S):=id rfl
@[simp] theorem Qh:er tg t a [] env S=O ([],S):=id rfl
theorem lg{xs:List D}:er tg t a (d::xs) env S=(tg d env S).bind (kCl1 tg t a xs):=id rfl
noncomputable def QZ(x:D)(q:List D×av×aa):Option (List D×av×aa):=O (x::q.1,q.2)
noncomputable def Rc(g:MG)(t:MT)(e:ME)(xs:List D)(env:av)(q:D×aa):Option (List D×av×aa):=(ib g t e xs env q.2).bind (QZ q.1)
noncomputable def Rf(g:MG)(t:MT)(e:ME)(xs:List D)(env:av)(q:Bool×aa):Option (List D×av×aa):=if q.1=true then (e env q.2).bind (Rc g t e xs env) else ib g t e xs env q.2
noncomputable def kCe1(g:MG)(t:MT)(e:ME)(xs:List D)(q:av×aa):Option (List D×av×aa):=(t q.1 q.2).bind (Rf g t e xs q.1)
theorem Rg{xs:List D}:kCe1 tg t a xs (e,S)=(t e S).bind (Rf tg t a xs e):=id rfl
theorem Re{xs:List D}:Rf tg t a xs e (true,S)=(a e S).bind (Rc tg t a xs e):=id rfl
theorem Ra{xs:List D}:Rc tg t a xs e (d,S)=(ib tg t a xs e S).bind (QZ d):=id rfl
theorem QY{xs:List D}:QZ d (xs,e,S)=O (d::xs,e,S):=id rfl
theorem Bs:ib tg t a [] env S=O ([],env,S):=id rfl
theorem zx{xs:List D}:ib tg t a (d::xs) env S=(tg d env S).bind (kCe1 tg t a xs):=id rfl
noncomputable def QG(r:List D)(z:List D×aa):Option (List D×aa):=O (r++z.1,z.2)
noncomputable def QI(g:MG)(t:MT)(mi:MA)(g2:MG)(t2:MT)(e:ME)(xs:List D)(r:List D×av×aa):Option (List D×aa):=(ia g t mi g2 t2 e xs r.2.1 r.2.2).bind (QG r.1)
noncomputable def QK(g:MG)(t:MT)(mi:MA)(g2:MG)(t2:MT)(e:ME)(xs:List D)(env:av)(q:List D×aa):Option (List D×aa):=(ib g2 t2 e q.1 env q.2).bind (QI g t mi g2 t2 e xs)
noncomputable def QM(g:MG)(t:MT)(mi:MA)(g2:MG)(t2:MT)(e:ME)(xs:List D)(env:av)(q:Bool×aa):Option (List D×aa):=if q.1=true then (mi env q.2).bind (QK g t mi g2 t2 e xs env) else ia g t mi g2 t2 e xs env q.2
noncomputable def kCo1(g:MG)(t:MT)(mi:MA)(g2:MG)(t2:MT)(e:ME)(xs:List D)(q:av×aa):Option (List D×aa):=(t q.1 q.2).bind (QM g t mi g2 t2 e xs q.1)
section
variable{g2:MG}{t2:MT}{xs:List D}{mi2:MA}
theorem QN:kCo1 tg t mi2 g2 t2 a xs (e,S)=(t e S).bind (QM tg t mi2 g2 t2 a xs e):=id rfl
theorem QL:QM tg t mi2 g2 t2 a xs e (true,S)=(mi2 e S).bind (QK tg t mi2 g2 t2 a xs e):=id rfl
theorem QJ{us:List D}:QK tg t mi2 g2 t2 a xs e (us,S)=(ib g2 t2 a us e S).bind (QI tg t mi2 g2 t2 a xs):=id rfl
theorem QH{us:List D}:QI tg t mi2 g2 t2 a xs (us,e,S)=(ia tg t mi2 g2 t2 a xs e S).bind (QG us):=id rfl
theorem QF{us:List D}:QG us (xs,S)=O (us++xs,S):=id rfl
theorem Br:ia tg t mi2 g2 t2 a [] env S=O ([],S):=id rfl
theorem zv:ia tg t mi2 g2 t2 a (d::xs) env S=(tg d env S).bind (kCo1 tg t mi2 g2 t2 a xs):=id rfl
noncomputable def LK(q:List D×aa):Option (D×aa):=if q.1.length<=sizeLine then O (.lst q.1,q.2) else U
theorem LJ(h:xs.length<=1000):LK (xs,S)=O (.lst xs,S):=Td (sz h)
noncomputable def kCo0(g:MG)(t:MT)(mi:MA)(g2:MG)(t2:MT)(e:ME)(cap:List (Option Nat))(env:av)(q:List D×aa):Option (D×aa):=(ia g t mi g2 t2 e q.1 (iX cap env) q.2).bind LK
theorem QO{cap:List (Option Nat)}:kCo0 tg t mi2 g2 t2 a cap env (xs,S)=(ia tg t mi2 g2 t2 a xs (iX cap env) S).bind LK:=id rfl
theorem Hx{cap:List (Option Nat)}:cg ms tg t mi2 g2 t2 a cap env S=(ms env S).bind (kCo0 tg t mi2 g2 t2 a cap env):=by rw [oZ];rfl
end
@[simp] theorem xQ{i j:Int}:bH S (.int i) (.int j)=O (.int (i+j)):=id rfl
theorem fAdd_t{xs ys:List D}(h:xs.length+ys.length<=1000):bH S (.tup xs) (.tup ys)=O (.tup (xs++ys)):=Td (sz h)
theorem xP{xs ys:List D}(h:xs.length+ys.length<=1000):bH S (.lst xs) (.lst ys)=O (.lst (xs++ys)):=Td (sz h)
@[simp] theorem RB{i j:Int}:Iv S (.int i) (.int j)=O (.int (i - j)):=id rfl
@[simp] theorem fLt_i{i j:Int}:fLt S (.int i) (.int j)=O (.bl (decide (i<j))):=id rfl
@[simp] theorem Of{i j:Int}:LY S (.int i) (.int j)=O (.bl (decide (i<=j))):=id rfl
@[simp] theorem Di{i j:Int}:Kb S (.int i) (.int j)=O (.bl (decide (j<i))):=id rfl
@[simp] theorem fGe_i{i j:Int}:fGe S (.int i) (.int j)=O (.bl (decide (j<=i))):=id rfl
@[simp] theorem fNeg_i{i:Int}:RC S (.int i)=O (.int (-i)):=id rfl
theorem iO{i j:Int}(h:0<j):ke S (.int i) (.int j)=O (.int (i % j)):=Td (decide_eq_true h)
theorem IB{i j:Int}(h:0<j)(h':j<1073741824):EI S (.int i) (.int j)=O (.int (i / j)):=Td (by show (decide (0<j)&&decide (j<1073741824))=true;rw [decide_eq_true h,decide_eq_true h'];rfl)
theorem Iw{i j:Int}(h:(decide (0<=j)&&decide (j<=1000000)&&decide (i.natAbs<2 ^ 64))=true):ug S (.int i) (.int j)=O (.int (i ^ j.toNat)):=Td h
theorem jh{i j:Int}(h:nE i j=true):dN S (.int i) (.int j)=O (.int (i * j)):=Td h
theorem rW{i j:Int}(h:-18446744073709551616<i)(h':i<18446744073709551616):nE i j=true:=by
 unfold nE;rw [decide_eq_true (p:=i.natAbs<18446744073709551616) (by omega)];rfl
theorem wU{i j:Int}(h:-18446744073709551616<j)(h':j<18446744073709551616):nE i j=true:=by
 unfold nE;rw [decide_eq_true (p:=j.natAbs<18446744073709551616) (by omega)];simp
@[simp] theorem fIx_t{xs:List D}{i:Int}:aQ S (.tup xs) (.int i)=lD xs i:=id rfl
@[simp] theorem Dh{xs:List D}{i:Int}:aQ S (.lst xs) (.int i)=lD xs i:=id rfl
@[simp] theorem fIx_r{xs:List D}{i:Int}:aQ S (.rol xs) (.int i)=lD xs i:=id rfl
theorem lN{r:Nat}{xs:List D}{i:Int}(h:S[r]?=O (.lst xs)):aQ S (.ref r) (.int i)=lD xs i:=by
 have:fV S (.ref r)=O xs:=by simp only [fV,h]
 have t:yq S (.ref r)=U:=by simp only [yq,h]
 unfold aQ;rw [t]
 show (fV S (.ref r)).bind _=_;rw [this];rfl
theorem JV{α:Type}{xs:List α}{i:Int}(h0:0<=i)(h:i<xs.length):lD xs i=O (xs[i.toNat]'(by omega)):=by
 unfold lD Ey;rw [Td h0,Td h];show xs[i.toNat]?=_;rw [Tb]
@[simp] theorem BF{xs:List D}:aq eN [.tup xs] S=O (.int xs.length,S):=id rfl
@[simp] theorem BG{xs:List D}:aq eN [.lst xs] S=O (.int xs.length,S):=id rfl
@[simp] theorem RG{xs:List D}:aq eN [.rol xs] S=O (.int xs.length,S):=id rfl
@[simp] theorem fInt1_i{i:Int}:aq kN [.int i] S=O (.int i,S):=id rfl
@[simp] theorem Ma:aq kN [.bl k] S=O (.int (if k then 1 else 0),S):=id rfl
@[simp] theorem fMax2_i{i j:Int}:aq sY [.int i,.int j] S=O (.int (if j>i then j else i),S):=id rfl
@[simp] theorem LX{i j:Int}:aq zY [.int i,.int j] S=O (.int (if j<i then j else i),S):=id rfl
@[simp] theorem fSeq1_t{g:List D->D}{xs:List D}:aq (fS g) [.tup xs] S=O (g xs,S):=id rfl
@[simp] theorem xK{g:List D->D}{xs:List D}:aq (fS g) [.lst xs] S=O (g xs,S):=id rfl
theorem xO{xs:List D}{bs:List Bool}(h:kn xs=O bs):aq pv [.lst xs] S=O (.bl (bs.all id),S):=by
 show ((kn xs).bind _).bind _=_;rw [h];rfl
@[simp] theorem Iy:Ka S x .non=O (.bl (qE x .non)):=id rfl
@[simp] theorem fIs_b:Ka S x (.bl k)=O (.bl (qE x (.bl k))):=id rfl
@[simp] theorem sZ:ig S x .non=O (.bl (!qE x .non)):=id rfl
@[simp] theorem fIsNot_b:ig S x (.bl k)=O (.bl (!qE x (.bl k))):=id rfl
theorem lu(h:bP 40 x=true)(h':bP 40 y=true):iP S x y=O (.bl (kf x y)):=by
 unfold iP;rw [qV h,qV h'];exact Td ⟨h,h'⟩
theorem BE(h:bP 40 x=true)(h':bP 40 y=true):qk S x y=O (.bl (!kf x y)):=by
 unfold qk;rw [qV h,qV h'];exact Td ⟨h,h'⟩
@[simp] theorem mU{i j:Int}:iP S (.int i) (.int j)=O (.bl (i == j)):=lu (by simp [bP]) (by simp [bP])
@[simp] theorem xL{i j:Int}:qk S (.int i) (.int j)=O (.bl (!(i == j))):=BE (by simp [bP]) (by simp [bP])
@[simp] theorem fEq_bb:iP S (.bl k) (.bl l)=O (.bl (k == l)):=lu (by simp [bP]) (by simp [bP])
@[simp] theorem gH{i j:Str}:iP S (.str i) (.str j)=O (.bl (i == j)):=lu (by simp [bP]) (by simp [bP])
@[simp] theorem pq{i j:Str}:qk S (.str i) (.str j)=O (.bl (!(i == j))):=BE (by simp [bP]) (by simp [bP])
theorem IA{ys:List D}(hs:fV S y=O ys)(h:bP 40 x=true)(h':ys.all (bP 39)=true):EH S x y=O (.bl (ys.any λd=>kf d x)):=by
 unfold EH;rw [hs];exact Td ⟨h,h'⟩
noncomputable def ie(f:MF)(x:D)(q:List D×aa):Option (D×aa):=f x q.1 q.2
noncomputable def sG(f:MF)(ms:MA)(env:av)(q:D×aa):Option (D×aa):=if ue q.2 q.1=true then (ms env q.2).bind (ie f q.1) else U
@[simp] theorem nN{f:MF}:cT f a ms env S=(a env S).bind (sG f ms env):=by rw [zl];rfl
@[simp] theorem kMeth_l{f:MF}{xs:List D}:sG f ms env (.lst xs,S)=(ms env S).bind (ie f (.lst xs)):=id rfl
theorem xA{f:MF}{r:Nat}{xs:List D}(h:S[r]?=O (.lst xs)):sG f ms env (.ref r,S)=(ms env S).bind (ie f (.ref r)):=by
 unfold sG;exact Td (by simp only [ue,h])
@[simp] theorem dJ{f:MF}{xs:List D}:ie f x (xs,S)=f x xs S:=id rfl
theorem vC{r:Nat}{xs:List D}(h:S[r]?=O (.lst xs))(hz:xs.length<1000):cX (.ref r) [y] S=O (.non,S.set r (.lst (xs++[y]))):=by
 simp only [cX,h];exact Td (Tf hz (by decide))
theorem EG{r:Nat}{xs:List D}{i:Int}(h:S[r]?=O (.lst xs))(hz:xs.length<1000)(h0:0<=i)(h1:i<=100000):gJ (.ref r) [.int i,y] S=O (.non,S.set r (.lst (jY xs i y))):=by
 simp only [gJ,h];exact Td ⟨Tf hz (by decide),by omega,by omega⟩
noncomputable def NR(q:List D×aa):Option (List D×aa):=match q.1 with | [.tup xs]=>O (gR 0 xs,q.2) | _=>U
@[simp] theorem kEnum_s{xs:List D}:NR ([.tup xs],S)=O (gR 0 xs,S):=id rfl
@[simp] theorem mEnum_s:gc ms env S=(ms env S).bind NR:=by rw [zp];rfl
theorem Dc{ns:List Int}(h:ns.length<64):pW S (.lst (ns.map .int))=O ns:=by
 unfold pW
 rw [Td (show ue S (.lst (ns.map D.int))=true from rfl)]
 show (mS (ns.map D.int)).bind _=_
 rw [sP];exact Td h
noncomputable def xC(q:List D×aa):Option (D×aa):=(lM q.2 q.1).bind (sE q.2)
@[simp] theorem Ek:ca ms env S=(ms env S).bind xC:=by rw [sr];rfl
theorem Ew{ns:List Int}(h:ns.length<64):xC ([.lst (ns.map .int)],S)=O (.int (qH ns:Nat),S):=by
 show (lM S [.lst (ns.map D.int)]).bind _=_
 have e:lM S [.lst (ns.map D.int)]=O (.int (qH ns:Nat)):=by simp only [lM,Dc h]
 rw [e];rfl
noncomputable def kPar(i j:Nat)(env:av)(q:List D×aa):Option qI:=match q.1 with | [v,w]=>O (.nx ((env.set i (O v)).set j (O w)) q.2) | _=>U
@[simp] theorem mPar_s{i j:Nat}:jv i j ms env S=(ms env S).bind (kPar i j env):=by rw [CF];rfl
@[simp] theorem kPar_s{i j:Nat}:kPar i j env ([x,y],S)=O (.nx ((env.set i (O x)).set j (O y)) S):=id rfl
theorem fCountT_t{xs:List D}(h:bP 40 x=true)(h':xs.all (bP 39)=true):Md (.tup xs) [x] S=O (.int (xs.countP λd=>kf d x),S):=by
 show (if OF (.tup xs)=true then xN (.tup xs) [x] S else U)=_
 rw [Td (show OF (.tup xs)=true from rfl)]
 exact Td ⟨h,h'⟩
noncomputable def kZip(q:List D×aa):Option (List D×aa):=match q.1 with | [.tup xs,.tup ys]=>O (jd xs ys,q.2) | _=>U
@[simp] theorem kZip_s{xs ys:List D}:kZip ([.tup xs,.tup ys],S)=O (jd xs ys,S):=id rfl
@[simp] theorem mZip_s:jt ms env S=(ms env S).bind kZip:=by rw [Cy];rfl
@[simp] theorem FL{xs ys:List D}:jd (x::xs) (y::ys)=.tup [x,y]::jd xs ys:=id rfl
@[simp] theorem zipD_nl{xs:List D}:jd [] xs=[]:=by cases xs <;> rfl
@[simp] theorem zipD_nr{xs:List D}:jd xs []=[]:=by cases xs <;> rfl
noncomputable def Qu(k:ba)(d:D)(z:List (ba×D)×aa):Option (List (ba×D)×aa):=O ((k,d)::z.1,z.2)
noncomputable def LD(r:List (ME×ME))(env:av)(k:ba)(q:D×aa):Option (List (ba×D)×aa):=(je r env q.2).bind (Qu k q.1)
noncomputable def kPr2(b:ME)(r:List (ME×ME))(env:av)(S:aa)(k:ba):Option (List (ba×D)×aa):=(b env S).bind (LD r env k)
noncomputable def Qx(b:ME)(r:List (ME×ME))(env:av)(q:D×aa):Option (List (ba×D)×aa):=(eD q.1).bind (kPr2 b r env q.2)
@[simp] theorem Bq:je [] env S=O ([],S):=id rfl
@[simp] theorem zi{r:List (ME×ME)}:je ((a,b)::r) env S=(a env S).bind (Qx b r env):=id rfl
@[simp] theorem kPr1_i{i:Int}{r:List (ME×ME)}:Qx b r env (.int i,S)=(b env S).bind (LD r env (.inl i)):=id rfl
@[simp] theorem Qw{i:Str}{r:List (ME×ME)}:Qx b r env (.str i,S)=(b env S).bind (LD r env (.inr i)):=id rfl
@[simp] theorem Qv{k:ba}{r:List (ME×ME)}:LD r env k (d,S)=(je r env S).bind (Qu k d):=id rfl
@[simp] theorem Qt{k:ba}{z:List (ba×D)}:Qu k d (z,S)=O ((k,d)::z,S):=id rfl
noncomputable def vi(z:List (ba×D)×aa):Option (D×aa):=if z.1.length<=15 then O (.dct ((em [] z.1).map (·.1)) ((em [] z.1).map (·.2)),z.2) else U
noncomputable def QD(z:List (ba×D)×aa):Option (D×aa):=if z.1.length<=15 then O (.ref z.2.length,z.2++[.dct ((em [] z.1).map (·.1)) ((em [] z.1).map (·.2))]) else U
@[simp] theorem LB{ps:List (ME×ME)}:eZ ps env S=(je ps env S).bind vi:=by rw [zr];rfl
noncomputable def kDo2(x:D)(q:D×aa):Option (D×aa):=match x with | .tup xs=>(Im xs).bind λ_=>O (.obj,q.2) | _=>U
noncomputable def kDo1(b:ME)(env:av)(p:D×aa):Option (D×aa):=(b env p.2).bind (kDo2 p.1)
@[simp] theorem kDo1_s{b:ME}{x:D}{S:aa}:kDo1 b env (x,S)=(b env S).bind (kDo2 x):=id rfl
@[simp] theorem mDictR_s{ps:List (ME×ME)}:dD ps env S=(je ps env S).bind QD:=by rw [uZ];rfl
theorem zO{k:ba}:∀ {l:List (ba×D)},k ∉ l.map (·.1)->ED l k=false
 | [],_=>rfl
 | p::r,h=>by
  rw [Ta,Tc,Xo] at h
  unfold ED;rw [Ts (λz=>h.1 z.symm)];exact zO h.2
theorem rX:∀ {l m:List (ba×D)},((m++l).map (·.1)).Nodup->em m l=m++l
 | [],m,_=>by rw [Tx];rfl
 | p::r,m,h=>by
  show em (ua m p.1 p.2) r=_
  have hn:p.1 ∉ m.map (·.1):=by
   rw [UG,Ta,Ui] at h
   intro z;exact h.2.2 _ z _ SN rfl
  unfold ua;rw [zO hn,Ts SZ]
  rw [rX (by rw [TN];exact h),TN];rfl
theorem oS{l:List (ba×D)}(h:(l.map (·.1)).Nodup):em [] l=l:=rX (m:=[]) h
theorem HI{l:List (ba×D)}(h:(l.map (·.1)).Nodup)(hl:l.length<=15):vi (l,S)=O (.dct (l.map (·.1)) (l.map (·.2)),S):=by
 unfold vi;rw [Td hl];simp only [oS h]
theorem qZ{α β:Type}:∀ (l:List (α×β)),(l.map (·.1)).zip (l.map (·.2))=l
 | []=>rfl
 | p::r=>by rw [Ta,Ta,List.zip_cons_cons,qZ r]
@[simp] theorem fIx_dct{ks:List ba}{vs:List D}:aQ S (.dct ks vs) y=(eD y).bind (dC (ks.zip vs)):=id rfl
theorem kDict_nd{l:List (ba×D)}(h:(l.map (·.1)).Nodup)(hl:l.length<=15):vi (l,S)=O (.dct (l.map (·.1)) (l.map (·.2)),S):=by
 unfold vi;rw [Td hl];simp only [oS h]
theorem fIx_d{l:List (ba×D)}{k:ba}(h:eD y=O k):aQ S (.dct (l.map (·.1)) (l.map (·.2))) y=dC l k:=by
 show (eD y).bind (λk=>dC ((l.map (·.1)).zip (l.map (·.2))) k)=_
 rw [h,qZ];rfl
theorem Mb{l:List (ba×D)}{k:ba}(h:eD y=O k):og (.dct (l.map (·.1)) (l.map (·.2))) [y,d] S=O ((dC l k).getD d,S):=by
 show ((O ((l.map (·.1)).zip (l.map (·.2)))).bind _)=_
 rw [qZ];show (eD y).bind _=_;rw [h];rfl
theorem Mc{l:List (ba×D)}{k:ba}(h:eD y=O k):og (.dct (l.map (·.1)) (l.map (·.2))) [y] S=O ((dC l k).getD .non,S):=by
 show ((O ((l.map (·.1)).zip (l.map (·.2)))).bind _)=_
 rw [qZ];show (eD y).bind _=_;rw [h];rfl
noncomputable def xB(f:MF)(ms:MA)(env:av)(q:D×aa):Option (D×aa):=if JG q.2 q.1=true then (ms env q.2).bind (ie f q.1) else U
noncomputable def pj(l:List (ba×D))(q:D×aa):Option (D×aa):=(eD q.1).bind λk=>(dC l k).bind λd=>O (d,q.2)
@[simp] theorem Hk{l:List (ba×D)}:cI l a env S=(a env S).bind (pj l):=by rw [uR];rfl
@[simp] theorem zm{f:MF}:cK f a ms env S=(a env S).bind (xB f ms env):=by rw [uW];rfl
@[simp] theorem zE{f:MF}{ks:List ba}{vs:List D}:xB f ms env (.dct ks vs,S)=(ms env S).bind (ie f (.dct ks vs)):=id rfl
theorem kMethD_r{f:MF}{r:Nat}{ks:List ba}{vs:List D}(h:S[r]?=O (.dct ks vs)):xB f ms env (.ref r,S)=(ms env S).bind (ie f (.ref r)):=by
 unfold xB;exact Td (by simp only [JG,h])
@[simp] theorem valD_nil{k:ba}:dC [] k=U:=id rfl
@[simp] theorem valD_cons{k k':ba}{l:List (ba×D)}:dC ((k',d)::l) k=if k'=k then O d else dC l k:=id rfl
@[simp] theorem keyOf_i{i:Int}:eD (.int i)=O (.inl i):=id rfl
@[simp] theorem keyOf_s{i:Str}:eD (.str i)=O (.inr i):=id rfl
noncomputable def vh(tg:MG)(p:MS)(env:av)(q:D×aa):Option qI:=match q.1 with
 | .ref r=>eS tg p r 2000 0 env q.2
 | .lst xs=>cx tg p xs env q.2
 | .rol xs=>cx tg p xs env q.2
 | .tup xs=>cx tg p xs env q.2
 | _=>U
@[simp] theorem CO:eg a tg p env S=(a env S).bind (vh tg p env):=by rw [zo];rfl
@[simp] theorem LI{xs:List D}:vh tg p env (.lst xs,S)=cx tg p xs env S:=id rfl
@[simp] theorem kForD_o{xs:List D}:vh tg p env (.rol xs,S)=cx tg p xs env S:=id rfl
@[simp] theorem LH{xs:List D}:vh tg p env (.tup xs,S)=cx tg p xs env S:=id rfl
@[simp] theorem kForD_r{r:Nat}:vh tg p env (.ref r,S)=eS tg p r 2000 0 env S:=id rfl
noncomputable def Es(tg:MG)(p:MS)(r f i:Nat):qI->Option qI
 | .nx e s=>eS tg p r f i e s
 | .ct e s=>eS tg p r f i e s
 | .bk e s=>O (.nx e s)
 | .rt d s=>O (.rt d s)
noncomputable def kRl1(tg:MG)(p:MS)(r f i:Nat)(q:av×aa):Option qI:=(p q.1 q.2).bind (Es tg p r f i)
@[simp] theorem kRl1_s{r f i:Nat}:kRl1 tg p r f i (e,S)=(p e S).bind (Es tg p r f i):=id rfl
@[simp] theorem kRl2_nx{r f i:Nat}:Es tg p r f i (.nx e S)=eS tg p r f i e S:=id rfl
@[simp] theorem kRl2_ct{r f i:Nat}:Es tg p r f i (.ct e S)=eS tg p r f i e S:=id rfl
@[simp] theorem kRl2_bk{r f i:Nat}:Es tg p r f i (.bk e S)=O (.nx e S):=id rfl
@[simp] theorem kRl2_rt{r f i:Nat}:Es tg p r f i (.rt d S)=O (.rt d S):=id rfl
theorem Qg{r f i:Nat}{xs:List D}(h:S[r]?=O (.lst xs))(hx:xs.length<=i):eS tg p r (f+1) i env S=O (.nx env S):=by
 have hx':xs[i]?=U:=by simpa using hx
 unfold eS;rw [h];simp only [hx']
noncomputable def Bw(q:List D×aa):Option (D×aa):=match q.1 with | [.int j]=>if 0<=j/\j<=1000 then O (.lst (bj 0 j.toNat),q.2) else U | _=>U
@[simp] theorem Hs:da ms env S=(ms env S).bind Bw:=by rw [uX];rfl
theorem Eu{j:Int}(h0:0<=j)(h1:j<=1000):Bw ([.int j],S)=O (.lst (bj 0 j.toNat),S):=Td ⟨h0,h1⟩
theorem fMaxX_l{ns:List Int}(h:ns.length<64)(h0:ns≠[]):aq sY [.lst (ns.map .int)] S=O (.int (nJ ns),S):=by
 show ((sY S [.lst (ns.map D.int)]).bind _)=_
 have:sY S [.lst (ns.map D.int)]=O (.int (nJ ns)):=by
  show ((pW S (.lst (ns.map D.int))).bind _)=_
  rw [Dc h]
  show (if ns.isEmpty=true then U else O (D.int (nJ ns)))=_
  rw [Ts (by cases ns with | nil=>exact absurd rfl h0 | cons _ _=>simp)]
 rw [this];rfl
noncomputable def qD(q:D×aa):Option (D×aa):=(LS q.1).bind λy=>O (.str y,q.2)
@[simp] theorem jT:dY a env S=(a env S).bind qD:=by rw [CP];rfl
theorem szM{n:Nat}(h:n<=1000000):n<=sizeLine:=Th h (by decide)
theorem xG{y:Str}(h:y.length<=1000000):qD (.str y,S)=O (.str y,S):=by
 show (if y.length<=sizeLine then O y else U).bind _=_
 rw [Td (szM h)];rfl
theorem zA{i:Int}(h:-1000000<=i)(h':i<=1000000):i.natAbs.log2<1920:=by
 have h1:i.natAbs<=1000000:=by omega
 have h2:i.natAbs<2 ^ 1920:=UX h1 (by decide +kernel)
 by_cases h0:i.natAbs=0
 ·rw [h0];decide
 ·exact(Nat.log2_lt h0).mpr h2
theorem sJ{i:Int}(h:-1000000<=i)(h':i<=1000000):qD (.int i,S)=O (.str (toString i),S):=by
 show (if i.natAbs.log2<1920 then O (Str.ofString (toString i)) else U).bind _=_
 rw [Td (zA h h')];rfl
noncomputable def kJL(r:List ME)(out:Str)(env:av)(q:D×aa):Option (D×aa):=match q.1 with
 | .str y=>if (out++y).length<=sizeLine then bq r (out++y) env q.2 else U
 | _=>U
@[simp] theorem jS{out:Str}:bq [] out env S=O (.str out,S):=by rw [lH];rfl
theorem bp{r:List ME}{out:Str}:bq (a::r) out env S=(a env S).bind (kJL r out env):=by
 rw [lH]
 show (a env S).bind _=_
 congr 1
 funext q
 unfold kJL
 obtain⟨d,T⟩:=q
 cases d <;> first | rfl | skip
 dsimp only
 rw [lH]
theorem zG{r:List ME}{out y:Str}(h:(out++y).length<=1000000):kJL r out env (.str y,S)=bq r (out++y) env S:=Td (szM h)
noncomputable def kSJ(ms:MA)(env:av)(q:D×aa):Option (D×aa):=if Ib q.1=true then (ms env q.2).bind (ie ja q.1) else U
@[simp] theorem ju:bL a ms env S=(a env S).bind (kSJ ms env):=by rw [uU];rfl
@[simp] theorem vg{z:Str}:kSJ ms env (.str z,S)=(ms env S).bind (ie ja (.str z)):=id rfl
theorem uD:∀ ys:List Str,uE (ys.map .str)=O ys
 | []=>rfl
 | y::r=>by
  have:=uD r
  show (uE (r.map .str)).bind _=_
  rw [this];rfl
theorem jD{z:Str}{ys:List Str}(h:fV S y=O (ys.map .str))(hl:(ys.map (·.length)).sum+ys.length * z.length<=1000000):ja (.str z) [y] S=O (.str (Str.join z ys),S):=by
 show ((fV S y).bind _)=_
 rw [h]
 show ((uE (ys.map .str)).bind _)=_
 rw [uD]
 exact Td (Th hl (by decide))
theorem eO{i j:Str}(h:i.length+j.length<=1000000):aY S (.str i) (.str j)=O (.str (i++j)):=Td (szM h)
theorem LW{i:Str}(h:i.length<=1000000):mq S (.str i) (.int 0)=O (.str Str.empty):=Td ⟨by omega,by decide,by decide⟩
theorem LV{i:Str}(h:i.length<=1000000):mq S (.str i) (.int 1)=O (.str i):=Td ⟨by omega,by decide,by decide⟩
@[simp] theorem fStr1_n:aq ce [.non] S=O (.str "None",S):=id rfl
theorem iu{i:Int}(h:-1000000<=i)(h':i<=1000000):aq ce [.int i] S=O (.str (toString i),S):=by
 show (ce S [.int i]).bind _=_
 rw [show ce S [.int i]=O (.str (toString i)) from Td (zA h h')];rfl
noncomputable def GU:qI->Option (D×aa)
 | .rt d S'=>O (d,S')
 | .nx _ S'=>O (.non,S')
 | .bk _ _=>U
 | .ct _ _=>U
@[simp] theorem aP:GU (.rt d S)=O (d,S):=id rfl
@[simp] theorem outM_nx:GU (.nx e S)=O (.non,S):=id rfl
theorem aV{N:List Str}{m:MS}{n:Nat}{ds:List D}{S:aa}(h:ds.length=n):aU N m n ds S=(m (aM N ds) S).bind GU:=by
 unfold aU;rw [Td h];first | rfl | (congr 1;funext o;cases o <;> rfl)
@[simp] theorem rep0:List.replicate 0 (U:Option D)=[]:=id rfl
end
section
open PySem.StrLaws PySem.Builtin PySem.Builtin.Str
theorem rB{x y:Str}{h:Nat}{t:List Nat}(hy:y.cps.toList=h::t){k:Nat}(q:At x y x.length k):x.cps.toList[k]?=O h/\∃ r,x.cps.toList.drop k=y.cps.toList++r:=by
 have q2:=q.2
 rw [subAt_eq,beq_iff_eq] at q2
 have e:x.cps.toList.drop k=y.cps.toList++(x.cps.toList.drop k).drop y.length:=by
  conv=>lhs;rw [<- Uq y.length (x.cps.toList.drop k),q2]
 refine⟨?_,_,e⟩
 have:(x.cps.toList.drop k)[0]?=O h:=by rw [e,hy];rfl
 simpa using this
theorem Cd{x y:Str}{k:Nat}{r:List Nat}(h:x.cps.toList.drop k=y.cps.toList++r)(hy:1<=y.length):At x y x.length k:=by
 have ly:y.cps.toList.length=y.length:=by simp [Str.length]
 have lx:x.cps.toList.length=x.length:=by simp [Str.length]
 have hl:=congrArg List.length h
 rw [UD,Tl,ly,lx] at hl
 refine⟨by omega,?_⟩
 rw [subAt_eq,h,beq_iff_eq,<- ly,List.take_left]
theorem HX(y p q:Str)(r:List Str):(Str.join y (p::q::r)).cps.toList=p.cps.toList++(y.cps.toList++(Str.join y (q::r)).cps.toList):=by
 show (p++y++Str.join y (q::r)).cps.toList=_
 simp [Str.cps_append]
theorem Gb{x p:Str}{a b:Nat}(h:(x.cps.toList.drop a).take (b - a)=p.cps.toList):strSub x a b=p:=by
 apply Str.ext'
 apply Array.toList_inj.mp
 rw [strSub_toList];exact h
theorem AX{x y:Str}{h:Nat}{t:List Nat}(hy:y.cps.toList=h::t):∀ (ps:List Str) (cuts:List Nat) (a f:Nat),ps≠[]->(∀ p∈ps,h ∉ p.cps.toList)->x.cps.toList.drop a=(Str.join y ps).cps.toList->a<=x.length->ChainG x y x.length a cuts f->(∀ k,f<=k->¬ At x y x.length k)->partsFrom x y.length a cuts=ps:=by
 have ly:y.length=t.length+1:=by have:=congrArg List.length hy;simpa [Str.length] using this
 have lx:x.cps.toList.length=x.length:=by simp [Str.length]
 intro ps
 induction ps with
 | nil=>intro _ _ _ z;exact absurd rfl z
 | cons p ps ih=>
  intro cuts a f _ hf hd ha hc hn
  cases ps with
  | nil=>
   have hp:x.cps.toList.drop a=p.cps.toList:=hd
   have no:∀ k,a<=k->¬ At x y x.length k:=λk hk q=>by
    have q1:=(rB hy q).1
    have:(x.cps.toList.drop a)[k - a]?=O h:=by rw [VX,show a+(k - a)=k by omega];exact q1
    rw [hp] at this
    exact hf p (by simp) (TC this)
   cases cuts with
   | nil=>
    show [strSub x a x.length]=[p]
    rw [Gb (p:=p)]
    rw [hp];exact Vc (by rw [<- hp,UD,lx];exact SS _)
   | cons c r=>exact absurd hc.2.1 (no c hc.1)
  | cons q r=>
   rw [HX] at hd
   have l0:=congrArg List.length hd
   rw [UD,lx,Tl,Tl] at l0
   have k0:At x y x.length (a+p.cps.toList.length):=Cd (r:=(Str.join y (q::r)).cps.toList) (by rw [<- VT,hd,WG]) (by omega)
   cases cuts with
   | nil=>
    have e:f=a:=hc
    exact absurd k0 (hn _ (by omega))
   | cons c rc=>
    obtain⟨h1,h2,h3,h4⟩:a<=c/\At x y x.length c/\(∀ k,a<=k->k<c->¬ At x y x.length k)/\ChainG x y x.length (c+y.length) rc f:=by
     first
     | exact⟨hc.1,hc.2.1,hc.2.2.1,hc.2.2.2⟩
     | (obtain⟨a1,a2,a3,a4⟩:=hc;first | exact⟨a1,a2,a3,a4⟩ | exact⟨a1,a3,a2,a4⟩)
    have ec:c=a+p.cps.toList.length:=by
     rcases Nat.lt_trichotomy c (a+p.cps.toList.length) with z | z | z
     ·have q1:=(rB hy h2).1
      have:(x.cps.toList.drop a)[c - a]?=O h:=by rw [VX,show a+(c - a)=c by omega];exact q1
      rw [hd,To (by omega)] at this
      exact absurd (TC this) (hf p (by simp))
     ·exact z
     ·exact absurd k0 (h3 _ (by omega) z)
    subst ec
    show strSub x a _::partsFrom x y.length _ rc=_
    have yl:y.cps.toList.length=y.length:=by simp [Str.length]
    rw [Gb (p:=p) (by rw [hd,show a+p.cps.toList.length - a=p.cps.toList.length by omega,List.take_left]),ih rc _ f (by simp) (λz hz=>hf z (SO _ hz)) ?_ ?_ h4 hn]
    ·rw [<- VT,<- VT,hd,WG,<- yl,WG]
    ·omega
theorem jK{y:Str}{h:Nat}{t:List Nat}(hy:y.cps.toList=h::t)(hk:Builtin.Str.strKind y=1){ps:List Str}(hne:ps≠[])(hf:∀ p∈ps,h ∉ p.cps.toList):Txt.split (Str.join y ps) y=ps:=by
 generalize hx:Str.join y ps=x
 have ly:y.length=t.length+1:=by have:=congrArg List.length hy;simpa [Str.length] using this
 have lx:x.cps.toList.length=x.length:=by simp [Str.length]
 have main:∀ cuts f,ChainG x y x.length 0 cuts f->(∀ k,f<=k->¬ At x y x.length k)->partsFrom x y.length 0 cuts=ps:=λcuts f hc hn=>AX hy ps cuts 0 f hne hf (by rw [UF,hx]) (UA _) hc hn
 obtain⟨f,hc,hn⟩:=occ_tight x y (by omega)
 have hm:=main _ f hc hn
 unfold Txt.split
 split
 ·rename_i q
  have k1:¬ Builtin.Str.strKind x<Builtin.Str.strKind y:=by rw [hk];unfold Builtin.Str.strKind;split <;> (try split) <;> omega
  have q2:x.length<y.length:=by simpa [k1] using q
  cases ps with
  | nil=>exact absurd rfl hne
  | cons p r=>
   cases r with
   | nil=>rw [<- hx];rfl
   | cons p2 r=>
    have:=congrArg (λz:Str=>z.cps.toList.length) hx
    simp only [HX,Tl,lx] at this
    have yl:y.cps.toList.length=y.length:=by simp [Str.length]
    omega
 ·split
  ·rename_i q
   rw [List.isEmpty_iff.mp q] at hm
   rw [<- hm]
   show [x]=[strSub x 0 x.length]
   rw [sub_whole]
  ·rw [partsBetween_eq];exact hm
end
section
variable{env e:av}{S S':aa}{x y d:D}{a b:ME}{ms:MA}{t:MT}{g:MG}{bd:MB}{xs:List D}{cap:List (Option Nat)}
noncomputable def HD(z:Str)(q:List D×aa):Option (D×aa):=match q.1 with
 | [.str y]=>if (y.length == 0)=false/\z.length<=1000000 then O (.lst ((Txt.split z y).map .str),q.2) else U
 | _=>U
noncomputable def kSpl(ms:MA)(env:av)(p:D×aa):Option (D×aa):=match p.1 with
 | .str z=>(ms env p.2).bind (HD z)
 | _=>U
theorem nK:cJ a ms env S=(a env S).bind (kSpl ms env):=by rw [uS];rfl
theorem xz{z:Str}:kSpl ms env (.str z,S)=(ms env S).bind (HD z):=id rfl
theorem lj{z w:Str}(h:(w.length == 0)=false)(hz:z.length<=1000000):HD z ([.str w],S)=O (.lst ((Txt.split z w).map .str),S):=Td ⟨h,hz⟩
noncomputable def kEm(env:av)(q:D×aa):Option (List D×av×aa):=O ([q.1],env,q.2)
theorem NJ:sx a env S=(a env S).bind (kEm env):=by rw [Hw];rfl
theorem NS:kEm env (d,S)=O ([d],env,S):=id rfl
noncomputable def kIB(g:MG)(t:MT)(b:MB)(env:av)(q:List D×aa):Option (List D×av×aa):=iI g t b q.1 env q.2
theorem su:gE ms g t bd env S=(ms env S).bind (kIB g t bd env):=by rw [CL];rfl
theorem zH:kIB g t bd env (xs,S)=iI g t bd xs env S:=id rfl
noncomputable def HU(q:List D×av×aa):Option (D×aa):=if q.1.length<=sizeLine then O (.lst q.1,q.2.2) else U
noncomputable def kCN(g:MG)(t:MT)(b:MB)(cap:List (Option Nat))(env:av)(q:List D×aa):Option (D×aa):=(iI g t b q.1 (iX cap env) q.2).bind HU
theorem zw:cr ms g t bd cap env S=(ms env S).bind (kCN g t bd cap env):=by rw [oY];rfl
theorem NW:kCN g t bd cap env (xs,S)=(iI g t bd xs (iX cap env) S).bind HU:=id rfl
theorem CZ(h:xs.length<=1000):HU (xs,e,S)=O (.lst xs,S):=Td (sz h)
theorem eC{α:Type}{enc:α->D}(I:av->Prop)(ws:α->List D):∀ (l:List α) (env:av),I env->(∀ x∈l,∀ env,I env->∃ env1 env2,g (enc x) env S=O (env1,S)/\bd env1 S=O (ws x,env2,S)/\I env2)->∃ env',iI g aG bd (l.map enc) env S=O (l.flatMap ws,env',S)/\I env'
 | [],env,h,_=>⟨env,rfl,h⟩
 | x::l,env,h,hs=>by
  obtain⟨env1,env2,h1,h2,h3⟩:=hs x (by simp) env h
  obtain⟨env',h4,h5⟩:=eC I ws l env2 h3 λy hy=>hs y (SO _ hy)
  refine⟨env',?_,h5⟩
  show (g (enc x) env S).bind _=_
  rw [h1,ob]
  dsimp only
  rw [ee,ob]
  dsimp only
  rw [Td rfl,h2,ob]
  dsimp only
  rw [h4]
  rfl
noncomputable def QE(q:List (ba×D)×aa):Option (D×aa):=O (.dct (q.1.map (·.1)) (q.1.map (·.2)),q.2)
noncomputable def kDC(g:MG)(t:MT)(kx vx:ME)(cap:List (Option Nat))(env:av)(q:List D×aa):Option (D×aa):=(mJ g t kx vx q.1 (iX cap env) q.2 []).bind QE
theorem zt:dc ms g t a b cap env S=(ms env S).bind (kDC g t a b cap env):=by rw [vb];rfl
theorem NU:kDC g t a b cap env (xs,S)=(mJ g t a b xs (iX cap env) S []).bind QE:=id rfl
theorem HJ{l:List (ba×D)}:QE (l,S)=O (.dct (l.map (·.1)) (l.map (·.2)),S):=id rfl
theorem mM{α:Type}{enc:α->D}(I:av->Prop)(key:α->Str):∀ (l:List α) (env:av) (S:aa) (kvs:List (ba×D)),I env->kvs.length+l.length<=1000->(∀ x∈l,∀ env S,I env->∃ env1 T,g (enc x) env S=O (env1,S)/\a env1 S=O (.str (key x),S++T)/\(∀ S,b env1 S=O (enc x,S))/\I env1) ->
  ∃ T,mJ g aG a b (l.map enc) env S kvs=O (em kvs (l.map λx=>(.inr (key x),enc x)),S++T)
 | [],env,S,kvs,h,_,_=>⟨[],by rw [Tx];rfl⟩
 | x::l,env,S,kvs,h,hl,hs=>by
  rw [SY] at hl
  obtain⟨env1,T,h1,h2,h3,h4⟩:=hs x (by simp) env S h
  have hp:(ua kvs (.inr (key x)) (enc x)).length<=kvs.length+1:=by
   unfold ua
   split
   ·have:∀ l:List (ba×D),(DK l (.inr (key x)) (enc x)).length=l.length:=λl=>by induction l with | nil=>rfl | cons p r ih=>rw [DK,SY,SY,ih]
    rw [this];omega
   ·simp
  obtain⟨T',h5⟩:=mM I key l env1 (S++T) (ua kvs (.inr (key x)) (enc x)) h4 (by omega) λy hy=>hs y (SO _ hy)
  refine⟨T++T',?_⟩
  show (g (enc x) env S).bind _=_
  rw [h1,ob]
  dsimp only
  rw [ee,ob]
  dsimp only
  rw [Td rfl,h2,ob]
  dsimp only
  rw [h3,ob]
  dsimp only
  rw [show eD (.str (key x))=O (.inr (key x)) from rfl,ob,Td (Tf (show kvs.length<1001 by omega) (by decide)),h5,TN]
  rfl
theorem vT{α:Type}{key:α->Str}{enc:α->D}:∀ {l:List α},(l.map key).Nodup->∀ x∈l,dC (l.map λx=>(.inr (key x),enc x)) (.inr (key x))=O (enc x)
 | y::l,hn,x,hx=>by
  rw [Ta,UY] at hn
  show (if (Sum.inr (key y):ba)=Sum.inr (key x) then O (enc y) else dC _ _)=_
  rcases Tc.mp hx with rfl | hx
  ·rw [Td rfl]
  ·rw [Ts (λz=>hn.1 (by rw [Xl z];exact Vr hx))]
   exact vT hn.2 x hx
theorem yU{α:Type}{key:α->Str}{enc:α->D}{l:List α}(hn:(l.map key).Nodup):em [] (l.map λx=>((.inr (key x):ba),enc x))=l.map λx=>(.inr (key x),enc x):=by
 apply oS
 rw [TJ]
 have e:((λp:ba×D=>p.1) ∘ λx=>((.inr (key x):ba),enc x))=(Sum.inr:Str->ba) ∘ key:=rfl
 rw [e,<- TJ]
 exact Wf.mpr (hn.imp λh z=>h (Xl z))
noncomputable def QB(p:D×aa):Option (List D×aa):=match p.1 with | .str z=>if z.cps.all (· < 128)=true then O (rE z,p.2) else U | _=>U
theorem Qf:lf a env S=(a env S).bind QB:=by rw [CJ];rfl
theorem LG{z:Str}(h:z.cps.all (· < 128)=true):QB (.str z,S)=O (rE z,S):=Td h
noncomputable def HH(p:List D×aa):Option (List D×aa):=match p.1 with | [.lst xs]=>O (gR 0 xs,p.2) | _=>U
theorem Hv:dZ ms env S=(ms env S).bind HH:=by rw [uY];rfl
theorem HG:HH ([.lst xs],S)=O (gR 0 xs,S):=id rfl
theorem Ij{gs:lU}(h:xs.length<16384):gh gs (.lst (x::xs)) env S=gs [x,.lst xs] env S:=by rw [zS];exact Td h
theorem Df{gs:lU}{z w:D}:gp 4 gs (.lst [x,y,z,w]) env S=gs [x,y,z,w] env S:=by rw [zQ];rfl
theorem Iz{z:Str}{n:Int}(h:intText? z=O n)(hl:z.length<=640):aq mr [.str z] S=O (.int n,S):=by
 have:mr S [.str z]=O (.int n):=by
  show (if z.length<=640 then (intText? z).bind λn=>O (D.int n) else U)=_
  rw [Td hl,h];rfl
 show (mr S [.str z]).bind _=_
 rw [this];rfl
theorem LZ{z:Str}{i:Int}{c:Nat}(h:lD z.cps.toList i=O c)(hl:z.length<=1000000):BH S (.str z) (.int i)=O (.str ⟨#[c]⟩):=by
 show (if z.length<=sizeLine then (lD z.cps.toList i).bind λc=>O (D.str ⟨#[c]⟩) else U)=_
 rw [Td (szM hl),h];rfl
theorem BD{l:List (ba×D)}{z:Str}:oa S (.str z) (.dct (l.map (·.1)) (l.map (·.2)))=O (.bl (!(dC l (.inr z)).isSome)):=by
 show O (D.bl (!(dC ((l.map (·.1)).zip (l.map (·.2))) (.inr z)).isSome))=_
 rw [qZ]
end
noncomputable def qR:MS:=
 aw (bx (aF (ay Kb (ay aQ (ae 0) (mC (.int 0))) (mC (.int 0)))) (aw (aE (ay ke (ay aQ (ae 0) (mC (.int 0))) (ae 1)) (ah 2)) (aw (aE (ay EI (ay aQ (ae 0) (mC (.int 0))) (ae 1)) (ei (ae 0) (mC (.int 0)))) (aN (ae 2)))) (aI)) (aw (aE (ay bH (ay aQ (ae 0) (mC (.int 2))) (mC (.int 1))) (ei (ae 0) (mC (.int 2)))) (aw (aE (ay ke (ay bH (ay bH (ay dN (ay aQ (ae 0) (mC (.int 1))) (mC (.int 48271))) (mC (.int 12345))) (ay dN (mC (.int 7)) (ay aQ (ae 0) (mC (.int 2))))) (mC (.int 2147483647))) (ei (ae 0) (mC (.int 1)))) (aN (ay ke (ay EI (ay ke (ay dN (ay aQ (ae 0) (mC (.int 1))) (ay aQ (ae 0) (mC (.int 1)))) (mC (.int 1999999973))) (mC (.int 64))) (ae 1)))))
noncomputable def Bu:MS:=
 aw (aE (mC (.int 1)) (ah 0)) (aw (gG (aL (ac (mC (.int 10)) (af))) (ah 1) (aE (ay dN (ae 0) (ay ug (mC (.int 10)) (mC (.int 60)))) (ah 0))) (aN (ae 0)))
noncomputable def lI:MS:=
 aw (bx (aF (ay fLt (ae 1) (aA (aq eN) (ac (ae 0) (af))))) (aN (ay aQ (ae 0) (ae 1))) (aI)) (aN (mC (.int 0)))
noncomputable def qS(cellAt far:List D->aa->Option (D×aa)):MS:=
 aw (aE (ag 2 cellAt (ac (ae 0) (ac (ay ke (ae 1) (aA (aq sY) (ac (mC (.int 1)) (ac (aA (aq eN) (ac (ae 0) (af))) (af))))) (af)))) (ah 2)) (aw (aE (ay ke (ay dN (ay bH (ay bH (ay ke (ae 2) (mC (.int 2147483629))) (ay dN (ay dN (mC (.int 7919)) (ae 1)) (ae 1))) (mC (.int 11))) (mC (.int 48271))) (mC (.int 2147483647))) (ah 3)) (aw (aE (ay ke (ay bH (ay bH (ay dN (ae 3) (mC (.int 39373))) (ay dN (mC (.int 7)) (ae 1))) (mC (.int 1))) (mC (.int 2147483629))) (ah 3)) (aw (bx (aF (ay fLt (ae 2) (ay ug (mC (.int 10)) (mC (.int 18))))) (aE (mC (.int 0)) (ah 2)) (aI)) (aN (dm (ac (ay ke (ae 2) (ag 0 far af)) (ac (ae 3) (ac (mC (.int 0)) (af)))))))))
theorem Sv{a b c:D}:lD [a,b,c] 0=O a/\lD [a,b,c] 1=O b/\lD [a,b,c] 2=O c:=⟨rfl,rfl,rfl⟩
noncomputable def Pk(S:aa)(r:Nat):Prop:=∃ a b c:Int,S[r]?=O (.lst [.int a,.int b,.int c])/\0<=a/\0<=b/\b<2147483647
noncomputable def p60:Int:=1000000000000000000000000000000000000000000000000000000000000
theorem PH:(10:Int) ^ (60:Int).toNat=p60:=by decide +kernel
theorem PD:p60.natAbs<=2 ^ (200 * 1):=by decide +kernel
theorem Lf:0<p60:=by decide +kernel
theorem Lg{i:Int}(h:i.natAbs<2 ^ 4000):nE i p60=true:=by
 unfold nE
 rw [decide_eq_true h,decide_eq_true (p:=p60.natAbs<2 ^ 4000) (by decide +kernel)]
 simp
noncomputable def Iu:MS:=aE (ay dN (ae 0) (ay ug (mC (.int 10)) (mC (.int 60)))) (ah 0)
theorem RA{S:aa}:ug S (.int 10) (.int 60)=O (.int p60):=by
 have h:=Iw (S:=S) (i:=10) (j:=60) (by decide +kernel)
 rw [PH] at h
 exact h
theorem Ir{S:aa}{a p:Int}{o:Option D}(h1:ug S (.int 10) (.int 60)=O (.int p))(h2:dN S (.int a) (.int p)=O (.int (a * p))):Iu [O (.int a),o] S=O (.nx [O (.int (a * p)),o] S):=by
 simp [Iu,h1,h2]
theorem LU{S:aa}{a:Int}{o:Option D}(h:nE a p60=true):Iu [O (.int a),o] S=O (.nx [O (.int (a * p60)),o] S):=Ir RA (jh h)
theorem farL{S:aa}{B:Nat}(hB:∀ i:Int,i.natAbs<B->nE i p60=true)(l:List D):∀ (a:Int) (o:Option D),0<a->a.natAbs * 2 ^ (200 * l.length)<B->∃ q o',cx (ah 1) Iu l [O (.int a),o] S=O (.nx [O (.int q),o'] S)/\0<q:=by
 induction l with
 | nil=>exact λa o h _=>⟨a,o,rfl,h⟩
 | cons d l ih=>
  intro a o h hb
  have h1:a.natAbs<B:=UX (Nat.le_mul_of_pos_right _ (Nat.pow_pos (by decide))) hb
  obtain⟨q,o',e,hq⟩:=ih (a * p60) (O d) (Int.mul_pos h Lf) (by
   rw [Int.natAbs_mul]
   refine UX ?_ hb
   rw [SY,Nat.mul_add,Nat.pow_add,Nat.mul_assoc]
   refine Xm _ ?_
   rw [Wl]
   exact Xm _ PD)
  refine⟨q,o',?_,hq⟩
  rw [gF,aT,ob,pk]
  show (Iu [O (.int a),O d] S).bind _=_
  rw [LU (hB a h1),ob,lJ]
  exact e
theorem Iq{S:aa}{N:List Str}(hN:N.length=2):∃ q:Int,aU N Bu 0 [] S=O (.int q,S)/\0<q:=by
 obtain⟨q,o',e,hq⟩:=farL (S:=S) (λi h=>Lg h) (bj 0 10) 1 U (by decide) (by decide +kernel)
 refine⟨q,?_,hq⟩
 rw [aV (show ([]:List D).length=0 from rfl)]
 have:aM N []=[U,U]:=by simp [aM,hN,List.replicate]
 rw [this]
 have k1:NM ([.int 10],S)=O (bj 0 10,S):=jW (by decide) (by decide)
 have e':cx (ah 1) (aE (ay dN (ae 0) (ay ug (mC (.int 10)) (mC (.int 60)))) (ah 0)) (bj 0 10) [O (.int 1),U] S=O (.nx [O (.int q),o'] S):=e
 simp only [Bu,bC,ci,bG,ob,cm,aT,mf,dI,aX,xr,eL,au,ak,ax,aj,k1,xF,e',bo,ar,df,oj,ao,bQ,aP]
theorem DU{S:aa}{r:Nat}{m:Int}{N:List Str}(hN:N.length=3)(h:Pk S r)(h0:0<m)(h1:m<1073741824) :
  ∃ q S',aU N qR 2 [.ref r,.int m] S=O (.int q,S')/\0<=q/\q<m/\Pk S' r/\(∀ j,j≠r->S'[j]?=S[j]?)/\S'.length=S.length:=by
 obtain⟨a,b,c,h,ha,hb,hb'⟩:=h
 have hr:r<S.length:=(SR.mp h).1
 have hm:∀ x:Int,0<=x % m/\x % m<m:=λx=>⟨Va _ (by omega),VY _ h0⟩
 have hst:aM N [.ref r,.int m]=[O (.ref r),O (.int m),U]:=by simp [aM,hN]
 rw [aV (show [D.ref r,D.int m].length=2 from rfl),hst]
 have hs:∀ c:Cell,(S.set r c)[r]?=O c:=λc=>Uc hr
 by_cases hp:0<a
 ·refine⟨a % m,S.set r (.lst [.int (a / m),.int b,.int c]),?_,(hm a).1,(hm a).2,⟨a / m,b,c,hs _,Int.ediv_nonneg ha (by omega),hb,hb'⟩,λj hj=>by rw [TK (Ne.symm hj)],by simp⟩
  have w:=sD (env:=[O (.ref r),O (.int m),O (.int (a % m))]) (d:=.int (a / m)) h (show Ey _ 0=O 0 from rfl)
  simp [qR,lN h,hp,iO h0,IB h0 h1,Sv,w]
 ·have hB:∀ x:Int,0<=x % 2147483647/\x % 2147483647<2147483647:=λx=>⟨Va _ (by decide),VY _ (by decide)⟩
  let b':=(b * 48271+12345+7 * (c+1)) % 2147483647
  have hb2:=hB (b * 48271+12345+7 * (c+1))
  have m3:nE b' b'=true:=rW (by omega) (by omega)
  have s1:(S.set r (.lst [.int a,.int b,.int (c+1)]))[r]?=O (.lst [.int a,.int b,.int (c+1)]):=hs _
  have s2:((S.set r (.lst [.int a,.int b,.int (c+1)])).set r (.lst [.int a,.int b',.int (c+1)]))[r]?=O (.lst [.int a,.int b',.int (c+1)]):=Uc (by simpa using hr)
  refine⟨b' * b' % 1999999973 / 64 % m,(S.set r (.lst [.int a,.int b,.int (c+1)])).set r (.lst [.int a,.int b',.int (c+1)]),?_,(hm _).1,(hm _).2,⟨a,b',c+1,s2,ha,(hB _).1,(hB _).2⟩,λj hj=>by rw [TK (Ne.symm hj),TK (Ne.symm hj)],by simp⟩
  have e1:dN (S.set r (.lst [.int a,.int b,.int (c+1)])) (.int b) (.int 48271)=O (.int (b * 48271)):=jh (wU (by decide) (by decide))
  have e2:dN (S.set r (.lst [.int a,.int b,.int (c+1)])) (.int 7) (.int (c+1))=O (.int (7 * (c+1))):=jh (rW (by decide) (by decide))
  have e3:∀ S x,ke S (.int x) (.int 2147483647)=O (.int (x % 2147483647)):=λ_ _=>iO (by decide)
  have e4:∀ S x,ke S (.int x) (.int 1999999973)=O (.int (x % 1999999973)):=λ_ _=>iO (by decide)
  have e5:∀ S x,EI S (.int x) (.int 64)=O (.int (x / 64)):=λ_ _=>IB (by decide) (by decide)
  have w1:=sD (env:=[O (.ref r),O (.int m),U]) (d:=.int (c+1)) h (show Ey _ 2=O 2 from rfl)
  have w2:=sD (env:=[O (.ref r),O (.int m),U]) (d:=.int b') s1 (show Ey _ 1=O 1 from rfl)
  simp [qR,lN h,lN s1,lN s2,hp,iO h0,Sv,e1,e2,e3,e4,e5,w1]
  rw [show (b * 48271+12345+7 * (c+1)) % 2147483647=b' from rfl,w2]
  simp [lN (hs _),Sv,jh m3,e4,e5,iO h0]
theorem Ap{S:aa}{ns:List Int}{k:Int}{N:List Str}(hN:N.length=2)(h0:0<=k):∃ v,aU N lI 2 [.rol (ns.map .int),.int k] S=O (.int v,S):=by
 rw [aV (show [D.rol (ns.map .int),D.int k].length=2 from rfl)]
 have hst:aM N [D.rol (ns.map .int),D.int k]=[O (D.rol (ns.map .int)),O (.int k)]:=by simp [aM,hN]
 rw [hst]
 by_cases h:k<ns.length
 ·have e:lD (ns.map D.int) k=O (.int (ns[k.toNat]'(by omega))):=by
   rw [JV h0 (by simpa using h)];simp
  exact⟨ns[k.toNat]'(by omega),by simp [lI,h,e]⟩
 ·exact⟨0,by simp [lI,h]⟩
theorem SE{S:aa}{a b c:Int}(ha:0<=a)(hb:0<=b)(hb':b<2147483647):Pk (S++[.lst [.int a,.int b,.int c]]) S.length:=⟨a,b,c,by simp,ha,hb,hb'⟩
theorem El{S:aa}{ns:List Int}{k:Int}{N:List Str}{cellAt far:List D->aa->Option (D×aa)}(hN:N.length=4)(h0:0<=k)(h1:k<=100000)
  (hc:∀ S k,0<=k->∃ v,cellAt [.rol (ns.map .int),.int k] S=O (.int v,S)) (hf:∀ S,∃ q,far [] S=O (.int q,S)/\0<q) :
  ∃ a b,aU N (qS cellAt far) 2 [.rol (ns.map .int),.int k] S=O (.ref S.length,S++[.lst [.int a,.int b,.int 0]])/\0<=a/\0<=b/\b<2147483647:=by
 rw [aV (show [D.rol (ns.map .int),D.int k].length=2 from rfl)]
 have hst:aM N [D.rol (ns.map .int),D.int k]=[O (D.rol (ns.map .int)),O (.int k),U,U]:=by simp [aM,hN,List.replicate]
 rw [hst]
 have hmx:0<(if (ns.length:Int)>1 then (ns.length:Int) else 1):=by split <;> omega
 obtain⟨v,hv⟩:=hc S (k % (if (ns.length:Int)>1 then (ns.length:Int) else 1)) (Va _ (by omega))
 obtain⟨q,hq,q0⟩:=hf S
 have e1:∀ S x,ke S (.int x) (.int 2147483629)=O (.int (x % 2147483629)):=λ_ _=>iO (by decide)
 have e2:∀ S x,ke S (.int x) (.int 2147483647)=O (.int (x % 2147483647)):=λ_ _=>iO (by decide)
 have e3:∀ S x,ke S (.int x) (.int q)=O (.int (x % q)):=λ_ _=>iO q0
 have p1:∀ S,dN S (.int 7919) (.int k)=O (.int (7919 * k)):=λ_=>jh (rW (by decide) (by decide))
 have p2:∀ S,dN S (.int (7919 * k)) (.int k)=O (.int (7919 * k * k)):=λ_=>jh (wU (by omega) (by omega))
 have p3:∀ S x,dN S (.int x) (.int 48271)=O (.int (x * 48271)):=λ_ _=>jh (wU (by decide) (by decide))
 have p4:∀ S x,dN S (.int x) (.int 39373)=O (.int (x * 39373)):=λ_ _=>jh (wU (by decide) (by decide))
 have p5:∀ S,dN S (.int 7) (.int k)=O (.int (7 * k)):=λ_=>jh (rW (by decide) (by decide))
 have pw:∀ S,ug S (.int 10) (.int 18)=O (.int 1000000000000000000):=λS=>by
  have h:=Iw (S:=S) (i:=10) (j:=18) (by decide +kernel)
  rwa [show (10:Int) ^ (18:Int).toNat=1000000000000000000 by decide +kernel] at h
 have hb:∀ x:Int,0<=x % 2147483629/\x % 2147483629<2147483647:=λx=>⟨Va _ (by decide),by have:=VY x (show (0:Int)<2147483629 by decide);omega⟩
 have kl:∀ S x y,zF ([.int x,.int y,.int 0],S)=O (.ref S.length,S++[.lst [.int x,.int y,.int 0]]):=λ_ _ _=>sH (by simp)
 by_cases h:v<1000000000000000000
 ·refine⟨0 % q,(((v % 2147483629+7919 * k * k+11) * 48271 % 2147483647) * 39373+7 * k+1) % 2147483629,?_,Va _ (by omega),(hb _).1,(hb _).2⟩
  simp [-Int.zero_emod,qS,iO hmx,hv,e1,e2,e3,p1,p2,p3,p4,p5,pw,h,hq,kl]
 ·refine⟨v % q,(((v % 2147483629+7919 * k * k+11) * 48271 % 2147483647) * 39373+7 * k+1) % 2147483629,?_,Va _ (by omega),(hb _).1,(hb _).2⟩
  simp [qS,iO hmx,hv,e1,e2,e3,p1,p2,p3,p4,p5,pw,h,hq,kl]
theorem zU{tg:MG}{p:MS}(I:av->aa->Prop):∀ (xs:List D),(∀ d∈xs,∀ env S,I env S->∃ env1 S1 env2 S2,tg d env S=O (env1,S1)/\p env1 S1=O (.nx env2 S2)/\I env2 S2) ->
  ∀ env S,I env S->∃ env' S',cx tg p xs env S=O (.nx env' S')/\I env' S'
 | [],_,env,S,h=>⟨env,S,rfl,h⟩
 | d::xs,hs,env,S,h=>by
  obtain⟨env1,S1,env2,S2,e1,e2,h2⟩:=hs d SN env S h
  obtain⟨env',S',e3,h3⟩:=zU I xs (λd hd=>hs d (SO _ hd)) env2 S2 h2
  exact⟨env',S',by rw [gF,e1,ob,pk,e2,ob,lJ,e3],h3⟩
theorem Bh{lo:Int}{n:Nat}{d:D}(h:d∈bj lo n):∃ i:Nat,i<n/\d=.int (lo+(i:Int)):=by
 obtain⟨i,hi⟩:=VM.mp h
 exact⟨i,rM lo n i d hi⟩
noncomputable abbrev PF:=List D->aa->Option (D×aa)
noncomputable def JY(pick:PF):Prop:=∀ (S:aa) (r:Nat) (m:Int),Pk S r->0<m->m<1073741824->∃ q S',pick [.ref r,.int m] S=O (.int q,S')/\0<=q/\q<m/\Pk S' r/\(∀ j,j≠r->S'[j]?=S[j]?)/\S'.length=S.length
noncomputable def wl:List D:=[.str "out",.str "reads",.str "rising",.str "writes",.str "raised"]
theorem forR{tg:MG}{p:MS}{lo:Int}(I:Nat->av->aa->Prop)(n:Nat)(step:∀ i,i<n->∀ env S,I i env S->∃ env1 S1 env2 S2,tg (.int (lo+(i:Int))) env S=O (env1,S1)/\p env1 S1=O (.nx env2 S2)/\I (i+1) env2 S2) :
  ∀ env S,I 0 env S->∃ env' S',cx tg p (bj lo n) env S=O (.nx env' S')/\I n env' S':=by
 have gen:∀ (m k:Nat),k+m=n->∀ env S,I k env S->∃ env' S',cx tg p ((List.range' k m).map λ(i:Nat)=>D.int (lo+(i:Int))) env S=O (.nx env' S')/\I n env' S':=by
  intro m
  induction m with
  | zero=>exact λk hk env S h=>⟨env,S,rfl,by rw [<- hk];exact h⟩
  | succ m ih=>
   intro k hk env S h
   obtain⟨env1,S1,env2,S2,e1,e2,h2⟩:=step k (by omega) env S h
   obtain⟨env',S',e3,h3⟩:=ih (k+1) (by omega) env2 S2 h2
   refine⟨env',S',?_,h3⟩
   rw [List.range'_succ,Ta,gF,e1,ob,pk,e2,ob,lJ,e3]
 intro env S h
 have:=gen n 0 (by omega) env S h
 unfold bj
 rw [List.range_eq_range']
 exact this
noncomputable def EntOk(n:Int)(xs:List D)(d:D):Prop:=∃ (g:Int) (w:Str) (m:Int) (t:D),d=.tup [.int g,.str w,.int m,t]/\0<=g/\g<n/\(w = "read"\/w = "write")/\0<=m/\m<=999/\(t=.non\/∃ k,t=.int k/\1<=k/\k<=9)/\lD xs g=O (.str "out")
theorem EntOk.up{n n':Int}{xs:List D}{d:D}(h:EntOk n xs d)(hn:n<=n'):EntOk n' xs d:=by
 obtain⟨g,w,m,t,e,h0,h1,r⟩:=h
 exact⟨g,w,m,t,e,h0,by omega,r⟩
theorem EB{α:Type}(xs:List α)(i:Int)(y:α):(jY xs i y).Perm (y::xs):=by
 unfold jY
 refine List.perm_middle.trans ?_
 rw [Uq]
theorem Ix{S:aa}{q:Nat}{xs:List D}(h:S[q]?=O (.lst xs)):aq eN [.ref q] S=O (.int xs.length,S):=by
 have e:fV S (.ref q)=O xs:=by simp only [fV,h]
 show ((fV S (.ref q)).bind _).bind _=_
 rw [e];rfl
theorem vB{S:aa}{g:List D->D}{q:Nat}{xs:List D}(h:S[q]?=O (.lst xs)):aq (fS g) [.ref q] S=O (g xs,S):=by
 have e:fV S (.ref q)=O xs:=by simp only [fV,h]
 show ((fV S (.ref q)).bind _).bind _=_
 rw [e];rfl
theorem Pk.app{S:aa}{r:Nat}{c:Cell}(h:Pk S r):Pk (S++[c]) r/\S.length≠r:=by
 obtain⟨a,b,d,h,z⟩:=h
 have hr:=(SR.mp h).1
 exact⟨⟨a,b,d,by rw [To hr];exact h,z⟩,by omega⟩
theorem rL(lo:Int)(n:Nat):(bj lo n).length=n:=by unfold bj;simp
noncomputable def Rp(x:Str):Prop:=x = "rows"\/x = "readers"\/x = "writers"\/x = "turns"\/x = "passes"
noncomputable def Keep(r:Nat)(S S':aa):Prop:=(∀ j,j≠r->S'[j]?=S[j]?)/\S'.length=S.length
theorem Keep.trans{r:Nat}{S S' S'':aa}(h:Keep r S S')(h':Keep r S' S''):Keep r S S'':=⟨λj z=>(h'.1 j z).trans (h.1 j z),h'.2.trans h.2⟩
theorem Keep.refl{r:Nat}{S:aa}:Keep r S S:=⟨λ_ _=>rfl,rfl⟩
structure RuleOk(x:Str)(a b c:Int):Prop where
 w:Rp x
 a0:0<=a
 a5:a<=5
 b0:0<=b
 b9:b<=9
 c0:0<=c
 c1:c<=1
noncomputable def jU(F:PF):MS:=
 aw (bx (cn (db "dict" (ae 1))) (aw (bx (dX (bK (cn (db "dict" (ae 0)))) (aF (ay qk (aA (aq eN) (ac (ae 0) (af))) (aA (aq eN) (ac (ae 1) (af)))))) (aN (mC (.bl false))) (aI)) (aw (aE (gC) (ah 2)) (aN (aA (aq pv) (ac (bF (cf (ae 1)) (ah 0) (aG) (fe (ay EH (ae 0) (ae 2)) (fe (ag 2 F (ac (ay aQ (ae 3) (ae 0)) (ac (ae 0) (af)))) (ag 2 F (ac (ay aQ (ae 2) (ae 0)) (ac (ay aQ (ae 1) (ae 0)) (af)))))) [U,O 1,O 0,O 2]) (af)))))) (aI)) (aw (bx (dX (cn (db "list" (ae 1))) (cn (db "tuple" (ae 1)))) (aw (bx (dX (aF (ay qk (db "list" (ae 0)) (db "list" (ae 1)))) (aF (ay qk (db "tuple" (ae 0)) (db "tuple" (ae 1))))) (aN (mC (.bl false))) (aI)) (aN (fe (ay iP (aA (aq eN) (ac (ae 0) (af))) (aA (aq eN) (ac (ae 1) (af)))) (aA (aq pv) (ac (bF (jt (ac (ae 0) (ac (ae 1) (af)))) (bg 2 (ai (ah 0) (ai (ah 1) (be)))) (aG) (ag 2 F (ac (ae 0) (ac (ae 1) (af)))) [U,U]) (af)))))) (aI)) (aw (bx (aF (ay Ka (ae 1) (mC .non))) (aN (ay Ka (ae 0) (mC .non))) (aI)) (aw (bx (cn (db "str" (ae 1))) (aN (fe (db "str" (ae 0)) (ay iP (ae 0) (ae 1)))) (aI)) (aw (bx (dX (cn (db "bool" (ae 1))) (cn (db "bool" (ae 0)))) (aN (fe (db "bool" (ae 0)) (fe (db "bool" (ae 1)) (ay iP (ae 0) (ae 1))))) (aI)) (aN (fe (db "int" (ae 0)) (ay iP (ae 0) (ae 1))))))))
noncomputable def di:Nat->D->Bool
 | 0,_=>false
 | _+1,.non=>true
 | _+1,.bl _=>true
 | _+1,.int _=>true
 | _+1,.str _=>true
 | j+1,.tup xs=>decide (xs.length<=1000)&&xs.all (di j)
 | _+1,_=>false
theorem RH{S:aa}{d:D}{j:Nat}(h:di j d=true):ij "dict" S d=O (.bl false)/\ij "list" S d=O (.bl false):=by
 cases j with
 | zero=>cases h
 | succ j=>cases d <;> first | exact⟨rfl,rfl⟩ | (exfalso;simp [di] at h)
theorem lW:∀ xs:List D,(jd xs xs).length=xs.length
 | []=>rfl
 | x::r=>by rw [FL,SY,SY,lW r]
theorem oA:∀ n:Nat,kn (List.replicate n (D.bl true))=O (List.replicate n true)
 | 0=>rfl
 | n+1=>by
  rw [Tv,Tv]
  have:=oA n
  simp only [kn,this];rfl
theorem RE{S:aa}{k l:Bool}:qk S (.bl k) (.bl l)=O (.bl (!(k == l))):=BE (by simp [bP]) (by simp [bP])
theorem Gm{F:PF}{S:aa}{t1 t2:Option D}:∀ (xs:List D) (a b:Option D),(∀ d∈xs,F [d,d] S=O (.bl true,S))->er (bg 2 (ai (ah 0) (ai (ah 1) (be)))) (aG) (ag 2 F (ac (ae 0) (ac (ae 1) (af)))) (jd xs xs) [a,b] S=O (List.replicate xs.length (.bl true),S)
 | [],a,b,_=>by simp
 | x::r,a,b,h=>by
  have h1:=h x (by simp)
  have h2:=Gm (t1:=t1) (t2:=t2) r (O x) (O x) λd hd=>h d (SO _ hd)
  rw [FL,lg]
  simp [h1,h2,Tv]
theorem yC{R:Nat->PF}{N:List Str}(hN:N.length=3)(hR:∀ j,R (j+1)=aU N (jU (R j)) 2){S:aa}:∀ (j:Nat) (d:D),di j d=true->R j [d,d] S=O (.bl true,S)
 | 0,d,h=>by cases d <;> cases h
 | j+1,d,h=>by
  have hst:aM N [d,d]=[O d,O d,U]:=by simp [aM,hN,List.replicate]
  rw [hR,aV (show [d,d].length=2 from rfl),hst]
  obtain⟨i1,i2⟩:=RH (S:=S) h
  cases d with
  | tup xs=>
   have hx:xs.length<=1000/\xs.all (di j)=true:=by simpa [di] using h
   have it:ij "tuple" S (.tup xs)=O (.bl true):=rfl
   have hl:=Gm (F:=R j) (S:=S) (t1:=U) (t2:=U) xs U U λd hd=>yC hN hR j d (Tj.mp hx.2 d hd)
   have kc:sL (bg 2 (ai (ah 0) (ai (ah 1) (be)))) (aG) (ag 2 (R j) (ac (ae 0) (ac (ae 1) (af)))) [U,U] [O (.tup xs),O (.tup xs),U] (jd xs xs,S)=O (.lst (List.replicate xs.length (.bl true)),S):=by
    rw [sK (by rw [lW];exact hx.1)]
    show (er _ _ _ (jd xs xs) [U,U] S).bind _=_
    rw [hl];rfl
   have fa:aq pv [.lst (List.replicate xs.length (D.bl true))] S=O (.bl true,S):=by
    rw [xO (oA _)];simp
   simp [jU,i1,i2,it,RE,kc,fa]
  | txt=>cases h
  | obj=>cases h
  | exc C fl i=>cases h
  | non=>simp [jU,i1,i2,show ij "tuple" S .non=O (.bl false) from rfl,qE]
  | bl k=>simp [jU,i1,i2,show ij "tuple" S (.bl k)=O (.bl false) from rfl,show ij "str" S (.bl k)=O (.bl false) from rfl,show ij "bool" S (.bl k)=O (.bl true) from rfl,qE]
  | int i=>simp [jU,i1,i2,show ij "tuple" S (.int i)=O (.bl false) from rfl,show ij "str" S (.int i)=O (.bl false) from rfl,show ij "bool" S (.int i)=O (.bl false) from rfl,show ij "int" S (.int i)=O (.bl true) from rfl,qE]
  | str x=>simp [jU,i1,i2,show ij "tuple" S (.str x)=O (.bl false) from rfl,show ij "str" S (.str x)=O (.bl true) from rfl,qE]
  | lst _=>simp [di] at h
  | rol _=>simp [di] at h
  | dct _ _=>simp [di] at h
  | ref _=>simp [di] at h
theorem ye{S:aa}{c:Cell}:(S++[c])[S.length]?=O c:=by simp
theorem Nl{S:aa}{c d:Cell}:(S++[c]).set S.length d=S++[d]:=by
 rw [List.set_append,Ts (Uf _)];simp
inductive Wd where | out | reads | rising | writes | raised
deriving DecidableEq
noncomputable def Wd.s:Wd->Str
 | .out=>"out"
 | .reads=>"reads"
 | .rising=>"rising"
 | .writes=>"writes"
 | .raised=>"raised"
theorem Wd.eq(a b:Wd):(a.s == b.s)=decide (a=b):=by cases a <;> cases b <;> decide +kernel
structure En where
 g:Nat
 wr:Bool
 m:Int
 t:Option Int
noncomputable def aS(b:Bool):Str:=if b then "write" else "read"
noncomputable def bA:Option Int->D
 | none=>.non
 | some k=>.int k
noncomputable def En.d(e:En):D:=.tup [.int (e.g:Nat),.str (aS e.wr),.int e.m,bA e.t]
noncomputable abbrev Rm:=List Wd×List En
noncomputable def Wd.d(w:Wd):D:=.str w.s
noncomputable def jj(ws:List Wd):D:=.tup (ws.map Wd.d)
noncomputable def vG(es:List En):D:=.tup (es.map En.d)
noncomputable def gn(R:Rm):D:=.tup [jj R.1,vG R.2]
inductive Rw where | rows | readers | writers | turns | passes
deriving DecidableEq
noncomputable def Rw.s:Rw->Str
 | .rows=>"rows"
 | .readers=>"readers"
 | .writers=>"writers"
 | .turns=>"turns"
 | .passes=>"passes"
theorem Rw.eq(a b:Rw):(a.s == b.s)=decide (a=b):=by cases a <;> cases b <;> decide +kernel
structure Rl where
 w:Rw
 a:Int
 b:Int
 c:Int
noncomputable def Rl.d(r:Rl):D:=.tup [.str r.w.s,.int r.a,.int r.b,.int r.c]
structure Rl.Ok(r:Rl):Prop where
 a0:0<=r.a
 a5:r.a<=5
 b0:0<=r.b
 b9:r.b<=9
 c0:0<=r.c
 c1:r.c<=1
section
variable{α:Type}{enc:α->D}{p:α->Bool}{f:α->D}{t:MT}{e:ME}{rest:av}{S:aa}
theorem On:∀ (xs:List α) (a:Option D),(∀ x∈xs,t (O (enc x)::rest) S=O (p x,S))->(∀ x∈xs,p x=true->e (O (enc x)::rest) S=O (f x,S))->er (ah 0) t e (xs.map enc) (a::rest) S=O ((xs.filter p).map f,S)
 | [],a,_,_=>by simp
 | x::r,a,h,h2=>by
  have ih:=On r (O (enc x)) (λy hy=>h y (SO _ hy)) λy hy=>h2 y (SO _ hy)
  rw [Ta,lg,aT,ob,mf,HP,h x (by simp),ob]
  cases hp:p x with
  | true=>rw [HN,h2 x (by simp) hp,ob,HM,ih,ob,HL,List.filter_cons_of_pos hp,Ta]
  | false=>rw [QR,ih,List.filter_cons_of_neg (by simp [hp])]
theorem iJ{cap:List (Option Nat)}{env:av}{a:Option D}{xs:List α}(hc:iX cap env=a::rest)(hl:xs.length<=1000)(h:∀ x∈xs,t (O (enc x)::rest) S=O (p x,S))(h2:∀ x∈xs,p x=true->e (O (enc x)::rest) S=O (f x,S)) :
  sL (ah 0) t e cap env (xs.map enc,S)=O (.lst ((xs.filter p).map f),S):=by
 rw [sK (by rw [SX];exact hl),hc,On xs a h h2,ob,zI]
end
theorem JU{α:Type}{xs:List α}{i:Nat}{x:α}(h:xs[i]?=O x):lD xs (i:Int)=O x:=by
 have hl:=(SR.mp h).1
 rw [JV (by omega) (by omega)]
 rw [SR] at h
 obtain⟨_,h⟩:=h
 simpa using h
section
variable{S:aa}{e:En}{r:Rl}{R:Rm}
theorem En.ix0:aQ S e.d (.int 0)=O (.int (e.g:Nat)):=rfl
theorem En.ix1:aQ S e.d (.int 1)=O (.str (aS e.wr)):=rfl
theorem Rl.ix0:aQ S r.d (.int 0)=O (.str r.w.s):=rfl
theorem Rl.ix1:aQ S r.d (.int 1)=O (.int r.a):=rfl
theorem Rm.ix0:aQ S (gn R) (.int 0)=O (jj R.1):=rfl
theorem Rm.ix1:aQ S (gn R) (.int 1)=O (vG R.2):=rfl
theorem ws_ix{ws:List Wd}{i:Nat}{w:Wd}(h:ws[i]?=O w):aQ S (jj ws) (.int (i:Int))=O w.d:=by
 show lD (ws.map Wd.d) (i:Int)=_
 exact JU (by rw [UN,h];rfl)
end
section
variable{S:aa}{ws:List Wd}{es:List En}{ms:MA}{env:av}
theorem eqWd(a b:Wd):kf a.d b.d=decide (a=b):=Wd.eq a b
theorem okWs{n:Nat}:((ws.map Wd.d).all (bP n))=true:=by
 rw [Tj];intro d hd;obtain⟨w,_,rfl⟩:=Tz.mp hd;cases n <;> rfl
theorem Ov:aq eN [jj ws] S=O (.int (ws.length:Nat),S):=by
 rw [show jj ws=.tup (ws.map Wd.d) from rfl,BF,SX]
end
noncomputable def letB(r:Rl)(ws:List Wd)(wr:Bool):Bool:=
 if ws.count .reads+ws.count .rising+ws.count .out<ws.length then false
 else if wr then decide (ws.count .reads+ws.count .rising=0)
 else decide (ws.count .rising=0)&&(decide (r.a=0)||decide (((ws.count .reads+ws.count .rising:Nat):Int)<r.a))
noncomputable def ni(i:Nat):D:=.int (i:Int)
noncomputable def nl(l:List Nat):D:=.lst (l.map ni)
noncomputable def orL(a b:List Nat):List Nat:=if a=[] then b else a
noncomputable def Ro(p:En->Bool)(es:List En):List Nat:=(es.zipIdx.filter λq=>p q.1).map (·.2)
theorem yR(n:Nat):D.lst (bj 0 n)=nl (List.range n):=by
 unfold bj nl ni;congr 1;apply List.map_congr_left;intro i _;rw [Int.zero_add]
noncomputable def frL(r:Rl)(es:List En):List Nat:=match r.w with
 | .rows=>(List.range es.length).take 1
 | .readers=>(orL (Ro (λe=>!e.wr) es) (Ro (λe=>e.wr) es)).take 1
 | .passes=>(List.range es.length).filter λi=>decide (nJ (0::(es.take i).map λe=>e.m+1)<=r.b)
 | .turns=>(orL (Ro (λe=>decide (e.m=1)) es) (orL (Ro (λe=>e.wr) es) (Ro (λe=>!e.wr) es))).take 1
 | .writers=>(orL (Ro (λe=>e.wr) es) (Ro (λe=>!e.wr) es)).take 1
section
variable{S:aa}{r:Rl}{es:List En}
end
structure ROk(R:Rm):Prop where
 out:∀ e∈R.2,R.1[e.g]?=O .out
 nd:(R.2.map (·.g)).Nodup
theorem Bf:∀ (n:Nat) (l:List Nat),l.Nodup->(∀ x∈l,x<n)->l.length<=n
 | 0,l,_,h=>by cases l with | nil=>exact SS _ | cons x _=>exact absurd (h x (by simp)) (by omega)
 | n+1,l,hn,h=>by
  by_cases hm:n∈l
  ·have:=Bf n (l.erase n) (hn.erase n) λx hx=>by
    have h1:=h x (List.mem_of_mem_erase hx)
    have h2:x≠n:=λz=>by rw [z] at hx;exact(List.Nodup.not_mem_erase hn) hx
    omega
   rw [List.length_erase_of_mem hm] at this
   omega
  ·have:=Bf n l hn λx hx=>by
    have h1:=h x hx
    have h2:x≠n:=λz=>hm (z ▸ hx)
    omega
   omega
theorem ROk.lt{R:Rm}(h:ROk R){e:En}(he:e∈R.2):e.g<R.1.length:=(SR.mp (h.out e he)).1
theorem ROk.len{R:Rm}(h:ROk R):R.2.length<=R.1.length:=by
 have:=Bf R.1.length (R.2.map (·.g)) h.nd λx hx=>by obtain⟨e,he,rfl⟩:=Tz.mp hx;exact h.lt he
 rwa [SX] at this
structure Ev where
 w:Str
 g:Nat
noncomputable def Ev.d(e:Ev):D:=.tup [.str e.w,.int (e.g:Nat)]
noncomputable def JW(ws:List Wd):List Nat:=(List.range ws.length).filter λg=>decide (ws[g]?=O .rising)&&decide (ws.count .out+1=ws.length)
noncomputable def someL(r:Rl)(ws:List Wd)(es:List En):List Nat:=(frL r es).filter λi=>match es[i]? with | some e=>letB r ws e.wr | none=>false
noncomputable def JS(r:Rl)(e:En):En:={ e with m:=e.m+(if r.w=.passes then 1 else 0) }
noncomputable def LQ(r:Rl)(R:Rm)(i:Nat)(e:En):Rm:=(R.1.set e.g (if e.wr then .writes else .reads),(R.2.take i).map (JS r)++R.2.drop (i+1))
noncomputable def stL(r:Rl)(R:Rm):Rm×List Ev:=match JW R.1 with
 | g::_=>((R.1.set g .raised,R.2),[⟨"steps",g⟩])
 | []=>match someL r R.1 R.2 with
  | i::_=>match R.2[i]? with
   | some e=>(LQ r R i e,[⟨"in",e.g⟩])
   | none=>(R,[])
  | []=>(R,[])
noncomputable def seL(r:Rl):Nat->Rm->Rm×List Ev
 | 0,R=>(R,[])
 | n+1,R=>let a:=stL r R;let b:=seL r n a.1;(b.1,a.2++b.2)
theorem Bl(r:Rl)(es:List En):(es.map (JS r)).map (·.g)=es.map (·.g):=by rw [TJ];rfl
theorem LP{r:Rl}{R:Rm}{i:Nat}{e:En}(h:ROk R)(hi:R.2[i]?=O e):ROk (LQ r R i e):=by
 obtain⟨ws,es⟩:=R
 have hs:es=es.take i++e::es.drop (i+1):=by
  obtain⟨hl,he⟩:=SR.mp hi
  rw [<- he,List.getElem_cons_drop,Uq]
 have hnd:((es.take i).map (·.g)++e.g::(es.drop (i+1)).map (·.g)).Nodup:=by
  have:=h.nd
  dsimp only at this
  rw [hs] at this
  simpa using this
 rw [Ui,UY] at hnd
 obtain⟨n1,⟨n2,n3⟩,n4⟩:=hnd
 refine⟨λx hx=>?_,?_⟩
 ·show (ws.set e.g _)[x.g]?=_
  have key:∃ y∈es,y.g=x.g/\x.g≠e.g:=by
   rcases Tr.mp hx with hx | hx
   ·obtain⟨y,hy,rfl⟩:=Tz.mp hx
    refine⟨y,VS hy,rfl,λz=>?_⟩
    exact n4 _ (Tz.mpr ⟨y,hy,rfl⟩) _ SN z
   ·refine⟨x,Xd hx,rfl,λz=>n2 ?_⟩
    rw [<- z];exact Tz.mpr ⟨x,hx,rfl⟩
  obtain⟨y,hy,e1,ne⟩:=key
  rw [TK (Ne.symm ne),<- e1]
  exact h.out y hy
 ·show (((es.take i).map (JS r)++es.drop (i+1)).map (·.g)).Nodup
  rw [UG,Bl,Ui]
  exact⟨n1,n3,λa ha b hb=>n4 a ha b (SO _ hb)⟩
theorem Cf{ws:List Wd}{g:Nat}(h:g∈JW ws):ws[g]?=O .rising:=by
 have:=(Uj.mp h).2
 rw [SM] at this
 exact Vd this.1
theorem OM{r:Rl}{R:Rm}(h:ROk R):ROk (stL r R).1/\(stL r R).1.1.length=R.1.length:=by
 unfold stL
 split
 ·rename_i g l hg
  have hr:R.1[g]?=O .rising:=Cf (by rw [hg];exact SN)
  refine⟨⟨λe he=>?_,h.nd⟩,by simp⟩
  show (R.1.set g .raised)[e.g]?=_
  have h1:=h.out e he
  rw [TK (λz=>by rw [z,h1] at hr;cases hr)]
  exact h1
 ·split
  ·split
   ·rename_i e he
    exact⟨LP h he,by simp [LQ]⟩
   ·exact⟨h,rfl⟩
  ·exact⟨h,rfl⟩
theorem Gj{r:Rl}:∀ (n:Nat) {R:Rm},ROk R->ROk (seL r n R).1/\(seL r n R).1.1.length=R.1.length
 | 0,R,h=>⟨h,rfl⟩
 | n+1,R,h=>by
  obtain⟨h1,h2⟩:=OM (r:=r) h
  obtain⟨h3,h4⟩:=Gj n h1
  exact⟨h3,h4.trans h2⟩
structure SeOk(fronts lets put:PF):Prop where
 f:∀ (S:aa) (r:Rl) (es:List En),es.length<=60->fronts [r.d,vG es] S=O (nl (frL r es),S)
 l:∀ (S:aa) (r:Rl) (ws:List Wd) (wr:Bool),lets [r.d,jj ws,.str (aS wr)] S=O (.bl (letB r ws wr),S)
 p:∀ (S:aa) (ws:List Wd) (i:Nat) (w:Wd),i<ws.length->ws.length<=100->put [jj ws,.int (i:Int),w.d] S=O (jj (ws.set i w),S)
section
variable{S:aa}{ws:List Wd}{es:List En}{r:Rl}
end
inductive Ak where | up | down | leave | stop
deriving DecidableEq
noncomputable def Ak.s:Ak->Str
 | .up=>"up"
 | .down=>"down"
 | .leave=>"leave"
 | .stop=>"stop"
inductive Dd where
 | ask (wr:Bool) (g:Nat) (t:Option Int)
 | act (k:Ak) (g:Nat)
 | tick
noncomputable def Dd.d:Dd->D
 | .ask wr g t=>.tup [.str (aS wr),.int (g:Int),bA t]
 | .act k g=>.tup [.str k.s,.int (g:Int)]
 | .tick=>.tup [.str "tick"]
noncomputable def kw(t:Option Int):Prop:=∀ k,t=O k->0<=k/\k<=9
noncomputable def Dd.Ok(n:Nat):Dd->Prop
 | .ask _ g t=>g<n/\kw t
 | .act _ g=>g<n
 | .tick=>True
noncomputable def nU(pick:PF):MS:=
 aw (aE (ag 2 pick (ac (ae 0) (ac (ae 1) (af)))) (ah 2)) (aw (aE (ag 2 pick (ac (ae 0) (ac (mC (.int 12)) (af)))) (ah 3)) (aw (bx (aF (ay fLt (ae 3) (mC (.int 6)))) (aN (bZ (ac (ay aQ (cU (ac (mC (.str "read")) (ac (mC (.str "write")) (af)))) (ay ke (ae 3) (mC (.int 2)))) (ac (ae 2) (ac (ay aQ (cU (ac (mC .non) (ac (mC .non) (ac (mC .non) (ac (mC (.int 0)) (ac (mC (.int 1)) (ac (mC (.int 9)) (af)))))))) (ag 2 pick (ac (ae 0) (ac (mC (.int 6)) (af))))) (af)))))) (aI)) (aw (bx (aF (ay iP (ae 3) (mC (.int 11)))) (aN (bZ (ac (mC (.str "tick")) (af)))) (aI)) (aN (bZ (ac (ay aQ (cU (ac (mC (.str "up")) (ac (mC (.str "down")) (ac (mC (.str "leave")) (ac (mC (.str "leave")) (ac (mC (.str "stop")) (af))))))) (ay Iv (ae 3) (mC (.int 6)))) (ac (ae 2) (af))))))))
theorem Ni{q:Int}(h0:0<=q)(h1:q<6):∃ t:Option Int,lD [D.non,D.non,D.non,D.int 0,D.int 1,D.int 9] q=O (bA t)/\kw t:=by
 have n:kw U:=λk h=>by cases h
 have s:∀ j:Int,0<=j->j<=9->kw (O j):=λj a b k h=>by cases h;exact⟨a,b⟩
 obtain rfl | rfl | rfl | rfl | rfl | rfl:q=0\/q=1\/q=2\/q=3\/q=4\/q=5:=by omega
 ·exact⟨U,rfl,n⟩
 ·exact⟨U,rfl,n⟩
 ·exact⟨U,rfl,n⟩
 ·exact⟨O 0,rfl,s 0 (by decide) (by decide)⟩
 ·exact⟨O 1,rfl,s 1 (by decide) (by decide)⟩
 ·exact⟨O 9,rfl,s 9 (by decide) (by decide)⟩
theorem Su{q:Int}(h0:6<=q)(h1:q<11):∃ k:Ak,lD [D.str "up",D.str "down",D.str "leave",D.str "leave",D.str "stop"] (q - 6)=O (.str k.s):=by
 obtain rfl | rfl | rfl | rfl | rfl:q=6\/q=7\/q=8\/q=9\/q=10:=by omega
 ·exact⟨.up,rfl⟩
 ·exact⟨.down,rfl⟩
 ·exact⟨.leave,rfl⟩
 ·exact⟨.leave,rfl⟩
 ·exact⟨.stop,rfl⟩
theorem at_wr{q:Int}:∃ wr:Bool,lD [D.str "read",D.str "write"] (q % 2)=O (.str (aS wr)):=by
 obtain h | h:q % 2=0\/q % 2=1:=by omega
 ·exact⟨false,by rw [h];rfl⟩
 ·exact⟨true,by rw [h];rfl⟩
theorem Jr{pick:PF}(hp:JY pick){S:aa}{r n:Nat}{N:List Str}(hN:N.length=4)(P:Pk S r)(h1:1<=n)(h9:n<=9):∃ (dd:Dd) (S':aa),aU N (nU pick) 2 [.ref r,.int (n:Int)] S=O (dd.d,S')/\dd.Ok n/\Pk S' r/\Keep r S S':=by
 have hst:aM N [D.ref r,.int (n:Int)]=[O (.ref r),O (.int (n:Int)),U,U]:=by simp [aM,hN,List.replicate]
 rw [aV (show [D.ref r,D.int (n:Int)].length=2 from rfl),hst]
 obtain⟨g,S1,e1,g0,g1,P1,K1⟩:=hp _ _ (n:Int) P (by omega) (by omega)
 obtain⟨q,S2,e2,q0,q1,P2,K2⟩:=hp _ _ 12 P1 (by decide) (by decide)
 obtain⟨g',rfl⟩:∃ g':Nat,g=(g':Int):=⟨g.toNat,by omega⟩
 have md:∀ S,ke S (.int q) (.int 2)=O (.int (q % 2)):=λS=>iO (by decide)
 by_cases h6:q<6
 ·obtain⟨l,S3,e3,l0,l1,P3,K3⟩:=hp _ _ 6 P2 (by decide) (by decide)
  obtain⟨t,et,ot⟩:=Ni l0 l1
  obtain⟨wr,ew⟩:=at_wr (q:=q)
  have k1:∀ S,mO ([D.str "read",D.str "write"],S)=O (.lst [D.str "read",D.str "write"],S):=λS=>eh (by simp)
  have k2:∀ S,mO ([D.non,D.non,D.non,D.int 0,D.int 1,D.int 9],S)=O (.lst [D.non,D.non,D.non,D.int 0,D.int 1,D.int 9],S):=λS=>eh (by simp)
  have k3:∀ S (a b c:D),kP ([a,b,c],S)=O (.tup [a,b,c],S):=λS a b c=>cW (by simp)
  refine⟨.ask wr g' t,S3,?_,⟨by omega,ot⟩,P3,Keep.trans K1 (Keep.trans K2 K3)⟩
  simp [nU,e1,e2,h6,k1,md,ew,e3,k2,et,k3,Dd.d]
 ·by_cases h11:q=11
  ·subst h11
   have k1:∀ S (a:D),kP ([a],S)=O (.tup [a],S):=λS a=>cW (by simp)
   refine⟨.tick,S2,?_,trivial,P2,Keep.trans K1 K2⟩
   simp [nU,e1,e2,k1,Dd.d]
  ·obtain⟨k,ek⟩:=Su (q:=q) (by omega) (by omega)
   have k1:∀ S,mO ([D.str "up",D.str "down",D.str "leave",D.str "leave",D.str "stop"],S)=O (.lst [D.str "up",D.str "down",D.str "leave",D.str "leave",D.str "stop"],S):=λS=>eh (by simp)
   have k2:∀ S (a b:D),kP ([a,b],S)=O (.tup [a,b],S):=λS a b=>cW (by simp)
   refine⟨.act k g',S2,?_,(by show g'<n;omega),P2,Keep.trans K1 K2⟩
   simp [nU,e1,e2,h6,Vn.mpr h11,k1,ek,k2,Dd.d]
noncomputable def kT(es:List En)(g:Nat):Bool:=es.any λe=>decide (e.g=g)
noncomputable def JN(R:Rm):Dd->Bool
 | .tick=>true
 | .ask _ g _=>decide (R.1[g]?=O .out) && !kT R.2 g
 | .act .up g=>decide (R.1[g]?=O .reads)
 | .act .down g=>decide (R.1[g]?=O .writes)||decide (R.1[g]?=O .raised)
 | .act .leave g=>decide (R.1[g]?≠O .out)
 | .act .stop g=>kT R.2 g||decide (R.1[g]?=O .rising)
noncomputable def mkL(r:Rl)(w:Wd)(es:List En):List En:=if r.w=.turns/\w=.writes then es.map (λe=>if e.wr then e else { e with m:=1 }) else es
section
variable{S:aa}{ws:List Wd}{es:List En}{r:Rl}
theorem gsC{b:Option D}{cap:List (Option Nat)}{env:av}(hc:iX cap env=[b])(hl:es.length<=100):sL (ah 0) aG (ay aQ (ae 0) (mC (.int 0))) cap env (es.map En.d,S)=O (.lst (es.map λe=>.int (e.g:Int)),S):=by
 have k:=iJ (S:=S) (t:=aG) (e:=ay aQ (ae 0) (mC (.int 0))) (cap:=cap) (env:=env) (rest:=[]) (a:=b) (enc:=En.d) (p:=λ_=>true) (f:=λe=>.int (e.g:Int)) (xs:=es) hc (by omega) (λx _=>ee) (λx _ _=>by simp [En.ix0])
 rw [TX.mpr (λ_ _=>rfl)] at k
 exact k
theorem xW:xE (vG es,S)=O (es.map En.d,S):=rfl
noncomputable def BA:Dd->Bool
 | .tick=>true
 | _=>false
theorem Dd.tick_ne{dd:Dd}:iP S dd.d (.tup [.str "tick"])=O (.bl (BA dd)):=by
 cases dd with
 | tick=>rw [lu rfl rfl];rfl
 | ask wr g t=>
  rw [lu (by cases t <;> rfl) rfl]
  show O (D.bl (_&&false))=O (D.bl false)
  rw [Vv]
 | act k g=>
  rw [lu rfl rfl]
  show O (D.bl (_&&false))=O (D.bl false)
  rw [Vv]
theorem RK{a b:Wd}:iP S a.d (.str b.s)=O (.bl (decide (a=b))):=by
 show iP S (.str a.s) (.str b.s)=_
 rw [gH,Wd.eq]
theorem RD{a b:Wd}:qk S a.d (.str b.s)=O (.bl (!decide (a=b))):=by
 show qk S (.str a.s) (.str b.s)=_
 rw [pq,Wd.eq]
end
noncomputable def Me(l:List Ev):D:=.tup (l.map Ev.d)
noncomputable def dF(r:Rl)(R:Rm):Rm×List Ev:=seL r (2 * R.1.length) R
noncomputable def FA(wr:Bool)(g:Nat)(t:Option Int):En:=⟨g,wr,0,if t=O 0 then O 1 else t⟩
noncomputable def Fz(r:Rl)(R:Rm)(wr:Bool)(g:Nat)(t:Option Int):Rm×List Ev:=
 let a:=dF r (R.1,R.2++[FA wr g t])
 if kT a.1.2 g=false then a
 else if t=O 0 then ((a.1.1,a.1.2.filter λe=>decide (e.g≠g)),a.2++[⟨"no",g⟩])
 else (a.1,a.2++[⟨"waits",g⟩])
noncomputable def Js(e:En):En:={ e with t:=e.t.map (· - 1) }
noncomputable def Nv(r:Rl)(R:Rm):Rm×List Ev:=
 let a:=dF r (R.1,(R.2.map Js).filter λe=>decide (e.t≠O 0))
 (a.1,(((R.2.map Js).filter λe=>decide (e.t=O 0)).map λe=>⟨"ends",e.g⟩)++a.2)
noncomputable def Rz(k:Ak)(g:Nat):List Ev:=match k with
 | .up=>[]
 | .stop=>[⟨"ends",g⟩]
 | .down=>[⟨"down",g⟩]
 | .leave=>[⟨"out",g⟩]
noncomputable def vY(k:Ak)(w:Wd):Wd:=match k with
 | .up=>.rising
 | .down=>.reads
 | .leave=>.out
 | .stop=>if w=.rising then .reads else .out
noncomputable def Ch(r:Rl)(k:Ak)(w:Wd)(g:Nat)(es:List En):List En:=(if k=.down\/k=.leave then mkL r w es else es).filter λe=>decide (e.g≠g)
noncomputable def JX(r:Rl)(R:Rm)(k:Ak)(g:Nat)(w:Wd):Rm×List Ev:=
 let a:=dF r (R.1.set g (vY k w),Ch r k w g R.2)
 (a.1,Rz k g++a.2++(if a.1.1[g]?=O .rising then [⟨"waits",g⟩] else []))
noncomputable def vH(r:Rl)(R:Rm)(dd:Dd):Option (Rm×List Ev):=
 if JN R dd=false then U else match dd with
 | .tick=>O (Nv r R)
 | .ask wr g t=>O (Fz r R wr g t)
 | .act k g=>if k=.up/\(r.c=0\/Wd.rising∈R.1) then O (R,[⟨"no",g⟩]) else match R.1[g]? with
  | some w=>O (JX r R k g w)
  | none=>U
theorem wc{es:List En}{g:Nat}(h:kT es g=false){e:En}(he:e∈es):e.g≠g:=λz=>by
 have:kT es g=true:=Wp.mpr ⟨e,he,by simp [z]⟩
 rw [h] at this;cases this
theorem ROk.filter{ws:List Wd}{es:List En}(h:ROk (ws,es))(p:En->Bool):ROk (ws,es.filter p):=
 ⟨λe he=>h.out e (Uj.mp he).1,List.Sublist.nodup (List.Sublist.map _ (List.filter_sublist)) h.nd⟩
theorem ROk.mapE{ws:List Wd}{es:List En}(h:ROk (ws,es))(f:En->En)(hf:∀ e,(f e).g=e.g):ROk (ws,es.map f):=
 ⟨λe he=>by obtain⟨x,hx,rfl⟩:=Tz.mp he;rw [hf];exact h.out x hx,by
  show ((es.map f).map (·.g)).Nodup
  rw [TJ,show ((·.g) ∘ f)=(λe:En=>e.g) from funext hf];exact h.nd⟩
theorem ROk.setW{ws:List Wd}{es:List En}(h:ROk (ws,es))(g:Nat)(w:Wd)(hg:∀ e∈es,e.g≠g):ROk (ws.set g w,es):=
 ⟨λe he=>by show (ws.set g w)[e.g]?=_;rw [TK (Ne.symm (hg e he))];exact h.out e he,h.nd⟩
theorem kU{r:Rl}{R:Rm}(h:ROk R):ROk (dF r R).1/\(dF r R).1.1.length=R.1.length:=Gj _ h
theorem Nk{R:Rm}{wr:Bool}{g:Nat}{t:Option Int}(h:ROk R)(hw:R.1[g]?=O .out)(hs:kT R.2 g=false):ROk (R.1,R.2++[FA wr g t]):=
 ⟨λe he=>by
  rcases Tr.mp he with he | he
  ·exact h.out e he
  ·rw [Tg.mp he];exact hw,by
  show ((R.2++[FA wr g t]).map (·.g)).Nodup
  rw [UG,Ui]
  refine⟨h.nd,by simp,λa ha b hb=>?_⟩
  obtain⟨e,he,rfl⟩:=Tz.mp ha
  simp [FA] at hb
  rw [hb];exact wc hs he⟩
theorem Qb{r:Rl}{w:Wd}{ws:List Wd}{es:List En}(h:ROk (ws,es)):ROk (ws,mkL r w es):=by
 unfold mkL;split
 ·exact h.mapE _ λe=>by split <;> rfl
 ·exact h
theorem Np{r:Rl}{k:Ak}{w:Wd}{g:Nat}{ws:List Wd}{es:List En}(h:ROk (ws,es))(w':Wd):ROk (ws.set g w',Ch r k w g es):=by
 unfold Ch
 refine ROk.setW (ROk.filter ?_ _) g w' λe he=>Vd (Uj.mp he).2
 split
 ·exact Qb h
 ·exact h
theorem Ji{r:Rl}{R:Rm}{dd:Dd}{x:Rm×List Ev}(h:ROk R)(hx:vH r R dd=O x):ROk x.1/\x.1.1.length=R.1.length:=by
 unfold vH at hx
 split at hx
 ·cases hx
 ·rename_i hc
  have hc:JN R dd=true:=by simpa using hc
  cases dd with
  | tick=>
   cases hx
   obtain⟨a,b⟩:=kU (r:=r) (R:=(R.1,(R.2.map Js).filter λe=>decide (e.t≠O 0))) (ROk.filter (ROk.mapE h Js λe=>rfl) _)
   exact⟨a,b⟩
  | ask wr g t=>
   cases hx
   simp only [JN,SM,TU,Bool.not_eq_true'] at hc
   obtain⟨a,b⟩:=kU (r:=r) (Nk (wr:=wr) (t:=t) h hc.1 hc.2)
   unfold Fz
   dsimp only
   split
   ·exact⟨a,b⟩
   ·split
    ·exact⟨ROk.filter a _,b⟩
    ·exact⟨a,b⟩
  | act k g=>
   dsimp only at hx
   split at hx
   ·cases hx;exact⟨h,rfl⟩
   ·split at hx
    ·rename_i w hw
     cases hx
     obtain⟨a,b⟩:=kU (r:=r) (Np (r:=r) (k:=k) (w:=w) (g:=g) h (vY k w))
     exact⟨a,b.trans (by simp)⟩
    ·cases hx
noncomputable def FC(settled:PF):Prop:=∀ (S:aa) (r:Rl) (R:Rm),ROk R->R.1.length<=50->settled [r.d,gn R] S=O (.tup [gn (dF r R).1,.ref S.length],S++[.lst ((dF r R).2.map Ev.d)])
section
variable{S:aa}{ws:List Wd}{es:List En}{r:Rl}{R:Rm}
end
structure DoOk(can asked settled marked put:PF):Prop where
 c:∀ (S:aa) (R:Rm) (dd:Dd),R.2.length<=60->dd.Ok R.1.length->∃ T,can [gn R,dd.d] S=O (.bl (JN R dd),S++T)
 a:∀ (S:aa) (r:Rl) (R:Rm) (wr:Bool) (g:Nat) (t:Option Int),ROk R->R.1.length<=50->R.1[g]?=O .out->kT R.2 g=false->∃ T,asked [r.d,gn R,(Dd.ask wr g t).d] S=O (.tup [gn (Fz r R wr g t).1,Me (Fz r R wr g t).2],S++T)
 s:FC settled
 m:∀ (S:aa) (r:Rl) (w:Wd) (es:List En),es.length<=60->marked [r.d,w.d,vG es] S=O (vG (mkL r w es),S)
 p:∀ (S:aa) (ws:List Wd) (i:Nat) (w:Wd),i<ws.length->ws.length<=100->put [jj ws,.int (i:Int),w.d] S=O (jj (ws.set i w),S)
section
variable{S:aa}{ws:List Wd}{es:List En}{r:Rl}{R:Rm}
theorem RJ{x:Str}{b:Bool}(hb:([D.str "read",D.str "write"].any λd=>kf d (.str x))=b):EH S (.str x) (.tup [.str "read",.str "write"])=O (.bl b):=by
 rw [IA (ys:=[.str "read",.str "write"]) rfl rfl rfl,hb]
noncomputable def doneD:Option (Rm×List Ev)->D
 | none=>.non
 | some x=>.tup [gn x.1,Me x.2]
end
noncomputable def Grow(r:Nat)(S S':aa):Prop:=S.length<=S'.length/\∀ j,j<S.length->j≠r->S'[j]?=S[j]?
theorem Grow.of{r:Nat}{S S':aa}(h:Keep r S S'):Grow r S S':=⟨Vu h.2.symm,λj _ hj=>h.1 j hj⟩
theorem Grow.app{r:Nat}{S T:aa}:Grow r S (S++T):=⟨by simp,λj h _=>To h⟩
theorem Grow.trans{r:Nat}{S S' S'':aa}(h:Grow r S S')(h':Grow r S' S''):Grow r S S'':=⟨Th h.1 h'.1,λj hj hr=>(h'.2 j (Tf hj h.1) hr).trans (h.2 j hj hr)⟩
theorem Pk.lt{S:aa}{r:Nat}(h:Pk S r):r<S.length:=by
 obtain⟨a,b,d,h,z⟩:=h
 exact(SR.mp h).1
theorem at_w2{q:Int}(h0:0<=q)(h1:q<2):∃ wr:Bool,lD [D.str "read",D.str "write"] q=O (.str (aS wr)):=by
 obtain rfl | rfl:q=0\/q=1:=by omega
 ·exact⟨false,rfl⟩
 ·exact⟨true,rfl⟩
structure Formed(R:Rm):Prop where
 ok:ROk R
 m0:∀ e∈R.2,0<=e.m/\e.m<=999
 t1:∀ e∈R.2,∀ k,e.t=O k->1<=k/\k<=9
theorem Hh{es:List En}{i:Int}{e:En}:jY (es.map En.d) i e.d=(jY es i e).map En.d:=by
 unfold jY;simp
structure RowOk(deed done:PF):Prop where
 de:∀ (S:aa) (r n:Nat),Pk S r->1<=n->n<=5->∃ (dd:Dd) (S':aa),deed [.ref r,.int (n:Int)] S=O (dd.d,S')/\dd.Ok n/\Pk S' r/\Keep r S S'
 dn:∀ (S:aa) (rl:Rl) (R:Rm) (dd:Dd),ROk R->R.1.length<=50->dd.Ok R.1.length->∃ T,done [rl.d,gn R,dd.d] S=O (doneD (vH rl R dd),S++T)
noncomputable def tw(n:Nat):Rm:=(List.replicate n .out,[])
theorem EU{n:Nat}:ROk (tw n):=⟨λe h=>by simp [tw] at h,by simp [tw]⟩
inductive Behind(r:Rl)(n:Nat):List Dd->Rm->Prop
 | nil:Behind r n [] (tw n)
 | snoc {l:List Dd} {R:Rm} {d:Dd} {x:Rm×List Ev} (h:Behind r n l R) (hd:d.Ok n) (e:vH r R d=O x):Behind r n (l++[d]) x.1
theorem Behind.ok{r:Rl}{n:Nat}{l:List Dd}{R:Rm}(h:Behind r n l R):ROk R/\R.1.length=n:=by
 induction h with
 | nil=>exact⟨EU,by simp [tw]⟩
 | snoc h hd e ih=>obtain⟨a,b⟩:=Ji ih.1 e;exact⟨a,b.trans ih.2⟩
section
variable{α:Type}{enc:α->D}{p:Nat->α->Bool}{f:Nat->α->D}{t:MT}{e:ME}{rest:av}{S:aa}
end
noncomputable def ixW(p:Wd->Bool)(ws:List Wd):List Nat:=(ws.zipIdx.filter λq=>p q.1).map (·.2)
noncomputable def nt(l:List Nat):D:=.tup (l.map ni)
theorem RI{S:aa}{w:Wd}{l:List Wd}:EH S w.d (jj l)=O (.bl (decide (w∈l))):=by
 rw [IA (ys:=l.map Wd.d) rfl rfl okWs]
 congr 2
 rw [List.any_map]
 induction l with
 | nil=>rfl
 | cons a l ih=>
  rw [UO,ih]
  show (kf a.d w.d||_)=_
  rw [eqWd,UH]
  simp
  constructor
  ·rintro(h | h)
   ·exact .inl h.symm
   ·exact .inr h
  ·rintro(h | h)
   ·exact .inl h.symm
   ·exact .inr h
noncomputable def waitD(R:Rm)(g:Nat):D:=if R.1[g]?=O .rising then .str "up" else match R.2.find? λe=>decide (e.g=g) with
 | some e=>.str (aS e.wr)
 | none=>.non
noncomputable def GwOk(gw:PF):Prop:=∀ (S:aa) (R:Rm) (l:List Wd),R.1.length<=100->gw [gn R,jj l] S=O (nt (ixW (λw=>decide (w∈l)) R.1),S)
noncomputable def qX(ws:List Wd)(g:Nat):List Wd:=(ws.zipIdx.filter λq=>!decide (q.1=.out) && !decide (q.2=g)).map (·.1)
noncomputable def BZ(r:Rl)(R:Rm)(g:Nat):Bool:=
 if R.1[g]?=O .rising then (qX R.1 g).isEmpty else match R.2.find? λe=>decide (e.g=g) with
 | none=>false
 | some e=>if e.wr then (qX R.1 g).isEmpty else (qX R.1 g).all (λw=>decide (w=.reads))&&(decide (r.a=0)||decide (((qX R.1 g).length:Int)<r.a))
noncomputable def SC(wait:PF):Prop:=∀ (S:aa) (R:Rm) (g:Nat),R.1.length<=100->wait [gn R,.int (g:Int)] S=O (waitD R g,S)
section
variable{S:aa}{R:Rm}{r:Rl}{g:Nat}
theorem kh{α:Type}{p:α->Bool}:∀ l:List α,kn (l.map λx=>D.bl (p x))=O (l.map p)
 | []=>rfl
 | x::l=>by
  have:=kh (p:=p) l
  rw [Ta,Ta]
  simp only [kn,this];rfl
end
noncomputable def favB(w:Rw)(e:En):Bool:=match w with
 | .rows=>false
 | .readers=>!e.wr
 | _=>e.wr
noncomputable def turnB(w:Rw)(e:En):Bool:=decide (w=.turns)&&decide (e.m=1)
noncomputable def foreL(w:Rw)(es:List En):List Nat:=(es.filter (turnB w)).map (·.g)++(es.filter (favB w)).map (·.g)++es.map (·.g)
section
variable{S:aa}{es:List En}{w:Rw}{r:Rl}{R:Rm}
noncomputable def NE(r:Rl)(R:Rm):List En->Option Nat
 | []=>U
 | e::l=>if BZ r R e.g then O e.g else if r.b<=e.m then U else NE r R l
noncomputable def nextB(r:Rl)(R:Rm):Option Nat:=if r.w=.passes then NE r R R.2 else match (foreL r.w R.2).head? with
 | none=>U
 | some g=>if BZ r R g then O g else U
end
section
variable{ws:List Wd}{es:List En}{r:Rl}{R:Rm}{g:Nat}
noncomputable def comeB(r:Rl)(R:Rm):Option Ev:=match (ixW (λw=>decide (w=.rising)) R.1).find? (BZ r R) with
 | some g=>O ⟨"steps",g⟩
 | none=>(nextB r R).map λg=>⟨"in",g⟩
inductive Nq(r:Rl)(R:Rm):Option Ev->Rm->List Ev->Prop
 | up (g:Nat) (h:R.1[g]?=O .rising):Nq r R (O ⟨"steps",g⟩) (R.1.set g .raised,R.2) [⟨"steps",g⟩]
 | go (i:Nat) (e:En) (h:R.2[i]?=O e):Nq r R (O ⟨"in",e.g⟩) (LQ r R i e) [⟨"in",e.g⟩]
 | no:Nq r R U R []
theorem vK{a b:Wd}:∀ {ws:List Wd} {i:Nat},ws[i]?=O a->a≠b->∀ c,(ws.set i b).count c+(if a=c then 1 else 0)=ws.count c+(if b=c then 1 else 0)
 | [],i,h,_,c=>by simp at h
 | w::l,0,h,hn,c=>by
  simp at h;subst h
  rw [List.set_cons_zero,VP,VP]
  by_cases h1:w=c <;> by_cases h2:b=c <;> simp [h1,h2] <;> omega
 | w::l,i+1,h,hn,c=>by
  have:=vK (i:=i) (ws:=l) (by simpa using h) hn c
  rw [List.set_cons_succ,VP,VP]
  omega
end
section
variable{S:aa}{ws:List Wd}{es:List En}{r:Rl}{R:Rm}{g:Nat}
noncomputable def evoD:Option Ev->D
 | none=>.non
 | some v=>v.d
structure StOk(br co:PF):Prop where
 c:∀ (S:aa) (r:Rl) (R:Rm),R.1.length<=100->R.2.length<=100->co [r.d,gn R] S=O (evoD (comeB r R),S)
 b:∀ (S:aa) (r:Rl) (R:Rm) (v:Ev) (R':Rm) (l:List Ev),ROk R->R.1.length<=50->Nq r R (O v) R' l->br [r.d,gn R,v.d] S=O (gn R',S)
end
section
variable{S:aa}{r:Rl}{R:Rm}
end
section
variable{r:Rl}
structure Calm(ws:List Wd):Prop where
 only:∀ w∈ws,w=.out\/w=.reads
 one:1<=ws.count .reads
theorem Calm.set{ws:List Wd}(c:Calm ws){g:Nat}(hg:ws[g]?=O .out):Calm (ws.set g .reads)/\(ws.set g .reads).count .reads=ws.count .reads+1:=by
 have h:=vK (b:=.reads) hg (by decide) .reads
 simp at h
 have:=c.one
 refine⟨⟨λw hw=>?_,by omega⟩,h⟩
 rcases List.mem_or_eq_of_mem_set hw with z | z
 ·exact c.only w z
 ·exact .inr z
end
section
variable{α:Type}{enc:α->D}{p:α->Bool}{f:α->D}{t:MT}{e:ME}{rest:av}{S:aa}{r:Nat}{xs:List α}
end
section
variable{r:Rl}{es:List En}
end
noncomputable def MB(k:Nat)(es:List En):Prop:=∀ e∈es,0<=e.m/\e.m<=k/\∀ t,e.t=O t->1<=t/\t<=9
section
variable{r:Rl}{R:Rm}{k j:Nat}{es:List En}
theorem MB.mono(h:MB k es)(hk:k<=j):MB j es:=λe he=>⟨(h e he).1,by have:=(h e he).2.1;omega,(h e he).2.2⟩
theorem MB.sub{l:List En}(h:MB k es)(hs:∀ e∈l,e∈es):MB k l:=λe he=>h e (hs e he)
theorem MB.filter(h:MB k es)(p:En->Bool):MB k (es.filter p):=h.sub λe he=>(Uj.mp he).1
theorem MB.app{l:List En}(h:MB k es)(h':MB k l):MB k (es++l):=λe he=>(Tr.mp he).elim (h e) (h' e)
theorem MB.up(h:MB k es):MB (k+1) (es.map (JS r)):=λe he=>by
 obtain⟨x,hx,rfl⟩:=Tz.mp he
 obtain⟨h1,h2,h3⟩:=h x hx
 refine⟨?_,?_,h3⟩ <;> (show _<=_;unfold JS;dsimp only;split <;> omega)
theorem ON(h:MB k R.2):MB (k+1) (stL r R).1.2:=by
 unfold stL
 split
 ·exact h.mono (by omega)
 ·split
  ·split
   ·exact MB.app (MB.up (h.sub λe he=>VS he)) ((h.sub λe he=>Xd he).mono (by omega))
   ·exact h.mono (by omega)
  ·exact h.mono (by omega)
theorem Gk:∀ (n:Nat) {R:Rm} {k:Nat},MB k R.2->MB (k+n) (seL r n R).1.2
 | 0,R,k,h=>h
 | n+1,R,k,h=>by
  have:=Gk n (ON (r:=r) h)
  rw [show k+1+n=k+(n+1) by omega] at this
  exact this
theorem kW(h:MB k R.2):MB (k+2 * R.1.length) (dF r R).1.2:=Gk _ h
theorem Qc{w:Wd}(h:MB k es)(hk:1<=k):MB k (mkL r w es):=by
 unfold mkL
 split
 ·intro e he
  obtain⟨x,hx,rfl⟩:=Tz.mp he
  obtain⟨h1,h2,h3⟩:=h x hx
  split
  ·exact⟨h1,h2,h3⟩
  ·exact⟨by show (0:Int)<=1;decide,by show (1:Int)<=k;omega,h3⟩
 ·exact h
theorem Jj{dd:Dd}{x:Rm×List Ev}{n:Nat}(hd:dd.Ok n)(h:MB k R.2)(hx:vH r R dd=O x):MB (k+1+2 * R.1.length) x.1.2:=by
 have h1:MB (k+1) R.2:=h.mono (by omega)
 unfold vH at hx
 split at hx
 ·cases hx
 ·split at hx
  ·cases hx
   refine kW (R:=(R.1,_)) ?_
   intro e he
   obtain⟨he,ht⟩:=Uj.mp he
   obtain⟨y,hy,rfl⟩:=Tz.mp he
   obtain⟨a1,a2,a3⟩:=h1 y hy
   refine⟨a1,a2,λt z=>?_⟩
   have ht':=Vd ht
   unfold Js at z ht'
   dsimp only at z ht'
   cases hy2:y.t with
   | none=>rw [hy2] at z;cases z
   | some u=>
    rw [hy2] at z ht'
    have:=a3 u hy2
    rw [Option.map_some] at z ht'
    cases z
    have:u - 1≠0:=λq=>ht' (by rw [q])
    omega
  ·rename_i wr g t hcan
   cases hx
   have hs:MB (k+1+2 * R.1.length) (dF r (R.1,R.2++[FA wr g t])).1.2:=by
    refine kW (R:=(R.1,_)) (MB.app h1 ?_)
    intro e he
    rw [Tg.mp he]
    refine⟨Int.le_refl _,by show (0:Int)<=_;omega,λu z=>?_⟩
    have hl:kw t:=hd.2
    unfold FA at z
    dsimp only at z
    split at z
    ·cases z;decide
    ·rename_i hne
     have:=hl u z
     have:u≠0:=λq=>hne (by rw [z,q])
     omega
   unfold Fz
   dsimp only
   split
   ·exact hs
   ·split
    ·exact hs.filter _
    ·exact hs
  ·rename_i kk g hcan
   split at hx
   ·cases hx;exact h.mono (by omega)
   ·split at hx
    ·rename_i w hw
     cases hx
     have:=kW (r:=r) (R:=(R.1.set g (vY kk w),Ch r kk w g R.2)) (k:=k+1) (by
      show MB (k+1) (Ch r kk w g R.2)
      unfold Ch
      refine MB.filter ?_ _
      split
      ·exact Qc h1 (by omega)
      ·exact h1)
     rw [show (R.1.set g (vY kk w),Ch r kk w g R.2).1.length=R.1.length by simp] at this
     exact this
    ·cases hx
theorem Behind.mb{n:Nat}{l:List Dd}(h:Behind r n l R):MB (l.length * (2 * n+1)) R.2:=by
 induction h with
 | nil=>intro e he;cases he
 | snoc h hd e ih=>
  have:=Jj hd ih e
  rw [h.ok.2] at this
  rw [Tl,Vf]
  refine this.mono ?_
  rw [Nat.add_mul]
  omega
end
theorem zJ(s a:Str):∀ (r:List Str) (b:Str),r.foldl (λacc y=>acc++s++y) (a++b)=a++r.foldl (λacc y=>acc++s++y) b
 | [],b=>rfl
 | y::r,b=>by
  rw [Ul,Ul,US a b s,US a (b++s) y]
  exact zJ s a r (b++s++y)
theorem jw(s:Str):∀ (ys:List Str) (x:Str),Str.join s (x::ys)=ys.foldl (λacc y=>acc++s++y) x
 | [],x=>rfl
 | y::r,x=>by
  show x++s++Str.join s (y::r)=_
  rw [jw s r y,Ul,zJ s (x++s) r y]
theorem iZ{i:Int}(h:-1000<=i)(h':i<=1000):(Str.ofString (toString i)).length<=1002:=by
 have:=len_str_of_int i
 omega
noncomputable def fL:Option Int->Str
 | none=>"-"
 | some k=>Str.ofString (toString k)
noncomputable def bX(e:En):Str:=Str.empty++Str.ofString (toString (e.g:Int))++" "++aS e.wr++" "++Str.ofString (toString e.m)++" "++fL e.t
noncomputable def ej(ws:List Wd):Str:=Str.join " " (ws.map Wd.s)
noncomputable def ky(R:Rm):Str:=Str.join ", " (ej R.1::R.2.map bX)
structure Ot(e:En):Prop where
 g:e.g<=1000
 m0:0<=e.m
 m1:e.m<=1000
 t:∀ k,e.t=O k->1<=k/\k<=9
structure RmS(R:Rm):Prop where
 l1:R.1.length<=10
 l2:R.2.length<=10
 en:∀ e∈R.2,Ot e
theorem dH(a b:Str):(a++b).length=a.length+b.length:=strLen_append a b
theorem rf(b:Bool):(aS b).length<=5:=by cases b <;> decide +kernel
theorem Ox(w:Wd):w.s.length<=6:=by cases w <;> decide +kernel
theorem fx:(Str.ofString " ").length=1/\(Str.ofString ", ").length=2/\Str.empty.length=0/\(Str.ofString "-").length=1:=by decide +kernel
theorem sC{t:Option Int}(h:∀ k,t=O k->1<=k/\k<=9):(fL t).length<=1002:=by
 cases t with
 | none=>exact Th (Vu fx.2.2.2) (by decide)
 | some k=>have:=h k rfl;exact iZ (by omega) (by omega)
theorem rg{e:En}(h:Ot e):(bX e).length<=3100:=by
 have h1:=iZ (i:=(e.g:Int)) (by omega) (by have:=h.g;omega)
 have h2:=iZ (i:=e.m) (by have:=h.m0;omega) h.m1
 have h3:=sC h.t
 have h4:=rf e.wr
 obtain⟨b1,b2,b3,b4⟩:=fx
 unfold bX
 simp only [dH]
 omega
theorem mD{α:Type}(f:α->Nat)(k:Nat):∀ l:List α,(∀ x∈l,f x<=k)->(l.map f).sum<=l.length * k
 | [],_=>by simp
 | x::r,h=>by
  have h1:=h x (by simp)
  have h2:=mD f k r λy hy=>h y (SO _ hy)
  rw [Ta,WO,SY,Nat.succ_mul]
  omega
theorem uo(ws:List Wd):((ws.map Wd.s).map (·.length)).sum+(ws.map Wd.s).length * (Str.ofString " ").length<=ws.length * 7:=by
 have:=mD (λw:Wd=>w.s.length) 6 ws λw _=>Ox w
 rw [TJ,SX,fx.1]
 show (ws.map λw=>w.s.length).sum+_<=_
 omega
theorem lL(s:Str):∀ ys:List Str,(Str.join s ys).length<=(ys.map (·.length)).sum+ys.length * s.length:=StrLaws.join_length_le s
theorem oC(ws:List Wd):(ej ws).length<=ws.length * 7:=Th (lL _ _) (uo ws)
theorem uq{R:Rm}(h:RmS R):(((ej R.1::R.2.map bX)).map (·.length)).sum+(ej R.1::R.2.map bX).length * (Str.ofString ", ").length<=100000:=by
 have h1:=oC R.1
 have h2:=mD (λe:En=>(bX e).length) 3100 R.2 λe he=>rg (h.en e he)
 have:=h.l1
 have:=h.l2
 rw [Ta,WO,SY,TJ,SX,fx.2.1]
 have e:(R.2.map ((·.length) ∘ bX)).sum=(R.2.map λe=>(bX e).length).sum:=rfl
 rw [e]
 omega
theorem Kd(ws:List Wd):ws.map Wd.d=(ws.map Wd.s).map D.str:=by rw [TJ];rfl
theorem zZ{S:aa}{ws:List Wd}(h:ws.length<=100):ja (.str " ") [jj ws] S=O (.str (ej ws),S):=
 jD (ys:=ws.map Wd.s) (by show O (ws.map Wd.d)=_;rw [Kd]) (by have:=uo ws;omega)
noncomputable def mF:MS:=aN (nO (aF (ay Ka (ae 0) (mC .non))) (mC (.str "-")) (aA (aq ce) (ac (ae 0) (af))))
theorem BW{N:List Str}(hN:N.length=1){S:aa}{t:Option Int}(h:∀ k,t=O k->-1000<=k/\k<=1000):aU N mF 1 [bA t] S=O (.str (fL t),S):=by
 have hst:aM N [bA t]=[O (bA t)]:=by simp [aM,hN,List.replicate]
 rw [aV (show [bA t].length=1 from rfl),hst]
 cases t with
 | none=>simp [mF,bA,fL,qE]
 | some k=>
  have hk:=h k rfl
  simp [mF,bA,fL,qE,iu (show -1000000<=k by omega) (show k<=1000000 by omega)]
noncomputable def nr(ds:PF):MS:=aw (aE (ae 0) (bg 4 (ai (ah 1) (ai (ah 2) (ai (ah 3) (ai (ah 4) (be))))))) (aN (bq [dY (ae 1),mC (.str " "),dY (ae 2),mC (.str " "),dY (ae 3),mC (.str " "),dY (ag 1 ds (ac (ae 4) (af)))] Str.empty))
theorem vS{ds:PF}(hd:∀ (S:aa) (t:Option Int),(∀ k,t=O k->-1000<=k/\k<=1000)->ds [bA t] S=O (.str (fL t),S)){N:List Str}(hN:N.length=5){S:aa}{e:En}(h:Ot e):aU N (nr ds) 1 [e.d] S=O (.str (bX e),S):=by
 have hst:aM N [e.d]=[O e.d,U,U,U,U]:=by simp [aM,hN,List.replicate]
 rw [aV (show [e.d].length=1 from rfl),hst]
 have hg:=h.g
 have hm0:=h.m0
 have hm1:=h.m1
 have h1:=iZ (i:=(e.g:Int)) (by omega) (by omega)
 have h2:=iZ (i:=e.m) (by omega) hm1
 have h3:=sC h.t
 have h4:=rf e.wr
 obtain⟨b1,b2,b3,b4⟩:=fx
 have d1:=hd S e.t λk hk=>by have:=h.t k hk;omega
 have tg:∀ a0 a1 a2 a3 a4,bg 4 (ai (ah 1) (ai (ah 2) (ai (ah 3) (ai (ah 4) (be))))) e.d [a0,a1,a2,a3,a4] S=O ([a0,O (.int (e.g:Int)),O (.str (aS e.wr)),O (.int e.m),O (bA e.t)],S):=λa0 a1 a2 a3 a4=>by
  show bg 4 _ (.tup [.int (e.g:Nat),.str (aS e.wr),.int e.m,bA e.t]) _ S=_
  simp only [nZ,dL,aT,ob,mf,pg,kH,fo]
 have k1:qD (.int (e.g:Int),S)=O (.str (Str.ofString (toString (e.g:Int))),S):=sJ (by omega) (by omega)
 have k2:qD (.str (aS e.wr),S)=O (.str (aS e.wr),S):=xG (by omega)
 have k3:qD (.int e.m,S)=O (.str (Str.ofString (toString e.m)),S):=sJ (by omega) (by omega)
 have k4:qD (.str (fL e.t),S)=O (.str (fL e.t),S):=xG (by omega)
 have j:∀ (r:List ME) (out y:Str) env,(out++y).length<=1000000->kJL r out env (.str y,S)=bq r (out++y) env S:=λr out y env h=>zG h
 simp only [nr,bC,ci,ar,df,eW,eV,oj,ob,ao,cm,tg,dI,aX,bo]
 rw [bp,jT]
 simp only [ar,df,eW,eV,oj,ob,ao,k1]
 rw [j _ _ _ _ (by simp only [dH];omega),bp,bG,ob,j _ _ _ _ (by simp only [dH];omega),bp,jT]
 simp only [ar,df,eW,eV,oj,ob,ao,k2]
 rw [j _ _ _ _ (by simp only [dH];omega),bp,bG,ob,j _ _ _ _ (by simp only [dH];omega),bp,jT]
 simp only [ar,df,eW,eV,oj,ob,ao,k3]
 rw [j _ _ _ _ (by simp only [dH];omega),bp,bG,ob,j _ _ _ _ (by simp only [dH];omega),bp,jT]
 simp only [aO,au,ar,df,eW,eV,oj,ob,ao,ak,ax,aj,cE,d1,k4]
 rw [j _ _ _ _ (by simp only [dH];omega),jS,ob,bQ,ob,aP]
 rfl
noncomputable def nu(wt:PF):MS:=aw (aE (ae 0) (bg 2 (ai (ah 1) (ai (ah 2) (be))))) (aN (bL (mC (.str ", ")) (ac (ay bH (cU (ac (bL (mC (.str " ")) (ac (ae 1) (af))) (af))) (bF (cf (ae 2)) (ah 0) (aG) (ag 1 wt (ac (ae 0) (af))) [U])) (af))))
theorem wE{wt:PF}(hw:∀ (S:aa) (e:En),Ot e->wt [e.d] S=O (.str (bX e),S)){N:List Str}(hN:N.length=3){S:aa}{R:Rm}(h:RmS R):aU N (nu wt) 1 [gn R] S=O (.str (ky R),S):=by
 have hst:aM N [gn R]=[O (gn R),U,U]:=by simp [aM,hN,List.replicate]
 rw [aV (show [gn R].length=1 from rfl),hst]
 have h1:=h.l1
 have h2:=h.l2
 have g2:∀ env,bg 2 (ai (ah 1) (ai (ah 2) (be))) (gn R) env S=(ai (ah 1) (ai (ah 2) (be))) [jj R.1,vG R.2] env S:=λenv=>qT
 have j1:ja (.str " ") [jj R.1] S=O (.str (ej R.1),S):=zZ (by omega)
 have l1:∀ d,mO ([d],S)=O (.lst [d],S):=λd=>eh (by simp)
 have kc:=iJ (S:=S) (t:=aG) (e:=ag 1 wt (ac (ae 0) (af))) (cap:=[U]) (env:=[O (gn R),O (jj R.1),O (vG R.2)]) (rest:=[]) (a:=U) (enc:=En.d) (p:=λ_=>true) (f:=λe=>.str (bX e)) (xs:=R.2) rfl (by omega) (λ_ _=>ee) (λe he _=>by
  simp only [aO,au,ar,df,oj,ob,ao,ak,ax,aj,cE,hw S e (h.en e he)])
 rw [TX.mpr (λ_ _=>rfl)] at kc
 have ad:bH S (.lst [.str (ej R.1)]) (.lst (R.2.map λe=>.str (bX e)))=O (.lst ((ej R.1::R.2.map bX).map .str)):=by
  rw [xP (by simp;omega),Ta,TJ];rfl
 have j2:ja (.str ", ") [.lst ((ej R.1::R.2.map bX).map .str)] S=O (.str (ky R),S):=jD rfl (Th (uq h) (by decide))
 simp only [nu,bC,ci,ar,df,eW,eV,oj,ob,ao,cm,g2,dL,aT,kH,fo,mf,pg,dI,aX,bo,ju,bG,vg,au,bb,mI,ak,ax,aj,dJ,j1,l1,aK,ge,gD,xW,kc,aJ,ad,j2,bQ,aP]
section
variable{α:Type}{enc:α->D}{f:α->Nat->D}{e:ME}{mi:MA}{S:aa}{n:Nat}{c:Option D}
theorem JJ{w:Option D}{f:Nat->D}(h:∀ g,e [w,O (ni g),c] S=O (f g,S)):∀ (us:List Nat) (b:Option D),∃ b',ib (ah 1) aG e (us.map ni) [w,b,c] S=O (us.map f,[w,b',c],S)
 | [],b=>⟨b,Bs⟩
 | g::us,b=>by
  obtain⟨b',ih⟩:=JJ h us (O (ni g))
  refine⟨b',?_⟩
  rw [Ta,zx,aT,ob,pg,mf,Rg,ee,ob,Re,h,ob,Ra,ih,ob,QY,Ta]
theorem JI(hi:∀ a b,mi [a,b,c] S=O ((List.range n).map ni,S))(he:∀ x g,e [O (enc x),O (ni g),c] S=O (f x g,S)) :
  ∀ (xs:List α) (a b:Option D),ia (ah 0) aG mi (ah 1) aG e (xs.map enc) [a,b,c] S=O (xs.flatMap λx=>(List.range n).map (f x),S)
 | [],a,b=>Br
 | x::xs,a,b=>by
  obtain⟨b',h⟩:=JJ (c:=c) (S:=S) (w:=O (enc x)) (e:=e) (f:=f x) (he x) (List.range n) b
  rw [Ta,zv,aT,ob,mf,QN,ee,ob,QL,hi,ob,QJ,h,ob,QH,JI hi he xs,ob,QF,List.flatMap_cons]
end
noncomputable def askA(n:Nat):List Dd:=[false,true].flatMap λwr=>(List.range n).map λg=>Dd.ask wr g U
noncomputable def actA(n:Nat):List Dd:=[Ak.up,.down,.leave,.stop].flatMap λk=>(List.range n).map λg=>Dd.act k g
noncomputable def allA(n:Nat):List Dd:=askA n++actA n
section
variable{S:aa}{n:Nat}{a:Option D}
end
structure Saf(r:Rl)(ws:List Wd):Prop where
 w1:ws.count .writes+ws.count .raised<=1
 g1:ws.count .rising<=1
 al:ws.count .writes+ws.count .raised=1->ws.count .reads+ws.count .rising=0
 mo:r.a=0\/((ws.count .reads+ws.count .rising:Nat):Int)<=r.a
section
variable{r:Rl}{R:Rm}
end
section
variable{r:Rl}{R:Rm}{g:Nat}
end
noncomputable def SetOk(settled:PF):Prop:=∀ (S:aa) (r:Rl) (R:Rm),0<=r.b->ROk R->R.1.length<=50->settled [r.d,gn R] S=O (.tup [gn (dF r R).1,Me (dF r R).2],S++[.lst ((dF r R).2.map Ev.d)])
structure DeOk(settled wait gw ww:PF):Prop where
 s:SetOk settled
 w:SC wait
 g:GwOk gw
 ww:∀ (S:aa) (R:Rm) (g:Nat) (w:Wd),g<R.1.length->R.1.length<=100->ww [gn R,.int (g:Int),w.d] S=O (gn (R.1.set g w,R.2),S)
noncomputable def DP(x:Rm×List Ev):D:=.tup [gn x.1,Me x.2]
section
variable{S:aa}{r:Rl}{R:Rm}{g:Nat}{N:List Str}{settled wait gw ww wo sb tu ol:PF}
structure BrOk(ask up down leave stop tick:PF):Prop where
 a:∀ (S:aa) (r:Rl) (R:Rm) (wr:Bool) (g:Nat) (t:Option Int),0<=r.b->ROk R->R.1.length<=50->R.1[g]?=O .out->kT R.2 g=false->∃ T,ask [r.d,gn R,(Dd.ask wr g t).d] S=O (DP (Fz r R wr g t),S++T)
 u:∀ (S:aa) (r:Rl) (R:Rm) (g:Nat),0<=r.b->ROk R->R.1.length<=50->R.1[g]?=O .reads->∃ T,up [r.d,gn R,(Dd.act .up g).d] S=O (DP (if r.c=0\/Wd.rising∈R.1 then (R,[⟨"no",g⟩]) else JX r R .up g .reads),S++T)
 d:∀ (S:aa) (r:Rl) (R:Rm) (g:Nat) (w:Wd),0<=r.b->ROk R->R.1.length<=50->R.1[g]?=O w->w≠.out->∃ T,down [r.d,gn R,(Dd.act .down g).d] S=O (DP (JX r R .down g w),S++T)
 l:∀ (S:aa) (r:Rl) (R:Rm) (g:Nat) (w:Wd),0<=r.b->ROk R->R.1.length<=50->R.1[g]?=O w->w≠.out->∃ T,leave [r.d,gn R,(Dd.act .leave g).d] S=O (DP (JX r R .leave g w),S++T)
 s:∀ (S:aa) (r:Rl) (R:Rm) (g:Nat) (w:Wd),0<=r.b->ROk R->R.1.length<=50->R.1[g]?=O w->JN R (.act .stop g)=true->∃ T,stop [r.d,gn R,(Dd.act .stop g).d] S=O (DP (JX r R .stop g w),S++T)
 t:∀ (S:aa) (r:Rl) (R:Rm),0<=r.b->ROk R->R.1.length<=50->∃ T,tick [r.d,gn R,Dd.tick.d] S=O (DP (Nv r R),S++T)
end
section
variable{S:aa}{N:List Str}{r:Rl}{R:Rm}{n:Nat}{dd:Dd}
end
end MI
section
set_option maxHeartbeats 4000000
namespace K48
open L2 MI
open M hiding sx gE cr dc cJ lf dZ gh gp mC ae ay aF bU cn dG dX bK fe xp gO nO af ac bZ cU dm xm cZ eY cY aA db ag aI aw aN cG bx ah be ai bg ei aE aL cq gG bF cf aG cT gc ca jv jt eZ dD cK eg da cI cg dY bq bL
def gN(i:Nat):Stmt:=PySem.Challenge.pw_manyreaders_k48_texts_read.main.body.getD i (.Pass ⟨0,0,0,0⟩)
abbrev dk:Stmt:=gN 41
abbrev gz:Stmt:=gN 43
abbrev fJ:Stmt:=gN 42
abbrev fI:Stmt:=gN 44
abbrev cO:Stmt:=gN 48
abbrev cN:Stmt:=gN 47
abbrev bY:Stmt:=gN 46
abbrev jp:Stmt:=gN 29
abbrev fz:Stmt:=gN 28
abbrev fB:Stmt:=gN 27
abbrev cB:Stmt:=gN 51
abbrev fG:Stmt:=gN 25
abbrev cM:Stmt:=gN 36
abbrev gx:Stmt:=gN 35
abbrev fK:Stmt:=gN 45
abbrev cC:Stmt:=gN 50
abbrev dU:Stmt:=gN 4
abbrev iy:Stmt:=gN 3
abbrev fF:Stmt:=gN 12
abbrev gy:Stmt:=gN 1
abbrev eK:Stmt:=gN 2
abbrev iz:Stmt:=gN 14
abbrev fH:Stmt:=gN 13
abbrev iA:Stmt:=gN 11
abbrev dj:Stmt:=gN 39
abbrev fC:Stmt:=gN 38
abbrev fE:Stmt:=gN 37
abbrev fA:Stmt:=gN 24
abbrev cA:Stmt:=gN 49
abbrev gu:Stmt:=gN 26
abbrev cL:Stmt:=gN 34
abbrev fD:Stmt:=gN 33
abbrev uG:Stmt:=gN 52
noncomputable def cu:List (ba×D):=[(.inr "read",(.str "reads")),(.inr "write",(.str "writes")),(.inr "up",(.str "up")),(.inr "down",(.str "down")),(.inr "leave",(.str "leaves")),(.inr "stop",(.str "stops"))]
noncomputable def dW:D:=(.tup [(.str "0"),(.str "1"),(.str "2"),(.str "3"),(.str "4"),(.str "5"),(.str "6"),(.str "7"),(.str "8"),(.str "9")])
noncomputable def eQ:D:=(.int 9)
noncomputable def bR:D:=(.int 9)
noncomputable def ft:D:=(.int 999)
noncomputable def dO:D:=(.int 5)
noncomputable def fh:D:=(.tup [(.str "up"),(.str "down"),(.str "leave"),(.str "stop")])
noncomputable def gl:D:=(.int 3)
noncomputable def gL:D:=(.int 5)
noncomputable def gk:D:=(.tup [(.str "rows"),(.str "readers"),(.str "writers"),(.str "turns"),(.str "passes")])
noncomputable def fq:D:=(.tup [(.str "read"),(.str "write")])
noncomputable def bO:D:=(.tup [(.str "out"),(.str "reads"),(.str "rising"),(.str "writes"),(.str "raised")])
structure Txt(w:World)(K:W.Frag)(mg:Str->Option Value):Prop where
 d__law_cell_at:bJ K mg "_law_cell_at" dk
 d__law_far:bJ K mg "_law_far" gz
 d__law_left:bJ K mg "_law_left" fJ
 d__law_pick:bJ K mg "_law_pick" fI
 d__law_any_room:bJ K mg "_law_any_room" cO
 d__law_any_rule:bJ K mg "_law_any_rule" cN
 d__law_same:bJ K mg "_law_same" bY
 d_dashed:bJ K mg "dashed" jp
 d_wait_text:bJ K mg "wait_text" fz
 d_room_text:bJ K mg "room_text" fB
 d__law_room_text:bJ K mg "_law_room_text" cB
 d_deed_text:bJ K mg "deed_text" fG
 d_deeds_by_text:bJ K mg "deeds_by_text" cM
 d_read_row:bJ K mg "read_row" gx
 d__law_deed:bJ K mg "_law_deed" fK
 d__law_deed_text:bJ K mg "_law_deed_text" cC
 d_is_tuple_of:bJ K mg "is_tuple_of" dU
 d_is_word:bJ K mg "is_word" iy
 d_is_within:bJ K mg "is_within" fF
 d_is_whole:bJ K mg "is_whole" gy
 d_is_between:bJ K mg "is_between" eK
 d_is_wait:bJ K mg "is_wait" iz
 d_are_waits:bJ K mg "are_waits" fH
 d_is_room:bJ K mg "is_room" iA
 d_is_mark_text:bJ K mg "is_mark_text" dj
 d_read_wait:bJ K mg "read_wait" fC
 d_read_room:bJ K mg "read_room" fE
 d_rule_text:bJ K mg "rule_text" fA
 d__law_rule_text:bJ K mg "_law_rule_text" cA
 d_row_text:bJ K mg "row_text" gu
 d_rules_by_text:bJ K mg "rules_by_text" cL
 d_read_rule:bJ K mg "read_rule" fD
 d_law:bJ K mg "law" uG
 z_all:mg "all" = U
 z_bool:mg "bool" = U
 z_dict:mg "dict" = U
 z_enumerate:mg "enumerate" = U
 z_int:mg "int" = U
 z_isinstance:mg "isinstance" = U
 z_len:mg "len" = U
 z_list:mg "list" = U
 z_max:mg "max" = U
 z_min:mg "min" = U
 z_range:mg "range" = U
 z_set:mg "set" = U
 z_str:mg "str" = U
 z_tuple:mg "tuple" = U
 z_zip:mg "zip" = U
 g_DEED_WORDS:vQ w K mg "DEED_WORDS" cu
 g_FIGURES:GC K mg "FIGURES" dW
 g_GREATEST_K:GC K mg "GREATEST_K" eQ
 g_GREATEST_LEFT:GC K mg "GREATEST_LEFT" bR
 g_GREATEST_MARK:GC K mg "GREATEST_MARK" ft
 g_GREATEST_MOST:GC K mg "GREATEST_MOST" dO
 g_GUEST_WORDS:GC K mg "GUEST_WORDS" fh
 g_MOST_FIGURES:GC K mg "MOST_FIGURES" gl
 g_MOST_GUESTS:GC K mg "MOST_GUESTS" gL
 g_RULE_WORDS:GC K mg "RULE_WORDS" gk
 g_WANTS:GC K mg "WANTS" fq
 g_WITHIN_WORDS:GC K mg "WITHIN_WORDS" bO
section
variable{P:Program}{w:World}{K:W.Frag}{mg:Str->Option Value}{base:Heap}
noncomputable def eJ:List Str:=["_law_script","_law_k"]
noncomputable def lq:List (Str×GI):=[("len",.blt)]
noncomputable def eG:=aU eJ (jE (kO eJ dk lq []) (aB dk)) 2
theorem qx:aH eJ ["_law_script","_law_k"] (am dk):=by ac_rfl
theorem qz(T:Txt w K mg):Fn P w K mg base 1 "_law_cell_at" 2 eG:=
 bf T.d__law_cell_at qx (λ_ _ _ _ _ _=>iV λ_=>iV λ_=>lX rfl) (show GKs _ _ _ _ _ _ lq from ⟨T.z_len,trivial⟩)
noncomputable def iU:List Str:=["_law_far_here","_law_k"]
noncomputable def sU:List (Str×GI):=[("range",.blt)]
noncomputable def iN:=aU iU (jE (kO iU gz sU []) (aB gz)) 0
theorem yB:aH iU [] (am gz):=by ac_rfl
theorem yL(T:Txt w K mg):Fn P w K mg base 1 "_law_far" 0 iN:=
 bf T.d__law_far yB (λ_ _ _ _ _ _=>lX rfl) (show GKs _ _ _ _ _ _ sU from ⟨T.z_range,trivial⟩)
noncomputable def hV:List Str:=["_law_script","_law_k","_law_cell","_law_seed"]
noncomputable def qh:List (Str×GI):=[("_law_cell_at",.fn 2 eG),("max",.blt),("_law_far",.fn 0 iN),("len",.blt)]
noncomputable def fR:=aU hV (jE (kO hV fJ qh [134]) (aB fJ)) 2
theorem wB:aH hV ["_law_script","_law_k"] (am fJ):=by ac_rfl
theorem wR(T:Txt w K mg):Fn P w K mg base 2 "_law_left" 2 fR:=
 bf T.d__law_left wB (λ_ _ _ _ _ _=>iV λ_=>iV λ_=>lX rfl) (show GKs _ _ _ _ _ _ qh from ⟨(qz T).up (by decide),T.z_max,(yL T).up (by decide),T.z_len,trivial⟩)
noncomputable def jc:List Str:=["_law_left_here","_law_many","_law_digit"]
noncomputable def qg:List (Str×GI):=[]
noncomputable def az:=aU jc (jE (kO jc fI qg []) (aB fI)) 2
theorem wA:aH jc ["_law_left_here","_law_many"] (am fI):=by ac_rfl
theorem iq(T:Txt w K mg):Fn P w K mg base 1 "_law_pick" 2 az:=
 bf T.d__law_pick wA (λ_ _ _ _ _ _=>iV λ_=>iV λ_=>lX rfl) (show GKs _ _ _ _ _ _ qg from trivial)
noncomputable def dS:List Str:=["_law_left_here","_law_n","_law_within","_law_guest","_law_waits","_law_mark","_law_rest","_law_entry"]
noncomputable def kM:List (Str×GI):=[("range",.blt),("tuple",.blt),("_law_pick",.fn 2 az),("len",.blt)]
noncomputable def cS:=aU dS (jE (kO dS cO kM [178,181]) (aB cO)) 2
theorem oJ:aH dS ["_law_left_here","_law_n"] (am cO):=by ac_rfl
theorem oR(T:Txt w K mg):Fn P w K mg base 2 "_law_any_room" 2 cS:=
 bf T.d__law_any_room oJ (λ_ _ _ _ _ _=>iV λ_=>iV λ_=>lX rfl) (show GKs _ _ _ _ _ _ kM from ⟨T.z_range,T.z_tuple,(iq T).up (by decide),T.z_len,trivial⟩)
noncomputable def dR:List Str:=["_law_left_here","_law_word","_law_most","_law_times"]
noncomputable def kL:List (Str×GI):=[("_law_pick",.fn 2 az),("int",.blt)]
noncomputable def cR:=aU dR (jE (kO dR cN kL []) (aB cN)) 1
theorem oI:aH dR ["_law_left_here"] (am cN):=by ac_rfl
theorem oQ(T:Txt w K mg):Fn P w K mg base 2 "_law_any_rule" 1 cR:=
 bf T.d__law_any_rule oI (λ_ _ _ _ _ _=>iV λ_=>lX rfl) (show GKs _ _ _ _ _ _ kL from ⟨(iq T).up (by decide),T.z_int,trivial⟩)
noncomputable def N__law_same:List Str:=["_law_found","_law_due","_law_keys"]
noncomputable def fN:List (Str×GI):=[("isinstance",.blt),("dict",.blt),("str",.blt),("all",.blt),("list",.blt),("tuple",.blt),("bool",.blt),("int",.blt),("len",.blt),("zip",.blt)]
noncomputable def fW:=Gx N__law_same bY fN [] "_law_same" 2
noncomputable def bE:=fW 8
theorem wT:N__law_same.Nodup:=by decide +kernel
theorem wz:aH N__law_same ["_law_found","_law_due"] (am bY):=⟨rfl,rfl,rfl,wT,rfl,by decide +kernel,by decide +kernel⟩
theorem wQ(T:Txt w K mg):Fn P w K mg base 9 "_law_same" 2 bE:=
 Gw (gs:=fN) (k:=0) T.d__law_same wz (λ_ _ _ _ _ _=>iV λ_=>iV λ_=>lX rfl) ⟨T.z_isinstance,T.z_dict,T.z_str,T.z_all,T.z_list,T.z_tuple,T.z_bool,T.z_int,T.z_len,T.z_zip,trivial⟩ 8
noncomputable def lE:List Str:=["number"]
noncomputable def zP:List (Str×GI):=[("str",.blt)]
noncomputable def lr:=aU lE (jE (kO lE jp zP []) (aB jp)) 1
theorem DM:aH lE ["number"] (am jp):=by ac_rfl
theorem Ec(T:Txt w K mg):Fn P w K mg base 1 "dashed" 1 lr:=
 bf T.d_dashed DM (λ_ _ _ _ _ _=>iV λ_=>lX rfl) (show GKs _ _ _ _ _ _ zP from ⟨T.z_str,trivial⟩)
noncomputable def gS:List Str:=["entry","guest","want","mark","left"]
noncomputable def pX:List (Str×GI):=[("dashed",.fn 1 lr)]
noncomputable def gP:=aU gS (jE (kO gS fz pX []) (aB fz)) 1
theorem wj:aH gS ["entry"] (am fz):=by ac_rfl
theorem wJ(T:Txt w K mg):Fn P w K mg base 2 "wait_text" 1 gP:=
 bf T.d_wait_text wj (λ_ _ _ _ _ _=>iV λ_=>lX rfl) (show GKs _ _ _ _ _ _ pX from ⟨(Ec T).up (by decide),trivial⟩)
noncomputable def gU:List Str:=["room","within","waits"]
noncomputable def pZ:List (Str×GI):=[("wait_text",.fn 1 gP)]
noncomputable def fO:=aU gU (jE (kO gU fB pZ []) (aB fB)) 1
theorem wm:aH gU ["room"] (am fB):=by ac_rfl
theorem wK(T:Txt w K mg):Fn P w K mg base 3 "room_text" 1 fO:=
 bf T.d_room_text wm (λ_ _ _ _ _ _=>iV λ_=>lX rfl) (show GKs _ _ _ _ _ _ pZ from ⟨(wJ T).up (by decide),trivial⟩)
noncomputable def dr:List Str:=["_law_room","_law_text","_law_guest","_law_want","_law_mark","_law_rest"]
noncomputable def jz:List (Str×GI):=[("int",.blt),("str",.blt)]
noncomputable def bi:=aU dr (jE (kO dr cB jz [200202]) (aB cB)) 1
theorem nk:aH dr ["_law_room"] (am cB):=by ac_rfl
theorem nB(T:Txt w K mg):Fn P w K mg base 1 "_law_room_text" 1 bi:=
 bf T.d__law_room_text nk (λ_ _ _ _ _ _=>iV λ_=>lX rfl) (show GKs _ _ _ _ _ _ jz from ⟨T.z_int,T.z_str,trivial⟩)
noncomputable def hJ:List Str:=["deed","text"]
noncomputable def qe:List (Str×GI):=[("DEED_WORDS",.tab cu),("len",.blt)]
noncomputable def cz:=aU hJ (jE (kO hJ fG qe []) (aB fG)) 1
theorem wv:aH hJ ["deed"] (am fG):=by ac_rfl
theorem ny(T:Txt w K mg):Fn P w K mg base 1 "deed_text" 1 cz:=
 bf T.d_deed_text wv (λ_ _ _ _ _ _=>iV λ_=>lX rfl) (show GKs _ _ _ _ _ _ qe from ⟨T.g_DEED_WORDS,T.z_len,trivial⟩)
noncomputable def dQ:List Str:=["n","lefts","asks","others"]
noncomputable def kK:List (Str×GI):=[("list",.blt),("WANTS",.con fq),("GUEST_WORDS",.con fh),("deed_text",.fn 1 cz),("range",.blt),("GREATEST_LEFT",.con bR)]
noncomputable def cQ:=aU dQ (jE (kO dQ cM kK []) (aB cM)) 1
theorem oH:aH dQ ["n"] (am cM):=by ac_rfl
theorem oP(T:Txt w K mg):Fn P w K mg base 2 "deeds_by_text" 1 cQ:=
 bf T.d_deeds_by_text oH (λ_ _ _ _ _ _=>iV λ_=>lX rfl) (show GKs _ _ _ _ _ _ kK from ⟨T.z_list,T.g_WANTS,T.g_GUEST_WORDS,(ny T).up (by decide),T.z_range,T.g_GREATEST_LEFT,trivial⟩)
noncomputable def iR:List Str:=["n","text","lines","known","place","line"]
noncomputable def sS:List (Str×GI):=[("deeds_by_text",.fn 1 cQ),("enumerate",.blt),("tuple",.blt),("isinstance",.blt),("str",.blt)]
noncomputable def bD:=aU iR (jE (kO iR gx sS [985000,990000]) (aB gx)) 2
theorem yz:aH iR ["n","text"] (am gx):=by ac_rfl
theorem yJ(T:Txt w K mg):Fn P w K mg base 3 "read_row" 2 bD:=
 bf T.d_read_row yz (λ_ _ _ _ _ _=>iV λ_=>iV λ_=>lX rfl) (show GKs _ _ _ _ _ _ sS from ⟨(oP T).up (by decide),T.z_enumerate,T.z_tuple,T.z_isinstance,T.z_str,trivial⟩)
noncomputable def hX:List Str:=["_law_left_here","_law_n","_law_guest","_law_way"]
noncomputable def qi:List (Str×GI):=[("_law_pick",.fn 2 az)]
noncomputable def dB:=aU hX (jE (kO hX fK qi []) (aB fK)) 2
theorem wC:aH hX ["_law_left_here","_law_n"] (am fK):=by ac_rfl
theorem wS(T:Txt w K mg):Fn P w K mg base 2 "_law_deed" 2 dB:=
 bf T.d__law_deed wC (λ_ _ _ _ _ _=>iV λ_=>iV λ_=>lX rfl) (show GKs _ _ _ _ _ _ qi from ⟨(iq T).up (by decide),trivial⟩)
noncomputable def du:List Str:=["_law_deed_here","_law_words","_law_text"]
noncomputable def jA:List (Str×GI):=[("str",.blt)]
noncomputable def bV:=aU du (jE (kO du cC jA [200197,200198]) (aB cC)) 1
theorem nq:aH du ["_law_deed_here"] (am cC):=by ac_rfl
theorem nC(T:Txt w K mg):Fn P w K mg base 1 "_law_deed_text" 1 bV:=
 bf T.d__law_deed_text nq (λ_ _ _ _ _ _=>iV λ_=>lX rfl) (show GKs _ _ _ _ _ _ jA from ⟨T.z_str,trivial⟩)
noncomputable def fm:List Str:=["thing","many"]
noncomputable def mn:List (Str×GI):=[("isinstance",.blt),("tuple",.blt),("len",.blt)]
noncomputable def bt:=aU fm (jE (kO fm dU mn []) (aB dU)) 2
theorem rG:aH fm ["thing","many"] (am dU):=by ac_rfl
theorem iH(T:Txt w K mg):Fn P w K mg base 1 "is_tuple_of" 2 bt:=
 bf T.d_is_tuple_of rG (λ_ _ _ _ _ _=>iV λ_=>iV λ_=>lX rfl) (show GKs _ _ _ _ _ _ mn from ⟨T.z_isinstance,T.z_tuple,T.z_len,trivial⟩)
noncomputable def iF:List Str:=["thing","words"]
noncomputable def vp:List (Str×GI):=[("isinstance",.blt),("str",.blt)]
noncomputable def eM:=aU iF (jE (kO iF iy vp []) (aB iy)) 2
theorem AM:aH iF ["thing","words"] (am iy):=by ac_rfl
theorem rS(T:Txt w K mg):Fn P w K mg base 1 "is_word" 2 eM:=
 bf T.d_is_word AM (λ_ _ _ _ _ _=>iV λ_=>iV λ_=>lX rfl) (show GKs _ _ _ _ _ _ vp from ⟨T.z_isinstance,T.z_str,trivial⟩)
noncomputable def gZ:List Str:=["n","thing"]
noncomputable def qd:List (Str×GI):=[("is_tuple_of",.fn 2 bt),("all",.blt),("is_word",.fn 2 eM),("WITHIN_WORDS",.con bO)]
noncomputable def fQ:=aU gZ (jE (kO gZ fF qd []) (aB fF)) 2
theorem wu:aH gZ ["n","thing"] (am fF):=by ac_rfl
theorem wO(T:Txt w K mg):Fn P w K mg base 2 "is_within" 2 fQ:=
 bf T.d_is_within wu (λ_ _ _ _ _ _=>iV λ_=>iV λ_=>lX rfl) (show GKs _ _ _ _ _ _ qd from ⟨(iH T).up (by decide),T.z_all,(rS T).up (by decide),T.g_WITHIN_WORDS,trivial⟩)
noncomputable def iT:List Str:=["thing"]
noncomputable def sT:List (Str×GI):=[("isinstance",.blt),("int",.blt),("bool",.blt)]
noncomputable def iL:=aU iT (jE (kO iT gy sT []) (aB gy)) 1
theorem yA:aH iT ["thing"] (am gy):=by ac_rfl
theorem yK(T:Txt w K mg):Fn P w K mg base 1 "is_whole" 1 iL:=
 bf T.d_is_whole yA (λ_ _ _ _ _ _=>iV λ_=>lX rfl) (show GKs _ _ _ _ _ _ sT from ⟨T.z_isinstance,T.z_int,T.z_bool,trivial⟩)
noncomputable def gm:List Str:=["thing","low","high"]
noncomputable def nY:List (Str×GI):=[("is_whole",.fn 1 iL)]
noncomputable def bW:=aU gm (jE (kO gm eK nY []) (aB eK)) 3
theorem tY:aH gm ["thing","low","high"] (am eK):=by ac_rfl
theorem ub(T:Txt w K mg):Fn P w K mg base 2 "is_between" 3 bW:=
 bf T.d_is_between tY (λ_ _ _ _ _ _=>iV λ_=>iV λ_=>iV λ_=>lX rfl) (show GKs _ _ _ _ _ _ nY from ⟨(yK T).up (by decide),trivial⟩)
noncomputable def jI:List Str:=["within","thing","guest","want","mark","left"]
noncomputable def vq:List (Str×GI):=[("is_tuple_of",.fn 2 bt),("is_between",.fn 3 bW),("GREATEST_LEFT",.con bR),("is_word",.fn 2 eM),("WANTS",.con fq),("GREATEST_MARK",.con ft),("len",.blt)]
noncomputable def iC:=aU jI (jE (kO jI iz vq []) (aB iz)) 2
theorem AN:aH jI ["within","thing"] (am iz):=by ac_rfl
theorem Ba(T:Txt w K mg):Fn P w K mg base 3 "is_wait" 2 iC:=
 bf T.d_is_wait AN (λ_ _ _ _ _ _=>iV λ_=>iV λ_=>lX rfl) (show GKs _ _ _ _ _ _ vq from ⟨(iH T).up (by decide),(ub T).up (by decide),T.g_GREATEST_LEFT,(rS T).up (by decide),T.g_WANTS,T.g_GREATEST_MARK,T.z_len,trivial⟩)
noncomputable def hU:List Str:=["within","thing","guests"]
noncomputable def qf:List (Str×GI):=[("len",.blt),("isinstance",.blt),("tuple",.blt),("all",.blt),("set",.blt),("is_wait",.fn 2 iC)]
noncomputable def gQ:=aU hU (jE (kO hU fH qf []) (aB fH)) 2
theorem wx:aH hU ["within","thing"] (am fH):=by ac_rfl
theorem wP(T:Txt w K mg):Fn P w K mg base 4 "are_waits" 2 gQ:=
 bf T.d_are_waits wx (λ_ _ _ _ _ _=>iV λ_=>iV λ_=>lX rfl) (show GKs _ _ _ _ _ _ qf from ⟨T.z_len,T.z_isinstance,T.z_tuple,T.z_all,T.z_set,(Ba T).up (by decide),trivial⟩)
noncomputable def jJ:List Str:=["n","thing","within","waits"]
noncomputable def vt:List (Str×GI):=[("is_tuple_of",.fn 2 bt),("is_within",.fn 2 fQ),("are_waits",.fn 2 gQ)]
noncomputable def iD:=aU jJ (jE (kO jJ iA vt []) (aB iA)) 2
theorem AO:aH jJ ["n","thing"] (am iA):=by ac_rfl
theorem Bb(T:Txt w K mg):Fn P w K mg base 5 "is_room" 2 iD:=
 bf T.d_is_room AO (λ_ _ _ _ _ _=>iV λ_=>iV λ_=>lX rfl) (show GKs _ _ _ _ _ _ vt from ⟨(iH T).up (by decide),(wO T).up (by decide),(wP T).up (by decide),trivial⟩)
noncomputable def eI:List Str:=["text"]
noncomputable def lm:List (Str×GI):=[("MOST_FIGURES",.con gl),("all",.blt),("len",.blt),("FIGURES",.con dW)]
noncomputable def eE:=aU eI (jE (kO eI dj lm [970000,980000]) (aB dj)) 1
theorem qw:aH eI ["text"] (am dj):=by ac_rfl
theorem qy(T:Txt w K mg):Fn P w K mg base 1 "is_mark_text" 1 eE:=
 bf T.d_is_mark_text qw (λ_ _ _ _ _ _=>iV λ_=>lX rfl) (show GKs _ _ _ _ _ _ lm from ⟨T.g_MOST_FIGURES,T.z_all,T.z_len,T.g_FIGURES,trivial⟩)
noncomputable def gW:List Str:=["text","parts","guest","want","mark","left"]
noncomputable def qa:List (Str×GI):=[("len",.blt),("FIGURES",.con dW),("int",.blt),("is_mark_text",.fn 1 eE)]
noncomputable def fP:=aU gW (jE (kO gW fC qa [960000,975000]) (aB fC)) 1
theorem wn:aH gW ["text"] (am fC):=by ac_rfl
theorem wL(T:Txt w K mg):Fn P w K mg base 2 "read_wait" 1 fP:=
 bf T.d_read_wait wn (λ_ _ _ _ _ _=>iV λ_=>lX rfl) (show GKs _ _ _ _ _ _ qa from ⟨T.z_len,T.g_FIGURES,T.z_int,(qy T).up (by decide),trivial⟩)
noncomputable def gY:List Str:=["text","words","entries","within","room"]
noncomputable def qc:List (Str×GI):=[("tuple",.blt),("isinstance",.blt),("str",.blt),("MOST_GUESTS",.con gL),("len",.blt),("is_room",.fn 2 iD),("read_wait",.fn 1 fP)]
noncomputable def dA:=aU gY (jE (kO gY fE qc []) (aB fE)) 1
theorem wq:aH gY ["text"] (am fE):=by ac_rfl
theorem wN(T:Txt w K mg):Fn P w K mg base 6 "read_room" 1 dA:=
 bf T.d_read_room wq (λ_ _ _ _ _ _=>iV λ_=>lX rfl) (show GKs _ _ _ _ _ _ qc from ⟨T.z_tuple,T.z_isinstance,T.z_str,T.g_MOST_GUESTS,T.z_len,(Bb T).up (by decide),(wL T).up (by decide),trivial⟩)
noncomputable def gT:List Str:=["rule","word","most","k","ups","parts"]
noncomputable def pY:List (Str×GI):=[("str",.blt)]
noncomputable def cy:=aU gT (jE (kO gT fA pY [52]) (aB fA)) 1
theorem wk:aH gT ["rule"] (am fA):=by ac_rfl
theorem nw(T:Txt w K mg):Fn P w K mg base 1 "rule_text" 1 cy:=
 bf T.d_rule_text wk (λ_ _ _ _ _ _=>iV λ_=>lX rfl) (show GKs _ _ _ _ _ _ pY from ⟨T.z_str,trivial⟩)
noncomputable def dq:List Str:=["_law_rule","_law_word","_law_most","_law_times","_law_ups","_law_text"]
noncomputable def jy:List (Str×GI):=[("str",.blt),("int",.blt)]
noncomputable def bh:=aU dq (jE (kO dq cA jy [200191,200192]) (aB cA)) 1
theorem nj:aH dq ["_law_rule"] (am cA):=by ac_rfl
theorem nz(T:Txt w K mg):Fn P w K mg base 1 "_law_rule_text" 1 bh:=
 bf T.d__law_rule_text nj (λ_ _ _ _ _ _=>iV λ_=>lX rfl) (show GKs _ _ _ _ _ _ jy from ⟨T.z_str,T.z_int,trivial⟩)
noncomputable def iQ:List Str:=["row"]
noncomputable def sR:List (Str×GI):=[("deed_text",.fn 1 cz)]
noncomputable def fw:=aU iQ (jE (kO iQ gu sR []) (aB gu)) 1
theorem yx:aH iQ ["row"] (am gu):=by ac_rfl
theorem yI(T:Txt w K mg):Fn P w K mg base 2 "row_text" 1 fw:=
 bf T.d_row_text yx (λ_ _ _ _ _ _=>iV λ_=>lX rfl) (show GKs _ _ _ _ _ _ sR from ⟨(ny T).up (by decide),trivial⟩)
noncomputable def dP:List Str:=["rules"]
noncomputable def kJ:List (Str×GI):=[("RULE_WORDS",.con gk),("rule_text",.fn 1 cy),("range",.blt),("GREATEST_MOST",.con dO),("GREATEST_K",.con eQ)]
noncomputable def dM:=aU dP (jE (kO dP cL kJ []) (aB cL)) 0
theorem oG:aH dP [] (am cL):=by ac_rfl
theorem oO(T:Txt w K mg):Fn P w K mg base 2 "rules_by_text" 0 dM:=
 bf T.d_rules_by_text oG (λ_ _ _ _ _ _=>lX rfl) (show GKs _ _ _ _ _ _ kJ from ⟨T.g_RULE_WORDS,(nw T).up (by decide),T.z_range,T.g_GREATEST_MOST,T.g_GREATEST_K,trivial⟩)
noncomputable def gX:List Str:=["text","rule"]
noncomputable def qb:List (Str×GI):=[("isinstance",.blt),("str",.blt),("rules_by_text",.fn 0 dM)]
noncomputable def dw:=aU gX (jE (kO gX fD qb []) (aB fD)) 1
theorem wp:aH gX ["text"] (am fD):=by ac_rfl
theorem wM(T:Txt w K mg):Fn P w K mg base 3 "read_rule" 1 dw:=
 bf T.d_read_rule wp (λ_ _ _ _ _ _=>iV λ_=>lX rfl) (show GKs _ _ _ _ _ _ qb from ⟨T.z_isinstance,T.z_str,(oO T).up (by decide),trivial⟩)
noncomputable def Av:List Str:=["_law_script","_law_k","_law_left_here","_law_rule","_law_n","_law_room","_law_row","_law_text"]
noncomputable def Ob:List (Str×GI):=[("range",.blt),("_law_left",.fn 2 fR),("_law_any_room",.fn 2 cS),("tuple",.blt),("min",.blt),("_law_any_rule",.fn 1 cR),("_law_same",.fn 2 bE),("room_text",.fn 1 fO),("_law_room_text",.fn 1 bi),("read_row",.fn 2 bD),("len",.blt),("_law_pick",.fn 2 az),("_law_deed",.fn 2 dB),("_law_deed_text",.fn 1 bV),("read_room",.fn 1 dA),("rule_text",.fn 1 cy),("_law_rule_text",.fn 1 bh),("row_text",.fn 1 fw),("read_rule",.fn 1 dw)]
noncomputable def zX:=aU Av (jE (kO Av uG Ob []) (aB uG)) 1
theorem OR:aH Av ["_law_script"] (am uG):=by ac_rfl
theorem Ru(T:Txt w K mg):GKs P w K mg base 9 Ob:=⟨T.z_range,(wR T).up (by decide),(oR T).up (by decide),T.z_tuple,T.z_min,(oQ T).up (by decide),(wQ T).up (by decide),(wK T).up (by decide),(nB T).up (by decide),(yJ T).up (by decide),T.z_len,(iq T).up (by decide),(wS T).up (by decide),(nC T).up (by decide),(wN T).up (by decide),(nw T).up (by decide),(nz T).up (by decide),(yI T).up (by decide),(wM T).up (by decide),trivial⟩
end
theorem Sz{l:W.OpenLaw}{w:World}{K:W.Frag}{h:Heap}{mg:Str->Option Value}{fa:Addr}(X:K.In h)(G:h.Ns mainGlobals mg)(hfa:mg "law" = O (.ref fa))(T:Txt w K mg) :
  ∃ fd:FuncData,(∀ (s:Shared) (v:Value),BindsTo s fd ⟨[v],[]⟩ [("_law_script",v)])/\∀ base:Heap,K.In base->base.Ns mainGlobals mg->FnOk l.prog w K mg base FD 10 fa fd ["_law_script"] (Kp K 1 zX):=
 Qk T.d_law hfa OR (λ_ _ _ _ _ _ _=>rfl) λbase=>Ru T
theorem walk{l:W.OpenLaw}{q:Program}{loose:List Str}{XP:(Str->Option Value)->Heap->Prop}{YP:World->Heap->Prop}{d:DefRec}{K:Params->W.Frag}(hn:l.most=O 63)(hdf:d.params.defaults=[])(hnm:d.name = "law")
  (hY:∀ (w:World) (h:Heap),YP w h->(K w.params).In h) (hlaw:∀ ns:List Int,ns.length<=63->∃ S',zX [.rol (ns.map .int)] []=O (.bl true,S'))
  (F:∀ (w:World) (mg:Str->Option Value) (h:Heap),(K w.params).In h->h.Ns mainGlobals mg->Txt w (K w.params) mg) :
  W.WalkO q loose XP YP l.row.toRowW d [] (λf vs=>PySem.call f vs):=
 L2.Ke (n:=63) (k:=10) (x:="_law_script") (CX:=λ_=>FD) (sp:=λw=>Kp (K w.params) 1 zX) hn (by decide) hdf ⟨rfl,by decide,by decide⟩ hY
  (λw mg fa h KX G hmg=>Sz KX G (hnm ▸ hmg) (F w mg h KX G)) (λ_ _ a ns hl _ hS=>Qi hlaw hl hS) λ_ _ _ _ _ z=>z
end K48
end
section
set_option maxHeartbeats 4000000
namespace K48
open L2 MI
open M hiding sx gE cr dc cJ lf dZ gh gp mC ae ay aF bU cn dG dX bK fe xp gO nO af ac bZ cU dm xm cZ eY cY aA db ag aI aw aN cG bx ah be ai bg ei aE aL cq gG bF cf aG cT gc ca jv jt eZ dD cK eg da cI cg dY bq bL
noncomputable def sk:MS:=
 lI
theorem qB:eG=aU eJ sk 2:=lY rfl
noncomputable def Bn:MS:=
 Bu
theorem yY:iN=aU iU Bn 0:=lY rfl
noncomputable def ze:MS:=
 qS eG iN
theorem xk:fR=aU hV ze 2:=lY rfl
noncomputable def zd:MS:=
 qR
theorem xj:az=aU jc zd 2:=lY rfl
noncomputable def kG:MS:=
 aw (aE (dm (af)) (ah 2)) (aw (gG (aL (ac (ae 1) (af))) (ah 3) (cG (cT cX (ae 2) (ac (ay aQ (cU (ac (mC (.str "out")) (ac (mC (.str "out")) (ac (mC (.str "out")) (ac (mC (.str "reads")) (ac (mC (.str "rising")) (ac (mC (.str "writes")) (ac (mC (.str "raised")) (af))))))))) (ag 2 az (ac (ae 0) (ac (mC (.int 7)) (af))))) (af))))) (aw (aE (dm (af)) (ah 4)) (aw (eg (bF (aL (ac (ae 1) (af))) (ah 0) (aF (ay iP (ay aQ (ae 1) (ae 0)) (mC (.str "out")))) (ae 0) [U,O 2]) (ah 3) (aw (aE (ay aQ (cU (ac (mC (.int 0)) (ac (mC (.int 0)) (ac (mC (.int 1)) (ac (mC (.int 9)) (ac (mC (.int 10)) (ac (mC (.int 99)) (ac (mC (.int 100)) (ac (mC (.int 999)) (af)))))))))) (ag 2 az (ac (ae 0) (ac (mC (.int 8)) (af))))) (ah 5)) (aw (aE (ay aQ (cU (ac (mC .non) (ac (mC .non) (ac (mC (.int 1)) (ac (mC (.int 9)) (ac (ay bH (mC (.int 1)) (ag 2 az (ac (ae 0) (ac (mC (.int 9)) (af))))) (af))))))) (ag 2 az (ac (ae 0) (ac (mC (.int 5)) (af))))) (ah 6)) (bx (aF (ay Kb (ag 2 az (ac (ae 0) (ac (mC (.int 4)) (af)))) (mC (.int 0)))) (aw (aE (bZ (ac (ae 3) (ac (ay aQ (cU (ac (mC (.str "read")) (ac (mC (.str "write")) (af)))) (ag 2 az (ac (ae 0) (ac (mC (.int 2)) (af))))) (ac (ae 5) (ac (ae 6) (af)))))) (ah 7)) (cG (cT gJ (ae 4) (ac (ag 2 az (ac (ae 0) (ac (ay bH (aA (aq eN) (ac (ae 4) (af))) (mC (.int 1))) (af)))) (ac (ae 7) (af)))))) (aI))))) (aN (bZ (ac (aA (aq (fS .tup)) (ac (ae 2) (af))) (ac (aA (aq (fS .tup)) (ac (ae 4) (af))) (af))))))))
theorem oW:cS=aU dS kG 2:=lY rfl
noncomputable def kD:MS:=
 aw (aE (ay aQ (cU (ac (mC (.str "rows")) (ac (mC (.str "readers")) (ac (mC (.str "writers")) (ac (mC (.str "turns")) (ac (mC (.str "passes")) (ac (mC (.str "passes")) (af)))))))) (ag 2 az (ac (ae 0) (ac (mC (.int 6)) (af))))) (ah 1)) (aw (jv 2 3 (ac (ag 2 az (ac (ae 0) (ac (mC (.int 6)) (af)))) (ac (ag 2 az (ac (ae 0) (ac (mC (.int 10)) (af)))) (af)))) (aN (bZ (ac (ae 1) (ac (ae 2) (ac (ay dN (ae 3) (aA (aq kN) (ac (ay iP (ae 1) (mC (.str "passes"))) (af)))) (ac (ag 2 az (ac (ae 0) (ac (mC (.int 2)) (af)))) (af))))))))
theorem oV:cR=aU dR kD 1:=lY rfl
noncomputable def pR(bE:List D->aa->Option (D×aa)):MS:=
 jU bE
theorem xi(j:Nat):fW (j+1)=aU N__law_same (pR (fW j)) 2:=by
 unfold fW
 show aU N__law_same (jE (kO N__law_same bY (("_law_same",.fn 2 (Gx N__law_same bY fN [] "_law_same" 2 j))::fN) []) (aB bY)) 2=_
 generalize Gx N__law_same bY fN [] "_law_same" 2 j=F
 rw [show jE (kO N__law_same bY (("_law_same",.fn 2 F)::fN) []) (aB bY)=pR F from rfl]
noncomputable def Hi:MS:=
 aN (nO (aF (ay Ka (ae 0) (mC .non))) (mC (.str "-")) (aA (aq ce) (ac (ae 0) (af))))
theorem Ei:lr=aU lE Hi 1:=lY rfl
noncomputable def zb:MS:=
 aw (aE (ae 0) (bg 4 (ai (ah 1) (ai (ah 2) (ai (ah 3) (ai (ah 4) (be))))))) (aN (bq [dY (ae 1),mC (.str " "),dY (ae 2),mC (.str " "),dY (ae 3),mC (.str " "),dY (ag 1 lr (ac (ae 4) (af)))] Str.empty))
theorem wV:gP=aU gS zb 1:=lY rfl
noncomputable def zc:MS:=
 aw (aE (ae 0) (bg 2 (ai (ah 1) (ai (ah 2) (be))))) (aN (bL (mC (.str ", ")) (ac (ay bH (cU (ac (bL (mC (.str " ")) (ac (ae 1) (af))) (af))) (bF (cf (ae 2)) (ah 0) (aG) (ag 1 gP (ac (ae 0) (af))) [U])) (af))))
theorem wX:fO=aU gU zc 1:=lY rfl
noncomputable def jr:MS:=
 aw (aE (bL (mC (.str " ")) (ac (ay aQ (ae 0) (mC (.int 0))) (af))) (ah 1)) (aw (eg (ay aQ (ae 0) (mC (.int 1))) (bg 4 (ai (ah 2) (ai (ah 3) (ai (ah 4) (ai (ah 5) (be)))))) (aE (ay aY (ay aY (ay aY (ay aY (ay aY (ay aY (ay aY (ay aY (ae 1) (mC (.str ", "))) (aA (aq ce) (ac (ae 2) (af)))) (mC (.str " "))) (ae 3)) (mC (.str " "))) (aA (aq ce) (ac (ae 4) (af)))) (mC (.str " "))) (ay aQ (cU (ac (mC (.str "-")) (ac (aA (aq ce) (ac (ae 5) (af))) (af)))) (aA (aq kN) (ac (ay ig (ae 5) (mC .non)) (af))))) (ah 1))) (aN (ae 1)))
theorem nH:bi=aU dr jr 1:=lY rfl
noncomputable def pP:MS:=
 aw (bx (aF (ay iP (ay aQ (ae 0) (mC (.int 0))) (mC (.str "tick")))) (aN (mC (.str "tick"))) (aI)) (aw (aE (bq [dY (ay aQ (ae 0) (mC (.int 1))),mC (.str " "),dY (cI cu (ay aQ (ae 0) (mC (.int 0))))] Str.empty) (ah 1)) (aw (bx (dG (aF (ay iP (aA (aq eN) (ac (ae 0) (af))) (mC (.int 3)))) (aF (ay ig (ay aQ (ae 0) (mC (.int 2))) (mC .non)))) (aN (bq [dY (ae 1),mC (.str " "),dY (ay aQ (ae 0) (mC (.int 2)))] Str.empty)) (aI)) (aN (ae 1))))
theorem xg:cz=aU hJ pP 1:=lY rfl
noncomputable def kA:MS:=
 aw (aE (ay bH (cU (ac (mC .non) (af))) (da (ac (ay bH (mC bR) (mC (.int 1))) (af)))) (ah 1)) (aw (aE (cr (cf (mC fq)) (ah 0) (aG) (gE (aL (ac (ae 4) (af))) (ah 1) (aG) (gE (cf (ae 3)) (ah 2) (aG) (sx (bZ (ac (ae 0) (ac (ae 1) (ac (ae 2) (af)))))))) [U,U,U,O 1,O 0]) (ah 2)) (aw (aE (cg (cf (mC fh)) (ah 0) (aG) (aL (ac (ae 2) (af))) (ah 1) (aG) (bZ (ac (ae 0) (ac (ae 1) (af)))) [U,U,O 0]) (ah 3)) (aN (dc (cf (ay bH (ay bH (ae 2) (ae 3)) (cU (ac (bZ (ac (mC (.str "tick")) (af))) (af))))) (ah 0) (aG) (ag 1 cz (ac (ae 0) (af))) (ae 0) [U]))))
theorem oU:cQ=aU dQ kA 1:=lY rfl
noncomputable def sg:MS:=
 aw (bx (bK (cn (db "str" (ae 1)))) (fT) (aI)) (aw (aE (nO (cn (ae 1)) (cJ (ae 1) (ac (mC (.str "\n")) (af))) (cU (af))) (ah 2)) (aw (aE (ag 1 cQ (ac (ae 0) (af))) (ah 3)) (aw (gG (dZ (ac (ae 2) (af))) (bg 2 (ai (ah 4) (ai (ah 5) (be)))) (bx (aF (ay oa (ae 5) (ae 3))) (fT) (aI))) (aN (aA (aq (fS .tup)) (ac (bF (cf (ae 2)) (ah 0) (aG) (ay aQ (ae 1) (ae 0)) [U,O 3]) (af)))))))
theorem yW:bD=aU iR sg 2:=lY rfl
noncomputable def zf:MS:=
 nU az
theorem xl:dB=aU hX zf 2:=lY rfl
noncomputable def js:MS:=
 aw (bx (aF (ay iP (ae 0) (bZ (ac (mC (.str "tick")) (af))))) (aN (mC (.str "tick"))) (aI)) (aw (aE (eZ [(mC (.str "read"),mC (.str "reads")),(mC (.str "write"),mC (.str "writes")),(mC (.str "leave"),mC (.str "leaves")),(mC (.str "stop"),mC (.str "stops"))]) (ah 1)) (aw (aE (ay aY (ay aY (aA (aq ce) (ac (ay aQ (ae 0) (mC (.int 1))) (af))) (mC (.str " "))) (cK og (ae 1) (ac (ay aQ (ae 0) (mC (.int 0))) (ac (ay aQ (ae 0) (mC (.int 0))) (af))))) (ah 2)) (aN (ay aY (ae 2) (bL (mC (.str "")) (ac (bF (cf (cY (ae 0) (eY (mC (.int 2))) (cZ))) (ah 0) (aF (ay ig (ae 0) (mC .non))) (ay aY (mC (.str " ")) (aA (aq ce) (ac (ae 0) (af)))) [U]) (af)))))))
theorem nI:bV=aU du js 1:=lY rfl
noncomputable def lZ:MS:=
 aN (fe (db "tuple" (ae 0)) (ay iP (aA (aq eN) (ac (ae 0) (af))) (ae 1)))
theorem sd:bt=aU fm lZ 2:=lY rfl
noncomputable def oX:MS:=
 aN (fe (db "str" (ae 0)) (ay EH (ae 0) (ae 1)))
theorem rZ:eM=aU iF oX 2:=lY rfl
noncomputable def pO:MS:=
 aN (fe (ag 2 bt (ac (ae 1) (ac (ae 0) (af)))) (aA (aq pv) (ac (bF (cf (ae 1)) (ah 0) (aG) (ag 2 eM (ac (ae 0) (ac (mC bO) (af)))) [U]) (af))))
theorem xc:fQ=aU gZ pO 2:=lY rfl
noncomputable def si:MS:=
 aN (fe (db "int" (ae 0)) (gO (db "bool" (ae 0))))
theorem yX:iL=aU iT si 1:=lY rfl
noncomputable def jQ:MS:=
 aN (fe (ag 1 iL (ac (ae 0) (af))) (bU LY LY (ae 1) (ae 0) (ae 2)))
theorem uc:bW=aU gm jQ 3:=lY rfl
noncomputable def uP:MS:=
 aw (bx (bK (cn (ag 2 bt (ac (ae 1) (ac (mC (.int 4)) (af)))))) (aN (mC (.bl false))) (aI)) (aw (aE (ae 1) (bg 4 (ai (ah 2) (ai (ah 3) (ai (ah 4) (ai (ah 5) (be))))))) (aw (bx (dX (bK (cn (ag 3 bW (ac (ae 2) (ac (mC (.int 0)) (ac (ay Iv (aA (aq eN) (ac (ae 0) (af))) (mC (.int 1))) (af))))))) (aF (ay qk (ay aQ (ae 0) (ae 2)) (mC (.str "out"))))) (aN (mC (.bl false))) (aI)) (aw (bx (dX (bK (cn (ag 2 eM (ac (ae 3) (ac (mC fq) (af)))))) (bK (cn (ag 3 bW (ac (ae 4) (ac (mC (.int 0)) (ac (mC ft) (af)))))))) (aN (mC (.bl false))) (aI)) (aN (xp (ay Ka (ae 5) (mC .non)) (ag 3 bW (ac (ae 5) (ac (mC (.int 1)) (ac (mC bR) (af))))))))))
theorem Bi:iC=aU jI uP 2:=lY rfl
noncomputable def pQ:MS:=
 aw (bx (dX (bK (cn (db "tuple" (ae 1)))) (bK (cn (aA (aq pv) (ac (bF (cf (ae 1)) (ah 0) (aG) (ag 2 iC (ac (ae 1) (ac (ae 0) (af)))) [U,O 0]) (af)))))) (aN (mC (.bl false))) (aI)) (aw (aE (bF (cf (ae 1)) (ah 0) (aG) (ay aQ (ae 0) (mC (.int 0))) [U]) (ah 2)) (aN (ay iP (ca (ac (ae 2) (af))) (aA (aq eN) (ac (ae 2) (af))))))
theorem xh:gQ=aU hU pQ 2:=lY rfl
noncomputable def uQ:MS:=
 aw (bx (bK (cn (ag 2 bt (ac (ae 1) (ac (mC (.int 2)) (af)))))) (aN (mC (.bl false))) (aI)) (aw (aE (ae 1) (bg 2 (ai (ah 2) (ai (ah 3) (be))))) (aN (fe (ag 2 fQ (ac (ae 0) (ac (ae 2) (af)))) (ag 2 gQ (ac (ae 2) (ac (ae 3) (af)))))))
theorem Bj:iD=aU jJ uQ 2:=lY rfl
noncomputable def le:MS:=
 aw (bx (dX (bK (aF (bU LY LY (mC (.int 1)) (aA (aq eN) (ac (ae 0) (af))) (mC gl)))) (bK (cn (aA (aq pv) (ac (bF (lf (ae 0)) (ah 0) (aG) (ay EH (ae 0) (mC dW)) [U]) (af)))))) (aN (mC (.bl false))) (aI)) (aN (xp (ay iP (ae 0) (mC (.str "0"))) (ay qk (ay BH (ae 0) (mC (.int 0))) (mC (.str "0")))))
theorem qA:eE=aU eI le 1:=lY rfl
noncomputable def lc:MS:=
 aw (aE (cJ (ae 0) (ac (mC (.str " ")) (af))) (ah 1)) (aw (bx (aF (ay qk (aA (aq eN) (ac (ae 1) (af))) (mC (.int 4)))) (aN (mC .non)) (aI)) (aw (aE (ae 1) (gp 4 (ai (ah 2) (ai (ah 3) (ai (ah 4) (ai (ah 5) (be))))))) (aw (bx (dX (aF (ay mT (ae 2) (mC dW))) (dX (bK (cn (ag 1 eE (ac (ae 4) (af))))) (dG (aF (ay qk (ae 5) (mC (.str "-")))) (aF (ay mT (ae 5) (mC dW)))))) (aN (mC .non)) (aI)) (aN (bZ (ac (aA (aq mr) (ac (ae 2) (af))) (ac (ae 3) (ac (aA (aq mr) (ac (ae 4) (af))) (ac (nO (aF (ay iP (ae 5) (mC (.str "-")))) (mC .non) (aA (aq mr) (ac (ae 5) (af)))) (af))))))))))
theorem wY:fP=aU gW lc 1:=lY rfl
noncomputable def pN:MS:=
 aw (bx (bK (cn (db "str" (ae 0)))) (fT) (aI)) (aw (aE (cJ (ae 0) (ac (mC (.str ", ")) (af))) (gh (ai (ah 1) (ai (ah 2) (be))))) (aw (aE (aA (aq (fS .tup)) (ac (cJ (ae 1) (ac (mC (.str " ")) (af))) (af))) (ah 3)) (aw (aE (bZ (ac (ae 3) (ac (aA (aq (fS .tup)) (ac (bF (cf (ae 2)) (ah 0) (aG) (ag 1 fP (ac (ae 0) (af))) [U]) (af))) (af)))) (ah 4)) (aw (bx (dX (aF (ay Kb (aA (aq eN) (ac (ae 3) (af))) (mC gL))) (bK (cn (ag 2 iD (ac (aA (aq eN) (ac (ae 3) (af))) (ac (ae 4) (af))))))) (fT) (aI)) (aN (ae 4))))))
theorem xa:dA=aU gY pN 1:=lY rfl
noncomputable def pL:MS:=
 aw (aE (ae 0) (bg 4 (ai (ah 1) (ai (ah 2) (ai (ah 3) (ai (ah 4) (be))))))) (aw (aE (dm (ac (ae 1) (af))) (ah 5)) (aw (bx (aF (ay iP (ae 1) (mC (.str "passes")))) (cG (cT cX (ae 5) (ac (aA (aq ce) (ac (ae 3) (af))) (af)))) (aI)) (aw (bx (aF (ay qk (ae 2) (mC (.int 0)))) (cG (cT cX (ae 5) (ac (bq [mC (.str "most "),dY (ae 2)] Str.empty) (af)))) (aI)) (aw (bx (aF (ay iP (ae 4) (mC (.int 1)))) (cG (cT cX (ae 5) (ac (mC (.str "ups")) (af)))) (aI)) (aN (bL (mC (.str " ")) (ac (ae 5) (af))))))))
theorem wW:cy=aU gT pL 1:=lY rfl
noncomputable def jq:MS:=
 aw (aE (ae 0) (bg 4 (ai (ah 1) (ai (ah 2) (ai (ah 3) (ai (ah 4) (be))))))) (aw (aE (ay aY (ay aY (ae 1) (ay mq (mC (.str " ")) (aA (aq kN) (ac (ay iP (ae 1) (mC (.str "passes"))) (af))))) (ay mq (aA (aq ce) (ac (ae 3) (af))) (aA (aq kN) (ac (ay iP (ae 1) (mC (.str "passes"))) (af))))) (ah 5)) (aN (ay aY (ay aY (ae 5) (ay mq (ay aY (mC (.str " most ")) (aA (aq ce) (ac (ae 2) (af)))) (aA (aq kN) (ac (ay Kb (ae 2) (mC (.int 0))) (af))))) (ay mq (mC (.str " ups")) (ae 4)))))
theorem nG:bh=aU dq jq 1:=lY rfl
noncomputable def sf:MS:=
 aN (bL (mC (.str "\n")) (ac (bF (cf (ae 0)) (ah 0) (aG) (ag 1 cz (ac (ae 0) (af))) [U]) (af)))
theorem yV:fw=aU iQ sf 1:=lY rfl
noncomputable def kz:MS:=
 aw (aE (cr (cf (mC gk)) (ah 0) (aG) (gE (aL (ac (ay bH (mC dO) (mC (.int 1))) (af))) (ah 1) (aG) (gE (aL (ac (nO (aF (ay iP (ae 0) (mC (.str "passes")))) (ay bH (mC eQ) (mC (.int 1))) (mC (.int 1))) (af))) (ah 2) (aG) (gE (cf (bZ (ac (mC (.int 0)) (ac (mC (.int 1)) (af))))) (ah 3) (aG) (sx (bZ (ac (ae 0) (ac (ae 1) (ac (ae 2) (ac (ae 3) (af)))))))))) [U,U,U,U]) (ah 0)) (aN (dc (cf (ae 0)) (ah 0) (aG) (ag 1 cy (ac (ae 0) (af))) (ae 0) [U]))
theorem oT:dM=aU dP kz 0:=lY rfl
noncomputable def pM:MS:=
 aw (aE (nO (cn (db "str" (ae 0))) (cK og (ag 0 dM af) (ac (ae 0) (af))) (mC .non)) (ah 1)) (aw (bx (aF (ay Ka (ae 1) (mC .non))) (fT) (aI)) (aN (ae 1)))
theorem wZ:dw=aU gX pM 1:=lY rfl
noncomputable def NI:MS:=
 aw (gG (aL (ac (ay bH (mC (.int 2)) (aA (aq zY) (ac (mC (.int 8)) (ac (aA (aq eN) (ac (ae 0) (af))) (af))))) (af))) (ah 1) (aw (aE (ag 2 fR (ac (ae 0) (ac (ae 1) (af)))) (ah 2)) (aw (aE (bZ (ac (ag 1 cR (ac (ae 2) (af))) (ac (ay bH (mC (.int 1)) (ag 2 az (ac (ae 2) (ac (mC (.int 5)) (af))))) (af)))) (bg 2 (ai (ah 3) (ai (ah 4) (be))))) (aw (aE (ag 2 cS (ac (ae 2) (ac (ae 4) (af)))) (ah 5)) (aw (aE (aA (aq (fS .tup)) (ac (bF (aL (ac (ag 2 az (ac (ae 2) (ac (mC (.int 13)) (af)))) (af))) (ah 0) (aG) (ag 2 dB (ac (ae 1) (ac (ae 2) (af)))) [U,O 2,O 4]) (af))) (ah 6)) (aw (aE (bL (mC (.str "\n")) (ac (bF (cf (ae 6)) (ah 0) (aG) (ag 1 bV (ac (ae 0) (af))) [U]) (af))) (ah 7)) (aw (bx (dX (bK (cn (ag 2 bE (ac (ag 1 dw (ac (ag 1 bh (ac (ae 3) (af))) (af))) (ac (ae 3) (af)))))) (bK (cn (ag 2 bE (ac (ag 2 bD (ac (ae 4) (ac (ae 7) (af)))) (ac (ae 6) (af))))))) (aN (mC (.bl false))) (aI)) (aw (bx (bK (cn (ag 2 bE (ac (ag 1 dA (ac (ag 1 bi (ac (ae 5) (af))) (af))) (ac (ae 5) (af)))))) (aN (mC (.bl false))) (aI)) (aw (bx (dX (aF (ay qk (ag 1 cy (ac (ag 1 dw (ac (ag 1 bh (ac (ae 3) (af))) (af))) (af))) (ag 1 bh (ac (ae 3) (af))))) (aF (ay qk (ag 1 fw (ac (ag 2 bD (ac (ae 4) (ac (ae 7) (af)))) (af))) (ae 7)))) (aN (mC (.bl false))) (aI)) (bx (aF (ay qk (ag 1 fO (ac (ag 1 dA (ac (ag 1 bi (ac (ae 5) (af))) (af))) (af))) (ag 1 bi (ac (ae 5) (af))))) (aN (mC (.bl false))) (aI))))))))))) (aN (fe (ay iP (ag 2 bD (ac (mC (.int 3)) (ac (mC (.str "")) (af)))) (bZ (af))) (ay iP (ag 2 bD (ac (mC (.int 1)) (ac (mC (.str "tick")) (af)))) (bZ (ac (bZ (ac (mC (.str "tick")) (af))) (af))))))
theorem Qd:zX=aU Av NI 1:=lY rfl
end K48
end
section
namespace K48
open MI L2
open M hiding mC ae ay aF bU cn dG dX bK fe xp gO nO af ac bZ cU dm xm cZ eY cY aA db ag aI aw aN cG bx ah be ai bg ei aE aL cq gG bF cf aG cT gc ca jv jt eZ dD cK eg da cI dY bq bL cg sx gE cr dc cJ lf dZ gh gp
theorem fX:JY az:=λS r m h h0 h1=>by rw [xj];exact DU rfl h h0 h1
theorem left{S:aa}{ns:List Int}{k:Int}(h0:0<=k)(h1:k<=100000):∃ a b,fR [.rol (ns.map .int),.int k] S=O (.ref S.length,S++[.lst [.int a,.int b,.int 0]])/\0<=a/\0<=b/\b<2147483647:=by
 rw [xk]
 exact El (N:=hV) (cellAt:=eG) (far:=iN) rfl h0 h1 (λS k h=>by rw [qB];exact Ap (N:=eJ) rfl h) (λS=>by rw [yY];exact Iq (N:=iU) rfl)
theorem deed{S:aa}{r n:Nat}(P:Pk S r)(h1:1<=n)(h5:n<=5):∃ (dd:Dd) (S':aa),dB [.ref r,.int (n:Int)] S=O (dd.d,S')/\dd.Ok n/\Pk S' r/\Keep r S S':=by
 rw [xl];exact Jr fX (N:=hX) rfl P h1 (by omega)
noncomputable def iS(i:Int):Str:=Str.ofString (toString i)
noncomputable def jO(r:Rl):List Str:=[r.w.s]++(if r.w=.passes then [iS r.b] else [])++(if r.a=0 then [] else [Str.empty++"most "++iS r.a])++(if r.c=1 then [("ups":Str)] else [])
noncomputable def iG(r:Rl):Str:=Str.join " " (jO r)
theorem Gn(w:Rw):w.s.length<=7:=by cases w <;> decide +kernel
theorem kI{i:Int}(h0:0<=i)(h1:i<=1000):(iS i).length<=1002:=iZ (by omega) h1
theorem zB:(Str.ofString "most ").length=5/\(Str.ofString "ups").length=3/\(Str.ofString " most ").length=6/\(Str.ofString " ups").length=4/\(Str.ofString "\n").length=1/\(Str.ofString "").length=0/\(Str.ofString "tick").length=4:=by decide +kernel
theorem DY{r:Rl}(h:r.Ok):((jO r).map (·.length)).sum+(jO r).length * (Str.ofString " ").length<=10000:=by
 obtain⟨b1,b2,b3,b4⟩:=fx
 obtain⟨c1,c2,c3,c4,c5,c6,c7⟩:=zB
 have h1:=Gn r.w
 have h2:=kI (i:=r.b) h.b0 (by have:=h.b9;omega)
 have h3:=kI (i:=r.a) h.a0 (by have:=h.a5;omega)
 unfold jO
 rw [b1]
 by_cases p:r.w=.passes <;> by_cases q:r.a=0 <;> by_cases u:r.c=1 <;> simp only [p,q,u,VC,UL,Tx,List.cons_append,Vq,Ta,VN,WO,List.sum_nil,SY,Uk,dH] <;> (try rw [p] at h1) <;> omega
theorem Nm{xs:List Str}{y:Str}:xs.map D.str++[.str y]=(xs++[y]).map D.str:=by rw [UG];rfl
noncomputable def rt1:MS:=bx (aF (ay iP (ae 1) (mC (.str "passes")))) (cG (cT cX (ae 5) (ac (aA (aq ce) (ac (ae 3) (af))) (af)))) (aI)
noncomputable def rt2:MS:=bx (aF (ay qk (ae 2) (mC (.int 0)))) (cG (cT cX (ae 5) (ac (bq [mC (.str "most "),dY (ae 2)] Str.empty) (af)))) (aI)
noncomputable def rt3:MS:=bx (aF (ay iP (ae 4) (mC (.int 1)))) (cG (cT cX (ae 5) (ac (mC (.str "ups")) (af)))) (aI)
section
variable{S:aa}{r:Rl}{xs:List Str}
theorem Sy{y:Str}(hx:xs.length<10):cX (.ref S.length) [.str y] (S++[.lst (xs.map .str)])=O (.non,S++[.lst ((xs++[y]).map .str)]):=by rw [vC ye (by rw [SX];omega),Nl,Nm]
theorem He{f:MF}{ms:MA}{env:av}:sG f ms env (.ref S.length,S++[.lst (xs.map .str)])=(ms env (S++[.lst (xs.map .str)])).bind (ie f (.ref S.length)):=xA ye
noncomputable def iW(r:Rl)(S:aa):av:=[O r.d,O (.str r.w.s),O (.int r.a),O (.int r.b),O (.int r.c),O (.ref S.length)]
theorem OV(h:r.Ok)(hx:xs.length<10):rt1 (iW r S) (S++[.lst (xs.map .str)])=O (.nx (iW r S) (S++[.lst ((xs++if r.w=.passes then [iS r.b] else []).map .str)])):=by
 have b0:=h.b0
 have b9:=h.b9
 have w1:(r.w.s == ("passes":Str))=decide (r.w=.passes):=Rw.eq r.w .passes
 have sb:∀ T,aq ce [.int r.b] T=O (.str (iS r.b),T):=λT=>iu (by omega) (by omega)
 by_cases p:r.w=.passes
 ·have w2:(r.w.s == ("passes":Str))=true:=by rw [w1,p];rfl
  simp only [rt1,iW,bM,bw,bb,ar,df,eW,eV,oj,ob,ao,aK,bG,aJ,gH,w2,bz,iK,nP,nN,He,au,bS,ak,ax,aj,bT,sb,dJ,Sy hx,nV,Td p]
 ·simp only [rt1,iW,bM,bw,bb,ar,df,eW,eV,oj,ob,ao,aK,bG,aJ,gH,w1,p,decide_false,bz,cj,bI,UL,Tx]
theorem OU(h:r.Ok)(hx:xs.length<10):rt2 (iW r S) (S++[.lst (xs.map .str)])=O (.nx (iW r S) (S++[.lst ((xs++if r.a=0 then [] else [Str.empty++"most "++iS r.a]).map .str)])):=by
 have a0:=h.a0
 have a5:=h.a5
 have ka:∀ T,qD (.int r.a,T)=O (.str (iS r.a),T):=λT=>sJ (by omega) (by omega)
 obtain⟨b1,b2,b3,b4⟩:=fx
 obtain⟨c1,c2,c3,c4,c5,c6,c7⟩:=zB
 have h3:=kI (i:=r.a) a0 (by omega)
 have jl:∀ T,bq [mC (.str "most "),dY (ae 2)] Str.empty (iW r S) T=O (.str (Str.empty++"most "++iS r.a),T):=λT=>by
  rw [bp,bG,ob,zG (by simp only [dH];omega),bp,jT,show ae 2 (iW r S) T=O (.int r.a,T) by simp [iW],ob,ka,ob,zG (by simp only [dH];omega),jS]
 have v2:∀ T,ae 2 (iW r S) T=O (.int r.a,T):=λT=>by simp [iW]
 have v5:∀ T,ae 5 (iW r S) T=O (.ref S.length,T):=λT=>by simp [iW]
 by_cases p:r.a=0
 ·simp only [rt2,bM,bw,bb,v2,ob,aK,bG,aJ,xL,p,Up,TF,ao,bz,cj,bI,VC,Tx]
 ·have pb:(r.a == 0)=false:=by simpa using p
  simp only [rt2,bM,bw,bb,v2,ob,aK,bG,aJ,xL,pb,Ve,ao,bz,iK,nP,nN,v5,He,au,jl,ak,ax,aj,dJ,Sy hx,nV,p,UL]
theorem OT(hx:xs.length<10):rt3 (iW r S) (S++[.lst (xs.map .str)])=O (.nx (iW r S) (S++[.lst ((xs++if r.c=1 then [("ups":Str)] else []).map .str)])):=by
 have v4:∀ T,ae 4 (iW r S) T=O (.int r.c,T):=λT=>by simp [iW]
 have v5:∀ T,ae 5 (iW r S) T=O (.ref S.length,T):=λT=>by simp [iW]
 by_cases p:r.c=1
 ·simp only [rt3,bM,bw,bb,v4,ob,aK,bG,aJ,mU,p,Up,ao,bz,iK,nP,nN,v5,He,au,ak,ax,aj,dJ,Sy hx,nV,VC]
 ·have pb:(r.c == 1)=false:=by simpa using p
  simp only [rt3,bM,bw,bb,v4,ob,aK,bG,aJ,mU,pb,ao,bz,cj,bI,p,UL,Tx]
theorem rH(S:aa){r:Rl}(h:r.Ok):∃ T,cy [r.d] S=O (.str (iG r),S++T):=by
 rw [wW,aV (show [r.d].length=1 from rfl),show aM gT [r.d]=[O r.d,U,U,U,U,U] from rfl]
 have hm:pL=aw (aE (ae 0) (bg 4 (ai (ah 1) (ai (ah 2) (ai (ah 3) (ai (ah 4) (be))))))) (aw (aE (dm (ac (ae 1) (af))) (ah 5)) (aw rt1 (aw rt2 (aw rt3 (aN (bL (mC (.str " ")) (ac (ae 5) (af)))))))):=rfl
 rw [hm]
 have tg:∀ env,bg 4 (ai (ah 1) (ai (ah 2) (ai (ah 3) (ai (ah 4) (be))))) r.d env S=(ai (ah 1) (ai (ah 2) (ai (ah 3) (ai (ah 4) (be))))) [.str r.w.s,.int r.a,.int r.b,.int r.c] env S:=λenv=>nZ
 have l1:zF ([.str r.w.s],S)=O (.ref S.length,S++[.lst ([r.w.s].map .str)]):=sH (by simp)
 have e1:=OV (S:=S) (xs:=[r.w.s]) h (by simp)
 have e2:=OU (S:=S) (xs:=[r.w.s]++if r.w=.passes then [iS r.b] else []) h (by split <;> simp)
 have e3:=OT (S:=S) (r:=r) (xs:=([r.w.s]++if r.w=.passes then [iS r.b] else [])++if r.a=0 then [] else [Str.empty++"most "++iS r.a]) (by split <;> split <;> simp)
 have fj:ja (.str " ") [.ref S.length] (S++[Cell.lst ((jO r).map .str)])=O (.str (iG r),S++[Cell.lst ((jO r).map .str)]):=
  jD (by simp only [fV,ye]) (Th (DY h) (by decide))
 refine⟨[.lst ((jO r).map .str)],?_⟩
 simp only [bC,ci,ar,df,eW,eV,oj,ob,ao,cm,tg,dL,aT,kH,fo,mf,pg,dI,aX,CH,au,ak,ax,aj,l1]
 show ((((rt1 (iW r S) _).bind _).bind GU))=_
 rw [e1,ob,aX,bC,e2,ob,aX,bC,e3,ob,aX]
 have v5:∀ T,ae 5 (iW r S) T=O (.ref S.length,T):=λT=>by simp [iW]
 simp only [bo,ju,bG,ob,vg,au,v5,ak,ax,aj,dJ]
 change ((ja (.str " ") [.ref S.length] (S++[Cell.lst ((jO r).map .str)])).bind _).bind _=_
 rw [fj,ob,bQ,ob,aP]
end
noncomputable def nT(r:Rl):Str:=r.w.s++(if r.w=.passes then (" ":Str) else Str.empty)++(if r.w=.passes then iS r.b else Str.empty)++(if 0<r.a then (" most ":Str)++iS r.a else Str.empty)++(if r.c=1 then (" ups":Str) else Str.empty)
theorem glue:(Str.ofString " "++Str.ofString "most ")=Str.ofString " most "/\(Str.ofString " "++Str.ofString "ups")=Str.ofString " ups":=by decide +kernel
theorem yE{r:Rl}(h:r.Ok):iG r=nT r:=by
 have a0:=h.a0
 have g1:∀ z:Str,Str.ofString " "++(Str.ofString "most "++z)=Str.ofString " most "++z:=λz=>by rw [<- US,glue.1]
 unfold iG nT jO
 by_cases p:r.w=.passes <;> by_cases q:r.a=0 <;> by_cases u:r.c=1
 all_goals
  first | rw [Ts (show ¬ 0<r.a by omega)] | rw [Td (show 0<r.a by omega)]
  simp only [p,q,u,VC,UL,ne_eq,not_true_eq_false,not_false_eq_true,Tx,List.cons_append,Vq,jw,Ul,List.foldl_nil,Vh,Wn,US,g1,glue.2]
theorem jg(S:aa){r:Rl}(h:r.Ok):bh [r.d] S=O (.str (nT r),S):=by
 rw [nG,aV (show [r.d].length=1 from rfl),show aM dq [r.d]=[O r.d,U,U,U,U,U] from rfl]
 have a0:=h.a0
 have a5:=h.a5
 have b0:=h.b0
 have b9:=h.b9
 have c0:=h.c0
 have c1':=h.c1
 have tg:∀ env,bg 4 (ai (ah 1) (ai (ah 2) (ai (ah 3) (ai (ah 4) (be))))) r.d env S=(ai (ah 1) (ai (ah 2) (ai (ah 3) (ai (ah 4) (be))))) [.str r.w.s,.int r.a,.int r.b,.int r.c] env S:=λenv=>nZ
 obtain⟨b1,b2,b3,b4⟩:=fx
 obtain⟨c1,c2,c3,c4,c5,c6,c7⟩:=zB
 have h1:=Gn r.w
 have h2:=kI (i:=r.b) b0 (by omega)
 have h3:=kI (i:=r.a) a0 (by omega)
 have w1:(r.w.s == ("passes":Str))=decide (r.w=.passes):=Rw.eq r.w .passes
 have sb:∀ T,aq ce [.int r.b] T=O (.str (iS r.b),T):=λT=>iu (by omega) (by omega)
 have sa:∀ T,aq ce [.int r.a] T=O (.str (iS r.a),T):=λT=>iu (by omega) (by omega)
 have mu:∀ (x:Str) (b:Bool),x.length<=1000000->mq S (.str x) (.int (if b=true then 1 else 0))=O (.str (if b=true then x else Str.empty)):=λx b hx=>by cases b;exact LW hx;exact LV hx
 have ad:∀ x y:Str,x.length+y.length<=1000000->aY S (.str x) (.str y)=O (.str (x++y)):=λx y hx=>eO hx
 have cb:(.int r.c:D)=.int (if decide (r.c=1)=true then 1 else 0):=by
  by_cases u:r.c=1
  ·simp [u]
  ·have:r.c=0:=by omega
   simp [this]
 have m1:=mu " " (decide (r.w=.passes)) (by omega)
 have m2:=mu (iS r.b) (decide (r.w=.passes)) (by omega)
 have m3:=mu (" most "++iS r.a) (decide (0<r.a)) (by simp only [dH];omega)
 have m4:=mu " ups" (decide (r.c=1)) (by omega)
 have q1:(if decide (r.w=.passes)=true then (" ":Str) else Str.empty).length<=1:=by split <;> omega
 have q2:(if decide (r.w=.passes)=true then iS r.b else Str.empty).length<=1002:=by split <;> omega
 have q3:(if decide (0<r.a)=true then (" most ":Str)++iS r.a else Str.empty).length<=1008:=by split <;> (try simp only [dH]) <;> omega
 have q4:(if decide (r.c=1)=true then (" ups":Str) else Str.empty).length<=4:=by split <;> omega
 have d1:=ad r.w.s _ (show r.w.s.length+(if decide (r.w=.passes)=true then (" ":Str) else Str.empty).length<=1000000 by omega)
 have d2:=ad (r.w.s++(if decide (r.w=.passes)=true then (" ":Str) else Str.empty)) (if decide (r.w=.passes)=true then iS r.b else Str.empty) (by simp only [dH];omega)
 have d3:=ad " most " (iS r.a) (by omega)
 have d4:=ad (r.w.s++(if decide (r.w=.passes)=true then (" ":Str) else Str.empty)++(if decide (r.w=.passes)=true then iS r.b else Str.empty)) (if decide (0<r.a)=true then (" most ":Str)++iS r.a else Str.empty) (by simp only [dH];omega)
 have d5:=ad (r.w.s++(if decide (r.w=.passes)=true then (" ":Str) else Str.empty)++(if decide (r.w=.passes)=true then iS r.b else Str.empty)++(if decide (0<r.a)=true then (" most ":Str)++iS r.a else Str.empty)) (if decide (r.c=1)=true then (" ups":Str) else Str.empty) (by simp only [dH];omega)
 rw [cb] at tg
 simp only [jq,bC,ci,ar,df,eW,eV,oj,ob,ao,cm,tg,dL,aT,kH,fo,mf,pg,dI,aX,bb,bG,aK,bS,au,aJ,gH,w1,ak,ax,aj,bT,Ma,m1,d1,sb,m2,d2,bo,sa,d3,Di,m3,d4,m4,d5,bQ,aP]
 unfold nT
 simp only [TU]
noncomputable def OP(b:Bool):Str:=if b then "writes" else "reads"
noncomputable def OQ:Ak->Str
 | .up=>"up"
 | .down=>"down"
 | .leave=>"leaves"
 | .stop=>"stops"
noncomputable def iY:Option Int->Str
 | none=>Str.empty
 | some t=>(" ":Str)++iS t
noncomputable def aW:Dd->Str
 | .ask wr g t=>iS (g:Int)++" "++OP wr++iY t
 | .act k g=>iS (g:Int)++" "++OQ k
 | .tick=>"tick"
theorem ixW{S:aa}{b:Bool}:pj cu (.str (aS b),S)=O (.str (OP b),S):=by
 cases b <;> simp (decide:=true) [pj,eD,dC,cu,aS,OP]
theorem ixA{S:aa}{k:Ak}:pj cu (.str k.s,S)=O (.str (OQ k),S):=by
 cases k <;> simp (decide:=true) [pj,eD,dC,cu,Ak.s,OQ]
theorem nh(b:Bool):(OP b).length<=6:=by cases b <;> decide +kernel
theorem wf(k:Ak):(OQ k).length<=6:=by cases k <;> decide +kernel
theorem nW(b:Bool):(aS b == ("tick":Str))=false:=by cases b <;> decide +kernel
theorem nA(k:Ak):(k.s == ("tick":Str))=false:=by cases k <;> decide +kernel
section
variable{S:aa}{d:D}{g:Nat}{w sh:Str}
noncomputable def OC:ME:=bq [dY (ay aQ (ae 0) (mC (.int 1))),mC (.str " "),dY (cI cu (ay aQ (ae 0) (mC (.int 0))))] Str.empty
theorem OD{a1:Option D}(x0:aQ S d (.int 0)=O (.str w))(x1:aQ S d (.int 1)=O (.int (g:Int)))(hg:g<=9)(ix:pj cu (.str w,S)=O (.str sh,S))(hs:sh.length<=6):OC [O d,a1] S=O (.str (iS (g:Int)++" "++sh),S):=by
 obtain⟨b1,b2,b3,b4⟩:=fx
 have h1:=kI (i:=(g:Int)) (by omega) (by omega)
 have k1:qD (.int (g:Int),S)=O (.str (iS (g:Int)),S):=sJ (by omega) (by omega)
 have k2:qD (.str sh,S)=O (.str sh,S):=xG (by omega)
 have j:∀ (r:List ME) (out y:Str) env,(out++y).length<=1000000->kJL r out env (.str y,S)=bq r (out++y) env S:=λr out y env h=>zG h
 unfold OC
 rw [bp,jT]
 simp only [bb,ar,df,eW,eV,oj,ob,ao,aK,bG,aJ,x1,k1]
 rw [j _ _ _ _ (by simp only [dH];omega),bp,bG,ob,j _ _ _ _ (by simp only [dH];omega),bp,jT]
 simp only [Hk,bb,ar,df,eW,eV,oj,ob,ao,aK,bG,aJ,x0,ix,k2]
 rw [j _ _ _ _ (by simp only [dH];omega),jS,Vh]
theorem txt2{t:Int}{x:Str}(hx:x.length<=5000)(x2:aQ S d (.int 2)=O (.int t))(t0:0<=t)(t9:t<=9):bq [dY (ae 1),mC (.str " "),dY (ay aQ (ae 0) (mC (.int 2)))] Str.empty [O d,O (.str x)] S=O (.str (x++iY (O t)),S):=by
 obtain⟨b1,b2,b3,b4⟩:=fx
 have h1:=kI (i:=t) (by omega) (by omega)
 have k1:qD (.int t,S)=O (.str (iS t),S):=sJ (by omega) (by omega)
 have k2:qD (.str x,S)=O (.str x,S):=xG (by omega)
 have j:∀ (r:List ME) (out y:Str) env,(out++y).length<=1000000->kJL r out env (.str y,S)=bq r (out++y) env S:=λr out y env h=>zG h
 rw [bp,jT]
 simp only [ar,df,eW,eV,oj,ob,ao,k2]
 rw [j _ _ _ _ (by simp only [dH];omega),bp,bG,ob,j _ _ _ _ (by simp only [dH];omega),bp,jT]
 simp only [bb,ar,df,eW,eV,oj,ob,ao,aK,bG,aJ,x2,k1]
 rw [j _ _ _ _ (by simp only [dH];omega),jS,Vh,US]
 rfl
end
theorem tU{g:Nat}{sh:Str}(hg:g<=9)(hs:sh.length<=6):(iS (g:Int)++" "++sh).length<=1009:=by
 obtain⟨b1,b2,b3,b4⟩:=fx
 have h1:=kI (i:=(g:Int)) (by omega) (by omega)
 simp only [dH];omega
theorem tO(S:aa){n:Nat}{dd:Dd}(h:dd.Ok n)(hn:n<=9):cz [dd.d] S=O (.str (aW dd),S):=by
 rw [xg,aV (show [dd.d].length=1 from rfl),show aM hJ [dd.d]=[O dd.d,U] from rfl]
 have hm:pP=aw (bx (aF (ay iP (ay aQ (ae 0) (mC (.int 0))) (mC (.str "tick")))) (aN (mC (.str "tick"))) (aI)) (aw (aE OC (ah 1)) (aw (bx (dG (aF (ay iP (aA (aq eN) (ac (ae 0) (af))) (mC (.int 3)))) (aF (ay ig (ay aQ (ae 0) (mC (.int 2))) (mC .non)))) (aN (bq [dY (ae 1),mC (.str " "),dY (ay aQ (ae 0) (mC (.int 2)))] Str.empty)) (aI)) (aN (ae 1)))):=rfl
 rw [hm]
 cases dd with
 | tick=>
  have x0:aQ S Dd.tick.d (.int 0)=O (.str "tick"):=rfl
  simp only [bC,bM,bw,bb,ar,df,eW,eV,oj,ob,ao,aK,bG,aJ,x0,gH,Up,bz,iK,bo,bQ,jV,aP]
  rfl
 | act k g=>
  have hg:g<n:=h
  have x0:aQ S (Dd.act k g).d (.int 0)=O (.str k.s):=rfl
  have x1:aQ S (Dd.act k g).d (.int 1)=O (.int (g:Int)):=rfl
  have ln:aq eN [(Dd.act k g).d] S=O (.int 2,S):=rfl
  have n3:((2:Int) == 3)=false:=rfl
  simp only [bC,bM,bw,bb,ar,df,eW,eV,oj,ob,ao,aK,bG,aJ,x0,gH,nA k,bz,cj,bI,aX,ci,OD x0 x1 (show g<=9 by omega) ixA (wf k),cm,aT,mf,pg,dI,nR,bS,au,ak,ax,aj,bT,ln,mU,n3,Da,bo,bQ,aP]
  rfl
 | ask wr g t=>
  obtain⟨hg,ht⟩:g<n/\kw t:=h
  have x0:aQ S (Dd.ask wr g t).d (.int 0)=O (.str (aS wr)):=rfl
  have x1:aQ S (Dd.ask wr g t).d (.int 1)=O (.int (g:Int)):=rfl
  have x2:aQ S (Dd.ask wr g t).d (.int 2)=O (bA t):=rfl
  have ln:aq eN [(Dd.ask wr g t).d] S=O (.int 3,S):=rfl
  cases t with
  | none=>
   have i2:(!qE (bA U) .non)=false:=rfl
   simp only [bC,bM,bw,bb,ar,df,eW,eV,oj,ob,ao,aK,bG,aJ,x0,gH,nW wr,bz,cj,bI,aX,ci,OD x0 x1 (show g<=9 by omega) ixW (nh wr),cm,aT,mf,pg,dI,nR,bS,au,ak,ax,aj,bT,ln,mU,Up,xH,x2,sZ,i2,bo,bQ,aP]
   show O (D.str _,S)=O (D.str (_++Str.empty),S)
   rw [Wn]
  | some t=>
   have i2:(!qE (bA (O t)) .non)=true:=rfl
   obtain⟨t0,t9⟩:=ht t rfl
   simp only [bC,bM,bw,bb,ar,df,eW,eV,oj,ob,ao,aK,bG,aJ,x0,gH,nW wr,bz,cj,bI,aX,ci,OD x0 x1 (show g<=9 by omega) ixW (nh wr),cm,aT,mf,pg,dI,nR,bS,au,ak,ax,aj,bT,ln,mU,Up,xH,x2,sZ,i2,iK,bo,txt2 (Th (tU (show g<=9 by omega) (nh wr)) (by decide)) x2 t0 t9,bQ,jV,aP]
   rfl
noncomputable def lwL:List (ba×D):=[(.inr "read",.str "reads"),(.inr "write",.str "writes"),(.inr "leave",.str "leaves"),(.inr "stop",.str "stops")]
theorem vW{b:Bool}:(dC lwL (.inr (aS b))).getD (.str (aS b))=.str (OP b):=by
 cases b <;> simp (decide:=true) [dC,lwL,aS,OP]
theorem vA{k:Ak}:(dC lwL (.inr k.s)).getD (.str k.s)=.str (OQ k):=by
 cases k <;> simp (decide:=true) [dC,lwL,Ak.s,OQ]
section
variable{S:aa}{d:D}{g:Nat}{w sh:Str}
noncomputable def ldM:MS:=aw (aE (eZ [(mC (.str "read"),mC (.str "reads")),(mC (.str "write"),mC (.str "writes")),(mC (.str "leave"),mC (.str "leaves")),(mC (.str "stop"),mC (.str "stops"))]) (ah 1)) (aw (aE (ay aY (ay aY (aA (aq ce) (ac (ay aQ (ae 0) (mC (.int 1))) (af))) (mC (.str " "))) (cK og (ae 1) (ac (ay aQ (ae 0) (mC (.int 0))) (ac (ay aQ (ae 0) (mC (.int 0))) (af))))) (ah 2)) (aN (ay aY (ae 2) (bL (mC (.str "")) (ac (bF (cf (cY (ae 0) (eY (mC (.int 2))) (cZ))) (ah 0) (aF (ay ig (ae 0) (mC .non))) (ay aY (mC (.str " ")) (aA (aq ce) (ac (ae 0) (af)))) [U]) (af))))))
theorem NK{ds:List D}{ts:List (Option Int)}{a1 a2:Option D}(hd:d=.tup ds)(hc:lT ds (O 2) U=ts.map bA)(x0:aQ S d (.int 0)=O (.str w))(x1:aQ S d (.int 1)=O (.int (g:Int)))(hg:g<=9)(hv:(dC lwL (.inr w)).getD (.str w)=.str sh)(hs:sh.length<=6)(hl:ts.length<=1)(ht:∀ t∈ts,kw t) :
  (ldM [O d,a1,a2] S).bind GU=O (.str (iS (g:Int)++" "++sh++Str.join "" ((ts.filter (·.isSome)).map iY)),S):=by
 obtain⟨b1,b2,b3,b4⟩:=fx
 have h1:=kI (i:=(g:Int)) (by omega) (by omega)
 have kd:vi ([(.inr "read",.str "reads"),(.inr "write",.str "writes"),(.inr "leave",.str "leaves"),(.inr "stop",.str "stops")],S)=O (.dct (lwL.map (·.1)) (lwL.map (·.2)),S):=HI (l:=lwL) (show [(Sum.inr "read":ba),.inr "write",.inr "leave",.inr "stop"].Nodup by decide +kernel) (by show 4<=15;decide)
 have gd:og (.dct (lwL.map (·.1)) (lwL.map (·.2))) [.str w,.str w] S=O (.str sh,S):=by rw [Mb (k:=.inr w) rfl,hv]
 have s1:aq ce [.int (g:Int)] S=O (.str (iS (g:Int)),S):=iu (by omega) (by omega)
 have a1:aY S (.str (iS (g:Int))) (.str " ")=O (.str (iS (g:Int)++" ")):=eO (by omega)
 have a2:aY S (.str (iS (g:Int)++" ")) (.str sh)=O (.str (iS (g:Int)++" "++sh)):=eO (by simp only [dH];omega)
 have kc:=λenv=>iJ (S:=S) (t:=aF (ay ig (ae 0) (mC .non))) (e:=ay aY (mC (.str " ")) (aA (aq ce) (ac (ae 0) (af)))) (cap:=[U]) (env:=env) (rest:=[]) (a:=U) (enc:=bA) (p:=λt=>t.isSome) (f:=λt=>.str (iY t)) (xs:=ts) rfl (by omega) (λt _=>by
  have:(!qE (bA t) .non)=t.isSome:=by cases t <;> rfl
  simp only [bw,bb,ar,df,oj,ob,ao,aK,bG,aJ,sZ,this,bz]) (λt hm hp=>by
  cases t with
  | none=>cases hp
  | some k=>
   obtain⟨k0,k9⟩:=ht _ hm k rfl
   have h2:=kI (i:=k) (by omega) (by omega)
   have s2:aq ce [bA (O k)] S=O (.str (iS k),S):=iu (by omega) (by omega)
   have a3:aY S (.str " ") (.str (iS k))=O (.str (" "++iS k)):=eO (by omega)
   simp only [bb,bG,ob,aK,bS,au,ar,df,oj,ao,ak,ax,aj,bT,s2,aJ,a3]
   rfl)
 have few:(((ts.filter (·.isSome)).map iY).map (·.length)).sum+((ts.filter (·.isSome)).map iY).length * (Str.ofString "").length<=2000:=by
  rw [zB.2.2.2.2.2.1,TJ,Nat.mul_zero]
  refine Th (mD ((·.length) ∘ iY) 1003 _ λt hm=>?_) ?_
  ·have hm:=(Uj.mp hm).1
   cases t with
   | none=>show Str.empty.length<=_;omega
   | some k=>
    obtain⟨k0,k9⟩:=ht _ hm k rfl
    have h2:=kI (i:=k) (by omega) (by omega)
    show ((" ":Str)++iS k).length<=_
    simp only [dH];omega
  ·have:=VO (·.isSome) ts
   have:(ts.filter (·.isSome)).length * 1003<=1 * 1003:=Nat.mul_le_mul (by omega) (SS _)
   omega
 have jn:ja (.str "") [.lst ((ts.filter (·.isSome)).map λt=>.str (iY t))] S=O (.str (Str.join "" ((ts.filter (·.isSome)).map iY)),S):=jD (by show O _=_;rw [TJ];rfl) (Th few (by decide))
 have jl:=Th (lL "" ((ts.filter (·.isSome)).map iY)) few
 have a4:aY S (.str (iS (g:Int)++" "++sh)) (.str (Str.join "" ((ts.filter (·.isSome)).map iY)))=O (.str (iS (g:Int)++" "++sh++Str.join "" ((ts.filter (·.isSome)).map iY))):=eO (by simp only [dH];omega)
 have sl:Er d (O 2) (U,S)=O (.tup (ts.map bA),S):=by rw [hd,Qp,hc]
 simp only [ldM,bC,ci,LB,zi,bG,ob,Qw,Qv,Bq,Qt,kd,cm,aT,mf,pg,dI,aX,bb,bS,au,ar,df,eW,eV,oj,ao,aK,aJ,x1,ak,ax,aj,bT,s1,a1,zm,zE,x0,dJ,gd,a2,bo,ju,vg,ge,gD,Hl,Qs,LA,LF,Qq,Hm,sl,xD,kc,jn,a4,bQ,aP]
end
theorem join1(s x:Str):Str.join s [x]=x:=jw s [] x
theorem uf(S:aa){n:Nat}{dd:Dd}(h:dd.Ok n)(hn:n<=9):bV [dd.d] S=O (.str (aW dd),S):=by
 rw [nI,aV (show [dd.d].length=1 from rfl),show aM du [dd.d]=[O dd.d,U,U] from rfl]
 have hm:js=aw (bx (aF (ay iP (ae 0) (bZ (ac (mC (.str "tick")) (af))))) (aN (mC (.str "tick"))) (aI)) ldM:=rfl
 rw [hm]
 have t1:∀ a:D,kP ([a],S)=O (.tup [a],S):=λa=>cW (by simp)
 have go:BA dd=false->((aw (bx (aF (ay iP (ae 0) (bZ (ac (mC (.str "tick")) (af))))) (aN (mC (.str "tick"))) (aI)) ldM) [O dd.d,U,U] S)=ldM [O dd.d,U,U] S:=λht=>by
  simp only [bC,bM,bw,bb,ar,df,eW,eV,oj,ob,ao,aK,fY,au,bG,ak,ax,aj,t1,aJ,Dd.tick_ne,ht,bz,cj,bI,aX]
 cases dd with
 | tick=>
  have e:=Dd.tick_ne (S:=S) (dd:=.tick)
  simp only [bC,bM,bw,bb,ar,df,eW,eV,oj,ob,ao,aK,fY,au,bG,ak,ax,aj,t1,aJ,e,BA,bz,iK,bo,bQ,jV,aP]
  rfl
 | act k g=>
  have hg:g<n:=h
  rw [go rfl,NK (d:=(Dd.act k g).d) (ts:=[]) (g:=g) (sh:=OQ k) rfl rfl rfl rfl (by omega) vA (wf k) (by decide) (λt h=>by cases h)]
  show O (D.str (_++Str.empty),S)=_
  rw [Wn];rfl
 | ask wr g t=>
  obtain⟨hg,ht⟩:g<n/\kw t:=h
  rw [go rfl,NK (d:=(Dd.ask wr g t).d) (ts:=[t]) (g:=g) (sh:=OP wr) rfl rfl rfl rfl (by omega) vW (nh wr) (SS 1) (λu h=>by rw [Tg.mp h];exact ht)]
  cases t with
  | none=>rfl
  | some t=>
   show O (D.str (_++Str.join "" [iY (O t)]),S)=_
   rw [join1];rfl
theorem pE{n:Nat}{dd:Dd}(h:dd.Ok n)(hn:n<=9):(aW dd).length<=3000:=by
 obtain⟨b1,b2,b3,b4⟩:=fx
 cases dd with
 | tick=>show (Str.ofString "tick").length<=_;have:=zB.2.2.2.2.2.2;omega
 | act k g=>have hg:g<n:=h;exact Th (tU (by omega) (wf k)) (by decide)
 | ask wr g t=>
  obtain⟨hg,ht⟩:g<n/\kw t:=h
  have h1:=tU (g:=g) (by omega) (nh wr)
  show (_++iY t).length<=_
  rw [dH]
  cases t with
  | none=>show _+Str.empty.length<=_;omega
  | some t=>
   obtain⟨t0,t9⟩:=ht t rfl
   have h2:=kI (i:=t) (by omega) (by omega)
   show _+((" ":Str)++iS t).length<=_
   simp only [dH] at h1 ⊢;omega
theorem at_w6{q:Int}(h0:0<=q)(h1:q<6):∃ w:Rw,lD [D.str "rows",D.str "readers",D.str "writers",D.str "turns",D.str "passes",D.str "passes"] q=O (.str w.s):=by
 obtain rfl | rfl | rfl | rfl | rfl | rfl:q=0\/q=1\/q=2\/q=3\/q=4\/q=5:=by omega
 ·exact⟨.rows,rfl⟩
 ·exact⟨.readers,rfl⟩
 ·exact⟨.writers,rfl⟩
 ·exact⟨.turns,rfl⟩
 ·exact⟨.passes,rfl⟩
 ·exact⟨.passes,rfl⟩
theorem Nn{S:aa}{r:Nat}(P:Pk S r):∃ (rl:Rl) (S':aa),cR [.ref r] S=O (rl.d,S')/\rl.Ok/\(rl.w≠.passes->rl.b=0)/\Pk S' r:=by
 rw [oV,aV (show [D.ref r].length=1 from rfl),show aM dR [D.ref r]=[O (.ref r),U,U,U] from rfl]
 obtain⟨q1,S1,e1,l1,g1,P1,K1⟩:=fX _ _ 6 P (by decide) (by decide)
 obtain⟨q2,S2,e2,l2,g2,P2,K2⟩:=fX _ _ 6 P1 (by decide) (by decide)
 obtain⟨q3,S3,e3,l3,g3,P3,K3⟩:=fX _ _ 10 P2 (by decide) (by decide)
 obtain⟨q4,S4,e4,l4,g4,P4,K4⟩:=fX _ _ 2 P3 (by decide) (by decide)
 obtain⟨w,i1⟩:=at_w6 l1 g1
 have k1:∀ S,mO ([D.str "rows",D.str "readers",D.str "writers",D.str "turns",D.str "passes",D.str "passes"],S)=O (.lst [D.str "rows",D.str "readers",D.str "writers",D.str "turns",D.str "passes",D.str "passes"],S):=λS=>eh (by simp)
 have k4:∀ S (a b c d:D),kP ([a,b,c,d],S)=O (.tup [a,b,c,d],S):=λS a b c d=>cW (by simp)
 have m1:∀ S (z:Bool),dN S (.int q3) (.int (if z=true then 1 else 0))=O (.int (q3 * (if z=true then 1 else 0))):=λS z=>jh (rW (by omega) (by omega))
 refine⟨⟨w,q2,q3 * (if (w.s == ("passes":Str))=true then 1 else 0),q4⟩,S4,?_,⟨l2,show q2<=5 by omega,show 0<=q3 * _ by split <;> omega,show q3 * _<=9 by split <;> omega,l4,show q4<=1 by omega⟩,λhw=>?_,P4⟩
 rotate_left
 ·have hw':(w.s == ("passes":Str))=false:=(Rw.eq w .passes).trans (Tw hw)
  show q3 * (if (w.s == ("passes":Str))=true then 1 else 0)=0
  rw [hw',Ts SZ,Int.mul_zero]
 simp [-beq_iff_eq,kD,k1,k4,e1,e2,e3,e4,i1,m1]
 rfl
theorem DN(S:aa){n:Nat}{l:List Dd}(h:∀ dd∈l,dd.Ok n)(hn:n<=9)(hl:l.length<=20):fw [.tup (l.map Dd.d)] S=O (.str (Str.join "\n" (l.map aW)),S):=by
 rw [yV,aV (show [D.tup (l.map Dd.d)].length=1 from rfl),show aM iQ [D.tup (l.map Dd.d)]=[O (.tup (l.map Dd.d))] from rfl]
 have kc:=iJ (S:=S) (t:=aG) (e:=ag 1 cz (ac (ae 0) (af))) (cap:=[U]) (env:=[O (.tup (l.map Dd.d))]) (rest:=[]) (a:=U) (enc:=Dd.d) (p:=λ_=>true) (f:=λdd=>.str (aW dd)) (xs:=l) rfl (by omega) (λ_ _=>ee) (λdd hm _=>by
  simp only [aO,au,ar,df,oj,ob,ao,ak,ax,aj,cE,tO S (h dd hm) hn])
 rw [TX.mpr (λ_ _=>rfl)] at kc
 have few:((l.map aW).map (·.length)).sum+(l.map aW).length * (Str.ofString "\n").length<=1000000:=by
  have:=mD (λdd=>(aW dd).length) 3000 l λdd hm=>pE (h dd hm) hn
  rw [TJ,SX,zB.2.2.2.2.1]
  show (l.map λdd=>(aW dd).length).sum+_<=_
  omega
 have jn:ja (.str "\n") [.lst (l.map λdd=>.str (aW dd))] S=O (.str (Str.join "\n" (l.map aW)),S):=jD (by show O _=_;rw [TJ];rfl) few
 simp only [sf,bo,ju,bG,ob,vg,au,ge,gD,ar,df,oj,ao,xD,kc,ak,ax,aj,dJ,jn,bQ,aP]
theorem drawn{r n:Nat}(h1:1<=n)(h5:n<=5):∀ (l:List D) (a:Option D) (S:aa),Pk S r->∃ (ds:List Dd) (S':aa),er (ah 0) aG (ag 2 dB (ac (ae 1) (ac (ae 2) (af)))) l [a,O (.ref r),O (.int (n:Int))] S=O (ds.map Dd.d,S')/\ds.length=l.length/\(∀ dd∈ds,dd.Ok n)/\Pk S' r
 | [],a,S,h=>⟨[],S,rfl,rfl,(λ_ z=>nomatch z),h⟩
 | d::l,a,S,h=>by
  obtain⟨dd,S1,e1,ok,P1,K1⟩:=deed h h1 h5
  obtain⟨ds,S',e,hl,hk,P'⟩:=drawn h1 h5 l (O d) S1 P1
  refine⟨dd::ds,S',?_,by simp [hl],λx hx=>by rcases Tc.mp hx with rfl | hx;exact ok;exact hk x hx,P'⟩
  rw [lg]
  simp only [aT,mf,ob,HP,ee,HN,ar,df,eW,eV,oj,ao,aO,au,ak,ax,aj,bN,e1,HM,e,HL,Ta]
theorem JH(S:aa)(t:Option Int)(h:∀ k,t=O k->-1000<=k/\k<=1000):lr [bA t] S=O (.str (fL t),S):=by
 rw [Ei];exact BW (N:=lE) rfl h
theorem AB(S:aa)(e:En)(h:Ot e):gP [e.d] S=O (.str (bX e),S):=by
 rw [wV];exact vS JH (N:=gS) rfl h
theorem AR(S:aa){R:Rm}(h:RmS R):fO [gn R] S=O (.str (ky R),S):=by
 rw [wX];exact wE AB (N:=gU) rfl h
noncomputable def vV:MS:=aE (ay aY (ay aY (ay aY (ay aY (ay aY (ay aY (ay aY (ay aY (ae 1) (mC (.str ", "))) (aA (aq ce) (ac (ae 2) (af)))) (mC (.str " "))) (ae 3)) (mC (.str " "))) (aA (aq ce) (ac (ae 4) (af)))) (mC (.str " "))) (ay aQ (cU (ac (mC (.str "-")) (ac (aA (aq ce) (ac (ae 5) (af))) (af)))) (aA (aq kN) (ac (ay ig (ae 5) (mC .non)) (af))))) (ah 1)
noncomputable def OE:MG:=bg 4 (ai (ah 2) (ai (ah 3) (ai (ah 4) (ai (ah 5) (be)))))
noncomputable def vU:ME:=ay aQ (cU (ac (mC (.str "-")) (ac (aA (aq ce) (ac (ae 5) (af))) (af)))) (aA (aq kN) (ac (ay ig (ae 5) (mC .non)) (af)))
theorem DD{S:aa}{t:Option Int}{a0 a1 a2 a3 a4:Option D}(h:∀ k,t=O k->1<=k/\k<=9):vU [a0,a1,a2,a3,a4,O (bA t)] S=O (.str (fL t),S):=by
 have k2:∀ x y:D,mO ([x,y],S)=O (.lst [x,y],S):=λx y=>eh (by simp)
 cases t with
 | none=>
  have i0:∀ x y:D,lD [x,y] 0=O x:=λ_ _=>rfl
  simp [vU,bA,fL,k2,qE,i0]
 | some k=>
  have hk:=h k rfl
  have i1:∀ x y:D,lD [x,y] 1=O y:=λ_ _=>rfl
  simp [vU,bA,fL,k2,qE,i1,iu (show -1000000<=k by omega) (show k<=1000000 by omega)]
theorem DF{S:aa}{e:En}{acc:Str}{a0:Option D}(h:Ot e)(ha:acc.length<=500000):vV [a0,O (.str acc),O (.int (e.g:Int)),O (.str (aS e.wr)),O (.int e.m),O (bA e.t)] S=O (.nx [a0,O (.str (acc++", "++bX e)),O (.int (e.g:Int)),O (.str (aS e.wr)),O (.int e.m),O (bA e.t)] S):=by
 have hg:=h.g
 have hm0:=h.m0
 have hm1:=h.m1
 have h1:=iZ (i:=(e.g:Int)) (by omega) (by omega)
 have h2:=iZ (i:=e.m) (by omega) hm1
 have h3:=sC h.t
 have h4:=rf e.wr
 obtain⟨b1,b2,b3,b4⟩:=fx
 have s1:aq ce [.int (e.g:Int)] S=O (.str (Str.ofString (toString (e.g:Int))),S):=iu (by omega) (by omega)
 have s2:aq ce [.int e.m] S=O (.str (Str.ofString (toString e.m)),S):=iu (by omega) (by omega)
 have tl:=DD (S:=S) (a0:=a0) (a1:=O (.str acc)) (a2:=O (.int (e.g:Int))) (a3:=O (.str (aS e.wr))) (a4:=O (.int e.m)) h.t
 have q1:aY S (.str acc) (.str ", ")=O (.str (acc++", ")):=eO (by omega)
 have q2:aY S (.str (acc++", ")) (.str (Str.ofString (toString (e.g:Int))))=O (.str (acc++", "++Str.ofString (toString (e.g:Int)))):=eO (by simp only [dH];omega)
 have q3:aY S (.str (acc++", "++Str.ofString (toString (e.g:Int)))) (.str " ")=O (.str (acc++", "++Str.ofString (toString (e.g:Int))++" ")):=eO (by simp only [dH];omega)
 have q4:aY S (.str (acc++", "++Str.ofString (toString (e.g:Int))++" ")) (.str (aS e.wr))=O (.str (acc++", "++Str.ofString (toString (e.g:Int))++" "++aS e.wr)):=eO (by simp only [dH];omega)
 have q5:aY S (.str (acc++", "++Str.ofString (toString (e.g:Int))++" "++aS e.wr)) (.str " ")=O (.str (acc++", "++Str.ofString (toString (e.g:Int))++" "++aS e.wr++" ")):=eO (by simp only [dH];omega)
 have q6:aY S (.str (acc++", "++Str.ofString (toString (e.g:Int))++" "++aS e.wr++" ")) (.str (Str.ofString (toString e.m)))=O (.str (acc++", "++Str.ofString (toString (e.g:Int))++" "++aS e.wr++" "++Str.ofString (toString e.m))):=eO (by simp only [dH];omega)
 have q7:aY S (.str (acc++", "++Str.ofString (toString (e.g:Int))++" "++aS e.wr++" "++Str.ofString (toString e.m))) (.str " ")=O (.str (acc++", "++Str.ofString (toString (e.g:Int))++" "++aS e.wr++" "++Str.ofString (toString e.m)++" ")):=eO (by simp only [dH];omega)
 have q8:aY S (.str (acc++", "++Str.ofString (toString (e.g:Int))++" "++aS e.wr++" "++Str.ofString (toString e.m)++" ")) (.str (fL e.t))=O (.str (acc++", "++bX e)):=by
  rw [eO (by simp only [dH];omega)]
  unfold bX
  simp only [Vh,US]
 have hm:vV=aE (ay aY (ay aY (ay aY (ay aY (ay aY (ay aY (ay aY (ay aY (ae 1) (mC (.str ", "))) (aA (aq ce) (ac (ae 2) (af)))) (mC (.str " "))) (ae 3)) (mC (.str " "))) (aA (aq ce) (ac (ae 4) (af)))) (mC (.str " "))) vU) (ah 1):=rfl
 rw [hm]
 simp only [ci,bb,ar,df,eW,eV,oj,ob,ao,aK,bG,aJ,q1,bS,au,ak,ax,aj,bT,s1,q2,q3,q4,q5,s2,q6,q7,tl,q8,cm,aT,mf,pg,dI]
theorem FP{S:aa}{a0:Option D}:∀ (es:List En) (acc:Str) (a2 a3 a4 a5:Option D),(∀ e∈es,Ot e)->acc.length+es.length * 3200<=500000 ->
  ∃ b2 b3 b4 b5,cx OE vV (es.map En.d) [a0,O (.str acc),a2,a3,a4,a5] S=O (.nx [a0,O (.str ((es.map bX).foldl (λacc y=>acc++", "++y) acc)),b2,b3,b4,b5] S)
 | [],acc,a2,a3,a4,a5,_,_=>⟨a2,a3,a4,a5,rfl⟩
 | e::es,acc,a2,a3,a4,a5,h,hl=>by
  have he:=h e (by simp)
  rw [SY] at hl
  have tg:OE e.d [a0,O (.str acc),a2,a3,a4,a5] S=O ([a0,O (.str acc),O (.int (e.g:Int)),O (.str (aS e.wr)),O (.int e.m),O (bA e.t)],S):=by
   show bg 4 _ (.tup [.int (e.g:Nat),.str (aS e.wr),.int e.m,bA e.t]) _ S=_
   simp only [nZ,dL,aT,ob,mf,pg,kH,fo]
  have wl:=rg he
  obtain⟨b2,b3,b4,b5,e2⟩:=FP es (acc++", "++bX e) (O (.int (e.g:Int))) (O (.str (aS e.wr))) (O (.int e.m)) (O (bA e.t)) (λx hx=>h x (SO _ hx)) (by simp only [dH,fx.2.1];omega)
  refine⟨b2,b3,b4,b5,?_⟩
  rw [Ta,gF,tg,ob,pk,DF he (by omega),ob,lJ,e2,Ta,Ul]
theorem ve(S:aa){R:Rm}(h:RmS R):bi [gn R] S=O (.str (ky R),S):=by
 rw [nH,aV (show [gn R].length=1 from rfl),show aM dr [gn R]=[O (gn R),U,U,U,U,U] from rfl]
 have hm:jr=aw (aE (bL (mC (.str " ")) (ac (ay aQ (ae 0) (mC (.int 0))) (af))) (ah 1)) (aw (eg (ay aQ (ae 0) (mC (.int 1))) OE vV) (aN (ae 1))):=rfl
 rw [hm]
 have h1:=h.l1
 have h2:=h.l2
 have wl:=oC R.1
 have j1:ja (.str " ") [jj R.1] S=O (.str (ej R.1),S):=zZ (by omega)
 obtain⟨b2,b3,b4,b5,e2⟩:=FP (S:=S) (a0:=O (gn R)) R.2 (ej R.1) U U U U h.en (by omega)
 have fd:∀ tg p env,vh tg p env (vG R.2,S)=cx tg p (R.2.map En.d) env S:=λtg p env=>LH
 simp only [bC,ci,ju,bG,ob,vg,au,bb,ar,df,eW,eV,oj,ao,aK,aJ,Rm.ix0,Rm.ix1,ak,ax,aj,dJ,j1,cm,aT,mf,pg,dI,aX,CO,fd,e2,bo,bQ,aP]
 unfold ky
 rw [jw]
noncomputable def vR:MS:=cG (cT cX (ae 2) (ac (ay aQ (cU (ac (mC (.str "out")) (ac (mC (.str "out")) (ac (mC (.str "out")) (ac (mC (.str "reads")) (ac (mC (.str "rising")) (ac (mC (.str "writes")) (ac (mC (.str "raised")) (af))))))))) (ag 2 az (ac (ae 0) (ac (mC (.int 7)) (af))))) (af)))
noncomputable def Gv:ME:=ay aQ (cU (ac (mC .non) (ac (mC .non) (ac (mC (.int 1)) (ac (mC (.int 9)) (ac (ay bH (mC (.int 1)) (ag 2 az (ac (ae 0) (ac (mC (.int 9)) (af))))) (af))))))) (ag 2 az (ac (ae 0) (ac (mC (.int 5)) (af))))
noncomputable def Hg:ME:=ay aQ (cU (ac (mC (.int 0)) (ac (mC (.int 0)) (ac (mC (.int 1)) (ac (mC (.int 9)) (ac (mC (.int 10)) (ac (mC (.int 99)) (ac (mC (.int 100)) (ac (mC (.int 999)) (af)))))))))) (ag 2 az (ac (ae 0) (ac (mC (.int 8)) (af))))
noncomputable def tq:MS:=aw (aE Hg (ah 5)) (aw (aE Gv (ah 6)) (bx (aF (ay Kb (ag 2 az (ac (ae 0) (ac (mC (.int 4)) (af)))) (mC (.int 0)))) (aw (aE (bZ (ac (ae 3) (ac (ay aQ (cU (ac (mC (.str "read")) (ac (mC (.str "write")) (af)))) (ag 2 az (ac (ae 0) (ac (mC (.int 2)) (af))))) (ac (ae 5) (ac (ae 6) (af)))))) (ah 7)) (cG (cT gJ (ae 4) (ac (ag 2 az (ac (ae 0) (ac (ay bH (aA (aq eN) (ac (ae 4) (af))) (mC (.int 1))) (af)))) (ac (ae 7) (af)))))) (aI)))
theorem Pk.set{S:aa}{r q:Nat}{c:Cell}(P:Pk S r)(h:q≠r):Pk (S.set q c) r:=by
 obtain⟨a,b,d,h1,z⟩:=P
 exact⟨a,b,d,by rw [TK h];exact h1,z⟩
theorem at_w7{q:Int}(h0:0<=q)(h1:q<7):∃ w:Wd,lD [D.str "out",D.str "out",D.str "out",D.str "reads",D.str "rising",D.str "writes",D.str "raised"] q=O w.d:=by
 obtain rfl | rfl | rfl | rfl | rfl | rfl | rfl:q=0\/q=1\/q=2\/q=3\/q=4\/q=5\/q=6:=by omega
 ·exact⟨.out,rfl⟩
 ·exact⟨.out,rfl⟩
 ·exact⟨.out,rfl⟩
 ·exact⟨.reads,rfl⟩
 ·exact⟨.rising,rfl⟩
 ·exact⟨.writes,rfl⟩
 ·exact⟨.raised,rfl⟩
noncomputable def za:List Int:=[0,1,9,10,99,100,999]
structure EnQ(e:En):Prop where
 m:e.m∈za
 t:∀ k,e.t=O k->1<=k/\k<=9
theorem at_m8{q:Int}(h0:0<=q)(h1:q<8):∃ i:Int,lD [D.int 0,D.int 0,D.int 1,D.int 9,D.int 10,D.int 99,D.int 100,D.int 999] q=O (.int i)/\i∈za:=by
 obtain rfl | rfl | rfl | rfl | rfl | rfl | rfl | rfl:q=0\/q=1\/q=2\/q=3\/q=4\/q=5\/q=6\/q=7:=by omega
 all_goals exact⟨_,rfl,by decide⟩
theorem at_r5{q m:Int}(h0:0<=q)(h1:q<5)(m0:0<=m)(m9:m<9):∃ t:Option Int,lD [D.non,D.non,D.int 1,D.int 9,D.int (1+m)] q=O (bA t)/\∀ k,t=O k->1<=k/\k<=9:=by
 obtain rfl | rfl | rfl | rfl | rfl:q=0\/q=1\/q=2\/q=3\/q=4:=by omega
 ·exact⟨U,rfl,λk h=>by cases h⟩
 ·exact⟨U,rfl,λk h=>by cases h⟩
 ·exact⟨O 1,rfl,λk h=>by cases h;decide⟩
 ·exact⟨O 9,rfl,λk h=>by cases h;decide⟩
 ·exact⟨O (1+m),rfl,λk h=>by cases h;omega⟩
theorem Dz{S:aa}{r q:Nat}{ws:List Wd}{a1 a3 a4 a5 a6 a7:Option D}(P:Pk S r)(hq:q≠r)(h:S[q]?=O (.lst (ws.map Wd.d)))(hl:ws.length<=100) :
  ∃ (w:Wd) (S':aa),vR [O (.ref r),a1,O (.ref q),a3,a4,a5,a6,a7] S=O (.nx [O (.ref r),a1,O (.ref q),a3,a4,a5,a6,a7] S')/\Pk S' r/\S'[q]?=O (.lst ((ws++[w]).map Wd.d)):=by
 obtain⟨k,S1,e1,k0,k7,P1,K1,L1⟩:=fX _ _ 7 P (by decide) (by decide)
 obtain⟨w,ix⟩:=at_w7 k0 k7
 have h1:S1[q]?=O (.lst (ws.map Wd.d)):=by rw [K1 q hq,h]
 have kl:∀ S,mO ([D.str "out",D.str "out",D.str "out",D.str "reads",D.str "rising",D.str "writes",D.str "raised"],S)=O (.lst [D.str "out",D.str "out",D.str "out",D.str "reads",D.str "rising",D.str "writes",D.str "raised"],S):=λS=>eh (by simp)
 have km:∀ ms env,sG cX ms env (.ref q,S)=(ms env S).bind (ie cX (.ref q)):=λms env=>xA h
 have ap:cX (.ref q) [w.d] S1=O (.non,S1.set q (.lst ((ws++[w]).map Wd.d))):=by rw [vC h1 (by rw [SX];omega),UG];rfl
 refine⟨w,S1.set q (.lst ((ws++[w]).map Wd.d)),?_,Pk.set P1 hq,Uc (SR.mp h1).1⟩
 simp only [vR,nP,nN,ar,df,eW,eV,oj,ob,ao,km,au,bb,mI,bG,ak,ax,aj,kl,aK,aO,bN,e1,aJ,Dh,ix,dJ,ap,nV]
theorem ET{S:aa}{r q g:Nat}{es:List En}{a1 a2 a5 a6 a7:Option D}(P:Pk S r)(hq:q≠r)(h:S[q]?=O (.lst (es.map En.d)))(hl:es.length<=100) :
  ∃ (es':List En) (b5 b6 b7:Option D) (S':aa),tq [O (.ref r),a1,a2,O (ni g),O (.ref q),a5,a6,a7] S=O (.nx [O (.ref r),a1,a2,O (ni g),O (.ref q),b5,b6,b7] S')/\Pk S' r/\S'[q]?=O (.lst (es'.map En.d))/\(es'=es\/∃ e:En,e.g=g/\EnQ e/\es'.Perm (e::es))/\∀ j,j≠r->j≠q->S'[j]?=S[j]?:=by
 obtain⟨x1,S1,e1,l1,g1,P1,K1,_⟩:=fX _ _ 8 P (by decide) (by decide)
 obtain⟨x2,S2,e2,l2,g2,P2,K2,_⟩:=fX _ _ 9 P1 (by decide) (by decide)
 obtain⟨x3,S3,e3,l3,g3,P3,K3,_⟩:=fX _ _ 5 P2 (by decide) (by decide)
 obtain⟨x4,S4,e4,l4,g4,P4,K4,_⟩:=fX _ _ 4 P3 (by decide) (by decide)
 obtain⟨m,i1,hmm⟩:=at_m8 l1 g1
 obtain⟨t,i3,ht⟩:=at_r5 l3 g3 l2 g2
 have h4:S4[q]?=O (.lst (es.map En.d)):=by rw [K4 q hq,K3 q hq,K2 q hq,K1 q hq,h]
 have w1:∀ S,mO ([D.int 0,D.int 0,D.int 1,D.int 9,D.int 10,D.int 99,D.int 100,D.int 999],S)=O (.lst [D.int 0,D.int 0,D.int 1,D.int 9,D.int 10,D.int 99,D.int 100,D.int 999],S):=λS=>eh (by simp)
 have w2:∀ S,mO ([D.non,D.non,D.int 1,D.int 9,D.int (1+x2)],S)=O (.lst [D.non,D.non,D.int 1,D.int 9,D.int (1+x2)],S):=λS=>eh (by simp)
 have v1:∀ a1 a2 a3 a4 a5 a6 a7,Hg [O (.ref r),a1,a2,a3,a4,a5,a6,a7] S=O (.int m,S1):=λa1 a2 a3 a4 a5 a6 a7=>by
  simp only [Hg,bb,mI,au,bG,ob,ak,ax,aj,w1,aK,aO,ar,df,oj,ao,bN,e1,aJ,Dh,i1]
 have v2:∀ a1 a2 a3 a4 a5 a6 a7,Gv [O (.ref r),a1,a2,a3,a4,a5,a6,a7] S1=O (bA t,S3):=λa1 a2 a3 a4 a5 a6 a7=>by
  simp only [Gv,bb,mI,au,bG,ob,ak,ax,aj,aK,aO,ar,df,oj,ao,bN,e2,aJ,xQ,w2,e3,Dh,i3]
 by_cases h0:0<x4
 ·obtain⟨x5,S5,e5,l5,g5,P5,K5,_⟩:=fX _ _ 2 P4 (by decide) (by decide)
  obtain⟨x6,S6,e6,l6,g6,P6,K6,_⟩:=fX _ _ ((es.length:Int)+1) P5 (by omega) (by omega)
  obtain⟨wr,i5⟩:=at_w2 l5 g5
  have h5:S5[q]?=O (.lst (es.map En.d)):=by rw [K5 q hq,h4]
  have h6:S6[q]?=O (.lst (es.map En.d)):=by rw [K6 q hq,h5]
  have w3:∀ S,mO ([D.str "read",D.str "write"],S)=O (.lst [D.str "read",D.str "write"],S):=λS=>eh (by simp)
  have w4:∀ S (a b c d:D),kP ([a,b,c,d],S)=O (.tup [a,b,c,d],S):=λS a b c d=>cW (by simp)
  have fl:=Ix h5
  rw [SX] at fl
  have km:∀ ms env,sG gJ ms env (.ref q,S5)=(ms env S5).bind (ie gJ (.ref q)):=λms env=>xA h5
  have ins:gJ (.ref q) [.int x6,.tup [ni g,.str (aS wr),.int m,bA t]] S6=O (.non,S6.set q (.lst ((jY es x6 (En.mk g wr m t)).map En.d))):=by
   rw [EG h6 (by rw [SX];omega) l6 (by omega)]
   rw [show D.tup [ni g,.str (aS wr),.int m,bA t]=(En.mk g wr m t).d from rfl,Hh]
  have hp:=EB es x6 (En.mk g wr m t)
  refine⟨jY es x6 (En.mk g wr m t),O (.int m),O (bA t),O (.tup [ni g,.str (aS wr),.int m,bA t]),S6.set q (.lst ((jY es x6 (En.mk g wr m t)).map En.d)),?_,Pk.set P6 hq,Uc (SR.mp h6).1,.inr ⟨_,rfl,⟨hmm,ht⟩,hp⟩,λj h1 h2=>by rw [TK (Ne.symm h2),K6 j h1,K5 j h1,K4 j h1,K3 j h1,K2 j h1,K1 j h1]⟩
  simp only [tq,bC,ci,v1,v2,ob,cm,aT,mf,pg,dI,aX,bM,bw,bb,aO,au,ar,df,eW,eV,oj,ao,ak,bG,ax,aj,bN,e4,aK,aJ,Di,decide_eq_true h0,bz,iK,fY,mI,w3,e5,Dh,i5,w4,nP,nN,km,bS,bT,fl,xQ,e6,dJ,ins,nV]
 ·refine⟨es,O (.int m),O (bA t),a7,S4,?_,P4,h4,.inl rfl,λj h1 h2=>by rw [K4 j h1,K3 j h1,K2 j h1,K1 j h1]⟩
  simp only [tq,bC,ci,v1,v2,ob,cm,aT,mf,pg,dI,aX,bM,bw,bb,aO,au,ar,df,eW,eV,oj,ao,ak,bG,ax,aj,bN,e4,aK,aJ,Di,Tw h0,bz,cj,bI]
theorem IY{r q:Nat}{a1 a2:Option D}(hq:q≠r):∀ (l:List Nat) (es:List En) (S:aa) (a3 a5 a6 a7:Option D),Pk S r->S[q]?=O (.lst (es.map En.d))->es.length+l.length<=10->(es.map (·.g)++l).Nodup->(∀ e∈es,EnQ e) ->
  ∃ (es':List En) (b3 b5 b6 b7:Option D) (S':aa),cx (ah 3) tq (l.map ni) [O (.ref r),a1,a2,a3,O (.ref q),a5,a6,a7] S=O (.nx [O (.ref r),a1,a2,b3,O (.ref q),b5,b6,b7] S')/\Pk S' r/\S'[q]?=O (.lst (es'.map En.d))/\es'.length<=es.length+l.length/\(es'.map (·.g)).Nodup/\(∀ e∈es',EnQ e/\(e.g∈es.map (·.g)\/e.g∈l))/\∀ j,j≠r->j≠q->S'[j]?=S[j]?
 | [],es,S,a3,a5,a6,a7,P,h,hl,hn,he=>⟨es,a3,a5,a6,a7,S,rfl,P,h,by simp,by simpa using hn,λe hx=>⟨he e hx,.inl (Vr hx)⟩,λ_ _ _=>rfl⟩
 | g::l,es,S,a3,a5,a6,a7,P,h,hl,hn,he=>by
  rw [SY] at hl
  obtain⟨es1,b5,b6,b7,S1,e1,P1,h1,hc,k1⟩:=ET (g:=g) (a1:=a1) (a2:=a2) (a5:=a5) (a6:=a6) (a7:=a7) P hq h (by omega)
  have hn0:(es.map (·.g)++l).Nodup:=hn.sublist (List.Sublist.append (List.Sublist.refl _) (List.sublist_cons_self g l))
  have X:es1.length<=es.length+1/\(es1.map (·.g)++l).Nodup/\(∀ e∈es1,EnQ e)/\∀ e∈es1,e.g∈es.map (·.g)\/e.g=g:=by
   rcases hc with rfl | ⟨e,rfl,hQ,hp⟩
   ·exact⟨by omega,hn0,he,λe hx=>.inl (Vr hx)⟩
   ·refine⟨by rw [hp.length_eq,SY];omega,?_,λx hx=>?_,λx hx=>?_⟩
    ·have hp2:(es1.map (·.g)++l).Perm (es.map (·.g)++e.g::l):=by
      refine((hp.map (·.g)).append_right l).trans ?_
      rw [Ta]
      exact(List.perm_middle (a:=e.g) (l₁:=es.map (·.g)) (l₂:=l)).symm
     exact hp2.nodup_iff.mpr hn
    ·rcases Tc.mp (hp.mem_iff.mp hx) with rfl | hx
     ·exact hQ
     ·exact he x hx
    ·rcases Tc.mp (hp.mem_iff.mp hx) with rfl | hx
     ·exact .inr rfl
     ·exact .inl (Vr hx)
  obtain⟨x1,x2,x3,x4⟩:=X
  obtain⟨es',c3,c5,c6,c7,S',e2,P2,h2,l2,n2,he2,k2⟩:=IY (a1:=a1) (a2:=a2) hq l es1 S1 (O (ni g)) b5 b6 b7 P1 h1 (by omega) x2 x3
  refine⟨es',c3,c5,c6,c7,S',?_,P2,h2,by rw [SY];omega,n2,λe hx=>⟨(he2 e hx).1,?_⟩,λj z1 z2=>(k2 j z1 z2).trans (k1 j z1 z2)⟩
  ·rw [Ta,gF,aT,ob,pk]
   simp only [mf,pg]
   rw [e1,ob,lJ,e2]
  ·rcases(he2 e hx).2 with z | z
   ·obtain⟨y,hy,ey⟩:=Tz.mp z
    rcases x4 y hy with w | w
    ·exact .inl (by rw [<- ey];exact w)
    ·exact .inr (by rw [<- ey,w];exact SN)
   ·exact .inr (SO _ z)
structure RmQ(n:Nat)(R:Rm):Prop where
 len:R.1.length=n
 few:R.2.length<=5
 nd:(R.2.map (·.g)).Nodup
 out:∀ e∈R.2,R.1[e.g]?=O .out
 q:∀ e∈R.2,EnQ e
theorem No{S:aa}{r n:Nat}(P:Pk S r)(hn:n<=5):∃ (R:Rm) (S':aa),cS [.ref r,.int (n:Int)] S=O (gn R,S')/\RmQ n R/\Pk S' r:=by
 rw [oW,aV (show [D.ref r,D.int (n:Int)].length=2 from rfl),show aM dS [D.ref r,D.int (n:Int)]=[O (.ref r),O (.int (n:Int)),U,U,U,U,U,U] from rfl]
 have hm:kG=aw (aE (dm (af)) (ah 2)) (aw (gG (aL (ac (ae 1) (af))) (ah 3) vR) (aw (aE (dm (af)) (ah 4)) (aw (eg (bF (aL (ac (ae 1) (af))) (ah 0) (aF (ay iP (ay aQ (ae 1) (ae 0)) (mC (.str "out")))) (ae 0) [U,O 2]) (ah 3) tq) (aN (bZ (ac (aA (aq (fS .tup)) (ac (ae 2) (af))) (ac (aA (aq (fS .tup)) (ac (ae 4) (af))) (af)))))))):=rfl
 rw [hm]
 have l0:∀ S,zF ([],S)=O (.ref S.length,S++[.lst []]):=λS=>sH (by simp)
 have kr:∀ S,NM ([.int (n:Int)],S)=O (bj 0 n,S):=λS=>by rw [jW (by omega) (by omega),UP]
 obtain⟨P1,hS⟩:=P.app (c:=.lst [])
 obtain⟨env',S2,e2,b3,ws,rfl,P2,h2,lw⟩:=forR (tg:=ah 3) (p:=vR) (lo:=0) (λi env T=>∃ b3 ws,env=[O (.ref r),O (.int (n:Int)),O (.ref S.length),b3,U,U,U,U]/\Pk T r/\T[S.length]?=O (.lst ((ws:List Wd).map Wd.d))/\ws.length=i) n
  (λi hi env T hI=>by
   obtain⟨b3,ws,rfl,P,h,lw⟩:=hI
   obtain⟨w,T',e,P',h'⟩:=Dz (a1:=O (.int (n:Int))) (a3:=O (.int (0+(i:Int)))) (a4:=U) (a5:=U) (a6:=U) (a7:=U) P hS h (by omega)
   exact⟨_,_,_,_,aT,e,_,ws++[w],rfl,P',h',by rw [Tl,lw];rfl⟩)
  [O (.ref r),O (.int (n:Int)),O (.ref S.length),U,U,U,U,U] (S++[.lst []]) ⟨U,[],rfl,P1,by simp,rfl⟩
 obtain⟨P3,hS2⟩:=P2.app (c:=.lst [])
 have h3:(S2++[Cell.lst []])[S.length]?=O (.lst (ws.map Wd.d)):=by rw [To (SR.mp h2).1,h2]
 have rn:bj 0 n=(List.range n).map ni:=by have:=yR n;unfold nl at this;injection this
 have kc:=iJ (S:=S2++[Cell.lst []]) (t:=aF (ay iP (ay aQ (ae 1) (ae 0)) (mC (.str "out")))) (e:=ae 0) (cap:=[U,O 2]) (env:=[O (.ref r),O (.int (n:Int)),O (.ref S.length),b3,O (.ref S2.length),U,U,U]) (rest:=[O (.ref S.length)]) (a:=U) (enc:=ni) (p:=λi=>decide (ws[i]?=O .out)) (f:=ni) (xs:=List.range n) rfl (by rw [Wg];omega) (λi hi=>by
  have hi':=UE.mp hi
  have h:ws[i]?=O ws[i]:=Tb (by omega)
  have x1:aQ (S2++[Cell.lst []]) (.ref S.length) (ni i)=O (ws[i]).d:=by
   show aQ _ (.ref S.length) (.int (i:Int))=_
   rw [lN h3];exact JU (by rw [UN,h];rfl)
  have x2:iP (S2++[Cell.lst []]) (ws[i]).d (.str "out")=O (.bl (decide (ws[i]=.out))):=RK (b:=.out)
  simp only [bw,bb,ar,df,eW,eV,oj,ob,ao,aK,aJ,x1,bG,x2,bz,h,We]) (λi hi _=>by simp)
 obtain⟨es,c3,c5,c6,c7,S4,e4,P4,h4,l4,hnd,he,k4⟩:=IY (r:=r) (q:=S2.length) (a1:=O (.int (n:Int))) (a2:=O (.ref S.length)) hS2 ((List.range n).filter λi=>decide (ws[i]?=O .out)) [] (S2++[.lst []]) b3 U U U P3 (by simp) (by
  have:=VO (λi=>decide (ws[i]?=O Wd.out)) (List.range n)
  rw [Wg] at this
  simp only [Uk];omega) (by rw [VN,Vq];exact List.nodup_range.filter _) (λe h=>by cases h)
 rw [<- rn] at kc
 have hSl:S.length<S2.length:=(SR.mp h2).1
 have h5:S4[S.length]?=O (.lst (ws.map Wd.d)):=by rw [k4 _ hS (by omega),h3]
 have sq1:aq (fS .tup) [.ref S.length] S4=O (jj ws,S4):=vB h5
 have sq2:aq (fS .tup) [.ref S2.length] S4=O (vG es,S4):=vB h4
 have t2:∀ S (a b:D),kP ([a,b],S)=O (.tup [a,b],S):=λS a b=>cW (by simp)
 refine⟨(ws,es),S4,?_,⟨lw,by have:=VO (λi=>decide (ws[i]?=O Wd.out)) (List.range n);rw [Wg] at this;simp only [Uk] at l4;show es.length<=5;omega,hnd,λe hx=>?_,λe hx=>(he e hx).1⟩,P4⟩
 rotate_left
 ·rcases(he e hx).2 with z | z
  ·cases z
  ·simpa using (Uj.mp z).2
 simp only [bC,ci,CH,ax,ob,l0,cm,aT,mf,pg,dI,aX,xr,eL,au,ar,df,eW,eV,oj,ao,ak,aj,kr,xF,e2,CO,ge,kc,LI,e4,bo,fY,bS,bT,sq1,sq2,t2,bQ,aP]
 rfl
theorem sV:∀ (ns acc:List Int),acc.Nodup->(ns.foldl step_dedup acc).length<=acc.length+ns.length/\((ns.foldl step_dedup acc).length=acc.length+ns.length↔(acc++ns).Nodup)
 | [],acc,h=>by simp [h]
 | n::ns,acc,h=>by
  rw [Ul]
  by_cases hm:acc.any (· == n)=true
  ·rw [show step_dedup acc n=acc from Td hm]
   have hm':n∈acc:=by
    obtain⟨x,hx,e⟩:=Wp.mp hm
    have:x=n:=by simpa using e
    subst this;exact hx
   have ih:=sV ns acc h
   have ih1:(List.foldl step_dedup acc ns).length<=acc.length+ns.length:=ih.1
   refine⟨by rw [SY];omega,?_⟩
   constructor
   ·intro e
    rw [SY] at e
    omega
   ·intro hd
    exfalso
    rw [Ui] at hd
    exact hd.2.2 n hm' n SN rfl
  ·rw [show step_dedup acc n=acc++[n] from Ts hm]
   have hm':n ∉ acc:=λz=>hm (Wp.mpr ⟨n,z,by simp⟩)
   have hn:(acc++[n]).Nodup:=by
    rw [Ui]
    exact⟨h,by simp,λa ha b hb=>by rw [Tg.mp hb];rintro rfl;exact hm' ha⟩
   have ih:=sV ns (acc++[n]) hn
   have e:(acc++[n]).length+ns.length=acc.length+(n::ns).length:=by simp;omega
   have e2:acc++[n]++ns=acc++n::ns:=by simp
   rw [e,e2] at ih
   exact ih
theorem AT(ns:List Int):((List.range ns.length).map λi=>ns.getD i 0)=ns:=by
 apply List.ext_getElem?
 intro i
 by_cases h:i<ns.length
 ·simp [h]
 ·rw [Vg (by simp;omega),Vg (by omega)]
theorem MK(ns:List Int):qH ns=ns.length↔ns.Nodup:=by
 unfold qH firstMet
 rw [AT]
 have:=(sV ns [] List.nodup_nil).2
 simpa using this
theorem FS{S:aa}{xs:List D}{k:Int}:bt [.tup xs,.int k] S=O (.bl (decide ((xs.length:Int)=k)),S):=by
 rw [sd,aV (show [D.tup xs,D.int k].length=2 from rfl),show aM fm [D.tup xs,D.int k]=[O (.tup xs),O (.int k)] from rfl]
 have it:ij "tuple" S (.tup xs)=O (.bl true):=rfl
 simp only [lZ,bo,pf,mK,ar,df,eW,eV,oj,ob,ao,mP,it,pp,bb,bS,au,ak,ax,aj,bT,BF,aK,aJ,mU,bQ,aP]
 rfl
theorem Ow{S:aa}{w:Wd}:eM [w.d,bO] S=O (.bl true,S):=by
 rw [rZ,aV (show [w.d,bO].length=2 from rfl),show aM iF [w.d,bO]=[O w.d,O bO] from rfl]
 have it:ij "str" S w.d=O (.bl true):=rfl
 have fi:EH S w.d bO=O (.bl true):=(RI (l:=[.out,.reads,.rising,.writes,.raised])).trans (by cases w <;> rfl)
 simp only [oX,bo,pf,mK,ar,df,eW,eV,oj,ob,ao,mP,it,pp,bb,aK,aJ,fi,bQ,aP]
theorem FM{S:aa}{b:Bool}:eM [.str (aS b),fq] S=O (.bl true,S):=by
 rw [rZ,aV (show [D.str (aS b),fq].length=2 from rfl),show aM iF [D.str (aS b),fq]=[O (.str (aS b)),O fq] from rfl]
 have it:ij "str" S (.str (aS b))=O (.bl true):=rfl
 have fi:EH S (.str (aS b)) fq=O (.bl true):=RJ (by cases b <;> decide +kernel)
 simp only [oX,bo,pf,mK,ar,df,eW,eV,oj,ob,ao,mP,it,pp,bb,aK,aJ,fi,bQ,aP]
theorem JT{S:aa}{i lo hi:Int}:bW [.int i,.int lo,.int hi] S=O (.bl (decide (lo<=i)&&decide (i<=hi)),S):=by
 have wh:iL [.int i] S=O (.bl true,S):=by
  rw [yX,aV (show [D.int i].length=1 from rfl),show aM iT [D.int i]=[O (.int i)] from rfl]
  have i1:ij "int" S (.int i)=O (.bl true):=rfl
  have i2:ij "bool" S (.int i)=O (.bl false):=rfl
  simp [si,i1,i2]
 rw [uc,aV (show [D.int i,D.int lo,D.int hi].length=3 from rfl),show aM gm [D.int i,D.int lo,D.int hi]=[O (.int i),O (.int lo),O (.int hi)] from rfl]
 by_cases h:lo<=i
 ·simp [jQ,wh,h]
 ·simp [jQ,wh,h]
theorem FN{S:aa}{ws:List Wd}{n:Int}(hl:ws.length<=100):fQ [.int n,jj ws] S=O (.bl (decide ((ws.length:Int)=n)),S):=by
 rw [xc,aV (show [D.int n,jj ws].length=2 from rfl),show aM gZ [D.int n,jj ws]=[O (.int n),O (jj ws)] from rfl]
 have t1:bt [jj ws,.int n] S=O (.bl (decide ((ws.length:Int)=n)),S):=by rw [show jj ws=.tup (ws.map Wd.d) from rfl,FS,SX]
 have k:=iJ (S:=S) (t:=aG) (e:=ag 2 eM (ac (ae 0) (ac (mC bO) (af)))) (cap:=[U]) (env:=[O (.int n),O (jj ws)]) (rest:=[]) (a:=U) (enc:=Wd.d) (p:=λ_=>true) (f:=λ_=>.bl true) (xs:=ws) rfl (by omega) (λ_ _=>ee) (λw _ _=>by
  simp only [aO,au,ar,df,eW,eV,oj,ob,ao,ak,bG,ax,aj,bN,Ow])
 rw [TX.mpr (λ_ _=>rfl)] at k
 have al:aq pv [.lst (ws.map λ_=>.bl true)] S=O (.bl true,S):=by
  rw [xO (kh (p:=λ_=>true) ws)];simp
 have it:xE (jj ws,S)=O (ws.map Wd.d,S):=rfl
 simp only [pO,bo,pf,aO,au,ar,df,eW,eV,oj,ob,ao,ak,ax,aj,bN,t1]
 cases decide ((ws.length:Int)=n) with
 | false=>simp only [HV,ob,bQ,aP]
 | true=>simp only [pp,bS,au,ge,gD,ar,df,eW,eV,oj,ob,ao,it,k,ak,ax,aj,bT,al,bQ,aP]
noncomputable def CU:Option Int->Bool
 | none=>true
 | some t=>decide (1<=t)&&decide (t<=9)
noncomputable def jm(ws:List Wd)(e:En):Bool:=decide (ws[e.g]?=O .out)&&((decide (0<=e.m)&&decide (e.m<=999))&&CU e.t)
theorem HZ{S:aa}{ws:List Wd}{e:En}:iC [jj ws,e.d] S=O (.bl (jm ws e),S):=by
 rw [Bi,aV (show [jj ws,e.d].length=2 from rfl),show aM jI [jj ws,e.d]=[O (jj ws),O e.d,U,U,U,U] from rfl]
 have t1:bt [e.d,.int 4] S=O (.bl true,S):=FS
 have g4:∀ env S,bg 4 (ai (ah 2) (ai (ah 3) (ai (ah 4) (ai (ah 5) (be))))) e.d env S=(ai (ah 2) (ai (ah 3) (ai (ah 4) (ai (ah 5) (be))))) [.int (e.g:Nat),.str (aS e.wr),.int e.m,bA e.t] env S:=λenv S=>nZ
 have b1:bW [.int (e.g:Nat),.int 0,.int ((ws.length:Nat) - 1)] S=O (.bl (decide (e.g<ws.length)),S):=by
  rw [JT];congr 3;rw [UH];simp;omega
 have b2:bW [.int e.m,.int 0,ft] S=O (.bl (decide (0<=e.m)&&decide (e.m<=999)),S):=JT
 simp only [uP,bC,bM,gb,fZ,aO,au,ar,df,eW,eV,oj,ob,ao,ak,bG,ax,aj,bN,t1,ic,gg,TF,cj,bI,aX,ci,cm,g4,dL,aT,kH,fo,mf,pg,dI,jR,bb,bS,bT,Ov,aK,aJ,RB,sM,b1]
 by_cases hg:e.g<ws.length
 ·have hw:ws[e.g]?=O ws[e.g]:=Tb hg
  have xw:aQ S (jj ws) (.int (e.g:Nat))=O (ws[e.g]).d:=ws_ix hw
  generalize ws[e.g]=w at hw xw
  have e2:qk S w.d (.str "out")=O (.bl (!decide (w=.out))):=RD (b:=.out)
  simp only [decide_eq_true hg,TF,jX,bw,bb,ar,df,eW,eV,oj,ob,ao,aK,aJ,bG,xw,e2,bz]
  by_cases ho:w=.out
  ·subst ho
   simp only [decide_true,TF,cj,bI,ob,aX,bC,bM,jR,gb,fZ,aO,au,ar,df,eW,eV,oj,ao,ak,bG,ax,aj,bN,FM,ic,gg,jX,sM,b2]
   unfold jm
   rw [hw,decide_eq_true rfl,Us]
   cases decide (0<=e.m)&&decide (e.m<=999) with
   | false=>simp only [Ve,iK,bo,bG,ob,bQ,jV,aP,UR]
   | true=>
    cases ht:e.t with
    | none=>
     have i1:qE (bA U) .non=true:=rfl
     simp only [TF,cj,bI,ob,aX,bo,Hn,bb,ar,df,eW,eV,oj,ao,aK,bG,aJ,Iy,i1,NO,bQ,aP,CU,Us]
    | some t=>
     have i1:qE (bA (O t)) .non=false:=rfl
     have b3:bW [bA (O t),.int 1,bR] S=O (.bl (decide (1<=t)&&decide (t<=9)),S):=JT
     simp only [TF,cj,bI,ob,aX,bo,Hn,bb,ar,df,eW,eV,oj,ao,aK,bG,aJ,Iy,i1,NP,aO,au,ak,ax,aj,sM,b3,bQ,aP,CU,Us]
  ·unfold jm
   rw [hw,Tw (λz=>ho (Tq z))]
   simp only [Tw ho,Ve,iK,bo,bG,ob,bQ,jV,aP,UR]
 ·unfold jm
  rw [Vg (by omega)]
  simp only [Tw hg,Ve,Qy,ob,iK,bo,bG,bQ,jV,aP]
  rfl
noncomputable def GZ(es:List En):Bool:=decide ((es.map (·.g)).Nodup)
theorem ded_g{es:List En}:(qH (es.map λe=>(e.g:Int)) == es.length)=GZ es:=by
 unfold GZ
 rw [UH,beq_iff_eq,TU]
 have:=MK (es.map λe=>(e.g:Int))
 rw [SX] at this
 rw [this]
 have hm:(es.map λe=>(e.g:Int))=(es.map (·.g)).map λ(i:Nat)=>(i:Int):=by rw [TJ];rfl
 rw [hm]
 constructor
 ·intro h;exact(Wf.mp h).imp λh z=>h (by rw [z])
 ·intro h;exact Wf.mpr (h.imp λh z=>h (by omega))
theorem Ce{S:aa}{ws:List Wd}{es:List En}(hl:es.length<64):gQ [jj ws,vG es] S=O (.bl (es.all (jm ws)&&GZ es),S):=by
 rw [xh,aV (show [jj ws,vG es].length=2 from rfl),show aM hU [jj ws,vG es]=[O (jj ws),O (vG es),U] from rfl]
 have it:ij "tuple" S (vG es)=O (.bl true):=rfl
 have k:=iJ (S:=S) (t:=aG) (e:=ag 2 iC (ac (ae 1) (ac (ae 0) (af)))) (cap:=[U,O 0]) (env:=[O (jj ws),O (vG es),U]) (rest:=[O (jj ws)]) (a:=U) (enc:=En.d) (p:=λ_=>true) (f:=λe=>.bl (jm ws e)) (xs:=es) rfl (by omega) (λ_ _=>ee) (λw _ _=>by
  simp only [aO,au,ar,df,eW,eV,oj,ob,ao,ak,ax,aj,bN,HZ])
 rw [TX.mpr (λ_ _=>rfl)] at k
 have al:aq pv [.lst (es.map λe=>.bl (jm ws e))] S=O (.bl (es.all (jm ws)),S):=by
  rw [xO (kh (p:=jm ws) es)];congr 3;rw [Xb];rfl
 have gs:=gsC (S:=S) (es:=es) (cap:=[U]) (env:=[O (jj ws),O (vG es),U]) rfl (by omega)
 have ml:(es.map λe=>D.int (e.g:Int))=(es.map λe=>(e.g:Int)).map .int:=by rw [TJ];rfl
 have ks:xC ([.lst (es.map λe=>.int (e.g:Int))],S)=O (.int (qH (es.map λe=>(e.g:Int)):Nat),S):=by rw [ml];exact Ew (by rw [SX];exact hl)
 have ln:aq eN [.lst (es.map λe=>.int (e.g:Int))] S=O (.int (es.length:Nat),S):=by rw [BG,SX]
 simp only [pQ,bC,bM,jR,gb,fZ,mK,ar,df,eW,eV,oj,ob,ao,mP,it,ic,gg,TF,jX,bS,au,ge,gD,xW,k,ak,ax,aj,bT,al]
 cases es.all (jm ws) with
 | false=>simp only [Ve,iK,bo,bG,ob,bQ,jV,aP,UR]
 | true=>
  simp only [TF,cj,bI,ob,aX,bC,ci,ge,gD,ar,df,eW,eV,oj,ao,xW,gs,cm,aT,mf,pg,dI,bo,bb,Ek,au,ak,ax,aj,ks,aK,bS,bT,ln,aJ,mU,bQ,aP,Us]
  congr 3
  rw [<- ded_g,UH];simp;omega
theorem OX{S:aa}{ws:List Wd}{es:List En}{n:Nat}(h1:ws.length<=100)(hl:es.length<64):iD [.int (n:Int),gn (ws,es)] S=O (.bl (decide (ws.length=n)&&(es.all (jm ws)&&GZ es)),S):=by
 rw [Bj,aV (show [D.int (n:Int),gn (ws,es)].length=2 from rfl),show aM jJ [D.int (n:Int),gn (ws,es)]=[O (.int (n:Int)),O (gn (ws,es)),U,U] from rfl]
 have t1:bt [gn (ws,es),.int 2] S=O (.bl true,S):=FS
 have g2:∀ env S,bg 2 (ai (ah 2) (ai (ah 3) (be))) (gn (ws,es)) env S=(ai (ah 2) (ai (ah 3) (be))) [jj ws,vG es] env S:=λenv S=>qT
 have w1:fQ [.int (n:Int),jj ws] S=O (.bl (decide (ws.length=n)),S):=by
  rw [FN h1];congr 3;rw [UH];simp;omega
 simp only [uQ,bC,bM,gb,fZ,aO,au,ar,df,eW,eV,oj,ob,ao,ak,bG,ax,aj,bN,t1,ic,gg,TF,cj,bI,aX,ci,cm,g2,dL,aT,kH,fo,mf,pg,dI,bo,pf,w1]
 cases decide (ws.length=n) with
 | false=>simp only [HV,ob,bQ,aP,UR]
 | true=>simp only [pp,aO,au,ar,df,eW,eV,oj,ob,ao,ak,ax,aj,bN,Ce hl,bQ,aP,Us]
end K48
end
section
namespace K48
open MI L2
open M hiding mC ae ay aF bU cn dG dX bK fe xp gO nO af ac bZ cU dm xm cZ eY cY aA db ag aI aw aN cG bx ah be ai bg ei aE aL cq gG bF cf aG cT gc ca jv jt eZ dD cK eg da cI dY bq bL cg sx gE cr dc cJ lf dZ gh gp
noncomputable def allW:List Rw:=[.rows,.readers,.writers,.turns,.passes]
noncomputable def qC(w:Rw):Nat:=if w=.passes then 10 else 1
noncomputable def rulesL:List Rl:=allW.flatMap λw=>(List.range 6).flatMap λ(a:Nat)=>(List.range (qC w)).flatMap λ(b:Nat)=>([0,1]:List Int).flatMap λc=>[⟨w,(a:Int),(b:Int),c⟩]
set_option maxHeartbeats 0 in
theorem yD:(rulesL.map iG).Nodup:=by decide +kernel
theorem uI:rulesL.length=168:=by decide +kernel
noncomputable def allA:List Ak:=[.up,.down,.leave,.stop]
noncomputable def lefts:List (Option Int):=U::(List.range 10).map λ(i:Nat)=>O (i:Int)
noncomputable def gj(n:Nat):List Dd:=([false,true]:List Bool).flatMap (λw=>(List.range n).flatMap λg=>lefts.flatMap λt=>[.ask w g t])++(allA.flatMap λk=>(List.range n).flatMap λg=>[.act k g])++[.tick]
set_option maxHeartbeats 0 in
theorem Ai:∀ n,n<=5->((gj n).map aW).Nodup:=by decide +kernel
end K48
end
section
namespace K48
open MI L2
open M hiding mC ae ay aF bU cn dG dX bK fe xp gO nO af ac bZ cU dm xm cZ eY cY aA db ag aI aw aN cG bx ah be ai bg ei aE aL cq gG bF cf aG cT gc ca jv jt eZ dD cK eg da cI dY bq bL cg sx gE cr dc cJ lf dZ gh gp
theorem rn(n:Nat):bj 0 n=(List.range n).map ni:=by have:=yR n;unfold nl at this;injection this
section
variable{S:aa}
noncomputable def rb3:MB:=gE (cf (bZ (ac (mC (.int 0)) (ac (mC (.int 1)) (af))))) (ah 3) (aG) (sx (bZ (ac (ae 0) (ac (ae 1) (ac (ae 2) (ac (ae 3) (af)))))))
noncomputable def rb2:MB:=gE (aL (ac (nO (aF (ay iP (ae 0) (mC (.str "passes")))) (ay bH (mC eQ) (mC (.int 1))) (mC (.int 1))) (af))) (ah 2) (aG) rb3
noncomputable def rb1:MB:=gE (aL (ac (ay bH (mC dO) (mC (.int 1))) (af))) (ah 1) (aG) rb2
noncomputable def I1(w:Rw)(env:av):Prop:=∃ b c d,env=[O (.str w.s),b,c,d]
noncomputable def I2(w:Rw)(a:Nat)(env:av):Prop:=∃ c d,env=[O (.str w.s),O (ni a),c,d]
noncomputable def I3(w:Rw)(a b:Nat)(env:av):Prop:=∃ d,env=[O (.str w.s),O (ni a),O (ni b),d]
noncomputable def rd(w:Rw)(a b:Nat)(c:Int):D:=(Rl.mk w (a:Int) (b:Int) c).d
theorem OY{w:Rw}{a b:Nat}{env:av}(h:I3 w a b env):∃ env',rb3 env S=O (([0,1]:List Int).flatMap (λc=>[rd w a b c]),env',S)/\I3 w a b env':=by
 have k2:kP ([.int 0,.int 1],S)=O (.tup [.int 0,.int 1],S):=cW (by simp)
 have k4:∀ x y z u:D,kP ([x,y,z,u],S)=O (.tup [x,y,z,u],S):=λx y z u=>cW (by simp)
 obtain⟨env',h1,h2⟩:=eC (S:=S) (g:=ah 3) (bd:=sx (bZ (ac (ae 0) (ac (ae 1) (ac (ae 2) (ac (ae 3) (af))))))) (enc:=λc:Int=>.int c) (I3 w a b) (λc=>[rd w a b c]) [0,1] env h λc _ env hi=>by
  obtain⟨d,rfl⟩:=hi
  refine⟨[O (.str w.s),O (ni a),O (ni b),O (.int c)],[O (.str w.s),O (ni a),O (ni b),O (.int c)],by rw [aT];rfl,?_,⟨_,rfl⟩⟩
  simp only [NJ,fY,au,ar,df,eW,eV,oj,ob,ao,ak,ax,aj,k4,NS]
  rfl
 refine⟨env',?_,h2⟩
 simp only [rb3,su,gD,fY,au,bG,ob,ak,ax,aj,k2,xD,zH]
 exact h1
theorem OZ{w:Rw}{a:Nat}{env:av}(h:I2 w a env):∃ env',rb2 env S=O ((List.range (qC w)).flatMap (λb=>([0,1]:List Int).flatMap λc=>[rd w a b c]),env',S)/\I2 w a env':=by
 have w1:(w.s == ("passes":Str))=decide (w=.passes):=Rw.eq w .passes
 have f1:bH S eQ (.int 1)=O (.int 10):=rfl
 obtain⟨env',h1,h2⟩:=eC (S:=S) (g:=ah 2) (bd:=rb3) (enc:=ni) (I2 w a) (λb=>([0,1]:List Int).flatMap λc=>[rd w a b c]) (List.range (qC w)) env h λb _ env hi=>by
  obtain⟨c,d,rfl⟩:=hi
  obtain⟨env2,q1,d2,rfl⟩:=OY (S:=S) (w:=w) (a:=a) (b:=b) (env:=[O (.str w.s),O (ni a),O (ni b),d]) ⟨_,rfl⟩
  exact⟨_,_,by rw [aT];rfl,q1,⟨_,_,rfl⟩⟩
 refine⟨env',?_,h2⟩
 have hr:∀ env,I2 w a env->(aL (ac (nO (aF (ay iP (ae 0) (mC (.str "passes")))) (ay bH (mC eQ) (mC (.int 1))) (mC (.int 1))) (af))) env S=O ((List.range (qC w)).map ni,S):=by
  rintro _ ⟨c,d,rfl⟩
  unfold qC
  by_cases p:w=.passes
  ·simp only [eL,au,sv,bw,bb,ar,df,oj,ob,ao,aK,bG,aJ,gH,w1,decide_eq_true p,bz,CY,f1,ak,ax,aj,Td p]
   rw [jW (by decide) (by decide),<- rn];rfl
  ·simp only [eL,au,sv,bw,bb,ar,df,oj,ob,ao,aK,bG,aJ,gH,w1,Tw p,bz,HF,ak,ax,aj,Ts p]
   rw [jW (by decide) (by decide),<- rn];rfl
 rw [rb2,su,hr _ h,ob,zH]
 exact h1
theorem Pa{w:Rw}{env:av}(h:I1 w env):∃ env',rb1 env S=O ((List.range 6).flatMap (λa=>(List.range (qC w)).flatMap λb=>([0,1]:List Int).flatMap λc=>[rd w a b c]),env',S)/\I1 w env':=by
 have f1:bH S dO (.int 1)=O (.int 6):=rfl
 obtain⟨env',h1,h2⟩:=eC (S:=S) (g:=ah 1) (bd:=rb2) (enc:=ni) (I1 w) (λa=>(List.range (qC w)).flatMap λb=>([0,1]:List Int).flatMap λc=>[rd w a b c]) (List.range 6) env h λa _ env hi=>by
  obtain⟨b,c,d,rfl⟩:=hi
  obtain⟨env2,q1,c2,d2,rfl⟩:=OZ (S:=S) (w:=w) (a:=a) (env:=[O (.str w.s),O (ni a),c,d]) ⟨_,_,rfl⟩
  exact⟨_,_,by rw [aT];rfl,q1,⟨_,_,_,rfl⟩⟩
 refine⟨env',?_,h2⟩
 simp only [rb1,su,eL,au,bb,bG,ob,aK,aJ,f1,ao,ak,ax,aj]
 rw [jW (by decide) (by decide),ob,zH]
 exact h1
theorem Ku:(allW.flatMap λw=>(List.range 6).flatMap λa=>(List.range (qC w)).flatMap λb=>([0,1]:List Int).flatMap λc=>[rd w a b c])=rulesL.map Rl.d:=by
 simp only [rulesL,Wo]
 rfl
noncomputable def ruleKs:List (ba×D):=rulesL.map λr=>(.inr (iG r),r.d)
theorem Gp:∀ r∈rulesL,r.Ok:=λr hr=>by
 unfold rulesL at hr
 simp only [VG,UE,Tg,Tc,TD,UK] at hr
 obtain⟨w,_,a,ha,b,hb,c,hc,rfl⟩:=hr
 have:qC w<=10:=by unfold qC;split <;> decide
 refine⟨?_,?_,?_,?_,?_,?_⟩ <;> dsimp only <;> omega
theorem Kv(S:aa):∃ T,dM [] S=O (.dct (ruleKs.map (·.1)) (ruleKs.map (·.2)),S++T):=by
 rw [oT,aV (show ([]:List D).length=0 from rfl),show aM dP []=[U] from rfl]
 obtain⟨env',h1,_⟩:=eC (S:=S) (g:=ah 0) (bd:=rb1) (enc:=λw:Rw=>.str w.s) (λenv=>∃ a b c d,env=[a,b,c,d]) (λw=>(List.range 6).flatMap (λa=>(List.range (qC w)).flatMap λb=>([0,1]:List Int).flatMap λc=>[rd w a b c])) allW [U,U,U,U] ⟨_,_,_,_,rfl⟩ λw _ env hi=>by
  obtain⟨a,b,c,d,rfl⟩:=hi
  obtain⟨env2,q1,b2,c2,d2,rfl⟩:=Pa (S:=S) (w:=w) (env:=[O (.str w.s),b,c,d]) ⟨_,_,_,rfl⟩
  exact⟨_,_,by rw [aT];rfl,q1,⟨_,_,_,_,rfl⟩⟩
 rw [Ku] at h1
 obtain⟨T,h2⟩:=mM (g:=ah 0) (a:=ag 1 cy (ac (ae 0) (af))) (b:=ae 0) (enc:=Rl.d) (λenv=>∃ a,env=[a]) iG rulesL [U] S [] ⟨_,rfl⟩ (by rw [uI];decide) λr hr env S hi=>by
  obtain⟨a,rfl⟩:=hi
  obtain⟨T,e⟩:=rH S (Gp r hr)
  refine⟨[O r.d],T,by rw [aT];rfl,?_,λS=>by simp only [ar,df,oj,ob,ao],⟨_,rfl⟩⟩
  simp only [aO,au,ar,df,oj,ob,ao,ak,ax,aj,cE,e]
 rw [yU yD] at h2
 refine⟨T,?_⟩
 have hm:kz=aw (aE (cr (cf (mC gk)) (ah 0) (aG) rb1 [U,U,U,U]) (ah 0)) (aN (dc (cf (ae 0)) (ah 0) (aG) (ag 1 cy (ac (ae 0) (af))) (ae 0) [U])):=rfl
 have ki:xE (gk,S)=O (allW.map λw=>.str w.s,S):=rfl
 have kl:∀ e,HU (rulesL.map Rl.d,e,S)=O (.lst (rulesL.map Rl.d),S):=λe=>CZ (by rw [SX,uI];decide)
 rw [hm]
 simp only [bC,ci,zw,gD,bG,ob,ki,NW,show iX [U,U,U,U] [U]=[U,U,U,U] from rfl,h1,kl,cm,aT,mf,dI,aX,bo,zt,ar,df,oj,ao,sI,NU,show ∀ x:Option D,iX [U] [x]=[U] from λ_=>rfl,h2,HJ,bQ,aP]
 rfl
theorem Gq{r:Rl}(h:r.Ok)(hb:r.w≠.passes->r.b=0):r∈rulesL:=by
 obtain⟨w,a,b,c⟩:=r
 obtain⟨a0,a5,b0,b9,c0,c1⟩:=h
 dsimp only at *
 unfold rulesL
 simp only [VG,UE,Tg,Tc,TD,UK]
 refine⟨w,by cases w <;> decide,a.toNat,by omega,b.toNat,?_,c,by omega,?_⟩
 ·unfold qC
  split
  ·omega
  ·rename_i p;have:=hb p;omega
 ·rw [show ((a.toNat:Nat):Int)=a by omega,show ((b.toNat:Nat):Int)=b by omega]
theorem rJ(S:aa){r:Rl}(h:r.Ok)(hb:r.w≠.passes->r.b=0):∃ T,dw [.str (iG r)] S=O (r.d,S++T):=by
 rw [wZ,aV (show [D.str (iG r)].length=1 from rfl),show aM gX [D.str (iG r)]=[O (.str (iG r)),U] from rfl]
 obtain⟨T,e⟩:=Kv S
 have ii:ij "str" S (.str (iG r))=O (.bl true):=rfl
 have gv:og (.dct (ruleKs.map (·.1)) (ruleKs.map (·.2))) [.str (iG r)] (S++T)=O (r.d,S++T):=by
  rw [Mc (k:=.inr (iG r)) rfl]
  unfold ruleKs
  rw [vT (key:=iG) (enc:=Rl.d) yD r (Gq h hb)]
  rfl
 have nn:qE r.d .non=false:=rfl
 refine⟨T,?_⟩
 simp only [pM,bC,ci,sv,fZ,mK,ar,df,eW,eV,oj,ob,ao,mP,ii,ic,CY,zm,aO,ax,HS,e,zE,au,ak,aj,dJ,gv,cm,aT,mf,pg,dI,aX,bM,bw,bb,bG,aK,aJ,Iy,nn,bz,cj,bI,bo,bQ,aP]
end
end K48
end
section
namespace K48
open MI L2
open M hiding mC ae ay aF bU cn dG dX bK fe xp gO nO af ac bZ cU dm xm cZ eY cY aA db ag aI aw aN cG bx ah be ai bg ei aE aL cq gG bF cf aG cT gc ca jv jt eZ dD cK eg da cI dY bq bL cg sx gE cr dc cJ lf dZ gh gp
section
variable{S:aa}
noncomputable def db2:MB:=gE (cf (ae 3)) (ah 2) (aG) (sx (bZ (ac (ae 0) (ac (ae 1) (ac (ae 2) (af))))))
noncomputable def db1:MB:=gE (aL (ac (ae 4) (af))) (ah 1) (aG) db2
noncomputable def FF:D:=.lst (lefts.map bA)
noncomputable def J1(n:Nat)(w:Bool)(env:av):Prop:=∃ b c,env=[O (.str (aS w)),b,c,O FF,O (ni n)]
noncomputable def J2(n:Nat)(w:Bool)(g:Nat)(env:av):Prop:=∃ c,env=[O (.str (aS w)),O (ni g),c,O FF,O (ni n)]
theorem Si{n g:Nat}{w:Bool}{env:av}(h:J2 n w g env):∃ env',db2 env S=O (lefts.flatMap (λt=>[(Dd.ask w g t).d]),env',S)/\J2 n w g env':=by
 have k3:∀ x y z:D,kP ([x,y,z],S)=O (.tup [x,y,z],S):=λx y z=>cW (by simp)
 obtain⟨env',h1,h2⟩:=eC (S:=S) (g:=ah 2) (bd:=sx (bZ (ac (ae 0) (ac (ae 1) (ac (ae 2) (af)))))) (enc:=bA) (J2 n w g) (λt=>[(Dd.ask w g t).d]) lefts env h λt _ env hi=>by
  obtain⟨c,rfl⟩:=hi
  refine⟨[O (.str (aS w)),O (ni g),O (bA t),O FF,O (ni n)],[O (.str (aS w)),O (ni g),O (bA t),O FF,O (ni n)],by rw [aT];rfl,?_,⟨_,rfl⟩⟩
  simp only [NJ,fY,au,ar,df,eW,eV,oj,ob,ao,ak,ax,aj,k3,NS]
  rfl
 refine⟨env',?_,h2⟩
 have hv:cf (ae 3) env S=O (lefts.map bA,S):=by
  obtain⟨c,rfl⟩:=h
  simp only [gD,ar,df,eW,eV,oj,ob,ao,FF,sI]
 rw [db2,su,hv,ob,zH]
 exact h1
theorem Sj{n:Nat}{w:Bool}{env:av}(hn:n<=5)(h:J1 n w env):∃ env',db1 env S=O ((List.range n).flatMap (λg=>lefts.flatMap λt=>[(Dd.ask w g t).d]),env',S)/\J1 n w env':=by
 obtain⟨env',h1,h2⟩:=eC (S:=S) (g:=ah 1) (bd:=db2) (enc:=ni) (J1 n w) (λg=>lefts.flatMap λt=>[(Dd.ask w g t).d]) (List.range n) env h λg _ env hi=>by
  obtain⟨b,c,rfl⟩:=hi
  obtain⟨env2,q1,c2,rfl⟩:=Si (S:=S) (n:=n) (w:=w) (g:=g) (env:=[O (.str (aS w)),O (ni g),c,O FF,O (ni n)]) ⟨_,rfl⟩
  exact⟨_,_,by rw [aT];rfl,q1,⟨_,_,rfl⟩⟩
 refine⟨env',?_,h2⟩
 have hv:aL (ac (ae 4) (af)) env S=O ((List.range n).map ni,S):=by
  obtain⟨b,c,rfl⟩:=h
  simp only [eL,au,ar,df,eW,eV,oj,ob,ao,ak,ax,aj]
  show NM ([.int (n:Int)],S)=_
  rw [jW (by omega) (by omega),UP,rn]
 rw [db1,su,hv,ob,zH]
 exact h1
noncomputable def my(n:Nat):List Dd:=([false,true]:List Bool).flatMap (λw=>(List.range n).flatMap λg=>lefts.flatMap λt=>[.ask w g t])
noncomputable def mz(n:Nat):List Dd:=allA.flatMap λk=>(List.range n).flatMap λg=>[.act k g]
theorem Sw(n:Nat):(([false,true]:List Bool).flatMap (λw=>(List.range n).flatMap λg=>lefts.flatMap λt=>[(Dd.ask w g t).d]))=(my n).map Dd.d:=by
 simp only [my,Wo];rfl
theorem SA(n:Nat):(allA.flatMap λk=>(List.range n).map λg=>(Dd.act k g).d)=(mz n).map Dd.d:=by
 simp only [mz,Wo]
 congr 1;funext k
 induction List.range n with
 | nil=>rfl
 | cons g l ih=>rw [Ta,List.flatMap_cons,<- ih];rfl
noncomputable def eH(n:Nat):List (ba×D):=(gj n).map λdd=>(.inr (aW dd),dd.d)
theorem Jq{n:Nat}:∀ dd∈gj n,dd.Ok n:=λdd hd=>by
 unfold gj at hd
 simp only [Tr,VG,UE,Tg] at hd
 rcases hd with (⟨w,_,g,hg,t,ht,rfl⟩ | ⟨k,_,g,hg,rfl⟩) | rfl
 ·refine⟨hg,λk e=>?_⟩
  subst e
  unfold lefts at ht
  simp only [Tc,Tz,UE,We] at ht
  rcases ht with ht | ⟨i,hi,rfl⟩
  ·cases ht
  ·omega
 ·exact hg
 ·trivial
theorem Aj{n:Nat}{dd:Dd}(h:dd.Ok n):dd∈gj n:=by
 unfold gj
 simp only [Tr,VG,UE,Tg]
 cases dd with
 | ask w g t=>
  refine .inl (.inl ⟨w,by cases w <;> simp,g,h.1,t,?_,rfl⟩)
  unfold lefts
  cases t with
  | none=>simp
  | some k=>
   have:=h.2 k rfl
   simp only [Tc,Tz,UE,We]
   exact .inr ⟨k.toNat,by omega,by omega⟩
 | act k g=>exact .inl (.inr ⟨k,by cases k <;> decide,g,h,rfl⟩)
 | tick=>exact .inr rfl
theorem EY:∀ n,n<=5->(gj n).length<=200/\(my n).length<=200/\(mz n).length<=200:=by decide +kernel
theorem MH(n:Nat):(my n).map Dd.d++(mz n).map Dd.d++[.tup [.str "tick"]]=(gj n).map Dd.d:=by
 rw [show gj n=my n++mz n++[.tick] from rfl,UG,UG];rfl
theorem MJ(S:aa){n:Nat}(hn:n<=5):∃ T,cQ [.int (n:Int)] S=O (.dct ((eH n).map (·.1)) ((eH n).map (·.2)),S++T):=by
 rw [oU,aV (show [D.int (n:Int)].length=1 from rfl),show aM dQ [D.int (n:Int)]=[O (ni n),U,U,U] from rfl]
 obtain⟨l1,l2,l3⟩:=EY n hn
 obtain⟨env',h1,_⟩:=eC (S:=S) (g:=ah 0) (bd:=db1) (enc:=λw:Bool=>.str (aS w)) (λenv=>∃ a b c,env=[a,b,c,O FF,O (ni n)]) (λw=>(List.range n).flatMap λg=>lefts.flatMap λt=>[(Dd.ask w g t).d]) [false,true] [U,U,U,O FF,O (ni n)] ⟨_,_,_,rfl⟩ λw _ env hi=>by
  obtain⟨a,b,c,rfl⟩:=hi
  obtain⟨env2,q1,b2,c2,rfl⟩:=Sj (S:=S) (n:=n) (w:=w) (env:=[O (.str (aS w)),b,c,O FF,O (ni n)]) hn ⟨_,_,rfl⟩
  exact⟨_,_,by rw [aT];rfl,q1,⟨_,_,_,rfl⟩⟩
 rw [Sw] at h1
 have h3:=JI (S:=S) (e:=bZ (ac (ae 0) (ac (ae 1) (af)))) (mi:=aL (ac (ae 2) (af))) (enc:=λk:Ak=>.str k.s) (c:=O (ni n)) (n:=n) (f:=λk g=>(Dd.act k g).d) (λk b=>by
  simp only [eL,au,ar,df,eW,eV,oj,ob,ao,ak,ax,aj]
  show NM ([.int (n:Int)],S)=_
  rw [jW (by omega) (by omega),UP,rn]) (λk g=>by
  simp only [fY,au,ar,df,eW,eV,oj,ob,ao,ak,ax,aj]
  exact cW (by simp)) allA U U
 rw [SA] at h3
 obtain⟨T,h2⟩:=mM (g:=ah 0) (a:=ag 1 cz (ac (ae 0) (af))) (b:=ae 0) (enc:=Dd.d) (λenv=>∃ a,env=[a]) aW (gj n) [U] S [] ⟨_,rfl⟩ (by simp only [Uk];omega) λdd hr env S hi=>by
  obtain⟨a,rfl⟩:=hi
  have e:=tO S (Jq dd hr) (by omega)
  refine⟨[O dd.d],[],by rw [aT];rfl,?_,λS=>by simp only [ar,df,oj,ob,ao],⟨_,rfl⟩⟩
  simp only [aO,au,ar,df,oj,ob,ao,ak,ax,aj,cE,e,Tx]
 rw [yU (Ai n hn)] at h2
 refine⟨T,?_⟩
 have hm:kA=aw (aE (ay bH (cU (ac (mC .non) (af))) (da (ac (ay bH (mC bR) (mC (.int 1))) (af)))) (ah 1)) (aw (aE (cr (cf (mC fq)) (ah 0) (aG) db1 [U,U,U,O 1,O 0]) (ah 2)) (aw (aE (cg (cf (mC fh)) (ah 0) (aG) (aL (ac (ae 2) (af))) (ah 1) (aG) (bZ (ac (ae 0) (ac (ae 1) (af)))) [U,U,O 0]) (ah 3)) (aN (dc (cf (ay bH (ay bH (ae 2) (ae 3)) (cU (ac (bZ (ac (mC (.str "tick")) (af))) (af))))) (ah 0) (aG) (ag 1 cz (ac (ae 0) (af))) (ae 0) [U])))):=rfl
 have ki:xE (fq,S)=O (([false,true]:List Bool).map λw=>.str (aS w),S):=rfl
 have kj:xE (fh,S)=O (allA.map λk=>.str k.s,S):=rfl
 have kl:∀ e,HU ((my n).map Dd.d,e,S)=O (.lst ((my n).map Dd.d),S):=λe=>CZ (by rw [SX];omega)
 have k9:LK ((mz n).map Dd.d,S)=O (.lst ((mz n).map Dd.d),S):=LJ (by rw [SX];omega)
 have f1:bH S bR (.int 1)=O (.int 10):=rfl
 have f2:mO ([.non],S)=O (.lst [.non],S):=eh (by simp)
 have f3:Bw ([.int 10],S)=O (.lst (bj 0 10),S):=Eu (by decide) (by decide)
 have f4:bH S (.lst [.non]) (.lst (bj 0 10))=O FF:=xP (by decide)
 have f5:bH S (.lst ((my n).map Dd.d)) (.lst ((mz n).map Dd.d))=O (.lst ((my n).map Dd.d++(mz n).map Dd.d)):=xP (by rw [SX,SX];omega)
 have f6:kP ([.str "tick"],S)=O (.tup [.str "tick"],S):=cW (by simp)
 have f7:mO ([.tup [.str "tick"]],S)=O (.lst [.tup [.str "tick"]],S):=eh (by simp)
 have f8:bH S (.lst ((my n).map Dd.d++(mz n).map Dd.d)) (.lst [.tup [.str "tick"]])=O (.lst ((gj n).map Dd.d)):=by
  rw [xP (by rw [Tl,SX,SX];simp only [SY,Uk];omega),MH]
 rw [hm]
 simp only [bC,ci,bb,mI,au,bG,ob,ak,ax,aj,f2,aK,Hs,aJ,f1,ao,f3,f4,cm,aT,mf,pg,dI,aX,zw,gD,ki,NW,show ∀ a b:Option D,iX [U,U,U,O 1,O 0] [O (ni n),O FF,a,b]=[U,U,U,O FF,O (ni n)] from λ_ _=>rfl,h1,kl,
  Hx,kj,QO,show ∀ a b c:Option D,iX [U,U,O 0] [O (ni n),a,b,c]=[U,U,O (ni n)] from λ_ _ _=>rfl,h3,k9,bo,zt,ar,df,eW,eV,oj,f5,fY,f6,f7,f8,sI,NU,show ∀ e:av,iX [U] e=[U] from λ_=>rfl,h2,HJ,bQ,aP]
 rfl
end
end K48
end
section
namespace K48
open MI L2
open M hiding mC ae ay aF bU cn dG dX bK fe xp gO nO af ac bZ cU dm xm cZ eY cY aA db ag aI aw aN cG bx ah be ai bg ei aE aL cq gG bF cf aG cT gc ca jv jt eZ dD cK eg da cI dY bq bL cg sx gE cr dc cJ lf dZ gh gp
theorem tN:∀ dd∈gj 5,10 ∉ (aW dd).cps.toList/\1<=(aW dd).length:=by
 have h:((gj 5).all λdd=>!((aW dd).cps.toList.contains 10)&&decide (1<=(aW dd).length))=true:=by decide +kernel
 intro dd hd
 have:=Tj.mp h dd hd
 rw [SM,Bool.not_eq_true',TU] at this
 refine⟨λz=>?_,this.2⟩
 rw [List.contains_iff_mem.mpr z] at this
 cases this.1
theorem ok5{n:Nat}(hn:n<=5){dd:Dd}(h:dd.Ok n):dd∈gj 5:=Aj (by
 cases dd with
 | ask w g t=>exact⟨Tf h.1 hn,h.2⟩
 | act k g=>exact Tf h hn
 | tick=>trivial)
theorem Bd:(Str.ofString "\n").cps.toList=[10]/\Builtin.Str.strKind (Str.ofString "\n")=1/\((Str.ofString "\n").length == 0)=false:=by decide +kernel
theorem jL:(Str.ofString " ").cps.toList=[32]/\Builtin.Str.strKind (Str.ofString " ")=1/\((Str.ofString " ").length == 0)=false:=by decide +kernel
theorem BY:(Str.ofString ", ").cps.toList=[44,32]/\Builtin.Str.strKind (Str.ofString ", ")=1/\((Str.ofString ", ").length == 0)=false:=by decide +kernel
theorem zC{S:aa}{y:Str}(h:y.length<=1000000):Bv (.str y,S)=O ((y.length:Int) != 0,S):=by
 show (if y.length<=sizeLine then O ((y.length:Int) != 0) else U).bind _=_
 rw [Td (szM h)];rfl
theorem LN(y x:Str)(r:List Str):x.length<=(Str.join y (x::r)).length:=by
 cases r with
 | nil=>exact SS _
 | cons q r=>show x.length<=(x++y++Str.join y (q::r)).length;rw [dH,dH];omega
theorem Kw{n:Nat}(hn:n<=5){l:List Dd}(h:∀ dd∈l,dd.Ok n)(hl:l.length<=20):(Str.join "\n" (l.map aW)).length<=1000000:=by
 have:=mD (λdd=>(aW dd).length) 3000 l λdd hm=>pE (h dd hm) (by omega)
 have g:=lL (Str.ofString "\n") (l.map aW)
 rw [TJ,SX,zB.2.2.2.2.1] at g
 refine Th g ?_
 show (l.map λdd=>(aW dd).length).sum+_<=_
 omega
noncomputable def ph(l:List Dd):List D:=l.map λdd=>.str (aW dd)
section
variable{S:aa}
noncomputable def rrB:MS:=bx (aF (ay oa (ae 5) (ae 3))) (fT) (aI)
theorem yn{n:Nat}(hn:n<=5){dd:Dd}(h:dd.Ok n):dC (eH n) (.inr (aW dd))=O dd.d:=vT (key:=aW) (enc:=Dd.d) (Ai n hn) dd (Aj h)
theorem Gr{n:Nat}(hn:n<=5){a0 a1 a2:Option D}:∀ (l:List Dd) (i:Nat) (a4 a5:Option D),(∀ dd∈l,dd.Ok n)->∃ b4 b5,cx (bg 2 (ai (ah 4) (ai (ah 5) (be)))) rrB (gR i (ph l)) [a0,a1,a2,O (.dct ((eH n).map (·.1)) ((eH n).map (·.2))),a4,a5] S=O (.nx [a0,a1,a2,O (.dct ((eH n).map (·.1)) ((eH n).map (·.2))),b4,b5] S)
 | [],i,a4,a5,_=>⟨a4,a5,rfl⟩
 | dd::l,i,a4,a5,h=>by
  obtain⟨b4,b5,ih⟩:=Gr hn (a0:=a0) (a1:=a1) (a2:=a2) l (i+1) (O (.int (i:Nat))) (O (.str (aW dd))) λx hx=>h x (SO _ hx)
  refine⟨b4,b5,?_⟩
  have hv:(dC (eH n) (.inr (aW dd))).isSome=true:=by rw [yn hn (h dd (by simp))];rfl
  show cx _ rrB (.tup [.int (i:Nat),.str (aW dd)]::gR (i+1) (ph l)) _ _=_
  rw [gF]
  simp only [qT,dL,aT,mf,pg,ob,kH,fo,pk]
  have e:rrB [a0,a1,a2,O (.dct ((eH n).map (·.1)) ((eH n).map (·.2))),O (.int (i:Nat)),O (.str (aW dd))] S=O (.nx [a0,a1,a2,O (.dct ((eH n).map (·.1)) ((eH n).map (·.2))),O (.int (i:Nat)),O (.str (aW dd))] S):=by
   simp only [rrB,bM,bw,bb,ar,df,eW,eV,oj,ob,ao,aK,aJ,BD,hv,TF,bz,cj,bI]
  rw [e,ob,lJ,ih]
theorem lG(S:aa){n:Nat}{l:List Dd}(hn:n<=5)(h:∀ dd∈l,dd.Ok n)(hl:l.length<=20):∃ T,bD [.int (n:Int),.str (Str.join "\n" (l.map aW))] S=O (.tup (l.map Dd.d),S++T):=by
 rw [yW,aV (show [D.int (n:Int),D.str (Str.join "\n" (l.map aW))].length=2 from rfl),show aM iR [D.int (n:Int),D.str (Str.join "\n" (l.map aW))]=[O (.int (n:Int)),O (.str (Str.join "\n" (l.map aW))),U,U,U,U] from rfl]
 have ln:=Kw hn h hl
 obtain⟨T,e⟩:=MJ S hn
 have ii:ij "str" S (.str (Str.join "\n" (l.map aW)))=O (.bl true):=rfl
 have lines:∀ a2 a3 a4 a5,nO (cn (ae 1)) (cJ (ae 1) (ac (mC (.str "\n")) (af))) (cU (af)) [O (.int (n:Int)),O (.str (Str.join "\n" (l.map aW))),a2,a3,a4,a5] S=O (.lst (ph l),S):=λa2 a3 a4 a5=>by
  cases l with
  | nil=>
   have z:(((Str.join "\n" ([].map aW)).length:Int) != 0)=false:=rfl
   simp only [sv,fZ,ar,df,eW,eV,oj,ob,ao,zC ln,z,HF,mI,ax]
   exact eh (by simp)
  | cons dd r=>
   have z:(((Str.join "\n" ((dd::r).map aW)).length:Int) != 0)=true:=by
    have:=LN "\n" (aW dd) (r.map aW)
    have h1:=(tN dd (ok5 hn (h dd (by simp)))).2
    have:1<=(Str.join "\n" ((dd::r).map aW)).length:=Th h1 this
    rw [WI];omega
   have sj:Txt.split (Str.join "\n" ((dd::r).map aW)) "\n" = (dd::r).map aW:=jK Bd.1 Bd.2.1 (by simp) λp hp=>by
    obtain⟨x,hx,rfl⟩:=Tz.mp hp
    exact(tN x (ok5 hn (h x hx))).1
   simp only [sv,fZ,ar,df,eW,eV,oj,ob,ao,zC ln,z,CY,nK,xz,au,bG,ak,ax,aj,lj Bd.2.2 ln,sj]
   unfold ph
   rw [TJ];rfl
 obtain⟨b4,b5,lp⟩:=Gr (S:=S++T) hn (a0:=O (.int (n:Int))) (a1:=O (.str (Str.join "\n" (l.map aW)))) (a2:=O (.lst (ph l))) l 0 U U h
 have kc:=iJ (S:=S++T) (t:=aG) (e:=ay aQ (ae 1) (ae 0)) (cap:=[U,O 3]) (env:=[O (.int (n:Int)),O (.str (Str.join "\n" (l.map aW))),O (.lst (ph l)),O (.dct ((eH n).map (·.1)) ((eH n).map (·.2))),b4,b5]) (rest:=[O (.dct ((eH n).map (·.1)) ((eH n).map (·.2)))]) (a:=U) (enc:=λdd=>.str (aW dd)) (p:=λ_=>true) (f:=Dd.d) (xs:=l) rfl (by omega) (λ_ _=>ee) (λdd hm _=>by
  have:=fIx_d (S:=S++T) (l:=eH n) (y:=.str (aW dd)) (k:=.inr (aW dd)) rfl
  rw [yn hn (h dd hm)] at this
  simp only [bb,ar,df,eW,eV,oj,ob,ao,aK,aJ,this])
 rw [TX.mpr (λ_ _=>rfl)] at kc
 have hm:sg=aw (bx (bK (cn (db "str" (ae 1)))) (fT) (aI)) (aw (aE (nO (cn (ae 1)) (cJ (ae 1) (ac (mC (.str "\n")) (af))) (cU (af))) (ah 2)) (aw (aE (ag 1 cQ (ac (ae 0) (af))) (ah 3)) (aw (gG (dZ (ac (ae 2) (af))) (bg 2 (ai (ah 4) (ai (ah 5) (be)))) rrB) (aN (aA (aq (fS .tup)) (ac (bF (cf (ae 2)) (ah 0) (aG) (ay aQ (ae 1) (ae 0)) [U,O 3]) (af))))))):=rfl
 refine⟨T,?_⟩
 rw [hm]
 simp only [bC,bM,gb,fZ,mK,ar,df,eW,eV,oj,ob,ao,mP,ii,ic,gg,TF,cj,bI,aX,ci,lines,cm,aT,mf,pg,dI,aO,au,ak,ax,aj,cE,e,xr,Hv,HG,xF,lp,bo,bS,ge,gD,sI]
 show ((((sL (ah 0) aG (ay aQ (ae 1) (ae 0)) [U,O 3] _ (l.map (λdd=>.str (aW dd)),S++T)).bind _).bind _).bind _).bind _=_
 rw [kc]
 simp only [ob,ak,ax,aj,bT,xK,bQ,aP]
noncomputable def figs:List Str:=["0","1","2","3","4","5","6","7","8","9"]
theorem tf{x:Str}{l:List Str}:EH S (.str x) (.tup (l.map .str))=O (.bl (l.any λy=>y == x))/\mT S (.str x) (.tup (l.map .str))=O (.bl (!l.any λy=>y == x)):=by
 have o1:bP 40 (.str x)=true:=rfl
 have o2:((l.map D.str).all (bP 39))=true:=by rw [Xb];exact Tj.mpr λ_ _=>rfl
 have e:((l.map D.str).any λd=>kf d (.str x))=l.any λy=>y == x:=by
  have q:∀ y,kf (.str y) (.str x)=(y == x):=λy=>by rw [kf]
  simp only [List.any_map,Function.comp_def,q]
 constructor
 ·show (if bP 40 (.str x)=true/\((l.map D.str).all (bP 39))=true then O (D.bl ((l.map D.str).any λd=>kf d (.str x))) else U)=_
  rw [Td ⟨o1,o2⟩,e]
 ·show (if bP 40 (.str x)=true/\((l.map D.str).all (bP 39))=true then O (D.bl (!(l.map D.str).any λd=>kf d (.str x))) else U)=_
  rw [Td ⟨o1,o2⟩,e]
theorem Io:dW=.tup (figs.map .str):=rfl
theorem Ip{c:Nat}(h:48<=c/\c<=57):(figs.any λy=>y == (⟨#[c]⟩:Str))=true:=by
 obtain rfl | rfl | rfl | rfl | rfl | rfl | rfl | rfl | rfl | rfl:c=48\/c=49\/c=50\/c=51\/c=52\/c=53\/c=54\/c=55\/c=56\/c=57:=by omega
 all_goals decide +kernel
theorem qU{k:Int}(h0:0<=k)(h9:k<=9):(figs.any λy=>y == iS k)=true/\32 ∉ (iS k).cps.toList/\44 ∉ (iS k).cps.toList/\(iS k == ("-":Str))=false/\(iS k).length<=3:=by
 obtain rfl | rfl | rfl | rfl | rfl | rfl | rfl | rfl | rfl | rfl:k=0\/k=1\/k=2\/k=3\/k=4\/k=5\/k=6\/k=7\/k=8\/k=9:=by omega
 all_goals decide +kernel
noncomputable def mkB(z:Str):Bool:=decide (1<=z.length)&&decide (z.length<=3)&&(z.cps.toList.all λc=>decide (48<=c)&&decide (c<=57))&&((z == ("0":Str)) || !((⟨#[z.cps.toList.headD 0]⟩:Str) == ("0":Str)))
theorem se:∀ m∈za,mkB (iS m)=true/\0<=m/\m<=999:=by decide +kernel
theorem Ie{z:Str}(h:mkB z=true):eE [.str z] S=O (.bl true,S):=by
 unfold mkB at h
 rw [SM,SM,SM,TU,TU,Tj] at h
 obtain⟨⟨⟨h1,h3⟩,hd⟩,hz⟩:=h
 have dg:∀ c∈z.cps.toList,48<=c/\c<=57:=λc hc=>by have:=hd c hc;rw [SM,TU,TU] at this;exact this
 rw [qA,aV (show [D.str z].length=1 from rfl),show aM eI [D.str z]=[O (.str z)] from rfl]
 have fl:aq eN [.str z] S=O (.int (z.length:Nat),S):=by
  have:eN S [.str z]=O (.int (z.length:Nat)):=Td (szM (by omega))
  show (eN S [.str z]).bind _=_
  rw [this];rfl
 have as:z.cps.all (· < 128)=true:=by
  rw [<- Array.all_toList]
  exact Tj.mpr λc hc=>decide_eq_true (by have:=dg c hc;omega)
 have kc:=iJ (S:=S) (t:=aG) (e:=ay EH (ae 0) (mC dW)) (cap:=[U]) (env:=[O (.str z)]) (rest:=[]) (a:=U) (enc:=λc:Nat=>.str ⟨#[c]⟩) (p:=λ_=>true) (f:=λ_=>.bl true) (xs:=z.cps.toList) rfl (by show z.cps.toList.length<=1000;rw [UU];exact Th h3 (by decide)) (λ_ _=>ee) (λc hc _=>by
  have:=(tf (S:=S) (x:=(⟨#[c]⟩:Str)) (l:=figs)).1
  rw [Ip (dg c hc),<- Io] at this
  simp only [bb,ar,df,oj,ob,ao,aK,bG,aJ,this])
 rw [TX.mpr (λ_ _=>rfl)] at kc
 have al:aq pv [.lst (z.cps.toList.map λ_=>.bl true)] S=O (.bl true,S):=by
  rw [xO (kh (p:=λ_=>true) z.cps.toList)];simp
 have hl1:decide ((1:Int)<=(z.length:Nat))=true:=decide_eq_true (by omega)
 have hl3:LY S (.int (z.length:Nat)) gl=O (.bl true):=by
  show LY S (.int (z.length:Nat)) (.int 3)=_
  rw [Of,decide_eq_true (by omega)]
 have kq:QB (.str z,S)=O (z.cps.toList.map λc=>.str ⟨#[c]⟩,S):=LG as
 simp only [le,bC,bM,jR,gb,bw,Hy,bG,ob,QW,bS,au,ar,df,oj,ao,ak,ax,aj,bT,fl,QV,Of,hl1,QS,QT,hl3,bz,gg,TF,jX,fZ,ge,Qf,kq,kc,al,ic,cj,bI,aX,bo,Hn,bb,aK,aJ,gH]
 cases hq:(z == ("0":Str)) with
 | true=>simp only [NO,ob,bQ,aP]
 | false=>
  rw [hq,Bool.false_or] at hz
  obtain⟨c,r,hc⟩:∃ c r,z.cps.toList=c::r:=by
   cases hz:z.cps.toList with
   | nil=>
    have:z.length=0:=by rw [<- show z.cps.toList.length=z.length by simp [Str.length],hz];rfl
    omega
   | cons c r=>exact⟨c,r,rfl⟩
  have ix:BH S (.str z) (.int 0)=O (.str ⟨#[c]⟩):=LZ (by rw [hc];exact JU (i:=0) rfl) (by omega)
  rw [hc] at hz
  have hz':(!((⟨#[c]⟩:Str) == ("0":Str)))=true:=hz
  simp only [NP,bb,ar,df,oj,ob,ao,aK,bG,aJ,ix,pq,hz',bQ,aP]
theorem wd(b:Bool):32 ∉ (aS b).cps.toList/\44 ∉ (aS b).cps.toList:=by cases b <;> decide +kernel
theorem Bk:∀ m∈za,32 ∉ (iS m).cps.toList/\44 ∉ (iS m).cps.toList:=by decide +kernel
theorem pF:32 ∉ (Str.ofString "-").cps.toList/\44 ∉ (Str.ofString "-").cps.toList/\((Str.ofString "-") == ("-":Str))=true:=by decide +kernel
theorem Em{t:Option Int}(h:∀ k,t=O k->1<=k/\k<=9):32 ∉ (fL t).cps.toList/\44 ∉ (fL t).cps.toList:=by
 cases t with
 | none=>exact⟨pF.1,pF.2.1⟩
 | some k=>have:=h k rfl;have f:=qU (k:=k) (by omega) this.2;exact⟨f.2.1,f.2.2.1⟩
noncomputable def mG(e:En):List Str:=[iS (e.g:Int),aS e.wr,iS e.m,fL e.t]
theorem rh(e:En):bX e=Str.join " " (mG e):=by
 unfold bX mG iS
 simp only [jw,Ul,List.foldl_nil,Vh]
theorem rR{e:En}(hg:e.g<5)(h:EnQ e):∀ p∈mG e,32 ∉ p.cps.toList/\44 ∉ p.cps.toList:=by
 intro p hp
 unfold mG at hp
 simp only [Tc,TD,UK] at hp
 rcases hp with rfl | rfl | rfl | rfl
 ·have f:=qU (k:=(e.g:Int)) (by omega) (by omega);exact⟨f.2.1,f.2.2.1⟩
 ·exact wd _
 ·exact Bk _ h.m
 ·exact Em h.t
theorem EnQ.s{e:En}(hg:e.g<5)(h:EnQ e):Ot e:=by
 have m:=se _ h.m
 exact⟨by omega,m.2.1,by omega,h.t⟩
theorem AA{e:En}(hg:e.g<5)(h:EnQ e):Txt.split (bX e) " " = mG e:=by
 rw [rh]
 exact jK jL.1 jL.2.1 (by unfold mG;simp) λp hp=>(rR hg h p hp).1
theorem xI{k:Int}(h0:0<=k)(h9:k<=999)(hl:(iS k).length<=3):∀ S,aq mr [.str (iS k)] S=O (.int k,S):=λS=>Iz (W.KIN.num_reads h0 (by omega)) (by omega)
theorem Ej:∀ m∈za,(iS m).length<=3:=by decide +kernel
theorem AS(S:aa){e:En}(hg:e.g<5)(h:EnQ e):fP [.str (bX e)] S=O (e.d,S):=by
 rw [wY,aV (show [D.str (bX e)].length=1 from rfl),show aM gW [D.str (bX e)]=[O (.str (bX e)),U,U,U,U,U] from rfl]
 have ln:(bX e).length<=1000000:=Th (rg (EnQ.s hg h)) (by decide)
 have sp:=AA hg h
 have mm:=se _ h.m
 have fg:=qU (k:=(e.g:Int)) (by omega) (by omega)
 have n1:mT S (.str (iS (e.g:Int))) dW=O (.bl false):=by
  have:=(tf (S:=S) (x:=iS (e.g:Int)) (l:=figs)).2
  rw [fg.1,<- Io] at this;exact this
 have mk:=Ie (S:=S) mm.1
 have i1:=xI (k:=(e.g:Int)) (by omega) (by omega) fg.2.2.2.2
 have i2:=xI (k:=e.m) mm.2.1 mm.2.2 (Ej _ h.m)
 have l4:∀ T,mO ([],T)=O (.lst [],T):=λT=>eh (by simp)
 have t4:∀ x y z u:D,kP ([x,y,z,u],S)=O (.tup [x,y,z,u],S):=λx y z u=>cW (by simp)
 have pm:(mG e).map D.str=[.str (iS (e.g:Int)),.str (aS e.wr),.str (iS e.m),.str (fL e.t)]:=rfl
 have ne4:(!(((([D.str (iS (e.g:Int)),.str (aS e.wr),.str (iS e.m),.str (fL e.t)].length:Nat):Int)) == 4))=false:=rfl
 have el:∀ q,e.d=q->q=e.d:=λ_ h=>h.symm
 cases ht:e.t with
 | none=>
  have ed:e.d=.tup [.int (e.g:Int),.str (aS e.wr),.int e.m,.non]:=by unfold En.d;rw [ht];rfl
  have ls:fL e.t = "-":=by rw [ht];rfl
  rw [ls] at pm ne4
  simp only [lc,bC,ci,nK,ar,df,eW,eV,oj,ob,ao,xz,au,bG,ak,ax,aj,lj jL.2.2 ln,sp,pm,cm,aT,mf,pg,dI,aX,bM,bw,bb,bS,bT,BG,aK,aJ,xL,ne4,bz,cj,bI,Df,dL,kH,fo,jR,n1,jX,gb,fZ,aO,cE,mk,ic,gg,TF,nR,pq,pF.2.2,Da,bo,fY,i1,i2,sv,gH,CY,t4,bQ,aP,ed]
 | some k=>
  have hk:=h.t k ht
  have fk:=qU (k:=k) (by omega) hk.2
  have ed:e.d=.tup [.int (e.g:Int),.str (aS e.wr),.int e.m,.int k]:=by unfold En.d;rw [ht];rfl
  have ls:fL e.t=iS k:=by rw [ht];rfl
  have i3:=xI (k:=k) (by omega) (by omega) fk.2.2.2.2
  have n2:mT S (.str (iS k)) dW=O (.bl false):=by
   have:=(tf (S:=S) (x:=iS k) (l:=figs)).2
   rw [fk.1,<- Io] at this;exact this
  rw [ls] at pm ne4
  simp only [lc,bC,ci,nK,ar,df,eW,eV,oj,ob,ao,xz,au,bG,ak,ax,aj,lj jL.2.2 ln,sp,pm,cm,aT,mf,pg,dI,aX,bM,bw,bb,bS,bT,BG,aK,aJ,xL,ne4,bz,cj,bI,Df,dL,kH,fo,jR,n1,jX,gb,fZ,aO,cE,mk,ic,gg,TF,Ve,nR,pq,fk.2.2.2.1,xH,n2,bo,fY,i1,i2,sv,gH,HF,i3,t4,bQ,aP,ed]
end
end K48
end
section
namespace K48
open MI L2
open M hiding mC ae ay aF bU cn dG dX bK fe xp gO nO af ac bZ cU dm xm cZ eY cY aA db ag aI aw aN cG bx ah be ai bg ei aE aL cq gG bF cf aG cT gc ca jv jt eZ dD cK eg da cI dY bq bL cg sx gE cr dc cJ lf dZ gh gp
theorem rY{c:Nat}{y:Str}:∀ {ps:List Str},c∈(Str.join y ps).cps.toList->c∈y.cps.toList\/∃ p∈ps,c∈p.cps.toList
 | [],h=>by cases h
 | [p],h=>.inr ⟨p,by simp,h⟩
 | p::q::r,h=>by
  rw [HX] at h
  rcases Tr.mp h with h | h
  ·exact .inr ⟨p,by simp,h⟩
  rcases Tr.mp h with h | h
  ·exact .inl h
  ·rcases rY h with h | ⟨z,hz,h⟩
   ·exact .inl h
   ·exact .inr ⟨z,SO _ hz,h⟩
theorem Ci(w:Wd):32 ∉ w.s.cps.toList/\44 ∉ w.s.cps.toList:=by cases w <;> decide +kernel
theorem Az(ws:List Wd):44 ∉ (ej ws).cps.toList:=λh=>by
 rcases rY h with h | ⟨p,hp,h⟩
 ·rw [jL.1] at h;simp at h
 ·obtain⟨w,_,rfl⟩:=Tz.mp hp
  exact(Ci w).2 h
theorem DB{e:En}(hg:e.g<5)(h:EnQ e):44 ∉ (bX e).cps.toList:=λz=>by
 rw [rh] at z
 rcases rY z with z | ⟨p,hp,z⟩
 ·rw [jL.1] at z;simp at z
 ·exact(rR hg h p hp).2 z
section
variable{S:aa}{n:Nat}{R:Rm}
theorem RmQ.g(h:RmQ n R)(hn:n<=5){e:En}(he:e∈R.2):e.g<5:=by
 have:=(SR.mp (h.out e he)).1
 rw [h.len] at this;omega
theorem RmQ.s(h:RmQ n R)(hn:n<=5):RmS R:=⟨by have:=h.len;omega,by have:=h.few;omega,λe he=>EnQ.s (h.g hn he) (h.q e he)⟩
theorem Gs(h:RmS R):(ky R).length<=1000000:=Th (lL _ _) (Th (uq h) (by decide))
theorem Ay{ws:List Wd}(h:ws.length<=10):(ej ws).length<=1000000:=by have:=oC ws;omega
theorem AQ(h:RmQ n R)(hn:n<=5):Txt.split (ky R) ", " = ej R.1::R.2.map bX:=jK BY.1 BY.2.1 (by simp) λp hp=>by
 rcases Tc.mp hp with rfl | hp
 ·exact Az _
 ·obtain⟨e,he,rfl⟩:=Tz.mp hp
  exact DB (h.g hn he) (h.q e he)
theorem ym(h:RmQ n R)(h1:1<=n):Txt.split (ej R.1) " " = R.1.map Wd.s:=jK jL.1 jL.2.1 (λz=>by have:=congrArg List.length z;rw [SX,h.len] at this;simp at this;omega) λp hp=>by
 obtain⟨w,_,rfl⟩:=Tz.mp hp
 exact(Ci w).1
theorem rK(S:aa)(h:RmQ n R)(h1:1<=n)(hn:n<=5):dA [.str (ky R)] S=O (gn R,S):=by
 rw [xa,aV (show [D.str (ky R)].length=1 from rfl),show aM gY [D.str (ky R)]=[O (.str (ky R)),U,U,U,U] from rfl]
 have hs:=h.s hn
 have ii:ij "str" S (.str (ky R))=O (.bl true):=rfl
 have kc:=λenv=>iJ (S:=S) (t:=aG) (e:=ag 1 fP (ac (ae 0) (af))) (cap:=[U]) (env:=env) (rest:=[]) (a:=U) (enc:=λe=>.str (bX e)) (p:=λ_=>true) (f:=En.d) (xs:=R.2) rfl (by have:=h.few;omega) (λ_ _=>ee) (λe he _=>by
  simp only [aO,au,ar,df,oj,ob,ao,ak,ax,aj,cE,AS S (h.g hn he) (h.q e he)])
 rw [TX.mpr (λ_ _=>rfl)] at kc
 have gs:∀ env T,gh (ai (ah 1) (ai (ah 2) (be))) (.lst ((ej R.1::R.2.map bX).map .str)) env T=ai (ah 1) (ai (ah 2) (be)) [.str (ej R.1),.lst ((R.2.map bX).map .str)] env T:=λenv T=>Ij (by rw [SX,SX];have:=h.few;omega)
 have mm:(R.2.map bX).map D.str=R.2.map λe=>.str (bX e):=by rw [TJ];rfl
 have mw:(R.1.map Wd.s).map D.str=R.1.map Wd.d:=by rw [TJ];rfl
 have t2:kP ([.tup (R.1.map Wd.d),.tup (R.2.map En.d)],S)=O (gn R,S):=cW (by simp)
 have fg:Kb S (.int ((R.1.map Wd.d).length:Nat)) gL=O (.bl false):=by
  show Kb S (.int ((R.1.map Wd.d).length:Nat)) (.int 5)=_
  rw [Di,Tw (by rw [SX,h.len];omega)]
 have ro:iD [.int ((R.1.map Wd.d).length:Nat),gn R] S=O (.bl true,S):=by
  have:=OX (S:=S) (ws:=R.1) (es:=R.2) (n:=R.1.length) (by have:=h.len;omega) (by have:=h.few;omega)
  rw [SX]
  rw [decide_eq_true rfl,Us] at this
  have w1:R.2.all (jm R.1)=true:=Tj.mpr λe he=>by
   unfold jm
   have q:=h.q e he
   have mk:=se _ q.m
   rw [decide_eq_true (h.out e he),decide_eq_true mk.2.1,decide_eq_true mk.2.2,Us,Us,Us]
   cases ht:e.t with
   | none=>rfl
   | some k=>have:=q.t k ht;unfold CU;dsimp only;rw [decide_eq_true this.1,decide_eq_true this.2];rfl
  have w2:GZ R.2=true:=decide_eq_true h.nd
  rw [w1,w2] at this
  exact this
 simp only [pN,bC,bM,gb,fZ,mK,ar,df,eW,eV,oj,ob,ao,mP,ii,ic,gg,TF,cj,bI,aX,ci,nK,xz,au,bG,ak,ax,aj,lj BY.2.2 (Gs hs),AQ h hn,cm,gs,dL,aT,mf,pg,kH,fo,dI,mm,bS,lj jL.2.2 (Ay hs.l1),ym h h1,mw,bT,xK,fY,ge,gD,sI,kc,t2,jR,bw,bb,BF,aK,aJ,fg,bz,jX,aO,bN,ro,bo,bQ,aP]
end
theorem wD{S:aa}{d:D}(h:di 8 d=true):bE [d,d] S=O (.bl true,S):=yC (R:=fW) (N:=N__law_same) rfl xi 8 d h
theorem Kt{l:List Dd}(h:l.length<=500):di 8 (.tup (l.map Dd.d))=true:=by
 have a1:((l.map Dd.d).all (di 7))=true:=by
  rw [Tj];intro d hd;obtain⟨e,_,rfl⟩:=Tz.mp hd
  cases e with
  | ask wr g t=>cases t <;> rfl
  | _=>rfl
 show (decide ((l.map Dd.d).length<=1000)&&_)=true;rw [a1,VF];exact decide_eq_true (by simp;omega)
theorem Ks{R:Rm}(h1:R.1.length<=50)(h2:R.2.length<=50):di 8 (gn R)=true:=by
 have a1:((R.1.map Wd.d).all (di 6))=true:=by rw [Tj];intro d hd;obtain⟨w,_,rfl⟩:=Tz.mp hd;rfl
 have a2:((R.2.map En.d).all (di 6))=true:=by
  rw [Tj];intro d hd;obtain⟨e,_,rfl⟩:=Tz.mp hd
  obtain⟨g,wr,m,t⟩:=e
  cases t <;> rfl
 have b1:di 7 (jj R.1)=true:=by show (decide ((R.1.map Wd.d).length<=1000)&&_)=true;rw [a1,VF];exact decide_eq_true (by simp;omega)
 have b2:di 7 (vG R.2)=true:=by show (decide ((R.2.map En.d).length<=1000)&&_)=true;rw [a2,VF];exact decide_eq_true (by simp;omega)
 show (true&&(di 7 (jj R.1)&&(di 7 (vG R.2)&&true)))=true
 rw [b1,b2];rfl
noncomputable def tA:MS:=aE (ag 2 fR (ac (ae 0) (ac (ae 1) (af)))) (ah 2)
noncomputable def tB:MS:=aE (bZ (ac (ag 1 cR (ac (ae 2) (af))) (ac (ay bH (mC (.int 1)) (ag 2 az (ac (ae 2) (ac (mC (.int 5)) (af))))) (af)))) (bg 2 (ai (ah 3) (ai (ah 4) (be))))
noncomputable def tC:MS:=aE (ag 2 cS (ac (ae 2) (ac (ae 4) (af)))) (ah 5)
noncomputable def tD:MS:=aE (aA (aq (fS .tup)) (ac (bF (aL (ac (ag 2 az (ac (ae 2) (ac (mC (.int 13)) (af)))) (af))) (ah 0) (aG) (ag 2 dB (ac (ae 1) (ac (ae 2) (af)))) [U,O 2,O 4]) (af))) (ah 6)
noncomputable def tE:MS:=aE (bL (mC (.str "\n")) (ac (bF (cf (ae 6)) (ah 0) (aG) (ag 1 bV (ac (ae 0) (af))) [U]) (af))) (ah 7)
noncomputable def tF:MS:=bx (dX (bK (cn (ag 2 bE (ac (ag 1 dw (ac (ag 1 bh (ac (ae 3) (af))) (af))) (ac (ae 3) (af)))))) (bK (cn (ag 2 bE (ac (ag 2 bD (ac (ae 4) (ac (ae 7) (af)))) (ac (ae 6) (af))))))) (aN (mC (.bl false))) (aI)
noncomputable def tG:MS:=bx (bK (cn (ag 2 bE (ac (ag 1 dA (ac (ag 1 bi (ac (ae 5) (af))) (af))) (ac (ae 5) (af)))))) (aN (mC (.bl false))) (aI)
noncomputable def tH:MS:=bx (dX (aF (ay qk (ag 1 cy (ac (ag 1 dw (ac (ag 1 bh (ac (ae 3) (af))) (af))) (af))) (ag 1 bh (ac (ae 3) (af))))) (aF (ay qk (ag 1 fw (ac (ag 2 bD (ac (ae 4) (ac (ae 7) (af)))) (af))) (ae 7)))) (aN (mC (.bl false))) (aI)
noncomputable def tI:MS:=bx (aF (ay qk (ag 1 fO (ac (ag 1 dA (ac (ag 1 bi (ac (ae 5) (af))) (af))) (af))) (ag 1 bi (ac (ae 5) (af))))) (aN (mC (.bl false))) (aI)
noncomputable def turn:MS:=aw tA (aw tB (aw tC (aw tD (aw tE (aw tF (aw tG (aw tH tI)))))))
noncomputable def rest:MS:=aN (fe (ay iP (ag 2 bD (ac (mC (.int 3)) (ac (mC (.str "")) (af)))) (bZ (af))) (ay iP (ag 2 bD (ac (mC (.int 1)) (ac (mC (.str "tick")) (af)))) (bZ (ac (bZ (ac (mC (.str "tick")) (af))) (af)))))
section
variable{S:aa}{n:Nat}{R:Rm}{rl:Rl}{l:List Dd}{a0 a1 a2 a3 a4 a5 a6 a7:Option D}
noncomputable def rp(l:List Dd):Str:=Str.join "\n" (l.map aW)
theorem tF_ok(h:rl.Ok)(hb:rl.w≠.passes->rl.b=0)(hn:n<=5)(lk:∀ dd∈l,dd.Ok n)(hl:l.length<=20):∃ T,tF [a0,a1,a2,O rl.d,O (.int (n:Int)),a5,O (.tup (l.map Dd.d)),O (.str (rp l))] S=O (.nx [a0,a1,a2,O rl.d,O (.int (n:Int)),a5,O (.tup (l.map Dd.d)),O (.str (rp l))] (S++T)):=by
 have e1:=jg S h
 rw [<- yE h] at e1
 obtain⟨T1,e2⟩:=rJ S h hb
 obtain⟨T2,e3⟩:=lG (S++T1) hn lk hl
 have s1:bE [rl.d,rl.d] (S++T1)=O (.bl true,S++T1):=wD rfl
 have s2:bE [.tup (l.map Dd.d),.tup (l.map Dd.d)] (S++T1++T2)=O (.bl true,S++T1++T2):=wD (Kt (by omega))
 have e3':bD [.int (n:Int),.str (rp l)] (S++T1)=O (.tup (l.map Dd.d),S++T1++T2):=e3
 refine⟨T1++T2,?_⟩
 rw [<- TN]
 simp only [tF,bM,jR,gb,fZ,aO,au,ar,df,eW,eV,oj,ob,ao,ak,ax,aj,cE,bN,e1,e2,s1,ic,gg,TF,jX,e3',s2,cj,bI]
theorem tG_ok(h:RmQ n R)(h1:1<=n)(hn:n<=5):tG [a0,a1,a2,a3,a4,O (gn R),a6,a7] S=O (.nx [a0,a1,a2,a3,a4,O (gn R),a6,a7] S):=by
 have e1:=ve S (h.s hn)
 have e2:=rK S h h1 hn
 have s1:bE [gn R,gn R] S=O (.bl true,S):=wD (Ks (by have:=h.len;omega) (by have:=h.few;omega))
 simp only [tG,bM,gb,fZ,aO,au,ar,df,eW,eV,oj,ob,ao,ak,ax,aj,cE,bN,e1,e2,s1,ic,gg,TF,cj,bI]
theorem tH_ok(h:rl.Ok)(hb:rl.w≠.passes->rl.b=0)(hn:n<=5)(lk:∀ dd∈l,dd.Ok n)(hl:l.length<=20):∃ T,tH [a0,a1,a2,O rl.d,O (.int (n:Int)),a5,O (.tup (l.map Dd.d)),O (.str (rp l))] S=O (.nx [a0,a1,a2,O rl.d,O (.int (n:Int)),a5,O (.tup (l.map Dd.d)),O (.str (rp l))] (S++T)):=by
 have e1:=jg S h
 obtain⟨T1,e2⟩:=rJ S h hb
 obtain⟨T2,e3⟩:=rH (S++T1) h
 have e4:=jg (S++T1++T2) h
 rw [<- yE h] at e1 e4
 obtain⟨T3,e5⟩:=lG (S++T1++T2) hn lk hl
 have e5':bD [.int (n:Int),.str (rp l)] (S++T1++T2)=O (.tup (l.map Dd.d),S++T1++T2++T3):=e5
 have e6:fw [.tup (l.map Dd.d)] (S++T1++T2++T3)=O (.str (rp l),S++T1++T2++T3):=DN _ lk (by omega) hl
 refine⟨T1++T2++T3,?_⟩
 rw [<- TN,<- TN]
 simp only [tH,bM,jR,bw,bb,aO,au,ar,df,eW,eV,oj,ob,ao,ak,ax,aj,cE,bN,e1,e2,e3,aK,e4,aJ,pq,Up,TF,bz,jX,e5',e6,cj,bI]
theorem tI_ok(h:RmQ n R)(h1:1<=n)(hn:n<=5):tI [a0,a1,a2,a3,a4,O (gn R),a6,a7] S=O (.nx [a0,a1,a2,a3,a4,O (gn R),a6,a7] S):=by
 have e1:=ve S (h.s hn)
 have e2:=rK S h h1 hn
 have e3:=AR S (h.s hn)
 simp only [tI,bM,bw,bb,aO,au,ar,df,eW,eV,oj,ob,ao,ak,ax,aj,cE,e1,e2,e3,aK,aJ,pq,Up,TF,bz,cj,bI]
end
theorem Ki{S:aa}{ns:List Int}{k:Int}{a2 a3 a4 a5 a6 a7:Option D}(h0:0<=k)(h1:k<=100000) :
  ∃ b2 b3 b4 b5 b6 b7 S',turn [O (.rol (ns.map .int)),O (.int k),a2,a3,a4,a5,a6,a7] S=O (.nx [O (.rol (ns.map .int)),O (.int k),b2,b3,b4,b5,b6,b7] S'):=by
 obtain⟨p,q,e1,p0,q0,q1⟩:=left (S:=S) (ns:=ns) h0 h1
 have P1:=SE (S:=S) (c:=0) p0 q0 q1
 obtain⟨rl,S2,e2,Rk,Rb,P2⟩:=Nn P1
 obtain⟨m,S3,e3,m0,m5,P3,_⟩:=fX _ _ 5 P2 (by decide) (by decide)
 obtain⟨n,hn⟩:∃ n:Nat,1+m=(n:Int):=⟨(1+m).toNat,by omega⟩
 obtain⟨R,S4,e4,HR,P4⟩:=No (n:=n) P3 (by omega)
 obtain⟨c,S5,e6,c0,c13,P5,_⟩:=fX _ _ 13 P4 (by decide) (by decide)
 obtain⟨l,S6,e7,hl,lk,P6⟩:=drawn (n:=n) (by omega) (by omega) (bj 0 c.toNat) U S5 P5
 rw [rL] at hl
 have l13:l.length<=13:=by omega
 have t2:∀ a b:D,kP ([a,b],S3)=O (.tup [a,b],S3):=λa b=>cW (by simp)
 have kr:NM ([.int c],S5)=O (bj 0 c.toNat,S5):=jW (by omega) (by omega)
 have kc1:∀ b5 b6 b7,sL (ah 0) (aG) (ag 2 dB (ac (ae 1) (ac (ae 2) (af)))) [U,O 2,O 4] [O (.rol (ns.map .int)),O (.int k),O (.ref S.length),O rl.d,O (.int (n:Int)),b5,b6,b7] (bj 0 c.toNat,S5)=O (.lst (l.map Dd.d),S6):=λb5 b6 b7=>by
  rw [sK (by rw [rL];omega)]
  show (er _ _ _ _ [U,O (.ref S.length),O (.int (n:Int))] S5).bind _=_
  rw [e7,ob,zI]
 have kc2:=λenv=>iJ (S:=S6) (t:=aG) (e:=ag 1 bV (ac (ae 0) (af))) (cap:=[U]) (env:=env) (rest:=[]) (a:=U) (enc:=Dd.d) (p:=λ_=>true) (f:=λdd=>.str (aW dd)) (xs:=l) rfl (by omega) (λ_ _=>ee) (λdd hm _=>by
  simp only [aO,au,ar,df,oj,ob,ao,ak,ax,aj,cE,uf S6 (lk dd hm) (show n<=9 by omega)])
 rw [TX.mpr (λ_ _=>rfl)] at kc2
 have few:((l.map aW).map (·.length)).sum+(l.map aW).length * (Str.ofString "\n").length<=1000000:=by
  have:=mD (λdd=>(aW dd).length) 3000 l λdd hm=>pE (lk dd hm) (show n<=9 by omega)
  rw [TJ,SX,zB.2.2.2.2.1]
  show (l.map λdd=>(aW dd).length).sum+_<=_
  omega
 have jn:ja (.str "\n") [.lst (l.map λdd=>.str (aW dd))] S6=O (.str (rp l),S6):=jD (by show O _=_;rw [TJ];rfl) few
 obtain⟨T1,f1⟩:=tF_ok (S:=S6) (a0:=O (.rol (ns.map .int))) (a1:=O (.int k)) (a2:=O (.ref S.length)) (a5:=O (gn R)) Rk Rb (show n<=5 by omega) lk (show l.length<=20 by omega)
 have f2:=tG_ok (S:=S6++T1) (a0:=O (.rol (ns.map .int))) (a1:=O (.int k)) (a2:=O (.ref S.length)) (a3:=O rl.d) (a4:=O (.int (n:Int))) (a6:=O (.tup (l.map Dd.d))) (a7:=O (.str (rp l))) HR (by omega) (by omega)
 obtain⟨T2,f3⟩:=tH_ok (S:=S6++T1) (a0:=O (.rol (ns.map .int))) (a1:=O (.int k)) (a2:=O (.ref S.length)) (a5:=O (gn R)) Rk Rb (show n<=5 by omega) lk (show l.length<=20 by omega)
 have f4:=tI_ok (S:=S6++T1++T2) (a0:=O (.rol (ns.map .int))) (a1:=O (.int k)) (a2:=O (.ref S.length)) (a3:=O rl.d) (a4:=O (.int (n:Int))) (a6:=O (.tup (l.map Dd.d))) (a7:=O (.str (rp l))) HR (by omega) (by omega)
 refine⟨O (.ref S.length),O rl.d,O (.int (n:Int)),O (gn R),O (.tup (l.map Dd.d)),O (.str (rp l)),S6++T1++T2,?_⟩
 simp only [turn,tA,tB,tC,tD,tE,bC,ci,aO,au,ar,df,eW,eV,oj,ob,ao,ak,ax,aj,bN,e1,cm,aT,mf,pg,dI,aX,fY,cE,e2,bb,bG,aK,e3,aJ,xQ,hn,t2,qT,dL,kH,fo,e4,bS,bT,ge,eL,e6,kr,kc1,xK,gD,xD,kc2,ju,vg,dJ,jn,f1,f2,f3,f4]
theorem Kx{S:aa}{env:av}:∃ S',rest env S=O (.rt (.bl true) S'):=by
 obtain⟨T1,e1⟩:=lG S (n:=3) (l:=[]) (by decide) (λ_ h=>by cases h) (by decide)
 obtain⟨T2,e2⟩:=lG (S++T1) (n:=1) (l:=[.tick]) (by decide) (λdd h=>by rw [Tg.mp h];trivial) (by decide)
 have e1':bD [.int 3,.str ""] S=O (.tup [],S++T1):=e1
 have e2':bD [.int 1,.str "tick"] (S++T1)=O (.tup [.tup [.str "tick"]],S++T1++T2):=e2
 have t0:∀ S,kP ([],S)=O (.tup [],S):=λS=>cW (by simp)
 have t1:∀ S (a:D),kP ([a],S)=O (.tup [a],S):=λS a=>cW (by simp)
 have q1:iP (S++T1) (.tup []) (.tup [])=O (.bl true):=by rw [lu rfl rfl];rfl
 have q2:iP (S++T1++T2) (.tup [.tup [.str "tick"]]) (.tup [.tup [.str "tick"]])=O (.bl true):=by rw [lu rfl rfl];congr 2
 refine⟨S++T1++T2,?_⟩
 simp only [rest,bo,pf,bb,aO,au,bG,fY,ax,ob,ak,aj,bN,e1',aK,t0,aJ,q1,ao,pp,e2',t1,q2,bQ]
theorem HA:∀ ns:List Int,ns.length<=63->∃ S',zX [.rol (ns.map .int)] []=O (.bl true,S'):=λns hl=>by
 rw [Qd,aV (show [D.rol (ns.map .int)].length=1 from rfl),show aM Av [D.rol (ns.map .int)]=[O (.rol (ns.map .int)),U,U,U,U,U,U,U] from rfl]
 have hm:NI=aw (gG (aL (ac (ay bH (mC (.int 2)) (aA (aq zY) (ac (mC (.int 8)) (ac (aA (aq eN) (ac (ae 0) (af))) (af))))) (af))) (ah 1) turn) rest:=rfl
 rw [hm]
 generalize hk:(2+if (ns.length:Int)<8 then (ns.length:Int) else 8)=k
 have hk':0<=k/\k<=26:=by rw [<- hk];split <;> omega
 have k1:NM ([.int k],[])=O (bj 0 k.toNat,[]):=jW (by omega) (by omega)
 obtain⟨env',S',e,a1,a2,a3,a4,a5,a6,a7,rfl⟩:=zU (tg:=ah 1) (p:=turn) (λenv _=>∃ a1 a2 a3 a4 a5 a6 a7,env=[O (.rol (ns.map .int)),a1,a2,a3,a4,a5,a6,a7]) (bj 0 k.toNat) (λd hd env S hI=>by
  obtain⟨a1,a2,a3,a4,a5,a6,a7,rfl⟩:=hI
  obtain⟨i,hi,rfl⟩:=Bh hd
  obtain⟨b2,b3,b4,b5,b6,b7,S2,e⟩:=Ki (S:=S) (ns:=ns) (k:=0+(i:Int)) (a2:=a2) (a3:=a3) (a4:=a4) (a5:=a5) (a6:=a6) (a7:=a7) (by omega) (by omega)
  exact⟨_,_,_,_,aT,e,_,_,_,_,_,_,_,rfl⟩) [O (.rol (ns.map .int)),U,U,U,U,U,U,U] [] ⟨_,_,_,_,_,_,_,rfl⟩
 obtain⟨S2,e2⟩:=Kx (S:=S') (env:=[O (.rol (ns.map .int)),a1,a2,a3,a4,a5,a6,a7])
 refine⟨S2,?_⟩
 simp only [bC,xr,eL,au,bb,bG,ob,aK,bS,ak,ar,df,oj,ao,ax,aj,bT,RG,LX,SX,aJ,xQ,hk,k1,xF,e,aX,e2,aP]
end K48
end
namespace PySem.W.Fast
def tw13972605195806729587:=0
def tw417208079908939886:=0
def tw13943225071881300273:=0
def tw2115105674961907309:=0
def tw1204546469723118847:=0
def tw1071750457619920949:=0
def tw8535651639635854809:=0
def tw12454441962190553035:=0
def tw14082385007801129885:=0
def tw6461560741408566787:=0
def tw11293571923154888185:=0
def tw12863171730424541245:=0
def tw18181138993637184492:=0
def tw17573410670823076341:=0
def tw14418934279895254311:=0
def tw6754497516955802356:=0
def tw15817271445797453857:=0
def tw15156860938620436199:=0
def tw2338829428048197107:=0
def tw789188877930517353:=0
def tw9654423683175858895:=0
def tw15632085076353893280:=0
def tw1767812286166738206:=0
def tw6392135788262792376:=0
def tw4486007959724294474:=0
def tw15704620785981430209:=0
def tw9097145081127361808:=0
def tw14645438473102662218:=0
def tw10111141824045408967:=0
def tw16974845928592731087:=0
def tw15634825372772920011:=0
def tw10101645484572245881:=0
def tw7888859860775908676:=0
def tw6932287012068224073:=0
def tw17697012329890735108:=0
def tw4487554134062955638:=0
def tw4749404285632173977:=0
def tw12295199564622368362:=0
def tw8103633165156197743:=0
def tw13035471209658993374:=0
def tw5493125911736100006:=0
def tw8051800131203776967:=0
def tw17725780756682220944:=0
def tw3983545960991787248:=0
def tw12660684617468310190:=0
def tw17288471306241020364:=0
def tw1821753630194098724:=0
def tw16928932266188119431:=0
def tw1754305806856763329:=0
def tw14837207373272011340:=0
def tw2776326125440689857:=0
def tw4386474905265094325:=0
def tw778211795148150570:=0
def tw12622364602474729826:=0
def tw1613118996457612059:=0
def tw17766443728949852711:=0
def tw13192321912651600554:=0
def tw10602394352007630704:=0
def tw17702751016822665686:=0
def tw12301095142704006083:=0
def tw8921901853316016805:=0
def tw17915038889094044949:=0
def tw17108181170382595227:=0
def tw3565560635913603770:=0
def tw9085603460917085808:=0
def tw2273091015623436825:=0
def tw2159606056873726828:=0
def tw17406874501325449876:=0
def tw7821403157283000275:=0
def tw7648292754717941093:=0
def tw8453182642745232848:=0
def tw3988685797546830070:=0
def tw13660990091867690174:=0
def tw4906310944663672004:=0
def tw6277990848732327354:=0
def tw10660791541962558809:=0
def tw16840330995693079195:=0
def tw1057031222824961585:=0
end PySem.W.Fast
noncomputable def PySem.W.Fast.tw3422815807976243499:PySem.Program:=PySem.Challenge.pw_manyreaders_k48_texts_read
theorem PySem.W.Fast.te3422815807976243499:PySem.Challenge.pw_manyreaders_k48_texts_read=W.Fast.tw3422815807976243499:=rfl
namespace K48
def c0:Stmt:=gN 0
def c5:Stmt:=gN 5
def c6:Stmt:=gN 6
def c7:Stmt:=gN 7
def c8:Stmt:=gN 8
def c9:Stmt:=gN 9
def c10:Stmt:=gN 10
def c15:Stmt:=gN 15
def c16:Stmt:=gN 16
def c17:Stmt:=gN 17
def c18:Stmt:=gN 18
def c19:Stmt:=gN 19
def c20:Stmt:=gN 20
def c21:Stmt:=gN 21
def c22:Stmt:=gN 22
def c23:Stmt:=gN 23
def c30:Stmt:=gN 30
def c31:Stmt:=gN 31
def c32:Stmt:=gN 32
def c40:Stmt:=gN 40
def pw2:Program:={ PySem.Challenge.pw_manyreaders_k48_texts_read with main:={ PySem.Challenge.pw_manyreaders_k48_texts_read.main with body:=[c0,gy,eK,iy,dU,c5,c6,c7,c8,c9,c10,iA,fF,fH,iz,c15,c16,c17,c18,c19,c20,c21,c22,c23,fA,fG,gu,fB,fz,jp,c30,c31,c32,fD,cL,gx,cM,fE,fC,dj,c40,dk,fJ,gz,fI,fK,bY,cN,cO,cA,cC,cB,uG] } }
def lw:W.OpenLaw:={ PySem.Challenge.rw_manyreaders_k48_texts_read with prog:=pw2 }
theorem lw_eq:PySem.Challenge.rw_manyreaders_k48_texts_read=lw:=by kernel_rfl
end K48
namespace K48
open L2 MI M
noncomputable def qP:Str:="law_manyreaders_k48_texts_read"
noncomputable def FE:Str:="manyreaders.showing"
noncomputable def Cw:Str:="manyreaders.reading"
noncomputable def NH:Str:="manyreaders.kinds"
noncomputable def NG:Str:="manyreaders.rooms"
noncomputable def kf0(P:Params):W.Frag:=[(3,⟨.type "dict",U,.dict #[kE P "__name__" 165 (.str "law_manyreaders_k48_texts_read" 468),kE P "__doc__" 166 .none,kE P "__package__" 167 .none,kE P "__loader__" 168 (.builtin "__main__.__loader__#opaque"),kE P "__spec__" 169 .none,kE P "__annotations__" 170 (.ref 6),kE P "__builtins__" 171 (.ref 4),kE P "__file__" 173 (.str "/claim/cut.py" 172),kE P "__cached__" 174 .none,kE P "is_whole" 195 (.ref 21),kE P "is_between" 204 (.ref 28),kE P "is_word" 212 (.ref 35),kE P "is_tuple_of" 220 (.ref 42),kE P "WITHIN_WORDS" 228 (.ref 43),kE P "WANTS" 231 (.ref 44),kE P "MOST_GUESTS" 233 (.int 5 232),kE P "GREATEST_MARK" 235 (.int 999 234),kE P "GREATEST_LEFT" 237 (.int 9 236),kE P "is_room" 247 (.ref 51),kE P "is_within" 253 (.ref 56),kE P "are_waits" 259 (.ref 61),kE P "is_wait" 271 (.ref 68),kE P "GuestError" 291 (.ref 78),kE P "NoText" 316 (.ref 98),kE P "GUEST_WORDS" 321 (.ref 101),kE P "RULE_WORDS" 327 (.ref 102),kE P "GREATEST_MOST" 329 (.int 5 328),kE P "GREATEST_K" 331 (.int 9 330),kE P "DEED_WORDS" 352 (.ref 103),kE P "rule_text" 364 (.ref 110),kE P "deed_text" 372 (.ref 117),kE P "row_text" 378 (.ref 122),kE P "room_text" 384 (.ref 127),kE P "wait_text" 395 (.ref 134),kE P "dashed" 402 (.ref 141),kE P "FIGURES" 415 (.ref 142),kE P "MOST_FIGURES" 417 (.int 3 416),kE P "read_rule" 425 (.ref 149),kE P "rules_by_text" 431 (.ref 154),kE P "read_row" 437 (.ref 159),kE P "deeds_by_text" 443 (.ref 164),kE P "read_room" 449 (.ref 169),kE P "read_wait" 461 (.ref 176),kE P "is_mark_text" 467 (.ref 181),kE P "_law_cell_at" 477 (.ref 188),kE P "_law_left" 487 (.ref 195),kE P "_law_far" 495 (.ref 202),kE P "_law_pick" 504 (.ref 209),kE P "_law_deed" 514 (.ref 216),kE P "_law_same" 520 (.ref 221),kE P "_law_any_rule" 530 (.ref 228),kE P "_law_any_room" 536 (.ref 233),kE P "_law_rule_text" 548 (.ref 240),kE P "_law_deed_text" 554 (.ref 245),kE P "_law_room_text" 566 (.ref 252),kE P "law" 572 (.ref 257)] 56,#[]⟩),(20,kC "is_whole" 189 2 1 15 16 (.ref 17) (.ref 18) 19 193),(21,kF "is_whole" gy NH 187 20),(27,kC "is_between" 196 4 3 22 23 (.ref 24) (.ref 25) 26 202),(28,kF "is_between" eK NH 187 27),(34,kC "is_word" 205 6 2 29 30 (.ref 31) (.ref 32) 33 210),(35,kF "is_word" iy NH 187 34),(41,kC "is_tuple_of" 213 8 2 36 37 (.ref 38) (.ref 39) 40 218)]
noncomputable def kf1(P:Params):W.Frag:=[(42,kF "is_tuple_of" dU NH 187 41),(43,⟨.type "tuple",U,.seq #[.str "out" 223,.str "reads" 224,.str "rising" 225,.str "writes" 226,.str "raised" 227] 0,#[]⟩),(44,⟨.type "tuple",U,.seq #[.str "read" 229,.str "write" 230] 0,#[]⟩),(50,kC "is_room" 238 16 2 45 46 (.ref 47) (.ref 48) 49 245),(51,kF "is_room" iA NG 221 50),(55,kC "is_within" 248 21 2 52 53 .none .none 54 251),(56,kF "is_within" fF NG 221 55),(60,kC "are_waits" 254 23 2 57 58 .none .none 59 257)]
noncomputable def kf2(P:Params):W.Frag:=[(61,kF "are_waits" fH NG 221 60),(67,kC "is_wait" 260 28 2 62 63 (.ref 64) (.ref 65) 66 269),(68,kF "is_wait" iz NG 221 67),(101,⟨.type "tuple",U,.seq #[.str "up" 317,.str "down" 318,.str "leave" 319,.str "stop" 320] 0,#[]⟩),(102,⟨.type "tuple",U,.seq #[.str "rows" 322,.str "readers" 323,.str "writers" 324,.str "turns" 325,.str "passes" 326] 0,#[]⟩),(103,⟨.type "dict",U,.dict #[kE P "read" 334 (.str "reads" 335),kE P "write" 336 (.str "writes" 337),kE P "up" 338 (.str "up" 339),kE P "down" 340 (.str "down" 341),kE P "leave" 342 (.str "leaves" 343),kE P "stop" 344 (.str "stops" 345)] 6,#[]⟩),(109,kC "rule_text" 353 50 1 104 105 (.ref 106) (.ref 107) 108 362),(110,kF "rule_text" fA FE 332 109)]
noncomputable def kf3(P:Params):W.Frag:=[(116,kC "deed_text" 365 60 1 111 112 (.ref 113) (.ref 114) 115 370),(117,kF "deed_text" fG FE 332 116),(121,kC "row_text" 373 67 1 118 119 .none .none 120 376),(122,kF "row_text" gu FE 332 121),(126,kC "room_text" 379 69 1 123 124 .none .none 125 382),(127,kF "room_text" fB FE 332 126),(133,kC "wait_text" 385 72 1 128 129 (.ref 130) (.ref 131) 132 393),(134,kF "wait_text" fz FE 332 133)]
noncomputable def kf4(P:Params):W.Frag:=[(140,kC "dashed" 396 75 1 135 136 (.ref 137) (.ref 138) 139 400),(141,kF "dashed" jp FE 332 140),(142,⟨.type "tuple",U,.seq #[.str "0" 405,.str "1" 406,.str "2" 407,.str "3" 408,.str "4" 409,.str "5" 410,.str "6" 411,.str "7" 412,.str "8" 413,.str "9" 414] 0,#[]⟩),(148,kC "read_rule" 418 80 1 143 144 (.ref 145) (.ref 146) 147 423),(149,kF "read_rule" fD Cw 403 148),(153,kC "rules_by_text" 426 85 0 150 151 .none .none 152 429),(154,kF "rules_by_text" cL Cw 403 153),(158,kC "read_row" 432 88 2 155 156 .none .none 157 435)]
noncomputable def kf5(P:Params):W.Frag:=[(159,kF "read_row" gx Cw 403 158),(163,kC "deeds_by_text" 438 97 1 160 161 .none .none 162 441),(164,kF "deeds_by_text" cM Cw 403 163),(168,kC "read_room" 444 102 1 165 166 .none .none 167 447),(169,kF "read_room" fE Cw 403 168),(175,kC "read_wait" 450 111 1 170 171 (.ref 172) (.ref 173) 174 459),(176,kF "read_wait" fC Cw 403 175),(180,kC "is_mark_text" 462 119 1 177 178 .none .none 179 465)]
noncomputable def kf6(P:Params):W.Frag:=[(181,kF "is_mark_text" dj Cw 403 180),(187,kC "_law_cell_at" 470 124 2 182 183 (.ref 184) (.ref 185) 186 475),(188,kF "_law_cell_at" dk qP 468 187),(194,kC "_law_left" 478 128 2 189 190 (.ref 191) (.ref 192) 193 485),(195,kF "_law_left" fJ qP 468 194),(201,kC "_law_far" 488 135 0 196 197 (.ref 198) (.ref 199) 200 493),(202,kF "_law_far" gz qP 468 201),(208,kC "_law_pick" 496 140 2 203 204 (.ref 205) (.ref 206) 207 502)]
noncomputable def kf7(P:Params):W.Frag:=[(209,kF "_law_pick" fI qP 468 208),(215,kC "_law_deed" 505 148 2 210 211 (.ref 212) (.ref 213) 214 512),(216,kF "_law_deed" fK qP 468 215),(220,kC "_law_same" 515 156 2 217 218 .none .none 219 518),(221,kF "_law_same" bY qP 468 220),(227,kC "_law_any_rule" 521 173 1 222 223 (.ref 224) (.ref 225) 226 528),(228,kF "_law_any_rule" cN qP 468 227),(232,kC "_law_any_room" 531 177 2 229 230 .none .none 231 534)]
noncomputable def kf8(P:Params):W.Frag:=[(233,kF "_law_any_room" cO qP 468 232),(239,kC "_law_rule_text" 537 189 1 234 235 (.ref 236) (.ref 237) 238 546),(240,kF "_law_rule_text" cA qP 468 239),(244,kC "_law_deed_text" 549 193 1 241 242 .none .none 243 552),(245,kF "_law_deed_text" cC qP 468 244),(251,kC "_law_room_text" 555 199 1 246 247 (.ref 248) (.ref 249) 250 564),(252,kF "_law_room_text" cB qP 468 251),(256,kC "law" 567 204 1 253 254 .none .none 255 570)]
noncomputable def kf9(P:Params):W.Frag:=[(257,kF "law" uG qP 468 256)]
noncomputable def ff(P:Params):W.Frag:=(((kf0 P)++(kf1 P))++((kf2 P)++((kf3 P)++(kf4 P))))++(((kf5 P)++(kf6 P))++((kf7 P)++((kf8 P)++(kf9 P))))
noncomputable def kads:List Addr:=[3,20,21,27,28,34,35,41,42,43,44,50,51,55,56,60,61,67,68,101,102,103,109,110,116,117,121,122,126,127,133,134,140,141,142,148,149,153,154,158,159,163,164,168,169,175,176,180,181,187,188,194,195,201,202,208,209,215,216,220,221,227,228,232,233,239,240,244,245,251,252,256,257]
theorem txt{w:World}{h:Heap}{mg:Str->Option Value}(X:(ff w.params).In h)(G:h.Ns mainGlobals mg):Txt w (ff w.params) mg:=
 ⟨eU X G qP 188 468 187 (by kernel_rfl),eU X G qP 202 468 201 (by kernel_rfl),eU X G qP 195 468 194 (by kernel_rfl),eU X G qP 209 468 208 (by kernel_rfl),eU X G qP 233 468 232 (by kernel_rfl),eU X G qP 228 468 227 (by kernel_rfl),eU X G qP 221 468 220 (by kernel_rfl),eU X G FE 141 332 140 (by kernel_rfl),eU X G FE 134 332 133 (by kernel_rfl),eU X G FE 127 332 126 (by kernel_rfl),eU X G qP 252 468 251 (by kernel_rfl),eU X G FE 117 332 116 (by kernel_rfl),eU X G Cw 164 403 163 (by kernel_rfl),eU X G Cw 159 403 158 (by kernel_rfl),eU X G qP 216 468 215 (by kernel_rfl),eU X G qP 245 468 244 (by kernel_rfl),eU X G NH 42 187 41 (by kernel_rfl),eU X G NH 35 187 34 (by kernel_rfl),eU X G NG 56 221 55 (by kernel_rfl),eU X G NH 21 187 20 (by kernel_rfl),eU X G NH 28 187 27 (by kernel_rfl),eU X G NG 68 221 67 (by kernel_rfl),eU X G NG 61 221 60 (by kernel_rfl),eU X G NG 51 221 50 (by kernel_rfl),eU X G Cw 181 403 180 (by kernel_rfl),eU X G Cw 176 403 175 (by kernel_rfl),eU X G Cw 169 403 168 (by kernel_rfl),eU X G FE 110 332 109 (by kernel_rfl),eU X G qP 240 468 239 (by kernel_rfl),eU X G FE 122 332 121 (by kernel_rfl),eU X G Cw 154 403 153 (by kernel_rfl),eU X G Cw 149 403 148 (by kernel_rfl),eU X G qP 257 468 256 (by kernel_rfl),TY X G (by kernel_rfl),TY X G (by kernel_rfl),TY X G (by kernel_rfl),TY X G (by kernel_rfl),TY X G (by kernel_rfl),TY X G (by kernel_rfl),TY X G (by kernel_rfl),TY X G (by kernel_rfl),TY X G (by kernel_rfl),TY X G (by kernel_rfl),TY X G (by kernel_rfl),TY X G (by kernel_rfl),TY X G (by kernel_rfl),TY X G (by kernel_rfl),TY X G (by kernel_rfl),OG (Vo X G (show W.nsIn (ff w.params) mainGlobals "DEED_WORDS" = O (O (.ref 103)) by kernel_rfl)) (show (ff w.params).lookup 103=O ⟨.type "dict",U,.dict #[⟨PyData.keyHash w.params "read",.str "read" 334,.str "reads" 335⟩,⟨PyData.keyHash w.params "write",.str "write" 336,.str "writes" 337⟩,⟨PyData.keyHash w.params "up",.str "up" 338,.str "up" 339⟩,⟨PyData.keyHash w.params "down",.str "down" 340,.str "down" 341⟩,⟨PyData.keyHash w.params "leave",.str "leave" 342,.str "leaves" 343⟩,⟨PyData.keyHash w.params "stop",.str "stop" 344,.str "stops" 345⟩] 6,#[]⟩ by kernel_rfl) (.cons (.cons (.cons (.cons (.cons (.cons (.nil))))))) (show List.Nodup ([.inr "read",.inr "write",.inr "up",.inr "down",.inr "leave",.inr "stop"]:List ba) by decide +kernel) (.cons (V.str "reads") ⟨_,rfl⟩ (λ_ _ _=>.str _) (.cons (V.str "writes") ⟨_,rfl⟩ (λ_ _ _=>.str _) (.cons (V.str "up") ⟨_,rfl⟩ (λ_ _ _=>.str _) (.cons (V.str "down") ⟨_,rfl⟩ (λ_ _ _=>.str _) (.cons (V.str "leaves") ⟨_,rfl⟩ (λ_ _ _=>.str _) (.cons (V.str "stops") ⟨_,rfl⟩ (λ_ _ _=>.str _) (.nil))))))),⟨_,.ref 142,Vo X G (show W.nsIn (ff w.params) mainGlobals "FIGURES" = O (O (.ref 142)) by kernel_rfl),rfl,λμ H=>.ktup (vs:=[V.str "0",V.str "1",V.str "2",V.str "3",V.str "4",V.str "5",V.str "6",V.str "7",V.str "8",V.str "9"]) ⟨_,_,_,(show (ff w.params).lookup 142=O ⟨.type "tuple",U,.seq #[.str "0" 405,.str "1" 406,.str "2" 407,.str "3" 408,.str "4" 409,.str "5" 410,.str "6" 411,.str "7" 412,.str "8" 413,.str "9" 414] 0,#[]⟩ by kernel_rfl),rfl,rfl,rfl,(show 10<=sizeLine by decide),.cons ⟨_,rfl⟩ (.cons ⟨_,rfl⟩ (.cons ⟨_,rfl⟩ (.cons ⟨_,rfl⟩ (.cons ⟨_,rfl⟩ (.cons ⟨_,rfl⟩ (.cons ⟨_,rfl⟩ (.cons ⟨_,rfl⟩ (.cons ⟨_,rfl⟩ (.cons ⟨_,rfl⟩ (.nil))))))))))⟩ (.cons (.str _) (.cons (.str _) (.cons (.str _) (.cons (.str _) (.cons (.str _) (.cons (.str _) (.cons (.str _) (.cons (.str _) (.cons (.str _) (.cons (.str _) (.nil)))))))))))⟩,⟨_,V.int 9,Vo X G (show W.nsIn (ff w.params) mainGlobals "GREATEST_K" = O (O (.int 9 330)) by kernel_rfl),⟨_,rfl⟩,λμ H=>.int _⟩,⟨_,V.int 9,Vo X G (show W.nsIn (ff w.params) mainGlobals "GREATEST_LEFT" = O (O (.int 9 236)) by kernel_rfl),⟨_,rfl⟩,λμ H=>.int _⟩,⟨_,V.int 999,Vo X G (show W.nsIn (ff w.params) mainGlobals "GREATEST_MARK" = O (O (.int 999 234)) by kernel_rfl),⟨_,rfl⟩,λμ H=>.int _⟩,⟨_,V.int 5,Vo X G (show W.nsIn (ff w.params) mainGlobals "GREATEST_MOST" = O (O (.int 5 328)) by kernel_rfl),⟨_,rfl⟩,λμ H=>.int _⟩,⟨_,.ref 101,Vo X G (show W.nsIn (ff w.params) mainGlobals "GUEST_WORDS" = O (O (.ref 101)) by kernel_rfl),rfl,λμ H=>.ktup (vs:=[V.str "up",V.str "down",V.str "leave",V.str "stop"]) ⟨_,_,_,(show (ff w.params).lookup 101=O ⟨.type "tuple",U,.seq #[.str "up" 317,.str "down" 318,.str "leave" 319,.str "stop" 320] 0,#[]⟩ by kernel_rfl),rfl,rfl,rfl,(show 4<=sizeLine by decide),.cons ⟨_,rfl⟩ (.cons ⟨_,rfl⟩ (.cons ⟨_,rfl⟩ (.cons ⟨_,rfl⟩ (.nil))))⟩ (.cons (.str _) (.cons (.str _) (.cons (.str _) (.cons (.str _) (.nil)))))⟩,⟨_,V.int 3,Vo X G (show W.nsIn (ff w.params) mainGlobals "MOST_FIGURES" = O (O (.int 3 416)) by kernel_rfl),⟨_,rfl⟩,λμ H=>.int _⟩,⟨_,V.int 5,Vo X G (show W.nsIn (ff w.params) mainGlobals "MOST_GUESTS" = O (O (.int 5 232)) by kernel_rfl),⟨_,rfl⟩,λμ H=>.int _⟩,⟨_,.ref 102,Vo X G (show W.nsIn (ff w.params) mainGlobals "RULE_WORDS" = O (O (.ref 102)) by kernel_rfl),rfl,λμ H=>.ktup (vs:=[V.str "rows",V.str "readers",V.str "writers",V.str "turns",V.str "passes"]) ⟨_,_,_,(show (ff w.params).lookup 102=O ⟨.type "tuple",U,.seq #[.str "rows" 322,.str "readers" 323,.str "writers" 324,.str "turns" 325,.str "passes" 326] 0,#[]⟩ by kernel_rfl),rfl,rfl,rfl,(show 5<=sizeLine by decide),.cons ⟨_,rfl⟩ (.cons ⟨_,rfl⟩ (.cons ⟨_,rfl⟩ (.cons ⟨_,rfl⟩ (.cons ⟨_,rfl⟩ (.nil)))))⟩ (.cons (.str _) (.cons (.str _) (.cons (.str _) (.cons (.str _) (.cons (.str _) (.nil))))))⟩,⟨_,.ref 44,Vo X G (show W.nsIn (ff w.params) mainGlobals "WANTS" = O (O (.ref 44)) by kernel_rfl),rfl,λμ H=>.ktup (vs:=[V.str "read",V.str "write"]) ⟨_,_,_,(show (ff w.params).lookup 44=O ⟨.type "tuple",U,.seq #[.str "read" 229,.str "write" 230] 0,#[]⟩ by kernel_rfl),rfl,rfl,rfl,(show 2<=sizeLine by decide),.cons ⟨_,rfl⟩ (.cons ⟨_,rfl⟩ (.nil))⟩ (.cons (.str _) (.cons (.str _) (.nil)))⟩,⟨_,.ref 43,Vo X G (show W.nsIn (ff w.params) mainGlobals "WITHIN_WORDS" = O (O (.ref 43)) by kernel_rfl),rfl,λμ H=>.ktup (vs:=[V.str "out",V.str "reads",V.str "rising",V.str "writes",V.str "raised"]) ⟨_,_,_,(show (ff w.params).lookup 43=O ⟨.type "tuple",U,.seq #[.str "out" 223,.str "reads" 224,.str "rising" 225,.str "writes" 226,.str "raised" 227] 0,#[]⟩ by kernel_rfl),rfl,rfl,rfl,(show 5<=sizeLine by decide),.cons ⟨_,rfl⟩ (.cons ⟨_,rfl⟩ (.cons ⟨_,rfl⟩ (.cons ⟨_,rfl⟩ (.cons ⟨_,rfl⟩ (.nil)))))⟩ (.cons (.str _) (.cons (.str _) (.cons (.str _) (.cons (.str _) (.cons (.str _) (.nil))))))⟩⟩
end K48
open PySem.W
set_option maxRecDepth 100000 in
set_option maxHeartbeats 0 in
theorem PySem.Challenge.cw_manyreaders_k48_texts_read_holds : PySem.Challenge.rw_manyreaders_k48_texts_read.Holds := by
 rw [K48.lw_eq];w_on;o_law;o_head (kHook K48.ff K48.kads (λ_=>by kernel_rfl));(case hw=>w_witness2)
 exact K48.walk (l:=K48.lw) rfl rfl rfl (λw h Y=>PySem.W.kIn_of Y) K48.HA λw mg h KX G=>K48.txt KX G

end
