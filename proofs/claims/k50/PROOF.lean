import PyProof.Rows.All
import Wide.All
import OpenK.AllK
import Wide.FinOn
import Lean
import KE.KIntText
import PyProof.EqAt
import PyProof.EqKinds
import PyProof.TupleCall
import PySem.Challenge.RW_manyreaders_k50_rows_refused_by_their_li
set_option compiler.extract_closed false
set_option bootstrap.genMatcherCode false
open Option renaming some -> U,none -> Y
local macro_rules|`(tactic|ac_rfl)=>`(tactic|exact⟨rfl,rfl,rfl,by decide +kernel,rfl,by decide +kernel,by decide +kernel⟩)
noncomputable section
set_option Elab.async false
set_option linter.all false
set_option maxRecDepth 100000
open PySem PySem.Spec PyProof.Rows
def Rb:=@Option.bind_eq_some_iff
def Rc:=@wpAny_bind
def Re:=@Heap.get?_push_of_some
def Rf:=@List.mem_cons_self
def Rg:=@Bool.and_eq_true
def Rh:=@wpAny_pure
def Ri:=@List.getElem?_eq_some_iff
def Rj:=@List.mem_cons_of_mem
def Rk:=@List.size_toArray
def Rn:=@Nat.le_refl
def Ro:=@Heap.lt_size
def Rp:=@List.getElem?_eq_getElem
def Rq:=@Bool.false_ne_true
def Rr:=@List.length_cons
def Rs:=@Heap.get?_push_size
def Rt:=@List.length_map
def Ru:=@if_pos
def Rv:=@List.mem_cons
def Rx:=@List.getElem?_append_left
def Ry:=@Nat.lt_of_lt_of_le
def Rz:=@List.length_append
def RA:=@Heap.get?_update_other
def RB:=@List.map_cons
def RC:=@beq_iff_eq
def RD:=@List.mem_singleton
def RE:=@List.mem_append
def RF:=@wpAny_mono
def RG:=@Nat.le_trans
def RH:=@if_neg
def RI:=@List.all_eq_true
def RJ:=@Option.some.inj
def RK:=@Heap.get?_update_self
def RL:=@Nat.ne_of_lt
def RM:=@wpAny_newObj_type
def RN:=@List.mem_append_right
def RO:=@wpAny_field
def RP:=@List.replicate_succ
def RQ:=@Heap.get?_update_ne
def RR:=@List.mem_of_getElem?
def RS:=@List.getElem?_set_ne
def RT:=@List.not_mem_nil
def RU:=@List.append_nil
def RV:=@List.filterMap_cons
def RW:=@List.drop_eq_getElem_cons
def RX:=@wpAny_holding
def RZ:=@PyProof.Rows.callWith_type1
def Sa:=@wpAny_setField
def Sb:=@List.mem_map
def Sd:=@List.getElem?_set_self
def Se:=@decide_eq_false
def Sf:=@Nat.ne_of_gt
def Sg:=@decide_eq_true
def Sh:=@wpAny_callSpecial?_slot
def Si:=@PyProof.Rows.slot_tuple_getitem
def Sj:=@List.mem_append_left
def Sk:=@List.map_append
def Sl:=@List.length_nil
def Sm:=@W.mg_none_of
def Sn:=@wpAny_standAt
def So:=@List.getElem?_append_right
def Sq:=@decide_eq_true_eq
def Sr:=@PySem.mem_of_lookup
def Ss:=@List.flatten_cons
def Su:=@List.append_assoc
def Sv:=@List.mem_range
def Sw:=@Heap.size_push
def Sx:=@codeAny_mono
def Sy:=@Nat.lt_irrefl
def Sz:=@List.all_cons
def SA:=@List.getElem?_map
def SB:=@Int.toNat_natCast
def SC:=@Heap.SameBut.update
def SD:=@Array.length_toList
def SE:=@wpAny_call_entry
def SG:=@List.take_append_drop
def SH:=@Bool.false_eq_true
def SI:=@wpAny_seqItems
def SJ:=@Nat.zero_le
def SK:=@List.drop_zero
def SL:=@wpAny_truthy_bool
def SM:=@wpAny_loadPart_at
def SN:=@W.kia_one
def SO:=@Option.isSome_iff_exists
def SQ:=@List.mem_filter
def SR:=@List.forIn_cons
def SS:=@beq_eq_false_iff_ne
def SU:=@List.drop_length
def SV:=@Obj.data_mapFields
def SW:=@Obj.isFreed_of_fields
def SX:=@List.length_singleton
def SY:=@List.getElem?_eq_none
def SZ:=@or_false
def Ta:=@call_meets
def Tb:=@List.nodup_append
def Tc:=@F.slot_tuple_iterator_next
def Td:=@Array.getElem?_eq_some_iff
def Tf:=@List.length_take
def Tg:=@List.length_drop
def Th:=@wpAny_pyIter_tuple
def Tj:=@wpAny_getItem_str_slice
def Tk:=@wpAny_Call_Name_kw
def Tl:=@tupleKind_room_in1
def To:=@List.nodup_cons
def Tp:=@List.find?_cons
def Tq:=@List.any_cons
def Tr:=@Int.emod_nonneg
def Ts:=@F.slot_zip_next
def Tt:=@Option.map_eq_some_iff
def Tu:=@of_decide_eq_true
def Tv:=@List.reverse_cons
def Tw:=@Bool.and_false
def Tx:=@beq_self_eq_true
def Tz:=@List.lookup_cons
def TC:=@List.eq_nil_of_length_eq_zero
def TD:=@List.mem_of_mem_take
def TF:=@wpAny_onRaise
def TH:=@wpAny_rule
def TJ:=@wpAny_passesOwn
def TK:=@wpAny_isSubtype_exc
def TL:=@wpAny_execs_nil
def TM:=@Nat.mul_le_mul_left
def TN:=@Nat.le_succ
def TQ:=@List.foldl_cons
def TR:=@F.slot_dict_get
def TU:=@Calls.Name_function_global
def TV:=@if_false
def TW:=@Nat.lt_of_le_of_lt
def TX:=@List.map_map
def TY:=@List.drop_drop
def TZ:=@wpAny_pyIter_list
def Ua:=@wpAny_pyIter_enum
def Ub:=@wpAny_comprehension_free
def Uc:=@WalksT.enumerateD
def Ud:=@List.flatMap_cons
def Ue:=@AutoSeq1.sub_tuple_tuple
def Uf:=@wpAny_attempt
def Ug:=@sizeLine_eq
def Uh:=@Nat.lt_succ_self
def Ui:=@List.getElem_mem
def Uj:=@F.slot_str_split
def Uk:=@F.entry_dict_get
def Ul:=@Calls.callWith_builtin
def Um:=@post_val_or_str
def Uo:=@if_true
def Up:=@Nat.mul_comm
def Uq:=@Nat.le_of_eq
def Ur:=@List.mem_iff_getElem?
def Us:=@List.count_cons
def Ut:=@F.slot_int_rmul
def Uu:=@Bool.or_eq_true
def Uv:=@wpAny_call
def Uw:=@typeIs_str
def Ux:=@List.mem_of_mem_drop
def Uy:=@Calls.evalArgs_plain
def Uz:=@slicePart_none
def UA:=@ne_true_of_eq_false
def UB:=@entry_tuple_getitem
def UC:=@evalPart_none
def UD:=@assignInOrder_cons
def UE:=@args_tuple_getitem
def UF:=@Paired.length
def UG:=@List.mem_filterMap
def UH:=@List.getElem?_drop
def UI:=@List.contains_cons
def UJ:=@Int.emod_lt_of_pos
def UK:=@Heap.IsSliceOf.new
def UL:=@F.args_tuple_add_2
def UM:=@F.args_str_split_2
def UN:=@Bool.not_true
def UO:=@wpAny_sequenceKey
def UP:=@typeIs_int
def UQ:=@W.mg_of
def UR:=@Option.some.injEq
def US:=@F.entry_tuple_add
def UT:=@F.entry_str_split
def UU:=@F.args_zip_next_1
def UV:=@wpAny_typeOf
def UW:=@call_meetsIn
def UX:=@Nat.le_of_lt
def UY:=@wpAny_execs_cons
def UZ:=@noFill_tuple_add
def Va:=@Str.append_assoc
def Vb:=@Option.getD_some
def Vc:=@List.mem_flatMap
def Vd:=@List.any_eq_true
def Ve:=@F.slot_tuple_add
def Vf:=@F.plainAttrs_str
def Vg:=@F.entry_zip_next
def Vh:=@AutoSeq1.idx_int
def Vi:=@F.args_tuple_iterator_next_1
def Vj:=@wpAny_updateSeq
def Vk:=@pure_bind
def Vl:=@codeAny_of_tree
def Vm:=@boot_list
def Vn:=@boot_isinstance
def Vo:=@W.kitx_list
def Vp:=@Sum.inr.inj
def Vq:=@PassesOwn.never
def Vr:=@List.of_mem_zip
def Vs:=@List.length_set
def Vt:=@F.entry_tuple_iterator_next
def Vu:=@wpAny_bindName
def Vv:=@wpAny_binaryOp_repeat_ref
def Vw:=@List.mem_or_eq_of_mem_set
def Vx:=@List.drop_left
def Vy:=@Bool.not_false
def Vz:=@Bool.false_and
def VA:=@Array.getElem?_eq_getElem
def VB:=@wpAny_getItem_list_slice
def VC:=@intBits_le
def VD:=@bne_iff_ne
def VE:=@Subscript_
def VF:=@Nat.not_lt
def VG:=@List.getElem?_take_of_lt
def VH:=@wpAny_pyNext_enum_itemD
def VI:=@tupleItemsOf_
def VJ:=@tail_any
def VL:=@seq_tuple_add
def VM:=@List.getElem?_cons_succ
def VN:=@Calls.loadGlobal_global
def VO:=@Bool.and_true
def VP:=@wpAny_Call_method_late
def VQ:=@subscriptTail_builtinR
def VR:=@Nat.le_of_succ_le_succ
def VS:=@List.take_of_length_le
def VT:=@List.drop_eq_nil_of_le
def VU:=@seqIndex_neg
def VW:=@concat_meets
def VX:=@Nat.zero_add
def VY:=@List.map_nil
def VZ:=@Int.ediv_one
def Wa:=@Bool.or_true
def Wb:=@wpAny_newFunctionEnv
def Wc:=@codeAny_call_builtin
def We:=@List.mem_iff_getElem
def Wf:=@Heap.get?_none_of_le
def Wg:=@Array.mem_toList_iff
def Wh:=@wpAny_of_eq
def Wi:=@wpAny_letGo
def Wj:=@wpAny_Slice
def Wk:=@seqIndex_of
def Wl:=@W.kitx_dict
def Wm:=@List.map_congr_left
def Wn:=@wpAny_entryPlaceOf
def Wo:=@List.filterMap_map
def Wp:=@F.slot_list_append
def Wq:=@Code.quiet_builtin
def Wr:=@Calls.spliced_cons
def Ws:=@Calls.Constant_str
def Wt:=@Array.find?_toList
namespace L2
noncomputable abbrev aJ:=Sum Int Str
noncomputable def rN:aJ->Value->Bool
 | .inl k,v=>Value.isInt k v
 | .inr x,v=>Value.isStrOf x v
noncomputable def keyH(w:World):aJ->Int
 | .inl k=>hashInt k
 | .inr x=>hashStr w x
theorem cj:∀ {k:aJ} {v:Value},rN k v=true->(∃ i t,k=Sum.inl i/\v=Value.int i t)\/(∃ x t,k=Sum.inr x/\v=Value.str x t)
 | .inl i,v,h=>by
  obtain⟨t,e⟩:=Value.isInt_shape (k:=i) (v:=v) h
  exact .inl ⟨i,t,rfl,e⟩
 | .inr x,v,h=>by
  obtain⟨t,e⟩:=Value.isStrOf_shape (x:=x) (v:=v) h
  exact .inr ⟨x,t,rfl,e⟩
theorem BO(i:Int)(t:Tok):rN (.inl i) (.int i t)=true:=by simp[rN,Value.isInt]
theorem BN(x:Str)(t:Tok):rN (.inr x) (.str x t)=true:=by simp[rN,Value.isStrOf]
theorem OG(a b:Int):decide ((Sum.inl a:aJ)=Sum.inl b)=(a==b):=by
 by_cases e:a=b
 ·subst e;simp
 ·have h:¬ (Sum.inl a:aJ)=Sum.inl b:=λq=>e (Sum.inl.inj q)
  rw[Se h]
  exact(SS.mpr e).symm
theorem OD(a b:Str):decide ((Sum.inr a:aJ)=Sum.inr b)=decide (a=b):=by
 by_cases e:a=b
 ·subst e;simp
 ·have h:¬ (Sum.inr a:aJ)=Sum.inr b:=λq=>e (Vp q)
  rw[Se h,Se e]
theorem OF(a:Int)(b:Str):decide ((Sum.inl a:aJ)=Sum.inr b)=false:=Se (λq=>nomatch q)
theorem OE(a:Str)(b:Int):decide ((Sum.inr a:aJ)=Sum.inl b)=false:=Se (λq=>nomatch q)
noncomputable def aY(prog:Program)(w:World):PySem.KeyKind prog w aJ where
 is:=rN
 hash:=keyH w
 inj:=λv a b ha hb=>by
  rcases cj ha with ⟨i,t,rfl,rfl⟩ | ⟨x,t,rfl,rfl⟩
  ·rcases cj hb with ⟨j,u,rfl,e⟩ | ⟨y,u,rfl,e⟩
   ·injection e with e1 _;rw[e1]
   ·exact nomatch e
  ·rcases cj hb with ⟨j,u,rfl,e⟩ | ⟨y,u,rfl,e⟩
   ·exact nomatch e
   ·injection e with e1 _;rw[e1]
 byValue:=λk v h=>by
  rcases cj h with ⟨i,t,rfl,rfl⟩ | ⟨x,t,rfl,rfl⟩<;>rfl
 pyHash:=λhv h=>by
  rcases cj hv with ⟨i,t,rfl,rfl⟩ | ⟨x,t,rfl,rfl⟩
  ·exact wpAny_pyHash_int h
  ·exact wpAny_pyHash_str h
 eqBool:=λhu hv h=>by
  rcases cj hu with ⟨i,t,rfl,rfl⟩ | ⟨x,t,rfl,rfl⟩
  ·rcases cj hv with ⟨j,u,rfl,rfl⟩ | ⟨y,u,rfl,rfl⟩
   ·rw[OG] at h;exact wpAny_eqBool_int h
   ·rw[OF] at h;exact SeqAt.EqAt.int_str i t y u _ _ _ _ h
  ·rcases cj hv with ⟨j,u,rfl,rfl⟩ | ⟨y,u,rfl,rfl⟩
   ·rw[OE] at h;exact SeqAt.EqAt.str_int x t j u _ _ _ _ h
   ·rw[OD] at h;exact wpAny_eqBool_str h
 «strs»:=λk x t v h=>by
  rcases cj h with ⟨i,u,rfl,e⟩ | ⟨y,u,rfl,e⟩
  ·exact nomatch e
  ·injection e with e1 _
   subst e1
   cases v<;>rfl
theorem vX(prog:Program)(w:World)(i:Int)(t:Tok):(aY prog w).is (.inl i) (.int i t)=true:=BO i t
theorem vV(prog:Program)(w:World)(x:Str)(t:Tok):(aY prog w).is (.inr x) (.str x t)=true:=BN x t
inductive V where
 | non | bl (b:Bool) | int (i:Int) | str (x:Str) | byt (b:Array UInt8) | flt (b:UInt64) | ref (a:Addr) | ty (n:String)
 deriving DecidableEq
noncomputable def RelV:V->Value->Prop
 | .non,u=>u=Value.none
 | .bl b,u=>u=Value.bool b
 | .int i,u=>∃ t,u=Value.int i t
 | .str x,u=>∃ t,u=Value.str x t
 | .byt b,u=>∃ t,u=Value.bytes b t
 | .flt b,u=>∃ t,u=Value.float b t
 | .ref a,u=>u=Value.ref a
 | .ty n,u=>u=Value.type n
noncomputable abbrev Vals:List V->List Value->Prop:=Paired RelV
theorem Vals.length{xs:List V}{us:List Value}(r:Vals xs us):xs.length=us.length:=UF r
theorem Vals.get:∀ {xs:List V} {us:List Value} {i:Nat} {x:V},Vals xs us->xs[i]?=U x->∃ u,us[i]?=U u/\RelV x u
 | _,_,_,_,.nil,e=>by simp at e
 | _,_,0,_,.cons r _,e=>by simp at e;subst e;exact⟨_,rfl,r⟩
 | _,_,i+1,x,.cons _ t,e=>by
  obtain⟨u,h1,h2⟩:=Vals.get (i:=i) (x:=x) t (by simpa using e)
  exact⟨u,by simpa using h1,h2⟩
theorem Vals.set(r:RelV x u):∀ {xs:List V} {us:List Value} (i:Nat),Vals xs us->Vals (xs.set i x) (us.set i u)
 | _,_,_,.nil=>.nil
 | _,_,0,.cons _ t=>.cons r t
 | _,_,i+1,.cons q t=>.cons q (Vals.set r i t)
theorem Vals.append:∀ {xs ys:List V} {us ws:List Value},Vals xs us->Vals ys ws->Vals (xs++ys) (us++ws)
 | _,_,_,_,.nil,s=>s
 | _,_,_,_,.cons r t,s=>.cons r (Vals.append t s)
theorem Vals.take:∀ {xs:List V} {us:List Value} (n:Nat),Vals xs us->Vals (xs.take n) (us.take n)
 | _,_,0,_=>.nil
 | _,_,_+1,.nil=>.nil
 | _,_,n+1,.cons r t=>.cons r (Vals.take n t)
theorem Vals.drop:∀ {xs:List V} {us:List Value} (n:Nat),Vals xs us->Vals (xs.drop n) (us.drop n)
 | _,_,0,r=>r
 | _,_,_+1,.nil=>.nil
 | _,_,n+1,.cons _ t=>Vals.drop n t
noncomputable def RelO:Option V->Option Value->Prop
 | some v,U u=>RelV v u
 | none,Y=>True
 | _,_=>False
noncomputable def KV{κ:Type}:List (κ×V)->List (κ×Value)->Prop:=Paired λ(p:κ×V) (q:κ×Value)=>p.1=q.1/\RelV p.2 q.2
noncomputable def kV:aJ->V
 | .inl i=>.int i
 | .inr x=>.str x
inductive HO where
 | lst (xs:List V)
 | tup (xs:List V)
 | dK (kvs:List (aJ×V)) | dT (kvs:List (List aJ×V))
 | set (S:Int->Bool) (n:Nat)
 | ins (C dx:Addr) (fs:List (Str×V))
 | own (x:Addr)
 | xd (fs:List (Str×V))
 | met (f x:Addr)
 | rng (lo hi:Int)
 | frz (o:Obj) (u:HO)
 | tbl (ps:Array Value)
 | ext (φ:Heap->Prop)
noncomputable abbrev Hp:=Addr->Option HO
noncomputable def upd(H:Hp)(a:Addr)(o:HO):Hp:=λb=>if b=a then U o else H b
theorem ah:upd H a o a=U o:=by unfold upd;rw[Ru rfl]
theorem aj{a b:Addr}(h:b≠a):upd H a o b=H b:=by unfold upd;rw[RH h]
theorem ne_of{H:Hp}{o u:HO}(h:H a=U o)(h':H b=U u)(d:o≠u):a≠b:=by
 intro e;subst e;rw[h] at h';exact d (RJ h')
theorem aQ{H:Hp}{o:HO}(h:H a=U o)(h':H b=Y):a≠b:=by
 intro e;subst e;rw[h] at h';cases h'
noncomputable def IsTupN(h:Heap)(a:Addr)(items:Array Value):Prop:=∃ o,h.get? a=U o/\o.cls=.type "tuple"/\(∃ n,o.data=.seq items n)/\o.dict=Y
theorem IsTupN.up(x:IsTupN h a items):IsTup h a items:=by
 obtain⟨o,e,c,d,_⟩:=x
 exact⟨o,e,c,d⟩
theorem IsTupN.lt(x:IsTupN h a items):a<h.objs.size:=x.up.lt
theorem IsTupN.new(h:Heap)(items:Array Value):IsTupN (h.push { cls:=.type "tuple",data:=.seq items }) h.objs.size items:=⟨_,Rs _ rfl,rfl,⟨_,rfl⟩,rfl⟩
section
variable(P:Program)(w:World)
noncomputable def ObjOk(H:Hp)(h:Heap)(a:Addr):HO->Prop
 | .lst xs=>xs.length<=sizeLine/\∃ (its:List Value) (n:Nat),Vals xs its/\h.get? a=U { cls:=.type "list",data:=.seq its.toArray n }
 | .tup xs=>xs.length<=sizeLine/\∃ its:List Value,Vals xs its/\IsTupN h a its.toArray
 | .dK kvs=>kvs.length<=sizeLine/\(a==sysModules)=false/\∃ vs,KV kvs vs/\h.DictOf (aY P w) a vs
 | .dT kvs=>kvs.length<=sizeLine/\(a==sysModules)=false/\∃ xs:List (List aJ×Addr×Value),
   Paired (λ(p:List aJ×V) (q:List aJ×Addr×Value)=>p.1=q.1/\H q.2.1=U (.tup (p.1.map kV))/\RelV p.2 q.2.2) kvs xs /\
   ∃ o es ep,h.get? a=U o/\o.ExactDict/\o.data=.dict es ep/\es.toList=xs.map (entryOfKey (tupleKind (aY P w)))/\(xs.map (·.1)).Nodup
 | .set S n=>h.SetOf (intKind P w) a S n
 | .ins C dx fs=>H dx=U (.own a)/\fs.length<=1000/\dx≠a/\h.get? a=U (W.instObj C dx) /\
   ∃ mA,h.Ns1 dx mA/\(∀ f,RelO (fs.lookup f) (mA f))/\PySem.Within mA (fs.map (·.1))
 | .own _=>∃ o,h.get? a=U o
 | .xd fs=>∃ mA,h.Ns1 a mA/\∀ f,RelO (fs.lookup f) (mA f)
 | .rng lo hi=>∃ t u v,h.get? a=U { cls:=.type "range",data:=.fields #[.int lo t,.int hi u,.int 1 v] }
 | .frz o u=>h.get? a=U o/\ObjOk H h a u
 | .tbl ps=>h.get? a=U { cls:=.none,data:=.fields ps }
 | .met f x=>h.get? a=U (W.methodObj (.ref f) (.ref x))
 | .ext φ=>φ h/\(∃ o,h.get? a=U o)/\∀ h1 h2:Heap,φ h1->(∀ o,h1.get? a=U o->h2.get? a=U o)->φ h2
noncomputable def HOk(H:Hp)(h:Heap):Prop:=∀ a o,H a=U o->ObjOk P w H h a o
end
section
variable{P:Program}{w:World}{H H':Hp}{h h':Heap}{a:Addr}{o:HO}
theorem ObjOk.lt(x:ObjOk P w H h a o):a<h.objs.size:=by
 cases o with
 | lst xs=>obtain⟨_,_,_,_,e⟩:=x;exact Ro e
 | tup xs=>obtain⟨_,_,_,p⟩:=x;exact p.lt
 | dK kvs=>obtain⟨_,_,_,_,o,_,_,e,_⟩:=x;exact Ro e
 | dT kvs=>obtain⟨_,_,_,_,o,_,_,e,_⟩:=x;exact Ro e
 | set S n=>obtain⟨o,_,_,_,e,_⟩:=x;exact Ro e
 | ins C dx fs=>obtain⟨_,_,_,e,_⟩:=x;exact Ro e
 | own y=>obtain⟨_,e⟩:=x;exact Ro e
 | xd fs=>obtain⟨_,⟨_,_,_,e,_⟩,_⟩:=x;exact Ro e
 | rng lo hi=>obtain⟨_,_,_,e⟩:=x;exact Ro e
 | frz ob u=>obtain⟨e,_⟩:=x;exact Ro e
 | tbl ps=>exact Ro (show h.get? a=U _ from x)
 | met f y=>exact Ro (show h.get? a=U _ from x)
 | ext φ=>obtain⟨_,⟨_,e⟩,_⟩:=x;exact Ro e
theorem Paired.mapP{α β:Type}{F G:α->β->Prop}:∀ {l₁:List α} {l₂:List β},Paired F l₁ l₂->(∀ a b,F a b->G a b)->Paired G l₁ l₂
 | _,_,.nil,_=>.nil
 | _,_,.cons r t,f=>.cons (f _ _ r) (Paired.mapP t f)
theorem ObjOk.stay(x:ObjOk P w H h a o)(k:∀ b u,(b=a\/H b=U (.own a))->h.get? b=U u->h'.get? b=U u)
  (ho:∀ b,H b=U (.own a)->H' b=U (.own a)) (ht:∀ b xs,H b=U (.tup xs)->H' b=U (.tup xs)):ObjOk P w H' h' a o:=by
 induction o with
 | lst xs=>obtain⟨z,its,n,r,e⟩:=x;exact⟨z,its,n,r,k _ _ (.inl rfl) e⟩
 | tup xs=>obtain⟨z,its,r,ob,e,c⟩:=x;exact⟨z,its,r,ob,k _ _ (.inl rfl) e,c⟩
 | dK kvs=>obtain⟨z,y,vs,r,ob,es,ep,e,c⟩:=x;exact⟨z,y,vs,r,ob,es,ep,k _ _ (.inl rfl) e,c⟩
 | dT kvs=>
  obtain⟨z,y,xs,r,ob,es,ep,e,c⟩:=x
  exact⟨z,y,xs,Paired.mapP r λp q z=>⟨z.1,ht _ _ z.2.1,z.2.2⟩,ob,es,ep,k _ _ (.inl rfl) e,c⟩
 | set S n=>obtain⟨ob,es,ep,t,e,c⟩:=x;exact⟨ob,es,ep,t,k _ _ (.inl rfl) e,c⟩
 | ins C dx fs=>
  obtain⟨d,z,ne,e,mA,⟨od,es,ep,e2,c⟩,r⟩:=x
  exact⟨ho _ d,z,ne,k _ _ (.inl rfl) e,mA,⟨od,es,ep,k _ _ (.inr d) e2,c⟩,r⟩
 | own y=>obtain⟨ob,e⟩:=x;exact⟨ob,k _ _ (.inl rfl) e⟩
 | xd fs=>obtain⟨mA,⟨od,es,ep,e,c⟩,r⟩:=x;exact⟨mA,⟨od,es,ep,k _ _ (.inl rfl) e,c⟩,r⟩
 | rng lo hi=>obtain⟨t,u,v,e⟩:=x;exact⟨t,u,v,k _ _ (.inl rfl) e⟩
 | frz ob u ih=>obtain⟨e,q⟩:=x;exact⟨k _ _ (.inl rfl) e,ih q⟩
 | tbl ps=>
  have e:h.get? a=U { cls:=.none,data:=.fields ps }:=x
  show h'.get? a=U { cls:=.none,data:=.fields ps }
  exact k a _ (.inl rfl) e
 | met f y=>
  have e:h.get? a=U (W.methodObj (.ref f) (.ref y)):=x
  show h'.get? a=U (W.methodObj (.ref f) (.ref y))
  exact k a _ (.inl rfl) e
 | ext φ=>obtain⟨p,⟨o,e⟩,st⟩:=x;exact⟨st _ _ p λo q=>k _ _ (.inl rfl) q,⟨o,k _ _ (.inl rfl) e⟩,st⟩
theorem HOk.lt(x:HOk P w H h)(e:H a=U o):a<h.objs.size:=(x a o e).lt
theorem HOk.fresh(x:HOk P w H h)(e:h.objs.size<=a):H a=Y:=by
 cases q:H a with
 | none=>rfl
 | some u=>exact absurd (Ry (x.lt q) e) (Sy _)
theorem HOk.kept(x:HOk P w H h)(k:∀ b u,h.get? b=U u->h'.get? b=U u):HOk P w H h':=λa o e=>
 (x a o e).stay (λb u _ q=>k b u q) (λ_ q=>q) λ_ _ q=>q
theorem HOk.laid(x:HOk P w H h)(k:∀ b u,h.get? b=U u->h'.get? b=U u)(hp:h.objs.size<=a)(new:ObjOk P w (upd H a o) h' a o):HOk P w (upd H a o) h':=λb u e=>by
 have hn:=x.fresh hp
 by_cases hb:b=a
 ·subst hb;rw[ah] at e;cases e;exact new
 ·rw[aj hb] at e
  exact(x b u e).stay (λc v _ q=>k c v q) (λc q=>by rw[aj (aQ q hn)];exact q) λc xs q=>by rw[aj (aQ q hn)];exact q
end
noncomputable def Rd(H:Hp)(a:Addr)(u:HO):Prop:=H a=U u\/∃ o,H a=U (.frz o u)
theorem Rd.ok(r:Rd H a u)(x:HOk P w H h):ObjOk P w H h a u:=by
 rcases r with r | ⟨o,r⟩
 ·exact x a u r
 ·obtain⟨_,q⟩:=x a _ r
  exact q
noncomputable def Mut:Option HO->Prop
 | some (.lst _)=>True
 | some (.dK _)=>True
 | some (.dT _)=>True
 | some (.set _ _)=>True
 | some (.ins _ _ _)=>True
 | some (.ext _)=>True
 | _=>False
section
variable{P:Program}{w:World}{H:Hp}{h h':Heap}{x e:Addr}{o':HO}
theorem HOk.write(ok:HOk P w H h)(mu:Mut (H x))(he:e=x\/H e=U (.own x))(k:∀ b u,b≠e->h.get? b=U u->h'.get? b=U u)(heo:∃ u,h'.get? e=U u)
  (new:ObjOk P w (upd H x o') h' x o'):HOk P w (upd H x o') h':=λb u q=>by
 have nown:∀ c y,H c=U (.own y)->c≠x:=λc y r z=>by subst z;rw[r] at mu;exact mu
 have ntup:∀ c xs,H c=U (.tup xs)->c≠x:=λc xs r z=>by subst z;rw[r] at mu;exact mu
 by_cases hb:b=x
 ·subst hb;rw[ah] at q;cases q;exact new
 ·rw[aj hb] at q
  by_cases hbe:b=e
  ·have q':H b=U (.own x):=by
    rcases he with z | z
    ·exact absurd (hbe.trans z) hb
    ·rw[hbe];exact z
   rw[q] at q';cases q'
   obtain⟨v,hv⟩:=heo
   exact⟨v,by rw[hbe];exact hv⟩
  ·refine(ok b u q).stay (λc v hc r=>k c v ?_ r) (λc r=>by rw[aj (nown c b r)];exact r) λc xs r=>by rw[aj (ntup c xs r)];exact r
   rcases hc with rfl | hc
   ·exact hbe
   ·rintro rfl
    rcases he with z | z
    ·exact nown c b hc z
    ·rw[hc] at z;cases z;exact hb rfl
end
structure Un(fs ex:List Addr)(H H':Hp)(h h':Heap):Prop where
 keep:∀ b o,h.get? b=U o->H b=Y->b∉fs->b∉ex->h'.get? b=U o
 slot:∀ b o,h.get? b=U o->H b=Y->b∈fs->b∉ex->∃ sl,h'.get? b=U { o with slots:=sl }
 free:∀ b o,h.get? b=U o->H b=Y->b∉ex->H' b=Y
 there:∀ b o,h.get? b=U o->b∉ex->∃ o',h'.get? b=U o'
 tups:∀ b xs,H b=U (.tup xs)->H' b=U (.tup xs)
 frzs:∀ b o u,H b=U (.frz o u)->H' b=U (.frz o u)
 tbls:∀ b ps,H b=U (.tbl ps)->∃ more,H' b=U (.tbl (ps++more))
section
variable{fs fs' ex ex':List Addr}{H H1 H2:Hp}{h h1 h2 h':Heap}{a x e:Addr}{o:HO}
theorem Un.any(u:Un fs ex H H1 h h1){ob:Obj}(q:h.get? b=U ob)(n:H b=Y)(hx:b∉ex):∃ sl,h1.get? b=U { ob with slots:=sl }:=by
 by_cases hb:b∈fs
 ·exact u.slot b ob q n hb hx
 ·exact⟨ob.slots,u.keep b ob q n hb hx⟩
theorem Un.kept(k:∀ b u,h.get? b=U u->h'.get? b=U u):Un fs ex H H h h':=
 ⟨λb ob q _ _ _=>k b ob q,λb ob q _ _ _=>⟨ob.slots,k b ob q⟩,λ_ _ _ n _=>n,λb ob q _=>⟨ob,k b ob q⟩,λ_ _ q=>q,λ_ _ _ q=>q,λ_ ps q=>⟨#[],by rw[q];simp⟩⟩
theorem Un.refl:Un fs ex H H h h:=Un.kept λ_ _ q=>q
theorem Un.laid(k:∀ b u,h.get? b=U u->h'.get? b=U u)(hp:h.objs.size<=a)(hn:H a=Y):Un fs ex H (upd H a o) h h' where
 keep:=λb u q _ _ _=>k b u q
 slot:=λb u q _ _ _=>⟨u.slots,k b u q⟩
 free:=λb u q n _=>by rw[aj (RL (Ry (Ro q) hp))];exact n
 there:=λb u q _=>⟨u,k b u q⟩
 tups:=λb xs q=>by rw[aj (aQ q hn)];exact q
 frzs:=λb u xs q=>by rw[aj (aQ q hn)];exact q
 tbls:=λb ps q=>⟨#[],by rw[aj (aQ q hn),q];simp⟩
theorem Un.write(mu:Mut (H x))(he:e=x\/H e=U (.own x))(k:∀ b u,b≠e->h.get? b=U u->h'.get? b=U u)(heo:∃ u,h'.get? e=U u):Un fs ex H (upd H x o) h h':=by
 have hx:∀ b,H b=Y->b≠x:=λb n z=>by subst z;rw[n] at mu;exact mu
 have hb:∀ b,H b=Y->b≠e:=λb n z=>by
  subst z
  rcases he with r | r
  ·exact hx b n r
  ·rw[n] at r;cases r
 have hm:∀ b u,H b=U u->¬ Mut (U u)->b≠x:=λb u q nm z=>by subst z;rw[q] at mu;exact nm mu
 refine⟨λb u q n _ _=>k b u (hb b n) q,λb u q n _ _=>⟨u.slots,k b u (hb b n) q⟩,λb u q n _=>by rw[aj (hx b n)];exact n,λb u q _=>?_,
  λb xs q=>by rw[aj (hm b _ q λz=>z)];exact q,λb u xs q=>by rw[aj (hm b _ q λz=>z)];exact q,λb ps q=>⟨#[],by rw[aj (hm b _ q λz=>z),q];simp⟩⟩
 by_cases hbe:b=e
 ·subst hbe;exact heo
 ·exact⟨u,k b u hbe q⟩
end
noncomputable def trk(h:Heap)(H:Hp):List Addr:=(List.range h.objs.size).filter λa=>(H a).isSome
noncomputable def uw(h:Heap)(H:Hp):Heap:=W.hideAll h (trk h H)
theorem BZ(h:Heap)(H:Hp):(uw h H).objs.size=h.objs.size:=W.hideAll_size _ _
theorem Gc{h:Heap}{H:Hp}{o:Obj}(e:h.get? b=U o)(n:H b=Y):(uw h H).get? b=U o:=
 W.hideAll_get _ e λhm=>by
  have q:(H b).isSome=true:=(SQ.mp hm).2
  rw[n] at q;simp at q
theorem JA{o:Obj}(e:(uw h H).get? b=U o):h.get? b=U o/\H b=Y:=by
 have e':h.get? b=U o:=W.of_hideAll (trk h H) e
 refine⟨e',?_⟩
 cases q:H b with
 | none=>rfl
 | some x=>
  have hm:b∈trk h H:=SQ.mpr ⟨Sv.mpr (Ro e'),by simp[q]⟩
  have z:(uw h H).get? b=Y:=W.hideAll_none (trk h H) hm
  rw[z] at e;cases e
structure Mod(K:W.Frag)(mg:Str->Option Value)(base:Heap):Prop where
 kin:K.In base
 glob:base.Ns mainGlobals mg
 blt:∃ mb,base.Ns builtinsNs mb/\∀ x:Str,x≠"__name__"->mb x=bootBuiltins x
 nolimit:base.NoLimit
structure Cx where
 prog:Program
 w:World
 K:W.Frag
 mg:Str->Option Value
 base:Heap
 A:Around
 N:List Str
 s₀:Shared
 H₀:Hp
 env:Env
 outer:List Env
 stack:List Env
 ex:List Addr
 fn:Str->Bool
 calm:Bool
 pn:List (Addr×Obj)
 xe:Value->Shared->Prop
noncomputable def rZ(l:List Env):List Addr:=l.filterMap (·.frame)
noncomputable abbrev Cx.fs(X:Cx):List Addr:=rZ X.outer
noncomputable def QR(sc:Scope)(x:Str):Prop:=sc.names.lookup x=U .local\/sc.names.lookup x=U .cell\/sc.names.lookup x=U .free
noncomputable def Bf(sc:Scope)(x:Str):Prop:=sc.names.lookup x=U .local\/sc.names.lookup x=U .cell
noncomputable def Look(env:Env)(h:Heap)(m:Str->Option Value)(x:Str)(u:Value):Prop:=
 (env.kindOf x=U .local/\m x=U u)\/((env.kindOf x=U .cell\/env.kindOf x=U .free)/\∃ c,env.cells.lookup x=U c/\h.IsCell c (U u))
structure Cx.Ok(X:Cx):Prop where
 mod:Mod X.K X.mg X.base
 kind:X.env.scope.kind=.function
 glob:X.env.globals=mainGlobals
 blt:X.env.builtins=builtinsNs
 above:X.s₀.heap.objs.size<=X.env.locals
 inj:∀ x y c,X.env.cells.lookup x=U c->X.env.cells.lookup y=U c->x=y
 has:∀ x,(X.env.kindOf x=U .cell\/X.env.kindOf x=U .free)->∃ c,X.env.cells.lookup x=U c
 cab:∀ x c,X.fn x=true->X.env.cells.lookup x=U c->X.s₀.heap.objs.size<=c
 hd:X.calm=true->X.A.handled=Y
 frames:X.A.frames=U X.stack
 stk:X.stack=X.outer\/(X.stack=X.env::X.outer/\X.env.frame=U X.env.locals)
 exf:∀ b∈X.ex,b≠X.env.locals/\∀ x c,X.env.cells.lookup x=U c->c≠b
 bs:∀ b o,X.base.get? b=U o->X.s₀.heap.get? b=U o/\X.H₀ b=Y
 bsz:X.base.objs.size<=X.s₀.heap.objs.size
 noex:∀ b o,X.base.get? b=U o->b∉X.ex
 exfs:∀ b∈X.ex,b∉X.fs
 funs:X.s₀.heap.FunFrames X.base X.outer
 frf:∀ b∈X.fs,X.H₀ b=Y
structure Inv(X:Cx)(pins:List (Addr×Obj))(σ:List (Option V))(H:Hp)(s:Shared):Prop where
 ok:X.Ok
 os:s.os=X.s₀.os
 bare:AllBare s.gens
 base:Un X.fs X.ex X.H₀ H X.s₀.heap s.heap
 loc:∃ m,s.heap.Ns X.env.locals m/\∀ (i:Nat) (x:Str) (v:V),X.N[i]?=U x->σ[i]?=U (U v)->QR X.env.scope x->∃ u,RelV v u/\Look X.env s.heap m x u
 cell:∀ x c,X.env.cells.lookup x=U c->∃ v,s.heap.IsCell c v
 free:H X.env.locals=Y
 freeC:∀ x c,X.env.cells.lookup x=U c->H c=Y
 pin:∀ p∈X.pn++pins,s.heap.get? p.1=U p.2/\H p.1=Y/\p.1≠X.env.locals/\p.1∉X.fs/\∀ v,p.2.data≠.cell v
 hok:HOk X.prog X.w H s.heap
 len:σ.length=X.N.length
section
variable{X:Cx}{pins:List (Addr×Obj)}{σ:List (Option V)}{H H':Hp}{s:Shared}{h':Heap}
theorem Cx.Ok.nofr(ok:X.Ok){o:Obj}(e:X.base.get? b=U o):b∉X.fs:=λhb=>by
 have:=(ok.funs.mem hb).1
 rw[e] at this;cases this
theorem Inv.bs(I:Inv X pins σ H s):∀ b o,X.base.get? b=U o->s.heap.get? b=U o/\H b=Y:=λb o e=>
 ⟨I.base.keep b o (I.ok.bs b o e).1 (I.ok.bs b o e).2 (I.ok.nofr e) (I.ok.noex b o e),I.base.free b o (I.ok.bs b o e).1 (I.ok.bs b o e).2 (I.ok.noex b o e)⟩
theorem Inv.bk(I:Inv X pins σ H s):∀ b o,X.base.get? b=U o->s.heap.get? b=U o:=λb o e=>(I.bs b o e).1
theorem Inv.mod(I:Inv X pins σ H s):Mod X.K X.mg X.base:=I.ok.mod
theorem Inv.kIn(I:Inv X pins σ H s):X.K.In s.heap:=I.ok.mod.kin.keeps I.bk
theorem Inv.lt(I:Inv X pins σ H s):X.env.locals<s.heap.objs.size:=let ⟨_,hn,_⟩:=I.loc;hn.lt
theorem Inv.sz(I:Inv X pins σ H s):X.s₀.heap.objs.size<=s.heap.objs.size:=RG I.ok.above (UX I.lt)
theorem Inv.nofs(I:Inv X pins σ H s){a:Addr}(h:s.heap.objs.size<=a):a∉X.fs:=λhb=>by
 obtain⟨_,o,ho,_⟩:=I.ok.funs.mem hb
 exact absurd (Ry (Ro ho) (RG I.sz h)) (Sy _)
theorem Inv.cne(I:Inv X pins σ H s):∀ x c,X.env.cells.lookup x=U c->c≠X.env.locals:=λx c e z=>by
 obtain⟨v,o,ho,hd⟩:=I.cell x c e
 obtain⟨m,⟨o',es,ep,ho',hd',_⟩,_⟩:=I.loc
 rw[z,ho'] at ho;cases ho;rw[hd'] at hd;cases hd
theorem Inv.funs(I:Inv X pins σ H s):s.heap.FunFrames X.base X.outer:=by
 have all:∀ (l:List Env),(∀ b∈rZ l,b∈X.fs)->X.s₀.heap.FunFrames X.base l->s.heap.FunFrames X.base l:=by
  intro l
  induction l with
  | nil=>intro _ _;trivial
  | cons env r ih=>
   intro hs hl
   obtain⟨hk,⟨L,o,hf,hn,ho,hd⟩,hr⟩:=hl
   have hL:L∈X.fs:=hs L (by unfold rZ;rw[RV,hf];exact Rf)
   obtain⟨sl,e⟩:=I.base.slot L o ho (I.ok.frf L hL) hL λz=>I.ok.exfs L z hL
   exact⟨hk,⟨L,_,hf,hn,e,hd⟩,ih (λb hb=>hs b (by unfold rZ;rw[RV,hf];exact Rj _ hb)) hr⟩
 exact all X.outer (λ_ hb=>hb) I.ok.funs
theorem Inv.stack(I:Inv X pins σ H s):s.heap.FunFrames X.base X.stack:=by
 rcases I.ok.stk with e | ⟨e,hf⟩
 ·rw[e];exact I.funs
 ·rw[e]
  obtain⟨m,hn,_⟩:=I.loc
  refine .cons (by rw[I.ok.kind];decide) hf hn ?_ I.funs
  exact Wf (RG I.ok.bsz I.ok.above)
theorem Inv.stkSub(I:Inv X pins σ H s):∀ b∈rZ X.stack,b∈X.env.locals::X.fs:=λb hb=>by
 rcases I.ok.stk with e | ⟨e,hf⟩
 ·rw[e] at hb;exact Rj _ hb
 ·rw[e] at hb
  unfold rZ at hb
  rw[RV,hf] at hb
  exact hb
theorem Inv.stkFree(I:Inv X pins σ H s):∀ b∈rZ X.stack,H b=Y:=λb hb=>by
 rcases Rv.mp (I.stkSub b hb) with e | hb
 ·rw[e];exact I.free
 ·obtain⟨_,o,ho,_⟩:=I.ok.funs.mem hb
  exact I.base.free b o ho (I.ok.frf b hb) λz=>I.ok.exfs b z hb
theorem Inv.step{t':Nat}{d':Drawn}{ch:List Addr}(I:Inv X pins σ H s)
  (hch:∀ b∈ch,(b∈X.ex\/X.s₀.heap.objs.size<=b)/\b≠X.env.locals/\(∀ x c,X.env.cells.lookup x=U c->c≠b)/\∀ p∈X.pn++pins,p.1≠b)
  (keep:∀ b o,b≠X.env.locals->b∉X.fs->b∉ch->s.heap.get? b=U o->H b=Y->h'.get? b=U o)
  (slot:∀ b o,b≠X.env.locals->b∈X.fs->b∉ch->s.heap.get? b=U o->H b=Y->∃ sl,h'.get? b=U { o with slots:=sl }) (free:∀ b o,b∉ch->s.heap.get? b=U o->H b=Y->H' b=Y)
  (there:∀ b o,b∉ch->s.heap.get? b=U o->∃ o',h'.get? b=U o')
  (tups:∀ b xs,H b=U (.tup xs)->H' b=U (.tup xs)) (frzs:∀ b o u,H b=U (.frz o u)->H' b=U (.frz o u)) (tbls:∀ b ps,H b=U (.tbl ps)->∃ more,H' b=U (.tbl (ps++more)))
  (ns:∀ m,s.heap.Ns X.env.locals m->h'.Ns X.env.locals m) (hok:HOk X.prog X.w H' h') (hg:AllBare g') :
  Inv X pins σ H' { s with heap:=h',gens:=g',drawn:=d',toks:=t' }:=by
 have neL:∀ b o,X.s₀.heap.get? b=U o->b≠X.env.locals:=λb o e=>RL (Ry (Ro e) I.ok.above)
 have neC:∀ b o,X.s₀.heap.get? b=U o->b∉X.ex->b∉ch:=λb o e hx hb=>by
  rcases(hch b hb).1 with z | z
  ·exact hx z
  ·exact absurd (Ry (Ro e) z) (Sy _)
 have cellK:∀ x c,X.env.cells.lookup x=U c->∀ v,s.heap.IsCell c v->h'.IsCell c v:=λx c e v ⟨o,ho,hd⟩=>by
  have nch:c∉ch:=λz=>(hch c z).2.2.1 x c e rfl
  by_cases hc:c∈X.fs
  ·obtain⟨sl,q⟩:=slot c o (I.cne x c e) hc nch ho (I.freeC x c e)
   exact⟨_,q,hd⟩
  ·exact⟨o,keep c o (I.cne x c e) hc nch ho (I.freeC x c e),hd⟩
 refine⟨I.ok,I.os,hg,⟨λb o e n hb hx=>?_,λb o e n hb hx=>?_,λb o e n hx=>?_,λb o e hx=>?_,λb xs e=>tups b xs (I.base.tups b xs e),λb o xs e=>frzs b o xs (I.base.frzs b o xs e),λb ps e=>?_⟩,?_,λx c e=>?_,?_,λx c e=>?_,λp hp=>?_,hok,I.len⟩
 ·exact keep b o (neL b o e) hb (neC b o e hx) (I.base.keep b o e n hb hx) (I.base.free b o e n hx)
 ·obtain⟨sl,e1⟩:=I.base.slot b o e n hb hx
  obtain⟨sl',e2⟩:=slot b _ (neL b o e) hb (neC b o e hx) e1 (I.base.free b o e n hx)
  exact⟨sl',e2⟩
 ·obtain⟨o',e1⟩:=I.base.there b o e hx
  exact free b o' (neC b o e hx) e1 (I.base.free b o e n hx)
 ·obtain⟨o',e1⟩:=I.base.there b o e hx
  exact there b o' (neC b o e hx) e1
 ·obtain⟨m1,e1⟩:=I.base.tbls b ps e
  obtain⟨m2,e2⟩:=tbls b _ e1
  exact⟨m1++m2,by rw[e2,Array.append_assoc]⟩
 ·obtain⟨m,hn,hl⟩:=I.loc
  refine⟨m,ns m hn,λi x v e1 e2 e3=>?_⟩
  obtain⟨u,r,l⟩:=hl i x v e1 e2 e3
  refine⟨u,r,?_⟩
  rcases l with l | ⟨k,c,e,z⟩
  ·exact .inl l
  ·exact .inr ⟨k,c,e,cellK x c e _ z⟩
 ·obtain⟨v,z⟩:=I.cell x c e
  exact⟨v,cellK x c e v z⟩
 ·obtain⟨m,⟨o,_,_,ho,_⟩,_⟩:=I.loc
  exact free _ o (λz=>(hch _ z).2.1 rfl) ho I.free
 ·obtain⟨v,o,ho,hd⟩:=I.cell x c e
  exact free c o (λz=>(hch c z).2.2.1 x c e rfl) ho (I.freeC x c e)
 ·obtain⟨e,n,ne,nf,d⟩:=I.pin p hp
  have nch:p.1∉ch:=λz=>(hch p.1 z).2.2.2 p hp rfl
  exact⟨keep p.1 p.2 ne nf nch e n,free p.1 p.2 nch e n,ne,nf,d⟩
theorem Inv.un{t':Nat}(I:Inv X pins σ H s)(u:Un X.fs [] H H' s.heap h')(hok:HOk X.prog X.w H' h'):Inv X pins σ H' { s with heap:=h',toks:=t' }:=by
 obtain⟨m,⟨o,es,ep,ho,r⟩,_⟩:=id I.loc
 obtain⟨sl,hL⟩:=u.any ho I.free (by simp)
 exact I.step (g':=s.gens) (d':=s.drawn) (ch:=[]) (λ_ z=>nomatch z) (λb o _ hb _ e n=>u.keep b o e n hb (by simp)) (λb o _ hb _ e n=>u.slot b o e n hb (by simp)) (λb o _ e n=>u.free b o e n (by simp)) (λb o _ e=>u.there b o e (by simp)) u.tups u.frzs u.tbls (λm' hm=>by
  obtain⟨o',es',ep',ho',r'⟩:=hm
  rw[ho] at ho';cases ho'
  exact⟨_,es',ep',hL,r'⟩) hok I.bare
theorem Inv.call{t':Nat}{d':Drawn}(I:Inv X pins σ H s)(u:Un (rZ X.stack) ch H H' s.heap h')(hok:HOk X.prog X.w H' h')(hg:AllBare g')
  (hch:∀ b∈ch,(b∈X.ex\/X.s₀.heap.objs.size<=b)/\b≠X.env.locals/\(∀ x c,X.env.cells.lookup x=U c->c≠b)/\∀ p∈X.pn++pins,p.1≠b) :
  Inv X pins σ H' { s with heap:=h',gens:=g',drawn:=d',toks:=t' }:=by
 obtain⟨m,⟨o,es,ep,ho,r⟩,_⟩:=id I.loc
 obtain⟨sl,hL⟩:=u.any ho I.free λz=>(hch _ z).2.1 rfl
 exact I.step (ch:=ch) hch (λb o hL hb hc e n=>u.keep b o e n (λz=>(Rv.mp (I.stkSub b z)).elim hL hb) hc) (λb o _ _ hc e n=>u.any e n hc) (λb o hc e n=>u.free b o e n hc) (λb o hc e=>u.there b o e hc) u.tups u.frzs u.tbls (λm' hm=>by
  obtain⟨o',es',ep',ho',r'⟩:=hm
  rw[ho] at ho';cases ho'
  exact⟨_,es',ep',hL,r'⟩) hok hg
theorem Inv.turned{t':Nat}{it:Addr}(I:Inv X pins σ H s)(k:∀ b o,b≠it->s.heap.get? b=U o->h'.get? b=U o)(hn:H it=Y)(hL:it≠X.env.locals)
  (h1:it∈X.ex\/X.s₀.heap.objs.size<=it) (h2:∀ x c,X.env.cells.lookup x=U c->c≠it) (h3:∀ p∈X.pn++pins,p.1≠it):Inv X pins σ H { s with heap:=h',toks:=t' }:=by
 have nit:∀ b u,H b=U u->b≠it:=λb u e z=>by rw[z,hn] at e;cases e
 refine I.step (g':=s.gens) (d':=s.drawn) (ch:=[it]) (λb hb=>?_) (λb o _ _ hc e _=>k b o (λz=>hc (by simp[z])) e) (λb o _ _ hc e _=>⟨o.slots,k b o (λz=>hc (by simp[z])) e⟩) (λ_ _ _ _ n=>n)
  (λb o hc e=>⟨o,k b o (λz=>hc (by simp[z])) e⟩) (λ_ _ e=>e) (λ_ _ _ e=>e) (λb ps e=>⟨#[],by rw[e];simp⟩) (λm hm=>?_) (λb u e=>?_) I.bare
 ·have e:b=it:=by simpa using hb
  subst e
  exact⟨h1,hL,h2,h3⟩
 ·obtain⟨o,es,ep,ho,r⟩:=hm
  exact⟨o,es,ep,k _ o (Ne.symm hL) ho,r⟩
 ·refine(I.hok b u e).stay (λc v hc q=>k c v ?_ q) (λ_ q=>q) λ_ _ q=>q
  rcases hc with z | z
  ·rw[z];exact nit b u e
  ·exact nit c _ z
theorem Inv.tok(I:Inv X pins σ H s)(t:Nat):Inv X pins σ H { s with toks:=t }:=I.un (h':=s.heap) (t':=t) Un.refl I.hok
theorem Inv.kept{t':Nat}(I:Inv X pins σ H s)(k:∀ b u,s.heap.get? b=U u->h'.get? b=U u):Inv X pins σ H { s with heap:=h',toks:=t' }:=I.un (Un.kept k) (I.hok.kept k)
theorem Inv.laid{a:Addr}{t':Nat}(I:Inv X pins σ H s)(k:∀ b u,s.heap.get? b=U u->h'.get? b=U u)(hp:s.heap.objs.size<=a)(new:ObjOk X.prog X.w (upd H a o) h' a o) :
  Inv X pins σ (upd H a o) { s with heap:=h',toks:=t' }:=I.un (Un.laid k hp (I.hok.fresh hp)) (I.hok.laid k hp new)
theorem Inv.write{e:Addr}{t':Nat}(I:Inv X pins σ H s)(mu:Mut (H x))(he:e=x\/H e=U (.own x))(k:∀ b u,b≠e->s.heap.get? b=U u->h'.get? b=U u)(heo:∃ u,h'.get? e=U u)
  (new:ObjOk X.prog X.w (upd H x o) h' x o):Inv X pins σ (upd H x o) { s with heap:=h',toks:=t' }:=I.un (Un.write mu he k heo) (I.hok.write mu he k heo new)
theorem Inv.pins_of{pins':List (Addr×Obj)}(I:Inv X pins σ H s)(h:∀ p∈pins',s.heap.get? p.1=U p.2/\H p.1=Y/\p.1≠X.env.locals/\p.1∉X.fs/\∀ v,p.2.data≠.cell v):Inv X pins' σ H s:=
 ⟨I.ok,I.os,I.bare,I.base,I.loc,I.cell,I.free,I.freeC,λp hp=>(RE.mp hp).elim (λz=>I.pin p (Sj _ z)) (h p),I.hok,I.len⟩
theorem oR{N:List Str}(hN:N.Nodup){i j:Nat}{x:Str}(a:N[i]?=U x)(b:N[j]?=U x):i=j:=by
 obtain⟨h1,e1⟩:=Ri.mp a
 obtain⟨h2,e2⟩:=Ri.mp b
 exact(List.getElem_inj hN).mp (e1.trans e2.symm)
theorem qU{i:Nat}{x:Str}{Q:Unit->Shared->Prop}(I:Inv X pins σ H s)(hN:X.N.Nodup)(hi:X.N[i]?=U x)(hx:Bf X.env.scope x)(r:RelV v u)
  (h:∀ s',Inv X pins (σ.set i (U v)) H s'->(∃ a,Heap.SameBut a s.heap s'.heap/\(a=X.env.locals\/X.env.cells.lookup x=U a))->Q () s') (hf:X.fn x=true\/X.env.scope.names.lookup x=U .local:=by first | exact .inl rfl | exact .inr rfl | assumption):wpAny M A (storeName X.env x u) Q E s:=by
 obtain⟨m,hn,hl⟩:=id I.loc
 have hcls:(X.env.scope.kind==.class||(X.env.scope.kind==.module&&X.env.locals != X.env.globals))=false:=by rw[I.ok.kind];rfl
 have hiσ:i < σ.length:=by rw[I.len];exact(Ri.mp hi).1
 have cne:=I.cne
 have tracked:∀ {a:Addr} {h':Heap},(∃ o,s.heap.get? a=U o/\H a=Y)->Heap.SameBut a s.heap h'->HOk X.prog X.w H h':=λ{a h'} ha hs b ob e=>by
  obtain⟨_,_,hfree⟩:=ha
  refine(I.hok b ob e).stay (λc w' hc q=>(hs.2 c ?_).trans q) (λ_ q=>q) λ_ _ q=>q
  rintro rfl
  rcases hc with rfl | hc
  ·rw[hfree] at e;cases e
  ·rw[hfree] at hc;cases hc
 rcases hx with hk | hk
 ·refine wpAny_storeName_local hk hn (λh' hn' hs=>?_) hcls
  obtain⟨oL,_,_,hoL,_⟩:=id hn
  refine h _ ⟨I.ok,I.os,I.bare,⟨λb o e n hb hx=>?_,λb o e n hb hx=>?_,I.base.free,λb o e hx=>?_,I.base.tups,I.base.frzs,I.base.tbls⟩,⟨_,hn',λj y v' e1 e2 e3=>?_⟩,λy c e=>?_,I.free,I.freeC,λp hp=>?_,tracked ⟨oL,hoL,I.free⟩ hs,by simpa using I.len⟩ ⟨_,hs,.inl rfl⟩
  ·exact(hs.2 b (RL (Ry (Ro e) I.ok.above))).trans (I.base.keep b o e n hb hx)
  ·obtain⟨sl,e1⟩:=I.base.slot b o e n hb hx
   exact⟨sl,(hs.2 b (RL (Ry (Ro e) I.ok.above))).trans e1⟩
  ·obtain⟨o',e1⟩:=I.base.there b o e hx
   exact⟨o',(hs.2 b (RL (Ry (Ro e) I.ok.above))).trans e1⟩
  ·by_cases hj:j=i
   ·subst hj
    rw[hi] at e1;cases e1
    rw[Sd hiσ] at e2
    cases e2
    exact⟨u,r,.inl ⟨hk,by simp⟩⟩
   ·rw[RS (Ne.symm hj)] at e2
    obtain⟨u',r',q⟩:=hl j y v' e1 e2 e3
    refine⟨u',r',?_⟩
    rcases q with ⟨k,e⟩ | ⟨k,c,e,z⟩
    ·refine .inl ⟨k,?_⟩
     have:y≠x:=λe=>hj (oR hN e1 (e ▸ hi))
     simp[this,e]
    ·exact .inr ⟨k,c,e,z.sameBut hs (cne y c e)⟩
  ·obtain⟨w',z⟩:=I.cell y c e
   exact⟨w',z.sameBut hs (cne y c e)⟩
  ·obtain⟨e,n,ne,nf,d⟩:=I.pin p hp
   exact⟨(hs.2 p.1 ne).trans e,n,ne,nf,d⟩
 ·have hfn:X.fn x=true:=by
   rcases hf with z | z
   ·exact z
   ·rw[z] at hk;cases hk
  obtain⟨c,hc⟩:=I.ok.has x (.inl hk)
  obtain⟨w',z⟩:=I.cell x c hc
  refine wpAny_storeName_cell I.ok.kind hk hc z (λh' hc' hs=>?_)
  obtain⟨oc,hoc,hocd⟩:=id z
  refine h { s with heap:=h' } ⟨I.ok,I.os,I.bare,⟨λb o e n hb hx=>?_,λb o e n hb hx=>?_,I.base.free,λb o e hx=>?_,I.base.tups,I.base.frzs,I.base.tbls⟩,⟨m,hn.sameBut hs (Ne.symm (cne x c hc)),λj y v' e1 e2 e3=>?_⟩,λy c' e=>?_,I.free,I.freeC,λp hp=>?_,tracked ⟨oc,hoc,I.freeC x c hc⟩ hs,by simpa using I.len⟩ ⟨c,hs,.inr hc⟩
  ·exact(hs.2 b (RL (Ry (Ro e) (I.ok.cab x c hfn hc)))).trans (I.base.keep b o e n hb hx)
  ·obtain⟨sl,e1⟩:=I.base.slot b o e n hb hx
   exact⟨sl,(hs.2 b (RL (Ry (Ro e) (I.ok.cab x c hfn hc)))).trans e1⟩
  ·obtain⟨o',e1⟩:=I.base.there b o e hx
   exact⟨o',(hs.2 b (RL (Ry (Ro e) (I.ok.cab x c hfn hc)))).trans e1⟩
  ·by_cases hj:j=i
   ·subst hj
    rw[hi] at e1;cases e1
    rw[Sd hiσ] at e2
    cases e2
    exact⟨u,r,.inr ⟨.inl hk,c,hc,hc'⟩⟩
   ·rw[RS (Ne.symm hj)] at e2
    obtain⟨u',r',q⟩:=hl j y v' e1 e2 e3
    refine⟨u',r',?_⟩
    rcases q with q | ⟨k,c',e,z'⟩
    ·exact .inl q
    ·refine .inr ⟨k,c',e,z'.sameBut hs ?_⟩
     rintro rfl
     exact hj (oR hN e1 (I.ok.inj _ _ _ e hc ▸ hi))
  ·by_cases hcc:c'=c
   ·subst hcc;exact⟨_,hc'⟩
   ·obtain⟨w2,z2⟩:=I.cell y c' e
    exact⟨w2,z2.sameBut hs hcc⟩
  ·obtain⟨e,n,ne,nf,d⟩:=I.pin p hp
   refine⟨(hs.2 p.1 ?_).trans e,n,ne,nf,d⟩
   intro q
   rw[q,hoc] at e
   have q':oc=p.2:=RJ e
   exact d w' (by rw[<- q'];exact hocd)
theorem gl{i:Nat}{x:Str}{Q:Unit->Shared->Prop}(I:Inv X pins σ H s)(hN:X.N.Nodup)(hi:X.N[i]?=U x)(hx:Bf X.env.scope x)(r:RelV v u)
  (h:∀ s',Inv X pins (σ.set i (U v)) H s'->Q () s') (hf:X.fn x=true\/X.env.scope.names.lookup x=U .local:=by first | exact .inl rfl | exact .inr rfl | assumption):wpAny M A (storeName X.env x u) Q E s:=
 qU I hN hi hx r (λs' I' _=>h s' I') hf
theorem Inv.call'{s':Shared}(I:Inv X pins σ H s)(ho:s'.os=s.os)(u:Un (rZ X.stack) ch H H' s.heap s'.heap)(hok:HOk X.prog X.w H' s'.heap)(hg:AllBare s'.gens)
  (hch:∀ b∈ch,(b∈X.ex\/X.s₀.heap.objs.size<=b)/\b≠X.env.locals/\(∀ x c,X.env.cells.lookup x=U c->c≠b)/\∀ p∈X.pn++pins,p.1≠b):Inv X pins σ H' s':=by
 obtain⟨h',g',d',t',o'⟩:=s'
 have e:o'=s.os:=ho
 subst e
 exact I.call (g':=g') (t':=t') (d':=d') u hok hg hch
end
noncomputable abbrev XK:=Value->Option Addr->Hp->Prop
noncomputable abbrev St:=List (Option V)
noncomputable abbrev VK:=V->Hp->Prop
noncomputable abbrev TE:=St->Hp->VK->Prop
noncomputable abbrev TT:=St->Hp->(Bool->Hp->Prop)->Prop
noncomputable abbrev TA:=St->Hp->(List V->Hp->Prop)->Prop
structure kA where
 nx:St->Hp->Prop
 rt:VK
 bk:St->Hp->Prop:=λ_ _=>False
 ct:St->Hp->Prop:=λ_ _=>False
noncomputable abbrev TS:=kA->St->Hp->Prop
noncomputable def EP(X:Cx)(pins:List (Addr×Obj))(σ:St)(Q:VK)(u:Value)(s':Shared):Prop:=∃ v H',Inv X pins σ H' s'/\RelV v u/\Q v H'
noncomputable def TP(X:Cx)(pins:List (Addr×Obj))(σ:St)(Q:Bool->Hp->Prop)(b:Bool)(s':Shared):Prop:=∃ H',Inv X pins σ H' s'/\Q b H'
noncomputable def AP(X:Cx)(pins:List (Addr×Obj))(σ:St)(Q:List V->Hp->Prop)(us:List Value)(s':Shared):Prop:=∃ vs H',Inv X pins σ H' s'/\Vals vs us/\Q vs H'
noncomputable def SP(X:Cx)(pins:List (Addr×Obj))(D:kA)(f:Flow)(s':Shared):Prop:=
 match f with
 | .next=>∃ σ' H',Inv X pins σ' H' s'/\D.nx σ' H'
 | .brk=>∃ σ' H',Inv X pins σ' H' s'/\D.bk σ' H'
 | .cont=>∃ σ' H',Inv X pins σ' H' s'/\D.ct σ' H'
 | .ret u=>∃ v σ' H',Inv X pins σ' H' s'/\RelV v u/\D.rt v H'
noncomputable def PE(X:Cx)(e:Expr)(t:TE):Prop:=
 ∀ (pins:List (Addr×Obj)) (s:Shared) (σ:St) (H:Hp) (Q:VK),Inv X pins σ H s->t σ H Q->wpAny (model X.prog X.w) X.A (eval e X.env) (EP X pins σ Q) X.xe s
noncomputable def PT(X:Cx)(e:Expr)(t:TT):Prop:=
 ∀ (pins:List (Addr×Obj)) (s:Shared) (σ:St) (H:Hp) (Q:Bool->Hp->Prop),Inv X pins σ H s->t σ H Q->wpAny (model X.prog X.w) X.A (isTrue e X.env (eval e X.env)) (TP X pins σ Q) X.xe s
noncomputable def PW(X:Cx)(e:Expr)(t:TT):Prop:=
 ∀ (whole:Sem Value) (pins:List (Addr×Obj)) (s:Shared) (σ:St) (H:Hp) (Q:Bool->Hp->Prop),Inv X pins σ H s->t σ H Q->wpAny (model X.prog X.w) X.A (isTrue e X.env whole) (TP X pins σ Q) X.xe s
theorem PW.pt(h:PW X e t):PT X e t:=h _
noncomputable def PA(X:Cx)(es:List Expr)(t:TA):Prop:=
 ∀ (pos:Pos) (pins:List (Addr×Obj)) (s:Shared) (σ:St) (H:Hp) (Q:List V->Hp->Prop),Inv X pins σ H s->t σ H Q->wpAny (model X.prog X.w) X.A (spliced (backTo pos (starEach es X.env))) (AP X pins σ Q) X.xe s
noncomputable def PS(X:Cx)(st:Stmt)(t:TS):Prop:=
 ∀ (pins:List (Addr×Obj)) (s:Shared) (σ:St) (H:Hp) (D:kA),Inv X pins σ H s->t D σ H->wpAny (model X.prog X.w) X.A (exec st X.env) (SP X pins D) X.xe s
noncomputable def PSs(X:Cx)(st:List Stmt)(t:TS):Prop:=
 ∀ (pins:List (Addr×Obj)) (s:Shared) (σ:St) (H:Hp) (D:kA),Inv X pins σ H s->t D σ H->wpAny (model X.prog X.w) X.A (execs st X.env) (SP X pins D) X.xe s
theorem bN{α:Type}{t:Sem α}{Q Q':α->Shared->Prop}{M:Model}{A:Around}{E:Value->Shared->Prop}{s:Shared}(h:wpAny M A t Q E s)(hQ:∀ a s,Q a s->Q' a s):wpAny M A t Q' E s:=RF h hQ λ_ _ x=>x
section
variable{X:Cx}
noncomputable def tVar(i:Nat):TE:=λσ H Q=>∃ v,σ[i]?=U (U v)/\Q v H
noncomputable def tC(v:V):TE:=λ_ H Q=>Q v H
theorem Er{i:Nat}{x:Str}(hN:X.N[i]?=U x)(hv:QR X.env.scope x)(hd:(x==("__debug__":Str))=false:=by decide)(hcd:(x==("__classdict__":Str))=false:=by decide):PE X (.Name x pos) (tVar i):=by
 intro pins s σ H Q I h
 obtain⟨v,e,h⟩:=h
 obtain⟨m,hn,hl⟩:=I.loc
 obtain⟨u,r,l⟩:=hl i x v hN e hv
 have fin:EP X pins σ Q u s:=⟨v,H,I,r,h⟩
 rcases l with ⟨hk,hm⟩ | ⟨hk,c,hc,hcell⟩
 ·exact wpAny_Name (wpAny_loadName_local I.ok.kind hk hn hm fin) hd
 ·rcases hk with hk | hk
  ·exact wpAny_Name (wpAny_loadName_cell I.ok.kind hk hc hcell fin) hd
  ·exact wpAny_Name (wpAny_loadName_free I.ok.kind hk hc hcell fin hcd) hd
theorem NV{i j pos}:PE X (.Constant (.int i) j pos) (tC (.int i)):=λ_ _ _ H _ I h=>wpAny_Constant_int ⟨.int i,H,I.tok _,⟨_,rfl⟩,h⟩
theorem pe_bl{b j pos}:PE X (.Constant (.bool b) j pos) (tC (.bl b)):=λ_ _ _ H _ I h=>Constant_bool ⟨.bl b,H,I,rfl,h⟩
theorem NU{j pos}:PE X (.Constant .none j pos) (tC .non):=λ_ _ _ H _ I h=>Constant_none ⟨.non,H,I,rfl,h⟩
theorem NQ{x j pos}:PE X (.Constant (.str x) j pos) (tC (.str x)):=λ_ _ _ H _ I h=>Ws ⟨.str x,H,I.tok _,⟨_,rfl⟩,h⟩
noncomputable def Gl(X:Cx)(x:Str):Prop:=X.env.kindOf x=U .globalImplicit
theorem lc{s:Shared}{u:Value}{Q:Value->Shared->Prop}(I:Inv X pins σ H s)(hg:Gl X x)(hm:X.mg x=U u)(h:Q u s)
  (hd:(x==("__debug__":Str))=false:=by decide):wpAny (model X.prog X.w) X.A (eval (.Name x pos) X.env) Q E s:=
 TU I.ok.kind hg (VN (by rw[I.ok.glob];exact I.mod.glob.keeps I.bk) hm h) hd
theorem gQ{s:Shared}{u:Value}{Q:Value->Shared->Prop}(I:Inv X pins σ H s)(hg:Gl X x)(hm:X.mg x=Y)(hv:bootBuiltins x=U u)(h:Q u s)
  (hn:x≠"__name__":=by decide) (hd:(x==("__debug__":Str))=false:=by decide):wpAny (model X.prog X.w) X.A (eval (.Name x pos) X.env) Q E s:=by
 obtain⟨mb,h1,h2⟩:=I.mod.blt
 exact TU I.ok.kind hg (Calls.loadGlobal_builtin (by rw[I.ok.glob];exact I.mod.glob.keeps I.bk) hm (by rw[I.ok.blt];exact h1.keeps I.bk) ((h2 x hn).trans hv) h) hd
theorem tz{u:Value}(hg:Gl X x)(hm:X.mg x=U u)(r:RelV v u)(hd:(x==("__debug__":Str))=false:=by decide):PE X (.Name x pos) (tC v):=
 λ_ _ _ H _ I h=>lc I hg hm ⟨v,H,I,r,h⟩ hd
theorem zR{u:Value}(hg:Gl X x)(hm:X.mg x=Y)(hv:bootBuiltins x=U u)(r:RelV v u)(hn:x≠"__name__":=by decide)(hd:(x==("__debug__":Str))=false:=by decide):PE X (.Name x pos) (tC v):=
 λ_ _ _ H _ I h=>gQ I hg hm hv ⟨v,H,I,r,h⟩ hn hd
variable{a b:Expr}{ta tb:TE}{pos:Pos}
variable{tA tB':TT}{rest:List Expr}
noncomputable def tAnd(t u:TT):TT:=λσ H Q=>t σ H λc H1=>if c=true then u σ H1 Q else Q false H1
noncomputable def tOr(t u:TT):TT:=λσ H Q=>t σ H λc H1=>if c=true then Q true H1 else u σ H1 Q
noncomputable def tNot(t:TT):TT:=λσ H Q=>t σ H λc H1=>Q (!c) H1
theorem IN(ha:PT X a tA):PW X (.BoolOp .And [a] pos) tA:=by
 intro wh pins s σ H Q I h
 refine isTrue_and (bN (ha pins s σ H Q I h) λc s1 e=>?_)
 cases c with
 | true=>exact isTrue_and_nil e
 | false=>exact e
theorem NE(ha:PT X a tA):PW X (.BoolOp .Or [a] pos) tA:=by
 intro wh pins s σ H Q I h
 refine isTrue_or (bN (ha pins s σ H Q I h) λc s1 e=>?_)
 cases c with
 | false=>exact isTrue_or_nil e
 | true=>exact e
theorem NF(ha:PT X a tA)(hb:PW X (.BoolOp .And (b::rest) pos) tB'):PW X (.BoolOp .And (a::b::rest) pos) (tAnd tA tB'):=by
 intro wh pins s σ H Q I h
 refine isTrue_and (bN (ha pins s σ H _ I h) λc s1 ⟨H1,I1,q1⟩=>?_)
 cases c with
 | true=>exact hb wh pins s1 σ H1 Q I1 q1
 | false=>exact⟨H1,I1,q1⟩
theorem pw_or(ha:PT X a tA)(hb:PW X (.BoolOp .Or (b::rest) pos) tB'):PW X (.BoolOp .Or (a::b::rest) pos) (tOr tA tB'):=by
 intro wh pins s σ H Q I h
 refine isTrue_or (bN (ha pins s σ H _ I h) λc s1 ⟨H1,I1,q1⟩=>?_)
 cases c with
 | true=>exact⟨H1,I1,q1⟩
 | false=>exact hb wh pins s1 σ H1 Q I1 q1
theorem NH(ha:PT X a tA):PT X (.UnaryOp .Not a pos) (tNot tA):=by
 intro pins s σ H Q I h
 exact isTrue_not (ha pins s σ H (λc H1=>Q (!c) H1) I h)
theorem NT{op}(h:PE X a t):PE X (.BoolOp op [a] pos) t:=λpins s σ H Q I hw=>BoolOp_one (h pins s σ H Q I hw)
noncomputable def tIf(t:TT)(ta tb:TE):TE:=λσ H Q=>t σ H λc H1=>if c=true then ta σ H1 Q else tb σ H1 Q
theorem Eu(hc:PT X c tA)(ha:PE X a ta)(hb:PE X b tb):PE X (.IfExp c a b pos) (tIf tA ta tb):=by
 intro pins s σ H Q I h
 refine wpAny_IfExp (bN (hc pins s σ H _ I h) λd s1 ⟨H1,I1,q1⟩=>?_)
 cases d with
 | true=>exact ha pins s1 σ H1 Q I1 q1
 | false=>exact hb pins s1 σ H1 Q I1 q1
end
noncomputable def gT(K:W.Frag)(H:Hp)(a:Addr)(xs:List V):Prop:=
 Rd H a (.lst xs) \/
  ∃ (o:Obj) (its:Array Value) (n:Nat),K.lookup a=U o/\o.cls=.type "list"/\o.dict=Y/\o.data=.seq its n/\its.size<=sizeLine/\Vals xs its.toList
noncomputable def iP(K:W.Frag)(H:Hp)(a:Addr)(xs:List V):Prop:=
 Rd H a (.tup xs) \/
  ∃ (o:Obj) (its:Array Value) (n:Nat),K.lookup a=U o/\o.cls=.type "tuple"/\o.dict=Y/\o.data=.seq its n/\its.size<=sizeLine/\Vals xs its.toList
noncomputable def absV:Value->Option V
 | .none=>U .non
 | .bool b=>U (.bl b)
 | .int i _=>U (.int i)
 | .str x _=>U (.str x)
 | .bytes b _=>U (.byt b)
 | .float b _=>U (.flt b)
 | .ref a=>U (.ref a)
 | .type n=>U (.ty n)
 | _=>Y
theorem RelV.abs(r:RelV x u):absV u=U x:=by
 cases x with
 | non=>cases r;rfl
 | bl _=>cases r;rfl
 | int _=>obtain⟨t,rfl⟩:=r;rfl
 | str _=>obtain⟨t,rfl⟩:=r;rfl
 | byt _=>obtain⟨t,rfl⟩:=r;rfl
 | flt _=>obtain⟨t,rfl⟩:=r;rfl
 | ref _=>cases r;rfl
 | ty _=>cases r;rfl
theorem RelV.inj(r:RelV x u)(q:RelV y u):x=y:=RJ (r.abs.symm.trans q.abs)
theorem Vals.inj:∀ {xs ys:List V} {us:List Value},Vals xs us->Vals ys us->xs=ys
 | _,_,_,.nil,.nil=>rfl
 | _,_,_,.cons r t,.cons r' t'=>by rw[r.inj r',Vals.inj t t']
section
variable{X:Cx}{pins:List (Addr×Obj)}{σ:St}{H:Hp}{s:Shared}{a:Addr}{xs ys:List V}
theorem Inv.list(I:Inv X pins σ H s)(h:gT X.K H a xs):∃ its:List Value,Vals xs its/\PlainL s.heap a its.toArray/\xs.length<=sizeLine:=by
 rcases h with h | ⟨o,its,n,hk,hc,hd,hs,hz,r⟩
 ·obtain⟨z,its,n,r,e⟩:=h.ok I.hok
  exact⟨its,r,⟨_,n,e,rfl,rfl,rfl⟩,z⟩
 ·refine⟨its.toList,r,⟨o,n,I.kIn a o hk,hc,hd,by simpa using hs⟩,?_⟩
  have e:=r.length
  simp only[SD] at e
  omega
theorem Inv.tuple(I:Inv X pins σ H s)(h:iP X.K H a xs):∃ its:List Value,Vals xs its/\IsTup s.heap a its.toArray/\xs.length<=sizeLine:=by
 rcases h with h | ⟨o,its,n,hk,hc,hdn,hs,hz,r⟩
 ·obtain⟨z,its,r,p⟩:=h.ok I.hok
  exact⟨its,r,p.up,z⟩
 ·refine⟨its.toList,r,⟨o,I.kIn a o hk,hc,n,by simpa using hs⟩,?_⟩
  have e:=r.length
  simp only[SD] at e
  omega
theorem Inv.list_inj(I:Inv X pins σ H s)(h:gT X.K H a xs)(h':gT X.K H a ys):xs=ys:=by
 obtain⟨its,r,⟨o,n,e,_,_,d⟩,_⟩:=I.list h
 obtain⟨its',r',⟨o',n',e',_,_,d'⟩,_⟩:=I.list h'
 rw[e] at e';cases e'
 rw[d] at d'
 injection d' with d1 _
 have:its=its':=by simpa using congrArg Array.toList d1
 subst this
 exact r.inj r'
theorem Inv.tuple_inj(I:Inv X pins σ H s)(h:iP X.K H a xs)(h':iP X.K H a ys):xs=ys:=by
 obtain⟨its,r,⟨o,e,_,n,d⟩,_⟩:=I.tuple h
 obtain⟨its',r',⟨o',e',_,n',d'⟩,_⟩:=I.tuple h'
 rw[e] at e';cases e'
 rw[d] at d'
 injection d' with d1 _
 have:its=its':=by simpa using congrArg Array.toList d1
 subst this
 exact r.inj r'
end
noncomputable abbrev Cx.wish(X:Cx)(E:Value->Shared->Prop):Cx:={ X with xe:=E }
noncomputable abbrev Cx.nox(X:Cx):Cx:=X.wish λ_ _=>False
theorem Cx.Ok.wish{X:Cx}(ok:X.Ok)(E:Value->Shared->Prop):(X.wish E).Ok:=
 ⟨ok.mod,ok.kind,ok.glob,ok.blt,ok.above,ok.inj,ok.has,ok.cab,ok.hd,ok.frames,ok.stk,ok.exf,ok.bs,ok.bsz,ok.noex,ok.exfs,ok.funs,ok.frf⟩
theorem Cx.Ok.unwish{X:Cx}(ok:(X.wish E).Ok):X.Ok:=
 ⟨ok.mod,ok.kind,ok.glob,ok.blt,ok.above,ok.inj,ok.has,ok.cab,ok.hd,ok.frames,ok.stk,ok.exf,ok.bs,ok.bsz,ok.noex,ok.exfs,ok.funs,ok.frf⟩
section
variable{X:Cx}{pins:List (Addr×Obj)}{σ:St}{H:Hp}{s:Shared}{E:Value->Shared->Prop}
theorem Inv.wish(I:Inv X pins σ H s)(E:Value->Shared->Prop):Inv (X.wish E) pins σ H s:=⟨I.ok.wish E,I.os,I.bare,I.base,I.loc,I.cell,I.free,I.freeC,I.pin,I.hok,I.len⟩
theorem Inv.unwish(I:Inv (X.wish E) pins σ H s):Inv X pins σ H s:=⟨I.ok.unwish,I.os,I.bare,I.base,I.loc,I.cell,I.free,I.freeC,I.pin,I.hok,I.len⟩
theorem SP.unwish{D:kA}(h:SP (X.wish E) pins D f s'):SP X pins D f s':=by
 cases f with
 | next=>obtain⟨σ',H',I,q⟩:=h;exact⟨σ',H',I.unwish,q⟩
 | brk=>obtain⟨σ',H',I,q⟩:=h;exact⟨σ',H',I.unwish,q⟩
 | cont=>obtain⟨σ',H',I,q⟩:=h;exact⟨σ',H',I.unwish,q⟩
 | ret u=>obtain⟨v,σ',H',I,r,q⟩:=h;exact⟨v,σ',H',I.unwish,r,q⟩
theorem PSs.nox{st:List Stmt}(h:PSs X.nox st t):PSs X st t:=λpins s σ H D I hw=>
 RF (h pins s σ H D (I.wish _) hw) (λ_ _ q=>q.unwish) λ_ _ z=>False.elim z
end
section
variable{X:Cx}{st:Stmt}{rest:List Stmt}{t u:TS}{e:Expr}{te:TE}{pos:Pos}
noncomputable def Du:TS:=λD σ H=>D.nx σ H
noncomputable def tSeq(t u:TS):TS:=λD σ H=>t { D with nx:=u D } σ H
theorem IW:PSs X [] Du:=λ_ _ σ H _ I h=>TL ⟨σ,H,I,h⟩
theorem vJ(h1:PS X st t)(h2:PSs X rest u):PSs X (st::rest) (tSeq t u):=by
 intro pins s σ H D I h
 refine UY (bN (h1 pins s σ H { D with nx:=u D } I h) λf s1 q=>?_)
 cases f with
 | next=>
  obtain⟨σ',H',I',q⟩:=q
  exact h2 pins s1 σ' H' D I' q
 | ret v=>exact q
 | brk=>exact q
 | cont=>exact q
theorem tm(h1:PS X st t):PSs X [st] t:=by
 intro pins s σ H D I h
 refine UY (bN (h1 pins s σ H D I h) λf s1 q=>?_)
 cases f with
 | next=>exact TL q
 | ret v=>exact q
 | brk=>exact q
 | cont=>exact q
noncomputable def Nk:TS:=λD σ H=>D.bk σ H
noncomputable def tCont:TS:=λD σ H=>D.ct σ H
theorem IZ:PS X (.Pass pos) Du:=λ_ _ σ H _ I h=>wpAny_Pass ⟨σ,H,I,h⟩
theorem Ej:PS X (.Break pos) Nk:=λ_ _ σ H _ I h=>wpAny_Break ⟨σ,H,I,h⟩
theorem vL:PS X (.Continue pos) tCont:=λ_ _ σ H _ I h=>wpAny_Continue ⟨σ,H,I,h⟩
theorem Inv.quiet{s:Shared}(I:Inv X pins σ H s):interactive X.env=false:=by simp[interactive,I.ok.kind]
theorem NL{x j pos pos'}:PS X (.Expr (.Constant (.str x) j pos) pos') Du:=λ_ s σ H _ I h=>wpAny_Expr (Ws (show SP X _ _ .next { s with toks:=s.toks+1 } from ⟨σ,H,I.tok _,h⟩)) I.quiet
noncomputable def tDrop(te:TE):TS:=λD σ H=>te σ H λ_ H1=>D.nx σ H1
theorem Jb(he:PE X e te)(hs:swapsWith e Y pos.line X.env=pure false:=by rfl):PS X (.Expr e pos) (tDrop te):=by
 intro pins s σ H D I h
 exact wpAny_Expr_any (bN (he pins s σ H _ I h) λv s1 ⟨x,H1,I1,r1,q1⟩=>⟨σ,H1,I1,q1⟩) I.quiet hs
noncomputable def tRet(te:TE):TS:=λD σ H=>te σ H D.rt
theorem NJ(he:PE X e te):PS X (.Return (U e) pos) (tRet te):=by
 intro pins s σ H D I h
 exact wpAny_Return_some (bN (he pins s σ H _ I h) λv s1 ⟨x,H1,I1,r1,q1⟩=>⟨x,σ,H1,I1,r1,q1⟩)
noncomputable def tRetN:TS:=λD _ H=>D.rt .non H
theorem IY:PS X (.Return Y pos) tRetN:=λ_ _ σ H _ I h=>wpAny_Return_none ⟨.non,σ,H,I,rfl,h⟩
noncomputable def tIfS(c:TT)(t u:TS):TS:=λD σ H=>c σ H λb H1=>if b=true then t D σ H1 else u D σ H1
theorem LV(hc:PT X c tc)(ha:PSs X a t)(hb:PSs X b u):PS X (.If c a b pos) (tIfS tc t u):=by
 intro pins s σ H D I h
 refine wpAny_If (bN (hc pins s σ H _ I h) λd s1 ⟨H1,I1,q1⟩=>?_)
 cases d with
 | true=>exact ha pins s1 σ H1 D I1 q1
 | false=>exact hb pins s1 σ H1 D I1 q1
end
noncomputable abbrev TG:=V->St->Hp->(St->Hp->Prop)->Prop
noncomputable abbrev ML:=List V->St->Hp->(St->Hp->Prop)->Prop
noncomputable def PG(X:Cx)(target:Expr)(t:TG):Prop:=
 ∀ (pins:List (Addr×Obj)) (s:Shared) (σ:St) (H:Hp) (v:V) (u:Value) (Q:St->Hp->Prop),Inv X pins σ H s->RelV v u->t v σ H Q ->
  wpAny (model X.prog X.w) X.A (assign target X.env u) (λ_ s'=>∃ σ' H',Inv X pins σ' H' s'/\Q σ' H') X.xe s
noncomputable def PGs(X:Cx)(ts:List Expr)(t:ML):Prop:=
 ∀ (pins:List (Addr×Obj)) (s:Shared) (σ:St) (H:Hp) (vs:List V) (us:List Value) (Q:St->Hp->Prop),Inv X pins σ H s->Vals vs us->t vs σ H Q ->
  wpAny (model X.prog X.w) X.A (assignInOrder ((assignEach ts X.env).map (·.2)) us) (λ_ s'=>∃ σ' H',Inv X pins σ' H' s'/\Q σ' H') X.xe s
noncomputable abbrev QU:=V->V->V->Hp->(Hp->Prop)->Prop
noncomputable def QW(X:Cx)(t:QU):Prop:=
 ∀ (pins:List (Addr×Obj)) (s:Shared) (σ:St) (H:Hp) (o i v:V) (ov iv u:Value) (Q:Hp->Prop),Inv X pins σ H s->RelV o ov->RelV i iv->RelV v u->t o i v H Q ->
  wpAny (model X.prog X.w) X.A (setItem ov iv u) (λ_ s'=>∃ H',Inv X pins σ H' s'/\Q H') X.xe s
section
variable{X:Cx}{pos:Pos}
noncomputable def AI(i:Nat):TG:=λv σ H Q=>Q (σ.set i (U v)) H
theorem Jh{i:Nat}{x:Str}(hN:X.N.Nodup)(hi:X.N[i]?=U x)(hx:Bf X.env.scope x)(hf:X.fn x=true\/X.env.scope.names.lookup x=U .local:=by first | exact .inl rfl | exact .inr rfl | assumption):PG X (.Name x pos) (AI i):=by
 intro pins s σ H v u Q I r h
 exact wpAny_assign_Name (gl I hN hi hx r (λs' I'=>⟨_,H,I',h⟩) hf)
noncomputable def gNil:ML:=λvs σ H Q=>vs=[]/\Q σ H
noncomputable def gCons(t:TG)(u:ML):ML:=λvs σ H Q=>∃ v r,vs=v::r/\t v σ H λσ' H'=>u r σ' H' Q
theorem Jg:PGs X [] gNil:=by
 intro pins s σ H vs us Q I r h
 obtain⟨e,h⟩:=h
 subst e
 cases r
 exact assignInOrder_nil ⟨σ,H,I,h⟩
theorem Eo{e:Expr}(h1:PG X e t)(h2:PGs X es u)
  (hs:(assignEach (e::es) X.env).map (·.2)=assign e X.env::(assignEach es X.env).map (·.2):=by rfl):PGs X (e::es) (gCons t u):=by
 intro pins s σ H vs us Q I r h
 obtain⟨v,vr,e1,h⟩:=h
 subst e1
 cases r with
 | cons r rr=>
  rw[hs]
  refine UD (bN (h1 pins s σ H _ _ _ I r h) λ_ s1 ⟨σ1,H1,I1,q1⟩=>?_)
  exact h2 pins s1 σ1 H1 _ _ Q I1 rr q1
noncomputable def gTup(K:W.Frag)(n:Nat)(t:ML):TG:=λv σ H Q=>∃ a xs,v=.ref a/\iP K H a xs/\xs.length=n/\t xs σ H Q
theorem NP{k:Nat}{n:Nat}(hc:X.calm=true)(h:PGs X es t)
  (hn:(assignEach es X.env).length=n:=by rfl) (hst:(assignEach es X.env).findIdx? (·.1)=Y:=by rfl):PG X (.Tuple es k pos) (gTup X.K n t):=by
 intro pins s σ H v u Q I r hw
 obtain⟨a,xs,e1,hq,hl,hw⟩:=hw
 subst e1
 cases r
 obtain⟨its,rv,ht,hz⟩:=I.tuple hq
 refine assign_Tuple_tuple (I.ok.hd hc) ht (by simp[hn,<- hl,rv.length]) hst λh' hx=>?_
 have I1:Inv X pins σ H { s with heap:=h' }:=I.kept (t':=s.toks) λb o e=>hx b o (RL (Ro e)) e
 exact h pins _ σ H xs _ Q I1 (by simpa using rv) hw
noncomputable def gSub(to ti:TE)(t:QU):TG:=λv σ H Q=>to σ H λo H1=>ti σ H1 λi H2=>t o i v H2 λH3=>Q σ H3
theorem Ep{to:TE}(ho:PE X o to)(hi:PE X i ti)(hs:QW X t)
  (ha:∀ v,assign (.Subscript o i pos) X.env v=(do
   let ov <- holding [v] (eval o X.env)
   let iv <- holding [v,ov] (eval i X.env)
   standAt pos
   holding [v,ov,iv] (setItem ov iv v)
   release [v,ov,iv] []):=by intro _;rfl):PG X (.Subscript o i pos) (gSub to ti t):=by
 intro pins s σ H v u Q I r h
 rw[ha]
 refine Rc (RX (bN (ho pins s σ H _ I h) λov s1 ⟨x,H1,I1,r1,q1⟩=>?_))
 refine Rc (RX (bN (hi pins s1 σ H1 _ I1 q1) λiv s2 ⟨y,H2,I2,r2,q2⟩=>?_))
 refine Rc (Sn (Rc (RX (bN (hs pins s2 σ H2 x y v ov iv u _ I2 r1 r2 r q2) λ_ s3 ⟨H3,I3,q3⟩=>?_))))
 exact wpAny_release ⟨σ,H3,I3,q3⟩
noncomputable def Dx(te:TE)(g:TG):TS:=λD σ H=>te σ H λx H1=>g x σ H1 D.nx
theorem NM(he:PE X e te)(hg:PG X tg g)(hs:swapsWithSole [tg] e pos.line X.env=pure false:=by rfl)(hw:swappedStores [tg] e X.env=pure Y:=by rfl)
  (h1:(assignEach [tg] X.env).map (·.2)=[assign tg X.env]:=by rfl):PS X (.Assign [tg] e pos) (Dx te g):=by
 intro pins s σ H D I h
 refine wpAny_Assign_stores (bN (he pins s σ H _ I h) λv s1 ⟨x,H1,I1,r1,q1⟩=>?_) hs hw
 rw[h1]
 exact bN (hg pins s1 σ H1 x v _ I1 r1 q1) λ_ s2 q=>q
theorem NI{i:Nat}{x:Str}(hN:X.N.Nodup)(hi:X.N[i]?=U x)(hx:Bf X.env.scope x)(he:PE X e te)(hs:swapsWith e (U (.Name x pos')) pos.line X.env=pure false:=by rfl)(hf:X.fn x=true\/X.env.scope.names.lookup x=U .local:=by first | exact .inl rfl | exact .inr rfl | assumption) :
  PS X (.Assign [.Name x pos'] e pos) (Dx te (AI i)):=by
 intro pins s σ H D I h
 refine wpAny_Assign_Name (bN (he pins s σ H _ I h) λv s1 ⟨y,H1,I1,r1,q1⟩=>?_) hs
 exact gl I1 hN hi hx r1 (λs2 I2=>⟨_,H1,I2,q1⟩) hf
noncomputable def tPar(i j:Nat)(ta:TA):TS:=λD σ H=>ta σ H λvs H1=>∃ v w,vs=[v,w]/\D.nx ((σ.set i (U v)).set j (U w)) H1
theorem NK{i j:Nat}{x y:Str}{a b:Expr}{pt:Pos}{kt k2 pt2}(hc:X.calm=true)(hN:X.N.Nodup)(hi:X.N[i]?=U x)(hj:X.N[j]?=U y)(hij:i≠j)
  (hx:X.env.scope.names.lookup x=U .local) (hy:X.env.scope.names.lookup y=U .local) (ha:PA X [a,b] ta)
  (hw:swappedStores [.Tuple [.Name x px,.Name y py] kt pt] (.Tuple [a,b] k2 pt2) X.env=pure (U [x,y]))
  (hs:swapsWithSole [.Tuple [.Name x px,.Name y py] kt pt] (.Tuple [a,b] k2 pt2) pos.line X.env=pure false:=by rfl) :
  PS X (.Assign [.Tuple [.Name x px,.Name y py] kt pt] (.Tuple [a,b] k2 pt2) pos) (tPar i j ta):=by
 intro pins s σ H D I h
 rw[exec_Assign_arm]
 refine Rc (Sn ?_)
 rw[hs]
 refine Rc (Rh ?_)
 rw[RH (by decide)]
 refine Rc (Tuple_ (bN (ha _ pins s σ H _ I h) λus s1 ⟨vs,H1,I1,r1,q1⟩=>?_))
 obtain⟨v,w,e1,q1⟩:=q1
 subst e1
 obtain⟨u1,u2,rfl,rv,rw'⟩:∃ u1 u2,us=[u1,u2]/\RelV v u1/\RelV w u2:=by
  cases r1 with
  | cons p q=>
   cases q with
   | cons p' q'=>
    cases q'
    exact⟨_,_,rfl,p,p'⟩
 refine RM ?_ (by show 2<=sizeLine;decide)
 have I2:Inv X pins σ H1 { s1 with heap:=s1.heap.push { cls:=.type "tuple",data:=.seq [u1,u2].toArray } }:=I1.kept (t':=s1.toks) λb o e=>Re _ e
 rw[hw]
 refine Rc (Rh ?_)
 show wpAny (model X.prog X.w) X.A (do rule "assign.swapped-stores";let items <- unpackItems (.ref s1.heap.objs.size) 2 Y;assignInOrder [λv=>bindName X.env y v,λv=>bindName X.env x v] items.reverse;pure Flow.next) _ _ _
 refine Rc (TH (Rc (unpackItems_tuple (items:=#[u1,u2]) (I.ok.hd hc) (IsTup.new s1.heap _) λh' hx'=>?_)))
 have I3:=I2.kept (h':=h') (t':=s1.toks) λb o e=>hx' b o (RL (Ro e)) e
 show wpAny _ _ (assignInOrder [λv=>bindName X.env y v,λv=>bindName X.env x v] [u2,u1] >>= λ_=>pure Flow.next) _ _ _
 refine Rc (UD (Vu (gl I3 hN hj (.inl hy) rw' (λs2 I4=>?_) (.inr hy))))
 refine UD (Vu (gl I4 hN hi (.inl hx) rv (λs3 I5=>assignInOrder_nil (Rh ?_)) (.inr hx)))
 rw[List.set_comm _ _ (Ne.symm hij)] at I5
 exact⟨_,H1,I5,q1⟩
end
structure It where
 go:Nat->Hp->Prop
 yld:Nat->Hp->V->Hp->Prop
 stop:Nat->Hp->Prop
noncomputable def jJ(X:Cx)(pins:List (Addr×Obj))(H:Hp)(b:Addr):Prop:=
 H b=Y/\b≠X.env.locals/\b∉X.fs/\(b∈X.ex\/X.s₀.heap.objs.size<=b)/\(∀ x c,X.env.cells.lookup x=U c->c≠b)/\∀ p∈X.pn++pins,p.1≠b
theorem Inv.fpOk{H':Hp}{s:Shared}{b:Addr}(I:Inv X pins σ H s)(hb:s.heap.objs.size<=b)(hn:H' b=Y):jJ X pins H' b:=by
 refine⟨hn,Sf (Ry I.lt hb),I.nofs hb,.inr (RG I.sz hb),λx c e z=>?_,λp hp z=>?_⟩
 ·obtain⟨v,q⟩:=I.cell x c e
  exact absurd (Ry q.lt (by rw[z];exact hb)) (Sy _)
 ·exact absurd (Ry (Ro (I.pin p hp).1) (by rw[z];exact hb)) (Sy _)
structure uX(P:Program)(w:World)(K:W.Frag)(tg:Expr)(J:It)(fp:List Addr)(it:Addr)(tn:Nat->Heap->Prop):Prop where
 mem:it∈fp
 obj:∀ i h,tn i h->∀ b∈fp,∃ o,h.get? b=U o/\∀ v,o.data≠.cell v
 keep:∀ i h h',tn i h->(∀ b∈fp,∀ o,h.get? b=U o->h'.get? b=U o)->tn i h'
 item:∀ (X:Cx),X.prog=P->X.w=w->X.K=K->X.calm=true->∀ (i:Nat) (pins:List (Addr×Obj)) (s:Shared) (σ:St) (H:Hp) (E:Value->Shared->Prop),Inv X pins σ H s->(∀ b∈fp,jJ X pins H b)->tn i s.heap->J.go i H ->
  wpAny (model P w) X.A (pyNext (.ref it)) (λr s1=>∃ u,r=U u /\
   wpAny (model P w) X.A (letOwnedTupleGo tg (.ref it) u) (λ_ s2=>∃ x H',Inv X pins σ H' s2/\RelV x u/\J.yld i H x H'/\tn (i+1) s2.heap/\∀ b∈fp,H' b=Y) E s1) E s
 done:∀ (X:Cx),X.prog=P->X.w=w->X.K=K->X.calm=true->∀ (i:Nat) (pins:List (Addr×Obj)) (s:Shared) (σ:St) (H:Hp) (E:Value->Shared->Prop),Inv X pins σ H s->(∀ b∈fp,jJ X pins H b)->tn i s.heap->J.stop i H ->
  wpAny (model P w) X.A (pyNext (.ref it)) (λr s1=>r=Y/\Inv X pins σ H s1) E s
 self:∀ (A:Around) (i:Nat) (s:Shared) (Q:Value->Shared->Prop) (E:Value->Shared->Prop),tn i s.heap->Q (.ref it) s->wpAny (model P w) A (pyIter (.ref it)) Q E s
noncomputable abbrev TI:=St->Hp->(It->Hp->Prop)->Prop
noncomputable def PIE(X:Cx)(pins:List (Addr×Obj))(σ:St)(tg:Expr)(R:It->Hp->Prop)(itv:Value)(s2:Shared):Prop:=
 ∃ (it:Addr) (fp:List Addr) (tn:Nat->Heap->Prop) (J:It) (H':Hp),itv=.ref it/\Inv X pins σ H' s2/\uX X.prog X.w X.K tg J fp it tn/\tn 0 s2.heap/\(∀ b∈fp,jJ X pins H' b)/\R J H'
noncomputable def PI(X:Cx)(tg iter:Expr)(wi:TI):Prop:=
 ∀ (pins:List (Addr×Obj)) (s:Shared) (σ:St) (H:Hp) (R:It->Hp->Prop),Inv X pins σ H s->wi σ H R ->
  wpAny (model X.prog X.w) X.A (eval iter X.env) (λv s1=>wpAny (model X.prog X.w) X.A (pyIter v) (PIE X pins σ tg R) X.xe s1) X.xe s
theorem Ge{s:Shared}{o:Obj}{Q:Unit->Shared->Prop}(ho:s.heap.get? it=U o)(hc:o.cls=.type n)(hd:o.data=.fields vs)
  (hn:["enumerate","zip","dict_itemiterator","dict_reverseitemiterator","odict_iterator","itertools.zip_longest","itertools.pairwise"].contains n=false) (hQ:Q () s):wpAny M A (letOwnedTupleGo tg (.ref it) u) Q E s:=by
 unfold letOwnedTupleGo
 cases tg<;>first
  | exact Rh hQ
  | (cases u<;>first
    | exact Rh hQ
    | (refine Rc (wpAny_load ho ?_); rw[hc,hd]; show wpAny M A (if (["enumerate","zip","dict_itemiterator","dict_reverseitemiterator","odict_iterator","itertools.zip_longest","itertools.pairwise"].contains n&&vs[0]?==U (rawInt _))=true then _ else _) Q E s; rw[RH (by intro h;rw[hn,Vz] at h;cases h)]; exact Rh hQ))
noncomputable def Itl(K:W.Frag)(a:Addr):It:=
 ⟨λi H=>∃ xs x,gT K H a xs/\xs[i]?=U x,λi H x H'=>H'=H/\∀ xs,gT K H a xs->xs[i]?=U x,λi H=>∃ xs,gT K H a xs/\xs.length<=i⟩
noncomputable def Itt(K:W.Frag)(a:Addr):It:=
 ⟨λi H=>∃ xs x,iP K H a xs/\xs[i]?=U x,λi H x H'=>H'=H/\∀ xs,iP K H a xs->xs[i]?=U x,λi H=>∃ xs,iP K H a xs/\xs.length<=i⟩
noncomputable def Itr(lo:Int)(n:Nat):It:=⟨λi _=>i<n,λi H x H'=>H'=H/\x=.int (lo+i),λi _=>n<=i⟩
theorem qK{K:W.Frag}(a it:Addr):uX P w K tg (Itl K a) [it] it (λi h=>h.IsListIter it a i) where
 mem:=by simp
 obj:=λi h st b hb=>by
  have e:b=it:=by simpa using hb
  subst e
  obtain⟨o,e,c,d⟩:=st
  exact⟨o,e,λv z=>by rw[d] at z;cases z⟩
 keep:=λi h h' st k=>st.at λo e=>k it (by simp) o e
 item:=by
  intro X hP hw hK hc i pins s σ H E I hf st hg
  subst hP hw hK
  obtain⟨xs,x,hq,hx⟩:=hg
  obtain⟨its,rv,p,hz⟩:=I.list hq
  obtain⟨u,hu,ru⟩:=rv.get hx
  obtain⟨f0,f1,f2,f3,f4,f5⟩:=hf it (by simp)
  refine wpAny_pyNext_list_item st p.isList (x:=u) (by simpa using hu) λh' st' sb=>?_
  have I1:Inv X pins σ H { s with heap:=h' }:=I.turned (t':=s.toks) (λb o hb e=>(sb.2 b hb).trans e) f0 f1 f3 f4 f5
  obtain⟨o,e,c,d⟩:=id st'
  exact⟨u,rfl,Ge (s:={ s with heap:=h' }) e c d (by decide) ⟨x,H,I1,ru,⟨rfl,λys hy=>by rw[I.list_inj hy hq];exact hx⟩,st',λb hb=>(hf b hb).1⟩⟩
 done:=by
  intro X hP hw hK hc i pins s σ H E I hf st hg
  subst hP hw hK
  obtain⟨xs,hq,hx⟩:=hg
  obtain⟨its,rv,p,hz⟩:=I.list hq
  obtain⟨f0,f1,f2,f3,f4,f5⟩:=hf it (by simp)
  have hl:=rv.length
  exact wpAny_pyNext_list_end (I.ok.hd hc) st p.isList (by simp;omega) λh' eb=>⟨rfl,I.turned (t':=s.toks) (λb o hb e=>eb b o hb e) f0 f1 f3 f4 f5⟩
 self:=λ_ _ _ _ _ st h=>wpAny_pyIter_listiter st h
theorem xX{K:W.Frag}(a it:Addr):uX P w K tg (Itt K a) [it] it (λi h=>h.IsTupleIter it a i) where
 mem:=by simp
 obj:=λi h st b hb=>by
  have e:b=it:=by simpa using hb
  subst e
  obtain⟨o,e,c,d⟩:=st
  exact⟨o,e,λv z=>by rw[d] at z;cases z⟩
 keep:=λi h h' st k=>st.at λo e=>k it (by simp) o e
 item:=by
  intro X hP hw hK hc i pins s σ H E I hf st hg
  subst hP hw hK
  obtain⟨xs,x,hq,hx⟩:=hg
  obtain⟨its,rv,p,hz⟩:=I.tuple hq
  obtain⟨u,hu,ru⟩:=rv.get hx
  obtain⟨f0,f1,f2,f3,f4,f5⟩:=hf it (by simp)
  refine wpAny_pyNext_tuple_item st (show s.heap.IsTuple a its.toArray from p) (x:=u) (by simpa using hu) λh' st' sb=>?_
  have I1:Inv X pins σ H { s with heap:=h' }:=I.turned (t':=s.toks) (λb o hb e=>(sb.2 b hb).trans e) f0 f1 f3 f4 f5
  obtain⟨o,e,c,d⟩:=id st'
  exact⟨u,rfl,Ge (s:={ s with heap:=h' }) e c d (by decide) ⟨x,H,I1,ru,⟨rfl,λys hy=>by rw[I.tuple_inj hy hq];exact hx⟩,st',λb hb=>(hf b hb).1⟩⟩
 done:=by
  intro X hP hw hK hc i pins s σ H E I hf st hg
  subst hP hw hK
  obtain⟨xs,hq,hx⟩:=hg
  obtain⟨its,rv,p,hz⟩:=I.tuple hq
  obtain⟨f0,f1,f2,f3,f4,f5⟩:=hf it (by simp)
  have hl:=rv.length
  exact wpAny_pyNext_tuple_end (I.ok.hd hc) st (show s.heap.IsTuple a its.toArray from p) (by simp;omega) λh' eb=>⟨rfl,I.turned (t':=s.toks) (λb o hb e=>eb b o hb e) f0 f1 f3 f4 f5⟩
 self:=λ_ _ _ _ _ st h=>wpAny_pyIter_tupleiter st h
theorem xY{K:W.Frag}(it:Addr)(lo:Int)(n:Nat):uX P w K tg (Itr lo n) [it] it (λi h=>IsRangeIter h it (lo+(i:Nat)*1) ((n:Int) - (i:Nat)) 1) where
 mem:=by simp
 obj:=λi h st b hb=>by
  have e:b=it:=by simpa using hb
  subst e
  exact⟨_,st,λv z=>by
   have z':Data.fields _=Data.cell v:=z
   cases z'⟩
 keep:=λi h h' st k=>k it (by simp) _ st
 item:=by
  intro X hP hw hK hc i pins s σ H E I hf st hg
  subst hP hw hK
  obtain⟨f0,f1,f2,f3,f4,f5⟩:=hf it (by simp)
  have W:=Walks.range (prog:=X.prog) (w:=X.w) (I.ok.hd hc) it lo 1 n
  refine W.item i s _ _ hg st λv h' tk hv st' kk=>?_
  obtain⟨t,rfl⟩:=hv
  have I1:Inv X pins σ H { s with heap:=h',toks:=tk }:=I.turned (λb o hb e=>kk b o (by simpa using hb) e) f0 f1 f3 f4 f5
  refine⟨_,rfl,Ge (s:={ s with heap:=h',toks:=tk }) (n:="range_iterator") st' rfl rfl (by decide) ⟨.int (lo+i),H,I1,⟨t,?_⟩,⟨rfl,rfl⟩,st',λb hb=>(hf b hb).1⟩⟩
  rw[Int.mul_one]
 done:=by
  intro X hP hw hK hc i pins s σ H E I hf st hg
  subst hP hw hK
  obtain⟨f0,f1,f2,f3,f4,f5⟩:=hf it (by simp)
  exact wpAny_pyNext_range_end (I.ok.hd hc) st (by have:n<=i:=hg;omega) λh' eb=>⟨rfl,I.turned (t':=s.toks) (λb o hb e=>eb b o hb e) f0 f1 f3 f4 f5⟩
 self:=λ_ _ _ _ _ st h=>wpAny_pyIter_rangeiter st h
section
variable{X:Cx}{tg:Expr}
noncomputable def Mq(K:W.Frag)(tl:TE):TI:=λσ H R=>tl σ H λx H1=>∃ a,x=.ref a/\(∃ xs,gT K H1 a xs)/\R (Itl K a) H1
theorem tq(hl:PE X l tl):PI X tg l (Mq X.K tl):=by
 intro pins s σ H R I h
 refine bN (hl pins s σ H _ I h) λv s1 ⟨x,H1,I1,r1,q1⟩=>?_
 obtain⟨a,e,⟨xs,hq⟩,q⟩:=q1
 subst e
 cases r1
 obtain⟨its,rv,p,hz⟩:=I1.list hq
 refine TZ p.isList ?_
 refine⟨s1.heap.objs.size,[s1.heap.objs.size],_,_,H1,rfl,I1.kept (t':=s1.toks) λb o e=>Re _ e,qK a _,⟨_,Rs _ rfl,rfl,rfl⟩,λb hb=>?_,q⟩
 have e:b=s1.heap.objs.size:=by simpa using hb
 subst e
 exact I1.fpOk (Rn _) (I1.hok.fresh (Rn _))
theorem vG{s:Shared}{R:It->Hp->Prop}{lo hi:Int}{tk:Nat}(I:Inv X pins σ H s)(h1:-(2^62)<=lo)(h2:lo<2^62)(h3:-(2^62)<=hi)(h4:hi<2^62)
  (q:R (Itr lo (hi - lo).toNat) H):wpAny (model X.prog X.w) X.A (pyIter (.ref s.heap.objs.size)) (PIE X pins σ tg R) E { s with heap:=s.heap.push { cls:=.type "range",data:=.fields #[.int lo t,.int hi u,.int 1 v] },toks:=tk }:=by
 refine wpAny_pyIter_range (IsRange.new ..) (small_one h1 h2 h3 h4) ?_
 have I1:Inv X pins σ H { s with heap:=s.heap.push { cls:=.type "range",data:=.fields #[.int lo t,.int hi u,.int 1 v] },toks:=tk }:=I.kept λb o e=>Re _ e
 refine⟨(s.heap.push { cls:=.type "range",data:=.fields #[.int lo t,.int hi u,.int 1 v] }).objs.size,[(s.heap.push { cls:=.type "range",data:=.fields #[.int lo t,.int hi u,.int 1 v] }).objs.size],_,_,H,rfl,
  I1.kept (t':=tk) λb o e=>Re _ e,xY _ lo (hi - lo).toNat,?_,λb hb=>?_,q⟩
 ·have e1:lo+((0:Nat):Int)*1=lo:=by simp
  have e2:(((hi - lo).toNat:Nat):Int) - ((0:Nat):Int)=Builtin.Range.rangeSize lo hi 1:=by rw[rangeSize_one];split<;>omega
  show IsRangeIter _ _ (lo+((0:Nat):Int)*1) ((((hi - lo).toNat:Nat):Int) - ((0:Nat):Int)) 1
  rw[e1,e2]
  exact Rs _ rfl
 ·have e:b=(s.heap.push { cls:=.type "range",data:=.fields #[.int lo t,.int hi u,.int 1 v] }).objs.size:=by simpa using hb
  subst e
  exact I1.fpOk (Rn _) (I1.hok.fresh (Rn _))
noncomputable def iRng1(ta:TA):TI:=λσ H R=>ta σ H λvs H1=>∃ j:Int,vs=[.int j]/\-(2^62)<=j/\j<2^62/\R (Itr 0 j.toNat) H1
noncomputable def iRng2(ta:TA):TI:=λσ H R=>ta σ H λvs H1=>∃ i j:Int,vs=[.int i,.int j]/\(-(2^62)<=i/\i<2^62/\-(2^62)<=j/\j<2^62)/\R (Itr i (j - i).toNat) H1
theorem qY{a:Expr}{p:Pos}(hg:Gl X "range")(hm:X.mg "range" = Y)(ha:PA X [a] ta)(hs:starEach [a] X.env=[(false,eval a X.env)]:=by rfl):PI X tg (.Call (.Name "range" p) [a] [] pos) (iRng1 ta):=by
 intro pins s σ H R I h
 refine Call_ (gQ I hg hm boot_range (RZ (bN (ha pos pins s σ H _ I h) λus s1 ⟨vs,H1,I1,r1,q1⟩=>?_) hs rfl))
 obtain⟨j,e,q1,q2,q⟩:=q1
 subst e
 cases r1 with
 | cons r rr=>
  cases rr
  obtain⟨t,rfl⟩:=r
  exact call_range_1 (vG I1 (by omega) (by omega) q1 q2 (by simpa using q))
theorem Bx{a b:Expr}{p:Pos}(hg:Gl X "range")(hm:X.mg "range" = Y)(ha:PA X [a,b] ta)(hs:starEach [a,b] X.env=[(false,eval a X.env),(false,eval b X.env)]:=by rfl)(hs2:starEach [b] X.env=[(false,eval b X.env)]:=by rfl) :
  PI X tg (.Call (.Name "range" p) [a,b] [] pos) (iRng2 ta):=by
 intro pins s σ H R I h
 refine Call_ (gQ I hg hm boot_range (RZ (bN (ha pos pins s σ H _ I h) λus s1 ⟨vs,H1,I1,r1,q1⟩=>?_) (by rw[hs,hs2]) (by rw[hs2];rfl)))
 obtain⟨i,j,e,⟨q1,q2,q3,q4⟩,q⟩:=q1
 subst e
 cases r1 with
 | cons r rr=>
  cases rr with
  | cons r' rr=>
   cases rr
   obtain⟨t,rfl⟩:=r
   obtain⟨t',rfl⟩:=r'
   exact call_range_2 (vG I1 q1 q2 q3 q4 q)
noncomputable def tFor(wi:TI)(g:TG)(tb:TS):TS:=λD σ H=>wi σ H λJ H1=>∃ W:Nat->Nat->St->Hp->Prop,(∃ m,W 0 m σ H1)/\∀ i m σ H,W i m σ H ->
 (J.stop i H/\D.nx σ H)\/(J.go i H/\∃ N:St->Hp->Prop,(∀ σ' H',N σ' H'->∃ m',m'<m/\W (i+1) m' σ' H')/\∀ x H',J.yld i H x H'->g x σ H' λσ2 H2=>tb { D with nx:=N,ct:=N,bk:=D.nx } σ2 H2)
noncomputable def lP(fp:List Addr)(h:Heap):List (Addr×Obj):=fp.filterMap λb=>(h.get? b).map λo=>(b,o)
theorem fF{fp:List Addr}{h:Heap}{b:Addr}{o:Obj}(hb:b∈fp)(e:h.get? b=U o):(b,o)∈lP fp h:=UG.mpr ⟨b,hb,by rw[e];rfl⟩
theorem BE{p:Addr×Obj}(hp:p∈lP fp h):p.1∈fp/\h.get? p.1=U p.2:=by
 obtain⟨b,hb,e⟩:=UG.mp hp
 cases q:h.get? b with
 | none=>rw[q] at e;cases e
 | some o=>
  rw[q] at e
  have e':(b,o)=p:=RJ e
  subst e'
  exact⟨hb,q⟩
theorem Inv.pinned{s:Shared}{fp:List Addr}(I:Inv X pins σ H s)(hf:∀ b∈fp,jJ X pins H b)(ho:∀ b∈fp,∃ o,s.heap.get? b=U o/\∀ v,o.data≠.cell v):Inv X (pins++lP fp s.heap) σ H s:=
 I.pins_of λp hp=>(RE.mp hp).elim (λz=>I.pin p (RN _ z)) λz=>by
  obtain⟨hb,e⟩:=BE z
  obtain⟨f0,f1,f2,_⟩:=hf p.1 hb
  obtain⟨o,e',d⟩:=ho p.1 hb
  rw[e] at e';cases e'
  exact⟨e,f0,f1,f2,d⟩
theorem Inv.unpinned{pins pl:List (Addr×Obj)}{s:Shared}(I:Inv X (pins++pl) σ H s):Inv X pins σ H s:=I.pins_of λp hp=>I.pin p (RN _ (Sj _ hp))
theorem yk{iter:Expr}(hp:PassesOwn (model X.prog X.w) X.A X.env X.xe)(hc:X.calm=true)(hi:PI X tg iter wi)(hg:PG X tg g)(hb:PSs X body tb)
  (hs:∀ x,foldedSetIterable iter X.env x=pure x:=by intro _;rfl):PS X (.For tg iter body [] pos) (tFor wi g tb):=by
 intro pins s σ H D I h
 refine wpAny_For (bN (hi pins s σ H _ I h) λv s1 h1=>bN h1 λitv s2 h2=>?_) hs
 obtain⟨it,fp,tn,J,H2,e,I2,T,st2,f2,W,⟨m0,w0⟩,turn⟩:=h2
 subst e
 have stat:∀ {H':Hp},(∀ b∈fp,H' b=Y)->∀ b∈fp,jJ X pins H' b:=λhn b hb=>⟨hn b hb,(f2 b hb).2⟩
 refine codeAny_forLoop_any (λn s'=>∃ i σ' H',Inv X pins σ' H' s'/\tn i s'.heap/\(∀ b∈fp,H' b=Y)/\W i n σ' H') ?_ m0 ⟨0,σ,H2,I2,st2,λb hb=>(f2 b hb).1,w0⟩
 rintro n s3 ⟨i,σ3,H3,I3,st3,fr3,w3⟩
 rcases turn i n σ3 H3 w3 with ⟨stop,qn⟩ | ⟨go,N,hN,step⟩
 ·refine TJ hp (bN (T.done X rfl rfl rfl hc i pins s3 σ3 H3 X.xe I3 (stat fr3) st3 stop) λr s4 ⟨hr,I4⟩=>?_)
  subst hr
  exact TL ⟨σ3,H3,I4,qn⟩
 ·refine TJ hp (bN (T.item X rfl rfl rfl hc i pins s3 σ3 H3 X.xe I3 (stat fr3) st3 go) λr s4 ⟨u,hr,h4⟩=>?_)
  subst hr
  refine TJ hp (bN h4 λ_ s5 ⟨x,H5,I5,r5,y5,st5,fr5⟩=>?_)
  have I5':=I5.pinned (stat fr5) (T.obj _ _ st5)
  refine TJ hp (bN (hg _ s5 σ3 H5 x u _ I5' r5 (step x H5 y5)) λ_ s6 ⟨σ6,H6,I6,q6⟩=>?_)
  refine TJ hp (bN (hb _ s6 σ6 H6 _ I6 q6) λf s7 q7=>?_)
  have again:∀ {σ7:St} {H7:Hp},Inv X (pins++lP fp s5.heap) σ7 H7 s7->N σ7 H7->∃ m,m<n/\∃ i σ' H',Inv X pins σ' H' s7/\tn i s7.heap/\(∀ b∈fp,H' b=Y)/\W i m σ' H':=λ{σ7 H7} I7 n7=>by
   obtain⟨m',hm,w7⟩:=hN σ7 H7 n7
   refine⟨m',hm,i+1,σ7,H7,I7.unpinned,T.keep _ _ _ st5 λb hb o e=>(I7.pin (b,o) (RN _ (RN _ (fF hb e)))).1,λb hb=>?_,w7⟩
   obtain⟨o,e,d⟩:=T.obj _ _ st5 b hb
   exact(I7.pin (b,o) (RN _ (RN _ (fF hb e)))).2.1
  cases f with
  | next=>obtain⟨σ7,H7,I7,n7⟩:=q7;exact again I7 n7
  | cont=>obtain⟨σ7,H7,I7,n7⟩:=q7;exact again I7 n7
  | brk=>obtain⟨σ7,H7,I7,q7⟩:=q7;exact⟨σ7,H7,I7.unpinned,q7⟩
  | ret v=>obtain⟨x7,σ7,H7,I7,r7,q7⟩:=q7;exact⟨x7,σ7,H7,I7.unpinned,r7,q7⟩
end
noncomputable abbrev R2:=V->V->Hp->VK->Prop
noncomputable def OpR(X:Cx)(f:Value->Value->Sem Value)(r:R2):Prop:=
 ∀ (pins:List (Addr×Obj)) (s:Shared) (σ:St) (H:Hp) (x y:V) (v u:Value) (Q:VK),Inv X pins σ H s->RelV x v->RelV y u->r x y H Q ->
  wpAny (model X.prog X.w) X.A (f v u) (EP X pins σ Q) X.xe s
noncomputable def UnR(X:Cx)(f:Value->Sem Value)(r:V->Hp->VK->Prop):Prop:=
 ∀ (pins:List (Addr×Obj)) (s:Shared) (σ:St) (H:Hp) (x:V) (v:Value) (Q:VK),Inv X pins σ H s->RelV x v->r x H Q ->
  wpAny (model X.prog X.w) X.A (f v) (EP X pins σ Q) X.xe s
noncomputable def CallR(X:Cx)(f:Value)(r:List V->Hp->VK->Prop):Prop:=
 ∀ (pins:List (Addr×Obj)) (s:Shared) (σ:St) (H:Hp) (xs:List V) (us:List Value) (Q:VK),Inv X pins σ H s->Vals xs us->r xs H Q ->
  wpAny (model X.prog X.w) X.A (call f us) (EP X pins σ Q) X.xe s
noncomputable def TruR(X:Cx)(r:V->Hp->(Bool->Hp->Prop)->Prop):Prop:=
 ∀ (pins:List (Addr×Obj)) (s:Shared) (σ:St) (H:Hp) (x:V) (v:Value) (Q:Bool->Hp->Prop),Inv X pins σ H s->RelV x v->r x H Q ->
  wpAny (model X.prog X.w) X.A (truthy v) (TP X pins σ Q) X.xe s
noncomputable def tOp(r:R2)(ta tb:TE):TE:=λσ H Q=>ta σ H λx H1=>tb σ H1 λy H2=>r x y H2 Q
noncomputable def tUn(r:V->Hp->VK->Prop)(ta:TE):TE:=λσ H Q=>ta σ H λx H1=>r x H1 Q
noncomputable def rI(C:Int->Int->Prop)(g:Int->Int->V):R2:=λx y H Q=>∃ i j,x=.int i/\y=.int j/\C i j/\Q (g i j) H
noncomputable def IK(g:Int->Int->V):R2:=λx y H Q=>∃ i j,x=.int i/\y=.int j/\Q (g i j) H
noncomputable def rU(g:Int->V):V->Hp->VK->Prop:=λx H Q=>∃ i,x=.int i/\Q (g i) H
section
variable{X:Cx}{a b c:Expr}{ta tb tc:TE}{pos:Pos}
theorem QK(ha:PE X a ta)(hb:PE X b tb){s:Shared}{R:V->V->Hp->Prop}(I:Inv X pins σ H s)
  (h:ta σ H λx H1=>tb σ H1 λy H2=>R x y H2) {f:Value->Value->Sem Value}
  (hf:∀ v u s2 x y H2,Inv X pins σ H2 s2->RelV x v->RelV y u->R x y H2->wpAny (model X.prog X.w) X.A (f v u) Q X.xe s2) :
  wpAny (model X.prog X.w) X.A (eval a X.env) (λv s₁=>wpAny (model X.prog X.w) X.A (eval b X.env) (λu s₂=>wpAny (model X.prog X.w) X.A (f v u) Q X.xe s₂) X.xe s₁) X.xe s:=by
 refine bN (ha pins s σ H _ I h) λv s1 ⟨x,H1,I1,r1,q1⟩=>?_
 refine bN (hb pins s1 σ H1 _ I1 q1) λu s2 ⟨y,H2,I2,r2,q2⟩=>?_
 exact hf v u s2 x y H2 I2 r1 r2 q2
theorem pe_op(ho:OpR X (binaryOp op) r)(ha:PE X a ta)(hb:PE X b tb):PE X (.BinOp a op b pos) (tOp r ta tb):=by
 intro pins s σ H Q I h
 exact wpAny_BinOp (QK ha hb I h λv u s2 x y H2 I2 rx ry q=>ho pins s2 σ H2 x y v u Q I2 rx ry q)
theorem pe_un(ho:UnR X (unaryOp op) r)(ha:PE X a ta):PE X (.UnaryOp op a pos) (tUn r ta):=by
 intro pins s σ H Q I h
 exact UnaryOp_ (bN (ha pins s σ H _ I h) λv s1 ⟨x,H1,I1,r1,q1⟩=>ho pins s1 σ H1 x v Q I1 r1 q1)
theorem opI{f:Value->Value->Sem Value}{C:Int->Int->Prop}{g:Int->Int->Int}
  (rule:∀ (i j:Int) (t u:Tok) (s:Shared) (Q:Value->Shared->Prop) (E:Value->Shared->Prop),C i j->Q (.int (g i j) s.toks) { s with toks:=s.toks+1 }->wpAny (model X.prog X.w) X.A (f (.int i t) (.int j u)) Q E s) :
  OpR X f (rI C λi j=>.int (g i j)):=by
 intro pins s σ H x y v u Q I rx ry h
 obtain⟨i,j,rfl,rfl,hc,q⟩:=h
 obtain⟨t,rfl⟩:=rx
 obtain⟨t',rfl⟩:=ry
 exact rule i j t t' s _ _ hc ⟨.int (g i j),H,I.tok _,⟨_,rfl⟩,q⟩
theorem opI0{f:Value->Value->Sem Value}{g:Int->Int->Int}
  (rule:∀ (i j:Int) (t u:Tok) (s:Shared) (Q:Value->Shared->Prop) (E:Value->Shared->Prop),Q (.int (g i j) s.toks) { s with toks:=s.toks+1 }->wpAny (model X.prog X.w) X.A (f (.int i t) (.int j u)) Q E s) :
  OpR X f (IK λi j=>.int (g i j)):=by
 intro pins s σ H x y v u Q I rx ry h
 obtain⟨i,j,rfl,rfl,q⟩:=h
 obtain⟨t,rfl⟩:=rx
 obtain⟨t',rfl⟩:=ry
 exact rule i j t t' s _ _ ⟨.int (g i j),H,I.tok _,⟨_,rfl⟩,q⟩
theorem Jz{f:Value->Value->Sem Value}{g:Int->Int->Bool}
  (rule:∀ (i j:Int) (t u:Tok) (s:Shared) (Q:Value->Shared->Prop) (E:Value->Shared->Prop),Q (.bool (g i j)) s->wpAny (model X.prog X.w) X.A (f (.int i t) (.int j u)) Q E s) :
  OpR X f (IK λi j=>.bl (g i j)):=by
 intro pins s σ H x y v u Q I rx ry h
 obtain⟨i,j,rfl,rfl,q⟩:=h
 obtain⟨t,rfl⟩:=rx
 obtain⟨t',rfl⟩:=ry
 exact rule i j t t' s _ _ ⟨.bl (g i j),H,I,rfl,q⟩
noncomputable def CDiv(i j:Int):Prop:=0<j/\j<1073741824
noncomputable def CPow(i j:Int):Prop:=0<=j/\j<=1000000/\i.natAbs<2^64
theorem Oh:OpR X (binaryOp .Add) (IK λi j=>.int (i+j)):=opI0 λ_ _ _ _ _ _ _ q=>add_int q
theorem Od:OpR X (binaryOp .Sub) (IK λi j=>.int (i - j)):=opI0 λ_ _ _ _ _ _ _ q=>sub_int q
theorem Ju:OpR X (binaryOp .FloorDiv) (rI CDiv λi j=>.int (i / j)):=opI λi j _ _ _ _ _ hc q=>by
 have h1:(0:Int)<j:=hc.1
 have h2:j<1073741824:=hc.2
 exact floordiv_int (by omega) (by rw[Int.fdiv_eq_ediv_of_nonneg i (by omega)];exact q) (.inl (PyProof.noPylong_small (by omega)))
theorem Og:OpR X (binaryOp .Mod) (rI (λ_ j=>0<j) λi j=>.int (i%j)):=opI λi j _ _ _ _ _ hc q=>by
 have h1:(0:Int)<j:=hc
 exact mod_int' (by omega) (by rw[Int.fmod_eq_emod_of_nonneg i (by omega)];exact q)
theorem Of:OpR X (binaryOp .Pow) (rI CPow λi j=>.int (i^j.toNat)):=opI λ_ _ _ _ _ _ _ hc q=>pow_int_small hc.1 hc.2.1 hc.2.2 q
theorem unI{f:Value->Sem Value}{g:Int->Int}
  (rule:∀ (i:Int) (t:Tok) (s:Shared) (Q:Value->Shared->Prop) (E:Value->Shared->Prop),Q (.int (g i) s.toks) { s with toks:=s.toks+1 }->wpAny (model X.prog X.w) X.A (f (.int i t)) Q E s) :
  UnR X f (rU λi=>.int (g i)):=by
 intro pins s σ H x v Q I rx h
 obtain⟨i,rfl,q⟩:=h
 obtain⟨t,rfl⟩:=rx
 exact rule i t s _ _ ⟨.int (g i),H,I.tok _,⟨_,rfl⟩,q⟩
theorem MU:UnR X (unaryOp .USub) (rU λi=>.int (-i)):=unI λ_ _ _ _ _ q=>neg_int q
end
section
variable{X:Cx}{a b c:Expr}{ta tb tc:TE}{pos:Pos}
theorem op_lt:OpR X (compareOp .Lt) (IK λi j=>.bl (decide (i<j))):=Jz λ_ _ _ _ _ _ _ q=>lt_int q
theorem op_le:OpR X (compareOp .LtE) (IK λi j=>.bl (decide (i<=j))):=Jz λ_ _ _ _ _ _ _ q=>le_int q
theorem op_gt:OpR X (compareOp .Gt) (IK λi j=>.bl (decide (j<i))):=Jz λ_ _ _ _ _ _ _ q=>gt_int q
theorem op_ge:OpR X (compareOp .GtE) (IK λi j=>.bl (decide (j<=i))):=Jz λ_ _ _ _ _ _ _ q=>ge_int q
theorem OpR.or(h:OpR X f r)(h':OpR X f r'):OpR X f (λx y H Q=>r x y H Q\/r' x y H Q):=by
 intro pins s σ H x y v u Q I rx ry q
 rcases q with q | q
 ·exact h pins s σ H x y v u Q I rx ry q
 ·exact h' pins s σ H x y v u Q I rx ry q
theorem Jl(ho:OpR X (compareOp op) r)(ha:PE X a ta)(hb:PE X b tb)(hm:behindInMarks op b=false):PE X (.Compare a [op] [b] pos) (tOp r ta tb):=by
 intro pins s σ H Q I h
 exact wpAny_Compare1 (QK ha hb I h λv u s2 x y H2 I2 rx ry q=>ho pins s2 σ H2 x y v u Q I2 rx ry q) hm
noncomputable def LJ(t:TE):TT:=λσ H Q=>t σ H λx H'=>∃ k,x=.bl k/\Q k H'
theorem IV(ho:OpR X (compareOp op) r)(ha:PE X a ta)(hb:PE X b tb)(hm:behindInMarks op b=false):PT X (.Compare a [op] [b] pos) (LJ (tOp r ta tb)):=by
 intro pins s σ H Q I h
 refine wpAny_isTrue_Compare1 (bN (ha pins s σ H _ I h) λv s1 ⟨x,H1,I1,r1,q1⟩=>bN (hb pins s1 σ H1 _ I1 q1) λu s2 ⟨y,H2,I2,r2,q2⟩=>
  bN (ho pins s2 σ H2 x y v u _ I2 r1 r2 q2) λc s3 ⟨z,H3,I3,r3,k,e,q3⟩=>?_) hm
 subst e
 cases r3
 exact SL ⟨H3,I3,q3⟩
noncomputable def yd(r r':R2)(ta tb tc:TE):TE:=λσ H Q=>ta σ H λx H1=>tb σ H1 λy H2=>r x y H2 λz H3=>∃ k,z=.bl k /\
 (if k=true then tc σ H3 λw' H4=>r' y w' H4 Q else Q (.bl false) H3)
theorem Ex(ho:OpR X (compareOp op) r)(ho':OpR X (compareOp op') r')(ha:PE X a ta)(hb:PE X b tb)(hc:PE X c tc)
  (hm:lastMarks [op,op'] [b,c]=false:=by with_unfolding_all rfl):PE X (.Compare a [op,op'] [b,c] pos) (yd r r' ta tb tc):=by
 intro pins s σ H Q I h
 refine Compare_chain (bN (ha pins s σ H _ I h) λv s1 ⟨x,H1,I1,r1,q1⟩=>chain_link (bN (hb pins s1 σ H1 _ I1 q1) λu s2 ⟨y,H2,I2,r2,q2⟩=>
  bN (ho pins s2 σ H2 x y v u _ I2 r1 r2 q2) λd s3 ⟨z,H3,I3,r3,k,e,q3⟩=>?_)) hm
 subst e
 cases r3
 refine SL ?_
 cases k with
 | false=>exact ite_ff ⟨.bl false,H3,I3,rfl,q3⟩
 | true=>exact ite_tt (chain_last (bN (hc pins s3 σ H3 _ I3 q3) λw' s4 ⟨z',H4,I4,r4,q4⟩=>ho' pins s4 σ H4 y z' u w' Q I4 r2 r4 q4))
theorem Eh(ho:OpR X (compareOp op) r)(ho':OpR X (compareOp op') r')(ha:PE X a ta)(hb:PE X b tb)(hc:PE X c tc)
  (hm:lastMarks [op,op'] [b,c]=false:=by with_unfolding_all rfl):PT X (.Compare a [op,op'] [b,c] pos) (LJ (yd r r' ta tb tc)):=by
 intro pins s σ H Q I h
 refine isTrue_chain (bN (ha pins s σ H _ I h) λv s1 ⟨x,H1,I1,r1,q1⟩=>test_link (bN (hb pins s1 σ H1 _ I1 q1) λu s2 ⟨y,H2,I2,r2,q2⟩=>
  bN (ho pins s2 σ H2 x y v u _ I2 r1 r2 q2) λd s3 ⟨z,H3,I3,r3,k,e,q3⟩=>?_)) hm
 subst e
 cases r3
 refine SL ?_
 cases k with
 | false=>
  obtain⟨k',e',q'⟩:=q3
  cases e'
  exact ite_ff ⟨H3,I3,q'⟩
 | true=>
  refine ite_tt (test_last (bN (hc pins s3 σ H3 _ I3 q3) λw' s4 ⟨z',H4,I4,r4,q4⟩=>bN (ho' pins s4 σ H4 y z' u w' _ I4 r2 r4 q4) λd' s5 ⟨z2,H5,I5,r5,k2,e2,q5⟩=>?_))
  subst e2
  cases r5
  exact SL ⟨H5,I5,q5⟩
noncomputable def Dg(K:W.Frag)(x:V)(H:Hp)(k:Bool):Prop:=
 match x with
 | .non=>k=false
 | .bl b=>k=b
 | .int i=>k=(i != 0)
 | .str y=>y.length<=sizeLine/\k=((y.length:Int) != 0)
 | .byt y=>y.size<=sizeLine/\k=((y.size:Int) != 0)
 | .ref p=>(∃ xs,gT K H p xs/\k = !xs.isEmpty)\/(∃ xs,iP K H p xs/\k = !xs.isEmpty)\/∃ kvs,H p=U (.dK kvs)/\k = !kvs.isEmpty
 | _=>False
theorem zc{κ:Type}{kvs:List (κ×V)}{vs:List (κ×Value)}(r:KV kvs vs):(!vs.isEmpty) = !kvs.isEmpty:=by
 cases r<;>rfl
theorem pF{xs:List V}{its:List Value}(r:Vals xs its):(!its.toArray.isEmpty) = !xs.isEmpty:=by
 cases r<;>simp
theorem lY:(sizeLine:Nat)<2^63:=by rw[Ug];decide
theorem sE:TruR X (λx H Q=>∃ k,Dg X.K x H k/\Q k H):=by
 intro pins s σ H x v Q I rx h
 obtain⟨k,e,q⟩:=h
 have hl:=lY
 have hs:sizeLine=16777216:=Ug
 cases x with
 | non=>
  cases rx
  have e':k=false:=e
  subst e'
  exact truthy_none ⟨H,I,q⟩
 | bl b=>
  cases rx
  have e':k=b:=e
  subst e'
  exact SL ⟨H,I,q⟩
 | int i=>
  obtain⟨t,rfl⟩:=rx
  have e':k=(i != 0):=e
  subst e'
  exact PySem.P.truthy_int ⟨H,I,q⟩
 | str y=>
  obtain⟨t,rfl⟩:=rx
  obtain⟨hy,e'⟩:y.length<=sizeLine/\k=((y.length:Int) != 0):=e
  subst e'
  exact PySem.P.truthy_str (by omega) ⟨H,I.tok _,q⟩
 | byt y=>
  obtain⟨t,rfl⟩:=rx
  obtain⟨hy,e'⟩:y.size<=sizeLine/\k=((y.size:Int) != 0):=e
  subst e'
  exact W.truthy_bytes (by omega) ⟨H,I.tok _,q⟩
 | ref p=>
  cases rx
  have e':(∃ xs,gT X.K H p xs/\k = !xs.isEmpty)\/(∃ xs,iP X.K H p xs/\k = !xs.isEmpty)\/∃ kvs,H p=U (.dK kvs)/\k = !kvs.isEmpty:=e
  rcases e' with ⟨xs,hx,e'⟩ | ⟨xs,hx,e'⟩ | ⟨kvs,hx,e'⟩
  ·subst e'
   obtain⟨its,r,pl,hz⟩:=I.list hx
   have hlen:=r.length
   exact wpAny_truthy_list pl.isList (by simp only[Rk];omega) ⟨H,I.tok _,by rw[pF r];exact q⟩
  ·subst e'
   obtain⟨its,r,pl,hz⟩:=I.tuple hx
   have hlen:=r.length
   exact truthy_tuple pl (by simp only[Rk];omega) ⟨H,I.tok _,by rw[pF r];exact q⟩
  ·subst e'
   obtain⟨hz,hS,vs,r,m⟩:kvs.length<=sizeLine/\(p==sysModules)=false/\∃ vs,KV kvs vs/\s.heap.DictOf (aY X.prog X.w) p vs:=I.hok p _ hx
   have hlen:kvs.length=vs.length:=UF r
   exact wpAny_truthy_dict hS m (by omega) ⟨H,I.tok _,by rw[zc r];exact q⟩
 | _=>exact(show False from e).elim
theorem Eg(ha:PE X a ta)(he:∀ whole,isTrue a X.env whole=(do let v <- whole;standAt a.pos;holding [v] (truthy v))) :
  PT X a (λσ H Q=>ta σ H λx H'=>∃ k,Dg X.K x H' k/\Q k H'):=by
 intro pins s σ H Q I h
 exact isTrue_plain (bN (ha pins s σ H _ I h) λv s1 ⟨x,H1,I1,r1,q1⟩=>sE pins s1 σ H1 x v Q I1 r1 q1) (he _)
theorem yp:OpR X (binaryOp .Add) (λx y H Q=>∃ i j,x=.str i/\y=.str j/\i.length+j.length<=sizeLine/\Q (.str (i++j)) H):=by
 intro pins s σ H x y v u Q I rx ry h
 obtain⟨i,j,rfl,rfl,hz,q⟩:=h
 obtain⟨t,rfl⟩:=rx
 obtain⟨t',rfl⟩:=ry
 exact add_str (λt' tk=>⟨.str (i++j),H,I.tok _,⟨_,rfl⟩,q⟩) hz
theorem gD{x:V}(r:Vals [x] us):∃ u,us=[u]/\RelV x u:=by
 cases r with
 | cons r1 r2=>cases r2;exact⟨_,rfl,r1⟩
theorem vh{x y:V}(r:Vals [x,y] us):∃ u w',us=[u,w']/\RelV x u/\RelV y w':=by
 cases r with
 | cons r1 r2=>
  cases r2 with
  | cons r3 r4=>cases r4;exact⟨_,_,rfl,r1,r3⟩
theorem CV(hc:X.calm=true):CallR X (.builtin "max") (λxs H Q=>∃ i j,xs=[.int i,.int j]/\Q (.int (if j>i then j else i)) H):=by
 intro pins s σ H xs us Q I r h
 obtain⟨i,j,rfl,q⟩:=h
 obtain⟨u,w',rfl,⟨t,rfl⟩,⟨t',rfl⟩⟩:=vh r
 refine max_two_ints (I.ok.hd hc) λh' tk k=>⟨_,H,I.kept k,?_,q⟩
 by_cases hj:j>i
 ·rw[Ru hj,Ru hj];exact⟨_,rfl⟩
 ·rw[RH hj,RH hj];exact⟨_,rfl⟩
theorem CT(hc:X.calm=true):CallR X (.builtin "min") (λxs H Q=>∃ i j,xs=[.int i,.int j]/\Q (.int (if j<i then j else i)) H):=by
 intro pins s σ H xs us Q I r h
 obtain⟨i,j,rfl,q⟩:=h
 obtain⟨u,w',rfl,⟨t,rfl⟩,⟨t',rfl⟩⟩:=vh r
 refine min_two_ints (I.ok.hd hc) λh' tk k=>⟨_,H,I.kept k,?_,q⟩
 by_cases hj:j<i
 ·rw[Ru hj,Ru hj];exact⟨_,rfl⟩
 ·rw[RH hj,RH hj];exact⟨_,rfl⟩
theorem CW:CallR X (.type "int") (λxs H Q=>(∃ i,xs=[.int i]/\Q (.int i) H)\/∃ k,xs=[.bl k]/\Q (.int (if k then 1 else 0)) H):=by
 intro pins s σ H xs us Q I r h
 rcases h with ⟨i,rfl,q⟩ | ⟨k,rfl,q⟩
 ·obtain⟨u,rfl,t,rfl⟩:=gD r
  exact call_int_int ⟨.int i,H,I,⟨_,rfl⟩,q⟩
 ·obtain⟨u,rfl,r1⟩:=gD r
  cases r1
  exact call_int_bool ⟨.int (if k then 1 else 0),H,I.tok _,⟨_,rfl⟩,q⟩
theorem uQ:CallR X (.type "str") (λxs H Q=>∃ i,xs=[.int i]/\i.natAbs.log2<1920/\Q (.str (toString i)) H):=by
 intro pins s σ H xs us Q I r h
 obtain⟨i,rfl,hz,q⟩:=h
 obtain⟨u,rfl,t,rfl⟩:=gD r
 exact PySem.P.str_of_int hz ⟨.str _,H,I.tok _,⟨_,rfl⟩,q⟩
end
theorem rM{h:Heap}(n:h.Ns1 dx mA):∃ od,h.get? dx=U od/\∀ name,W.lookIn name od=U (mA name):=by
 obtain⟨o,es,ep,ho,hd,hk,_,hm⟩:=n
 refine⟨o,ho,λname=>?_⟩
 have e:=hm name
 unfold nsFind findBy at e
 rw[<- Wt] at e
 unfold W.lookIn
 rw[hd]
 dsimp only
 split
 ·rename_i y q
  rw[q] at e
  exact congrArg U e
 ·rename_i q
  rw[q] at e
  have a:es.toList.any (·.refKey)=false:=by
   rw[List.any_eq_false]
   intro y hy
   obtain⟨z,t,hkey⟩:=hk y (Wg.mp hy)
   simp[DictEntry.refKey,hkey]
  have a':¬ es.toList.any (·.refKey)=true:=by rw[a];exact Rq
  rw[RH a']
  exact congrArg U e
theorem RelO.some_of{v:V}(r:RelO (U v) o):∃ u,o=U u/\RelV v u:=by
 cases o with
 | none=>exact(show False from r).elim
 | some u=>exact⟨u,rfl,r⟩
theorem Cd(r:RelV v u):W.handedIn u=true:=by
 cases v with
 | non=>cases(show u=Value.none from r);rfl
 | bl b=>cases(show u=Value.bool b from r);rfl
 | int i=>obtain⟨t,e⟩:=(show ∃ t,u=Value.int i t from r);cases e;rfl
 | str x=>obtain⟨t,e⟩:=(show ∃ t,u=Value.str x t from r);cases e;rfl
 | byt b=>obtain⟨t,e⟩:=(show ∃ t,u=Value.bytes b t from r);cases e;rfl
 | flt b=>obtain⟨t,e⟩:=(show ∃ t,u=Value.float b t from r);cases e;rfl
 | ref a=>cases(show u=Value.ref a from r);rfl
 | ty n=>cases(show u=Value.type n from r);rfl
section
variable{X:Cx}{pins:List (Addr×Obj)}{σ:St}{H:Hp}{s:Shared}{a C dx:Addr}{fs:List (Str×V)}{f:Str}{v:V}{A:Around}{E:Value->Shared->Prop}
theorem Lu{f:Str}{s:Shared}(hb:attributeBase e f env (eval e env)=eval e env)
  (h:wpAny (model prog w) A (eval e env) (λo s₁=>wpAny (model prog w) A (getAttr o f true) Q E s₁) E s):wpAny (model prog w) A (eval (.Attribute e f pos) env) Q E s:=
 Attribute_any_ h (by rw[arm_eval_Attribute,hb])
end
structure Room(k:Nat)(A:Around):Prop where
 hd:A.handled=Y
 dp:A.depth+3*k+5<recursionLimit
 un:A.units+16*k+200<cLine
theorem Room.mono{j k:Nat}(r:Room k A)(h:j<=k):Room j A:=⟨r.hd,by have:=r.dp;omega,by have:=r.un;omega⟩
theorem Room.deeper{k:Nat}(r:Room (k+1) A)(env:Env):Room k (A.deeper env):=
 ⟨r.hd,by have:=r.dp;show A.depth+1+3*k+5<_;omega,by have:=r.un;show A.units+3+16*k+200<_;omega⟩
theorem yD{A:Around}{us:List Value}{kw:List (Str×Value)}:(A.under (.builtin "type.__call__" ⟨.ref C::us,kw⟩)).depth=A.depth+1:=by
 first | rfl | simp[Around.under,Code.weight,Code.isCreation,Code.isGuard,Code.isCaller,Code.frames,Code.isFrame,guardIds]
theorem yC{A:Around}{us:List Value}{kw:List (Str×Value)}:(A.under (.builtin "type.__call__" ⟨.ref C::us,kw⟩)).units=A.units+1:=by
 first | rfl | simp[Around.under,Code.cUnits,Code.frames,Code.isFrame]
theorem Room.make{k:Nat}(r:Room (k+1) A)(C:Addr)(us:List Value)(kw:List (Str×Value)):Room k (A.under (.builtin "type.__call__" ⟨.ref C::us,kw⟩)):=
 ⟨r.hd,by have:=r.dp;rw[yD];omega,by have:=r.un;rw[yC];omega⟩
theorem Room.depth{k:Nat}(r:Room k A):A.depth<recursionLimit:=by have:=r.dp;omega
theorem Room.units{k:Nat}(r:Room k A):A.units+64<cLine:=by have:=r.un;omega
noncomputable def tNil:TA:=λ_ H Q=>Q [] H
noncomputable def tCons(ta:TE)(tr:TA):TA:=λσ H Q=>ta σ H λx H1=>tr σ H1 λxs H2=>Q (x::xs) H2
section
variable{X:Cx}{e:Expr}{es:List Expr}{te:TE}{t:TA}{pos:Pos}
theorem oO:PA X [] tNil:=λ_ _ _ _ H Q I h=>Calls.spliced_nil ⟨[],H,I,.nil,h⟩
theorem gF(ha:PE X e te)(hr:PA X es t)(hs:starEach (e::es) X.env=(false,eval e X.env)::starEach es X.env:=by rfl):PA X (e::es) (tCons te t):=by
 intro pos pins s σ H Q I h
 rw[hs]
 show wpAny _ _ (spliced ((false,eval e X.env)::backTo pos (starEach es X.env))) _ _ s
 refine Wr (bN (ha pins s σ H _ I h) λu s1 ⟨x,H1,I1,r1,q1⟩=>?_)
 exact bN (hr pos pins s1 σ H1 _ I1 q1) λus s2 ⟨xs,H2,I2,r2,q2⟩=>⟨x::xs,H2,I2,.cons r1 r2,q2⟩
noncomputable def tTup(t:TA):TE:=λσ H Q=>t σ H λxs H1=>xs.length<=sizeLine/\∀ p,H1 p=Y->Q (.ref p) (upd H1 p (.tup xs))
noncomputable def tLst(t:TA):TE:=λσ H Q=>t σ H λxs H1=>xs.length<=sizeLine/\∀ p,H1 p=Y->Q (.ref p) (upd H1 p (.lst xs))
theorem Es{x1}(h:PA X es t):PE X (.Tuple es x1 pos) (tTup t):=by
 intro pins s σ H Q I hq
 refine wpAny_Tuple_spliced (bN (h pos pins s σ H _ I hq) λus s1 ⟨xs,H1,I1,r,z,q⟩=>⟨by rw[<- r.length];exact z,?_⟩)
 have hf:H1 s1.heap.objs.size=Y:=I1.hok.fresh (Rn _)
 refine⟨.ref s1.heap.objs.size,upd H1 s1.heap.objs.size (.tup xs),I1.laid (t':=s1.toks) (λb u e=>Re _ e) (Rn _) ?_,rfl,q _ hf⟩
 exact⟨z,us,r,⟨_,Rs _ rfl,rfl,⟨_,rfl⟩,rfl⟩⟩
theorem Et(h:PA X es t):PE X (.List es pos) (tLst t):=by
 intro pins s σ H Q I hq
 refine wpAny_List_spliced (bN (h pos pins s σ H _ I hq) λus s1 ⟨xs,H1,I1,r,z,q⟩=>⟨by rw[<- r.length];exact z,?_⟩)
 have hf:H1 s1.heap.objs.size=Y:=I1.hok.fresh (Rn _)
 refine⟨.ref s1.heap.objs.size,upd H1 s1.heap.objs.size (.lst xs),I1.laid (t':=s1.toks) (λb u e=>Re _ e) (Rn _) ?_,rfl,q _ hf⟩
 exact⟨z,us,0,r,Rs _ rfl⟩
end
noncomputable abbrev Sp:=List V->Hp->VK->XK->Prop
noncomputable abbrev Dj:=List Env->Hp->Shared->XK->Value->Shared->Prop
structure Env0(P:Program)(w:World)(K:W.Frag)(mg:Str->Option Value)(base:Heap)(A:Around)(outer:List Env)(s:Shared)(H:Hp):Prop where
 frames:A.frames=U outer
 mod:Mod K mg base
 bs:∀ b o,base.get? b=U o->s.heap.get? b=U o/\H b=Y
 bsz:base.objs.size<=s.heap.objs.size
 funs:s.heap.FunFrames base outer
 frf:∀ b∈rZ outer,H b=Y
 hok:HOk P w H s.heap
 bare:AllBare s.gens
noncomputable def CE(outer:List Env)(P:Program)(w:World)(H:Hp)(s:Shared)(Q:VK)(u:Value)(s':Shared):Prop:=
 ∃ v H',s'.os=s.os/\AllBare s'.gens/\Un (rZ outer) [] H H' s.heap s'.heap/\HOk P w H' s'.heap/\RelV v u/\Q v H'
noncomputable def CR(CX:Dj)(outer:List Env)(P:Program)(w:World)(H:Hp)(s:Shared)(Q:VK)(E:XK)(r:Result)(s':Shared):Prop:=
 match r with
 | .ok (.ret u)=>CE outer P w H s Q u s'
 | .ok _=>False
 | .error e=>CX outer H s E e s'
structure FnOk(P:Program)(w:World)(K:W.Frag)(mg:Str->Option Value)(base:Heap)(CX:Dj)(k:Nat)(f:Addr)(fd:FuncData)(ps:List Str)(sp:Sp):Prop where
 len:∀ vs H Q E,sp vs H Q E->vs.length=ps.length
 run:∀ (A:Around) (outer:List Env) (s:Shared) (H:Hp) (args:Args) (us:List Value) (vs:List V) (Q:VK) (E:XK),Room k A->Env0 P w K mg base A outer s H->BindsTo s fd args (ps.zip us)->Vals vs us->sp vs H Q E ->
  codeAny (model P w) A (.call (.ref f) args) (CR CX outer P w H s Q E) s
theorem FnOk.mono{K:W.Frag}{k:Nat}(F:FnOk P w K mg base CX j f fd ps sp)(h:j<=k) :
  FnOk P w K mg base CX k f fd ps sp:=⟨F.len,λA outer s H args us vs Q E hr=>F.run A outer s H args us vs Q E (hr.mono h)⟩
theorem Env0.make{K:W.Frag}{s:Shared}(e:Env0 P w K mg base A outer s H)(C:Addr)(us:List Value)(kw:List (Str×Value)) :
  Env0 P w K mg base (A.under (.builtin "type.__call__" ⟨.ref C::us,kw⟩)) outer s H:=⟨by first | exact e.frames | (simpa[Around.under,Code.envs,Code.isFrame,pushEnvs] using e.frames),e.mod,e.bs,e.bsz,e.funs,e.frf,e.hok,e.bare⟩
section
variable{X:Cx}{pins:List (Addr×Obj)}{σ:St}{H:Hp}{s s':Shared}
theorem Inv.env0(I:Inv X pins σ H s):Env0 X.prog X.w X.K X.mg X.base X.A X.stack s H:=
 ⟨I.ok.frames,I.ok.mod,I.bs,RG I.ok.bsz I.sz,I.stack,I.stkFree,I.hok,I.bare⟩
theorem Inv.after(I:Inv X pins σ H s)(h:CE X.stack X.prog X.w H s Q u s'):EP X pins σ Q u s':=by
 obtain⟨v,H',os,bare,un,hok,r,q⟩:=h
 obtain⟨hh,g,d,t,os'⟩:=s'
 obtain rfl:os'=s.os:=os
 exact⟨v,H',I.call (h':=hh) (g':=g) (d':=d) (t':=t) (ch:=[]) un hok bare (λb z=>absurd z (by simp)),r,q⟩
end
noncomputable def vq(sp:Sp)(dvs:List V)(E:XK)(t:TA):TE:=λσ H Q=>t σ H λvs H1=>sp (vs++dvs) H1 Q E
noncomputable def Binds(K:W.Frag)(fd:FuncData)(ps:List Str)(ds:List Value):Prop:=
 ∀ (s:Shared) (us:List Value),K.In s.heap->(us++ds).length=ps.length->BindsTo s fd ⟨us,[]⟩ (ps.zip (us++ds))
theorem Binds.all{K:W.Frag}{ps:List Str}(h:∀ us:List Value,us.length=ps.length->bindArgs fd ⟨us,[]⟩=pure (ps.zip us)):Binds K fd ps []:=λs us _ hl=>by
 rw[RU] at hl ⊢
 exact .of_eq (h us hl)
noncomputable def uY(CX:Dj)(X:Cx)(E:XK):Prop:=∀ (pins:List (Addr×Obj)) (σ:St) (H:Hp) (s:Shared) (e:Value) (s':Shared),Inv X pins σ H s->CX X.stack H s E e s'->X.xe e s'
section
variable{X:Cx}{CX:Dj}{k:Nat}{f C:Addr}{fd:FuncData}{ps:List Str}{sp:Sp}{dvs:List V}{ds:List Value}{E:XK}{x m:Str}{p pos apos:Pos}{e o:Expr}{es:List Expr}{ta:TE}{t:TA}
theorem Ea{s:Shared}(F:FnOk X.prog X.w X.K X.mg X.base CX k f fd ps sp)(hr:Room k X.A)(hb:Binds X.K fd ps ds)(hd:Vals dvs ds)(hx:uY CX X E)
  (I:Inv X pins σ H s) (r:Vals vs us) (h:sp (vs++dvs) H Q E):wpAny (model X.prog X.w) X.A (call (.ref f) us) (EP X pins σ Q) X.xe s:=by
 have r2:Vals (vs++dvs) (us++ds):=r.append hd
 have hl:(us++ds).length=ps.length:=by rw[<- r2.length];exact F.len _ _ _ _ h
 refine Uv (Sx (F.run X.A X.stack s H ⟨us,[]⟩ (us++ds) (vs++dvs) Q E hr I.env0 (hb s us I.kIn hl) r2 h) λr s' hq=>?_)
 cases r with
 | error e=>exact hx pins σ H s e s' I hq
 | ok fl=>
  cases fl with
  | ret u=>exact I.after hq
  | next=>exact False.elim hq
  | brk=>exact False.elim hq
  | cont=>exact False.elim hq
theorem Jm(F:FnOk X.prog X.w X.K X.mg X.base CX k f fd ps sp)(hr:Room k X.A)(hg:Gl X x)(hm:X.mg x=U (.ref f))(hk:W.keepIn X.K (.ref f)=true)(hb:Binds X.K fd ps ds)(hd:Vals dvs ds)(hx:uY CX X E)
  (ha:PA X (e::es) t) (hdb:(x==("__debug__":Str))=false:=by decide) (he:starEach (e::es) X.env=(false,eval e X.env)::starEach es X.env:=by rfl) (hpl:(backTo pos (starEach es X.env)).any (·.1)=false:=by rfl) :
  PE X (.Call (.Name x p) (e::es) [] pos) (vq sp dvs E t):=by
 intro pins s σ H Q I h
 refine Tk (lc I hg hm ?_ hdb)
 refine W.callWith_K (h₀:=X.base) I.ok.mod.kin hk (bN (ha pos pins s σ H _ I h) λus s1 ⟨vs,H1,I1,r,q⟩=>⟨I1.kIn,?_⟩) he hpl
 exact Ea F hr hb hd hx I1 r q
theorem Ey(F:FnOk X.prog X.w X.K X.mg X.base CX k f fd ps sp)(hr:Room k X.A)(hg:Gl X x)(hm:X.mg x=U (.ref f))(hk:W.keepIn X.K (.ref f)=true)(hb:Binds X.K fd ps ds)(hd:Vals dvs ds)(hx:uY CX X E)
  (hdb:(x==("__debug__":Str))=false:=by decide):PE X (.Call (.Name x p) [] [] pos) (vq sp dvs E tNil):=by
 intro pins s σ H Q I h
 refine Tk (lc I hg hm ?_ hdb)
 exact W.callWith_K0 I.kIn hk (Ea (us:=[]) F hr hb hd hx I .nil h)
end
structure aV(N P:List Str)(sc:Scope):Prop where
 kind:sc.kind=.function
 co:sc.isCoroutine=false
 gen:sc.isGenerator=false
 nd:N.Nodup
 pre:N.take P.length=P
 par:∀ x∈P,sc.names.lookup x=U .local\/sc.names.lookup x=U .cell
 nofree:∀ y∈sc.names,y.2≠.free
theorem su{kindOf:Str->Option NameKind}{x:Str}:∀ {binds:List (Str×Value)} {m:Str->Option Value},(∀ v,(x,v)∉binds)->bindL kindOf binds m x=m x
 | [],_,_=>rfl
 | (n,v)::r,m,h=>by
  unfold bindL
  rw[su λw hw=>h w (Rj _ hw)]
  split
  ·have:x≠n:=by rintro rfl;exact h v Rf
   simp[this]
  ·rfl
theorem sx{kindOf:Str->Option NameKind}{x:Str}:∀ {binds:List (Str×Value)} {m:Str->Option Value},(∀ v,(x,v)∉binds)->bindC kindOf binds m x=m x
 | [],_,_=>rfl
 | (n,v)::r,m,h=>by
  unfold bindC
  rw[sx λw hw=>h w (Rj _ hw)]
  split
  ·rfl
  ·have:x≠n:=by rintro rfl;exact h v Rf
   simp[this]
theorem sv{kindOf:Str->Option NameKind}{x:Str}{v:Value}:∀ {P:List Str} {vs:List Value} {i:Nat} {m:Str->Option Value},P.Nodup->P[i]?=U x->vs[i]?=U v->kindOf x=U .local ->
  bindL kindOf (P.zip vs) m x=U v
 | [],_,_,_,_,h,_,_=>by simp at h
 | _::_,[],_,_,_,_,h,_=>by simp at h
 | p::P,w::vs,0,m,nd,h1,h2,hk=>by
  simp at h1 h2;subst h1;subst h2
  show bindL kindOf ((p,w)::P.zip vs) m p=_
  unfold bindL
  rw[su λv hv=>(To.mp nd).1 (Vr hv).1,Ru hk]
  simp
 | p::P,w::vs,i+1,m,nd,h1,h2,hk=>by
  show bindL kindOf ((p,w)::P.zip vs) m x=_
  unfold bindL
  exact sv (i:=i) (To.mp nd).2 (by simpa using h1) (by simpa using h2) hk
theorem sy{kindOf:Str->Option NameKind}{x:Str}{v:Value}:∀ {P:List Str} {vs:List Value} {i:Nat} {m:Str->Option Value},P.Nodup->P[i]?=U x->vs[i]?=U v->kindOf x≠U .local ->
  bindC kindOf (P.zip vs) m x=U v
 | [],_,_,_,_,h,_,_=>by simp at h
 | _::_,[],_,_,_,_,h,_=>by simp at h
 | p::P,w::vs,0,m,nd,h1,h2,hk=>by
  simp at h1 h2;subst h1;subst h2
  show bindC kindOf ((p,w)::P.zip vs) m p=_
  unfold bindC
  rw[sx λv hv=>(To.mp nd).1 (Vr hv).1,RH hk]
  simp
 | p::P,w::vs,i+1,m,nd,h1,h2,hk=>by
  show bindC kindOf ((p,w)::P.zip vs) m x=_
  unfold bindC
  exact sy (i:=i) (To.mp nd).2 (by simpa using h1) (by simpa using h2) hk
noncomputable def start(N:List Str)(vs:List V):St:=vs.map U++List.replicate (N.length - vs.length) Y
noncomputable def nH(CX:Dj)(P:Program)(w:World)(K:W.Frag)(mg:Str->Option Value)(base:Heap)(N:List Str)(qual:Str)(scope:Scope)(f:Addr)(cd:Value)(A:Around)(outer:List Env)(s:Shared)(H:Hp)(E:XK):Cx where
 prog:=P
 w:=w
 K:=K
 mg:=mg
 base:=base
 A:=A.deeper (envOfC qual scope s.heap.objs.size f cd)
 N:=N
 s₀:=s
 H₀:=H
 env:=envOfC qual scope s.heap.objs.size f cd
 outer:=outer
 stack:=envOfC qual scope s.heap.objs.size f cd::outer
 ex:=[]
 calm:=true
 fn:=λ_=>true
 pn:=[]
 xe:=λe s'=>wpAny (model P w) (A.deeper (envOfC qual scope s.heap.objs.size f cd)) (leaving (envOfC qual scope s.heap.objs.size f cd) e) (λ_ s''=>CX outer H s E e s'') (λe' s''=>CX outer H s E e' s'') s'
theorem xH{sc:Scope}(h:sc.names.lookup x=U .cell):∃ c,(cellsFrom n sc.names []).lookup x=U c:=by
 have q:=W.cellsFrom_some sc.names n [] (.inl h)
 exact SO.mp q
theorem BY{K:W.Frag}{A:Around}{s:Shared}{vs:List V}
  (S:aV N ps scope) (hd:A.handled=Y) (e0:Env0 P w K mg base A outer s H) (hl:vs.length=ps.length) (r:Vals vs us)
  (x:InCallC s s.heap.objs.size (bindL (envOfC qual scope s.heap.objs.size f cd).kindOf (ps.zip us) λ_=>Y) (cellsFrom (s.heap.objs.size+1) scope.names []) (bindC (envOfC qual scope s.heap.objs.size f cd).kindOf (ps.zip us) λ_=>Y) s1) :
  Inv (nH CX P w K mg base N qual scope f cd A outer s H E) [] (start N vs) H s1:=by
 have hpl:ps.length<=N.length:=by have:=congrArg List.length S.pre;rw[Tf] at this;omega
 obtain⟨h1,tk,rfl,hk⟩:=x.done
 have noA:∀ b:Addr,b∉(nH CX P w K mg base N qual scope f cd A outer s H E).ex:=λb z=>absurd (show b∈([]:List Addr) from z) (by simp)
 refine⟨⟨e0.mod,S.kind,rfl,rfl,Rn _,λy z c h1 h2=>?_,λy hy=>?_,λy c _ h=>?_,λ_=>hd,Around.frames_deeper e0.frames,.inr ⟨rfl,rfl⟩,λb z=>absurd z (noA b),e0.bs,e0.bsz,λb _ _=>noA b,λb z=>absurd z (noA b),e0.funs,e0.frf⟩,
  rfl,e0.bare,Un.kept hk,⟨_,x.toInCall.ns,λi y v h1 h2 h3=>?_⟩,λy c h=>⟨_,x.cell y c h⟩,e0.hok.fresh (Rn _),λy c h=>?_,λp hp=>absurd (show p∈([]:List (Addr×Obj)) from hp) (by simp),e0.hok.kept hk,?_⟩
 ·exact name_of_addr x.apart (Sr h1) (Sr h2)
 ·have hy:scope.names.lookup y=U .cell\/scope.names.lookup y=U .free:=hy
  rcases hy with hy | hy
  ·exact xH hy
  ·exact absurd rfl (S.nofree _ (Sr hy))
 ·exact UX (x.above y c (Sr h))
 ·have hi:i<vs.length:=by
   unfold start at h2
   by_cases hi:i<vs.length
   ·exact hi
   ·rw[So (by simpa using hi)] at h2
    rw[List.getElem?_replicate] at h2
    split at h2<;>cases h2
  have ha:vs[i]?=U v:=by
   unfold start at h2
   rw[Rx (by simpa using hi),SA] at h2
   cases e:vs[i]? with
   | none=>rw[e] at h2;cases h2
   | some a=>rw[e] at h2;cases h2;rfl
  obtain⟨u,hu,rv⟩:=r.get ha
  have hp:ps[i]?=U y:=by
   rw[<- S.pre,VG (by omega)];exact h1
  have ndP:ps.Nodup:=by rw[<- S.pre];exact S.nd.sublist (List.take_sublist _ _)
  refine⟨u,rv,?_⟩
  rcases S.par y (RR hp) with k | k
  ·exact .inl ⟨k,sv ndP hp hu k⟩
  ·obtain⟨c,e⟩:=xH (n:=s.heap.objs.size+1) k
   refine .inr ⟨.inl k,c,e,?_⟩
   have q:=x.cell y c e
   rw[sy ndP hp hu (by show scope.names.lookup y≠_;rw[k];decide)] at q
   exact q
 ·exact e0.hok.fresh (UX (x.above y c (Sr h)))
 ·unfold start
  show _=N.length
  rw[Rz,Rt,List.length_replicate]
  omega
theorem Gj{K:W.Frag}{k:Nat}{kV oc:Value}{od:Option Addr}
  {osl:Array (Option Value)} {sp:Sp} (lk:K.lookup f=U ⟨oc,od,.func (W.fnOf name qual params body scope dV kV doc pm an cdv ct),osl⟩) (hcd:W.codeIn K cdv qual=true) (S:aV N ps scope)
  (len:∀ vs H Q E,sp vs H Q E->vs.length=ps.length)
  (hbody:∀ (A:Around) (outer:List Env) (s:Shared) (H:Hp) (vs:List V) (Q:VK) (E:XK),Room k (A.deeper (envOfC qual scope s.heap.objs.size f cdv))->sp vs H Q E ->
   ∃ t,PSs (nH CX P w K mg base N qual scope f cdv A outer s H E) body t/\t { nx:=λ_ H'=>Q .non H',rt:=Q } (start N vs) H) :
  FnOk P w K mg base CX (k+1) f (W.fnOf name qual params body scope dV kV doc pm an cdv ct) ps sp:=by
 refine⟨len,λA outer s H args us vs Q E hr e0 hb r hsp=>?_⟩
 have hl:=len _ _ _ _ hsp
 have KX:K.In s.heap:=e0.mod.kin.keeps λb o e=>(e0.bs b o e).1
 have lim:s.heap.NoLimit:=e0.mod.nolimit.keeps λb o e=>(e0.bs b o e).1
 have hkind:∀ y∈ps.zip us,scope.names.lookup y.1=U .local\/(scope.names.lookup y.1=U .cell/\((cellsFrom (s.heap.objs.size+1) scope.names []).lookup y.1).isSome=true):=λ⟨n,v⟩ hy=>by
  rcases S.par n (Vr hy).1 with q | q
  ·exact .inl q
  ·exact .inr ⟨q,W.cellsFrom_some _ _ _ (.inl q)⟩
 refine codeAny_call_function hr.depth (KX _ _ lk) rfl S.co S.gen rfl (W.codeRec_of KX hcd) (hb _ _ _ _ ?_)
 refine wpAny_newFunctionEnv_cells S.kind hkind λenv he s1 x=>?_
 subst he
 refine⟨lim.keeps x.toInCall.keep,codeAny_func ?_⟩
 obtain⟨t,ht,hq⟩:=hbody A outer s H vs Q E (hr.deeper _) hsp
 have I:Inv (nH CX P w K mg base N qual scope f cdv A outer s H E) [] (start N vs) H s1:=BY S hr.hd e0 hl r x
 refine RF (ht [] s1 (start N vs) H _ I hq) (λfl s' hs=>?_) λe s' hs=>hs
 have fin:∀ {σ':St} {H':Hp} {v:V} {u:Value},Inv (nH CX P w K mg base N qual scope f cdv A outer s H E) [] σ' H' s'->RelV v u->Q v H'->CE outer P w H s Q u s':=
  λ{σ' H' v u} J rv q=>⟨v,H',J.os,J.bare,J.base,J.hok,rv,q⟩
 cases fl with
 | ret u=>
  obtain⟨v,σ',H',J,rv,q⟩:=hs
  exact fin J rv q
 | next=>
  obtain⟨σ',H',J,q⟩:=hs
  exact fin (v:=V.non) (u:=Value.none) J rfl q
 | brk=>
  obtain⟨_,_,_,q⟩:=hs
  exact False.elim q
 | cont=>
  obtain⟨_,_,_,q⟩:=hs
  exact False.elim q
section
variable{X:Cx}{x:Str}{p pos:Pos}{e:Expr}{es:List Expr}{t:TA}{id T:String}{r:List V->Hp->VK->Prop}
noncomputable def tCB(r:List V->Hp->VK->Prop)(t:TA):TE:=λσ H Q=>t σ H λvs H1=>r vs H1 Q
theorem kN(hc:CallR X (.builtin id) r)(hg:Gl X x)(hm:X.mg x=Y)(hv:bootBuiltins x=U (.builtin id))(ha:PA X (e::es) t)(hn:x≠"__name__":=by decide)(hdb:(x==("__debug__":Str))=false:=by decide)
  (he:starEach (e::es) X.env=(false,eval e X.env)::starEach es X.env:=by rfl) (hpl:(backTo pos (starEach es X.env)).any (·.1)=false:=by rfl):PE X (.Call (.Name x p) (e::es) [] pos) (tCB r t):=by
 intro pins s σ H Q I h
 refine Tk (gQ I hg hm hv ?_ hn hdb)
 exact PyProof.Rows.callWith_builtin1 (bN (ha pos pins s σ H _ I h) λus s1 ⟨vs,H1,I1,r1,q1⟩=>hc pins s1 σ H1 vs us Q I1 r1 q1) he hpl
theorem Bz(hc:CallR X (.type T) r)(hg:Gl X x)(hm:X.mg x=Y)(hv:bootBuiltins x=U (.type T))(ha:PA X (e::es) t)(hn:x≠"__name__":=by decide)(hdb:(x==("__debug__":Str))=false:=by decide)
  (he:starEach (e::es) X.env=(false,eval e X.env)::starEach es X.env:=by rfl) (hpl:(backTo pos (starEach es X.env)).any (·.1)=false:=by rfl):PE X (.Call (.Name x p) (e::es) [] pos) (tCB r t):=by
 intro pins s σ H Q I h
 refine Tk (gQ I hg hm hv ?_ hn hdb)
 exact RZ (bN (ha pos pins s σ H _ I h) λus s1 ⟨vs,H1,I1,r1,q1⟩=>hc pins s1 σ H1 vs us Q I1 r1 q1) he hpl
end
end L2
namespace HT
section
variable{prog:Program}{w:World}{A:Around}{E:Value->Shared->Prop}{s:Shared}
theorem Lq{vs ws:List Value}{Q:Value->Shared->Prop}(ht:IsTup s.heap t vs.toArray)(hb:IsTup s.heap b ws.toArray)(hv:vs≠[])
  (h1:ws=[]->Q (.ref t) s) (h2:ws≠[]->Q (.ref s.heap.objs.size) { s with heap:=s.heap.push { cls:=.type "tuple",data:=.seq (vs++ws).toArray } })
  (hsz:vs.length+ws.length<=sizeLine):wpAny (model prog w) A (binaryOp .Add (.ref t) (.ref b)) Q E s:=by
 obtain⟨⟨cls,dd,data,sl⟩,ho,hc,n,hd⟩:=id ht
 obtain⟨⟨cls2,dd2,data2,sl2⟩,ho2,hc2,n2,hd2⟩:=id hb
 simp only at hc hd hc2 hd2
 subst hc hd hc2 hd2
 have e:vs.toArray++ws.toArray=(vs++ws).toArray:=by simp
 by_cases hw:ws=[]
 ·exact VW ⟨_,ho,rfl⟩ ⟨_,ho2,rfl⟩ UZ VL Ve US (UL _ _)
   (tuple_addW1 t b vs.toArray ws.toArray n n2 dd dd2 sl sl2 (by simpa using hv) (by simp[hw])) ⟨ho,ho2,h1 hw⟩
 ·refine VW ⟨_,ho,rfl⟩ ⟨_,ho2,rfl⟩ UZ VL Ve US (UL _ _)
   (tuple_addW2 t b vs.toArray ws.toArray n n2 dd dd2 sl sl2 (by simpa using hv) (by simpa using hw) (by rw[Rk,Rk];exact hsz)) ⟨ho,ho2,?_⟩
  rw[e]
  exact h2 hw
noncomputable def dF(n d:Nat):Option Int->Nat
 | none=>d
 | some v=>if v<0 then(v+(n:Int)).toNat else min v.toNat n
theorem NB(n d:Nat)(hd:d<=n)(o:Option Int):dF n d o<=n:=by
 cases o with
 | none=>exact hd
 | some v=>
  show(if v<0 then(v+(n:Int)).toNat else min v.toNat n)<=n
  by_cases hv:v<0
  ·rw[Ru hv];omega
  ·rw[RH hv];exact Nat.min_le_right _ _
theorem Bb(v:Int)(n d:Nat):(if v<0 then max (v+(n:Int)) 0 else min v (n:Int))=((dF n d (U v):Nat):Int):=by
 show(if v<0 then max (v+(n:Int)) 0 else min v (n:Int))=(((if v<0 then(v+(n:Int)).toNat else min v.toNat n):Nat):Int)
 by_cases hv:v<0
 ·simp only[Ru hv];omega
 ·simp only[RH hv];omega
theorem zJ(lo hi:Option Int)(n:Nat):Builtin.Slice.sliceAdjust lo hi 1 (n:Int)=(((dF n 0 lo:Nat):Int),((dF n n hi:Nat):Int)):=by
 have h1:¬ ((1:Int)<0):=by omega
 unfold Builtin.Slice.sliceAdjust
 simp only[h1,TV]
 refine Prod.ext ?_ ?_
 ·cases lo with
  | none=>rfl
  | some v=>exact Bb v n 0
 ·cases hi with
  | none=>rfl
  | some v=>exact Bb v n n
theorem yn(i j:Nat):Builtin.Slice.slicePlaces (i:Int) (j:Int) 1=j - i:=by
 unfold Builtin.Slice.slicePlaces
 have h1:(1:Int)>0:=by omega
 simp only[h1,Uo,VZ]
 split<;>omega
theorem oE{Q:Option Int->Shared->Prop}(p:IsPart v o)(h:Q o s):wpAny (model prog w) A (Builtin.Slice.slicePartIndex v) Q E s:=by
 cases p with
 | none=>exact Uz h
 | int i t=>exact slicePart_int h
theorem gU{lo:Option Int}{n:Nat}{Q:Int×Int×Nat->Shared->Prop}(hs:s.heap.IsSliceOf sl vl vu .none)(pl:IsPart vl lo)(pu:IsPart vu hi)
  (h:Q (((dF n 0 lo:Nat):Int),1,dF n n hi - dF n 0 lo) s):wpAny (model prog w) A (Builtin.Slice.sliceApplied (.ref sl) (pure (n:Int))) Q E s:=by
 obtain⟨os,hos,hcs,hds⟩:=id hs
 unfold Builtin.Slice.sliceApplied Builtin.Slice.sliceFields
 refine Rc (Rc (RO hos hds (x:=vl) rfl (Rc (RO hos hds (x:=vu) rfl (Rc (RO hos hds (x:=.none) rfl (Rh ?_)))))))
 refine Rc (Uz ?_)
 show wpAny _ _ (if ((1:Int)==0)=true then _ else _) _ _ s
 rw[RH (by decide)]
 refine Rc (oE pl (Rc (oE pu (Rc (Rh ?_)))))
 show wpAny _ _ (match Builtin.Slice.sliceAdjust lo hi 1 (n:Int) with | (lo,hi)=>pure (lo,(1:Int),Builtin.Slice.slicePlaces lo hi 1)) _ _ s
 rw[zJ lo hi n]
 show wpAny _ _ (pure (((dF n 0 lo:Nat):Int),(1:Int),Builtin.Slice.slicePlaces ((dF n 0 lo:Nat):Int) ((dF n n hi:Nat):Int) 1)) _ _ s
 rw[yn]
 exact Rh h
theorem El(xs:Array Value)(i k:Nat):((List.range k).filterMap λ(m:Nat)=>xs[((i:Int)+(m:Int)*1).toNat]?).toArray=((xs.toList.drop i).take k).toArray:=by
 have e:(λ(m:Nat)=>xs[((i:Int)+(m:Int)*1).toNat]?)=λm=>xs[i+m]?:=by
  funext m
  have:((i:Int)+(m:Int)*1).toNat=i+m:=by omega
  rw[this]
 rw[e]
 have:=pick_run xs i k
 rw[Wo] at this
 have e2:((λx=>xs[x]?) ∘ λx=>i+x)=λm=>xs[i+m]?:=rfl
 rw[e2] at this
 rw[this]
theorem ll{lo:Option Int}{Q:Value->Shared->Prop}(ht:IsTup s.heap t items)(hs:s.heap.IsSliceOf sl vl vu .none)(pl:IsPart vl lo)(pu:IsPart vu hi)
  (hw:¬ (dF items.size 0 lo=0/\dF items.size items.size hi=items.size))
  (h:Q (.ref s.heap.objs.size) { s with heap:=s.heap.push { cls:=.type "tuple",data:=.seq ((items.toList.drop (dF items.size 0 lo)).take (dF items.size items.size hi - dF items.size 0 lo)).toArray } })
  (hsz:items.size<=sizeLine):wpAny (model prog w) A (getItem (.ref t) (.ref sl)) Q E s:=by
 have htake:sizeOk (.seq ((items.toList.drop (dF items.size 0 lo)).take (dF items.size items.size hi - dF items.size 0 lo)).toArray):=by
  show((items.toList.drop (dF items.size 0 lo)).take (dF items.size items.size hi - dF items.size 0 lo)).toArray.size<=sizeLine
  rw[Rk,Tf,Tg,SD]
  omega
 have hj:dF items.size items.size hi<=items.size:=NB _ _ (Rn _) hi
 obtain⟨os,hos,hcs,hds⟩:=id hs
 have hTs:s.TypeIs (.ref sl) "slice":=⟨os,hos,hcs⟩
 unfold getItem
 try with_reducible refine RX ?_
 first | refine Rc (Rh ?_) | skip
 refine Rc (UO ht.typeIs (by decide) ?_)
 refine Rc (Sh (name:=Str.ofString "__getitem__") ht.typeIs Si
  (SE Si ht.typeIs UB ?_ (UE _ _)))
 show wpAny _ _ (Builtin.Tuple.tupleItemsOf (.ref t) >>= _) _ _ s
 refine Rc (VI ht ?_)
 refine Rc (UV hTs ?_)
 rw[Ru (by decide)]
 refine Rc (gU hs pl pu ?_)
 have hno:¬ ((((dF items.size 0 lo:Nat):Int)==0&&(1:Int)==1&&(dF items.size items.size hi - dF items.size 0 lo)==items.size)=true):=by
  intro q
  rw[Rg,Rg] at q
  have q1:((dF items.size 0 lo:Nat):Int)=0:=eq_of_beq q.1.1
  have q2:dF items.size items.size hi - dF items.size 0 lo=items.size:=eq_of_beq q.2
  exact hw ⟨by omega,by omega⟩
 show wpAny _ _ (if (((dF items.size 0 lo:Nat):Int)==0&&(1:Int)==1&&(dF items.size items.size hi - dF items.size 0 lo)==items.size)=true then _ else _) _ _ s
 rw[RH hno,El]
 first
  | exact Rc (m:=Builtin.Tuple.tupleExact _) (RM (Rh ⟨_,rfl,Rh h⟩) htake)
  | exact Rc (m:=Builtin.Tuple.tupleExact _) (RM (Rc (Rh (Rh ⟨_,rfl,Rh h⟩))) htake)
  | exact Rc (Rc (m:=Builtin.Tuple.tupleExact _) (RM (Rh (Rh ⟨_,rfl,Rh h⟩)) htake))
  | exact Rc (Rc (m:=Builtin.Tuple.tupleExact _) (RM (Rh ⟨_,rfl,Rh h⟩) htake))
end
end HT
namespace L2
noncomputable abbrev TO:=St->Hp->(Option Int->Hp->Prop)->Prop
noncomputable def PO(X:Cx)(e:Option Expr)(t:TO):Prop:=
 ∀ (pins:List (Addr×Obj)) (s:Shared) (σ:St) (H:Hp) (Q:Option Int->Hp->Prop),Inv X pins σ H s->t σ H Q ->
  wpAny (model X.prog X.w) X.A (evalPart e X.env) (λu s'=>∃ o H',Inv X pins σ H' s'/\IsPart u o/\Q o H') X.xe s
noncomputable def Iz:TO:=λ_ H Q=>Q Y H
noncomputable def tPart(t:TE):TO:=λσ H Q=>t σ H λx H1=>∃ i,x=.int i/\Q (U i) H1
section
variable{X:Cx}{e:Expr}{te:TE}{lo hi:Option Expr}{tl th:TO}{pos p2:Pos}
theorem Je:PO X Y Iz:=by
 intro pins s σ H Q I h
 rw[UC]
 exact Rh ⟨Y,H,I,.none,h⟩
theorem Jd(h:PE X e te):PO X (U e) (tPart te):=by
 intro pins s σ H Q I hw
 rw[evalPart_some]
 refine bN (h pins s σ H _ I hw) λu s1 ⟨x,H1,I1,r1,q1⟩=>?_
 obtain⟨i,rfl,q⟩:=q1
 obtain⟨t,rfl⟩:=r1
 exact⟨U i,H1,I1,.int i t,q⟩
noncomputable def SlR(X:Cx)(r:V->Option Int->Option Int->Hp->VK->Prop):Prop:=
 ∀ (pins:List (Addr×Obj)) (s:Shared) (σ:St) (H:Hp) (x:V) (v vl vu:Value) (lo hi:Option Int) (sl:Addr) (Q:VK),Inv X pins σ H s->RelV x v->s.heap.IsSliceOf sl vl vu .none->IsPart vl lo->IsPart vu hi->r x lo hi H Q ->
  ∃ T id,typeLookup (.type T) "__getitem__" = pure (U (.builtin id))/\s.TypeIs v T/\wpAny (model X.prog X.w) X.A (getItem v (.ref sl)) (EP X pins σ Q) X.xe s
theorem SlR.or(h:SlR X r)(h':SlR X r'):SlR X (λx lo hi H Q=>r x lo hi H Q\/r' x lo hi H Q):=by
 intro pins s σ H x v vl vu lo hi sl Q I rx hs pl pu q
 rcases q with q | q
 ·exact h pins s σ H x v vl vu lo hi sl Q I rx hs pl pu q
 ·exact h' pins s σ H x v vl vu lo hi sl Q I rx hs pl pu q
noncomputable def tSl(r:V->Option Int->Option Int->Hp->VK->Prop)(te:TE)(tl th:TO):TE:=λσ H Q=>te σ H λx H1=>tl σ H1 λl H2=>th σ H2 λu H3=>r x l u H3 Q
theorem vN(hr:SlR X r)(he:PE X e te)(hl:PO X lo tl)(hu:PO X hi th):PE X (.Subscript e (.Slice lo hi Y p2) pos) (tSl r te tl th):=by
 intro pins s σ H Q I h
 refine VE (bN (he pins s σ H _ I h) λv s1 ⟨x,H1,I1,r1,q1⟩=>?_)
 refine Wj (bN (hl pins s1 σ H1 _ I1 q1) λvl s2 ⟨l,H2,I2,pl,q2⟩=>bN (hu pins s2 σ H2 _ I2 q2) λvu s3 ⟨u,H3,I3,pu,q3⟩=>?_)
 rw[UC]
 refine Rh ?_
 have I4:Inv X pins σ H3 { s3 with heap:=s3.heap.push { cls:=.type "slice",data:=.fields #[vl,vu,.none] } }:=I3.kept (t':=s3.toks) λb ob q=>Re _ q
 obtain⟨T,id,hT,ht,hg⟩:=hr pins { s3 with heap:=s3.heap.push { cls:=.type "slice",data:=.fields #[vl,vu,.none] } } σ H3 x v vl vu l u s3.heap.objs.size Q I4 r1 (UK ..) pl pu q3
 show wpAny (model X.prog X.w) X.A (subscriptTail e (.Slice lo hi Y p2) v (.ref s3.heap.objs.size)) (EP X pins σ Q) X.xe { s3 with heap:=s3.heap.push { cls:=.type "slice",data:=.fields #[vl,vu,.none] } }
 exact VJ (ops:=[.ref s3.heap.objs.size,v]) ht hT hg (by with_unfolding_all rfl)
noncomputable def xE(xs:List V)(lo hi:Option Int):List V:=(xs.drop (HT.dF xs.length 0 lo)).take (HT.dF xs.length xs.length hi - HT.dF xs.length 0 lo)
theorem nu(xs:List V)(lo hi:Option Int):(xE xs lo hi).length<=xs.length:=by
 unfold xE
 rw[Tf,Tg]
 omega
noncomputable def rSlT(K:W.Frag):V->Option Int->Option Int->Hp->VK->Prop:=λx lo hi H Q=>∃ a xs,x=.ref a/\iP K H a xs /\
 ¬ (HT.dF xs.length 0 lo=0/\HT.dF xs.length xs.length hi=xs.length)/\∀ p,H p=Y->Q (.ref p) (upd H p (.tup (xE xs lo hi)))
theorem Nv:SlR X (rSlT X.K):=by
 intro pins s σ H x v vl vu lo hi sl Q I rx hs pl pu h
 obtain⟨a,xs,rfl,hx,hw,q⟩:=h
 cases rx
 obtain⟨its,r,ht,hz⟩:=I.tuple hx
 have hlen:its.toArray.size=xs.length:=by rw[Rk];exact r.length.symm
 refine⟨"tuple",_,PyProof.Rows.slot_tuple_getitem.lookup,ht.typeIs,?_⟩
 refine HT.ll ht hs pl pu (by rw[hlen];exact hw) ?_ (by rw[hlen];exact hz)
 rw[hlen]
 refine⟨.ref s.heap.objs.size,_,I.laid (t':=s.toks) (o:=.tup (xE xs lo hi)) (λb ob q=>Re _ q) (Rn _) ?_,rfl,q _ (I.hok.fresh (Rn _))⟩
 exact⟨RG (nu xs lo hi) hz,_,(r.drop (HT.dF xs.length 0 lo)).take (HT.dF xs.length xs.length hi - HT.dF xs.length 0 lo),IsTupN.new _ _⟩
noncomputable def rCatT(K:W.Frag):R2:=λx y H Q=>∃ a b xs ys,x=.ref a/\y=.ref b/\iP K H a xs/\iP K H b ys/\xs≠[]/\xs.length+ys.length<=sizeLine /\
 (ys=[]->Q (.ref a) H)/\(ys≠[]->∀ p,H p=Y->Q (.ref p) (upd H p (.tup (xs++ys))))
theorem Vals.nil_iff(r:Vals xs us):us=[]↔xs=[]:=by
 cases r with
 | nil=>simp
 | cons _ _=>simp
theorem Jv:OpR X (binaryOp .Add) (rCatT X.K):=by
 intro pins s σ H x y v u Q I rx ry h
 obtain⟨a,b,xs,ys,rfl,rfl,ha,hb,hx,hz,q1,q2⟩:=h
 cases rx
 cases ry
 obtain⟨its,r1,p1,_⟩:=I.tuple ha
 obtain⟨its2,r2,p2,_⟩:=I.tuple hb
 refine HT.Lq p1 p2 (λz=>hx (r1.nil_iff.mp z)) (λz=>⟨.ref a,H,I,rfl,q1 (r2.nil_iff.mp z)⟩) (λz=>?_) (by rw[<- r1.length,<- r2.length];exact hz)
 refine⟨.ref s.heap.objs.size,_,I.laid (t':=s.toks) (o:=.tup (xs++ys)) (λb ob q=>Re _ q) (Rn _) ?_,rfl,q2 (λw=>z (r2.nil_iff.mpr w)) _ (I.hok.fresh (Rn _))⟩
 exact⟨by rw[Rz];exact hz,_,r1.append r2,IsTupN.new _ _⟩
end
noncomputable def yX(n:Nat)(i:Int):Option Nat:=if 0<=i then(if i<n then U i.toNat else Y) else if -(n:Int)<=i then U (i+n).toNat else Y
noncomputable def oo{α:Type}(xs:List α)(i:Int):Option α:=(yX xs.length i).bind λj=>xs[j]?
theorem AD{j:Nat}(h:yX n i=U j):seqIndex? i n=U j/\j<n/\-(n:Int)<=i/\i<n:=by
 unfold yX at h
 by_cases h0:0<=i
 ·rw[Ru h0] at h
  by_cases h1:i<n
  ·rw[Ru h1] at h
   have e:i.toNat=j:=RJ h
   exact⟨by rw[Wk h0 h1,e],by omega,by omega,h1⟩
  ·rw[RH h1] at h;cases h
 ·rw[RH h0] at h
  by_cases h1:-(n:Int)<=i
  ·rw[Ru h1] at h
   have e:(i+n).toNat=j:=RJ h
   exact⟨by rw[VU (by omega) h1,e],by omega,h1,by omega⟩
  ·rw[RH h1] at h;cases h
theorem Bd{α:Type}{xs:List α}{i:Int}{v:α}(h:oo xs i=U v):∃ j,seqIndex? i xs.length=U j/\xs[j]?=U v/\j<xs.length/\-(xs.length:Int)<=i/\i<xs.length:=by
 unfold oo at h
 cases e:yX xs.length i with
 | none=>rw[e] at h;cases h
 | some j=>
  rw[e] at h
  obtain⟨h1,h2,h3,h4⟩:=AD e
  exact⟨j,h1,h,h2,h3,h4⟩
noncomputable def oq(b:Expr):Prop:=∀ o i,subscripted b false o i=operate [o,i] (getItem o i)
noncomputable def IxR(X:Cx)(r:R2):Prop:=
 ∀ (value slice:Expr) (pins:List (Addr×Obj)) (s:Shared) (σ:St) (H:Hp) (x y:V) (v u:Value) (Q:VK),Inv X pins σ H s->RelV x v->RelV y u->r x y H Q ->
  subscripted slice false v u=operate [v,u] (getItem v u)->wpAny (model X.prog X.w) X.A (subscriptTail value slice v u) (EP X pins σ Q) X.xe s
noncomputable def MtR(X:Cx)(id:String)(r:V->List V->Hp->VK->Prop):Prop:=
 ∀ (pins:List (Addr×Obj)) (s:Shared) (σ:St) (H:Hp) (x:V) (xs:List V) (v:Value) (us:List Value) (Q:VK),Inv X pins σ H s->RelV x v->Vals xs us->r x xs H Q ->
  wpAny (model X.prog X.w) X.A (call (.builtin id) (v::us)) (EP X pins σ Q) X.xe s
section
variable{X:Cx}{a b:Expr}{ta tb:TE}{pos:Pos}
theorem IxR.or(h:IxR X r)(h':IxR X r'):IxR X (λx y H Q=>r x y H Q\/r' x y H Q):=by
 intro value slice pins s σ H x y v u Q I rx ry q hs
 rcases q with q | q
 ·exact h value slice pins s σ H x y v u Q I rx ry q hs
 ·exact h' value slice pins s σ H x y v u Q I rx ry q hs
theorem LW(hr:IxR X r)(ha:PE X a ta)(hb:PE X b tb)(hs:oq b):PE X (.Subscript a b pos) (tOp r ta tb):=by
 intro pins s σ H Q I h
 exact VE (QK ha hb I h λv u s2 x y H2 I2 rx ry q=>hr a b pins s2 σ H2 x y v u Q I2 rx ry q (hs _ _))
noncomputable def rIxL(K:W.Frag):R2:=λx y H Q=>∃ p xs i v,x=.ref p/\y=.int i/\gT K H p xs/\oo xs i=U v/\Q v H
noncomputable def rIxT(K:W.Frag):R2:=λx y H Q=>∃ p xs i v,x=.ref p/\y=.int i/\iP K H p xs/\oo xs i=U v/\Q v H
theorem ix_list:IxR X (rIxL X.K):=by
 intro value slice pins s σ H x y v u Q I rx ry h hs
 obtain⟨p,xs,i,z,rfl,rfl,hq,he,q⟩:=h
 cases rx
 obtain⟨t,rfl⟩:=ry
 obtain⟨its,r,pl,hz⟩:=I.list hq
 obtain⟨j,h1,h2,h3,h4,h5⟩:=Bd he
 obtain⟨w,ew,rw'⟩:=r.get h2
 have hl:=r.length
 have hn:=lY
 have fin:EP X pins σ Q w s:=⟨z,H,I,rw',q⟩
 by_cases h0:0<=i
 ·have hj:i.toNat=j:=by
   rw[Wk h0 h5] at h1
   exact RJ h1
  exact item_listR pl.isList h0 (by omega) (by rw[hj];simpa using ew) fin hs
 ·have hj:(i+(its.toArray.size:Int)).toNat=j:=by
   rw[VU (by omega) h4] at h1
   rw[Rk,<- hl]
   exact RJ h1
  exact VQ (x:=w) pl.isList.typeIs slot_list_getitem.lookup
   (wpAny_getItem_list_neg (Q:=λr s'=>r=w/\EP X pins σ Q r s') pl.isList (by omega) (by rw[Rk]<;>omega) (by omega) (by rw[hj];simpa using ew) ⟨rfl,fin⟩) hs
theorem Pv:IxR X (rIxT X.K):=by
 intro value slice pins s σ H x y v u Q I rx ry h hs
 obtain⟨p,xs,i,z,rfl,rfl,hq,he,q⟩:=h
 cases rx
 obtain⟨t,rfl⟩:=ry
 obtain⟨its,r,pl,hz⟩:=I.tuple hq
 obtain⟨j,h1,h2,h3,h4,h5⟩:=Bd he
 obtain⟨w,ew,rw'⟩:=r.get h2
 have hl:=r.length
 have hn:=lY
 have fin:EP X pins σ Q w s:=⟨z,H,I,rw',q⟩
 exact VQ (x:=w) pl.typeIs slot_tuple_getitem.lookup
  (getItem_tuple (j:=j) (Q:=λr s'=>r=w/\EP X pins σ Q r s') pl (by omega) (by omega) (by rw[Rk,<- hl];exact h1) (by simpa using ew) ⟨rfl,fin⟩) hs
theorem yA(its:List Value)(n j:Nat)(u:Value):Obj.mapSeq (·.setIfInBounds j u) { cls:=.type "list",data:=.seq its.toArray n } = { cls:=.type "list",data:=.seq (its.set j u).toArray n }:=by
 simp[Obj.mapSeq]
theorem Inv.lst{s:Shared}(I:Inv X pins σ H s)(h:H p=U (.lst xs)) :
  ∃ (its:List Value) (n:Nat),Vals xs its/\s.heap.get? p=U { cls:=.type "list",data:=.seq its.toArray n }/\xs.length<=sizeLine:=by
 obtain⟨z,its,n,r,e⟩:=I.hok p _ h
 exact⟨its,n,r,e,z⟩
theorem Inv.lstUpd{s:Shared}{its its':List Value}{f:Obj->Obj}(I:Inv X pins σ H s)(h:H p=U (.lst xs))
  (ho:s.heap.get? p=U { cls:=.type "list",data:=.seq its.toArray n }) (hf:f { cls:=.type "list",data:=.seq its.toArray n } = { cls:=.type "list",data:=.seq its'.toArray n' }) (r:Vals ys its') (hz:ys.length<=sizeLine) (t:Nat) :
  Inv X pins σ (upd H p (.lst ys)) { s with heap:=s.heap.update p f,toks:=t }:=by
 have e:(s.heap.update p f).get? p=U { cls:=.type "list",data:=.seq its'.toArray n' }:=by
  rw[RK f ho (by rw[hf]<;>rfl),hf]
 refine I.write (x:=p) (e:=p) (by rw[h];trivial) (.inl rfl) (λb u hb q=>(RA _ _ (Ne.symm hb)).trans q) ⟨_,e⟩ ?_
 exact⟨hz,its',n',r,e⟩
noncomputable def rSetL:V->V->V->Hp->(Hp->Prop)->Prop:=λo i v H Q=>∃ p xs k j,o=.ref p/\i=.int k/\H p=U (.lst xs)/\yX xs.length k=U j/\Q (upd H p (.lst (xs.set j v)))
theorem DN:QW X rSetL:=by
 intro pins s σ H o i v ov iv u Q I ro ri rv h
 obtain⟨p,xs,k,j,rfl,rfl,hp,hj,q⟩:=h
 cases ro
 obtain⟨t,rfl⟩:=ri
 obtain⟨its,n,r,ho,hz⟩:=I.lst hp
 obtain⟨h1,h2,h3,h4⟩:=AD hj
 have hl:=r.length
 have hn:=lY
 have I':Inv X pins σ (upd H p (.lst (xs.set j v))) { s with heap:=s.heap.update p (Obj.mapSeq (·.setIfInBounds j u)) }:=
  I.lstUpd hp ho (yA its n j u) (r.set rv j) (by rw[Vs];exact hz) s.toks
 by_cases h0:0<=k
 ·have hk:k.toNat=j:=by
   rw[Wk h0 h4] at h1
   exact RJ h1
  exact W.ki_setAt ho h0 (by omega) (by rw[Rk,<- hl];exact h4) (by rw[hk];exact⟨_,I',q⟩)
 ·have hk:(k+(its.toArray.size:Int)).toNat=j:=by
   rw[VU (by omega) h3] at h1
   rw[Rk,<- hl]
   exact RJ h1
  exact W.ki_setBack ho (by omega) (by rw[Rk,<- hl];exact h3) (by omega) (by rw[hk];exact⟨_,I',q⟩)
theorem sP(lo hi:Option Int)(n:Nat):(sliceBounds lo hi Y n).1=((HT.dF n 0 lo:Nat):Int)/\(sliceBounds lo hi Y n).2.1=((HT.dF n n hi:Nat):Int)/\(sliceBounds lo hi Y n).2.2=1:=by
 refine⟨?_,?_,rfl⟩
 ·cases lo with
  | none=>simp[sliceBounds,HT.dF]
  | some i=>
   simp only[sliceBounds,HT.dF,Option.getD_none,show(1:Int)>0 by decide,Uo]
   by_cases h:i<0
   ·simp only[h,Uo]<;>omega
   ·simp only[h,TV]<;>omega
 ·cases hi with
  | none=>simp[sliceBounds,HT.dF]
  | some i=>
   simp only[sliceBounds,HT.dF,Option.getD_none,show(1:Int)>0 by decide,Uo]
   by_cases h:i<0
   ·simp only[h,Uo]<;>omega
   ·simp only[h,TV]<;>omega
theorem qp(its:List Value)(lo hi:Option Int):slicePick its.toArray lo hi Y=((its.drop (HT.dF its.length 0 lo)).take (HT.dF its.length its.length hi - HT.dF its.length 0 lo)).toArray:=by
 obtain⟨h1,h2,h3⟩:=sP lo hi its.toArray.size
 unfold slicePick
 rw[h1,h2,h3]
 simp only[sliceRange_one,pick_run,Rk]<;>rfl
noncomputable def rSlL(K:W.Frag):V->Option Int->Option Int->Hp->VK->Prop:=λx lo hi H Q=>∃ a xs,x=.ref a/\gT K H a xs/\∀ p,H p=Y->Q (.ref p) (upd H p (.lst (xE xs lo hi)))
theorem IF:SlR X (rSlL X.K):=by
 intro pins s σ H x v vl vu lo hi sl Q I rx hs pl pu h
 obtain⟨a,xs,rfl,hx,q⟩:=h
 cases rx
 obtain⟨its,r,ht,hz⟩:=I.list hx
 have hlen:=r.length
 refine⟨"list",_,slot_list_getitem.lookup,ht.isList.typeIs,?_⟩
 refine VB ht.isList hs pl pu .none (by simp) ?_ (by rw[Rk]<;>omega)
 rw[qp,<- hlen]
 refine⟨.ref s.heap.objs.size,_,I.laid (t':=s.toks) (o:=.lst (xE xs lo hi)) (λb ob q=>Re _ q) (Rn _) ?_,rfl,q _ (I.hok.fresh (Rn _))⟩
 exact⟨RG (nu xs lo hi) hz,_,0,(r.drop (HT.dF xs.length 0 lo)).take (HT.dF xs.length xs.length hi - HT.dF xs.length 0 lo),Rs _ rfl⟩
theorem call_len_seq:CallR X (.builtin "len") (λxs H Q=>∃ p ys,xs=[.ref p]/\(gT X.K H p ys\/iP X.K H p ys)/\Q (.int ys.length) H):=by
 intro pins s σ H xs us Q I r h
 obtain⟨p,ys,rfl,hq,q⟩:=h
 obtain⟨u,rfl,rx⟩:=gD r
 cases rx
 have hn:=lY
 rcases hq with hq | hq
 ·obtain⟨its,r',pl,hz⟩:=I.list hq
  have hlen:=r'.length
  exact Calls.call_len_list pl.isList (by simp only[Rk]<;>omega) ⟨.int ys.length,H,I.tok _,⟨s.toks+1,by rw[Rk,hlen]⟩,q⟩
 ·obtain⟨its,r',pl,hz⟩:=I.tuple hq
  have hlen:=r'.length
  exact len_tuple pl (by simp only[Rk]<;>omega) ⟨.int ys.length,H,I.tok _,⟨s.toks+1,by rw[Rk,hlen]⟩,q⟩
theorem uR:CallR X (.builtin "len") (λxs H Q=>∃ z,xs=[.str z]/\z.length<=sizeLine/\Q (.int z.length) H):=by
 intro pins s σ H xs us Q I r h
 obtain⟨z,rfl,hz,q⟩:=h
 obtain⟨u,rfl,t,rfl⟩:=gD r
 have hn:=lY
 exact len_str (by omega) ⟨.int z.length,H,I.tok _,⟨_,rfl⟩,q⟩
theorem CallR.or(h:CallR X f r)(h':CallR X f r'):CallR X f (λxs H Q=>r xs H Q\/r' xs H Q):=by
 intro pins s σ H xs us Q I rs q
 rcases q with q | q
 ·exact h pins s σ H xs us Q I rs q
 ·exact h' pins s σ H xs us Q I rs q
theorem lF:CallR X (.type "list") (λxs H Q=>∃ p ys,xs=[.ref p]/\(gT X.K H p ys\/iP X.K H p ys)/\∀ l,H l=Y->Q (.ref l) (upd H l (.lst ys))):=by
 intro pins s σ H xs us Q I r h
 obtain⟨p,ys,rfl,hq,q⟩:=h
 obtain⟨u,rfl,rx⟩:=gD r
 cases rx
 have fin:∀ (its:List Value),Vals ys its->ys.length<=sizeLine->∀ (h':Heap) (c':Nat),(∀ b o',s.heap.get? b=U o'->h'.get? b=U o') ->
   h'.get? s.heap.objs.size=U { cls:=.type "list",dict:=Y,data:=.seq its.toArray c',slots:=#[] }->EP X pins σ Q (.ref s.heap.objs.size) { s with heap:=h' }:=λits r' hz h' c' kp e=>
  ⟨.ref s.heap.objs.size,_,I.laid (t':=s.toks) kp (Rn _) (show ObjOk X.prog X.w _ h' _ (.lst ys) from ⟨hz,its,c',r',e⟩),rfl,q _ (I.hok.fresh (Rn _))⟩
 rcases hq with hq | hq
 ·obtain⟨its,r',pl,hz⟩:=I.list hq
  have hlen:=r'.length
  obtain⟨o,ho,hc,n,hd⟩:=pl.isList
  exact call_list_seq p (.inl rfl) ho hc hd (λh' c' kp e=>fin its r' hz h' c' kp e) (by simp only[Rk]<;>omega)
 ·obtain⟨its,r',pl,hz⟩:=I.tuple hq
  have hlen:=r'.length
  obtain⟨o,ho,hc,n,hd⟩:=pl
  exact call_list_seq p (.inr rfl) ho hc hd (λh' c' kp e=>fin its r' hz h' c' kp e) (by simp only[Rk]<;>omega)
theorem qH:CallR X (.type "tuple") (λxs H Q=>∃ p ys,xs=[.ref p]/\((gT X.K H p ys/\∀ l,H l=Y->Q (.ref l) (upd H l (.tup ys)))\/(iP X.K H p ys/\Q (.ref p) H))):=by
 intro pins s σ H xs us Q I r h
 obtain⟨p,ys,rfl,h⟩:=h
 obtain⟨u,rfl,rx⟩:=gD r
 cases rx
 rcases h with ⟨hq,q⟩ | ⟨hq,q⟩
 ·obtain⟨its,r',pl,hz⟩:=I.list hq
  have hlen:=r'.length
  refine call_tuple_list pl.isList (λh' kp=>?_) (by simp only[Rk]<;>omega)
  have I1:Inv X pins σ H { s with heap:=h' }:=I.kept (t':=s.toks) kp
  have I2:Inv X pins σ (upd H h'.objs.size (.tup ys)) { s with heap:=h'.push { cls:=.type "tuple",data:=.seq its.toArray } }:=
   I1.laid (t':=s.toks) (λb o e=>Re _ e) (Rn _) (show ObjOk X.prog X.w _ _ _ (.tup ys) from ⟨hz,its,r',IsTupN.new _ _⟩)
  exact⟨.ref h'.objs.size,_,I2,rfl,q _ (I1.hok.fresh (Rn _))⟩
 ·obtain⟨its,r',pl,hz⟩:=I.tuple hq
  exact call_tuple_same pl ⟨.ref p,H,I,rfl,q⟩
noncomputable def tyV(K:W.Frag)(T:String)(x:V)(H:Hp):Prop:=match x with
 | .str _=>T = "str"
 | .int _=>T = "int"
 | .ref p=>(T = "list"/\∃ xs,gT K H p xs)\/(T = "tuple"/\∃ o,K.lookup p=U o/\o.cls=.type "tuple"/\o.dict=Y) \/
   (T = "dict"/\((∃ kvs,H p=U (.dK kvs))\/∃ kvs,H p=U (.dT kvs)))\/(T = "set"/\∃ S n,H p=U (.set S n))
 | _=>False
theorem Dq{s:Shared}(I:Inv X pins σ H s)(r:RelV x v)(ty:tyV X.K T x H) :
  s.TypeIs v T/\∀ a,v=.ref a->∃ ob,s.heap.get? a=U ob/\ob.dict=Y:=by
 cases x with
 | str z=>
  obtain⟨t,rfl⟩:=r
  cases(show T = "str" from ty)
  exact⟨Uw s z t,λ_ e=>nomatch e⟩
 | int i=>
  obtain⟨t,rfl⟩:=r
  cases(show T = "int" from ty)
  exact⟨UP s i t,λ_ e=>nomatch e⟩
 | ref p=>
  cases r
  rcases ty with ⟨rfl,xs,hq⟩ | ⟨rfl,o,hk,hc,hd⟩ | ⟨rfl,hk⟩ | ⟨rfl,S,n,hk⟩
  ·obtain⟨its,_,pl,_⟩:=I.list hq
   refine⟨pl.isList.typeIs,λa e=>?_⟩
   cases e
   obtain⟨o,n,e,c,hd,_⟩:=pl
   exact⟨o,e,hd⟩
  ·refine⟨⟨o,I.kIn p o hk,hc⟩,λa e=>?_⟩
   cases e
   exact⟨o,I.kIn _ o hk,hd⟩
  ·have z:∃ o,s.heap.get? p=U o/\o.ExactDict:=by
    rcases hk with ⟨kvs,hk⟩ | ⟨kvs,hk⟩
    ·obtain⟨_,_,_,_,o,_,_,e,ex,_⟩:=I.hok p _ hk
     exact⟨o,e,ex⟩
    ·obtain⟨_,_,_,_,o,_,_,e,ex,_⟩:=I.hok p _ hk
     exact⟨o,e,ex⟩
   obtain⟨o,e,ex⟩:=z
   refine⟨⟨o,e,ex.1⟩,λa e2=>?_⟩
   cases e2
   exact⟨o,e,ex.2.1⟩
  ·obtain⟨o,_,_,_,e,ex,_⟩:=I.hok p _ hk
   refine⟨⟨o,e,ex.1⟩,λa e2=>?_⟩
   cases e2
   exact⟨o,e,ex.2.1⟩
 | _=>exact False.elim ty
noncomputable def tBM0(K:W.Frag)(T:String)(r:V->List V->Hp->VK->Prop)(to:TE):TE:=λσ H Q=>to σ H λx H1=>tyV K T x H1/\r x [] H1 Q
noncomputable def tBM(K:W.Frag)(T:String)(r:V->List V->Hp->VK->Prop)(to:TE)(t:TA):TE:=λσ H Q=>to σ H λx H1=>tyV K T x H1/\t σ H1 λxs H2=>r x xs H2 Q
variable{o e:Expr}{es:List Expr}{to:TE}{t:TA}{name:Str}{apos cpos:Pos}{T id:String}{r:V->List V->Hp->VK->Prop}
theorem NZ(pa:PlainAttrs T)(slot:Slot T name id)(hty:typeOf (.builtin id)=pure (.type "method_descriptor"))(hm:MtR X id r)(ho:PE X o to)
  (hbase:attributeBase o name X.env (eval o X.env)=eval o X.env:=by rfl) (hline:(apos.endLine==cpos.line)=true:=by rfl):PE X (.Call (.Attribute o name apos) [] [] cpos) (tBM0 X.K T r to):=by
 intro pins s σ H Q I h
 refine wpAny_Call_method0_late hbase hline (bN (ho pins s σ H _ I h) λv s1 ⟨x,H1,I1,r1,ty,q1⟩=>?_)
 obtain⟨h1,h2⟩:=Dq I1 r1 ty
 exact⟨T,id,pa,slot,hty,h1,h2,Ul rfl (PySem.evalArgs_none (hm pins s1 σ H1 x [] v [] Q I1 r1 .nil q1))⟩
theorem Ez(pa:PlainAttrs T)(slot:Slot T name id)(hty:typeOf (.builtin id)=pure (.type "method_descriptor"))(hm:MtR X id r)(ho:PE X o to)(ha:PA X (e::es) t)
  (hbase:attributeBase o name X.env (eval o X.env)=eval o X.env:=by rfl)
  (hfew:((backTo cpos (starEach (e::es) X.env)).all (λx=>!x.1)&&(backToKw cpos (keywordEach [] X.env)).all (λx=>x.1.isSome)
  &&decide ((e::es).length+([]:List Keyword).length+(if ([]:List Keyword).isEmpty then 0 else 1)<30))=true:=by rfl)
  (hline:(apos.endLine==cpos.line)=true:=by rfl) (hs:starEach (e::es) X.env=(false,eval e X.env)::starEach es X.env:=by rfl) (hplain:(backTo cpos (starEach es X.env)).any (·.1)=false:=by rfl) :
  PE X (.Call (.Attribute o name apos) (e::es) [] cpos) (tBM X.K T r to t):=by
 intro pins s σ H Q I h
 refine VP hbase hfew hline rfl (bN (ho pins s σ H _ I h) λv s1 ⟨x,H1,I1,r1,ty,q1⟩=>?_)
 obtain⟨h1,h2⟩:=Dq I1 r1 ty
 refine⟨T,id,pa,slot,hty,h1,h2,?_⟩
 have hA:=ha cpos pins s1 σ H1 _ I1 q1
 rw[hs] at hA ⊢
 refine Ul (by show(false||(backTo cpos (starEach es X.env)).any (·.1))=false;rw[hplain]<;>rfl) (Uy ?_)
 exact bN hA λus s2 ⟨vs,H2,I2,r2,q2⟩=>hm pins s2 σ H2 x vs v us Q I2 r1 r2 q2
end
noncomputable def MtM(X:Cx)(id:String)(r:V->List V->Hp->VK->Prop):Prop:=
 ∀ (pins:List (Addr×Obj)) (s:Shared) (σ:St) (H:Hp) (x:V) (xs:List V) (v:Value) (us:List Value) (Q:VK),Inv X pins σ H s->RelV x v->Vals xs us->r x xs H Q ->
  wpAny (model X.prog X.w) X.A (call (.builtin id) (v::us)) (EP X pins σ Q) X.xe s
theorem Vals.one:∀ {x:V} {us:List Value},Vals [x] us->∃ u,us=[u]/\RelV x u:=by
 intro x us h;cases h with | cons r t=>cases t;exact⟨_,rfl,r⟩
theorem Vals.two:∀ {x y:V} {us:List Value},Vals [x,y] us->∃ u v,us=[u,v]/\RelV x u/\RelV y v:=by
 intro x y us h;cases h with | cons r t=>cases t with | cons q t=>cases t;exact⟨_,_,rfl,r,q⟩
theorem Vals.reverse(h:Vals xs us):Vals xs.reverse us.reverse:=by
 induction h with
 | nil=>exact .nil
 | cons r t ih=>rw[Tv,Tv];exact Vals.append ih (.cons r .nil)
theorem Vals.rep(h:Vals xs us):∀ k:Nat,Vals (List.replicate k xs).flatten (List.replicate k us).flatten
 | 0=>.nil
 | k+1=>by
  rw[RP,RP,Ss,Ss]
  exact Vals.append h (Vals.rep h k)
theorem sd(its:List Value):∀ (k:Nat) (acc:List Value),
  List.foldl (λx1 x2=>x1++x2) acc.toArray (List.replicate k its.toArray)=(acc++(List.replicate k its).flatten).toArray
 | 0,acc=>by simp
 | k+1,acc=>by
  have e:acc.toArray++its.toArray=(acc++its).toArray:=by simp
  have e2:(acc++its)++(List.replicate k its).flatten=acc++(List.replicate (k+1) its).flatten:=by
   rw[RP,Ss,Su]
  rw[<- e2,<- sd its k (acc++its),<- e,RP,TQ]
section
variable{X:Cx}{pins:List (Addr×Obj)}{σ:St}{H:Hp}{s:Shared}{l b:Addr}{xs ys zs:List V}
theorem Inv.lset{its its':List Value}{f:Array Value->Array Value}{t':Nat}(I:Inv X pins σ H s)(hH:H l=U (.lst xs))
  (e:s.heap.get? l=U { cls:=.type "list",data:=.seq its.toArray n }) (hf:f its.toArray=its'.toArray) (hv:Vals ys its') (hz:ys.length<=sizeLine) :
  Inv X pins σ (upd H l (.lst ys)) { s with heap:=s.heap.update l (Obj.mapSeq f),toks:=t' }:=by
 have q:=PySem.IsL.update e f
 rw[hf] at q
 refine I.write (x:=l) (e:=l) (by rw[hH];exact trivial) (.inl rfl) (λb' u hb hu=>(RA s.heap (Obj.mapSeq f) (Ne.symm hb)).trans hu) ⟨_,q⟩ ?_
 exact⟨hz,its',_,hv,q⟩
theorem Inv.lnew{t':Nat}(I:Inv X pins σ H s)(hv:Vals ys its)(hz:ys.length<=sizeLine) :
  Inv X pins σ (upd H s.heap.objs.size (.lst ys)) { s with heap:=s.heap.push { cls:=.type "list",data:=.seq its.toArray },toks:=t' }:=
 I.laid (λ_ _ q=>Re _ q) (Rn _) ⟨hz,its,0,hv,Rs _ rfl⟩
theorem Inv.fresh(I:Inv X pins σ H s):H s.heap.objs.size=Y:=I.hok.fresh (Rn _)
theorem Inv.lstM(I:Inv X pins σ H s)(hH:H l=U (.lst xs)):xs.length<=sizeLine/\∃ (its:List Value) (n:Nat),Vals xs its/\xs.length=its.length/\s.heap.get? l=U { cls:=.type "list",data:=.seq its.toArray n }:=by
 obtain⟨z,its,n,r,e⟩:=I.hok l _ hH
 exact⟨z,its,n,r,r.length,e⟩
theorem vS{n:Nat}(h:n<=sizeLine):Builtin.List.listTooLong n=false:=by
 unfold Builtin.List.listTooLong
 exact Se (by omega)
end
section
variable{X:Cx}
noncomputable def IM:V->List V->Hp->VK->Prop:=λx vs H Q=>∃ l xs y,x=.ref l/\vs=[y]/\H l=U (.lst xs)/\xs.length<sizeLine/\Q .non (upd H l (.lst (xs++[y])))
theorem qZ:MtM X "list.append" IM:=by
 intro pins s σ H x vs v us Q I rx rv h
 obtain⟨l,xs,y,rfl,rfl,hH,hz,q⟩:=h
 cases rx
 obtain⟨u,rfl,ru⟩:=rv.one
 obtain⟨z,its,n,r,hl,e⟩:=I.lstM hH
 refine Ta Wp ⟨_,e,rfl⟩ F.entry_list_append (F.args_list_append_2 _ _) (PySem.list_append l its.toArray n u (by rw[Rk];omega)) ⟨e,?_⟩
 refine⟨.non,_,I.lset (its':=its++[u]) hH e (by simp) (r.append (.cons ru .nil)) ?_,rfl,q⟩
 rw[Rz,SX]
 omega
noncomputable def rCat:R2:=λx y H Q=>∃ l b xs zs,x=.ref l/\y=.ref b/\H l=U (.lst xs)/\H b=U (.lst zs)/\xs.length+zs.length<=sizeLine/\∀ p,H p=Y->Q (.ref p) (upd H p (.lst (xs++zs)))
theorem EB:OpR X (binaryOp .Add) rCat:=by
 intro pins s σ H x y v u Q I rx ry h
 obtain⟨l,b,xs,zs,rfl,rfl,hH,hB,hz,q⟩:=h
 cases rx
 cases ry
 obtain⟨z,its,n,r,hl,e⟩:=I.lstM hH
 obtain⟨z2,its2,n2,r2,hl2,e2⟩:=I.lstM hB
 refine PySem.P.add_list e e2 ?_ (by rw[Rk,Rk];omega)
 have ea:its.toArray++its2.toArray=(its++its2).toArray:=by simp
 rw[ea]
 exact⟨.ref _,_,I.lnew (t':=s.toks) (r.append r2) (by rw[Rz];omega),rfl,q _ I.fresh⟩
noncomputable def rRep:R2:=λx y H Q=>∃ l k xs,x=.ref l/\y=.int k/\H l=U (.lst xs)/\-(2^63)<=k/\k<2^63/\xs.length*k.toNat<=sizeLine /\
 ∀ p,H p=Y->Q (.ref p) (upd H p (.lst (List.replicate k.toNat xs).flatten))
theorem uk{α:Type}(xs:List α)(k:Nat):(List.replicate k xs).flatten.length=k*xs.length:=by
 induction k with
 | zero=>simp
 | succ k ih=>rw[RP,Ss,Rz,ih,Nat.succ_mul,Nat.add_comm]
theorem Oe:OpR X (binaryOp .Mult) rRep:=by
 intro pins s σ H x y v u Q I rx ry h
 obtain⟨l,k,xs,rfl,rfl,hH,h1,h2,hz,q⟩:=h
 cases rx
 obtain⟨t,rfl⟩:=ry
 obtain⟨z,its,n,r,hl,e⟩:=I.lstM hH
 have hlen:its.toArray.size*k.toNat<=sizeLine:=by rw[Rk,<- hl];exact hz
 have hcap:¬ its.toArray.size*k.toNat>(2^63 - 1) / 8:=by
  have:(sizeLine:Nat)<=(2^63 - 1) / 8:=by decide
  omega
 have hfit:¬ (!Builtin.List.listFitsIndex k)=true:=by
  rw[fitsIndex_both h1 h2]
  exact Rq
 have hlong:¬ Builtin.List.listTooLong (its.toArray.size*k.toNat)=true:=by
  rw[vS hlen]
  exact Rq
 have hnew:List.foldl (λx1 x2=>x1++x2) #[] (List.replicate (if its.toArray.isEmpty=true then 0 else k.toNat) its.toArray)=(List.replicate k.toNat its).flatten.toArray:=by
  have f0:∀ m:Nat,List.foldl (λx1 x2=>x1++x2) #[] (List.replicate m its.toArray)=(List.replicate m its).flatten.toArray:=λm=>by
   have:=sd its m []
   rw[List.nil_append] at this
   exact this
  rw[f0]
  cases its with
  | nil=>simp
  | cons a r'=>rw[RH (by simp)]
 refine Vv (T:="list") (U:="int") (by decide) ⟨_,e,rfl⟩ (λs'=>UP s' k t) noFill_list_mul F.fills_int_mul Ut repeat_list F.slot_int_index.lookup
  (Ta Ut (UP s k t) F.entry_int_rmul (F.args_int_rmul_2 _ _) (int___rmul___int_list k t l its.toArray n)
   ⟨e,rfl,⟨_,e,rfl⟩,Ta F.slot_list_mul ⟨_,e,rfl⟩ F.entry_list_mul (F.args_list_mul_2 _ _) (AutoListH.list___mul___list_int_3 l its.toArray n k t hfit hcap hlong) ⟨e,?_⟩⟩)
 rw[hnew]
 exact⟨.ref _,_,I.lnew (t':=s.toks) (r.rep k.toNat) (by rw[uk,Up];exact hz),rfl,q _ I.fresh⟩
end
section
variable{κ:Type}[DecidableEq κ]
noncomputable def jH(kvs:List (κ×V))(k:κ):Option V:=(kvs.find? λkv=>decide (kv.1=k)).map (·.2)
noncomputable def gM(kvs:List (κ×V))(k:κ)(v:V):List (κ×V):=
 if (kvs.any λkv=>decide (kv.1=k))=true then kvs.map (λkv=>if kv.1=k then(kv.1,v) else kv) else kvs++[(k,v)]
theorem kH{p:κ×V}{r:List (κ×V)}{k:κ}(e:p.1=k):jH (p::r) k=U p.2:=by simp[jH,Tp,e]
theorem iX{p:κ×V}{r:List (κ×V)}{k:κ}(e:¬ p.1=k):jH (p::r) k=jH r k:=by simp[jH,Tp,e]
theorem vj(k:κ):∀ kvs:List (κ×V),(kvs.any λkv=>decide (kv.1=k))=(jH kvs k).isSome
 | []=>rfl
 | p::r=>by
  rw[Tq]
  by_cases e:p.1=k
  ·simp only[kH e,Sg e,Bool.true_or,Option.isSome_some]
  ·rw[iX e,Se e,Bool.false_or];exact vj k r
theorem gI(kvs:List (κ×V))(k:κ)(v:V):(gM kvs k v).length<=kvs.length+1:=by
 unfold gM
 split
 ·rw[Rt];omega
 ·rw[Rz,Rr,Sl];omega
theorem RelO.isSome_eq(r:RelO o u):o.isSome=u.isSome:=by
 cases o with
 | none=>cases u with
  | none=>rfl
  | some _=>exact(show False from r).elim
 | some _=>cases u with
  | none=>exact(show False from r).elim
  | some _=>rfl
theorem RelO.getD{d:V}(r:RelO o u)(rd:RelV d d'):RelV (o.getD d) (u.getD d'):=by
 cases o with
 | none=>cases u with
  | none=>exact rd
  | some _=>exact(show False from r).elim
 | some _=>cases u with
  | none=>exact(show False from r).elim
  | some _=>exact r
theorem KV.val(r:KV kvs vs)(k:κ):RelO (jH kvs k) (valueAt vs k):=by
 unfold KV at r
 induction r with
 | nil=>exact True.intro
 | @cons p q ps qs h t ih=>
  obtain⟨h1,h2⟩:=h
  by_cases e:p.1=k
  ·have e':q.1=k:=h1.symm.trans e
   have b:valueAt (q::qs) k=U q.2:=by simp[valueAt,Tp,e']
   rw[kH e,b];exact h2
  ·have e':¬ q.1=k:=λz=>e (h1.trans z)
   have b:valueAt (q::qs) k=valueAt qs k:=by simp[valueAt,Tp,e']
   rw[iX e,b];exact ih
theorem KV.any(r:KV kvs vs)(k:κ):(kvs.any λkv=>decide (kv.1=k))=vs.any λkv=>decide (kv.1=k):=by
 unfold KV at r
 induction r with
 | nil=>rfl
 | cons h t ih=>rw[Tq,Tq,ih,h.1]
theorem KV.repl(r:KV kvs vs)(k:κ)(ry:RelV y u) :
  KV (kvs.map λkv=>if kv.1=k then(kv.1,y) else kv) (vs.map λkv=>if kv.1=k then(kv.1,u) else kv):=by
 unfold KV at r ⊢
 induction r with
 | nil=>exact .nil
 | @cons p q ps qs h t ih=>
  rw[RB,RB]
  refine .cons ?_ ih
  obtain⟨h1,h2⟩:=h
  by_cases e:p.1=k
  ·rw[Ru e,Ru (h1.symm.trans e)];exact⟨h1,ry⟩
  ·rw[RH e,RH (λz=>e (h1.trans z))];exact⟨h1,h2⟩
theorem KV.put(r:KV kvs vs)(k:κ)(ry:RelV y u):KV (gM kvs k y) (stored vs k u):=by
 unfold gM stored
 rw[r.any k]
 by_cases e:(vs.any λkv=>decide (kv.1=k))=true
 ·rw[Ru e,Ru e];exact r.repl k ry
 ·rw[RH e,RH e];exact Paired.snoc r ⟨rfl,ry⟩
theorem KV.length{kvs:List (κ×V)}{vs:List (κ×Value)}(r:KV kvs vs):kvs.length=vs.length:=UF r
end
theorem jj{k:aJ}(r:RelV (kV k) u):(aY P w).is k u=true:=by
 cases k with
 | inl i=>obtain⟨t,e⟩:=(show ∃ t,u=Value.int i t from r);subst e;exact vX P w i t
 | inr x=>obtain⟨t,e⟩:=(show ∃ t,u=Value.str x t from r);subst e;exact vV P w x t
theorem rS:∀ {ks:List aJ} {us:List Value},Vals (ks.map kV) us->ItemsAre (aY P w) ks us
 | [],_,r=>by rw[VY] at r;cases r;exact .nil
 | k::ks,_,r=>by
  rw[RB] at r
  cases r with
  | cons h t=>exact .cons (jj h) (rS t)
noncomputable abbrev KT(H:Hp):List (List aJ×V)->List (List aJ×Addr×Value)->Prop:=Paired λp q=>p.1=q.1/\H q.2.1=U (.tup (p.1.map kV))/\RelV p.2 q.2.2
theorem KT.val(r:KT H kvs xs)(k:List aJ):RelO (jH kvs k) ((atKey xs k).map (·.2)):=by
 induction r with
 | nil=>exact True.intro
 | @cons p q ps qs h t ih=>
  obtain⟨h1,_,h2⟩:=h
  by_cases e:p.1=k
  ·have e':q.1=k:=h1.symm.trans e
   have b:atKey (q::qs) k=U q.2:=by simp[atKey,Tp,e']
   rw[kH e,b];exact h2
  ·have e':¬ q.1=k:=λz=>e (h1.trans z)
   have b:atKey (q::qs) k=atKey qs k:=by simp[atKey,Tp,e']
   rw[iX e,b];exact ih
theorem KT.repl(r:KT H kvs xs)(k:List aJ)(ry:RelV y u) :
  KT H (kvs.map λkv=>if kv.1=k then(kv.1,y) else kv) (xs.map (putAt k u)):=by
 induction r with
 | nil=>exact .nil
 | @cons p q ps qs h t ih=>
  rw[RB,RB]
  refine .cons ?_ ih
  obtain⟨h1,h2,h3⟩:=h
  unfold putAt
  by_cases e:p.1=k
  ·rw[Ru e,Ru (h1.symm.trans e)];exact⟨h1,h2,ry⟩
  ·rw[RH e,RH (λz=>e (h1.trans z))];exact⟨h1,h2,h3⟩
theorem KT.put(r:KT H kvs xs)(k:List aJ)(hb:H b=U (.tup (k.map kV)))(ry:RelV y u) :
  KT H (gM kvs k y) (storedH xs k b u):=by
 have e:(kvs.any λkv=>decide (kv.1=k))=(atKey xs k).isSome:=by
  rw[vj,(r.val k).isSome_eq,Option.isSome_map]
 unfold gM storedH
 rw[e]
 by_cases q:(atKey xs k).isSome=true
 ·rw[Ru q,Ru q];exact r.repl k ry
 ·rw[RH q,RH q];exact Paired.snoc r ⟨rfl,hb,ry⟩
theorem KT.keeps{H':Hp}(r:KT H kvs xs)(ht:∀ b ys,H b=U (.tup ys)->H' b=U (.tup ys)):KT H' kvs xs:=
 Paired.mapP r λ_ _ z=>⟨z.1,ht _ _ z.2.1,z.2.2⟩
section
variable{P:Program}{w:World}{H:Hp}{h:Heap}{a:Addr}
theorem LS(ok:HOk P w H h)(e:Rd H a u):ObjOk P w H h a u:=e.ok ok
theorem pX(ok:HOk P w H h)(e:Rd H a (.dK kvs)):kvs.length<=sizeLine/\(a==sysModules)=false/\∃ vs,KV kvs vs/\h.DictOf (aY P w) a vs:=
 show ObjOk P w H h a (.dK kvs) from LS ok e
theorem Hj(ok:HOk P w H h)(e:H a=U (.dK kvs)):kvs.length<=sizeLine/\(a==sysModules)=false/\∃ vs,KV kvs vs/\h.DictOf (aY P w) a vs:=pX ok (.inl e)
theorem lZ{ks:List aJ}(ok:HOk P w H h)(e:H a=U (.tup (ks.map kV))):(tupleKind (aY P w)).is h ks a:=by
 obtain⟨_,its,r,o,h1,h2,⟨n,h3⟩,_⟩:=(show ObjOk P w H h a (.tup (ks.map kV)) from ok a _ e)
 exact⟨o,its.toArray,n,h1,h2,h3,by simpa using rS r⟩
theorem pU(ok:HOk P w H h)(e:Rd H a (.dT kvs)):kvs.length<=sizeLine/\(a==sysModules)=false /\
  ∃ xs,KT H kvs xs/\h.DictOfH (tupleKind (aY P w)) a xs:=by
 obtain⟨z,y,xs,r,o,es,ep,h1,h2,h3,h4,h5⟩:=(show ObjOk P w H h a (.dT kvs) from LS ok e)
 refine⟨z,y,xs,r,o,es,ep,h1,h2,h3,h4,λx hx=>?_,h5⟩
 have all:∀ {l:List (List aJ×V)} {m:List (List aJ×Addr×Value)},KT H l m->∀ x∈m,(tupleKind (aY P w)).is h x.1 x.2.1:=by
  intro l m q
  induction q with
  | nil=>intro x hx;exact nomatch hx
  | @cons p q ps qs hq t ih=>
   intro x hx
   rcases Rv.mp hx with e | hx
   ·subst e
    exact lZ ok (by rw[<- hq.1];exact hq.2.1)
   ·exact ih x hx
 exact all r x hx
theorem dt_of(ok:HOk P w H h)(e:H a=U (.dT kvs)):kvs.length<=sizeLine/\(a==sysModules)=false /\
  ∃ xs,KT H kvs xs/\h.DictOfH (tupleKind (aY P w)) a xs:=pU ok (.inl e)
end
noncomputable def DGet(H:Hp)(a:Addr)(y:V)(r:Option V):Prop:=
 (∃ kvs k,Rd H a (.dK kvs)/\y=kV k/\r=jH kvs k)\/∃ kvs k b,Rd H a (.dT kvs)/\y=.ref b/\H b=U (.tup (k.map kV))/\r=jH kvs k
noncomputable def DPut(H:Hp)(a:Addr)(y v:V)(H':Hp):Prop:=
 (∃ kvs k,H a=U (.dK kvs)/\y=kV k/\kvs.length<sizeLine/\H'=upd H a (.dK (gM kvs k v))) \/
 ∃ kvs k b,H a=U (.dT kvs)/\y=.ref b/\H b=U (.tup (k.map kV))/\kvs.length<sizeLine/\H'=upd H a (.dT (gM kvs k v))
theorem DGet.k{H:Hp}{k:aJ}(e:H a=U (.dK kvs)):DGet H a (kV k) (jH kvs k):=.inl ⟨kvs,k,.inl e,rfl,rfl⟩
theorem DPut.k{H:Hp}{k:aJ}(e:H a=U (.dK kvs))(hl:kvs.length<sizeLine):DPut H a (kV k) v (upd H a (.dK (gM kvs k v))):=.inl ⟨kvs,k,e,rfl,hl,rfl⟩
section
variable{X:Cx}{pins:List (Addr×Obj)}{σ:St}{H:Hp}{s:Shared}{a:Addr}{y v:V}{u r:Value}{o:Option V}{A:Around}{E:Value->Shared->Prop}
theorem Inv.big(I:Inv X pins σ H s):sysModules<s.heap.objs.size:=by
 have h:mainGlobals<s.heap.objs.size:=(I.mod.glob.keeps I.bk).lt
 exact Nat.lt_trans (by decide) h
theorem CM{Q:Value->Shared->Prop}(hu:A.units+1<cLine)(I:Inv X pins σ H s)(g:DGet H a y (U v))(ry:RelV y u)(h:∀ w' s',Inv X pins σ H s'->RelV v w'->Q w' s') :
  wpAny (model X.prog X.w) A (getItem (.ref a) u) Q E s:=by
 rcases g with ⟨kvs,k,e,ey,l⟩ | ⟨kvs,k,b,e,ey,eb,l⟩
 ·subst ey
  obtain⟨z,hd,vs,rel,dd⟩:=pX I.hok e
  obtain⟨w',hw,rw'⟩:=RelO.some_of (v:=v) (o:=valueAt vs k) (by rw[l];exact rel.val k)
  exact wpAny_getItem_of (jj ry) dd.mapOf hw (h w' _ (I.tok _) rw')
 ·subst ey
  cases(show u=Value.ref b from ry)
  obtain⟨z,hd,xs,rel,dd⟩:=pU I.hok e
  obtain⟨w',hw,rw'⟩:=RelO.some_of (v:=v) (o:=(atKey xs k).map (·.2)) (by rw[l];exact rel.val k)
  obtain⟨p,hp,hp2⟩:=Tt.mp hw
  refine wpAny_getItem_heap (Tl hu) (lZ I.hok eb) dd hp ?_
  rw[hp2]
  exact h w' _ (I.tok _) rw'
theorem Lm{Q:Value->Shared->Prop}(hu:A.units+1<cLine)(I:Inv X pins σ H s)(g:DGet H a y o)(ry:RelV y u)(h:∀ s',Inv X pins σ H s'->Q (.bool (!o.isSome)) s') :
  wpAny (model X.prog X.w) A (compareOp .NotIn u (.ref a)) Q E s:=by
 rcases g with ⟨kvs,k,e,ey,l⟩ | ⟨kvs,k,b,e,ey,eb,l⟩
 ·subst ey
  obtain⟨z,hd,vs,rel,dd⟩:=pX I.hok e
  refine wpAny_notIn_of (jj ry) hd dd.mapOf ?_
  rw[<- (rel.val k).isSome_eq,<- l]
  exact h _ (I.tok _)
 ·subst ey
  cases(show u=Value.ref b from ry)
  obtain⟨z,hd,xs,rel,dd⟩:=pU I.hok e
  refine wpAny_notIn_heap (Tl hu) (lZ I.hok eb) hd dd ?_
  have q:=(rel.val k).isSome_eq
  rw[Option.isSome_map] at q
  rw[<- q,<- l]
  exact h _ (I.tok _)
theorem oi{t':Nat}{ob:HO}(I:Inv X pins σ H s)(mu:Mut (H a))(hs:Heap.SameBut a s.heap h')(he:∃ q,h'.get? a=U q)(new:ObjOk X.prog X.w (upd H a ob) h' a ob) :
  Inv X pins σ (upd H a ob) { s with heap:=h',toks:=t' }:=
 I.write (x:=a) (e:=a) mu (.inl rfl) (λb q hb z=>(hs.2 b hb).trans z) he new
theorem zt{h':Heap}{kvs:List (aJ×V)}(z:kvs.length<=sizeLine)(hd:(a==sysModules)=false)(rel:KV kvs vs)(dd:h'.DictOf (aY P w) a vs) :
  ObjOk P w H' h' a (.dK kvs):=⟨z,hd,vs,rel,dd⟩
theorem CL{Q:Unit->Shared->Prop}(hu:A.units+1<cLine)(I:Inv X pins σ H s)(g:DPut H a y v H')(ry:RelV y u)(rv:RelV v r)(h:∀ s',Inv X pins σ H' s'->Q () s') :
  wpAny (model X.prog X.w) A (setItem (.ref a) u r) Q E s:=by
 rcases g with ⟨kvs,k,e,ey,l,eH⟩ | ⟨kvs,k,b,e,ey,eb,l,eH⟩
 ·subst ey eH
  obtain⟨z,hd,vs,rel,dd⟩:=Hj I.hok e
  have hz:vs.length<=sizeLine:=by rw[<- rel.length];exact z
  have hl:(gM kvs k v).length<=sizeLine:=by have:=gI kvs k v;omega
  refine wpAny_setItem_pairs (hsz:=hz) (jj ry) dd λh' dd' hs=>h _ ?_
  have he:∃ q,h'.get? a=U q:=let ⟨q,_,_,hq,_⟩:=dd';⟨q,hq⟩
  exact oi I (by rw[e];exact True.intro) hs he (zt hl hd (rel.put k rv) dd')
 ·subst ey eH
  cases(show u=Value.ref b from ry)
  obtain⟨z,hd,xs,rel,dd⟩:=dt_of I.hok e
  have hz:xs.length<=sizeLine:=by rw[<- UF rel];exact z
  have hl:(gM kvs k v).length<=sizeLine:=by have:=gI kvs k v;omega
  refine wpAny_setItem_heap (hsz:=hz) (Tl hu) (lZ I.hok eb) dd λh' dd' hs=>h _ ?_
  obtain⟨q,es,ep,hq,h2,h3,h4,_,h5⟩:=dd'
  refine oi I (by rw[e];exact True.intro) hs ⟨q,hq⟩ ⟨hl,hd,_,(rel.put k eb rv).keeps λc ys ec=>?_,q,es,ep,hq,h2,h3,h4,h5⟩
  rw[aj (ne_of ec e (λz=>nomatch z))]
  exact ec
end
theorem xB{s:Shared}(I:Inv X pins σ H s)(g:DGet H a y o):s.TypeIs (.ref a) "dict":=by
 rcases g with ⟨kvs,k,e,_,_⟩ | ⟨kvs,k,b,e,_,_,_⟩
 ·obtain⟨_,_,vs,_,dd⟩:=pX I.hok e
  exact dd.typeIs
 ·obtain⟨_,_,xs,_,dd⟩:=pU I.hok e
  exact dd.typeIs
theorem pY(h:Heap)(hb:sysModules<h.objs.size):ObjOk P w H (h.push { cls:=.type "dict",data:=.dict #[] }) h.objs.size (.dK []):=
 ⟨SJ _,SS.mpr (Ne.symm (RL hb)),[],.nil,Heap.DictOf.new h⟩
noncomputable def Nj:TE:=λ_ H Q=>∀ p,H p=Y->Q (.ref p) (upd H p (.dK []))
section
variable{X:Cx}{pos:Pos}
theorem Ew:PE X (.Dict [] [] pos) Nj:=λpins s σ H Q I h=>
 wpAny_Dict_empty ⟨.ref s.heap.objs.size,_,I.laid (a:=s.heap.objs.size) (o:=.dK []) (t':=s.toks) (λ_ _ q=>Re _ q) (Rn _) (pY s.heap I.big),rfl,h _ (I.hok.fresh (Rn _))⟩
end
noncomputable def sJ:List (TE×TE)->St->Hp->(List (V×V)->Hp->Prop)->Prop
 | [],_,H,Q=>Q [] H
 | (tk,tv)::r,σ,H,Q=>tk σ H λx H1=>tv σ H1 λy H2=>sJ r σ H2 λps H3=>Q ((x,y)::ps) H3
noncomputable abbrev VV:List (V×V)->List (Value×Value)->Prop:=Paired λp q=>RelV p.1 q.1/\RelV p.2 q.2
noncomputable def PPs(X:Cx)(pos:Pos)(keys:List (Option Expr))(values:List Expr)(trs:List (TE×TE)):Prop:=
 ∀ (pins:List (Addr×Obj)) (s:Shared) (σ:St) (H:Hp) (Q:List (V×V)->Hp->Prop),Inv X pins σ H s->sJ trs σ H Q ->
  wpAny (model X.prog X.w) X.A (evalPairs (pairTrees keys values X.env pos)) (λvs s'=>∃ ps H',Inv X pins σ H' s'/\VV ps vs/\Q ps H') X.xe s
theorem Jc:PPs X pos [] [] []:=λpins s σ H Q I h=>pairTrees_nil_walk ⟨[],H,I,.nil,h⟩
theorem Ek{k:Expr}(hk:PE X k tk)(hv:PE X v tv)(hr:PPs X pos ks vs trs) :
  PPs X pos (U k::ks) (v::vs) ((tk,tv)::trs):=λpins s σ H Q I h=>
 pairTrees_cons_walk (bN (hk pins s σ H _ I h) λu s1 ⟨x,H1,I1,rx,q1⟩=>bN (hv pins s1 σ H1 _ I1 q1) λw2 s2 ⟨y,H2,I2,ry,q2⟩=>
  bN (hr pins s2 σ H2 _ I2 q2) λws s3 ⟨ps,H3,I3,rel,q3⟩=>⟨(x,y)::ps,H3,I3,.cons ⟨rx,ry⟩ rel,q3⟩)
noncomputable def jd(kvs more:List (aJ×V)):List (aJ×V):=more.foldl (λacc kv=>gM acc kv.1 kv.2) kvs
theorem KV.merge:∀ {more:List (aJ×V)} {rs:List (aJ×Value)} {kvs:List (aJ×V)} {vs:List (aJ×Value)},KV more rs->KV kvs vs->KV (jd kvs more) (merged vs rs):=by
 intro more rs kvs vs r
 unfold KV at r
 induction r generalizing kvs vs with
 | nil=>intro q;exact q
 | @cons p q ps qs h t ih=>
  intro r0
  have e:KV (gM kvs p.1 p.2) (stored vs q.1 q.2):=by
   have:=r0.put p.1 h.2
   rw[<- h.1];exact this
  exact ih e
theorem jM:∀ (more kvs:List (aJ×V)),(jd kvs more).length<=kvs.length+more.length
 | [],kvs=>by show kvs.length<=kvs.length+0;omega
 | p::r,kvs=>by
  have h1:=jM r (gM kvs p.1 p.2)
  have h2:=gI kvs p.1 p.2
  show(jd (gM kvs p.1 p.2) r).length<=_
  rw[Rr];omega
theorem qd:∀ {kvs:List (aJ×V)} {ws:List (Value×Value)},VV (kvs.map λkv=>(kV kv.1,kv.2)) ws->∃ rs,Carries (aY P w) ws rs/\KV kvs rs
 | [],_,r=>by rw[VY] at r;cases r;exact⟨[],True.intro,.nil⟩
 | p::kvs,_,r=>by
  rw[RB] at r
  cases r with
  | @cons a b as bs h t=>
   obtain⟨rs,c,q⟩:=qd (P:=P) (w:=w) t
   obtain⟨b1,b2⟩:=b
   exact⟨(p.1,b2)::rs,⟨jj h.1,rfl,c⟩,.cons ⟨rfl,h.2⟩ q⟩
noncomputable def tDisp(trs:List (TE×TE)):TE:=λσ H Q=>∀ p,H p=Y->sJ trs σ (upd H p (.dK [])) λps H2=>H2 p=U (.dK [])/\∃ kvs:List (aJ×V),ps=kvs.map (λkv=>(kV kv.1,kv.2))/\kvs.length<=15/\Q (.ref p) (upd H2 p (.dK (jd [] kvs)))
theorem zQ{keys:List (Option Expr)}(h:PPs X pos keys values trs)(hall:keys.all (·.isSome)=true)(hl:keys.length=values.length)(h0:keys≠[])
  (h15:keys.length<=15):PE X (.Dict keys values pos) (tDisp trs):=by
 intro pins s σ H Q I q
 have hn:=I.hok.fresh (Rn s.heap.objs.size)
 have I1:=I.laid (a:=s.heap.objs.size) (o:=.dK []) (h':=s.heap.push { cls:=.type "dict",data:=.dict #[] }) (t':=s.toks) (λ_ _ q=>Re _ q) (Rn _) (pY s.heap I.big)
 refine wpAny_Dict_walk (knd:=aY X.prog X.w) hall hl h0 h15 (bN (h pins _ σ _ _ I1 (q _ hn)) λws s2 ⟨ps,H2,I2,rel,e,kvs,ep,lk,q2⟩=>?_)
 subst ep
 obtain⟨rs,c,rk⟩:=qd (P:=X.prog) (w:=X.w) rel
 obtain⟨z,hd,vs0,r0,dd⟩:=Hj I2.hok e
 cases r0
 refine⟨rs,c,dd,λh' dd' hs=>⟨.ref s.heap.objs.size,_,?_,rfl,q2⟩⟩
 have hz:(jd [] kvs).length<=sizeLine:=by
  have h1:=jM kvs []
  rw[Sl] at h1
  rw[Ug];omega
 have he:∃ q,h'.get? s.heap.objs.size=U q:=let ⟨q,_,_,hq,_⟩:=dd';⟨q,hq⟩
 exact oi I2 (by rw[e];exact True.intro) hs he (zt hz hd (rk.merge .nil) dd')
noncomputable def IsD(H:Hp)(a:Addr):Prop:=(∃ kvs,Rd H a (.dK kvs))\/∃ kvs,Rd H a (.dT kvs)
theorem Pz{s:Shared}(I:Inv X pins σ H s)(d:IsD H a) :
  s.TypeIs (.ref a) "dict"/\(∀ b,Value.ref a=.ref b->∃ ob,s.heap.get? b=U ob/\ob.dict=Y)/\(a==sysModules)=false:=by
 rcases d with ⟨kvs,e⟩ | ⟨kvs,e⟩
 ·obtain⟨_,hd,vs,_,dd⟩:=pX I.hok e
  refine⟨dd.typeIs,λb q=>?_,hd⟩
  cases q
  obtain⟨ob,_,_,h1,h2,_⟩:=dd
  exact⟨ob,h1,h2.2.1⟩
 ·obtain⟨_,hd,xs,_,dd⟩:=pU I.hok e
  refine⟨dd.typeIs,λb q=>?_,hd⟩
  cases q
  obtain⟨ob,_,_,h1,h2,_⟩:=dd
  exact⟨ob,h1,h2.2.1⟩
section
variable{X:Cx}{pins:List (Addr×Obj)}{σ:St}{H:Hp}{s:Shared}{a:Addr}{y d:V}{u r:Value}{o:Option V}{A:Around}{E:Value->Shared->Prop}
theorem QE{Q:Value->Shared->Prop}(hu:A.units+1<cLine)(I:Inv X pins σ H s)(g:DGet H a y o)(ry:RelV y u)(h:∀ w' s',Inv X pins σ H s'->RelV (o.getD .non) w'->Q w' s') :
  wpAny (model X.prog X.w) A (call (.builtin "dict.get") [.ref a,u]) Q E s:=by
 rcases g with ⟨kvs,k,e,ey,l⟩ | ⟨kvs,k,b,e,ey,eb,l⟩
 ·subst ey
  obtain⟨z,hd,vs,rel,dd⟩:=pX I.hok e
  refine UW TR dd.typeIs Uk (F.args_dict_get_2 _ _) (meets_dict_get (aY X.prog X.w) a (jj ry) hd) ⟨_,dd.mapOf,h _ _ (I.tok _) ?_⟩
  rw[l]
  exact(rel.val k).getD rfl
 ·subst ey
  cases(show u=Value.ref b from ry)
  obtain⟨z,hd,xs,rel,dd⟩:=pU I.hok e
  refine UW TR dd.typeIs Uk (F.args_dict_get_2 _ _) (meetsH_dict_get (tupleKind (aY X.prog X.w)) a b hd) ⟨Tl hu,k,xs,lZ I.hok eb,dd,h _ _ (I.tok _) ?_⟩
  rw[l]
  exact(rel.val k).getD rfl
theorem QD{Q:Value->Shared->Prop}(hu:A.units+1<cLine)(I:Inv X pins σ H s)(g:DGet H a y o)(ry:RelV y u)(rd:RelV d r)(h:∀ w' s',Inv X pins σ H s'->RelV (o.getD d) w'->Q w' s') :
  wpAny (model X.prog X.w) A (call (.builtin "dict.get") [.ref a,u,r]) Q E s:=by
 rcases g with ⟨kvs,k,e,ey,l⟩ | ⟨kvs,k,b,e,ey,eb,l⟩
 ·subst ey
  obtain⟨z,hd,vs,rel,dd⟩:=pX I.hok e
  refine UW TR dd.typeIs Uk (F.args_dict_get_3 _ _ _) (meets_dict_get_default (aY X.prog X.w) a (jj ry) hd r) ⟨_,dd.mapOf,h _ _ (I.tok _) ?_⟩
  rw[l]
  exact(rel.val k).getD rd
 ·subst ey
  cases(show u=Value.ref b from ry)
  obtain⟨z,hd,xs,rel,dd⟩:=pU I.hok e
  refine UW TR dd.typeIs Uk (F.args_dict_get_3 _ _ _) (meetsH_dict_get_default (tupleKind (aY X.prog X.w)) a b hd r) ⟨Tl hu,k,xs,lZ I.hok eb,dd,h _ _ (I.tok _) ?_⟩
  rw[l]
  exact(rel.val k).getD rd
end
end L2
namespace Att
open PySem.W PySem.Calls
theorem nD:∀ (ns:List Int) (vs:List Value),WellAll P h vs (ns.map WData.int)->IntsAre vs ns:=by
 intro ns
 induction ns with
 | nil=>
  intro vs w
  rw[VY] at w
  cases w
  exact .nil
 | cons n ns ih=>
  intro vs w
  rw[RB] at w
  cases w with
  | cons a b=>
   cases a
   exact .cons _ _ (ih _ b)
theorem Bp{l:OpenLaw}{n:Nat}(hn:l.most=U n)
  (hpre:l.row.toRowW.claim.pre args=true) (hwl:WellAll P h vals args) :
  ∃ a vs ns,vals=[Value.ref a]/\args=[WData.list (ns.map WData.int)]/\h.get? a=U { cls:=.type "list",data:=.seq vs.toArray }/\IntsAre vs ns/\ns.length<=n:=by
 have hsh:WShape.hasAll [] args [.list .int]=true:=(pre_splitW hpre).1
 have hc:l.pre.holds [] { args:=args } = true:=(pre_splitW hpre).2
 obtain⟨d,r,rfl,h1,h2⟩:=hasAllW_cons hsh
 obtain rfl:=hasAllW_nil h2
 obtain⟨xs,rfl,h3⟩:=hasW_list h1
 obtain⟨ns,rfl⟩:=items_int h3
 have hlen:ns.length<=n:=by
  unfold OpenLaw.pre at hc
  have h4:(WTm.not (.lt (.lit (.int (n:Int))) (.len (.arg 0)))).holds [] { args:=[.list (ns.map .int)] } = true:=by
   have h4:=(holds_andW hc).1
   rw[hn] at h4
   exact h4
  have h5:=condW_of h4 (w_not (w_lt w_lit (w_len_list (w_arg rfl))))
  rw[Rt] at h5
  refine Nat.le_of_not_lt λq=>?_
  have q':(n:Int)<((ns.length:Nat):Int):=by omega
  first
   | (rw[Sg q'] at h5;exact absurd h5 (by decide))
   | (simp at h5;omega)
 cases hwl with
 | cons w1 w2=>
  cases w2
  cases w1 with
  | list ho hall=>exact⟨_,_,ns,rfl,rfl,ho,nD ns _ hall,hlen⟩
theorem Bu(l:OpenLaw)(args:List WData):l.row.toRowW.claim.post args (.bool true) args=true:=
 postW_of (r:=l.row.toRowW) (X:=(true==true))
  (show WShape.has [] (.bool true) .bool=true by first | rfl | decide | simp[WShape.has,WShape.arms,WShape.armsAll])
  (show(WTm.eq .res (.lit (.bool true))).value [] { args:=args,res:=U (.bool true),after:=args } = U (.bool (true==true)) from w_eq_bool (w_res rfl) w_lit) rfl
theorem xO{l:OpenLaw}{n:Nat}{YP:World->Heap->Prop}{d:DefRec}
  (hn:l.most=U n) (hdf:d.params.defaults=[])
  (call:∀ (w:World) (s₀ s₁:Shared) (mg mb:Str->Option Value) (fa:Addr) (o:Obj) (pm cd doc:Value) (a:Addr) (vs:List Value) (ns:List Int),
   Ground q loose [] XP w s₀ mg mb s₁.heap->YP w s₁.heap ->
   s₁.heap.get? fa=U o->o.data=.func (docDef d.name d.params d.body d.scope pm cd doc)->s₁.heap.CodeRec cd d.name->mg d.name=U (.ref fa) ->
   s₁.heap.get? a=U { cls:=.type "list",data:=.seq vs.toArray }->IntsAre vs ns->ns.length<=n->s₁.gens = #[] ->
   codeAny (model l.prog w) callerA (.call (.ref fa) ⟨[.ref a],[]⟩) (λr s'=>r=.ok (.ret (.bool true))/\OldK s₁.heap s'.heap/\s'.os=s₁.os/\AllBare s'.gens) s₁) :
  WalkO q loose XP YP l.row.toRowW d [] (λf vs=>PySem.call f vs):=by
 intro w s₀ s₁ mg mb G Y0 fa o pm cd doc dV kV ho hd hcd hD hmg hg args vals as hpre hlay hrd hwl hlo
 obtain rfl:dV=.none:=Dflts.none hD hdf
 obtain rfl:kV=.none:=Dflts.noKw hD
 obtain⟨a,vs,ns,rfl,rfl,hobj,hints,hlen⟩:=Bp hn hpre hwl
 refine enter_call (Sx (call w s₀ s₁ mg mb fa o pm cd doc a vs ns G Y0 ho (fd_plain hd) hcd hmg hobj hints hlen hg) λr s' hq=>?_)
 obtain⟨rfl,h2,h3,h4⟩:=hq
 exact⟨.inl ⟨.bool true,.bool true,[],rfl,λ_=>rfl,.bool true,Bu l _,λ_=>⟨List.Pairwise.nil,λ_ hm=>(nomatch hm)⟩⟩,h2,h3,h4⟩
end Att
namespace L2
theorem qJ:∀ {vs:List Value} {ns:List Int},IntsAre vs ns->Vals (ns.map V.int) vs
 | _,_,.nil=>.nil
 | _,_,.cons n t h=>.cons ⟨t,rfl⟩ (qJ h)
noncomputable def QX(H:Hp):Prop:=∀ b,H b=Y\/∃ o xs,H b=U (.frz o (.lst xs))
theorem Fi{K:W.Frag}{mb:Str->Option Value}{k:Nat}{x:Str}{s₁:Shared}{vs:List Value}
  (KX:K.In s₁.heap) (hns:s₁.heap.Ns mainGlobals mg) (hb:s₁.heap.Ns builtinsNs mb) (hbb:∀ x:Str,x≠"__name__"->mb x=bootBuiltins x) (hlim:s₁.heap.NoLimit) (hg:s₁.gens = #[])
  (ha:s₁.heap.get? a=U { cls:=.type "list",data:=.seq vs.toArray }) (hi:IntsAre vs ns) (hl:ns.length<=sizeLine) (hr:Room k callerA)
  (F:∀ base:Heap,K.In base->base.Ns mainGlobals mg->FnOk P w K mg base CX k fa fd [x] sp) (hbind:∀ (s:Shared) (u:Value),BindsTo s fd ⟨[u],[]⟩ [(x,u)])
  (hsp:∀ H:Hp,QX H->gT K H a (ns.map V.int)->sp [.ref a] H (λv _=>v=.bl true) λ_ _ _=>False)
  (hCX:∀ H e s',CX [] H s₁ (λ_ _ _=>False) e s'->False) :
  codeAny (model P w) callerA (.call (.ref fa) ⟨[.ref a],[]⟩) (λr s'=>r=.ok (.ret (.bool true))/\OldK s₁.heap s'.heap/\s'.os=s₁.os/\AllBare s'.gens) s₁:=by
 have rv:=qJ hi
 have lenV:=hi.length
 have core:∀ H:Hp,QX H->gT K H a (ns.map V.int)->HOk P w H s₁.heap->(∀ b,H b≠Y->b=a)->(H a≠Y->K.lookup a=Y) ->
   codeAny (model P w) callerA (.call (.ref fa) ⟨[.ref a],[]⟩) (λr s'=>r=.ok (.ret (.bool true))/\OldK s₁.heap s'.heap/\s'.os=s₁.os/\AllBare s'.gens) s₁:=by
  intro H hO hS hok hA hK
  have base_of:∀ {b:Addr} {o:Obj},s₁.heap.get? b=U o->H b=Y->(uw s₁.heap H).get? b=U o:=λe n=>Gc e n
  have noA:∀ {b:Addr} {o:Obj} {es:Array DictEntry} {ep:Nat},s₁.heap.get? b=U o->o.data=.dict es ep->H b=Y:=λ{b o es ep} e d=>by
   cases q:H b with
   | none=>rfl
   | some u=>
    have e':b=a:=hA b (by rw[q];simp)
    subst e'
    rw[ha] at e;cases e
    have d':Data.seq vs.toArray _=Data.dict es ep:=d
    cases d'
  have nsK:∀ {b:Addr} {m:Str->Option Value},s₁.heap.Ns b m->(uw s₁.heap H).Ns b m:=λ{b m} ⟨o,es,ep,e,d,r⟩=>⟨o,es,ep,base_of e (noA e d),d,r⟩
  have hKb:K.In (uw s₁.heap H):=λb o e=>base_of (KX b o e) (by
   cases q:H b with
   | none=>rfl
   | some u=>
    have e':b=a:=hA b (by rw[q];simp)
    subst e'
    rw[hK (by rw[q];simp)] at e;cases e)
  have hM:Mod K mg (uw s₁.heap H):=⟨hKb,nsK hns,⟨mb,nsK hb,hbb⟩,let ⟨mc,h1,h2⟩:=hlim;⟨mc,nsK h1,h2⟩⟩
  have e0:Env0 P w K mg (uw s₁.heap H) callerA [] s₁ H:=⟨rfl,hM,λb o e=>JA e,Uq (BZ _ _),trivial,λb hb=>absurd (show b∈([]:List Addr) from hb) (by simp),hok,.of_eq hg⟩
  refine Sx ((F _ hKb (nsK hns)).run callerA [] s₁ H ⟨[.ref a],[]⟩ [.ref a] [.ref a] _ _ hr e0 (hbind s₁ (.ref a)) (.cons rfl .nil) (hsp H hO hS)) λr s' h=>?_
  cases r with
  | error e=>exact(hCX H e s' h).elim
  | ok fl=>
   cases fl with
   | next=>exact False.elim h
   | brk=>exact False.elim h
   | cont=>exact False.elim h
   | ret u=>
    obtain⟨v,H',os,bare,un,hok',r',q⟩:=h
    have q':v=.bl true:=q
    subst q'
    obtain rfl:u=Value.bool true:=r'
    refine⟨rfl,OldK.of_keep λb o e=>?_,os,bare⟩
    cases q:H b with
    | none=>exact un.keep b o e q (by intro z;exact absurd (show b∈([]:List Addr) from z) (by simp)) (by simp)
    | some u=>
     rcases hO b with z | ⟨ob,xs,z⟩
     ·rw[q] at z;cases z
     ·have z2:=un.frzs b ob _ z
      obtain⟨e1,_⟩:=hok b _ z
      obtain⟨e2,_⟩:=hok' b _ z2
      rw[e] at e1;cases e1
      exact e2
 cases hk:K.lookup a with
 | some o=>
  have e:=KX a o hk
  rw[ha] at e
  cases e
  refine core (λ_=>Y) (λ_=>.inl rfl) (.inr ⟨_,vs.toArray,_,hk,rfl,rfl,rfl,by rw[Rk,lenV];exact hl,by simpa using rv⟩) (λb u z=>by have z':(Y:Option HO)=U u:=z;cases z') (λb z=>absurd rfl z) λz=>absurd rfl z
 | none=>
  refine core (λb=>if b=a then U (.frz { cls:=.type "list",data:=.seq vs.toArray } (.lst (ns.map V.int))) else Y) (λb=>?_) (.inl (.inr ⟨{ cls:=.type "list",data:=.seq vs.toArray },Ru rfl⟩)) (λb u z=>?_) (λb z=>?_) λ_=>hk
  ·by_cases hb:b=a
   ·exact .inr ⟨_,_,Ru hb⟩
   ·exact .inl (RH hb)
  ·by_cases hb:b=a
   ·have z':=(Ru hb).symm.trans z
    cases z'
    subst hb
    exact⟨ha,by rw[Rt];exact hl,vs,_,rv,ha⟩
   ·have z':=(RH hb).symm.trans z
    cases z'
  ·by_cases hb:b=a
   ·exact hb
   ·exact absurd (RH hb) z
theorem Iq{l:W.OpenLaw}{n k:Nat}{YP:World->Heap->Prop}{d:DefRec}{K:Params->W.Frag}{CX:World->Dj}{sp:World->Sp}{x:Str}
  (hn:l.most=U n) (hn2:n<=sizeLine) (hdf:d.params.defaults=[]) (hr:Room k callerA)
  (hY:∀ (w:World) (h:Heap),YP w h->(K w.params).In h)
  (F:∀ (w:World) (mg:Str->Option Value) (fa:Addr) (h:Heap),(K w.params).In h->h.Ns mainGlobals mg->mg d.name=U (.ref fa) ->
   ∃ fd:FuncData,(∀ (s:Shared) (u:Value),BindsTo s fd ⟨[u],[]⟩ [(x,u)]) /\
    ∀ base:Heap,(K w.params).In base->base.Ns mainGlobals mg->FnOk l.prog w (K w.params) mg base (CX w) k fa fd [x] (sp w))
  (hsp:∀ (w:World) (H:Hp) (a:Addr) (ns:List Int),ns.length<=n->QX H->gT (K w.params) H a (ns.map V.int)->sp w [.ref a] H (λv _=>v=.bl true) λ_ _ _=>False)
  (hCX:∀ (w:World) (H:Hp) (s:Shared) (e:Value) (s':Shared),CX w [] H s (λ_ _ _=>False) e s'->False) :
  W.WalkO q loose XP YP l.row.toRowW d [] (λf vs=>PySem.call f vs):=by
 refine Att.xO hn hdf λw s₀ s₁ mg mb fa o pm cd doc a vs ns G Y0 ho hd hcd hmg hobj hints hlen hg=>?_
 have KX:=hY w _ Y0
 obtain⟨fd,hb,hF⟩:=F w mg fa _ KX G.T.g hmg
 exact Fi KX G.T.g G.T.b G.T.builtins G.T.nolimit hg hobj hints (RG hlen hn2) hr hF hb (λH hO hS=>hsp w H a ns hlen hO hS) λH e s'=>hCX w H s₁ e s'
noncomputable def er(s:Stmt):Arguments:=match s with
 | .FunctionDef _ a _ _ _ _ _ _ _ _=>a
 | _=>{ posonlyargs:=[],args:=[],vararg:=Y,kwonlyargs:=[],kw_defaults:=[],kwarg:=Y,defaults:=[] }
noncomputable def aH(s:Stmt):List Stmt:=match s with
 | .FunctionDef _ _ b _ _ _ _ _ _ _=>b
 | _=>[]
noncomputable def am(s:Stmt):Scope:=match s with
 | .FunctionDef _ _ _ _ _ _ sc _ _ _=>sc
 | _=>{ kind:=.function,names:=[],isGenerator:=false,isCoroutine:=false }
noncomputable abbrev xV:Dj:=λ_ _ _ _ _ _=>False
noncomputable abbrev E0:XK:=λ_ _ _=>False
theorem LZ:uY xV X E0:=λ_ _ _ _ _ _ _ h=>h.elim
structure Fun(K:W.Frag)(x qual:Str)(st:Stmt)(f:Addr)(fd:FuncData):Prop where
 ex:∃ (oc:Value) (od:Option Addr) (kV doc pm:Value) (an:Option Addr) (cdv ct:Value) (osl:Array (Option Value)),
  fd=W.fnOf x qual (er st) (aH st) (am st) .none kV doc pm an cdv ct/\K.lookup f=U ⟨oc,od,.func fd,osl⟩/\W.codeIn K cdv qual=true
 kp:W.keepIn K (.ref f)=true
section
variable{P:Program}{w:World}{K:W.Frag}{mg:Str->Option Value}{base:Heap}
theorem Fun.ok{st:Stmt}{k:Nat}{sp:Sp}(F:Fun K x qual st f fd)(S:aV N ps (am st))(len:∀ vs H Q E,sp vs H Q E->vs.length=ps.length)
  (hbody:∀ (cdv:Value) (A:Around) (outer:List Env) (s:Shared) (H:Hp) (vs:List V) (Q:VK) (E:XK),Room k (A.deeper (envOfC qual (am st) s.heap.objs.size f cdv))->sp vs H Q E ->
   ∃ t,PSs (nH xV P w K mg base N qual (am st) f cdv A outer s H E).nox (aH st) t/\t { nx:=λ_ H'=>Q .non H',rt:=Q } (start N vs) H):FnOk P w K mg base xV (k+1) f fd ps sp:=by
 obtain⟨oc,od,kV,doc,pm,an,cdv,ct,osl,rfl,lk,hcd⟩:=F.ex
 refine Gj lk hcd S len λA outer s H vs Q E hr hsp=>?_
 obtain⟨t,h,q⟩:=hbody cdv A outer s H vs Q E hr hsp
 exact⟨t,h.nox,q⟩
theorem Fun.binds{st:Stmt}{ps:List Str}(F:Fun K x qual st f fd)
  (h:∀ (kV doc pm:Value) (an:Option Addr) (cdv ct:Value) (us:List Value),us.length=ps.length->bindArgs (W.fnOf x qual (er st) (aH st) (am st) .none kV doc pm an cdv ct) ⟨us,[]⟩=pure (ps.zip us)):Binds K fd ps []:=by
 obtain⟨oc,od,kV,doc,pm,an,cdv,ct,osl,rfl,lk,hcd⟩:=F.ex
 exact .all (h kV doc pm an cdv ct)
theorem PH{st:Stmt}{oc:Value}{od:Option Addr}{osl:Array (Option Value)}{kV:Value}(l:K.lookup f=U ⟨oc,od,.func (W.fnOf x qual (er st) (aH st) (am st) .none kV doc pm an cdv ct),osl⟩)
  (c:W.codeIn K cdv qual=true) (k:W.keepIn K (.ref f)=true):Fun K x qual st f (W.fnOf x qual (er st) (aH st) (am st) .none kV doc pm an cdv ct):=⟨⟨oc,od,kV,doc,pm,an,cdv,ct,osl,rfl,l,c⟩,k⟩
end
section
variable{X:Cx}
theorem pv(i:Nat){x:Str}(hN:X.N[i]?=U x:=by rfl)(hv:QR X.env.scope x:=by first | exact Or.inl rfl | exact Or.inr (Or.inl rfl) | exact Or.inr (Or.inr rfl))(hd:(x==("__debug__":Str))=false:=by decide)
  (hcd:(x==("__classdict__":Str))=false:=by decide):PE X (.Name x pos) (tVar i):=Er hN hv hd hcd
end
noncomputable def iD(cells:List (Str×Addr)):List (Str×NameKind)->List (Str×Addr)->List (Str×Addr)
 | [],acc=>acc
 | (n,k)::r,acc=>if k==.free then iD cells r ((n,(cells.lookup n).getD 0)::acc) else iD cells r acc
theorem ge{env:Env}:∀ (names:List (Str×NameKind)) (acc:List (Str×Addr)),(∀ x∈names,x.2=.free->(env.cells.lookup x.1).isSome=true) ->
  (forIn names acc λ(x:Str×NameKind) (r:List (Str×Addr))=>(do
   if x.2==.free then do let c <- cellOf env x.1;pure (ForInStep.yield ((x.1,c)::r)) else pure (ForInStep.yield r):Sem (ForInStep (List (Str×Addr)))))=pure (iD env.cells names acc)
 | [],acc,_=>rfl
 | (n,k)::r,acc,h=>by
  rw[SR]
  cases hk:k==NameKind.free with
  | true=>
   have e:k=.free:=by simpa using hk
   have hs:=h (n,k) Rf e
   obtain⟨c,hc⟩:=SO.mp hs
   have hc':env.cells.lookup n=U c:=hc
   have hce:cellOf env n=pure c:=by unfold cellOf;rw[hc']
   simp only[Uo,hce,hc',Vb,Vk,iD,hk]
   rw[ge r _ λx hx=>h x (Rj _ hx)]
  | false=>
   simp only[SH,TV,Vk,iD,hk]
   exact ge r _ λx hx=>h x (Rj _ hx)
theorem gS{scope:Scope}{env:Env}(h:∀ x∈scope.names,x.2=.free->(env.cells.lookup x.1).isSome=true):closureFor scope env=pure (iD env.cells scope.names []):=by
 have q:=ge (env:=env) scope.names [] h
 unfold closureFor
 refine Eq.trans ?_ (Eq.trans (congrArg (λ(m:Sem (List (Str×Addr)))=>m >>= λcs=>pure cs) q) ?_)
 ·rfl
 ·rfl
theorem mI(cells:List (Str×Addr)):∀ (names:List (Str×NameKind)) (acc:List (Str×Addr)),(∀ x∈names,x.2=.free->(cells.lookup x.1).isSome=true)->(∀ y c,acc.lookup y=U c->cells.lookup y=U c) ->
  ∀ y c,(iD cells names acc).lookup y=U c->cells.lookup y=U c
 | [],_,_,ha=>ha
 | (n,k)::r,acc,h,ha=>by
  unfold iD
  split
  ·rename_i hk
   refine mI cells r _ (λx hx=>h x (Rj _ hx)) λy c e=>?_
   rw[Tz] at e
   split at e
   ·rename_i hy
    have hy':y=n:=by simpa using hy
    subst hy'
    obtain⟨c',hc'⟩:=SO.mp (h (y,k) Rf (by simpa using hk))
    have hc'':cells.lookup y=U c':=hc'
    rw[hc''] at e ⊢
    exact e
   ·exact ha y c e
  ·exact mI cells r _ (λx hx=>h x (Rj _ hx)) ha
theorem ky(cells:List (Str×Addr)):∀ (names:List (Str×NameKind)) (acc:List (Str×Addr)) (y:Str),(acc.lookup y).isSome=true->((iD cells names acc).lookup y).isSome=true
 | [],_,_,h=>h
 | (n,k)::r,acc,y,h=>by
  unfold iD
  split
  ·refine ky cells r _ y ?_
   rw[Tz]
   split
   ·rfl
   ·exact h
  ·exact ky cells r _ y h
theorem lE(cells:List (Str×Addr)):∀ (names:List (Str×NameKind)) (acc:List (Str×Addr)) (y:Str),(y,NameKind.free)∈names->((iD cells names acc).lookup y).isSome=true
 | [],_,_,h=>by simp at h
 | (n,k)::r,acc,y,h=>by
  unfold iD
  rcases Rv.mp h with e | h
  ·cases e
   rw[Ru (by rfl)]
   exact ky cells r _ _ (by rw[Tz];simp)
  ·split
   ·exact lE cells r _ y h
   ·exact lE cells r _ y h
theorem ic{scope:Scope}{env:Env}{y:Str}:∀ {names:List (Str×NameKind)},
  ((names.map λ(n,k)=>if (k==NameKind.free&&env.scope.kind==.function&&env.kindOf n==U .cell) then(n,NameKind.cell) else(n,k)).lookup y=U .cell \/
  (names.map λ(n,k)=>if (k==NameKind.free&&env.scope.kind==.function&&env.kindOf n==U .cell) then(n,NameKind.cell) else(n,k)).lookup y=U .free) ->
  (∀ x∈names,x.2≠.cell)->(y,NameKind.free)∈names
 | [],h,_=>by simp at h
 | (n,k)::r,h,hc=>by
  have ih:=@ic scope env y r
  have hr:∀ x∈r,x.2≠.cell:=λx hx=>hc x (Rj _ hx)
  rw[RB] at h
  by_cases hq:(k==NameKind.free&&env.scope.kind==.function&&env.kindOf n==U .cell)=true
  ·have hk:k=.free:=by
    have:=hq
    simp only[Rg] at this
    simpa using this.1.1
   simp only[hq,Uo] at h
   simp only[Tz] at h
   cases hy:y==n with
   | true=>
    have e:y=n:=by simpa using hy
    rw[e,hk]
    exact Rf
   | false=>
    simp only[hy] at h
    exact Rj _ (ih h hr)
  ·simp only[hq,SH,TV] at h
   simp only[Tz] at h
   cases hy:y==n with
   | true=>
    simp only[hy] at h
    have e:y=n:=by simpa using hy
    rcases h with h | h
    ·exact absurd (RJ h) (hc (n,k) Rf)
    ·rw[e,<- RJ h]
     exact Rf
   | false=>
    simp only[hy] at h
    exact Rj _ (ih h hr)
noncomputable def di(X:Cx)(N':List Str)(scope:Scope)(C:Addr)(s:Shared)(H:Hp)(fp:List Addr):Cx:=
 {X with N:=N',s₀:=s,H₀:=H,env:=compEnvC scope (iD X.env.cells scope.names []) C X.env,outer:=X.stack,ex:=fp,fn:=λ_=>false,pn:=[],xe:=λ_ _=>False }
noncomputable def Be(X:Cx)(ifs:List Expr)(t:TT):Prop:=
 ∀ (pins:List (Addr×Obj)) (s:Shared) (σ:St) (H:Hp) (Q:Bool->Hp->Prop),Inv X pins σ H s->t σ H Q->wpAny (model X.prog X.w) X.A (forIn ifs true λc r=>if r=true then do let ok <- isTrue c X.env (eval c X.env);pure (ForInStep.yield ok) else pure (ForInStep.yield r)) (TP X pins σ Q) X.xe s
theorem IU:Be X [] (λ_ H Q=>Q true H):=λ_ _ _ H _ I h=>wpAny_tests_nil ⟨H,I,h⟩
theorem IT(h:PT X c t):Be X [c] t:=λpins s σ H Q I q=>wpAny_tests_one (h pins s σ H Q I q)
noncomputable def bZ(e tg:Expr)(p0:Pos)(ifs:List Expr)(d:Nat)(it acc:Value)(env:Env)(bc:Sem Unit):Sem Fin:=do
 standAt p0
 let r <- pyNext it
 match r with
 | none=>pure (Fin.done Flow.next)
 | some v=>do
  letOwnedTupleGo tg it v
  assign tg env v
  let ok <- forIn ifs true λc r=>if r=true then do let ok <- isTrue c env (eval c env);pure (ForInStep.yield ok) else pure (ForInStep.yield r)
  if ok=true then do bc;again (.compLoop e d it acc env) else again (.compLoop e d it acc env)
noncomputable def mD(elt:Expr)(acc:Value)(env:Env):Sem Unit:=do
 let x <- eval elt env
 let _ <- call (.builtin "list.append") [acc,x]
 pure ()
section
variable{prog:Program}{w:World}{A:Around}{R:Result->Shared->Prop}{s:Shared}
theorem jy{e:Expr}{d:Nat}(he:e=.ListComp elt gens scope pos)(htn:compTurn e d it acc env=bZ e tg p0 ifs d it acc env bc)(I:Nat->Shared->Prop)
  (turn:∀ n s,I n s->wpAny (model prog w) A (pyNext it) (λr s₁=>match r with
   | none=>R (.ok .next) s₁
   | some v=>wpAny (model prog w) A (letOwnedTupleGo tg it v) (λ_ s₁'=>wpAny (model prog w) A (assign tg env v) (λ_ s₂=>
     wpAny (model prog w) A (forIn ifs true λc r=>if r=true then do let ok <- isTrue c env (eval c env);pure (ForInStep.yield ok) else pure (ForInStep.yield r)) (λok s₃=>
      if ok=true then wpAny (model prog w) A bc (λ_ s₅=>∃ m,m<n/\I m s₅) (λ_ _=>False) s₃
      else ∃ m,m<n/\I m s₃) (λ_ _=>False) s₂) (λ_ _=>False) s₁') (λ_ _=>False) s₁) (λ_ _=>False) s)
  (n:Nat) (h:I n s) :
  codeAny (model prog w) A (.compLoop e d it acc env) R s:=by
 refine codeAny_loop rfl I (λn s hI=>?_) n h
 subst he
 show wpAny _ A ((compTurn (.ListComp elt gens scope pos) d it acc env).onRaise (λx=>do noteFrame x env;theTreesLotGoes x)) _ _ s
 refine wpAny_noted ?_
 rw[htn]
 refine Rc (Sn (Rc (RF (turn n s hI) (λr s₁ h₁=>?_) λ_ _ h'=>h'.elim)))
 cases r with
 | none=>exact Rh h₁
 | some v=>
  refine Rc (RF h₁ (λ_ s₁' h₁'=>?_) λ_ _ h'=>h'.elim)
  refine Rc (RF h₁' (λ_ s₂ h₂=>Rc (RF h₂ (λok s₃ h₃=>?_) λ_ _ h'=>h'.elim)) λ_ _ h'=>h'.elim)
  cases ok with
  | false=>exact Rh ⟨rfl,h₃⟩
  | true=>exact Rc (RF h₃ (λ_ s₅ h₅=>Rh ⟨rfl,h₅⟩) λ_ _ h'=>h'.elim)
end
noncomputable abbrev TB:=St->Hp->(St->Hp->Prop)->Prop
noncomputable def PB(X:Cx)(m:Sem Unit)(tb:TB):Prop:=
 ∀ (pins:List (Addr×Obj)) (s:Shared) (σ:St) (H:Hp) (Q:St->Hp->Prop),Inv X pins σ H s->tb σ H Q->wpAny (model X.prog X.w) X.A m (λ_ s'=>∃ σ' H',Inv X pins σ' H' s'/\Q σ' H') X.xe s
noncomputable def tEm(te:TE)(p:Addr):TB:=λσ H Q=>te σ H λy H5=>∃ ys,H5 p=U (.lst ys)/\ys.length<sizeLine/\Q σ (upd H5 p (.lst (ys++[y])))
theorem nN(he:PE X elt te):PB X (mD elt (.ref p) X.env) (tEm te p):=λpins s σ H Q I h=>by
 refine Rc (bN (he pins s σ H _ I h) λxv s8 ⟨y,H8,J8,r8,q8⟩=>?_)
 obtain⟨ys,hy,hz,q9⟩:=q8
 refine Rc (bN (qZ _ s8 σ H8 (.ref p) [y] (.ref p) [xv] (λ_ H9=>H9=upd H8 p (.lst (ys++[y]))) J8 rfl (.cons r8 .nil) ⟨_,ys,y,rfl,rfl,hy,hz,rfl⟩) λ_ s9 ⟨_,H9,J9,_,e9⟩=>?_)
 subst e9
 exact Rh ⟨_,_,J9,q9⟩
noncomputable def jU(J:It)(g:TG)(tt:TT)(tb:TB)(σ:St)(H:Hp)(Q:St->Hp->Prop):Prop:=∃ W:Nat->Nat->St->Hp->Prop,(∃ m,W 0 m σ H)/\∀ i m σ' H',W i m σ' H' ->
 (J.stop i H'/\Q σ' H')\/(J.go i H'/\∀ x H2,J.yld i H' x H2->g x σ' H2 λσ2 H3=>tt σ2 H3 λok H4=>
  if ok=true then tb σ2 H4 λσ3 H5=>∃ m',m'<m/\W (i+1) m' σ3 H5 else ∃ m',m'<m/\W (i+1) m' σ2 H4)
theorem mH{X:Cx}{e:Expr}{d:Nat}
  (hc:X.calm=true) (hx:∀ e s,X.xe e s->False) (hl:e=.ListComp elt gens scope pos) (htn:compTurn e d (.ref it) acc X.env=bZ e tg p0 ifs d (.ref it) acc X.env bc) (hg:PG X tg g) (ht:Be X ifs tt) (hb:PB X bc tb) (T:uX X.prog X.w X.K tg J fp it tn) {s:Shared} (I:Inv X pins σ H s) (st:tn 0 s.heap) (f2:∀ b∈fp,jJ X pins H b) (h:jU J g tt tb σ H Q) :
  codeAny (model X.prog X.w) X.A (.compLoop e d (.ref it) acc X.env) (λr s'=>∃ σ' H',r=.ok .next/\Inv X pins σ' H' s'/\Q σ' H') s:=by
 obtain⟨W,⟨m0,w0⟩,turn⟩:=h
 have no:∀ e s,X.xe e s->(λ(_:Value) (_:Shared)=>False) e s:=hx
 have stat:∀ {H':Hp},(∀ b∈fp,H' b=Y)->∀ b∈fp,jJ X pins H' b:=λhn b hb=>⟨hn b hb,(f2 b hb).2⟩
 refine jy hl htn (λn s'=>∃ i σ' H',Inv X pins σ' H' s'/\tn i s'.heap/\(∀ b∈fp,H' b=Y)/\W i n σ' H') ?_ m0 ⟨0,_,_,I,st,λb hb=>(f2 b hb).1,w0⟩
 rintro n s3 ⟨i,σ3,H3,J3,st3,fr3,w3⟩
 rcases turn i n σ3 H3 w3 with ⟨stop,qn⟩ | ⟨go,step⟩
 ·refine bN (T.done X rfl rfl rfl hc i pins s3 σ3 H3 _ J3 (stat fr3) st3 stop) λr s4 ⟨hr,J4⟩=>?_
  subst hr
  exact⟨σ3,H3,rfl,J4,qn⟩
 ·refine bN (T.item X rfl rfl rfl hc i pins s3 σ3 H3 _ J3 (stat fr3) st3 go) λr s4 ⟨u,hr,h4⟩=>?_
  subst hr
  refine bN h4 λ_ s5 ⟨x,H5,J5,r5,y5,st5,fr5⟩=>?_
  have J5':=J5.pinned (stat fr5) (T.obj _ _ st5)
  refine RF (hg _ s5 σ3 H5 x u _ J5' r5 (step x H5 y5)) (λ_ s6 ⟨σ6,H6,J6,q6⟩=>?_) no
  refine RF (ht _ s6 σ6 H6 _ J6 q6) (λok s7 ⟨H7,J7,q7⟩=>?_) no
  have again:∀ {s':Shared} {σ7:St} {H7:Hp},Inv X (pins++lP fp s5.heap) σ7 H7 s'->(∃ m',m'<n/\W (i+1) m' σ7 H7)->∃ m,m<n/\∃ i σ' H',Inv X pins σ' H' s'/\tn i s'.heap/\(∀ b∈fp,H' b=Y)/\W i m σ' H':=λ{s' σ7 H7} J7 n7=>by
   obtain⟨m',hm,w7⟩:=n7
   refine⟨m',hm,i+1,σ7,H7,J7.unpinned,T.keep _ _ _ st5 λb hb o e=>(J7.pin (b,o) (RN _ (RN _ (fF hb e)))).1,λb hb=>?_,w7⟩
   obtain⟨o,e,d⟩:=T.obj _ _ st5 b hb
   exact(J7.pin (b,o) (RN _ (RN _ (fF hb e)))).2.1
  cases ok with
  | false=>
   rw[RH Rq] at q7 ⊢
   exact again J7 q7
  | true=>
   rw[Ru rfl] at q7 ⊢
   exact RF (hb _ s7 σ6 H7 _ J7 q7) (λ_ s9 ⟨σ9,H9,J9,q9⟩=>again J9 q9) no
structure BlockOk(X:Cx)(N':List Str)(scope:Scope)(cap:List (Option Nat)):Prop where
 kind:scope.kind=.function
 nocell:∀ x∈scope.names,x.2≠.cell
 names:∀ x∈scope.names,x.2=.local->scope.names.lookup x.1=U .local
 free:∀ x∈scope.names,x.2=.free->(X.env.kindOf x.1=U .cell\/X.env.kindOf x.1=U .free)
 nd:N'.Nodup
 len:cap.length=N'.length
 cap:∀ (j i:Nat),cap[j]?=U (U i)->∃ y,N'[j]?=U y/\X.N[i]?=U y/\QR X.env.scope y/\(X.env.kindOf y=U .cell\/X.env.kindOf y=U .free)/\((relabel scope X.env).names.lookup y=U .cell\/(relabel scope X.env).names.lookup y=U .free)
noncomputable def σB(cap:List (Option Nat))(σ:St):St:=cap.map λo=>o.bind λi=>(σ[i]?).join
section
variable{X:Cx}{pins:List (Addr×Obj)}{σ:St}{H:Hp}{s:Shared}{N':List Str}{scope:Scope}{cap:List (Option Nat)}{C:Addr}{fp:List Addr}
theorem BlockOk.cells(B:BlockOk X N' scope cap)(ok:X.Ok):∀ x∈scope.names,x.2=.free->(X.env.cells.lookup x.1).isSome=true:=λx hx hf=>by
 obtain⟨c,e⟩:=ok.has x.1 (B.free x hx hf)
 rw[e];rfl
theorem BlockOk.cl(B:BlockOk X N' scope cap)(ok:X.Ok):∀ y c,(iD X.env.cells scope.names []).lookup y=U c->X.env.cells.lookup y=U c:=
 mI _ _ _ (B.cells ok) λy c e=>by simp at e
theorem Inv.notStk(I:Inv X pins σ H s){b:Addr}(h1:b≠X.env.locals)(h2:b∉X.fs):b∉rZ X.stack:=λz=>(Rv.mp (I.stkSub b z)).elim h1 h2
theorem Inv.block{h4:Heap}{tk:Nat}(I:Inv X pins σ H s)(B:BlockOk X N' scope cap)(hfp:∀ b∈fp,jJ X pins H b/\b<s.heap.objs.size)(hC:s.heap.objs.size<=C)
  (hk:∀ b o,s.heap.get? b=U o->h4.get? b=U o) (hn:h4.Ns C m0):Inv (di X N' scope C s H fp) [] (σB cap σ) H { s with heap:=h4,toks:=tk }:=by
 have okX:=I.ok
 have hcl:=B.cl okX
 have cellC:∀ x c,(iD X.env.cells scope.names []).lookup x=U c->∃ v,s.heap.IsCell c v:=λx c e=>I.cell x c (hcl x c e)
 have neC:∀ b o,s.heap.get? b=U o->b≠C:=λb o e=>RL (Ry (Ro e) hC)
 refine⟨⟨okX.mod,B.kind,okX.glob,okX.blt,hC,λx y c e1 e2=>okX.inj x y c (hcl x c e1) (hcl y c e2),λx hx=>?_,λx c e _=>(by cases e),okX.hd,okX.frames,.inl rfl,λb hb=>⟨λz=>?_,λx c e z=>?_⟩,λb o e=>I.bs b o e,RG okX.bsz I.sz,λb o e hb=>?_,λb hb z=>?_,I.stack,I.stkFree⟩,
  rfl,I.bare,Un.kept hk,⟨m0,hn,λj y v e1 e2 e3=>?_⟩,λx c e=>?_,I.hok.fresh hC,λx c e=>I.freeC x c (hcl x c e),λp hp=>absurd (show p∈([]:List (Addr×Obj)) from hp) (by simp),I.hok.kept hk,?_⟩
 ·have q:=ic (scope:=scope) (env:=X.env) (y:=x) (names:=scope.names) hx B.nocell
  exact SO.mp (lE _ _ _ _ q)
 ·have z':b=C:=z
  exact absurd (hfp b hb).2 (by rw[z'];exact VF.mpr hC)
 ·exact(hfp b hb).1.2.2.2.2.1 x c (hcl x c e) z
 ·obtain⟨h0,h1,h2,h3,h4',h5⟩:=(hfp b hb).1
  rcases h3 with h3 | h3
  ·exact okX.noex b o e h3
  ·have:=(okX.bs b o e).1
   exact absurd (Ry (Ro this) h3) (Sy _)
 ·obtain⟨h0,h1,h2,h3,h4',h5⟩:=(hfp b hb).1
  exact I.notStk h1 h2 z
 ·have e1':N'[j]?=U y:=e1
  unfold σB at e2
  rw[SA] at e2
  cases ec:cap[j]? with
  | none=>rw[ec] at e2;cases e2
  | some o=>
   rw[ec] at e2
   cases o with
   | none=>cases e2
   | some i=>
    obtain⟨y',n1,n2,vis,kx,kb⟩:=B.cap j i ec
    rw[e1'] at n1;cases n1
    have e2':(σ[i]?).join=U v:=RJ e2
    have e2'':σ[i]?=U (U v):=by
     cases q:σ[i]? with
     | none=>rw[q] at e2';cases e2'
     | some z=>rw[q] at e2';exact congrArg U e2'
    obtain⟨m,hm,hl⟩:=I.loc
    obtain⟨u,ru,lk⟩:=hl i y v n2 e2'' vis
    refine⟨u,ru,.inr ⟨kb,?_⟩⟩
    rcases lk with ⟨k,_⟩ | ⟨k,c,ec',z⟩
    ·rcases kx with kx | kx
     ·rw[kx] at k;cases k
     ·rw[kx] at k;cases k
    ·have q:=ic (scope:=scope) (env:=X.env) (y:=y) (names:=scope.names) kb B.nocell
     obtain⟨c',hc'⟩:=SO.mp (lE X.env.cells scope.names [] y q)
     have:=hcl y c' hc'
     rw[ec'] at this;cases this
     exact⟨c,hc',z.keeps hk⟩
 ·obtain⟨v,z⟩:=cellC x c e
  exact⟨v,z.keeps hk⟩
 ·show(σB cap σ).length=N'.length
  unfold σB
  rw[Rt,B.len]
theorem Inv.unblock(I:Inv X pins σ H s)(hfp:∀ b∈fp,jJ X pins H b)(J:Inv (di X N' scope C s H fp) pins' σ' Hf s'):Inv X pins σ Hf s':=
 I.call' (ch:=fp) J.os J.base J.hok J.bare λb hb=>by
  obtain⟨h0,h1,h2,h3,h4,h5⟩:=hfp b hb
  exact⟨h3,h1,h4,h5⟩
end
noncomputable def lM(wi:TI)(g:TG)(tt:TT)(tb:Addr->TB)(cap:List (Option Nat)):TE:=λσ H Q=>wi σ H λJ H1=>∀ p,H1 p=Y->jU J g tt (tb p) (σB cap σ) (upd H1 p (.lst [])) λ_ H'=>Q (.ref p) H'
noncomputable def vp(wi:TI)(g:TG)(tt:TT)(te:TE)(cap:List (Option Nat)):TE:=lM wi g tt (tEm te) cap
noncomputable def Behind(X:Cx)(pins:List (Addr×Obj))(σ:St)(Q:VK)(acc:Value)(C:Addr)(r:Result)(s':Shared):Prop:=
 ∃ p Hf m,r=.ok .next/\acc=.ref p/\Inv X pins σ Hf s'/\Q (.ref p) Hf/\s'.heap.Ns C m/\Hf C=Y/\C≠X.env.locals/\X.s₀.heap.objs.size<=C/\(∀ x c,X.env.cells.lookup x=U c->c≠C)/\(∀ q∈X.pn++pins,q.1≠C)
theorem qa{X:Cx}{rest:List Comprehension}{tb:Addr->TB}{bc:Value->Env->Sem Unit}
  (hc:X.calm=true) (B:BlockOk X N' scope cap) (hi:PI X tg iter wi) (hg:∀ C s H fp,PG (di X N' scope C s H fp) tg g) (ht:∀ C s H fp,Be (di X N' scope C s H fp) ifs tt)
  (htn:∀ it acc env,compTurn (.ListComp elt (⟨tg,iter,ifs,0⟩::rest) scope pos) 0 it acc env=bZ (.ListComp elt (⟨tg,iter,ifs,0⟩::rest) scope pos) tg iter.pos ifs 0 it acc env (bc acc env))
  (hb:∀ C s H fp p,PB (di X N' scope C s H fp) (bc (.ref p) (di X N' scope C s H fp).env) (tb p)) {s:Shared} (I:Inv X pins σ H s) (h:lM wi g tt tb cap σ H Q) {E:Value->Shared->Prop} (hE:∀ e s,X.xe e s->E e s) :
  wpAny (model X.prog X.w) X.A (eval iter X.env) (λx s₁=>wpAny (model X.prog X.w) X.A (pyIter x) (λit s₂=>wpAny (model X.prog X.w) X.A (newList []) (λacc s₃=>
   wpAny (model X.prog X.w) X.A (newFunctionEnv scope X.env.globals (iD X.env.cells scope.names []) [] X.env.qual Y .none (U X.env)) (λcenv s₄=>
    codeAny (model X.prog X.w) X.A (.compStart (.ListComp elt (⟨tg,iter,ifs,0⟩::rest) scope pos) 0 it acc { cenv with scope:=relabel scope X.env }) (Behind X pins σ Q acc cenv.locals) s₄) E s₃) E s₂) E s₁) E s:=by
 refine RF (hi pins s σ H _ I h) (λv s1 h1=>RF h1 (λitv s2 h2=>?_) hE) hE
 obtain⟨it,fp,tn,J,H1,e,I2,T,st2,f2,hW⟩:=h2
 subst e
 refine RM (Wb B.nocell (by intro y hy;simp at hy) (λh₁ hns₁ hsb₁=>?_) B.kind)
 dsimp only at hns₁ hsb₁ ⊢
 have hp1:H1 s2.heap.objs.size=Y:=I2.hok.fresh (Rn _)
 have hL:=hW s2.heap.objs.size hp1
 have I3:Inv X pins σ (upd H1 s2.heap.objs.size (.lst [])) { s2 with heap:=s2.heap.push { cls:=.type "list",dict:=Y,data:=.seq ([]:List Value).toArray },toks:=s2.toks }:=
  I2.laid (λb o e=>Re _ e) (Rn _) ⟨SJ _,[],_,.nil,Rs _ rfl⟩
 generalize hH2:s2.heap.push { cls:=.type "list",dict:=Y,data:=.seq ([]:List Value).toArray } = H2 at hns₁ hsb₁ I3 ⊢
 have hC:H2.objs.size=s2.heap.objs.size+1:=by rw[<- hH2,Sw]
 have ltfp:∀ b∈fp,b<s2.heap.objs.size:=λb hb=>by
  obtain⟨o,e,_⟩:=T.obj _ _ st2 b hb
  exact Ro e
 have hf3:∀ b∈fp,jJ X pins (upd H1 s2.heap.objs.size (.lst [])) b/\b<H2.objs.size:=λb hb=>by
  obtain⟨a0,a⟩:=f2 b hb
  refine⟨⟨?_,a⟩,by rw[hC];exact Nat.lt_succ_of_lt (ltfp b hb)⟩
  rw[aj (RL (ltfp b hb))];exact a0
 have up:∀ b o,H2.get? b=U o->h₁.get? b=U o:=λb o e=>hsb₁.extBut b o (RL (Ro e)) (Re _ e)
 have I4:=I3.block (C:=H2.objs.size) (fp:=fp) (h4:=h₁) (tk:=s2.toks+([]:List (Str×Value)).length) B hf3 (Rn _) up hns₁
 have st4:tn 0 h₁:=T.keep _ _ _ st2 λb hb o e=>up b o (by rw[<- hH2];exact Re _ e)
 have loop:codeAny (model X.prog X.w) X.A (.compLoop (.ListComp elt (⟨tg,iter,ifs,0⟩::rest) scope pos) 0 (.ref it) (.ref s2.heap.objs.size) (compEnvC scope (iD X.env.cells scope.names []) H2.objs.size X.env))
    (Behind X pins σ Q (.ref s2.heap.objs.size) H2.objs.size) { s2 with heap:=h₁,toks:=s2.toks+([]:List (Str×Value)).length }:=by
  refine Sx (mH (X:=di X N' scope H2.objs.size { s2 with heap:=H2,toks:=s2.toks } (upd H1 s2.heap.objs.size (.lst [])) fp) hc (λ_ _ z=>z) rfl (htn _ _ _) (hg _ _ _ _) (ht _ _ _ _) (hb _ _ _ _ _) T I4 st4 (λb hb=>?_) hL) λr s4 ⟨σ4,H4,hr,J4,qn⟩=>?_
  ·obtain⟨h0,h1,h2,h3,h4',h5⟩:=(hf3 b hb).1
   exact⟨h0,RL (hf3 b hb).2,I3.notStk h1 h2,.inl hb,λx c e=>h4' x c (B.cl I3.ok x c e),λp hp=>absurd (show p∈([]:List (Addr×Obj)) from hp) (by simp)⟩
  ·obtain⟨m,hm,_⟩:=J4.loc
   have IX:=I3.unblock (λb hb=>(hf3 b hb).1) J4
   refine⟨_,H4,m,hr,rfl,IX,qn,hm,J4.free,?_,?_,λx c e z=>?_,λq hq z=>?_⟩
   ·exact Ne.symm (RL I3.lt)
   ·exact I3.sz
   ·obtain⟨v,q⟩:=I3.cell x c e
    exact absurd q.lt (by rw[z];exact Sy _)
   ·exact absurd (Ro (I3.pin q hq).1) (by rw[z];exact Sy _)
 exact codeAny_compStart_list loop (T.self _ 0 _ _ _ st4 loop)
theorem oN{X:Cx}{iter:Expr}{rest:List Comprehension}{tb:Addr->TB}{bc:Value->Env->Sem Unit}
  (hc:X.calm=true) (B:BlockOk X N' scope cap) (hi:PI X tg iter wi) (hg:∀ C s H fp,PG (di X N' scope C s H fp) tg g) (ht:∀ C s H fp,Be (di X N' scope C s H fp) ifs tt) (htn:∀ it acc env,compTurn (.ListComp elt (⟨tg,iter,ifs,0⟩::rest) scope pos) 0 it acc env=bZ (.ListComp elt (⟨tg,iter,ifs,0⟩::rest) scope pos) tg iter.pos ifs 0 it acc env (bc acc env))
  (hb:∀ C s H fp p,PB (di X N' scope C s H fp) (bc (.ref p) (di X N' scope C s H fp).env) (tb p))
  (hs:∀ x,foldedSetIterable iter X.env x=pure x:=by intro _;rfl):PE X (.ListComp elt (⟨tg,iter,ifs,0⟩::rest) scope pos) (lM wi g tt tb cap):=by
 intro pins s σ H Q I h
 rw[eval_ListComp]
 refine Ub (use:=Y) rfl hs (gS (B.cells I.ok)) B.kind B.names ?_
 refine RF (qa hc B hi hg ht htn hb I h λ_ _ x=>x) (λx s1 h1=>RF h1 (λit s2 h2=>RF h2 (λacc s3 h3=>RF h3 (λcenv s4 h4=>Sx h4 λr s' hr=>?_) λ_ _ x=>x) λ_ _ x=>x) λ_ _ x=>x) λ_ _ x=>x
 obtain⟨p,Hf,m,rfl,rfl,J,q,hn,c1,c2,c3,c4,c5⟩:=hr
 exact⟨m,hn,λh' sb=>⟨_,Hf,J.turned (t':=s'.toks) (λb o hb e=>(sb.2 b hb).trans e) c1 c2 (.inr c3) c4 c5,(show RelV (.ref p) (.ref p) from rfl),q⟩⟩
theorem jc{X:Cx}{iter:Expr}{rest:List Comprehension}{spos:Pos}{tb:Addr->TB}{bc:Value->Env->Sem Unit}{y:Str}{i:Nat}
  (hN:X.N.Nodup) (hy:X.N[i]?=U y) (hx:Bf X.env.scope y)
  (hc:X.calm=true) (B:BlockOk X N' scope cap) (hi:PI X tg iter wi) (hg:∀ C s H fp,PG (di X N' scope C s H fp) tg g) (ht:∀ C s H fp,Be (di X N' scope C s H fp) ifs tt) (htn:∀ it acc env,compTurn (.ListComp elt (⟨tg,iter,ifs,0⟩::rest) scope pos) 0 it acc env=bZ (.ListComp elt (⟨tg,iter,ifs,0⟩::rest) scope pos) tg iter.pos ifs 0 it acc env (bc acc env))
  (hb:∀ C s H fp p,PB (di X N' scope C s H fp) (bc (.ref p) (di X N' scope C s H fp).env) (tb p))
  (hsw:swapsWith (.ListComp elt (⟨tg,iter,ifs,0⟩::rest) scope pos) (U (.Name y py)) spos.line X.env=pure true:=by rfl)
  (hs:∀ x,foldedSetIterable iter X.env x=pure x:=by intro _;rfl) (hf:X.fn y=true\/X.env.scope.names.lookup y=U .local:=by first | exact .inl rfl | exact .inr rfl | assumption) :
  PS X (.Assign [.Name y py] (.ListComp elt (⟨tg,iter,ifs,0⟩::rest) scope pos) spos) (Dx (lM wi g tt tb cap) (AI i)):=by
 intro pins s σ H D I h
 rw[exec_Assign_Name_used _ _ _ _ hsw]
 refine Rc (Sn (Rc ?_))
 show wpAny _ _ (do let _ <- comprehension (.ListComp elt (⟨tg,iter,ifs,0⟩::rest) scope pos) scope X.env _ (newList []) false (eval iter X.env) (U (assign (.Name y py) X.env))) _ _ s
 refine Rc (RF (Ub (use:=U (assign (.Name y py) X.env)) (Q:=λ_ s'=>SP X pins D .next s') rfl hs (gS (B.cells I.ok)) B.kind B.names
  (RF (qa hc B hi hg ht htn hb I h λ_ _ x=>x) (λx s1 h1=>RF h1 (λit s2 h2=>RF h2 (λacc s3 h3=>RF h3 (λcenv s4 h4=>Sx h4 λr s' hr=>?_) λ_ _ x=>x) λ_ _ x=>x) λ_ _ x=>x) λ_ _ x=>x))
  (λ_ s' hq=>Rh (Rh hq)) λ_ _ e=>e)
 obtain⟨p,Hf,m,rfl,rfl,J,q,hn,c1,c2,c3,c4,c5⟩:=hr
 refine wpAny_assign_Name (qU J hN hy hx (v:=.ref p) rfl (λs2 J2 ⟨a,sb,ha⟩=>?_) hf)
 refine⟨m,hn.sameBut sb ?_,λh' sb2=>⟨_,Hf,J2.turned (t':=s2.toks) (λb o hb e=>(sb2.2 b hb).trans e) c1 c2 (.inr c3) c4 c5,q⟩⟩
 rcases ha with rfl | ha
 ·exact c2
 ·exact Ne.symm (c4 _ _ ha)
theorem tB{X:Cx}{iter:Expr}
  (hc:X.calm=true) (B:BlockOk X N' scope cap) (hi:PI X tg iter wi) (hg:∀ C s H fp,PG (di X N' scope C s H fp) tg g) (ht:∀ C s H fp,Be (di X N' scope C s H fp) ifs tt) (he:∀ C s H fp,PE (di X N' scope C s H fp) elt te)
  (hs:∀ x,foldedSetIterable iter X.env x=pure x:=by intro _;rfl):PE X (.ListComp elt [⟨tg,iter,ifs,0⟩] scope pos) (vp wi g tt te cap):=
 oN hc B hi hg ht (λ_ _ _=>compTurn_list ..) (λC s H fp p=>nN (he C s H fp)) hs
theorem jX{X:Cx}{iter:Expr}{spos:Pos}{y:Str}{i:Nat}
  (hN:X.N.Nodup) (hy:X.N[i]?=U y) (hx:Bf X.env.scope y)
  (hc:X.calm=true) (B:BlockOk X N' scope cap) (hi:PI X tg iter wi) (hg:∀ C s H fp,PG (di X N' scope C s H fp) tg g) (ht:∀ C s H fp,Be (di X N' scope C s H fp) ifs tt) (he:∀ C s H fp,PE (di X N' scope C s H fp) elt te)
  (hsw:swapsWith (.ListComp elt [⟨tg,iter,ifs,0⟩] scope pos) (U (.Name y py)) spos.line X.env=pure true:=by rfl)
  (hs:∀ x,foldedSetIterable iter X.env x=pure x:=by intro _;rfl) (hf:X.fn y=true\/X.env.scope.names.lookup y=U .local:=by first | exact .inl rfl | exact .inr rfl | assumption) :
  PS X (.Assign [.Name y py] (.ListComp elt [⟨tg,iter,ifs,0⟩] scope pos) spos) (Dx (vp wi g tt te cap) (AI i)):=
 jc hN hy hx hc B hi hg ht (λ_ _ _=>compTurn_list ..) (λC s H fp p=>nN (he C s H fp)) hsw hs hf
noncomputable def js(x C dx:Addr)(h:Heap):Prop:=∃ oe vs,h.get? x=U oe/\oe.cls=.ref C/\oe.dict=U dx/\oe.data=.fields vs
end L2
namespace M
open L2
noncomputable def vI:Option Int->V
 | none=>.non
 | some i=>.int i
noncomputable def Mo(a:Addr)(h:Heap):Prop:=∃ o,h.get? a=U o/\o.cls=.type "dict"
inductive D where
 | non
 | bl (b:Bool)
 | int (i:Int)
 | str (x:Str)
 | tup (xs:List D)
 | lst (xs:List D)
 | rol (xs:List D)
 | dct (ks:List aJ) (vs:List D)
 | ref (r:Nat)
 | txt
 | obj
 | exc (C:Addr) (fl:Str) (i:Option Int)
inductive mL where
 | lst (xs:List D)
 | dct (ks:List aJ) (vs:List D)
noncomputable abbrev aa:=List mL
structure Fp where
 cs:List Addr
 fb:List Addr
noncomputable def Fp.no(μ:Fp)(a:Addr):Prop:=a∉μ.cs/\a∉μ.fb
noncomputable abbrev ai:=List (Option D)
theorem Ab{α:Type}{N:List α}(hN:N.Nodup){i j:Nat}{x:α}(a:N[i]?=U x)(b:N[j]?=U x):i=j:=by
 obtain⟨h1,e1⟩:=Ri.mp a
 obtain⟨h2,e2⟩:=Ri.mp b
 exact(List.getElem_inj hN).mp (e1.trans e2.symm)
noncomputable def KList(K:W.Frag)(a:Addr)(xs:List V):Prop:=∃ (o:Obj) (its:Array Value) (n:Nat),K.lookup a=U o/\o.cls=.type "list"/\o.dict=Y/\o.data=.seq its n/\its.size<=sizeLine/\Vals xs its.toList
noncomputable def KTup(K:W.Frag)(a:Addr)(xs:List V):Prop:=∃ (o:Obj) (its:Array Value) (n:Nat),K.lookup a=U o/\o.cls=.type "tuple"/\o.dict=Y/\o.data=.seq its n/\its.size<=sizeLine/\Vals xs its.toList
mutual
inductive Rep(K:W.Frag)(μ:Fp)(H:Hp):V->D->Prop
 | non:Rep K μ H .non .non
 | bl (b:Bool):Rep K μ H (.bl b) (.bl b)
 | int (i:Int):Rep K μ H (.int i) (.int i)
 | str (x:Str):Rep K μ H (.str x) (.str x)
 | tup {a:Addr} {vs:List V} {ds:List D} (h:H a=U (.tup vs)) (n:μ.no a) (r:Reps K μ H vs ds):Rep K μ H (.ref a) (.tup ds)
 | ktup {a:Addr} {vs:List V} {ds:List D} (h:KTup K a vs) (r:Reps K μ H vs ds):Rep K μ H (.ref a) (.tup ds)
 | lst {a:Addr} {vs:List V} {ds:List D} (h:H a=U (.lst vs)) (n:μ.no a) (r:Reps K μ H vs ds):Rep K μ H (.ref a) (.lst ds)
 | rol {a:Addr} {vs:List V} {ds:List D} (h:Rd H a (.lst vs)) (n:μ.no a) (r:Reps K μ H vs ds):Rep K μ H (.ref a) (.rol ds)
 | krol {a:Addr} {vs:List V} {ds:List D} (h:KList K a vs) (r:Reps K μ H vs ds):Rep K μ H (.ref a) (.rol ds)
 | dct {a:Addr} {kvs:List (aJ×V)} {ds:List D} (h:H a=U (.dK kvs)) (n:μ.no a) (r:Reps K μ H (kvs.map (·.2)) ds):Rep K μ H (.ref a) (.dct (kvs.map (·.1)) ds)
 | ref {a:Addr} {r:Nat} (h:μ.cs[r]?=U a):Rep K μ H (.ref a) (.ref r)
 | txt (x:Str):Rep K μ H (.str x) .txt
 | obj {a:Addr} (h:H a=U (.ext (Mo a))) (n:μ.no a):Rep K μ H (.ref a) .obj
 | exc {a dx C:Addr} {fl:Str} {i:Option Int} (h:H a=U (.ext (js a C dx))) (n:μ.no a) (h2:H dx=U (.xd [(fl,vI i)])) (n2:μ.no dx):Rep K μ H (.ref a) (.exc C fl i)
inductive Reps(K:W.Frag)(μ:Fp)(H:Hp):List V->List D->Prop
 | nil:Reps K μ H [] []
 | cons {v:V} {d:D} {vs:List V} {ds:List D} (h:Rep K μ H v d) (t:Reps K μ H vs ds):Reps K μ H (v::vs) (d::ds)
end
structure Ext(μ:Fp)(H:Hp)(μ':Fp)(H':Hp):Prop where
 fb:μ'.fb = μ.fb
 pre:∃ l,μ'.cs = μ.cs++l/\∀ a∈l,H a=Y
 keep:∀ a o,a∉μ.cs->H a=U o->H' a=U o
 dom:∀ a∈μ'.cs,H' a≠Y
section
variable{K:W.Frag}{μ μ' μ'':Fp}{H H' H'':Hp}
theorem Ext.stays(e:Ext μ H μ' H'){o:HO}(h:H a=U o)(n:μ.no a):H' a=U o/\μ'.no a:=by
 refine⟨e.keep a o n.1 h,λz=>?_,by rw[e.fb];exact n.2⟩
 obtain⟨l,q,hl⟩:=e.pre
 rw[q] at z
 rcases RE.mp z with z | z
 ·exact n.1 z
 ·rw[hl a z] at h;cases h
theorem Ext.keeps(e:Ext μ H μ' H'){o:HO}(h:H a=U o)(n:a∉μ.cs):H' a=U o/\a∉μ'.cs:=by
 refine⟨e.keep a o n h,λz=>?_⟩
 obtain⟨l,q,hl⟩:=e.pre
 rw[q] at z
 rcases RE.mp z with z | z
 ·exact n z
 ·rw[hl a z] at h;cases h
theorem Ext.trans(e:Ext μ H μ' H')(f:Ext μ' H' μ'' H''):Ext μ H μ'' H'':=by
 obtain⟨l,q,hl⟩:=e.pre
 obtain⟨l',q',hl'⟩:=f.pre
 refine⟨f.fb.trans e.fb,⟨l++l',by rw[q',q,Su],λa ha=>?_⟩,λa o n h=>?_,f.dom⟩
 ·rcases RE.mp ha with ha | ha
  ·exact hl a ha
  ·have h1:=hl' a ha
   cases q2:H a with
   | none=>rfl
   | some o=>
    by_cases hm:a∈μ.cs
    ·exact absurd h1 (e.dom a (by rw[q];exact Sj _ hm))
    ·rw[e.keep a o hm q2] at h1;cases h1
 ·have:=e.keeps h n
  exact f.keep a o this.2 this.1
theorem Ext.refl(h:∀ a∈μ.cs,H a≠Y):Ext μ H μ H:=⟨rfl,⟨[],by simp,λ_ z=>by simp at z⟩,λ_ _ _ h=>h,h⟩
noncomputable def kids:D->List D
 | .tup xs=>xs
 | .lst xs=>xs
 | .rol xs=>xs
 | .dct _ xs=>xs
 | _=>[]
theorem Rep.to{P:D->Prop}(hc:∀ d,P d->∀ x∈kids d,P x)(hk:∀ {a:Addr} {o:HO},H a=U o->μ.no a->H' a=U o/\μ'.no a)(hr:∀ {r:Nat} {a:Addr},P (.ref r)->μ.cs[r]?=U a->μ'.cs[r]?=U a){d:D}(r:Rep K μ H v d):P d->Rep K μ' H' v d:=
 Rep.rec (motive_1:=λv d _=>P d->Rep K μ' H' v d) (motive_2:=λvs ds _=>(∀ d∈ds,P d)->Reps K μ' H' vs ds)
  (λ_=>.non) (λb _=>.bl b) (λi _=>.int i) (λx _=>.str x) (λh n _ ih p=>.tup (hk h n).1 (hk h n).2 (ih (hc _ p))) (λh _ ih p=>.ktup h (ih (hc _ p)))
  (λh n _ ih p=>.lst (hk h n).1 (hk h n).2 (ih (hc _ p))) (λh n _ ih p=>.rol (h.imp (λh=>(hk h n).1) λ⟨o,h⟩=>⟨o,(hk h n).1⟩) (h.elim (λh=>(hk h n).2) λ⟨_,h⟩=>(hk h n).2) (ih (hc _ p))) (λh _ ih p=>.krol h (ih (hc _ p)))
  (λh n _ ih p=>.dct (hk h n).1 (hk h n).2 (ih (hc _ p))) (λh p=>.ref (hr p h)) (λx _=>.txt x) (λh n _=>.obj (hk h n).1 (hk h n).2) (λh n h2 n2 _=>.exc (hk h n).1 (hk h n).2 (hk h2 n2).1 (hk h2 n2).2)
  (λ_=>.nil) (λ_ _ i1 i2 p=>.cons (i1 (p _ Rf)) (i2 λx hx=>p x (Rj _ hx))) r
theorem Reps.ind{Q:List V->List D->Prop}(h0:Q [] [])(h1:∀ {v:V} {d:D} {vs:List V} {ds:List D},Rep K μ H v d->Reps K μ H vs ds->Q vs ds->Q (v::vs) (d::ds)):∀ {vs:List V} {ds:List D},Reps K μ H vs ds->Q vs ds
 | _,_,.nil=>h0
 | _,_,.cons h t=>h1 h t (Reps.ind h0 h1 t)
theorem Reps.to{P:D->Prop}(hR:∀ {v:V} {d:D},Rep K μ H v d->P d->Rep K μ' H' v d)(r:Reps K μ H vs ds):(∀ d∈ds,P d)->Reps K μ' H' vs ds:=
 Reps.ind (Q:=λvs ds=>(∀ d∈ds,P d)->Reps K μ' H' vs ds) (λ_=>.nil) (λh _ i p=>.cons (hR h (p _ Rf)) (i λx hx=>p x (Rj _ hx))) r
theorem Rep.imp(hk:∀ {a:Addr} {o:HO},H a=U o->μ.no a->H' a=U o/\μ'.no a)(hr:∀ {r:Nat} {a:Addr},μ.cs[r]?=U a->μ'.cs[r]?=U a){d:D}(r:Rep K μ H v d):Rep K μ' H' v d:=Rep.to (P:=λ_=>True) (λ_ _ _ _=>trivial) hk (λ_=>hr) r trivial
theorem Reps.imp(hk:∀ {a:Addr} {o:HO},H a=U o->μ.no a->H' a=U o/\μ'.no a)(hr:∀ {r:Nat} {a:Addr},μ.cs[r]?=U a->μ'.cs[r]?=U a)(r:Reps K μ H vs ds):Reps K μ' H' vs ds:=Reps.to (P:=λ_=>True) (λr _=>r.imp hk hr) r λ_ _=>trivial
theorem uU{l m:List Addr}{k:List Addr}(q:k=l++m){r:Nat}{a:Addr}(h:l[r]?=U a):k[r]?=U a:=by
 rw[q,Rx (Ri.mp h).1];exact h
theorem Ext.ix(e:Ext μ H μ' H'){r:Nat}{a:Addr}(h:μ.cs[r]?=U a):μ'.cs[r]?=U a:=by
 obtain⟨l,q,_⟩:=e.pre
 exact uU q h
theorem Rep.mono(e:Ext μ H μ' H'){d:D}(r:Rep K μ H v d):Rep K μ' H' v d:=r.imp e.stays e.ix
theorem Reps.mono(e:Ext μ H μ' H')(r:Reps K μ H vs ds):Reps K μ' H' vs ds:=r.imp e.stays e.ix
theorem Reps.length{vs:List V}{ds:List D}(r:Reps K μ H vs ds):vs.length=ds.length:=Reps.ind (Q:=λvs ds=>vs.length=ds.length) rfl (λ_ _ i=>congrArg (· + 1) i) r
theorem Reps.get:∀ {vs:List V} {ds:List D} {i:Nat} {d:D},Reps K μ H vs ds->ds[i]?=U d->∃ v,vs[i]?=U v/\Rep K μ H v d
 | _,_,_,_,.nil,e=>by simp at e
 | _,_,0,_,.cons h _,e=>by simp at e;subst e;exact⟨_,rfl,h⟩
 | _,_,i+1,d,.cons _ t,e=>by
  obtain⟨u,h1,h2⟩:=Reps.get (i:=i) (d:=d) t (by simpa using e)
  exact⟨u,by simpa using h1,h2⟩
theorem Reps.append(r:Reps K μ H vs ds)(s:Reps K μ H ws es):Reps K μ H (vs++ws) (ds++es):=Reps.ind (Q:=λvs ds=>Reps K μ H (vs++ws) (ds++es)) s (λr _ i=>.cons r i) r
theorem Reps.take:∀ {vs:List V} {ds:List D} (n:Nat),Reps K μ H vs ds->Reps K μ H (vs.take n) (ds.take n)
 | _,_,0,_=>.nil
 | _,_,_+1,.nil=>.nil
 | _,_,n+1,.cons r t=>.cons r (Reps.take n t)
theorem Reps.drop:∀ {vs:List V} {ds:List D} (n:Nat),Reps K μ H vs ds->Reps K μ H (vs.drop n) (ds.drop n)
 | _,_,0,r=>r
 | _,_,_+1,.nil=>.nil
 | _,_,n+1,.cons _ t=>Reps.drop n t
theorem Reps.set{d:D}(r:Rep K μ H x d):∀ {vs:List V} {ds:List D} (i:Nat),Reps K μ H vs ds->Reps K μ H (vs.set i x) (ds.set i d)
 | _,_,_,.nil=>.nil
 | _,_,0,.cons _ t=>.cons r t
 | _,_,i+1,.cons q t=>.cons q (Reps.set r i t)
theorem Reps.flat:∀ (k:Nat) {ds:List D},Reps K μ H xs ds->Reps K μ H (List.replicate k xs).flatten (List.replicate k ds).flatten
 | 0,_,_=>.nil
 | k+1,_,r=>by rw[RP,RP,Ss,Ss];exact r.append (Reps.flat k r)
noncomputable def CellOk(K:W.Frag)(μ:Fp)(H:Hp)(a:Addr):mL->Prop
 | .lst ds=>∃ vs,H a=U (.lst vs)/\Reps K μ H vs ds
 | .dct ks ds=>∃ kvs,H a=U (.dK kvs)/\ks=kvs.map (·.1)/\Reps K μ H (kvs.map (·.2)) ds
structure SOk(K:W.Frag)(μ:Fp)(S:aa)(H:Hp):Prop where
 nd:μ.cs.Nodup
 len:μ.cs.length=S.length
 cell:∀ (r:Nat) (a:Addr) (c:mL),μ.cs[r]?=U a->S[r]?=U c->CellOk K μ H a c
 fdom:∀ a∈μ.fb,H a≠Y
 disj:∀ a∈μ.fb,a∉μ.cs
theorem CellOk.ne_none(h:CellOk K μ H a c):H a≠Y:=by
 cases c with
 | lst ds=>obtain⟨vs,h,_⟩:=h;rw[h];simp
 | dct ks ds=>obtain⟨vs,h,_⟩:=h;rw[h];simp
theorem CellOk.mono(e:Ext μ H μ' H')(he:H' a=H a)(h:CellOk K μ H a c):CellOk K μ' H' a c:=by
 cases c with
 | lst ds=>obtain⟨vs,h,r⟩:=h;exact⟨vs,he.trans h,r.mono e⟩
 | dct ks ds=>obtain⟨vs,h,q,r⟩:=h;exact⟨vs,he.trans h,q,r.mono e⟩
theorem SOk.dom(s:SOk K μ S H):∀ a∈μ.cs,H a≠Y:=λa ha=>by
 obtain⟨r,hr⟩:=Ur.mp ha
 have hl:=(Ri.mp hr).1
 rw[s.len] at hl
 exact(s.cell r a S[r] hr (by simp[hl])).ne_none
theorem SOk.ext(s:SOk K μ S H):Ext μ H μ H:=.refl s.dom
theorem SOk.notMem(s:SOk K μ S H)(h:H p=Y):μ.no p:=⟨λz=>s.dom p z h,λz=>s.fdom p z h⟩
theorem SOk.laid(s:SOk K μ S H)(h:H p=Y):Ext μ H μ (upd H p o)/\SOk K μ S (upd H p o):=by
 have e:Ext μ H μ (upd H p o):=⟨rfl,⟨[],by simp,λ_ z=>by simp at z⟩,λa o' _ q=>by rw[aj (aQ q h)];exact q,λa ha=>by
  by_cases z:a=p
  ·subst z;rw[ah];simp
  ·rw[aj z];exact s.dom a ha⟩
 refine⟨e,s.nd,s.len,λr a c h1 h2=>(s.cell r a c h1 h2).mono e ?_,λa ha=>?_,s.disj⟩
 case refine_2=>
  by_cases z:a=p
  ·subst z;rw[ah];simp
  ·rw[aj z];exact s.fdom a ha
 have:=(s.cell r a c h1 h2).ne_none
 refine aj λz=>?_
 rw[z] at this
 exact this h
theorem SOk.alloc(s:SOk K μ S H)(h:H p=Y)(r:Reps K μ H vs ds):Ext μ H ⟨μ.cs++[p],μ.fb⟩ (upd H p (.lst vs))/\SOk K ⟨μ.cs++[p],μ.fb⟩ (S++[.lst ds]) (upd H p (.lst vs)):=by
 have hp:=s.notMem h
 have e:Ext μ H ⟨μ.cs++[p],μ.fb⟩ (upd H p (.lst vs)):=⟨rfl,⟨[p],rfl,λa z=>by rw[RD.mp z];exact h⟩,λa o' _ q=>by rw[aj (aQ q h)];exact q,λa ha=>by
  by_cases z:a=p
  ·subst z;rw[ah];simp
  ·rw[aj z]
   rcases RE.mp ha with q | q
   ·exact s.dom a q
   ·exact absurd (RD.mp q) z⟩
 refine⟨e,?_,by simp[s.len],λi a c h1 h2=>?_,λa ha=>?_,λa ha z=>?_⟩
 case refine_3=>
  by_cases z:a=p
  ·subst z;rw[ah];simp
  ·rw[aj z];exact s.fdom a ha
 case refine_4=>
  rcases RE.mp z with q | q
  ·exact s.disj a ha q
  ·rw[RD.mp q] at ha;exact hp.2 ha
 ·show(μ.cs++[p]).Nodup
  rw[Tb]
  exact⟨s.nd,by simp,λa ha b hb=>by rw[RD.mp hb];rintro rfl;exact hp.1 ha⟩
 ·have h1:(μ.cs++[p])[i]?=U a:=h1
  by_cases hi:i < μ.cs.length
  ·rw[Rx hi] at h1
   rw[Rx (by rw[<- s.len];exact hi)] at h2
   have q:=s.cell i a c h1 h2
   refine q.mono e (aj λz=>?_)
   exact hp.1 (z ▸ RR h1)
  ·have hl:i = μ.cs.length:=by
    have:=(Ri.mp h1).1
    simp at this;omega
   subst hl
   rw[So (Rn _)] at h1
   rw[s.len,So (Rn _)] at h2
   simp at h1 h2
   subst h1 h2
   exact⟨vs,ah,r.mono e⟩
theorem SOk.write(s:SOk K μ S H){i:Nat}{a:Addr}(hi:μ.cs[i]?=U a)(h:H a=U (.lst vs))(r:Reps K μ H vs' ds):Ext μ H μ (upd H a (.lst vs'))/\SOk K μ (S.set i (.lst ds)) (upd H a (.lst vs')):=by
 have ha:=RR hi
 have e:Ext μ H μ (upd H a (.lst vs')):=⟨rfl,⟨[],by simp,λ_ z=>by simp at z⟩,λb o' n q=>by rw[aj (by rintro rfl;exact n ha)];exact q,λb hb=>by
  by_cases z:b=a
  ·subst z;rw[ah];simp
  ·rw[aj z];exact s.dom b hb⟩
 refine⟨e,s.nd,by simp[s.len],λj b c h1 h2=>?_,λb hb=>?_,s.disj⟩
 case refine_2=>
  by_cases z:b=a
  ·subst z;rw[ah];simp
  ·rw[aj z];exact s.fdom b hb
 by_cases hj:j=i
 ·subst hj
  rw[hi] at h1;cases h1
  have hl:j<S.length:=by rw[<- s.len];exact(Ri.mp hi).1
  rw[Sd hl] at h2
  cases h2
  exact⟨vs',ah,r.mono e⟩
 ·rw[RS (Ne.symm hj)] at h2
  refine(s.cell j b c h1 h2).mono e (aj λz=>hj ?_)
  subst z
  exact Ab s.nd h1 hi
inductive EOk(K:W.Frag)(μ:Fp)(H:Hp):L2.St->ai->Prop
 | nil:EOk K μ H [] []
 | no {x:Option V} {σ:L2.St} {env:ai} (t:EOk K μ H σ env):EOk K μ H (x::σ) (Y::env)
 | yes {v:V} {d:D} {σ:L2.St} {env:ai} (h:Rep K μ H v d) (t:EOk K μ H σ env):EOk K μ H (U v::σ) (U d::env)
theorem EOk.to(hR:∀ {v:V} {d:D},Rep K μ H v d->Rep K μ' H' v d)(h:EOk K μ H σ env):EOk K μ' H' σ env:=by
 induction h with
 | nil=>exact .nil
 | no _ ih=>exact .no ih
 | yes h _ ih=>exact .yes (hR h) ih
theorem EOk.mono(e:Ext μ H μ' H')(h:EOk K μ H σ env):EOk K μ' H' σ env:=h.to (·.mono e)
theorem EOk.get:∀ {σ:L2.St} {env:ai} {i:Nat} {d:D},EOk K μ H σ env->env[i]?=U (U d)->∃ v,σ[i]?=U (U v)/\Rep K μ H v d
 | _,_,_,_,.nil,h=>by simp at h
 | _,_,0,_,.no _,h=>by simp at h
 | _,_,0,_,.yes h _,q=>by simp at q;subst q;exact⟨_,rfl,h⟩
 | _,_,i+1,d,.no t,h=>by
  obtain⟨v,h1,h2⟩:=EOk.get (i:=i) (d:=d) t (by simpa using h)
  exact⟨v,by simpa using h1,h2⟩
 | _,_,i+1,d,.yes _ t,h=>by
  obtain⟨v,h1,h2⟩:=EOk.get (i:=i) (d:=d) t (by simpa using h)
  exact⟨v,by simpa using h1,h2⟩
theorem EOk.set{d:D}(r:Rep K μ H v d):∀ {σ:L2.St} {env:ai} (i:Nat),EOk K μ H σ env->EOk K μ H (σ.set i (Option.some v)) (env.set i (Option.some d))
 | _,_,_,.nil=>.nil
 | _,_,0,.no t=>.yes r t
 | _,_,0,.yes _ t=>.yes r t
 | _,_,i+1,.no t=>.no (EOk.set r i t)
 | _,_,i+1,.yes h t=>.yes h (EOk.set r i t)
theorem EOk.length{σ:L2.St}{env:ai}(h:EOk K μ H σ env):σ.length=env.length:=by induction h<;>simp[*]
theorem EOk.start{N:Nat}:∀ {vs:List V} {ds:List D},Reps K μ H vs ds->EOk K μ H (vs.map Option.some++List.replicate N Option.none) (ds.map Option.some++List.replicate N Option.none)
 | _,_,.nil=>by
  induction N with
  | zero=>exact .nil
  | succ n ih=>exact .no ih
 | _,_,.cons h t=>.yes h (EOk.start t)
theorem EOk.block(h:EOk K μ H σ env):∀ (cap:List (Option Nat)),EOk K μ H (σB cap σ) (cap.map λo=>o.bind λi=>(env[i]?).join)
 | []=>.nil
 | Option.none::r=>.no (EOk.block h r)
 | Option.some i::r=>by
  show EOk K μ H ((σ[i]?).join::σB r σ) ((env[i]?).join::_)
  cases q:(env[i]?).join with
  | none=>exact .no (EOk.block h r)
  | some d=>
   have q':env[i]?=Option.some (Option.some d):=by
    cases z:env[i]? with
    | none=>rw[z] at q;cases q
    | some y=>rw[z] at q;exact congrArg Option.some q
   obtain⟨v,h1,h2⟩:=h.get q'
   rw[h1]
   exact .yes h2 (EOk.block h r)
theorem Ad{p:Addr}{cs fb:List Addr}(n:(⟨cs,p::fb⟩:Fp).no a):(⟨cs,fb⟩:Fp).no a:=⟨n.1,λz=>n.2 (Rj _ z)⟩
theorem Rep.less{p:Addr}{cs fb:List Addr}{d:D}(r:Rep K ⟨cs,p::fb⟩ H v d):Rep K ⟨cs,fb⟩ H v d:=r.imp (λh n=>⟨h,Ad n⟩) λh=>h
theorem Reps.less{p:Addr}{cs fb:List Addr}{d:List D}(r:Reps K ⟨cs,p::fb⟩ H v d):Reps K ⟨cs,fb⟩ H v d:=r.imp (λh n=>⟨h,Ad n⟩) λh=>h
theorem Ac{cs fb:List Addr}(hp:H p=Y){o':HO}(h:H a=U o')(n:(⟨cs,fb⟩:Fp).no a):upd H p o a=U o'/\(⟨cs,p::fb⟩:Fp).no a:=⟨(aj (aQ h hp)).trans h,n.1,λz=>(Rv.mp z).elim (aQ h hp) n.2⟩
theorem Rep.more{cs fb:List Addr}(hp:H p=Y){d:D}(r:Rep K ⟨cs,fb⟩ H v d):Rep K ⟨cs,p::fb⟩ (upd H p o) v d:=r.imp (Ac hp) λh=>h
theorem Reps.more{cs fb:List Addr}(hp:H p=Y){d:List D}(r:Reps K ⟨cs,fb⟩ H v d):Reps K ⟨cs,p::fb⟩ (upd H p o) v d:=r.imp (Ac hp) λh=>h
theorem Fp.no.ne{μ:Fp}{p:Addr}(n:μ.no a)(hp:p∈μ.fb):a≠p:=λz=>n.2 (by rw[z];exact hp)
theorem Rep.chg{p:Addr}(hp:p∈μ.fb){d:D}(r:Rep K μ H v d):Rep K μ (upd H p o) v d:=r.imp (λh n=>⟨(aj (n.ne hp)).trans h,n⟩) λh=>h
theorem Reps.chg{p:Addr}(hp:p∈μ.fb){d:List D}(r:Reps K μ H v d):Reps K μ (upd H p o) v d:=r.imp (λh n=>⟨(aj (n.ne hp)).trans h,n⟩) λh=>h
theorem EOk.more{cs fb:List Addr}(hp:H p=Y)(h:EOk K ⟨cs,fb⟩ H σ env):EOk K ⟨cs,p::fb⟩ (upd H p o) σ env:=h.to (·.more hp)
theorem EOk.chg{p:Addr}(hp:p∈μ.fb)(h:EOk K μ H σ env):EOk K μ (upd H p o) σ env:=h.to (·.chg hp)
theorem CellOk.upd{p a:Addr}(μ':Fp)(hpa:a≠p)(h:CellOk K μ H a c)(f:∀ vs ds,Reps K μ H vs ds->Reps K μ' (upd H p o) vs ds):CellOk K μ' (upd H p o) a c:=by
 cases c with
 | lst ds=>obtain⟨vs,h,r⟩:=h;exact⟨vs,(aj hpa).trans h,f _ _ r⟩
 | dct ks ds=>obtain⟨vs,h,q,r⟩:=h;exact⟨vs,(aj hpa).trans h,q,f _ _ r⟩
theorem SOk.less{p:Addr}{cs fb:List Addr}(s:SOk K ⟨cs,p::fb⟩ S H):SOk K ⟨cs,fb⟩ S H:=
 ⟨s.nd,s.len,λr a c h1 h2=>by
  have:=s.cell r a c h1 h2
  cases c with
  | lst ds=>obtain⟨vs,h,r⟩:=this;exact⟨vs,h,r.less⟩
  | dct ks ds=>obtain⟨vs,h,q,r⟩:=this;exact⟨vs,h,q,r.less⟩,λa ha=>s.fdom a (Rj _ ha),λa ha=>s.disj a (Rj _ ha)⟩
theorem SOk.more{cs fb:List Addr}(s:SOk K ⟨cs,fb⟩ S H)(hp:H p=Y):SOk K ⟨cs,p::fb⟩ S (upd H p o):=by
 have hn:=s.notMem hp
 refine⟨s.nd,s.len,λr a c h1 h2=>(s.cell r a c h1 h2).upd _ (λz=>?_) λvs ds r=>r.more hp,λa ha=>?_,λa ha z=>?_⟩
 ·exact hn.1 (z ▸ RR h1)
 ·by_cases z:a=p
  ·subst z;rw[ah];simp
  ·rw[aj z];exact s.fdom a ((Rv.mp ha).resolve_left z)
 ·rcases Rv.mp ha with rfl | ha
  ·exact hn.1 z
  ·exact s.disj a ha z
theorem SOk.chg{p:Addr}(s:SOk K μ S H)(hp:p∈μ.fb):SOk K μ S (upd H p o):=by
 refine⟨s.nd,s.len,λr a c h1 h2=>(s.cell r a c h1 h2).upd _ (λz=>?_) λvs ds r=>r.chg hp,λa ha=>?_,s.disj⟩
 ·exact s.disj p hp (z ▸ RR h1)
 ·by_cases z:a=p
  ·subst z;rw[ah];simp
  ·rw[aj z];exact s.fdom a ha
end
noncomputable abbrev ME:=ai->aa->Option (D×aa)
noncomputable abbrev MT:=ai->aa->Option (Bool×aa)
noncomputable abbrev MA:=ai->aa->Option (List D×aa)
inductive ny where
 | nx (env:ai) (S:aa)
 | rt (d:D) (S:aa)
 | bk (env:ai) (S:aa)
 | ct (env:ai) (S:aa)
noncomputable abbrev MS:=ai->aa->Option ny
noncomputable def Post(K:W.Frag)(μ:Fp)(H:Hp)(S':aa)(d:D)(Q:VK):Prop:=∀ v H' μ',Ext μ H μ' H'->SOk K μ' S' H'->Rep K μ' H' v d->Q v H'
noncomputable def PostT(K:W.Frag)(μ:Fp)(H:Hp)(S':aa)(b:Bool)(Q:Bool->Hp->Prop):Prop:=∀ H' μ',Ext μ H μ' H'->SOk K μ' S' H'->Q b H'
noncomputable def PostA(K:W.Frag)(μ:Fp)(H:Hp)(S':aa)(ds:List D)(Q:List V->Hp->Prop):Prop:=∀ vs H' μ',Ext μ H μ' H'->SOk K μ' S' H'->Reps K μ' H' vs ds->Q vs H'
noncomputable def PostN(K:W.Frag)(μ:Fp)(H:Hp)(S':aa)(env':ai)(Q:L2.St->Hp->Prop):Prop:=∀ σ' H' μ',Ext μ H μ' H'->SOk K μ' S' H'->EOk K μ' H' σ' env'->Q σ' H'
noncomputable def PostS(K:W.Frag)(μ:Fp)(H:Hp)(o:ny)(E:kA):Prop:=match o with
 | .nx env' S'=>PostN K μ H S' env' E.nx
 | .rt d S'=>Post K μ H S' d E.rt
 | .bk env' S'=>PostN K μ H S' env' E.bk
 | .ct env' S'=>PostN K μ H S' env' E.ct
inductive tM(K:W.Frag)(m:ME)(σ:L2.St)(H:Hp)(Q:VK):Prop
 | mk (μ:Fp) (S:aa) (env:ai) (d:D) (S':aa) (hS:SOk K μ S H) (hE:EOk K μ H σ env) (h:m env S=U (d,S')) (post:Post K μ H S' d Q)
inductive jT(K:W.Frag)(m:MT)(σ:L2.St)(H:Hp)(Q:Bool->Hp->Prop):Prop
 | mk (μ:Fp) (S:aa) (env:ai) (b:Bool) (S':aa) (hS:SOk K μ S H) (hE:EOk K μ H σ env) (h:m env S=U (b,S')) (post:PostT K μ H S' b Q)
inductive tMA(K:W.Frag)(m:MA)(σ:L2.St)(H:Hp)(Q:List V->Hp->Prop):Prop
 | mk (μ:Fp) (S:aa) (env:ai) (ds:List D) (S':aa) (hS:SOk K μ S H) (hE:EOk K μ H σ env) (h:m env S=U (ds,S')) (post:PostA K μ H S' ds Q)
inductive Ng(K:W.Frag)(m:MS)(E:kA)(σ:L2.St)(H:Hp):Prop
 | mk (μ:Fp) (S:aa) (env:ai) (o:ny) (hS:SOk K μ S H) (hE:EOk K μ H σ env) (h:m env S=U o) (post:PostS K μ H o E)
inductive iQ(K:W.Frag)(f:aa->D->D->Option D)(x y:V)(H:Hp)(Q:VK):Prop
 | mk (μ:Fp) (S:aa) (dx dy dz:D) (hS:SOk K μ S H) (h1:Rep K μ H x dx) (h2:Rep K μ H y dy) (h3:f S dx dy=U dz) (post:Post K μ H S dz Q)
inductive rM1(K:W.Frag)(f:aa->D->Option D)(x:V)(H:Hp)(Q:VK):Prop
 | mk (μ:Fp) (S:aa) (dx dz:D) (hS:SOk K μ S H) (h1:Rep K μ H x dx) (h3:f S dx=U dz) (post:Post K μ H S dz Q)
inductive yj(K:W.Frag)(f:List D->aa->Option (D×aa))(vs:List V)(H:Hp)(Q:VK):Prop
 | mk (μ:Fp) (S:aa) (ds:List D) (d:D) (S':aa) (hS:SOk K μ S H) (h1:Reps K μ H vs ds) (h3:f ds S=U (d,S')) (post:Post K μ H S' d Q)
noncomputable def DE(X:Cx)(e:Expr)(m:ME):Prop:=PE X e (tM X.K m)
noncomputable def DT(X:Cx)(e:Expr)(m:MT):Prop:=PT X e (jT X.K m)
noncomputable def DW(X:Cx)(e:Expr)(m:MT):Prop:=PW X e (jT X.K m)
noncomputable def DA(X:Cx)(es:List Expr)(m:MA):Prop:=PA X es (tMA X.K m)
noncomputable def DS(X:Cx)(st:Stmt)(m:MS):Prop:=PS X st (Ng X.K m)
noncomputable def vc(X:Cx)(st:List Stmt)(m:MS):Prop:=PSs X st (Ng X.K m)
section
variable{X:Cx}{K:W.Frag}{μ μ':Fp}{H H':Hp}{S S':aa}
theorem Post.ext{d:D}(e:Ext μ H μ' H')(p:Post K μ H S' d Q):Post K μ' H' S' d Q:=λv H2 μ2 e2 s r=>p v H2 μ2 (e.trans e2) s r
theorem Post.here{d:D}(p:Post K μ H S d Q)(s:SOk K μ S H)(r:Rep K μ H v d):Q v H:=p v H μ s.ext s r
theorem PE.imp{t':TE}(h:PE X e t)(i:∀ σ H Q,t' σ H Q->t σ H Q):PE X e t':=λpins s σ H Q I q=>h pins s σ H Q I (i σ H Q q)
theorem PT.imp{t':TT}(h:PT X e t)(i:∀ σ H Q,t' σ H Q->t σ H Q):PT X e t':=λpins s σ H Q I q=>h pins s σ H Q I (i σ H Q q)
theorem PW.imp{t':TT}(h:PW X e t)(i:∀ σ H Q,t' σ H Q->t σ H Q):PW X e t':=λw pins s σ H Q I q=>h w pins s σ H Q I (i σ H Q q)
theorem PA.imp{t':TA}(h:PA X e t)(i:∀ σ H Q,t' σ H Q->t σ H Q):PA X e t':=λpos pins s σ H Q I q=>h pos pins s σ H Q I (i σ H Q q)
theorem PS.imp{t':TS}(h:PS X e t)(i:∀ E σ H,t' E σ H->t E σ H):PS X e t':=λpins s σ H E I q=>h pins s σ H E I (i E σ H q)
theorem PSs.imp{t':TS}(h:PSs X e t)(i:∀ E σ H,t' E σ H->t E σ H):PSs X e t':=λpins s σ H E I q=>h pins s σ H E I (i E σ H q)
theorem OpR.imp{r':R2}(h:OpR X f r)(i:∀ x y H Q,r' x y H Q->r x y H Q):OpR X f r':=λpins s σ H x y v u Q I rx ry q=>h pins s σ H x y v u Q I rx ry (i x y H Q q)
theorem UnR.imp{r':V->Hp->VK->Prop}(h:UnR X f r)(i:∀ x H Q,r' x H Q->r x H Q):UnR X f r':=λpins s σ H x v Q I rx q=>h pins s σ H x v Q I rx (i x H Q q)
theorem CallR.imp{r':List V->Hp->VK->Prop}(h:CallR X f r)(i:∀ x H Q,r' x H Q->r x H Q):CallR X f r':=λpins s σ H x v Q I rx q=>h pins s σ H x v Q I rx (i x H Q q)
theorem IxR.imp{r':R2}(h:IxR X r)(i:∀ x y H Q,r' x y H Q->r x y H Q):IxR X r':=λva sl pins s σ H x y v u Q I rx ry q=>h va sl pins s σ H x y v u Q I rx ry (i x y H Q q)
noncomputable def ae(i:Nat):ME:=λenv S=>(env[i]?).join.bind λd=>U (d,S)
noncomputable def mC(d:D):ME:=λ_ S=>U (d,S)
theorem BW{α:Type}{o:Option (Option α)}{a:α}(h:o.join=U a):o=U (U a):=by
 cases o with
 | none=>cases h
 | some o=>exact congrArg U h
theorem Hv{i:Nat}{x:Str}(hN:X.N[i]?=U x)(hv:QR X.env.scope x)(hd:(x==("__debug__":Str))=false:=by decide)(hcd:(x==("__classdict__":Str))=false:=by decide):DE X (.Name x pos) (ae i):=
 PE.imp (Er hN hv hd hcd) λσ H Q ⟨μ,S,env,d,S',hS,hE,hm,post⟩=>by
  obtain⟨d',h1,h2⟩:=Rb.mp hm
  cases h2
  obtain⟨v,e,r⟩:=hE.get (BW h1)
  exact⟨v,e,post.here hS r⟩
theorem jv{d:D}(h:PE X e (tC v))(r:∀ μ H,Rep X.K μ H v d):DE X e (mC d):=
 PE.imp h λσ H Q ⟨μ,S,env,d',S',hS,hE,hm,post⟩=>by cases hm;exact post.here hS (r μ H)
theorem Qx{j pos}:DE X (.Constant (.int i) j pos) (mC (.int i)):=jv NV λ_ _=>.int i
theorem de_bl{b j pos}:DE X (.Constant (.bool b) j pos) (mC (.bl b)):=jv pe_bl λ_ _=>.bl b
theorem Qt{j pos}:DE X (.Constant .none j pos) (mC .non):=jv NU λ_ _=>.non
theorem Qq{x j pos}:DE X (.Constant (.str x) j pos) (mC (.str x)):=jv NQ λ_ _=>.str x
structure GC(K:W.Frag)(mg:Str->Option Value)(x:Str)(d:D):Prop where
 ex:∃ u v,mg x=U u/\RelV v u/\∀ μ H,Rep K μ H v d
theorem Lb{d:D}(g:GC X.K X.mg x d)(hg:Gl X x:=by rfl)(hd:(x==("__debug__":Str))=false:=by decide):DE X (.Name x pos) (mC d):=by
 obtain⟨u,v,h1,h2,h3⟩:=g.ex
 exact jv (tz hg h1 h2 hd) h3
noncomputable def aB(f:aa->D->D->Option D)(a b:ME):ME:=λenv S=>(a env S).bind λp=>(b env p.2).bind λq=>(f q.2 p.1 q.1).bind λz=>U (z,q.2)
theorem EQ{S S':aa}{d:D}(h:aB f a b env S=U (d,S')):∃ x S1 y,a env S=U (x,S1)/\b env S1=U (y,S')/\f S' x y=U d:=by
 obtain⟨⟨x,S1⟩,h1,h⟩:=Rb.mp h
 obtain⟨⟨y,S2⟩,h2,h⟩:=Rb.mp h
 obtain⟨z,h3,h⟩:=Rb.mp h
 cases h
 exact⟨x,S1,y,h1,h2,h3⟩
theorem sK{mb:ME}(h:tM K (aB f ma mb) σ H Q):tOp (iQ K f) (tM K ma) (tM K mb) σ H Q:=by
 obtain⟨μ,S,env,d,S',hS,hE,hm,post⟩:=h
 obtain⟨x,S1,y,h1,h2,h3⟩:=EQ hm
 exact⟨μ,S,env,x,S1,hS,hE,h1,λv H1 μ1 e1 s1 r1=>⟨μ1,S1,env,y,S',s1,hE.mono e1,h2,λw H2 μ2 e2 s2 r2=>⟨μ2,S',x,y,d,s2,r1.mono e2,r2,h3,(post.ext e1).ext e2⟩⟩⟩
section
variable{a b c:Expr}{ma mb mc:ME}{pos:Pos}
theorem nr(ho:OpR X (binaryOp op) (iQ X.K f))(ha:DE X a ma)(hb:DE X b mb):DE X (.BinOp a op b pos) (aB f ma mb):=
 PE.imp (pe_op ho ha hb) λ_ _ _ h=>sK h
theorem Qz(ho:OpR X (compareOp op) (iQ X.K f))(ha:DE X a ma)(hb:DE X b mb)(hm:behindInMarks op b=false):DE X (.Compare a [op] [b] pos) (aB f ma mb):=
 PE.imp (Jl ho ha hb hm) λ_ _ _ h=>sK h
noncomputable def aL(m:ME):MT:=λenv S=>(m env S).bind λp=>match p.1 with | .bl k=>U (k,p.2) | _=>Y
theorem oY{S S':aa}{k:Bool}(h:aL m env S=U (k,S')):m env S=U (.bl k,S'):=by
 obtain⟨⟨x,S1⟩,h1,h⟩:=Rb.mp h
 cases x<;>first | (cases h;exact h1) | cases h
theorem Rep.bl_inv{k:Bool}(h:Rep K μ H v (.bl k)):v=.bl k:=by cases h;rfl
theorem Rep.int_inv{k:Int}(h:Rep K μ H v (.int k)):v=.int k:=by cases h;rfl
theorem Rep.str_inv{k:Str}(h:Rep K μ H v (.str k)):v=.str k:=by cases h;rfl
theorem Qg(ho:OpR X (compareOp op) (iQ X.K f))(ha:DE X a ma)(hb:DE X b mb)(hm:behindInMarks op b=false):DT X (.Compare a [op] [b] pos) (aL (aB f ma mb)):=
 PT.imp (IV ho ha hb hm) λσ H Q ⟨μ,S,env,k,S',hS,hE,hm,post⟩=>by
  have h:=oY hm
  refine sK ⟨μ,S,env,_,S',hS,hE,h,λv H' μ' e s r=>?_⟩
  exact⟨k,r.bl_inv,post H' μ' e s⟩
noncomputable def bG(f g:aa->D->D->Option D)(a b c:ME):ME:=λenv S=>(a env S).bind λp=>(b env p.2).bind λq=>(f q.2 p.1 q.1).bind λz=>match z with
 | .bl true=>(c env q.2).bind λr=>(g r.2 q.1 r.1).bind λz=>U (z,r.2)
 | .bl false=>U (.bl false,q.2)
 | _=>Y
theorem qQ(h:tM K (bG f g ma mb mc) σ H Q):yd (iQ K f) (iQ K g) (tM K ma) (tM K mb) (tM K mc) σ H Q:=by
 obtain⟨μ,S,env,d,S',hS,hE,hm,post⟩:=h
 obtain⟨⟨x,S1⟩,h1,hm⟩:=Rb.mp hm
 obtain⟨⟨y,S2⟩,h2,hm⟩:=Rb.mp hm
 obtain⟨z,h3,hm⟩:=Rb.mp hm
 refine⟨μ,S,env,x,S1,hS,hE,h1,λv H1 μ1 e1 s1 r1=>⟨μ1,S1,env,y,S2,s1,hE.mono e1,h2,λw H2 μ2 e2 s2 r2=>⟨μ2,S2,x,y,z,s2,r1.mono e2,r2,h3,λu H3 μ3 e3 s3 r3=>?_⟩⟩⟩
 cases z with
 | bl k=>
  refine⟨k,r3.bl_inv,?_⟩
  cases k with
  | false=>cases hm;rw[RH Rq];exact post _ H3 μ3 ((e1.trans e2).trans e3) s3 (.bl false)
  | true=>
   obtain⟨⟨t,S4⟩,h4,hm⟩:=Rb.mp hm
   obtain⟨z,h5,hm⟩:=Rb.mp hm
   cases hm
   rw[Ru rfl]
   exact⟨μ3,S2,env,t,S4,s3,hE.mono ((e1.trans e2).trans e3),h4,λu' H4 μ4 e4 s4 r4=>⟨μ4,_,y,t,_,s4,(r2.mono e3).mono e4,r4,h5,post.ext (((e1.trans e2).trans e3).trans e4)⟩⟩
 | _=>cases hm
theorem HI(ho:OpR X (compareOp op) (iQ X.K f))(ho':OpR X (compareOp op') (iQ X.K g))(ha:DE X a ma)(hb:DE X b mb)(hc:DE X c mc)
  (hm:lastMarks [op,op'] [b,c]=false:=by with_unfolding_all rfl):DE X (.Compare a [op,op'] [b,c] pos) (bG f g ma mb mc):=
 PE.imp (Ex ho ho' ha hb hc hm) λ_ _ _ h=>qQ h
theorem GZ(ho:OpR X (compareOp op) (iQ X.K f))(ho':OpR X (compareOp op') (iQ X.K g))(ha:DE X a ma)(hb:DE X b mb)(hc:DE X c mc)
  (hm:lastMarks [op,op'] [b,c]=false:=by with_unfolding_all rfl):DT X (.Compare a [op,op'] [b,c] pos) (aL (bG f g ma mb mc)):=
 PT.imp (Eh ho ho' ha hb hc hm) λσ H Q ⟨μ,S,env,k,S',hS,hE,hm,post⟩=>by
  have h:=oY hm
  refine qQ ⟨μ,S,env,_,S',hS,hE,h,λv H' μ' e s r=>?_⟩
  exact⟨k,r.bl_inv,post H' μ' e s⟩
noncomputable def oz(S:aa):D->Option Bool
 | .non=>U false
 | .bl b=>U b
 | .int i=>U (i != 0)
 | .str y=>if y.length<=sizeLine then U ((y.length:Int) != 0) else Y
 | .tup xs=>U (!xs.isEmpty)
 | .lst xs=>U (!xs.isEmpty)
 | .rol xs=>U (!xs.isEmpty)
 | .dct ks _=>U (!ks.isEmpty)
 | .ref r=>match S[r]? with
  | some (.lst xs)=>U (!xs.isEmpty)
  | some (.dct ks _)=>U (!ks.isEmpty)
  | none=>Y
 | .txt=>Y
 | .obj=>Y
 | .exc _ _ _=>Y
theorem Reps.isEmpty{vs:List V}{ds:List D}(r:Reps K μ H vs ds):(!ds.isEmpty) = !vs.isEmpty:=by cases r<;>rfl
theorem mS{α β:Type}(f:α->β)(l:List α):(!(l.map f).isEmpty) = !l.isEmpty:=by cases l<;>rfl
theorem nK{d:D}{k:Bool}(s:SOk K μ S H)(r:Rep K μ H x d)(h:oz S d=U k):Dg K x H k:=by
 cases r with
 | non=>cases h;rfl
 | bl b=>cases h;rfl
 | int i=>cases h;rfl
 | str y=>
  simp only[oz] at h
  split at h
  ·rename_i hy;cases h;exact⟨hy,rfl⟩
  ·cases h
 | @tup a vs ds h' n r=>cases h;exact .inr (.inl ⟨vs,.inl (.inl h'),r.isEmpty⟩)
 | @ktup a vs ds h' r=>cases h;exact .inr (.inl ⟨vs,.inr h',r.isEmpty⟩)
 | @lst a vs ds h' n r=>cases h;exact .inl ⟨vs,.inl (.inl h'),r.isEmpty⟩
 | @rol a vs ds h' n r=>cases h;exact .inl ⟨vs,.inl h',r.isEmpty⟩
 | @krol a vs ds h' r=>cases h;exact .inl ⟨vs,.inr h',r.isEmpty⟩
 | @dct a kvs ds h' n r=>cases h;exact .inr (.inr ⟨kvs,h',mS _ _⟩)
 | txt x=>cases h
 | obj h' n=>cases h
 | exc h' n h2 n2=>cases h
 | @ref a i h'=>
  simp only[oz] at h
  cases q:S[i]? with
  | none=>rw[q] at h;cases h
  | some c=>
   rw[q] at h
   have ck:=s.cell i a c h' q
   cases c with
   | lst xs=>cases h;obtain⟨vs,e,r⟩:=ck;exact .inl ⟨vs,.inl (.inl e),r.isEmpty⟩
   | dct ks xs=>cases h;obtain⟨kvs,e,rfl,r⟩:=ck;exact .inr (.inr ⟨kvs,e,mS _ _⟩)
noncomputable def cF(m:ME):MT:=λenv S=>(m env S).bind λp=>(oz p.2 p.1).bind λk=>U (k,p.2)
theorem xt(ha:DE X a ma)(he:∀ whole,isTrue a X.env whole=(do let v <- whole;standAt a.pos;holding [v] (truthy v)):=by intro _;rfl):DT X a (cF ma):=
 PT.imp (Eg ha he) λσ H Q ⟨μ,S,env,k,S',hS,hE,hm,post⟩=>by
  obtain⟨⟨x,S1⟩,h1,hm⟩:=Rb.mp hm
  obtain⟨k',h2,hm⟩:=Rb.mp hm
  cases hm
  exact⟨μ,S,env,x,S1,hS,hE,h1,λv H' μ' e s r=>⟨k,nK s r h2,post H' μ' e s⟩⟩
variable{ta tb tc:MT}{rest:List Expr}
noncomputable def cR(a b:MT):MT:=λenv S=>(a env S).bind λp=>if p.1=true then b env p.2 else U (false,p.2)
noncomputable def fq(a b:MT):MT:=λenv S=>(a env S).bind λp=>if p.1=true then U (true,p.2) else b env p.2
noncomputable def cw(a:MT):MT:=λenv S=>(a env S).bind λp=>U (!p.1,p.2)
theorem IC(h:jT K (cR ta tb) σ H Q):tAnd (jT K ta) (jT K tb) σ H Q:=by
 obtain⟨μ,S,env,k,S',hS,hE,hm,post⟩:=h
 obtain⟨⟨x,S1⟩,h1,hm⟩:=Rb.mp hm
 refine⟨μ,S,env,x,S1,hS,hE,h1,λH1 μ1 e1 s1=>?_⟩
 cases x with
 | true=>rw[Ru rfl] at hm ⊢;exact⟨μ1,S1,env,k,S',s1,hE.mono e1,hm,λH2 μ2 e2 s2=>post H2 μ2 (e1.trans e2) s2⟩
 | false=>rw[RH Rq] at hm ⊢;cases hm;exact post H1 μ1 e1 s1
theorem Nf(h:jT K (fq ta tb) σ H Q):tOr (jT K ta) (jT K tb) σ H Q:=by
 obtain⟨μ,S,env,k,S',hS,hE,hm,post⟩:=h
 obtain⟨⟨x,S1⟩,h1,hm⟩:=Rb.mp hm
 refine⟨μ,S,env,x,S1,hS,hE,h1,λH1 μ1 e1 s1=>?_⟩
 cases x with
 | false=>rw[RH Rq] at hm ⊢;exact⟨μ1,S1,env,k,S',s1,hE.mono e1,hm,λH2 μ2 e2 s2=>post H2 μ2 (e1.trans e2) s2⟩
 | true=>rw[Ru rfl] at hm ⊢;cases hm;exact post H1 μ1 e1 s1
theorem AU(ha:DT X a ta):DW X (.BoolOp .And [a] pos) ta:=IN ha
theorem GW(ha:DT X a ta):DW X (.BoolOp .Or [a] pos) ta:=NE ha
theorem GX(ha:DT X a ta)(hb:DW X (.BoolOp .And (b::rest) pos) tb):DW X (.BoolOp .And (a::b::rest) pos) (cR ta tb):=PW.imp (NF ha hb) λ_ _ _ h=>IC h
theorem My(ha:DT X a ta)(hb:DW X (.BoolOp .Or (b::rest) pos) tb):DW X (.BoolOp .Or (a::b::rest) pos) (fq ta tb):=PW.imp (pw_or ha hb) λ_ _ _ h=>Nf h
theorem KA(h:DW X a ta):DT X a ta:=PW.pt h
theorem Qf(ha:DT X a ta):DT X (.UnaryOp .Not a pos) (cw ta):=PT.imp (NH ha) λσ H Q ⟨μ,S,env,k,S',hS,hE,hm,post⟩=>by
 obtain⟨⟨x,S1⟩,h1,hm⟩:=Rb.mp hm
 cases hm
 exact⟨μ,S,env,x,S1,hS,hE,h1,λH1 μ1 e1 s1=>post H1 μ1 e1 s1⟩
noncomputable def gc(a b:ME):ME:=λenv S=>(a env S).bind λp=>match p.1 with | .bl true=>b env p.2 | .bl false=>U (.bl false,p.2) | _=>Y
noncomputable def vb(a b:ME):ME:=λenv S=>(a env S).bind λp=>match p.1 with | .bl false=>b env p.2 | .bl true=>U (.bl true,p.2) | _=>Y
theorem HA{op}(h:DE X a ma):DE X (.BoolOp op [a] pos) ma:=NT h
noncomputable def fM(a:ME):ME:=λenv S=>(a env S).bind λp=>match p.1 with | .bl k=>U (.bl (!k),p.2) | _=>Y
noncomputable def nU(t:MT)(a b:ME):ME:=λenv S=>(t env S).bind λp=>if p.1=true then a env p.2 else b env p.2
theorem de_if(hc:DT X c tc)(ha:DE X a ma)(hb:DE X b mb):DE X (.IfExp c a b pos) (nU tc ma mb):=PE.imp (Eu hc ha hb) λσ H Q ⟨μ,S,env,d,S',hS,hE,hm,post⟩=>by
 obtain⟨⟨x,S1⟩,h1,hm⟩:=Rb.mp hm
 refine⟨μ,S,env,x,S1,hS,hE,h1,λH1 μ1 e1 s1=>?_⟩
 cases x with
 | true=>rw[Ru rfl] at hm ⊢;exact⟨μ1,S1,env,d,S',s1,hE.mono e1,hm,post.ext e1⟩
 | false=>rw[RH Rq] at hm ⊢;exact⟨μ1,S1,env,d,S',s1,hE.mono e1,hm,post.ext e1⟩
variable{es:List Expr}{ms:MA}
noncomputable def af:MA:=λ_ S=>U ([],S)
noncomputable def ac(a:ME)(r:MA):MA:=λenv S=>(a env S).bind λp=>(r env p.2).bind λq=>U (p.1::q.1,q.2)
theorem QC:DA X [] af:=PA.imp oO λσ H Q ⟨μ,S,env,d,S',hS,hE,hm,post⟩=>by cases hm;exact post [] H μ hS.ext hS .nil
theorem Ll(ha:DE X a ma)(hr:DA X es ms)(hs:starEach (a::es) X.env=(false,eval a X.env)::starEach es X.env:=by rfl):DA X (a::es) (ac ma ms):=PA.imp (gF ha hr hs) λσ H Q ⟨μ,S,env,ds,S',hS,hE,hm,post⟩=>by
 obtain⟨⟨x,S1⟩,h1,hm⟩:=Rb.mp hm
 obtain⟨⟨xs,S2⟩,h2,hm⟩:=Rb.mp hm
 cases hm
 exact⟨μ,S,env,x,S1,hS,hE,h1,λv H1 μ1 e1 s1 r1=>⟨μ1,S1,env,xs,S2,s1,hE.mono e1,h2,λvs H2 μ2 e2 s2 r2=>post (v::vs) H2 μ2 (e1.trans e2) s2 (.cons (r1.mono e2) r2)⟩⟩
noncomputable def bj(ms:MA):ME:=λenv S=>(ms env S).bind λp=>if p.1.length<=sizeLine then U (.tup p.1,p.2) else Y
noncomputable def bQ(ms:MA):ME:=λenv S=>(ms env S).bind λp=>if p.1.length<=sizeLine then U (.lst p.1,p.2) else Y
noncomputable def dJ(ms:MA):ME:=λenv S=>(ms env S).bind λp=>if p.1.length<=sizeLine then U (.ref p.2.length,p.2++[.lst p.1]) else Y
theorem Post.tup(post:Post K μ H S (.tup ds) Q)(s:SOk K μ S H)(hp:H p=Y)(r:Reps K μ H vs ds):Q (.ref p) (upd H p (.tup vs)):=by
 obtain⟨e,s'⟩:=s.laid (o:=.tup vs) hp
 exact post _ _ _ e s' (.tup ah (s.notMem hp) (r.mono e))
theorem Post.lst(post:Post K μ H S (.lst ds) Q)(s:SOk K μ S H)(hp:H p=Y)(r:Reps K μ H vs ds):Q (.ref p) (upd H p (.lst vs)):=by
 obtain⟨e,s'⟩:=s.laid (o:=.lst vs) hp
 exact post _ _ _ e s' (.lst ah (s.notMem hp) (r.mono e))
theorem Post.lstR(post:Post K μ H (S++[.lst ds]) (.ref S.length) Q)(s:SOk K μ S H)(hp:H p=Y)(r:Reps K μ H vs ds):Q (.ref p) (upd H p (.lst vs)):=by
 obtain⟨e,s'⟩:=s.alloc hp r
 exact post _ _ _ e s' (.ref (by rw[<- s.len,So (Rn _)];simp))
theorem Qp{k}(h:DA X es ms):DE X (.Tuple es k pos) (bj ms):=PE.imp (Es h) λσ H Q ⟨μ,S,env,d,S',hS,hE,hm,post⟩=>by
 obtain⟨⟨xs,S1⟩,h1,hm⟩:=Rb.mp hm
 dsimp only at hm
 split at hm
 ·rename_i hl
  cases hm
  exact⟨μ,S,env,_,_,hS,hE,h1,λvs H1 μ1 e1 s1 r1=>⟨by rw[r1.length];exact hl,λp hp=>(post.ext e1).tup s1 hp r1⟩⟩
 ·cases hm
theorem Qu(h:DA X es ms):DE X (.List es pos) (bQ ms):=PE.imp (Et h) λσ H Q ⟨μ,S,env,d,S',hS,hE,hm,post⟩=>by
 obtain⟨⟨xs,S1⟩,h1,hm⟩:=Rb.mp hm
 dsimp only at hm
 split at hm
 ·rename_i hl
  cases hm
  exact⟨μ,S,env,_,_,hS,hE,h1,λvs H1 μ1 e1 s1 r1=>⟨by rw[r1.length];exact hl,λp hp=>(post.ext e1).lst s1 hp r1⟩⟩
 ·cases hm
theorem KZ(h:DA X es ms):DE X (.List es pos) (dJ ms):=PE.imp (Et h) λσ H Q ⟨μ,S,env,d,S',hS,hE,hm,post⟩=>by
 obtain⟨⟨xs,S1⟩,h1,hm⟩:=Rb.mp hm
 dsimp only at hm
 split at hm
 ·rename_i hl
  cases hm
  exact⟨μ,S,env,_,_,hS,hE,h1,λvs H1 μ1 e1 s1 r1=>⟨by rw[r1.length];exact hl,λp hp=>(post.ext e1).lstR s1 hp r1⟩⟩
 ·cases hm
theorem Ld:DE X (.Dict [] [] pos) (mC (.dct [] [])):=PE.imp Ew λσ H Q ⟨μ,S,env,d,S',hS,hE,hm,post⟩=>by
 cases hm
 intro p hp
 obtain⟨e,s'⟩:=hS.laid (o:=.dK []) hp
 exact post _ _ _ e s' (.dct (kvs:=[]) ah (hS.notMem hp) .nil)
end
end
mutual
noncomputable def iT:D->D->Bool
 | .non,.non=>true
 | .bl a,.bl b=>a==b
 | .bl a,.int b=>(if a then 1 else 0)==b
 | .int a,.bl b=>a==(if b then 1 else 0)
 | .int a,.int b=>a==b
 | .str a,.str b=>a==b
 | .tup xs,.tup ys=>eqDs xs ys
 | .lst xs,.lst ys=>eqDs xs ys
 | _,_=>false
noncomputable def eqDs:List D->List D->Bool
 | [],[]=>true
 | x::xs,y::ys=>iT x y&&eqDs xs ys
 | _,_=>false
end
noncomputable def bv:Nat->D->Bool
 | _,.non=>true
 | _,.bl _=>true
 | _,.int _=>true
 | _,.str _=>true
 | n+1,.tup xs=>xs.all (bv n)
 | n+1,.lst xs=>xs.all (bv n)
 | _,_=>false
theorem oQ:∀ {n m:Nat} {d:D},n<=m->bv n d=true->bv m d=true
 | n,m,.non,_,_=>by simp[bv]
 | n,m,.bl _,_,_=>by simp[bv]
 | n,m,.int _,_,_=>by simp[bv]
 | n,m,.str _,_,_=>by simp[bv]
 | 0,m,.tup _,_,h=>by simp[bv] at h
 | 0,m,.lst _,_,h=>by simp[bv] at h
 | n+1,m+1,.tup xs,hl,h=>by
  simp only[bv,RI] at h ⊢
  exact λd hd=>oQ (VR hl) (h d hd)
 | n+1,m+1,.lst xs,hl,h=>by
  simp only[bv,RI] at h ⊢
  exact λd hd=>oQ (VR hl) (h d hd)
 | n+1,0,.tup _,hl,_=>absurd hl (by omega)
 | n+1,0,.lst _,hl,_=>absurd hl (by omega)
 | n,m,.rol _,_,h=>by cases n<;>simp[bv] at h
 | n,m,.txt,_,h=>by cases n<;>simp[bv] at h
 | n,m,.obj,_,h=>by cases n<;>simp[bv] at h
 | n,m,.exc _ _ _,_,h=>by cases n<;>simp[bv] at h
 | n,m,.dct _ _,_,h=>by cases n<;>simp[bv] at h
 | n,m,.ref _,_,h=>by cases n<;>simp[bv] at h
theorem uK:∀ (xs ys:List D),eqDs xs ys=((List.range (min xs.length ys.length)).all (λj=>match xs[j]?,ys[j]? with | some a,U b=>iT a b | _,_=>true)&&xs.length==ys.length)
 | [],[]=>rfl
 | [],y::ys=>by simp[eqDs]
 | x::xs,[]=>by simp[eqDs]
 | x::xs,y::ys=>by
  have ih:=uK xs ys
  rw[eqDs,ih]
  have hm:min (x::xs).length (y::ys).length=min xs.length ys.length+1:=by simp only[Rr];omega
  rw[hm,List.range_succ_eq_map,Sz,List.all_map]
  simp only[List.getElem?_cons_zero,Rr,Bool.and_assoc]
  congr 1
  congr 1
  rw[Bool.eq_iff_iff];simp
section
variable{X:Cx}{pins:List (Addr×Obj)}{σ:L2.St}{H:Hp}{s:Shared}{μ:Fp}{A:Around}
theorem Rep.sqT{K:W.Frag}(r:Rep K μ H v (.tup ds)):∃ a vs,v=.ref a/\iP K H a vs/\Reps K μ H vs ds:=by
 cases r with
 | tup h n r=>exact⟨_,_,rfl,.inl (.inl h),r⟩
 | ktup h r=>exact⟨_,_,rfl,.inr h,r⟩
theorem Rep.sqL{K:W.Frag}(r:Rep K μ H v (.lst ds)):∃ a vs,v=.ref a/\H a=U (.lst vs)/\μ.no a/\Reps K μ H vs ds:=by
 cases r with
 | lst h n r=>exact⟨_,_,rfl,h,n,r⟩
theorem Rep.sqR{K:W.Frag}(r:Rep K μ H v (.rol ds)):∃ a vs,v=.ref a/\gT K H a vs/\Reps K μ H vs ds:=by
 cases r with
 | rol h n r=>exact⟨_,_,rfl,.inl h,r⟩
 | krol h r=>exact⟨_,_,rfl,.inr h,r⟩
theorem ntl(I:Inv X pins σ H s)(h:iP X.K H a xs)(h':gT X.K H a ys):False:=by
 obtain⟨its,_,⟨o,e,c,_⟩,_⟩:=I.tuple h
 obtain⟨its',_,⟨o',n',e',c',_⟩,_⟩:=I.list h'
 rw[e] at e';cases e'
 rw[c] at c'
 exact absurd c' (by simp)
theorem Rep.non_inv{K:W.Frag}(h:Rep K μ H v .non):v=.non:=by cases h;rfl
theorem zV:bv n (.rol xs)=false:=by cases n<;>rfl
theorem zZ:bv n (.dct ks xs)=false:=by cases n<;>rfl
theorem zW:bv n (.ref r)=false:=by cases n<;>rfl
theorem zU:bv n .txt=false:=by cases n<;>rfl
theorem zX:bv n .obj=false:=by cases n<;>rfl
theorem zY:bv n (.exc C fl i)=false:=by cases n<;>rfl
theorem nO(h:bv n (.tup xs)=true):∃ m,m+1=n/\∀ x∈xs,bv m x=true:=by
 cases n with
 | zero=>cases h
 | succ n=>exact⟨n,rfl,RI.mp h⟩
theorem nP(h:bv n (.lst xs)=true):∃ m,m+1=n/\∀ x∈xs,bv m x=true:=by
 cases n with
 | zero=>cases h
 | succ n=>exact⟨n,rfl,RI.mp h⟩
inductive Fm(K:W.Frag)(μ:Fp)(H:Hp):D->V->Prop
 | non:Fm K μ H .non .non
 | bl (b:Bool):Fm K μ H (.bl b) (.bl b)
 | int (i:Int):Fm K μ H (.int i) (.int i)
 | str (x:Str):Fm K μ H (.str x) (.str x)
 | tup {xs:List D} {l:Addr} {vs:List V} (q:iP K H l vs) (r:Reps K μ H vs xs):Fm K μ H (.tup xs) (.ref l)
 | lst {xs:List D} {l:Addr} {vs:List V} (q:gT K H l vs) (r:Reps K μ H vs xs):Fm K μ H (.lst xs) (.ref l)
theorem nh{K:W.Frag}(hx:bv n x=true)(r:Rep K μ H a x):Fm K μ H x a:=by
 cases x with
 | non=>rw[r.non_inv];exact .non
 | bl b=>rw[r.bl_inv];exact .bl b
 | int b=>rw[r.int_inv];exact .int b
 | str b=>rw[r.str_inv];exact .str b
 | tup xs=>obtain⟨l,vs,rfl,q,r⟩:=r.sqT;exact .tup q r
 | lst xs=>obtain⟨l,vs,rfl,q,_,r⟩:=r.sqL;exact .lst (.inl (.inl q)) r
 | rol _=>rw[zV] at hx;cases hx
 | dct _ _=>rw[zZ] at hx;cases hx
 | ref _=>rw[zW] at hx;cases hx
 | txt=>rw[zU] at hx;cases hx
 | obj=>rw[zX] at hx;cases hx
 | exc C fl i=>rw[zY] at hx;cases hx
theorem Reps.injN{K:W.Frag}(ih:∀ {v:V} {x y:D},bv n x=true->bv n y=true->Rep K μ H v x->Rep K μ H v y->x=y):∀ {vs:List V} {xs ys:List D},(∀ x∈xs,bv n x=true)->(∀ y∈ys,bv n y=true)->Reps K μ H vs xs->Reps K μ H vs ys->xs=ys
 | _,_,_,_,_,.nil,.nil=>rfl
 | _,_,_,hx,hy,.cons h t,.cons h' t'=>by
  rw[ih (hx _ Rf) (hy _ Rf) h h',Reps.injN ih (λx m=>hx x (Rj _ m)) (λx m=>hy x (Rj _ m)) t t']
theorem wW(I:Inv X pins σ H s)(n:Nat)(ih:∀ m,m+1=n->∀ {v:V} {x y:D},bv m x=true->bv m y=true->Rep X.K μ H v x->Rep X.K μ H v y->x=y)(hx:bv n x=true)(hy:bv n y=true)(rx:Rep X.K μ H v x)(ry:Rep X.K μ H v y):x=y:=by
 have fy:=nh hy ry
 cases x with
 | tup xs=>
  obtain⟨a,vs,rfl,q,r⟩:=rx.sqT
  obtain⟨m,hm,ox⟩:=nO hx
  cases fy with
  | tup q' r'=>
   cases I.tuple_inj q' q
   obtain⟨m',hm',oy⟩:=nO hy
   have:m'=m:=by omega
   subst this
   rw[Reps.injN (ih m' hm) ox oy r r']
  | lst q' _=>exact(ntl I q q').elim
 | lst xs=>
  obtain⟨a,vs,rfl,q,_,r⟩:=rx.sqL
  obtain⟨m,hm,ox⟩:=nP hx
  cases y with
  | lst ys=>
   obtain⟨m',hm',oy⟩:=nP hy
   have:m'=m:=by omega
   subst this
   obtain⟨a',vs',e,q',_,r'⟩:=ry.sqL
   cases e
   rw[q] at q';cases q'
   rw[Reps.injN (ih m' hm) ox oy r r']
  | _=>cases fy<;>exact(ntl I (by assumption) (.inl (.inl q))).elim
 | non=>rw[rx.non_inv] at fy;cases fy;rfl
 | bl b=>rw[rx.bl_inv] at fy;cases fy;rfl
 | int b=>rw[rx.int_inv] at fy;cases fy;rfl
 | str b=>rw[rx.str_inv] at fy;cases fy;rfl
 | rol _=>rw[zV] at hx;cases hx
 | dct _ _=>rw[zZ] at hx;cases hx
 | ref _=>rw[zW] at hx;cases hx
 | txt=>rw[zU] at hx;cases hx
 | obj=>rw[zX] at hx;cases hx
 | exc C fl i=>rw[zY] at hx;cases hx
theorem Rep.inj(I:Inv X pins σ H s)(n:Nat):∀ {v:V} {x y:D},bv n x=true->bv n y=true->Rep X.K μ H v x->Rep X.K μ H v y->x=y:=by
 induction n with
 | zero=>exact λhx hy rx ry=>wW I 0 (λm h=>absurd h (Nat.succ_ne_zero m)) hx hy rx ry
 | succ n ih=>exact λhx hy rx ry=>wW I (n+1) (λm h=>by cases h;exact ih) hx hy rx ry
theorem ju:∀ (n:Nat) (x:D),bv n x=true->iT x x=true
 | n,.non,_=>rfl
 | n,.bl _,_=>by simp[iT]
 | n,.int _,_=>by simp[iT]
 | n,.str _,_=>by simp[iT]
 | 0,.tup _,h=>by simp[bv] at h
 | 0,.lst _,h=>by simp[bv] at h
 | n+1,.tup xs,h=>by
  simp only[bv,RI] at h
  rw[iT]
  induction xs with
  | nil=>rfl
  | cons x xs ih=>rw[eqDs,ju n x (h x Rf),ih λy m=>h y (Rj _ m)];rfl
 | n+1,.lst xs,h=>by
  simp only[bv,RI] at h
  rw[iT]
  induction xs with
  | nil=>rfl
  | cons x xs ih=>rw[eqDs,ju n x (h x Rf),ih λy m=>h y (Rj _ m)];rfl
 | n,.rol _,h=>by cases n<;>simp[bv] at h
 | n,.txt,h=>by cases n<;>simp[bv] at h
 | n,.obj,h=>by cases n<;>simp[bv] at h
 | n,.exc _ _ _,h=>by cases n<;>simp[bv] at h
 | n,.dct _ _,h=>by cases n<;>simp[bv] at h
 | n,.ref _,h=>by cases n<;>simp[bv] at h
open PySem.SeqAt
theorem rX(A:Around):A.in1.units=A.units+1:=rfl
theorem rT{P:Value->Value->Bool->Prop}(r1:Vals vs its)(q1:Reps X.K μ H vs xs)(r2:Vals ws its2)(q2:Reps X.K μ H ws ys)
  (h:∀ (j:Nat) (v w:V) (u u':Value) (x y:D),xs[j]?=U x->ys[j]?=U y->Rep X.K μ H v x->Rep X.K μ H w y->RelV v u->RelV w u'->P u u' (iT x y)) :
  ∀ j (h1:j<its.toArray.size) (h2:j<its2.toArray.size),P its.toArray[j] its2.toArray[j] (match xs[j]?,ys[j]? with | some a,U b=>iT a b | _,_=>true):=λj h1 h2=>by
 have l1:=r1.length
 have l2:=r2.length
 have m1:=q1.length
 have m2:=q2.length
 have h1':j<its.length:=by simpa using h1
 have h2':j<its2.length:=by simpa using h2
 have hx:xs[j]?=U xs[j]:=Rp (by omega)
 have hy:ys[j]?=U ys[j]:=Rp (by omega)
 obtain⟨v,e1,p1⟩:=q1.get hx
 obtain⟨w,e2,p2⟩:=q2.get hy
 obtain⟨u,f1,g1⟩:=r1.get e1
 obtain⟨u',f2,g2⟩:=r2.get e2
 rw[hx,hy]
 have:=h j v w u u' _ _ hx hy p1 p2 g1 g2
 have f1':its.toArray[j]=u:=by simpa[Rp h1'] using f1
 have f2':its2.toArray[j]=u':=by simpa[Rp h2'] using f2
 rw[f1',f2']
 exact this
structure Ra(A:Around)(s:Shared)(u v:Value)(b:Bool):Prop where
 eq:EqAt A s u v b
 rc:RcAt A s u v b
 ne:RcNeAt A s u v (!b)
theorem AS(I:Inv X pins σ H s)(n:Nat)(ih:∀ m,m+1=n->∀ (A:Around) {a b:V} {u v:Value} {x y:D},A.units+m<cLine->bv m x=true->bv m y=true->Rep X.K μ H a x->Rep X.K μ H b y->RelV a u->RelV b v->Ra A s u v (iT x y))
  (A:Around) (hn:A.units+n<cLine) (hx:bv n x=true) (hy:bv n y=true) (rx:Rep X.K μ H a x) (ry:Rep X.K μ H b y) (ra:RelV a u) (rb:RelV b v):Ra A s u v (iT x y):=by
 have hu:A.units<cLine:=by omega
 cases nh hx rx with
 | non=>
  cases ra
  cases nh hy ry with
  | non=>cases rb;exact⟨EqAt.same _,RcAt.none_none,RcNeAt.none_none⟩
  | bl b=>cases rb;exact⟨EqAt.none_bool b,RcAt.none_bool b,RcNeAt.none_bool b⟩
  | int b=>obtain⟨t,rfl⟩:=rb;exact⟨EqAt.none_int b t,RcAt.none_int b t,RcNeAt.none_int b t⟩
  | str b=>obtain⟨t,rfl⟩:=rb;exact⟨EqAt.none_str b t,RcAt.none_str b t,RcNeAt.none_str b t⟩
  | tup q r=>cases rb;obtain⟨its,rv,p,_⟩:=I.tuple q;exact⟨EqAt.none_tuple p hu,RcAt.none_tuple p hu,RcNeAt.none_tuple p hu⟩
  | lst q r=>cases rb;obtain⟨its,rv,p,_⟩:=I.list q;exact⟨EqAt.none_list p.isList hu,RcAt.none_list p.isList hu,RcNeAt.none_list p.isList hu⟩
 | bl a=>
  cases ra
  cases nh hy ry with
  | non=>cases rb;exact⟨EqAt.bool_none a,RcAt.bool_none a,RcNeAt.bool_none a⟩
  | bl b=>cases rb;exact⟨EqAt.bool_bool a b,RcAt.bool_bool a b,RcNeAt.bool_bool a b⟩
  | int b=>obtain⟨t,rfl⟩:=rb;exact⟨EqAt.bool_int a b t,RcAt.bool_int a b t,RcNeAt.bool_int a b t⟩
  | str b=>obtain⟨t,rfl⟩:=rb;exact⟨EqAt.bool_str a b t,RcAt.bool_str a b t,RcNeAt.bool_str a b t⟩
  | tup q r=>cases rb;obtain⟨its,rv,p,_⟩:=I.tuple q;exact⟨EqAt.bool_tuple a p hu,RcAt.bool_tuple a p hu,RcNeAt.bool_tuple a p hu⟩
  | lst q r=>cases rb;obtain⟨its,rv,p,_⟩:=I.list q;exact⟨EqAt.bool_list a p.isList hu,RcAt.bool_list a p.isList hu,RcNeAt.bool_list a p.isList hu⟩
 | int a=>
  obtain⟨t',rfl⟩:=ra
  cases nh hy ry with
  | non=>cases rb;exact⟨EqAt.int_none a t',RcAt.int_none a t',RcNeAt.int_none a t'⟩
  | bl b=>cases rb;exact⟨EqAt.int_bool a t' b,RcAt.int_bool a t' b,RcNeAt.int_bool a t' b⟩
  | int b=>obtain⟨t,rfl⟩:=rb;exact⟨EqAt.int_int a t' b t,RcAt.int_int a t' b t,RcNeAt.int_int a t' b t⟩
  | str b=>obtain⟨t,rfl⟩:=rb;exact⟨EqAt.int_str a t' b t,RcAt.int_str a t' b t,RcNeAt.int_str a t' b t⟩
  | tup q r=>cases rb;obtain⟨its,rv,p,_⟩:=I.tuple q;exact⟨EqAt.int_tuple a t' p hu,RcAt.int_tuple a t' p hu,RcNeAt.int_tuple a t' p hu⟩
  | lst q r=>cases rb;obtain⟨its,rv,p,_⟩:=I.list q;exact⟨EqAt.int_list a t' p.isList hu,RcAt.int_list a t' p.isList hu,RcNeAt.int_list a t' p.isList hu⟩
 | str a=>
  obtain⟨t',rfl⟩:=ra
  cases nh hy ry with
  | non=>cases rb;exact⟨EqAt.str_none a t',RcAt.str_none a t',RcNeAt.str_none a t'⟩
  | bl b=>cases rb;exact⟨EqAt.str_bool a t' b,RcAt.str_bool a t' b,RcNeAt.str_bool a t' b⟩
  | int b=>obtain⟨t,rfl⟩:=rb;exact⟨EqAt.str_int a t' b t,RcAt.str_int a t' b t,RcNeAt.str_int a t' b t⟩
  | str b=>obtain⟨t,rfl⟩:=rb;exact⟨EqAt.str_str a t' b t,RcAt.str_str a t' b t,RcNeAt.str_str a t' b t⟩
  | tup q r=>cases rb;obtain⟨its,rv,p,_⟩:=I.tuple q;exact⟨EqAt.str_tuple a t' p hu,RcAt.str_tuple a t' p hu,RcNeAt.str_tuple a t' p hu⟩
  | lst q r=>cases rb;obtain⟨its,rv,p,_⟩:=I.list q;exact⟨EqAt.str_list a t' p.isList hu,RcAt.str_list a t' p.isList hu,RcNeAt.str_list a t' p.isList hu⟩
 | @tup xs l vs q r=>
  cases ra
  obtain⟨its,rv,p,_⟩:=I.tuple q
  cases nh hy ry with
  | non=>cases rb;exact⟨EqAt.tuple_none p hu,RcAt.tuple_none p hu,RcNeAt.tuple_none p hu⟩
  | bl b=>cases rb;exact⟨EqAt.tuple_bool b p hu,RcAt.tuple_bool b p hu,RcNeAt.tuple_bool b p hu⟩
  | int b=>obtain⟨t,rfl⟩:=rb;exact⟨EqAt.tuple_int b t p hu,RcAt.tuple_int b t p hu,RcNeAt.tuple_int b t p hu⟩
  | str b=>obtain⟨t,rfl⟩:=rb;exact⟨EqAt.tuple_str b t p hu,RcAt.tuple_str b t p hu,RcNeAt.tuple_str b t p hu⟩
  | @tup ys l' vs' q' r'=>
   cases rb
   obtain⟨its',rv',p',_⟩:=I.tuple q'
   obtain⟨m,hm,ox⟩:=nO hx
   obtain⟨m',hm',oy⟩:=nO hy
   have:m'=m:=by omega
   subst this
   have all:=rT (P:=λu u' b=>EqAt A.in1 s u u' b) rv r rv' r' λj v w u u' x y hx' hy' q1 q2 g1 g2=>
    (ih m' hm A.in1 (by rw[rX];omega) (ox x (RR hx')) (oy y (RR hy')) q1 q2 g1 g2).eq
   have e0:its.toArray.size=xs.length:=by rw[Rk,<- rv.length,r.length]
   have e1:its'.toArray.size=ys.length:=by rw[Rk,<- rv'.length,r'.length]
   have key:=RcAt.tuples (A:=A) (s:=s) p p' hu all
   have kne:=RcNeAt.tuples (A:=A) (s:=s) p p' hu all
   rw[e0,e1,<- uK] at key kne
   refine⟨?_,key,kne⟩
   by_cases hl:l=l'
   ·subst hl
    rw[<- Rep.inj I n hx hy rx ry,ju _ _ hx]
    exact EqAt.same _
   ·exact EqAt.of_refs hl key
  | lst q' r'=>cases rb;obtain⟨its',rv',p',_⟩:=I.list q';exact⟨EqAt.tuple_list p p'.isList hu,RcAt.tuple_list p p'.isList hu,RcNeAt.tuple_list p p'.isList hu⟩
 | @lst xs l vs q r=>
  cases ra
  obtain⟨its,rv,p0,_⟩:=I.list q
  have p:=p0.isList
  cases nh hy ry with
  | non=>cases rb;exact⟨EqAt.list_none p hu,RcAt.list_none p hu,RcNeAt.list_none p hu⟩
  | bl b=>cases rb;exact⟨EqAt.list_bool b p hu,RcAt.list_bool b p hu,RcNeAt.list_bool b p hu⟩
  | int b=>obtain⟨t,rfl⟩:=rb;exact⟨EqAt.list_int b t p hu,RcAt.list_int b t p hu,RcNeAt.list_int b t p hu⟩
  | str b=>obtain⟨t,rfl⟩:=rb;exact⟨EqAt.list_str b t p hu,RcAt.list_str b t p hu,RcNeAt.list_str b t p hu⟩
  | tup q' r'=>cases rb;obtain⟨its',rv',p',_⟩:=I.tuple q';exact⟨EqAt.list_tuple p p' hu,RcAt.list_tuple p p' hu,RcNeAt.list_tuple p p' hu⟩
  | @lst ys l' vs' q' r'=>
   cases rb
   obtain⟨its',rv',p0',_⟩:=I.list q'
   have p':=p0'.isList
   obtain⟨m,hm,ox⟩:=nP hx
   obtain⟨m',hm',oy⟩:=nP hy
   have:m'=m:=by omega
   subst this
   have all:=rT (P:=λu u' b=>EqAt A.in1 s u u' b) rv r rv' r' λj v w u u' x y hx' hy' q1 q2 g1 g2=>
    (ih m' hm A.in1 (by rw[rX];omega) (ox x (RR hx')) (oy y (RR hy')) q1 q2 g1 g2).eq
   have e0:its.toArray.size=xs.length:=by rw[Rk,<- rv.length,r.length]
   have e1:its'.toArray.size=ys.length:=by rw[Rk,<- rv'.length,r'.length]
   have key:RcAt A s (.ref l) (.ref l') (eqDs xs ys)/\RcNeAt A s (.ref l) (.ref l') (!eqDs xs ys):=by
    rw[uK]
    by_cases hlen:xs.length=ys.length
    ·have k1:=RcAt.lists (A:=A) (s:=s) p p' (by rw[e0,e1,hlen]) hu all
     have k2:=RcNeAt.lists (A:=A) (s:=s) p p' (by rw[e0,e1,hlen]) hu all
     rw[e0] at k1 k2
     rw[<- hlen,Nat.min_self,Tx,VO]
     exact⟨k1,k2⟩
    ·rw[show(xs.length==ys.length)=false from SS.mpr hlen,Tw]
     exact⟨RcAt.lists_lengths (A:=A) (s:=s) p p' (by rw[e0,e1];exact VD.mpr hlen) hu,RcNeAt.lists_lengths (A:=A) (s:=s) p p' (by rw[e0,e1];exact VD.mpr hlen) hu⟩
   refine⟨?_,key.1,key.2⟩
   by_cases hl:l=l'
   ·subst hl
    rw[<- Rep.inj I n hx hy rx ry,ju _ _ hx]
    exact EqAt.same _
   ·exact EqAt.of_refs hl key.1
theorem QG(I:Inv X pins σ H s)(n:Nat):∀ (A:Around) {a b:V} {u v:Value} {x y:D},A.units+n<cLine->bv n x=true->bv n y=true->Rep X.K μ H a x->Rep X.K μ H b y->RelV a u->RelV b v->Ra A s u v (iT x y):=by
 induction n with
 | zero=>exact λA _ _ _ _ _ _ hn hx hy rx ry ra rb=>AS I 0 (λm h=>absurd h (Nat.succ_ne_zero m)) A hn hx hy rx ry ra rb
 | succ n ih=>exact λA _ _ _ _ _ _ hn hx hy rx ry ra rb=>AS I (n+1) (λm h=>by cases h;exact ih) A hn hx hy rx ry ra rb
theorem eqRc(I:Inv X pins σ H s)(n:Nat)(A:Around)(hn:A.units+n<cLine)(hx:bv n x=true)(hy:bv n y=true)(rx:Rep X.K μ H a x)(ry:Rep X.K μ H b y)(ra:RelV a u)(rb:RelV b v) :
  EqAt A s u v (iT x y)/\RcAt A s u v (iT x y):=⟨(QG I n A hn hx hy rx ry ra rb).eq,(QG I n A hn hx hy rx ry ra rb).rc⟩
theorem neRc(I:Inv X pins σ H s)(n:Nat)(A:Around)(hn:A.units+n<cLine)(hx:bv n x=true)(hy:bv n y=true)(rx:Rep X.K μ H a x)(ry:Rep X.K μ H b y)(ra:RelV a u)(rb:RelV b v) :
  RcNeAt A s u v (!iT x y):=(QG I n A hn hx hy rx ry ra rb).ne
end
noncomputable def fw(S:aa):D->Option (List D)
 | .tup xs=>U xs
 | .lst xs=>U xs
 | .rol xs=>U xs
 | .ref r=>match S[r]? with | some (.lst xs)=>U xs | _=>Y
 | _=>Y
section
variable{X:Cx}{K:W.Frag}{μ:Fp}{H:Hp}{S:aa}
theorem fH{d:D}{ds:List D}(s:SOk K μ S H)(r:Rep K μ H x d)(h:fw S d=U ds):∃ a vs,x=.ref a/\(gT K H a vs\/iP K H a vs)/\Reps K μ H vs ds:=by
 cases r with
 | tup h' n r=>cases h;exact⟨_,_,rfl,.inr (.inl (.inl h')),r⟩
 | ktup h' r=>cases h;exact⟨_,_,rfl,.inr (.inr h'),r⟩
 | lst h' n r=>cases h;exact⟨_,_,rfl,.inl (.inl (.inl h')),r⟩
 | rol h' n r=>cases h;exact⟨_,_,rfl,.inl (.inl h'),r⟩
 | krol h' r=>cases h;exact⟨_,_,rfl,.inl (.inr h'),r⟩
 | @ref a i h'=>
  simp only[fw] at h
  cases q:S[i]? with
  | none=>rw[q] at h;cases h
  | some c=>
   rw[q] at h
   have ck:=s.cell i a c h' q
   cases c with
   | lst xs=>cases h;obtain⟨vs,e,r⟩:=ck;exact⟨_,vs,rfl,.inl (.inl (.inl e)),r⟩
   | dct ks xs=>cases h
 | _=>cases h
theorem Rep.free{d:D}(h:bv n d=true)(r:Rep K μ H v d):Rep K ⟨[],[]⟩ H v d:=
 Rep.to (P:=λd=>∃ n,bv n d=true) (λd ⟨n,h⟩ x hx=>by
  cases n with
  | zero=>cases d<;>first | (cases hx;done) | (simp[bv] at h;done)
  | succ n=>cases d<;>first | (cases hx;done) | exact⟨n,RI.mp h x hx⟩ | (simp[bv] at h;done)) (λh _=>⟨h,by simp,by simp⟩) (λ⟨n,h⟩=>by cases n<;>simp[bv] at h) r ⟨n,h⟩
theorem Reps.free{ds:List D}(h:ds.all (bv n)=true)(r:Reps K μ H vs ds):Reps K ⟨[],[]⟩ H vs ds:=Reps.to (P:=λd=>bv n d=true) (λr h=>Rep.free h r) r (RI.mp h)
noncomputable def iU(S:aa):D->D
 | .ref r=>match S[r]? with | some (.lst xs)=>.lst xs | _=>.ref r
 | d=>d
theorem lB{d:D}(h:bv n d=true):iU S d=d:=by
 cases d<;>first | rfl | (cases n<;>simp[bv] at h)
theorem lA{d:D}(s:SOk K μ S H)(r:Rep K μ H v d)(h:bv n (iU S d)=true):Rep K ⟨[],[]⟩ H v (iU S d):=by
 by_cases hd:iU S d=d
 ·rw[hd] at h ⊢;exact Rep.free h r
 ·cases r with
  | @ref a i h'=>
   cases q:S[i]? with
   | none=>exact absurd (by simp only[iU,q]) hd
   | some c=>
    cases c with
    | dct ks vs=>exact absurd (by simp only[iU,q]) hd
    | lst xs=>
     have e:iU S (.ref i)=.lst xs:=by simp only[iU,q]
     rw[e] at h ⊢
     obtain⟨vs,e,r⟩:=s.cell i a _ h' q
     cases n with
     | zero=>simp[bv] at h
     | succ n=>exact .lst e ⟨by simp,by simp⟩ (Reps.free (n:=n) h r)
  | _=>exact absurd rfl hd
noncomputable def nj(S:aa)(x y:D):Option D:=if bv 40 (iU S x)=true/\bv 40 (iU S y)=true then U (.bl (iT (iU S x) (iU S y))) else Y
noncomputable def ux(S:aa)(x y:D):Option D:=if bv 40 (iU S x)=true/\bv 40 (iU S y)=true then U (.bl (!iT (iU S x) (iU S y))) else Y
theorem op_Eq(hu:X.A.units+64<cLine):OpR X (compareOp .Eq) (iQ X.K nj):=by
 intro pins s σ H x y v u Q I rx ry h
 obtain⟨μ,S,dx,dy,dz,hS,h1,h2,h3,post⟩:=h
 simp only[nj] at h3
 split at h3
 ·rename_i hk
  cases h3
  exact(eqRc I 40 X.A (by omega) hk.1 hk.2 (lA hS h1 hk.1) (lA hS h2 hk.2) rx ry).2 X.prog X.w X.xe _ ⟨.bl _,H,I,rfl,post.here hS (.bl _)⟩
 ·cases h3
theorem op_Ne(hu:X.A.units+64<cLine):OpR X (compareOp .NotEq) (iQ X.K ux):=by
 intro pins s σ H x y v u Q I rx ry h
 obtain⟨μ,S,dx,dy,dz,hS,h1,h2,h3,post⟩:=h
 simp only[ux] at h3
 split at h3
 ·rename_i hk
  cases h3
  exact neRc I 40 X.A (by omega) hk.1 hk.2 (lA hS h1 hk.1) (lA hS h2 hk.2) rx ry X.prog X.w X.xe _ ⟨.bl _,H,I,rfl,post.here hS (.bl _)⟩
 ·cases h3
open Classical in
noncomputable def fu(K:W.Frag)(μ:Fp)(H:Hp)(x:D)(u:Value):Bool:=decide (∃ v d,RelV v u/\Rep K μ H v d/\bv 39 d=true/\iT d x=true)
open Classical in
theorem pR{s:Shared}(I:Inv X pins σ H s){d:D}(rv:RelV v u)(r:Rep X.K μ H v d)(ok:bv 39 d=true):fu X.K μ H x u=iT d x:=by
 unfold fu
 cases e:iT d x with
 | true=>exact Sg ⟨v,d,rv,r,ok,e⟩
 | false=>
  refine Se ?_
  rintro⟨v',d',rv',r',ok',e'⟩
  cases rv.inj rv'
  rw[Rep.inj I 39 ok ok' r r'] at e
  rw[e] at e';cases e'
theorem ib{s:Shared}(I:Inv X pins σ H s):∀ {vs:List V} {us:List Value} {ds:List D},Vals vs us->Reps X.K μ H vs ds->(∀ d∈ds,bv 39 d=true) ->
  us.any (fu X.K μ H x)=ds.any λd=>iT d x
 | _,_,_,.nil,.nil,_=>rfl
 | _,_,_,.cons rv tv,.cons r t,ok=>by
  rw[Tq,Tq,pR I rv r (ok _ Rf),ib I tv t λd m=>ok d (Rj _ m)]
theorem gj{s:Shared}(I:Inv X pins σ H s){A:Around}(hu:A.units+40<cLine)(rx:RelV v u)(rD:Rep X.K μ H v x)(okx:bv 40 x=true) :
  ∀ {vs:List V} {us:List Value} {ds:List D},Vals vs us->Reps X.K μ H vs ds->(∀ d∈ds,bv 39 d=true)->∀ w∈us,SeqAt.EqAt A s w u (fu X.K μ H x w)
 | _,_,_,.nil,.nil,_=>λw hw=>by cases hw
 | _,_,_,.cons rv tv,.cons r t,ok=>λw hw=>by
  rcases Rv.mp hw with rfl | hw
  ·rw[pR I rv r (ok _ Rf)]
   exact(eqRc I 40 A hu (oQ (by decide) (ok _ Rf)) okx r rD rv rx).1
  ·exact gj I hu rx rD okx tv t (λd m=>ok d (Rj _ m)) w hw
noncomputable def fIn(S:aa)(x y:D):Option D:=(fw S y).bind λds=>if bv 40 x=true/\ds.all (bv 39)=true then U (.bl (ds.any λd=>iT d x)) else Y
noncomputable def Gq(S:aa)(x y:D):Option D:=(fw S y).bind λds=>if bv 40 x=true/\ds.all (bv 39)=true then U (.bl (!ds.any λd=>iT d x)) else Y
theorem op_In(hu:X.A.units+64<cLine):OpR X (compareOp .In) (iQ X.K fIn):=by
 intro pins s σ H x y v u Q I rx ry h
 obtain⟨μ,S,dx,dy,dz,hS,h1,h2,h3,post⟩:=h
 obtain⟨ds,e,h3⟩:=Rb.mp h3
 split at h3
 ·rename_i hk
  cases h3
  obtain⟨a,vs,rfl,hq,r⟩:=fH hS h2 e
  cases ry
  have ok:=RI.mp hk.2
  rcases hq with hq | hq
  ·obtain⟨its,rv,pl,hz⟩:=I.list hq
   refine SeqAt.in_listAt (fu X.K μ H dx) pl.isList (λw hw=>gj I (by show X.A.units+1+40<cLine;omega) rx h1 hk.1 rv r ok w (by simpa using hw)) ⟨.bl _,H,I,rfl,?_⟩
   rw[show its.toArray.any (fu X.K μ H dx)=its.any (fu X.K μ H dx) by simp,ib I rv r ok]
   exact post.here hS (.bl _)
  ·obtain⟨its,rv,pl,hz⟩:=I.tuple hq
   refine SeqAt.in_tupleAt (fu X.K μ H dx) pl (λw hw=>gj I (by show X.A.units+1+40<cLine;omega) rx h1 hk.1 rv r ok w (by simpa using hw)) ⟨.bl _,H,I,rfl,?_⟩
   rw[show its.toArray.any (fu X.K μ H dx)=its.any (fu X.K μ H dx) by simp,ib I rv r ok]
   exact post.here hS (.bl _)
 ·cases h3
theorem EC(hu:X.A.units+64<cLine):OpR X (compareOp .NotIn) (iQ X.K Gq):=by
 intro pins s σ H x y v u Q I rx ry h
 obtain⟨μ,S,dx,dy,dz,hS,h1,h2,h3,post⟩:=h
 obtain⟨ds,e,h3⟩:=Rb.mp h3
 split at h3
 ·rename_i hk
  cases h3
  obtain⟨a,vs,rfl,hq,r⟩:=fH hS h2 e
  cases ry
  have ok:=RI.mp hk.2
  rcases hq with hq | hq
  ·obtain⟨its,rv,pl,hz⟩:=I.list hq
   refine SeqAt.notIn_listAt (fu X.K μ H dx) pl.isList (λw hw=>gj I (by show X.A.units+1+40<cLine;omega) rx h1 hk.1 rv r ok w (by simpa using hw)) ⟨.bl _,H,I,rfl,?_⟩
   rw[show its.toArray.any (fu X.K μ H dx)=its.any (fu X.K μ H dx) by simp,ib I rv r ok]
   exact post.here hS (.bl _)
  ·obtain⟨its,rv,pl,hz⟩:=I.tuple hq
   refine SeqAt.notIn_tupleAt (fu X.K μ H dx) pl (λw hw=>gj I (by show X.A.units+1+40<cLine;omega) rx h1 hk.1 rv r ok w (by simpa using hw)) ⟨.bl _,H,I,rfl,?_⟩
   rw[show its.toArray.any (fu X.K μ H dx)=its.any (fu X.K μ H dx) by simp,ib I rv r ok]
   exact post.here hS (.bl _)
 ·cases h3
noncomputable def rW:D->D->Bool
 | .non,.non=>true
 | .bl a,.bl b=>a==b
 | _,_=>false
noncomputable def PX(S:aa)(x y:D):Option D:=match y with | .non=>U (.bl (rW x y)) | .bl _=>U (.bl (rW x y)) | _=>Y
noncomputable def iz(S:aa)(x y:D):Option D:=match y with | .non=>U (.bl (!rW x y)) | .bl _=>U (.bl (!rW x y)) | _=>Y
theorem Ga(h1:Rep K μ H x dx)(h2:Rep K μ H y dy)(rx:RelV x v)(ry:RelV y u)(hy:dy=.non\/∃ b,dy=.bl b):plainIs v u=true/\(v==u)=rW dx dy:=by
 rcases hy with rfl | ⟨b,rfl⟩
 ·cases h2;cases ry
  cases h1<;>first | (cases rx;exact⟨rfl,rfl⟩) | (obtain⟨t,rfl⟩:=rx;exact⟨rfl,rfl⟩)
 ·cases h2;cases ry
  cases h1<;>first | (cases rx;exact⟨rfl,rfl⟩) | (obtain⟨t,rfl⟩:=rx;exact⟨rfl,rfl⟩) | (cases rx;rename_i c;refine⟨rfl,?_⟩;cases b<;>cases c<;>rfl)
theorem op_Is:OpR X (compareOp .Is) (iQ X.K PX):=by
 intro pins s σ H x y v u Q I rx ry h
 obtain⟨μ,S,dx,dy,dz,hS,h1,h2,h3,post⟩:=h
 have hy:(dy=.non\/∃ b,dy=.bl b)/\dz=.bl (rW dx dy):=by
  cases dy<;>first | (cases h3;exact⟨.inl rfl,rfl⟩) | (cases h3;exact⟨.inr ⟨_,rfl⟩,rfl⟩) | cases h3
 obtain⟨p,e⟩:=Ga h1 h2 rx ry hy.1
 cases hy.2
 exact wpAny_is_plain p ⟨.bl _,H,I,congrArg Value.bool e,post.here hS (.bl _)⟩
theorem ED:OpR X (compareOp .IsNot) (iQ X.K iz):=by
 intro pins s σ H x y v u Q I rx ry h
 obtain⟨μ,S,dx,dy,dz,hS,h1,h2,h3,post⟩:=h
 have hy:(dy=.non\/∃ b,dy=.bl b)/\dz=.bl (!rW dx dy):=by
  cases dy<;>first | (cases h3;exact⟨.inl rfl,rfl⟩) | (cases h3;exact⟨.inr ⟨_,rfl⟩,rfl⟩) | cases h3
 obtain⟨p,e⟩:=Ga h1 h2 rx ry hy.1
 cases hy.2
 exact wpAny_isNot_plain p ⟨.bl _,H,I,congrArg (λb=>Value.bool (!b)) e,post.here hS (.bl _)⟩
end
end M
namespace HT
section
variable{prog:Program}{w:World}{A:Around}{E:Value->Shared->Prop}{s:Shared}
theorem Lr{ws:List Value}{Q:Value->Shared->Prop}(ht:IsTup s.heap t #[])(hb:IsTup s.heap b ws.toArray)(h:Q (.ref b) s):wpAny (model prog w) A (binaryOp .Add (.ref t) (.ref b)) Q E s:=by
 obtain⟨⟨cls,dd,data,sl⟩,ho,hc,n,hd⟩:=id ht
 obtain⟨⟨cls2,dd2,data2,sl2⟩,ho2,hc2,n2,hd2⟩:=id hb
 simp only at hc hd hc2 hd2
 subst hc hd hc2 hd2
 exact VW ⟨_,ho,rfl⟩ ⟨_,ho2,rfl⟩ UZ VL Ve US (UL _ _)
   (tuple_addW0 t b #[] ws.toArray n n2 dd dd2 sl sl2 rfl) ⟨ho,ho2,h⟩
theorem jI{lo:Option Int}{Q:Value->Shared->Prop}(ht:IsTup s.heap t items)(hs:s.heap.IsSliceOf sl vl vu .none)(pl:IsPart vl lo)(pu:IsPart vu hi)
  (hw:dF items.size 0 lo=0/\dF items.size items.size hi=items.size) (h:Q (.ref t) s):wpAny (model prog w) A (getItem (.ref t) (.ref sl)) Q E s:=by
 obtain⟨os,hos,hcs,hds⟩:=id hs
 have hTs:s.TypeIs (.ref sl) "slice":=⟨os,hos,hcs⟩
 unfold getItem
 try with_reducible refine RX ?_
 first | refine Rc (Rh ?_) | skip
 refine Rc (UO ht.typeIs (by decide) ?_)
 refine Rc (Sh (name:=Str.ofString "__getitem__") ht.typeIs Si
  (SE Si ht.typeIs UB ?_ (UE _ _)))
 show wpAny _ _ (Builtin.Tuple.tupleItemsOf (.ref t) >>= _) _ _ s
 refine Rc (VI ht ?_)
 refine Rc (UV hTs ?_)
 rw[Ru (by decide)]
 refine Rc (gU hs pl pu ?_)
 have hyes:(((dF items.size 0 lo:Nat):Int)==0&&(1:Int)==1&&(dF items.size items.size hi - dF items.size 0 lo)==items.size)=true:=by
  rw[hw.1,hw.2];simp
 show wpAny _ _ (if (((dF items.size 0 lo:Nat):Int)==0&&(1:Int)==1&&(dF items.size items.size hi - dF items.size 0 lo)==items.size)=true then _ else _) _ _ s
 rw[Ru hyes]
 unfold Builtin.Tuple.tupleIsExact
 refine Rc (Rc (UV ht.typeIs (Rh ?_)))
 rw[Ru (by decide)]
 exact Rc (TH (Rc (Rh (Rh ⟨_,rfl,Rh h⟩))))
end
end HT
namespace M
open L2
section
variable{X:Cx}{K:W.Frag}{μ μ':Fp}{H H':Hp}{S:aa}
noncomputable def Ch(g:Int->Int->D)(S:aa)(x y:D):Option D:=match x,y with | .int i,.int j=>U (g i j) | _,_=>Y
noncomputable def xo(C:Int->Int->Bool)(g:Int->Int->D)(S:aa)(x y:D):Option D:=match x,y with | .int i,.int j=>if C i j=true then U (g i j) else Y | _,_=>Y
theorem kO{g':Int->Int->D}(h:OpR X f (IK g))(hg:∀ i j μ H,Rep X.K μ H (g i j) (g' i j)):OpR X f (iQ X.K (Ch g')):=
 OpR.imp h λx y H Q ⟨μ,S,dx,dy,dz,hS,h1,h2,h3,post⟩=>by
  cases dx<;>cases dy<;>first | cases h3 | skip
  exact⟨_,_,h1.int_inv,h2.int_inv,post.here hS (hg _ _ _ _)⟩
theorem tD{C':Int->Int->Bool}{g':Int->Int->D}(h:OpR X f (rI C g))(hC:∀ i j,C' i j=true->C i j)(hg:∀ i j μ H,Rep X.K μ H (g i j) (g' i j)):OpR X f (iQ X.K (xo C' g')):=
 OpR.imp h λx y H Q ⟨μ,S,dx,dy,dz,hS,h1,h2,h3,post⟩=>by
  cases dx<;>cases dy<;>first | cases h3 | skip
  simp only[xo] at h3
  split at h3
  ·rename_i hc
   cases h3
   exact⟨_,_,h1.int_inv,h2.int_inv,hC _ _ hc,post.here hS (hg _ _ _ _)⟩
  ·cases h3
noncomputable def Kj:=Ch λi j=>.int (i - j)
noncomputable def fLt:=Ch λi j=>.bl (decide (i<j))
noncomputable def fLe:=Ch λi j=>.bl (decide (i<=j))
noncomputable def fGt:=Ch λi j=>.bl (decide (j<i))
noncomputable def fGe:=Ch λi j=>.bl (decide (j<=i))
theorem Oi:OpR X (binaryOp .Sub) (iQ X.K Kj):=kO Od λ_ _ _ _=>.int _
theorem op_Lt:OpR X (compareOp .Lt) (iQ X.K fLt):=kO op_lt λ_ _ _ _=>.bl _
theorem op_Le:OpR X (compareOp .LtE) (iQ X.K fLe):=kO op_le λ_ _ _ _=>.bl _
theorem op_Gt:OpR X (compareOp .Gt) (iQ X.K fGt):=kO op_gt λ_ _ _ _=>.bl _
theorem op_Ge:OpR X (compareOp .GtE) (iQ X.K fGe):=kO op_ge λ_ _ _ _=>.bl _
noncomputable def iw:=xo (λ_ j=>decide (0<j)) λi j=>.int (i%j)
noncomputable def Ci:=xo (λ_ j=>decide (0<j)&&decide (j<1073741824)) λi j=>.int (i / j)
noncomputable def qB:=xo (λi j=>decide (0<=j)&&decide (j<=1000000)&&decide (i.natAbs<2^64)) λi j=>.int (i^j.toNat)
theorem Om:OpR X (binaryOp .Mod) (iQ X.K iw):=tD Og (λ_ _ h=>Tu h) λ_ _ _ _=>.int _
theorem On:OpR X (binaryOp .FloorDiv) (iQ X.K Ci):=tD Ju (λ_ _ h=>by simpa[CDiv] using h) λ_ _ _ _=>.int _
theorem Oj:OpR X (binaryOp .Pow) (iQ X.K qB):=tD Of (λi j h=>by
 simp only[Rg,Sq] at h
 exact⟨h.1.1,h.1.2,h.2⟩) λ_ _ _ _=>.int _
noncomputable def kR(i j:Int):Bool:=decide (i.natAbs<18446744073709551616)||decide (j.natAbs<18446744073709551616)||(decide (i.natAbs<2^4000)&&decide (j.natAbs<2^4000))
theorem JB(h:kR i j=true):IntMulOk i j:=by
 unfold kR at h
 simp only[Uu,Rg,Sq] at h
 rcases h with (h | h) | h
 ·exact .of_left (VC (k:=64) (by omega))
 ·exact .of_right (VC (k:=64) (by omega))
 ·exact .of_bits (RG (VC (k:=4000) h.1) (by decide)) (RG (VC (k:=4000) h.2) (by decide))
theorem Jt:OpR X (binaryOp .Mult) (rI (λi j=>kR i j=true) λi j=>.int (i*j)):=opI λ_ _ _ _ _ _ _ hc q=>mul_int q (JB hc)
noncomputable def PQ(S:aa)(x y:D):Option D:=match x,y with
 | .int i,.int j=>if kR i j=true then U (.int (i*j)) else Y
 | _,_=>Y
theorem Ol:OpR X (binaryOp .Mult) (iQ X.K PQ):=OpR.imp Jt λx y H Q ⟨μ,S,dx,dy,dz,hS,h1,h2,h3,post⟩=>by
 cases dx<;>cases dy<;>first | cases h3 | skip
 simp only[PQ] at h3
 split at h3
 ·rename_i hc
  cases h3
  exact⟨_,_,h1.int_inv,h2.int_inv,hc,post.here hS (.int _)⟩
 ·cases h3
noncomputable def Gx(S:aa)(x y:D):Option D:=match x,y with
 | .int i,.int j=>U (.int (i+j))
 | .str i,.str j=>if i.length+j.length<=sizeLine then U (.str (i++j)) else Y
 | .tup xs,.tup ys=>if xs.length+ys.length<=sizeLine then U (.tup (xs++ys)) else Y
 | .lst xs,.lst ys=>if xs.length+ys.length<=sizeLine then U (.lst (xs++ys)) else Y
 | _,_=>Y
theorem Oo:OpR X (binaryOp .Add) (iQ X.K Gx):=by
 intro pins s σ H x y v u Q I rx ry h
 obtain⟨μ,S,dx,dy,dz,hS,h1,h2,h3,post⟩:=h
 cases dx<;>cases dy<;>first | cases h3 | skip
 case int.int i j=>exact Oh pins s σ H x y v u Q I rx ry ⟨_,_,h1.int_inv,h2.int_inv,post.here hS (.int _)⟩
 case str.str i j=>
  simp only[Gx] at h3
  split at h3
  ·rename_i hl;cases h3
   exact yp pins s σ H x y v u Q I rx ry ⟨_,_,h1.str_inv,h2.str_inv,hl,post.here hS (.str _)⟩
  ·cases h3
 case tup.tup xs ys=>
  simp only[Gx] at h3
  split at h3
  ·rename_i hl;cases h3
   have h2':=h2
   have h1':=h1
   obtain⟨a,vs,rfl,q1,r1⟩:=h1.sqT
   obtain⟨b,ws,rfl,q2,r2⟩:=h2.sqT
   have e1:=r1.length
   have e2:=r2.length
   by_cases hv:vs=[]
   ·subst hv
    have hx:xs=[]:=TC (by simpa using e1.symm)
    subst hx
    cases rx;cases ry
    obtain⟨its,rv,p1,_⟩:=I.tuple q1
    obtain⟨its2,rv2,p2,_⟩:=I.tuple q2
    have:its=[]:=rv.nil_iff.mpr rfl
    subst this
    exact HT.Lr p1 p2 ⟨.ref b,H,I,rfl,post.here hS h2'⟩
   ·refine Jv pins s σ H _ _ v u Q I rx ry ⟨a,b,vs,ws,rfl,rfl,q1,q2,hv,by omega,λhw=>?_,λhw p hp=>post.tup hS hp (r1.append r2)⟩
    subst hw
    have hy:ys=[]:=TC (by simpa using e2.symm)
    subst hy
    rw[RU] at post
    exact post.here hS h1'
  ·cases h3
 case lst.lst xs ys=>
  simp only[Gx] at h3
  split at h3
  ·rename_i hl;cases h3
   obtain⟨a,vs,rfl,q1,n1,r1⟩:=h1.sqL
   obtain⟨b,ws,rfl,q2,n2,r2⟩:=h2.sqL
   have e1:=r1.length
   have e2:=r2.length
   exact EB pins s σ H _ _ v u Q I rx ry ⟨a,b,vs,ws,rfl,rfl,q1,q2,by omega,λp hp=>post.lst hS hp (r1.append r2)⟩
  ·cases h3
theorem MV:UnR X (unaryOp .USub) (rM1 X.K λ_ x=>match x with | .int i=>U (.int (-i)) | _=>Y):=UnR.imp MU λx H Q ⟨μ,S,dx,dz,hS,h1,h3,post⟩=>by
 cases dx<;>first | cases h3 | skip
 exact⟨_,h1.int_inv,post.here hS (.int _)⟩
noncomputable def qm(f:aa->D->Option D)(a:ME):ME:=λenv S=>(a env S).bind λp=>(f p.2 p.1).bind λz=>U (z,p.2)
theorem de_un(ho:UnR X (unaryOp op) (rM1 X.K f))(ha:DE X a ma):DE X (.UnaryOp op a pos) (qm f ma):=
 PE.imp (pe_un ho ha) λσ H Q ⟨μ,S,env,d,S',hS,hE,hm,post⟩=>by
  obtain⟨⟨x,S1⟩,h1,hm⟩:=Rb.mp hm
  obtain⟨z,h2,hm⟩:=Rb.mp hm
  cases hm
  exact⟨μ,S,env,x,_,hS,hE,h1,λv H1 μ1 e1 s1 r1=>⟨μ1,_,x,_,s1,r1,h2,post.ext e1⟩⟩
theorem Lw{d:D}(r:Reps K μ H vs ds)(h:oo ds i=U d):∃ v,oo vs i=U v/\Rep K μ H v d:=by
 unfold oo at h ⊢
 rw[r.length]
 obtain⟨j,h1,h2⟩:=Rb.mp h
 obtain⟨v,h3,h4⟩:=r.get h2
 exact⟨v,by rw[h1];exact h3,h4⟩
noncomputable def fIx(S:aa)(x y:D):Option D:=match y with | .int i=>(fw S x).bind λxs=>oo xs i | _=>Y
theorem ix_D:IxR X (iQ X.K fIx):=IxR.imp (ix_list.or Pv) λx y H Q ⟨μ,S,dx,dy,dz,hS,h1,h2,h3,post⟩=>by
 cases dy<;>first | cases h3 | skip
 rename_i i
 obtain⟨xs,e,h3⟩:=Rb.mp h3
 obtain⟨a,vs,rfl,hq,r⟩:=fH hS h1 e
 obtain⟨v,h4,h5⟩:=Lw r h3
 rcases hq with hq | hq
 ·exact .inl ⟨a,vs,i,v,rfl,h2.int_inv,hq,h4,post.here hS h5⟩
 ·exact .inr ⟨a,vs,i,v,rfl,h2.int_inv,hq,h4,post.here hS h5⟩
noncomputable def gB{α:Type}(xs:List α)(lo hi:Option Int):List α:=(xs.drop (HT.dF xs.length 0 lo)).take (HT.dF xs.length xs.length hi - HT.dF xs.length 0 lo)
noncomputable abbrev MO:=ai->aa->Option (Option Int×aa)
noncomputable def aT:MO:=λ_ S=>U (Y,S)
noncomputable def bq(m:ME):MO:=λenv S=>(m env S).bind λp=>match p.1 with | .int i=>U (U i,p.2) | _=>Y
inductive tMO(K:W.Frag)(m:MO)(σ:L2.St)(H:Hp)(Q:Option Int->Hp->Prop):Prop
 | mk (μ:Fp) (S:aa) (env:ai) (o:Option Int) (S':aa) (hS:SOk K μ S H) (hE:EOk K μ H σ env) (h:m env S=U (o,S')) (post:∀ H' μ',Ext μ H μ' H'->SOk K μ' S' H'->Q o H')
noncomputable def DO(X:Cx)(e:Option Expr)(m:MO):Prop:=PO X e (tMO X.K m)
theorem PO.imp{t':TO}(h:PO X e t)(i:∀ σ H Q,t' σ H Q->t σ H Q):PO X e t':=λpins s σ H Q I q=>h pins s σ H Q I (i σ H Q q)
theorem KL:DO X Y aT:=PO.imp Je λσ H Q ⟨μ,S,env,d,S',hS,hE,hm,post⟩=>by cases hm;exact post H μ hS.ext hS
theorem KJ(h:DE X e m):DO X (U e) (bq m):=PO.imp (Jd h) λσ H Q ⟨μ,S,env,d,S',hS,hE,hm,post⟩=>by
 obtain⟨⟨x,S1⟩,h1,hm⟩:=Rb.mp hm
 cases x<;>first | cases hm | skip
 exact⟨μ,S,env,_,_,hS,hE,h1,λv H1 μ1 e1 s1 r1=>⟨_,r1.int_inv,post H1 μ1 e1 s1⟩⟩
noncomputable def bA(a:ME)(lo hi:MO):ME:=λenv S=>(a env S).bind λp=>(lo env p.2).bind λl=>(hi env l.2).bind λh=>match p.1 with
 | .tup xs=>U (.tup (gB xs l.1 h.1),h.2)
 | .lst xs=>U (.lst (gB xs l.1 h.1),h.2)
 | .rol xs=>U (.lst (gB xs l.1 h.1),h.2)
 | .ref r=>match h.2[r]? with | some (.lst xs)=>U (.lst (gB xs l.1 h.1),h.2) | _=>Y
 | _=>Y
theorem om{lo:Option Int}(r:Reps K μ H vs ds):Reps K μ H (xE vs lo hi) (gB ds lo hi):=by
 unfold xE gB
 rw[r.length]
 exact(r.drop _).take _
theorem IE:SlR X (λx lo hi H Q=>∃ a xs,x=.ref a/\iP X.K H a xs/\(HT.dF xs.length 0 lo=0/\HT.dF xs.length xs.length hi=xs.length)/\Q (.ref a) H):=by
 intro pins s σ H x v vl vu lo hi sl Q I rx hs pl pu h
 obtain⟨a,xs,rfl,hx,hw,q⟩:=h
 cases rx
 obtain⟨its,r,ht,hz⟩:=I.tuple hx
 have hlen:its.toArray.size=xs.length:=by rw[Rk];exact r.length.symm
 refine⟨"tuple",_,PyProof.Rows.slot_tuple_getitem.lookup,ht.typeIs,?_⟩
 exact HT.jI ht hs pl pu (by rw[hlen];exact hw) ⟨.ref a,H,I,rfl,q⟩
theorem xD{lo:Option Expr}(ha:DE X a ma)(hl:DO X lo ml)(hh:DO X hi mh):DE X (.Subscript a (.Slice lo hi Y p2) pos) (bA ma ml mh):=
 PE.imp (vN (SlR.or IE (SlR.or Nv IF)) ha hl hh) λσ H Q ⟨μ,S,env,d,S',hS,hE,hm,post⟩=>by
  obtain⟨⟨x,S1⟩,h1,hm⟩:=Rb.mp hm
  obtain⟨⟨l,S2⟩,h2,hm⟩:=Rb.mp hm
  obtain⟨⟨h,S3⟩,h3,hm⟩:=Rb.mp hm
  refine⟨μ,S,env,x,S1,hS,hE,h1,λv H1 μ1 e1 s1 r1=>⟨μ1,S1,env,l,S2,s1,hE.mono e1,h2,λH2 μ2 e2 s2=>⟨μ2,S2,env,h,S3,s2,(hE.mono e1).mono e2,h3,λH3 μ3 e3 s3=>?_⟩⟩⟩
  have r3:=(r1.mono e2).mono e3
  have e:=(e1.trans e2).trans e3
  cases x with
  | tup xs=>
   cases hm
   have r3':=r3
   obtain⟨a,vs,rfl,q1,r⟩:=r3.sqT
   by_cases hw:HT.dF vs.length 0 l=0/\HT.dF vs.length vs.length h=vs.length
   ·refine .inl ⟨a,vs,rfl,q1,hw,?_⟩
    have:gB xs l h=xs:=by unfold gB;rw[<- r.length,hw.1,hw.2];simp[r.length]
    rw[this] at post
    exact post _ H3 μ3 e s3 r3'
   ·exact .inr (.inl ⟨a,vs,rfl,q1,hw,λp hp=>(post.ext e).tup s3 hp (om r)⟩)
  | lst xs=>
   cases hm
   obtain⟨a,vs,rfl,q1,n1,r⟩:=r3.sqL
   exact .inr (.inr ⟨a,vs,rfl,.inl (.inl q1),λp hp=>(post.ext e).lst s3 hp (om r)⟩)
  | rol xs=>
   cases hm
   obtain⟨a,vs,rfl,q1,r⟩:=r3.sqR
   exact .inr (.inr ⟨a,vs,rfl,q1,λp hp=>(post.ext e).lst s3 hp (om r)⟩)
  | ref r=>
   dsimp only at hm
   split at hm
   ·rename_i xs q
    cases hm
    cases r3 with
    | @ref a _ ha=>
     obtain⟨vs,hv,rv⟩:=s3.cell r a _ ha q
     exact .inr (.inr ⟨a,vs,rfl,.inl (.inl hv),λp hp=>(post.ext e).lst s3 hp (om rv)⟩)
   ·cases hm
  | _=>cases hm
end
section
variable{X:Cx}{K:W.Frag}{μ μ':Fp}{H H':Hp}{S:aa}
noncomputable def aO(f:List D->aa->Option (D×aa))(ms:MA):ME:=λenv S=>(ms env S).bind λp=>f p.1 p.2
theorem Dw(h:tM K (aO f ms) σ H Q):tCB (yj K f) (tMA K ms) σ H Q:=by
 obtain⟨μ,S,env,d,S',hS,hE,hm,post⟩:=h
 obtain⟨⟨xs,S1⟩,h1,hm⟩:=Rb.mp hm
 exact⟨μ,S,env,xs,S1,hS,hE,h1,λvs H1 μ1 e1 s1 r1=>⟨μ1,S1,xs,d,S',s1,r1,hm,post.ext e1⟩⟩
section
variable{x:Str}{p pos:Pos}{e:Expr}{es:List Expr}{ms:MA}{id T:String}{f:List D->aa->Option (D×aa)}
theorem jw(hc:CallR X (.builtin id) (yj X.K f))(hm:X.mg x=Y)(hv:bootBuiltins x=U (.builtin id))(ha:DA X (e::es) ms)(hg:Gl X x:=by rfl)(hn:x≠"__name__":=by decide)(hdb:(x==("__debug__":Str))=false:=by decide)
  (he:starEach (e::es) X.env=(false,eval e X.env)::starEach es X.env:=by rfl) (hpl:(backTo pos (starEach es X.env)).any (·.1)=false:=by rfl):DE X (.Call (.Name x p) (e::es) [] pos) (aO f ms):=
 PE.imp (kN hc hg hm hv ha hn hdb he hpl) λ_ _ _ h=>Dw h
theorem gk(hc:CallR X (.type T) (yj X.K f))(hm:X.mg x=Y)(hv:bootBuiltins x=U (.type T))(ha:DA X (e::es) ms)(hg:Gl X x:=by rfl)(hn:x≠"__name__":=by decide)(hdb:(x==("__debug__":Str))=false:=by decide)
  (he:starEach (e::es) X.env=(false,eval e X.env)::starEach es X.env:=by rfl) (hpl:(backTo pos (starEach es X.env)).any (·.1)=false:=by rfl):DE X (.Call (.Name x p) (e::es) [] pos) (aO f ms):=
 PE.imp (Bz hc hg hm hv ha hn hdb he hpl) λ_ _ _ h=>Dw h
end
theorem Reps.one{d:D}(r:Reps K μ H vs [d]):∃ v,vs=[v]/\Rep K μ H v d:=by
 cases r with
 | cons h t=>cases t;exact⟨_,rfl,h⟩
theorem Reps.two{d e:D}(r:Reps K μ H vs [d,e]):∃ v w,vs=[v,w]/\Rep K μ H v d/\Rep K μ H w e:=by
 cases r with
 | cons h t=>cases t with | cons h' t=>cases t;exact⟨_,_,rfl,h,h'⟩
noncomputable def az(f:aa->List D->Option D):List D->aa->Option (D×aa):=λds S=>(f S ds).bind λd=>U (d,S)
theorem bX{S S':aa}{d:D}(h:az f ds S=U (d,S')):S'=S/\f S ds=U d:=by
 obtain⟨z,h1,h⟩:=Rb.mp h
 cases h
 exact⟨rfl,h1⟩
noncomputable def fm(S:aa):List D->Option D
 | [.str z]=>if z.length<=sizeLine then U (.int z.length) else Y
 | [d]=>(fw S d).bind λxs=>U (.int xs.length)
 | _=>Y
theorem HV:CallR X (.builtin "len") (yj X.K (az fm)):=CallR.imp (call_len_seq.or uR) λxs H Q ⟨μ,S,ds,d,S',hS,hr,hm,post⟩=>by
 obtain⟨rfl,hm⟩:=bX hm
 match ds,hr,hm with
 | [D.str z],hr,hm=>
  obtain⟨v,rfl,r⟩:=hr.one
  simp only[fm] at hm
  split at hm
  ·rename_i hl;cases hm;exact .inr ⟨z,by rw[r.str_inv],hl,post.here hS (.int _)⟩
  ·cases hm
 | [D.non],hr,hm=>cases hm
 | [D.bl _],hr,hm=>cases hm
 | [D.int _],hr,hm=>cases hm
 | [D.dct _ _],hr,hm=>cases hm
 | [D.tup xs],hr,hm=>
  obtain⟨v,rfl,r⟩:=hr.one
  cases hm
  obtain⟨a,vs,rfl,hq,r⟩:=fH hS r rfl
  exact .inl ⟨a,vs,rfl,hq,by rw[r.length];exact post.here hS (.int _)⟩
 | [D.lst xs],hr,hm=>
  obtain⟨v,rfl,r⟩:=hr.one
  cases hm
  obtain⟨a,vs,rfl,hq,r⟩:=fH hS r rfl
  exact .inl ⟨a,vs,rfl,hq,by rw[r.length];exact post.here hS (.int _)⟩
 | [D.rol xs],hr,hm=>
  obtain⟨v,rfl,r⟩:=hr.one
  cases hm
  obtain⟨a,vs,rfl,hq,r⟩:=fH hS r rfl
  exact .inl ⟨a,vs,rfl,hq,by rw[r.length];exact post.here hS (.int _)⟩
 | [D.ref i],hr,hm=>
  obtain⟨v,rfl,r⟩:=hr.one
  obtain⟨xs,h1,hm⟩:=Rb.mp hm
  cases hm
  obtain⟨a,vs,rfl,hq,r⟩:=fH hS r h1
  exact .inl ⟨a,vs,rfl,hq,by rw[r.length];exact post.here hS (.int _)⟩
 | [],hr,hm=>cases hm
 | a::b::c,hr,hm=>simp[fm] at hm
noncomputable def xp(S:aa):List D->Option D
 | [.int i]=>U (.int i)
 | [.bl k]=>U (.int (if k then 1 else 0))
 | _=>Y
theorem HW:CallR X (.type "int") (yj X.K (az xp)):=CallR.imp CW λxs H Q ⟨μ,S,ds,d,S',hS,hr,hm,post⟩=>by
 obtain⟨rfl,hm⟩:=bX hm
 match ds,hr,hm with
 | [D.int i],hr,hm=>obtain⟨v,rfl,r⟩:=hr.one;cases hm;exact .inl ⟨i,by rw[r.int_inv],post.here hS (.int _)⟩
 | [D.bl k],hr,hm=>obtain⟨v,rfl,r⟩:=hr.one;cases hm;exact .inr ⟨k,by rw[r.bl_inv],post.here hS (.int _)⟩
 | [D.non],hr,hm=>cases hm
 | [D.str _],hr,hm=>cases hm
 | [D.dct _ _],hr,hm=>cases hm
 | [D.tup _],hr,hm=>cases hm
 | [D.lst _],hr,hm=>cases hm
 | [D.rol _],hr,hm=>cases hm
 | [D.ref _],hr,hm=>cases hm
 | [],hr,hm=>cases hm
 | a::b::c,hr,hm=>simp[xp] at hm
noncomputable def Mu(S:aa):List D->Option D
 | [.int i,.int j]=>U (.int (if j>i then j else i))
 | _=>Y
noncomputable def xn(S:aa):List D->Option D
 | [.int i,.int j]=>U (.int (if j<i then j else i))
 | _=>Y
theorem Mp{ds:List D}{f:Int->Int->D}{d:D}(h:(match ds with | [.int i,.int j]=>U (f i j) | _=>Y)=U d):∃ i j,ds=[.int i,.int j]/\d=f i j:=by
 split at h
 ·cases h;exact⟨_,_,rfl,rfl⟩
 ·cases h
theorem Da(hc:X.calm=true):CallR X (.builtin "max") (yj X.K (az Mu)):=CallR.imp (CV hc) λxs H Q ⟨μ,S,ds,d,S',hS,hr,hm,post⟩=>by
 obtain⟨rfl,hm⟩:=bX hm
 obtain⟨i,j,rfl,rfl⟩:=Mp (f:=λi j=>.int (if j>i then j else i)) hm
 obtain⟨v,w,rfl,r1,r2⟩:=hr.two
 exact⟨i,j,by rw[r1.int_inv,r2.int_inv],post.here hS (.int _)⟩
theorem CY(hc:X.calm=true):CallR X (.builtin "min") (yj X.K (az xn)):=CallR.imp (CT hc) λxs H Q ⟨μ,S,ds,d,S',hS,hr,hm,post⟩=>by
 obtain⟨rfl,hm⟩:=bX hm
 obtain⟨i,j,rfl,rfl⟩:=Mp (f:=λi j=>.int (if j<i then j else i)) hm
 obtain⟨v,w,rfl,r1,r2⟩:=hr.two
 exact⟨i,j,by rw[r1.int_inv,r2.int_inv],post.here hS (.int _)⟩
noncomputable def iN(c:List D->D)(S:aa):List D->Option D
 | [d]=>(fw S d).bind λxs=>U (c xs)
 | _=>Y
theorem pL{S:aa}{d:D}(h:iN c S ds=U d):∃ x xs,ds=[x]/\fw S x=U xs/\d=c xs:=by
 match ds,h with
 | [x],h=>
  obtain⟨xs,h1,h⟩:=Rb.mp h
  cases h
  exact⟨x,xs,rfl,h1,rfl⟩
 | [],h=>cases h
 | _::_::_,h=>cases h
theorem Db:CallR X (.type "list") (yj X.K (az (iN .lst))):=CallR.imp lF λxs H Q ⟨μ,S,ds,d,S',hS,hr,hm,post⟩=>by
 obtain⟨rfl,hm⟩:=bX hm
 obtain⟨x,ys,rfl,h1,rfl⟩:=pL hm
 obtain⟨v,rfl,r⟩:=hr.one
 obtain⟨a,vs,rfl,hq,r⟩:=fH hS r h1
 exact⟨a,vs,rfl,hq,λl hl=>post.lst hS hl r⟩
theorem zD:CallR X (.type "tuple") (yj X.K (az (iN .tup))):=CallR.imp qH λxs H Q ⟨μ,S,ds,d,S',hS,hr,hm,post⟩=>by
 obtain⟨rfl,hm⟩:=bX hm
 obtain⟨x,ys,rfl,h1,rfl⟩:=pL hm
 obtain⟨v,rfl,r⟩:=hr.one
 cases x with
 | tup zs=>
  cases h1
  have r':=r
  obtain⟨a,vs,rfl,q,r⟩:=r.sqT
  exact⟨a,vs,rfl,.inr ⟨q,post.here hS r'⟩⟩
 | lst zs=>
  cases h1
  obtain⟨a,vs,rfl,q,n,r⟩:=r.sqL
  exact⟨a,vs,rfl,.inl ⟨.inl (.inl q),λl hl=>post.tup hS hl r⟩⟩
 | rol zs=>
  cases h1
  obtain⟨a,vs,rfl,q,r⟩:=r.sqR
  exact⟨a,vs,rfl,.inl ⟨q,λl hl=>post.tup hS hl r⟩⟩
 | ref i=>
  simp only[fw] at h1
  cases r with
  | @ref a _ h'=>
   cases q:S'[i]? with
   | none=>rw[q] at h1;cases h1
   | some c=>
    rw[q] at h1
    have ck:=hS.cell i a c h' q
    cases c with
    | lst xs=>cases h1;obtain⟨vs,e,r⟩:=ck;exact⟨a,vs,rfl,.inl ⟨.inl (.inl e),λl hl=>post.tup hS hl r⟩⟩
    | dct ks xs=>cases h1
 | _=>cases h1
noncomputable def iF:List D->Option (List Bool)
 | []=>U []
 | .bl b::r=>(iF r).bind λbs=>U (b::bs)
 | _=>Y
noncomputable def zh(S:aa):List D->Option D
 | [.lst xs]=>(iF xs).bind λbs=>U (.bl (bs.all id))
 | _=>Y
noncomputable def Ko(S:aa):List D->Option D
 | [.lst xs]=>(iF xs).bind λbs=>U (.bl (bs.any id))
 | _=>Y
theorem jz:∀ {vs:List V} {ds:List D} {us:List Value} {bs:List Bool},Reps K μ H vs ds->Vals vs us->iF ds=U bs->LSm.BoolsAre us bs
 | _,_,_,_,.nil,.nil,h=>by cases h;exact .nil
 | _,_,_,_,.cons (d:=d) r t,.cons rv tv,h=>by
  cases d<;>first | cases h | skip
  obtain⟨cs,h1,h⟩:=Rb.mp h
  cases h
  cases r;cases rv
  exact .cons _ (jz t tv h1)
theorem HY(hc:X.calm=true):CallR X (.builtin "all") (yj X.K (az zh)):=by
 intro pins s σ H xs us Q I rv h
 obtain⟨μ,S,ds,d,S',hS,hr,hm,post⟩:=h
 obtain⟨rfl,hm⟩:=bX hm
 match ds,hr,hm with
 | [D.lst zs],hr,hm=>
  obtain⟨v,rfl,r⟩:=hr.one
  obtain⟨bs,h1,hm⟩:=Rb.mp hm
  cases hm
  obtain⟨u,rfl,ru⟩:=gD rv
  obtain⟨a,vs,rfl,q,n,r⟩:=r.sqL
  cases ru
  obtain⟨its,rv',pl,hz⟩:=I.list (.inl (.inl q))
  have hl:=pl.isList
  have hb:=jz r rv' h1
  have hlt:a<s.heap.objs.size:=by obtain⟨_,e,_⟩:=hl;exact Ro e
  refine call_all_walk (TZ hl ?_)
  refine⟨s.heap.objs.size,[s.heap.objs.size,a],[s.heap.objs.size],its.toArray.size,_,_,λi=>(bs[i]?).getD true,rfl,Walks.list (A:=X.A.in1) (I.ok.hd hc) _ a (RL hlt) its.toArray,
   ⟨⟨_,Rs _ rfl,rfl,rfl⟩,hl.push _⟩,λi v s' Q' E' hP hQ=>?_,λh' tk hk=>?_⟩
  ·obtain⟨b,e,rfl⟩:=hb.get i v (by simpa using hP)
   simp only[e,Vb] at hQ
   exact SL hQ
  ·have e:((List.range its.toArray.size).all λi=>(bs[i]?).getD true)=bs.all id:=by
    rw[Rk,hb.length];exact LSm.range_all bs
   rw[e]
   exact⟨.bl _,H,I.kept (LSm.kept_iter hk),rfl,post.here hS (.bl _)⟩
 | [D.non],hr,hm=>cases hm
 | [D.bl _],hr,hm=>cases hm
 | [D.int _],hr,hm=>cases hm
 | [D.str _],hr,hm=>cases hm
 | [D.dct _ _],hr,hm=>cases hm
 | [D.tup _],hr,hm=>cases hm
 | [D.rol _],hr,hm=>cases hm
 | [D.ref _],hr,hm=>cases hm
 | [],hr,hm=>cases hm
 | a::b::c,hr,hm=>simp[zh] at hm
noncomputable def tyD(S:aa):D->Option String
 | .non=>U "NoneType"
 | .bl _=>U "bool"
 | .int _=>U "int"
 | .str _=>U "str"
 | .tup _=>U "tuple"
 | .lst _=>U "list"
 | .rol _=>U "list"
 | .dct _ _=>U "dict"
 | .ref r=>match S[r]? with | some (.lst _)=>U "list" | some (.dct _ _)=>U "dict" | none=>Y
 | .txt=>U "str"
 | .obj=>U "dict"
 | .exc _ _ _=>Y
noncomputable def FW(T:String)(t:String):Bool:=t==T||(t=="bool"&&T=="int")
noncomputable def iA(T:String)(S:aa)(d:D):Option D:=(tyD S d).bind λt=>U (.bl (FW T t))
noncomputable def cP(T:String)(m:ME):ME:=λenv S=>(m env S).bind λp=>(iA T p.2 p.1).bind λd=>U (d,p.2)
theorem Bj{S:aa}{d:D}{t:String}(h:tyD S d=U t):t = "NoneType"\/t = "bool"\/t = "int"\/t = "str"\/t = "tuple"\/t = "list"\/t = "dict":=by
 cases d<;>simp only[tyD] at h<;>first | (cases h;simp) | (split at h<;>first | (cases h;simp) | cases h) | cases h
theorem JK(K:W.Frag){T t:String}(hT:T = "int"\/T = "bool"\/T = "str"\/T = "tuple"\/T = "list"\/T = "dict")(ht:t = "NoneType"\/t = "bool"\/t = "int"\/t = "str"\/t = "tuple"\/t = "list"\/t = "dict") :
  W.kitOne K (.type t) (.type T)=U (FW T t):=by
 rcases hT with rfl | rfl | rfl | rfl | rfl | rfl<;>rcases ht with rfl | rfl | rfl | rfl | rfl | rfl | rfl<;>rfl
theorem kia_D{s:Shared}{d:D}{t:String}{b:Bool}{Q:Value->Shared->Prop}(I:Inv X pins σ H s)(hS:SOk X.K μ S H)(r:Rep X.K μ H v d)(ru:RelV v u)(ht:tyD S d=U t)
  (e:W.kitOne X.K (.type t) c=U b) (h:∀ tk,Q (.bool b) { s with toks:=tk }):wpAny (model X.prog X.w) X.A (call (.builtin "isinstance") [u,c]) Q E s:=by
 have tupK:∀ {a:Addr} {vs:List V},iP X.K H a vs->W.KitAt a "tuple" s.heap:=λ{a vs} q=>by
  obtain⟨its,_,⟨o,h1,h2,_⟩,_⟩:=I.tuple q;exact⟨o,h1,h2⟩
 have lstK:∀ {a:Addr} {vs:List V},gT X.K H a vs->W.KitAt a "list" s.heap:=λ{a vs} q=>by
  obtain⟨its,_,⟨o,n,h1,h2,_⟩,_⟩:=I.list q;exact⟨o,h1,h2⟩
 have dK:∀ {a:Addr} {kvs:List (aJ×V)},H a=U (.dK kvs)->W.KitAt a "dict" s.heap:=λ{a kvs} q=>by
  obtain⟨_,_,vs,_,p⟩:=(show ObjOk X.prog X.w H s.heap a (.dK kvs) from I.hok a _ q)
  obtain⟨o,es,ep,h1,h2,_⟩:=p
  exact⟨o,h1,h2.1⟩
 cases r with
 | non=>cases ht;cases ru;exact SN W.kitx_none I.kIn True.intro e (λz=>nomatch z) h
 | bl y=>cases ht;cases ru;exact SN W.kitx_bool I.kIn True.intro e (λz=>nomatch z) h
 | int i=>cases ht;obtain⟨t,rfl⟩:=ru;exact SN W.kitx_int I.kIn True.intro e (λz=>nomatch z) h
 | str y=>cases ht;obtain⟨t,rfl⟩:=ru;exact SN W.kitx_str I.kIn True.intro e (λz=>nomatch z) h
 | tup q n r=>cases ht;cases ru;exact SN W.kitx_tuple I.kIn (tupK (.inl (.inl q))) e (λz=>nomatch z) h
 | ktup q r=>cases ht;cases ru;exact SN W.kitx_tuple I.kIn (tupK (.inr q)) e (λz=>nomatch z) h
 | lst q n r=>cases ht;cases ru;exact SN Vo I.kIn (lstK (.inl (.inl q))) e (λz=>nomatch z) h
 | rol q n r=>cases ht;cases ru;exact SN Vo I.kIn (lstK (.inl q)) e (λz=>nomatch z) h
 | krol q r=>cases ht;cases ru;exact SN Vo I.kIn (lstK (.inr q)) e (λz=>nomatch z) h
 | dct q n r=>cases ht;cases ru;exact SN Wl I.kIn (dK q) e (λz=>nomatch z) h
 | txt y=>cases ht;obtain⟨t,rfl⟩:=ru;exact SN W.kitx_str I.kIn True.intro e (λz=>nomatch z) h
 | obj q n=>cases ht;cases ru;exact SN Wl I.kIn ((show ObjOk X.prog X.w H s.heap _ (.ext (Mo _)) from I.hok _ _ q).1) e (λz=>nomatch z) h
 | exc q n q2 n2=>cases ht
 | @ref a i h'=>
  cases ru
  simp only[tyD] at ht
  cases q:S[i]? with
  | none=>rw[q] at ht;cases ht
  | some c'=>
   rw[q] at ht
   have ck:=hS.cell i a c' h' q
   cases c' with
   | lst xs=>cases ht;obtain⟨vs,q,r⟩:=ck;exact SN Vo I.kIn (lstK (.inl (.inl q))) e (λz=>nomatch z) h
   | dct ks xs=>cases ht;obtain⟨kvs,q,r⟩:=ck;exact SN Wl I.kIn (dK q) e (λz=>nomatch z) h
theorem CJ{p:Pos}(hm:X.mg "isinstance" = Y)(hmT:X.mg x=Y)(hb:bootBuiltins x=U (.type T))(ha:DE X a ma)
  (hT:T = "int"\/T = "bool"\/T = "str"\/T = "tuple"\/T = "list"\/T = "dict":=by simp)
  (hg:Gl X "isinstance":=by rfl) (hgT:Gl X x:=by rfl) (hn:x≠"__name__":=by decide) (hd:(x==("__debug__":Str))=false:=by decide)
  (hs1:starEach [a,.Name x p2] X.env=(false,eval a X.env)::starEach [.Name x p2] X.env:=by rfl) (hs2:starEach [.Name x p2] X.env=(false,eval (.Name x p2) X.env)::starEach [] X.env:=by rfl) (hpl:(backTo pos (starEach [.Name x p2] X.env)).any (·.1)=false:=by rfl) :
  DE X (.Call (.Name "isinstance" p) [a,.Name x p2] [] pos) (cP T ma):=by
 have hc:CallR X (.builtin "isinstance") (λvs H Q=>∃ v μ S d t,vs=[v,.ty T]/\SOk X.K μ S H/\Rep X.K μ H v d/\tyD S d=U t/\Q (.bl (FW T t)) H):=by
  intro pins s σ H xs us Q I rv h
  obtain⟨v,μ,S,d,t,rfl,hS,r,ht,q⟩:=h
  obtain⟨u,w',rfl,r1,r2⟩:=vh rv
  cases r2
  exact kia_D I hS r r1 ht (JK _ hT (Bj ht)) λtk=>⟨.bl _,H,I.tok _,rfl,q⟩
 refine PE.imp (kN hc hg hm Vn (gF ha (gF (zR (v:=.ty T) hgT hmT hb rfl hn hd) oO hs2) hs1) (by decide) (by decide) hs1 hpl) λσ H Q ⟨μ,S,env,d,S',hS,hE,hm,post⟩=>?_
 obtain⟨⟨x,S1⟩,h1,hm⟩:=Rb.mp hm
 obtain⟨z,h2,hm⟩:=Rb.mp hm
 cases hm
 obtain⟨t,h3,h2⟩:=Rb.mp h2
 cases h2
 exact⟨μ,S,env,x,S1,hS,hE,h1,λv H1 μ1 e1 s1 r1=>⟨v,μ1,S1,x,t,rfl,s1,r1,h3,post _ H1 μ1 e1 s1 (.bl _)⟩⟩
end
section
variable{X:Cx}{K:W.Frag}{μ μ':Fp}{H H':Hp}{S:aa}
noncomputable def Dk(K:W.Frag)(n:Nat)(f:List D->aa->Option (D×aa)):Sp:=λvs H Q _=>∃ μ S ds d S',SOk K μ S H/\Reps K μ H vs ds/\ds.length=n/\f ds S=U (d,S')/\Post K μ H S' d Q
structure Fn(P:Program)(w:World)(K:W.Frag)(mg:Str->Option Value)(base:Heap)(k:Nat)(x:Str)(n:Nat)(f:List D->aa->Option (D×aa)):Prop where
 ex:∃ (a:Addr) (fd:FuncData) (ps:List Str),ps.length=n/\FnOk P w K mg base xV k a fd ps (Dk K n f)/\mg x=U (.ref a)/\W.keepIn K (.ref a)=true/\Binds K fd ps []
noncomputable def ak(n:Nat)(f:List D->aa->Option (D×aa))(ms:MA):ME:=λenv S=>(ms env S).bind λp=>if p.1.length=n then f p.1 p.2 else Y
theorem Dv(h:tM K (ak n f ms) σ H Q):vq (Dk K n f) [] E0 (tMA K ms) σ H Q:=by
 obtain⟨μ,S,env,d,S',hS,hE,hm,post⟩:=h
 obtain⟨⟨xs,S1⟩,h1,hm⟩:=Rb.mp hm
 dsimp only at hm
 split at hm
 ·rename_i hn
  refine⟨μ,S,env,xs,S1,hS,hE,h1,λvs H1 μ1 e1 s1 r1=>?_⟩
  show Dk K n f (vs++[]) H1 Q E0
  rw[RU]
  exact⟨μ1,S1,xs,d,S',s1,r1,hn,hm,post.ext e1⟩
 ·cases hm
theorem Lh{k:Nat}{e:Expr}{es:List Expr}(F:Fn X.prog X.w X.K X.mg X.base k x n f)(hr:Room k X.A)(ha:DA X (e::es) ms)(hg:Gl X x:=by rfl)
  (hdb:(x==("__debug__":Str))=false:=by decide) (he:starEach (e::es) X.env=(false,eval e X.env)::starEach es X.env:=by rfl) (hpl:(backTo pos (starEach es X.env)).any (·.1)=false:=by rfl) :
  DE X (.Call (.Name x p) (e::es) [] pos) (ak n f ms):=by
 obtain⟨a,fd,ps,hn,F,hm,hk,hb⟩:=F.ex
 exact PE.imp (Jm F hr hg hm hk hb .nil LZ ha hdb he hpl) λ_ _ _ h=>Dv h
theorem HJ{k:Nat}(F:Fn X.prog X.w X.K X.mg X.base k x 0 f)(hr:Room k X.A)(hg:Gl X x:=by rfl)
  (hdb:(x==("__debug__":Str))=false:=by decide):DE X (.Call (.Name x p) [] [] pos) (ak 0 f af):=by
 obtain⟨a,fd,ps,hn,F,hm,hk,hb⟩:=F.ex
 refine PE.imp (Ey F hr hg hm hk hb .nil LZ hdb) λσ H Q h=>?_
 obtain⟨μ,S,env,d,S',hS,hE,hm,post⟩:=h
 exact⟨μ,S,[],d,S',hS,.nil,rfl,hm,post⟩
mutual
noncomputable def lD(n:Nat):D->Bool
 | .tup xs=>closDs n xs
 | .lst xs=>closDs n xs
 | .rol xs=>closDs n xs
 | .dct _ xs=>closDs n xs
 | .ref r=>decide (r<n)
 | _=>true
noncomputable def closDs(n:Nat):List D->Bool
 | []=>true
 | d::ds=>lD n d&&closDs n ds
end
noncomputable def sq(n:Nat):mL->Bool
 | .lst xs=>closDs n xs
 | .dct _ xs=>closDs n xs
theorem kq:∀ {ds:List D},closDs n ds=true->∀ d∈ds,lD n d=true
 | _::_,c,_,.head _=>(Rg _ _ |>.mp c).1
 | _::_,c,_,.tail _ h=>kq (Rg _ _ |>.mp c).2 _ h
theorem Rep.trunc{cs l fb:List Addr}{d:D}(r:Rep K ⟨cs++l,fb⟩ H v d)(c:lD cs.length d=true):Rep K ⟨cs,fb⟩ H v d:=
 Rep.to (μ:=⟨cs++l,fb⟩) (μ':=⟨cs,fb⟩) (P:=λd=>lD cs.length d=true) (λd c x hx=>by cases d<;>first | (cases hx;done) | exact kq c x hx) (λh n=>⟨h,λz=>n.1 (Sj _ z),n.2⟩) (λc (h:(cs++l)[_]?=U _)=>by rw[Rx (Tu c)] at h;exact h) r c
theorem Reps.trunc{cs l fb:List Addr}(r:Reps K ⟨cs++l,fb⟩ H vs ds)(c:closDs cs.length ds=true):Reps K ⟨cs,fb⟩ H vs ds:=Reps.to (μ:=⟨cs++l,fb⟩) (μ':=⟨cs,fb⟩) (P:=λd=>lD cs.length d=true) (λr c=>r.trunc c) r (kq c)
theorem Rep.closed{d:D}(r:Rep K μ H v d):lD μ.cs.length d=true:=
 Rep.rec (motive_1:=λ_ d _=>lD μ.cs.length d=true) (motive_2:=λ_ ds _=>closDs μ.cs.length ds=true) rfl (λ_=>rfl) (λ_=>rfl) (λ_=>rfl) (λ_ _ _ i=>i) (λ_ _ i=>i) (λ_ _ _ i=>i) (λ_ _ _ i=>i) (λ_ _ i=>i) (λ_ _ _ i=>i) (λh=>Sg (Ri.mp h).1) (λ_=>rfl) (λ_ _=>rfl) (λ_ _ _ _=>rfl) rfl (λ_ _ i j=>by rw[closDs,i,j];rfl) r
theorem Reps.closed:∀ {vs:List V} {ds:List D},Reps K μ H vs ds->closDs μ.cs.length ds=true
 | _,_,.nil=>rfl
 | _,_,.cons h t=>by rw[closDs,Rep.closed h,Reps.closed t];rfl
theorem SOk.closed(s:SOk K μ S H):∀ c∈S,sq S.length c=true:=λc hc=>by
 obtain⟨r,hr⟩:=Ur.mp hc
 have hl:=(Ri.mp hr).1
 have hl':r < μ.cs.length:=by rw[s.len];exact hl
 have:=s.cell r _ c (Rp hl') hr
 cases c with
 | lst ds=>obtain⟨vs,_,q⟩:=this;rw[<- s.len];exact q.closed
 | dct ks ds=>obtain⟨vs,_,_,q⟩:=this;rw[<- s.len];exact q.closed
theorem SOk.trunc{S' g:aa}(s:SOk K μ (S'++g) H)(hc:∀ c∈S',sq S'.length c=true):∃ cs l,μ.cs=cs++l/\cs.length=S'.length/\SOk K ⟨cs,μ.fb⟩ S' H:=by
 obtain⟨cs0,fb⟩:=μ
 have hlen:cs0.length=S'.length+g.length:=by have:=s.len;simpa using this
 have hcl:(cs0.take S'.length).length=S'.length:=by rw[Tf];omega
 refine⟨cs0.take S'.length,cs0.drop S'.length,(SG _ _).symm,hcl,s.nd.sublist (List.take_sublist _ _),hcl,λr a c h1 h2=>?_,s.fdom,λa ha z=>s.disj a ha (TD z)⟩
 have hr:=(Ri.mp h2).1
 have h1':cs0[r]?=U a:=by
  have h1:(cs0.take S'.length)[r]?=U a:=h1
  rwa[VG hr] at h1
 have ck:=s.cell r a c h1' (by rw[Rx hr];exact h2)
 have cc:=hc c (RR h2)
 have e:cs0=cs0.take S'.length++cs0.drop S'.length:=(SG _ _).symm
 cases c with
 | lst ds=>
  obtain⟨vs,q,r⟩:=ck
  have r':Reps K ⟨cs0.take S'.length++cs0.drop S'.length,fb⟩ H vs ds:=by rw[<- e];exact r
  exact⟨vs,q,r'.trunc (by rw[hcl];exact cc)⟩
 | dct ks ds=>
  obtain⟨vs,q,q2,r⟩:=ck
  have r':Reps K ⟨cs0.take S'.length++cs0.drop S'.length,fb⟩ H (vs.map (·.2)) ds:=by rw[<- e];exact r
  exact⟨vs,q,q2,r'.trunc (by rw[hcl];exact cc)⟩
theorem Post.trunc{g:aa}{d:D}(post:Post K μ H S' d Q)(hd:lD S'.length d=true)(hc:∀ c∈S',sq S'.length c=true)(hl:μ.cs.length<=S'.length):Post K μ H (S'++g) d Q:=λv H' μ' e s r=>by
 obtain⟨cs,l,q,hcl,s'⟩:=s.trunc hc
 obtain⟨cs',fb'⟩:=μ'
 have q':cs'=cs++l:=q
 subst q'
 refine post v H' ⟨cs,fb'⟩ ⟨e.fb,?_,e.keep,λa ha=>e.dom a (Sj _ ha)⟩ s' (r.trunc (by rw[hcl];exact hd))
 obtain⟨l0,q0,h0⟩:=e.pre
 have q0:cs++l = μ.cs++l0:=q0
 have hle:μ.cs.length<=cs.length:=by rw[hcl];exact hl
 refine⟨cs.drop μ.cs.length,?_,λa ha=>h0 a ?_⟩
 ·have t1:(cs++l).take μ.cs.length = μ.cs:=by rw[q0];simp
  rw[List.take_append_of_le_length hle] at t1
  show cs = μ.cs++cs.drop μ.cs.length
  conv=>lhs;rw[<- SG μ.cs.length cs,t1]
 ·have t2:(cs++l).drop μ.cs.length=l0:=by rw[q0];simp
  rw[<- t2,List.drop_append_of_le_length hle]
  exact Sj _ ha
noncomputable def Runs(m:MS)(env:ai)(S:aa)(d:D)(S':aa):Prop:=
 ∃ o g,m env S=U o/\(g=[]\/(lD S'.length d=true/\(∀ c∈S',sq S'.length c=true)/\S.length<=S'.length))/\(o=.rt d (S'++g)\/(d=.non/\∃ env',o=.nx env' (S'++g)))
theorem Runs.ret{m:MS}{d:D}(h:m env S=U (.rt d S')):Runs m env S d S':=⟨_,[],h,.inl rfl,.inl (by rw[RU])⟩
noncomputable def bh(N:List Str)(ds:List D):ai:=ds.map U++List.replicate (N.length - ds.length) Y
theorem Ms{k:Nat}{st:Stmt}{f:List D->aa->Option (D×aa)}
  (F:L2.Fun K x qual st a fd) (Sc:aV N ps (am st))
  (hbody:∀ (cdv:Value) (A:Around) (outer:List PySem.Env) (s:Shared) (H:Hp) (E:XK),Room k (A.deeper (envOfC qual (am st) s.heap.objs.size a cdv)) ->
   ∃ m,vc (nH xV P w K mg base N qual (am st) a cdv A outer s H E).nox (aH st) m/\∀ ds S d S',ds.length=ps.length->(∀ c∈S,sq S.length c=true)->closDs S.length ds=true->f ds S=U (d,S')->Runs m (bh N ds) S d S') :
  FnOk P w K mg base xV (k+1) a fd ps (Dk K ps.length f):=by
 refine F.ok Sc (λvs H Q E h=>?_) (λcdv A outer s H vs Q E hr h=>?_)
 ·obtain⟨μ,S,ds,d,S',hS,hr,hn,hf,post⟩:=h
  rw[hr.length,hn]
 ·obtain⟨m,hm,run⟩:=hbody cdv A outer s H E hr
  refine⟨_,hm,?_⟩
  obtain⟨μ,S,ds,d,S',hS,hrp,hn,hf,post⟩:=h
  obtain⟨o,g,ho,hg,hend⟩:=run ds S d S' hn hS.closed (by rw[<- hS.len];exact hrp.closed) hf
  have post':Post K μ H (S'++g) d Q:=by
   rcases hg with rfl | ⟨c1,c2,c3⟩
   ·rw[RU];exact post
   ·exact post.trunc c1 c2 (by rw[hS.len];exact c3)
  have hEnv:EOk K μ H (L2.start N vs) (bh N ds):=by unfold L2.start bh;rw[hrp.length];exact EOk.start hrp
  rcases hend with rfl | ⟨rfl,env',rfl⟩
  ·exact⟨μ,S,_,_,hS,hEnv,ho,post'⟩
  ·exact⟨μ,S,_,_,hS,hEnv,ho,λσ' H' μ' e s' _=>post' .non H' μ' e s' .non⟩
theorem Mt{mg:Str->Option Value}{k:Nat}{st:Stmt}{f:List D->aa->Option (D×aa)}
  (F:L2.Fun K x qual st a fd) (Sc:aV N ps (am st)) (hmg:mg x=U (.ref a)) (hb:Binds K fd ps [])
  (hbody:∀ (cdv:Value) (A:Around) (outer:List PySem.Env) (s:Shared) (H:Hp) (E:XK),Room k (A.deeper (envOfC qual (am st) s.heap.objs.size a cdv)) ->
   ∃ m,vc (nH xV P w K mg base N qual (am st) a cdv A outer s H E).nox (aH st) m/\∀ ds S d S',ds.length=ps.length->(∀ c∈S,sq S.length c=true)->closDs S.length ds=true->f ds S=U (d,S')->Runs m (bh N ds) S d S') :
  Fn P w K mg base (k+1) x ps.length f:=⟨a,fd,ps,rfl,Ms F Sc hbody,hmg,F.kp,hb⟩
end
section
variable{X:Cx}{K:W.Frag}{μ μ':Fp}{H H':Hp}{S:aa}
theorem PostN.ext(e:Ext μ H μ' H')(p:PostN K μ H S' env' Q):PostN K μ' H' S' env' Q:=λσ2 H2 μ2 e2 s r=>p σ2 H2 μ2 (e.trans e2) s r
theorem PostS.ext(e:Ext μ H μ' H')(p:PostS K μ H o E):PostS K μ' H' o E:=by
 cases o with
 | nx env S=>exact PostN.ext e p
 | rt d S=>exact Post.ext e p
 | bk env S=>exact PostN.ext e p
 | ct env S=>exact PostN.ext e p
noncomputable def aI:MS:=λenv S=>U (.nx env S)
noncomputable def ax(a b:MS):MS:=λenv S=>(a env S).bind λo=>match o with | .nx env' S'=>b env' S' | o=>U o
theorem AW:vc X [] aI:=PSs.imp IW λE σ H ⟨μ,S,env,o,hS,hE,hm,post⟩=>by cases hm;exact post σ H μ hS.ext hS hE
theorem Iy(h:Ng K (ax a b) E σ H):tSeq (Ng K a) (Ng K b) E σ H:=by
 obtain⟨μ,S,env,o,hS,hE,hm,post⟩:=h
 obtain⟨o1,h1,hm⟩:=Rb.mp hm
 refine⟨μ,S,env,o1,hS,hE,h1,?_⟩
 cases o1 with
 | nx env' S'=>exact λσ' H' μ' e s r=>⟨μ',S',env',o,s,r,hm,post.ext e⟩
 | rt d S'=>cases hm;exact post
 | bk env' S'=>cases hm;exact post
 | ct env' S'=>cases hm;exact post
theorem Ha{st:Stmt}(h1:DS X st a)(h2:vc X rest b):vc X (st::rest) (ax a b):=PSs.imp (vJ h1 h2) λ_ _ _ h=>Iy h
theorem AV{st:Stmt}(h1:DS X st a):vc X [st] a:=tm h1
variable{pos:Pos}{e c:Expr}{m:ME}{mt:MT}{a b:List Stmt}{ma mb:MS}
theorem KE:DS X (.Pass pos) aI:=PS.imp IZ λE σ H ⟨μ,S,env,o,hS,hE,hm,post⟩=>by cases hm;exact post σ H μ hS.ext hS hE
theorem Hc:DS X (.Break pos) (λenv S=>U (.bk env S)):=PS.imp Ej λE σ H ⟨μ,S,env,o,hS,hE,hm,post⟩=>by cases hm;exact post σ H μ hS.ext hS hE
theorem xy:DS X (.Continue pos) (λenv S=>U (.ct env S)):=PS.imp vL λE σ H ⟨μ,S,env,o,hS,hE,hm,post⟩=>by cases hm;exact post σ H μ hS.ext hS hE
theorem Qk{x j p}:DS X (.Expr (.Constant (.str x) j p) pos) aI:=PS.imp NL λE σ H ⟨μ,S,env,o,hS,hE,hm,post⟩=>by cases hm;exact post σ H μ hS.ext hS hE
noncomputable def bg(m:ME):MS:=λenv S=>(m env S).bind λp=>U (.rt p.1 p.2)
theorem Qi(he:DE X e m):DS X (.Return (U e) pos) (bg m):=PS.imp (NJ he) λE σ H ⟨μ,S,env,o,hS,hE,hm,post⟩=>by
 obtain⟨⟨d,S1⟩,h1,hm⟩:=Rb.mp hm
 cases hm
 exact⟨μ,S,env,d,S1,hS,hE,h1,post⟩
theorem KC:DS X (.Return Y pos) (λ_ S=>U (.rt .non S)):=PS.imp IY λE σ H ⟨μ,S,env,o,hS,hE,hm,post⟩=>by cases hm;exact Post.here post hS .non
noncomputable def dW(m:ME):MS:=λenv S=>(m env S).bind λp=>U (.nx env p.2)
theorem KH(he:DE X e m)(hs:swapsWith e Y pos.line X.env=pure false:=by rfl):DS X (.Expr e pos) (dW m):=PS.imp (Jb he hs) λE σ H ⟨μ,S,env,o,hS,hE,hm,post⟩=>by
 obtain⟨⟨d,S1⟩,h1,hm⟩:=Rb.mp hm
 cases hm
 exact⟨μ,S,env,d,S1,hS,hE,h1,λv H' μ' ex s r=>post σ H' μ' ex s (hE.mono ex)⟩
noncomputable def bM(t:MT)(a b:MS):MS:=λenv S=>(t env S).bind λp=>if p.1=true then a env p.2 else b env p.2
theorem ds_if(hc:DT X c mt)(ha:vc X a ma)(hb:vc X b mb):DS X (.If c a b pos) (bM mt ma mb):=PS.imp (LV hc ha hb) λE σ H ⟨μ,S,env,o,hS,hE,hm,post⟩=>by
 obtain⟨⟨k,S1⟩,h1,hm⟩:=Rb.mp hm
 refine⟨μ,S,env,k,S1,hS,hE,h1,λH1 μ1 e1 s1=>?_⟩
 cases k with
 | true=>rw[Ru rfl] at hm ⊢;exact⟨μ1,S1,env,o,s1,hE.mono e1,hm,post.ext e1⟩
 | false=>rw[RH Rq] at hm ⊢;exact⟨μ1,S1,env,o,s1,hE.mono e1,hm,post.ext e1⟩
noncomputable abbrev MG:=D->ai->aa->Option (ai×aa)
noncomputable abbrev ou:=List D->ai->aa->Option (ai×aa)
inductive nL(K:W.Frag)(g:MG)(v:V)(σ:L2.St)(H:Hp)(Q:L2.St->Hp->Prop):Prop
 | mk (μ:Fp) (S:aa) (env:ai) (d:D) (env':ai) (S':aa) (hS:SOk K μ S H) (hE:EOk K μ H σ env) (h1:Rep K μ H v d) (h:g d env S=U (env',S')) (post:PostN K μ H S' env' Q)
inductive tMGs(K:W.Frag)(g:ou)(vs:List V)(σ:L2.St)(H:Hp)(Q:L2.St->Hp->Prop):Prop
 | mk (μ:Fp) (S:aa) (env:ai) (ds:List D) (env':ai) (S':aa) (hS:SOk K μ S H) (hE:EOk K μ H σ env) (h1:Reps K μ H vs ds) (h:g ds env S=U (env',S')) (post:PostN K μ H S' env' Q)
noncomputable def DG(X:Cx)(tg:Expr)(g:MG):Prop:=PG X tg (nL X.K g)
noncomputable def QZ(X:Cx)(tg:List Expr)(g:ou):Prop:=PGs X tg (tMGs X.K g)
theorem PG.imp{t':TG}(h:PG X tg t)(i:∀ v σ H Q,t' v σ H Q->t v σ H Q):PG X tg t':=λpins s σ H v u Q I r q=>h pins s σ H v u Q I r (i v σ H Q q)
theorem PGs.imp{t':ML}(h:PGs X tg t)(i:∀ v σ H Q,t' v σ H Q->t v σ H Q):PGs X tg t':=λpins s σ H v u Q I r q=>h pins s σ H v u Q I r (i v σ H Q q)
noncomputable def ag(i:Nat):MG:=λd env S=>U (env.set i (U d),S)
theorem AY{i:Nat}{x:Str}(hN:X.N.Nodup)(hi:X.N[i]?=U x)(hx:Bf X.env.scope x)(hf:X.fn x=true\/X.env.scope.names.lookup x=U .local:=by first | exact .inl rfl | exact .inr rfl | assumption):DG X (.Name x pos) (ag i):=
 PG.imp (Jh hN hi hx hf) λv σ H Q ⟨μ,S,env,d,env',S',hS,hE,hr,hm,post⟩=>by cases hm;exact post _ H μ hS.ext hS (hE.set hr i)
noncomputable def cm:ou:=λds env S=>match ds with | []=>U (env,S) | _=>Y
noncomputable def aU(g:MG)(gs:ou):ou:=λds env S=>match ds with | d::r=>(g d env S).bind λp=>gs r p.1 p.2 | []=>Y
theorem KO:QZ X [] cm:=PGs.imp Jg λv σ H Q ⟨μ,S,env,ds,env',S',hS,hE,hr,hm,post⟩=>by
 cases hr with
 | nil=>cases hm;exact⟨rfl,post σ H μ hS.ext hS hE⟩
 | cons _ _=>cases hm
theorem Hl{t:Expr}(h1:DG X t g)(h2:QZ X ts gs)(hs:(assignEach (t::ts) X.env).map (·.2)=assign t X.env::(assignEach ts X.env).map (·.2):=by rfl):QZ X (t::ts) (aU g gs):=
 PGs.imp (Eo h1 h2 hs) λv σ H Q ⟨μ,S,env,ds,env',S',hS,hE,hr,hm,post⟩=>by
  cases hr with
  | nil=>cases hm
  | @cons v d vs ds h t=>
   obtain⟨⟨env1,S1⟩,h1,hm⟩:=Rb.mp hm
   exact⟨v,vs,rfl,μ,S,env,d,env1,S1,hS,hE,h,h1,λσ1 H1 μ1 e1 s1 r1=>⟨μ1,S1,env1,ds,env',S',s1,r1,t.mono e1,hm,post.ext e1⟩⟩
noncomputable def bI(n:Nat)(gs:ou):MG:=λd env S=>match d with | .tup xs=>if xs.length=n then gs xs env S else Y | _=>Y
theorem Hm{k n:Nat}(hc:X.calm=true)(h:QZ X es gs)(hn:(assignEach es X.env).length=n:=by rfl)(hst:(assignEach es X.env).findIdx? (·.1)=Y:=by rfl):DG X (.Tuple es k pos) (bI n gs):=
 PG.imp (NP hc h hn hst) λv σ H Q ⟨μ,S,env,d,env',S',hS,hE,hr,hm,post⟩=>by
  cases d with
  | tup xs=>
   simp only[bI] at hm
   split at hm
   ·rename_i hl
    obtain⟨a,vs,rfl,q,r⟩:=hr.sqT
    exact⟨a,vs,rfl,q,by rw[r.length];exact hl,μ,S,env,xs,env',S',hS,hE,r,hm,post⟩
   ·cases hm
  | _=>cases hm
noncomputable def cC(o i:ME):MG:=λd env S=>(o env S).bind λp=>(i env p.2).bind λq=>match p.1,q.1 with
 | .ref r,.int k=>match q.2[r]? with
  | some (.lst xs)=>(yX xs.length k).bind λj=>U (env,q.2.set r (.lst (xs.set j d)))
  | _=>Y
 | _,_=>Y
theorem Qm(ho:DE X o mo)(hi:DE X i mi)(ha:∀ v,assign (.Subscript o i pos) X.env v=(do
   let ov <- holding [v] (eval o X.env)
   let iv <- holding [v,ov] (eval i X.env)
   standAt pos
   holding [v,ov,iv] (setItem ov iv v)
   release [v,ov,iv] []):=by intro _;rfl):DG X (.Subscript o i pos) (cC mo mi):=
 PG.imp (Ep ho hi DN ha) λv σ H Q ⟨μ,S,env,d,env',S',hS,hE,hr,hm,post⟩=>by
  obtain⟨⟨x,S1⟩,h1,hm⟩:=Rb.mp hm
  obtain⟨⟨y,S2⟩,h2,hm⟩:=Rb.mp hm
  refine⟨μ,S,env,x,S1,hS,hE,h1,λv1 H1 μ1 e1 s1 r1=>⟨μ1,S1,env,y,S2,s1,hE.mono e1,h2,λv2 H2 μ2 e2 s2 r2=>?_⟩⟩
  cases x with
  | ref r=>
   cases y with
   | int k=>
    dsimp only at hm
    cases q:S2[r]? with
    | none=>rw[q] at hm;cases hm
    | some c=>
     rw[q] at hm
     cases c with
     | lst xs=>
      obtain⟨j,h3,hm⟩:=Rb.mp hm
      cases hm
      have r1':=r1.mono e2
      cases r1' with
      | @ref a _ h'=>
       obtain⟨vs,hv,rv⟩:=s2.cell r a _ h' q
       have rd:=(hr.mono e1).mono e2
       obtain⟨e3,s3⟩:=s2.write h' hv (rv.set rd j)
       exact⟨a,vs,k,j,rfl,r2.int_inv,hv,by rw[rv.length];exact h3,post σ _ μ2 ((e1.trans e2).trans e3) s3 (hE.mono ((e1.trans e2).trans e3))⟩
     | dct ks xs=>cases hm
   | _=>cases hm
  | _=>cases hm
noncomputable def au(m:ME)(g:MG):MS:=λenv S=>(m env S).bind λp=>(g p.1 env p.2).bind λq=>U (.nx q.1 q.2)
theorem IB(h:Ng K (au m g) E σ H):Dx (tM K m) (nL K g) E σ H:=by
 obtain⟨μ,S,env,o,hS,hE,hm,post⟩:=h
 obtain⟨⟨d,S1⟩,h1,hm⟩:=Rb.mp hm
 obtain⟨⟨env2,S2⟩,h2,hm⟩:=Rb.mp hm
 cases hm
 exact⟨μ,S,env,d,S1,hS,hE,h1,λv H1 μ1 e1 s1 r1=>⟨μ1,S1,env,d,env2,S2,s1,hE.mono e1,r1,h2,PostN.ext e1 post⟩⟩
theorem Hd(he:DE X e m)(hg:DG X tg g)(hs:swapsWithSole [tg] e pos.line X.env=pure false:=by rfl)(hw:swappedStores [tg] e X.env=pure Y:=by rfl)
  (h1:(assignEach [tg] X.env).map (·.2)=[assign tg X.env]:=by rfl):DS X (.Assign [tg] e pos) (au m g):=PS.imp (NM he hg hs hw h1) λ_ _ _ h=>IB h
theorem uN{i:Nat}{x:Str}(hN:X.N.Nodup)(hi:X.N[i]?=U x)(hx:Bf X.env.scope x)(he:DE X e m)(hs:swapsWith e (U (.Name x pos')) pos.line X.env=pure false:=by rfl)(hf:X.fn x=true\/X.env.scope.names.lookup x=U .local:=by first | exact .inl rfl | exact .inr rfl | assumption) :
  DS X (.Assign [.Name x pos'] e pos) (au m (ag i)):=PS.imp (NI hN hi hx he hs hf) λE σ H h=>by
 obtain⟨μ,S,env,o,hS,hE,hm,post⟩:=h
 obtain⟨⟨d,S1⟩,h1,hm⟩:=Rb.mp hm
 cases hm
 exact⟨μ,S,env,d,S1,hS,hE,h1,λv H1 μ1 e1 s1 r1=>post _ H1 μ1 e1 s1 ((hE.mono e1).set r1 i)⟩
structure ExtP(μ:Fp)(H:Hp)(μ':Fp)(H':Hp):Prop where
 fb:∃ l,μ'.fb=l++μ.fb/\∀ a∈l,H a=Y
 pre:∃ l,μ'.cs = μ.cs++l/\∀ a∈l,H a=Y
 keep:∀ a o,a∉μ.cs->H a=U o->H' a=U o
 dom:∀ a∈μ'.cs,H' a≠Y
theorem Ext.toP(e:Ext μ H μ' H'):ExtP μ H μ' H':=⟨⟨[],by rw[e.fb];rfl,λ_ z=>by simp at z⟩,e.pre,e.keep,e.dom⟩
theorem ExtP.stays(e:ExtP μ H μ' H'){a:Addr}{o:HO}(h:H a=U o)(n:μ.no a):H' a=U o/\μ'.no a:=by
 refine⟨e.keep a o n.1 h,λz=>?_,λz=>?_⟩
 ·obtain⟨l,q,hl⟩:=e.pre
  rw[q] at z
  rcases RE.mp z with z | z
  ·exact n.1 z
  ·rw[hl a z] at h;cases h
 ·obtain⟨l,q,hl⟩:=e.fb
  rw[q] at z
  rcases RE.mp z with z | z
  ·rw[hl a z] at h;cases h
  ·exact n.2 z
theorem ExtP.then(e:ExtP μ H μ' H')(f:Ext μ' H' μ'' H''):ExtP μ H μ'' H'':=by
 obtain⟨l,q,hl⟩:=e.pre
 obtain⟨l',q',hl'⟩:=f.pre
 refine⟨by rw[f.fb];exact e.fb,⟨l++l',by rw[q',q,Su],λa ha=>?_⟩,λa o n h=>?_,f.dom⟩
 ·rcases RE.mp ha with ha | ha
  ·exact hl a ha
  ·have h1:=hl' a ha
   cases q2:H a with
   | none=>rfl
   | some o=>
    by_cases hm:a∈μ.cs
    ·exact absurd h1 (e.dom a (by rw[q];exact Sj _ hm))
    ·rw[e.keep a o hm q2] at h1;cases h1
 ·have h1:=e.keep a o n h
  refine f.keep a o (λz=>?_) h1
  rw[q] at z
  rcases RE.mp z with z | z
  ·exact n z
  ·rw[hl a z] at h;cases h
theorem ExtP.chg(e:ExtP μ H μ' H')(hp:H p=Y):ExtP μ H μ' (upd H' p o):=
 ⟨e.fb,e.pre,λa o' n h=>by rw[aj (aQ h hp)];exact e.keep a o' n h,λa ha=>by
  by_cases z:a=p
  ·subst z;rw[ah];simp
  ·rw[aj z];exact e.dom a ha⟩
theorem ExtP.ix(e:ExtP μ H μ' H'){r:Nat}{a:Addr}(h:μ.cs[r]?=U a):μ'.cs[r]?=U a:=by
 obtain⟨l,q,_⟩:=e.pre
 exact uU q h
theorem Rep.monoP(e:ExtP μ H μ' H'){d:D}(r:Rep K μ H v d):Rep K μ' H' v d:=r.imp e.stays e.ix
noncomputable def xS(K:W.Frag)(μ:Fp)(H:Hp)(J:It)(xs:List D):Prop:=
 ∀ μ' H' S',ExtP μ H μ' H'->SOk K μ' S' H'->∀ i,(∀ d,xs[i]?=U d->J.go i H'/\∀ x H2,J.yld i H' x H2->Ext μ' H' μ' H2/\SOk K μ' S' H2/\Rep K μ' H2 x d)/\(xs.length<=i->J.stop i H')
inductive iM(K:W.Frag)(m:MA)(σ:L2.St)(H:Hp)(R:It->Hp->Prop):Prop
 | mk (μ:Fp) (S:aa) (env:ai) (xs:List D) (S':aa) (hS:SOk K μ S H) (hE:EOk K μ H σ env) (h:m env S=U (xs,S')) (post:∀ J H' μ',Ext μ H μ' H'->SOk K μ' S' H'->xS K μ' H' J xs->R J H')
noncomputable def DI(X:Cx)(tg iter:Expr)(m:MA):Prop:=PI X tg iter (iM X.K m)
theorem PI.imp{t':TI}(h:PI X tg iter t)(i:∀ σ H R,t' σ H R->t σ H R):PI X tg iter t':=λpins s σ H R I q=>h pins s σ H R I (i σ H R q)
theorem jF{v:V}{a:Addr}{d:D}{xs:List D}(hd:d=.lst xs\/d=.rol xs)(r:Rep K μ H v d)(hv:v=.ref a):xS K μ H (Itl K a) xs:=λμ' H' S' e s i=>by
 have r':=r.monoP e
 obtain⟨vs,q,rs⟩:∃ vs,gT K H' a vs/\Reps K μ' H' vs xs:=by
  subst hv
  rcases hd with rfl | rfl
  ·obtain⟨a',vs,ea,q,_,rs⟩:=r'.sqL;cases ea;exact⟨vs,.inl (.inl q),rs⟩
  ·obtain⟨a',vs,ea,q,rs⟩:=r'.sqR;cases ea;exact⟨vs,q,rs⟩
 refine⟨λd hd=>?_,λhl=>⟨vs,q,by rw[rs.length];exact hl⟩⟩
 obtain⟨v,hv,rv⟩:=rs.get hd
 refine⟨⟨vs,v,q,hv⟩,λx H2 ⟨e2,hy⟩=>?_⟩
 subst e2
 have:=hy vs q
 rw[hv] at this;cases this
 exact⟨s.ext,s,rv⟩
theorem wV{a:Addr}{xs:List D}(r:Rep K μ H (.ref a) (.tup xs)):xS K μ H (Itt K a) xs:=λμ' H' S' e s i=>by
 obtain⟨a',vs,ea,q,rs⟩:=(r.monoP e).sqT
 cases ea
 refine⟨λd hd=>?_,λhl=>⟨vs,q,by rw[rs.length];exact hl⟩⟩
 obtain⟨v,hv,rv⟩:=rs.get hd
 refine⟨⟨vs,v,q,hv⟩,λx H2 ⟨e2,hy⟩=>?_⟩
 subst e2
 have:=hy vs q
 rw[hv] at this;cases this
 exact⟨s.ext,s,rv⟩
variable{tg iter:Expr}
noncomputable def aS(lo:Int)(n:Nat):List D:=(List.range n).map λ(i:Nat)=>D.int (lo+(i:Int))
theorem oH(lo:Int)(n i:Nat)(d:D)(h:(aS lo n)[i]?=U d):i<n/\d=.int (lo+(i:Int)):=by
 unfold aS at h
 rw[SA] at h
 cases q:(List.range n)[i]? with
 | none=>rw[q] at h;cases h
 | some j=>
  rw[q] at h;cases h
  obtain⟨h1,h2⟩:=Ri.mp q
  simp at h1 h2
  exact⟨h1,by rw[h2]⟩
theorem kf(lo:Int)(n:Nat):xS K μ H (Itr lo n) (aS lo n):=λμ' H' S' e s i=>by
 refine⟨λd hd=>?_,λhl=>?_⟩
 ·obtain⟨h1,rfl⟩:=oH lo n i d hd
  refine⟨h1,λx H2 ⟨e2,hy⟩=>?_⟩
  subst e2 hy
  exact⟨s.ext,s,.int _⟩
 ·have:(aS lo n).length=n:=by simp[aS]
  rw[this] at hl;exact hl
noncomputable def aF(ms:MA):MA:=λenv S=>(ms env S).bind λp=>match p.1 with | [.int j]=>if -(2^62)<=j/\j<2^62 then U (aS 0 j.toNat,p.2) else Y | _=>Y
noncomputable def bK(ms:MA):MA:=λenv S=>(ms env S).bind λp=>match p.1 with | [.int i,.int j]=>if -(2^62)<=i/\i<2^62/\-(2^62)<=j/\j<2^62 then U (aS i (j - i).toNat,p.2) else Y | _=>Y
theorem CD{a:Expr}{p:Pos}(hm:X.mg "range" = Y)(ha:DA X [a] ms)(hg:Gl X "range":=by rfl)(hs:starEach [a] X.env=[(false,eval a X.env)]:=by rfl):DI X tg (.Call (.Name "range" p) [a] [] pos) (aF ms):=
 PI.imp (qY hg hm ha hs) λσ H R ⟨μ,S,env,xs,S',hS,hE,hm,post⟩=>by
  obtain⟨⟨ds,S1⟩,h1,hm⟩:=Rb.mp hm
  refine⟨μ,S,env,ds,S1,hS,hE,h1,λvs H1 μ1 e1 s1 r1=>?_⟩
  dsimp only at hm
  split at hm
  ·split at hm
   ·rename_i hb
    cases hm
    obtain⟨v,rfl,r⟩:=r1.one
    exact⟨_,by rw[r.int_inv],hb.1,hb.2,post _ H1 μ1 e1 s1 (kf 0 _)⟩
   ·cases hm
  ·cases hm
theorem CC{a b:Expr}{p:Pos}(hm:X.mg "range" = Y)(ha:DA X [a,b] ms)(hg:Gl X "range":=by rfl)(hs:starEach [a,b] X.env=[(false,eval a X.env),(false,eval b X.env)]:=by rfl)(hs2:starEach [b] X.env=[(false,eval b X.env)]:=by rfl):DI X tg (.Call (.Name "range" p) [a,b] [] pos) (bK ms):=
 PI.imp (Bx hg hm ha hs hs2) λσ H R ⟨μ,S,env,xs,S',hS,hE,hm,post⟩=>by
  obtain⟨⟨ds,S1⟩,h1,hm⟩:=Rb.mp hm
  refine⟨μ,S,env,ds,S1,hS,hE,h1,λvs H1 μ1 e1 s1 r1=>?_⟩
  dsimp only at hm
  split at hm
  ·split at hm
   ·rename_i hb
    cases hm
    obtain⟨v,w,rfl,r,r'⟩:=r1.two
    exact⟨_,_,by rw[r.int_inv,r'.int_inv],hb,post _ H1 μ1 e1 s1 (kf _ _)⟩
   ·cases hm
  ·cases hm
noncomputable def cx(g:MG)(body:MS):List D->ai->aa->Option ny
 | [],env,S=>U (.nx env S)
 | d::ds,env,S=>(g d env S).bind λp=>(body p.1 p.2).bind λo=>match o with
  | .nx e s=>cx g body ds e s
  | .ct e s=>cx g body ds e s
  | .bk e s=>U (.nx e s)
  | .rt d s=>U (.rt d s)
noncomputable def eG(mi:MA)(g:MG)(body:MS):MS:=λenv S=>(mi env S).bind λp=>cx g body p.1 env p.2
theorem Hb{mb:MS}(hp:PassesOwn (model X.prog X.w) X.A X.env X.xe)(hc:X.calm=true)(hi:DI X tg iter mi)(hg:DG X tg g)(hb:vc X body mb)
  (hs:∀ x,foldedSetIterable iter X.env x=pure x:=by intro _;rfl):DS X (.For tg iter body [] pos) (eG mi g mb):=PS.imp (yk hp hc hi hg hb hs) λE σ H ⟨μ,S,env,o,hS,hE,hm,post⟩=>by
 obtain⟨⟨xs,S1⟩,h1,hm⟩:=Rb.mp hm
 refine⟨μ,S,env,xs,S1,hS,hE,h1,λJ H1 μ1 e1 s1 it=>?_⟩
 refine⟨λi n σ H=>n=xs.length - i/\i<=xs.length/\∃ μ' S' env' o',Ext μ1 H1 μ' H/\SOk X.K μ' S' H/\EOk X.K μ' H σ env'/\cx g mb (xs.drop i) env' S'=U o'/\PostS X.K μ' H o' E,
  ⟨xs.length,by simp,SJ _,μ1,S1,env,o,s1.ext,s1,hE.mono e1,by rw[SK];exact hm,post.ext e1⟩,?_⟩
 rintro i n σ' H' ⟨rfl,hi,μ',S',env',o',e',s',r',hl,post'⟩
 have iti:=it μ' H' S' e'.toP s' i
 by_cases hlt:i<xs.length
 ·refine .inr ⟨(iti.1 xs[i] (Rp hlt)).1,λσ2 H2=>∃ μ2 S2 env2 o2,Ext μ1 H1 μ2 H2/\SOk X.K μ2 S2 H2/\EOk X.K μ2 H2 σ2 env2/\cx g mb (xs.drop (i+1)) env2 S2=U o2/\PostS X.K μ2 H2 o2 E,
   λσ2 H2 ⟨μ2,S2,env2,o2,q1,q2,q3,q4,q5⟩=>⟨xs.length - (i+1),by omega,rfl,hlt,μ2,S2,env2,o2,q1,q2,q3,q4,q5⟩,λx H2 y=>?_⟩
  obtain⟨e2,s2,rx⟩:=(iti.1 xs[i] (Rp hlt)).2 x H2 y
  rw[RW hlt] at hl
  obtain⟨⟨env3,S3⟩,h3,hl⟩:=Rb.mp hl
  obtain⟨o4,h4,hl⟩:=Rb.mp hl
  refine⟨μ',S',env',xs[i],env3,S3,s2,r'.mono e2,rx,h3,λσ3 H3 μ3 e3 s3 r3=>⟨μ3,S3,env3,o4,s3,r3,h4,?_⟩⟩
  have eT:Ext μ1 H1 μ3 H3:=(e'.trans e2).trans e3
  have pT:PostS X.K μ3 H3 o' E:=(post'.ext e2).ext e3
  cases o4 with
  | nx e5 s5=>exact λσ6 H6 μ6 e6 s6 r6=>⟨μ6,s5,e5,o',eT.trans e6,s6,r6,hl,pT.ext e6⟩
  | ct e5 s5=>exact λσ6 H6 μ6 e6 s6 r6=>⟨μ6,s5,e5,o',eT.trans e6,s6,r6,hl,pT.ext e6⟩
  | bk e5 s5=>cases hl;exact pT
  | rt d5 s5=>cases hl;exact pT
 ·have e:i=xs.length:=by omega
  subst e
  refine .inl ⟨iti.2 (Rn _),?_⟩
  rw[SU] at hl
  cases hl
  exact post' σ' H' μ' s'.ext s' r'
noncomputable def fP(cap:List (Option Nat))(env:ai):ai:=cap.map λo=>o.bind λi=>(env[i]?).join
noncomputable def sB(X:Cx)(ifs:List Expr)(m:MT):Prop:=Be X ifs (jT X.K m)
theorem Kz:sB X [] (λ_ S=>U (true,S)):=λpins s σ H Q I ⟨μ,S,env,b,S',hS,hE,hm,post⟩=>by cases hm;exact IU pins s σ H Q I (post H μ hS.ext hS)
theorem Ky{c:Expr}(h:DT X c t):sB X [c] t:=IT h
noncomputable def dn(g:MG)(t:MT)(e:ME):List D->ai->aa->Option (List D×aa)
 | [],_,S=>U ([],S)
 | d::ds,env,S=>(g d env S).bind λp=>(t p.1 p.2).bind λb=>if b.1=true then(e p.1 b.2).bind λq=>(dn g t e ds p.1 q.2).bind λr=>U (q.1::r.1,r.2) else dn g t e ds p.1 b.2
noncomputable def bP(mi:MA)(g:MG)(t:MT)(e:ME)(cap:List (Option Nat)):ME:=λenv S=>(mi env S).bind λp=>if p.1.length<=sizeLine then(dn g t e p.1 (fP cap env) p.2).bind λq=>U (.lst q.1,q.2) else Y
theorem vo{mi:MA}{g:MG}{t:MT}{e:ME}{cap:List (Option Nat)}{σ:L2.St}{Q:VK}(h:tM K (bP mi g t e cap) σ H Q):vp (iM K mi) (nL K g) (jT K t) (tM K e) cap σ H Q:=by
 obtain⟨μ,S,env,d,S',hS,hE,hm,post⟩:=h
 obtain⟨⟨xs,S1⟩,h1,hm⟩:=Rb.mp hm
 dsimp only at hm
 split at hm
 case isFalse=>cases hm
 rename_i hsz
 obtain⟨⟨ys,S2⟩,h2,hm⟩:=Rb.mp hm
 cases hm
 refine⟨μ,S,env,xs,S1,hS,hE,h1,λJ H1 μ1 e1 s1 it p hp=>?_⟩
 have hpn:=s1.notMem hp
 refine⟨λi n σ' H'=>n=xs.length - i/\i<=xs.length/\∃ (cs:List Addr) (S':aa) (env':ai) (vs:List V) (zs rest:List D),ExtP μ1 H1 ⟨cs,p::μ1.fb⟩ H'/\SOk K ⟨cs,p::μ1.fb⟩ S' H'/\EOk K ⟨cs,p::μ1.fb⟩ H' σ' env'/\H' p=U (.lst vs) /\
   Reps K ⟨cs,p::μ1.fb⟩ H' vs zs/\dn g t e (xs.drop i) env' S'=U (rest,S2)/\ys=zs++rest/\vs.length<=i,⟨xs.length,by simp,SJ _,μ1.cs,S1,fP cap env,[],[],ys,?_,s1.more hp,?_,ah,.nil,by rw[SK];exact h2,rfl,Rn _⟩,?_⟩
 ·exact⟨⟨[p],rfl,λa z=>by rw[RD.mp z];exact hp⟩,⟨[],by simp,λ_ z=>by simp at z⟩,λa o' n h=>by rw[aj (aQ h hp)];exact h,λa ha=>by
   by_cases z:a=p
   ·subst z;rw[ah];simp
   ·rw[aj z];exact s1.dom a ha⟩
 ·exact((hE.mono e1).block cap).more hp
 rintro i n σ' H' ⟨rfl,hi,cs,S',env',vs,zs,rest,eP,s',r',hpv,rz,hl,rfl,hvl⟩
 have iti:=it _ H' S' eP s' i
 by_cases hlt:i<xs.length
 ·refine .inr ⟨(iti.1 xs[i] (Rp hlt)).1,λx H2 y=>?_⟩
  obtain⟨e2,s2,rx⟩:=(iti.1 xs[i] (Rp hlt)).2 x H2 y
  rw[RW hlt] at hl
  obtain⟨⟨env3,S3⟩,h3,hl⟩:=Rb.mp hl
  obtain⟨⟨b,S4⟩,h4,hl⟩:=Rb.mp hl
  refine⟨_,S',env',xs[i],env3,S3,s2,r'.mono e2,rx,h3,λσ3 H3 μ3 e3 s3 r3=>⟨μ3,S3,env3,b,S4,s3,r3,h4,λH4 μ4 e4 s4=>?_⟩⟩
  have eA:=(e2.trans e3).trans e4
  have pcs:p∉cs:=λz=>s'.disj p Rf z
  cases b with
  | false=>
   rw[RH Rq] at hl
   dsimp only
   rw[RH Rq]
   obtain⟨cs4,fb4⟩:=μ4
   have hfb:fb4=p::μ1.fb:=eA.fb
   subst hfb
   exact⟨xs.length - (i+1),by omega,rfl,hlt,cs4,S4,env3,vs,zs,rest,eP.then eA,s4,r3.mono e4,(eA.keeps hpv pcs).1,rz.mono eA,hl,rfl,by omega⟩
  | true=>
   rw[Ru rfl] at hl
   dsimp only
   rw[Ru rfl]
   obtain⟨⟨dv,S5⟩,h5,hl⟩:=Rb.mp hl
   obtain⟨⟨rs,S6⟩,h6,hl⟩:=Rb.mp hl
   cases hl
   refine⟨μ4,S4,env3,dv,S5,s4,r3.mono e4,h5,λv H5 μ5 e5 s5 r5=>?_⟩
   have eB:=eA.trans e5
   obtain⟨cs5,fb5⟩:=μ5
   have hfb:fb5=p::μ1.fb:=eB.fb
   subst hfb
   refine⟨vs,(eB.keeps hpv pcs).1,by omega,xs.length - (i+1),by omega,rfl,hlt,cs5,S5,env3,vs++[v],zs++[dv],rs,(eP.then eB).chg hp,s5.chg Rf,((r3.mono e4).mono e5).chg Rf,ah,Reps.chg Rf ((rz.mono eB).append (.cons r5 .nil)),h6,by simp,by rw[Rz,SX];omega⟩
 ·have e:i=xs.length:=by omega
  subst e
  refine .inl ⟨iti.2 (Rn _),?_⟩
  rw[SU] at hl
  cases hl
  have eF:Ext μ1 H1 ⟨cs,μ1.fb⟩ H':=⟨rfl,eP.pre,eP.keep,eP.dom⟩
  dsimp only at post
  rw[RU] at post
  exact post _ H' ⟨cs,μ1.fb⟩ (e1.trans eF) s'.less (.lst hpv ⟨λz=>s'.disj p Rf z,hpn.2⟩ rz.less)
theorem Lg
  (hc:X.calm=true) (B:BlockOk X N' scope cap) (hi:DI X tg iter mi) (hg:∀ C s H fp,DG (di X N' scope C s H fp) tg g) (ht:∀ C s H fp,sB (di X N' scope C s H fp) ifs t) (he:∀ C s H fp,DE (di X N' scope C s H fp) elt me)
  (hs:∀ x,foldedSetIterable iter X.env x=pure x:=by intro _;rfl):DE X (.ListComp elt [⟨tg,iter,ifs,0⟩] scope pos) (bP mi g t me cap):=
 PE.imp (tB (g:=nL X.K g) (tt:=jT X.K t) (te:=tM X.K me) hc B hi hg ht he hs) λ_ _ _ h=>vo h
theorem zq{spos:Pos}{y:Str}{i:Nat}
  (hN:X.N.Nodup) (hy:X.N[i]?=U y) (hx:Bf X.env.scope y)
  (hc:X.calm=true) (B:BlockOk X N' scope cap) (hi:DI X tg iter mi) (hg:∀ C s H fp,DG (di X N' scope C s H fp) tg g) (ht:∀ C s H fp,sB (di X N' scope C s H fp) ifs t) (he:∀ C s H fp,DE (di X N' scope C s H fp) elt me)
  (hsw:swapsWith (.ListComp elt [⟨tg,iter,ifs,0⟩] scope pos) (U (.Name y py)) spos.line X.env=pure true:=by rfl)
  (hs:∀ x,foldedSetIterable iter X.env x=pure x:=by intro _;rfl) (hf:X.fn y=true\/X.env.scope.names.lookup y=U .local:=by first | exact .inl rfl | exact .inr rfl | assumption) :
  DS X (.Assign [.Name y py] (.ListComp elt [⟨tg,iter,ifs,0⟩] scope pos) spos) (au (bP mi g t me cap) (ag i)):=
 PS.imp (jX (g:=nL X.K g) (tt:=jT X.K t) (te:=tM X.K me) hN hy hx hc B hi hg ht he hsw hs hf) λE σ H h=>by
  obtain⟨μ,S,env,o,hS,hE,hm,post⟩:=h
  obtain⟨⟨d,S1⟩,h1,hm⟩:=Rb.mp hm
  cases hm
  exact vo ⟨μ,S,env,d,S1,hS,hE,h1,λv H1 μ1 e1 s1 r1=>post _ H1 μ1 e1 s1 ((hE.mono e1).set r1 i)⟩
end
section
variable{X:Cx}{K:W.Frag}{μ μ':Fp}{H H':Hp}{S:aa}{pos p2:Pos}{tg iter:Expr}{m:ME}
noncomputable def qG(N N':List Str)(kX kB:Str->Option NameKind):List (Option Nat)->List Str->Bool
 | [],[]=>true
 | none::r,_::s=>qG N N' kX kB r s
 | some i::r,y::s=>N[i]?==U y&&(kX y==U .cell||kX y==U .free)&&(kB y==U .cell||kB y==U .free)&&qG N N' kX kB r s
 | _,_=>false
theorem uP{kX:Str->Option NameKind}:∀ {cap:List (Option Nat)} {ys:List Str},qG N N' kX kB cap ys=true->cap.length=ys.length/\∀ (j i:Nat),cap[j]?=U (U i)->∃ y,ys[j]?=U y/\N[i]?=U y/\(kX y=U .cell\/kX y=U .free)/\(kB y=U .cell\/kB y=U .free)
 | [],[],_=>⟨rfl,λj i e=>by simp at e⟩
 | none::r,y::s,h=>by
  obtain⟨h1,h2⟩:=uP (cap:=r) (ys:=s) h
  refine⟨by simp[h1],λj i e=>?_⟩
  cases j with
  | zero=>simp at e
  | succ j=>simpa using h2 j i (by simpa using e)
 | some k::r,y::s,h=>by
  rw[qG,Rg,Rg,Rg,Uu,Uu] at h
  obtain⟨h1,h2⟩:=uP (cap:=r) (ys:=s) h.2
  refine⟨by simp[h1],λj i e=>?_⟩
  cases j with
  | zero=>
   simp at e;subst e
   refine⟨y,rfl,by simpa using h.1.1.1,?_,?_⟩
   ·exact h.1.1.2.imp (λz=>by simpa using z) λz=>by simpa using z
   ·exact h.1.2.imp (λz=>by simpa using z) λz=>by simpa using z
  | succ j=>simpa using h2 j i (by simpa using e)
 | [],_::_,h=>by simp[qG] at h
 | none::_,[],h=>by simp[qG] at h
 | some _::_,[],h=>by simp[qG] at h
theorem blk{N':List Str}{scope:Scope}(nd:N'.Nodup)(k:scope.kind=.function:=by rfl)(nc:(scope.names.all λx=>x.2 != .cell)=true:=by rfl)(nm:(scope.names.all λx=>x.2 != .local||scope.names.lookup x.1==U .local)=true:=by rfl)
  (fr:(scope.names.all λx=>x.2 != .free||X.env.kindOf x.1==U .cell||X.env.kindOf x.1==U .free)=true:=by rfl)
  (cp:qG X.N N' X.env.kindOf (λy=>(relabel scope X.env).names.lookup y) cap N'=true:=by rfl):BlockOk X N' scope cap:=by
 obtain⟨h1,h2⟩:=uP cp
 refine⟨k,λx hx=>?_,λx hx hl=>?_,λx hx hf=>?_,nd,h1,λj i e=>?_⟩
 ·have:=RI.mp nc x hx
  simpa using this
 ·have:=RI.mp nm x hx
  simpa[hl] using this
 ·have:=RI.mp fr x hx
  simpa[hf] using this
 ·obtain⟨y,a,b,c,d⟩:=h2 j i e
  exact⟨y,a,b,.inr c,c,d⟩
theorem Em(hl:PE X l tl):PI X tg l (λσ H R=>tl σ H λx H1=>∃ a,x=.ref a/\(((∃ xs,gT X.K H1 a xs)/\R (Itl X.K a) H1)\/((∃ xs,iP X.K H1 a xs)/\R (Itt X.K a) H1))):=by
 intro pins s σ H R I h
 refine bN (hl pins s σ H _ I h) λv s1 ⟨x,H1,I1,r1,q1⟩=>?_
 obtain⟨a,e,⟨⟨xs,hq⟩,q⟩ | ⟨⟨xs,hq⟩,q⟩⟩:=q1
 ·subst e
  cases r1
  obtain⟨its,rv,p,hz⟩:=I1.list hq
  refine TZ p.isList ?_
  refine⟨s1.heap.objs.size,[s1.heap.objs.size],_,_,H1,rfl,I1.kept (t':=s1.toks) λb o e=>Re _ e,qK a _,⟨_,Rs _ rfl,rfl,rfl⟩,λb hb=>?_,q⟩
  have e:b=s1.heap.objs.size:=by simpa using hb
  subst e
  exact I1.fpOk (Rn _) (I1.hok.fresh (Rn _))
 ·subst e
  cases r1
  obtain⟨its,rv,p,hz⟩:=I1.tuple hq
  refine Th (show s1.heap.IsTuple a its.toArray from p) ?_
  refine⟨s1.heap.objs.size,[s1.heap.objs.size],_,_,H1,rfl,I1.kept (t':=s1.toks) λb o e=>Re _ e,xX a _,⟨_,Rs _ rfl,rfl,rfl⟩,λb hb=>?_,q⟩
  have e:b=s1.heap.objs.size:=by simpa using hb
  subst e
  exact I1.fpOk (Rn _) (I1.hok.fresh (Rn _))
noncomputable def cO(m:ME):MA:=λenv S=>(m env S).bind λp=>match p.1 with | .lst xs=>U (xs,p.2) | .rol xs=>U (xs,p.2) | .tup xs=>U (xs,p.2) | _=>Y
theorem zv(h:DE X iter m):DI X tg iter (cO m):=PI.imp (Em h) λσ H R ⟨μ,S,env,xs,S',hS,hE,hm,post⟩=>by
 obtain⟨⟨d,S1⟩,h1,hm⟩:=Rb.mp hm
 refine⟨μ,S,env,d,S1,hS,hE,h1,λv H1 μ1 e1 s1 r1=>?_⟩
 cases d with
 | lst ys=>
  cases hm
  have r1':=r1
  obtain⟨a,vs,rfl,q,_,rs⟩:=r1.sqL
  exact⟨a,rfl,.inl ⟨⟨vs,.inl (.inl q)⟩,post _ H1 μ1 e1 s1 (jF (.inl rfl) r1' rfl)⟩⟩
 | rol ys=>
  cases hm
  have r1':=r1
  obtain⟨a,vs,rfl,q,rs⟩:=r1.sqR
  exact⟨a,rfl,.inl ⟨⟨vs,q⟩,post _ H1 μ1 e1 s1 (jF (.inr rfl) r1' rfl)⟩⟩
 | tup ys=>
  cases hm
  have r1':=r1
  obtain⟨a,vs,rfl,q,rs⟩:=r1.sqT
  exact⟨a,rfl,.inr ⟨⟨vs,q⟩,post _ H1 μ1 e1 s1 (wV r1')⟩⟩
 | _=>cases hm
end
noncomputable def bY(N:List Str)(m:MS)(n:Nat):List D->aa->Option (D×aa):=λds S=>if ds.length=n then(m (bh N ds) S).bind λo=>match o with | .rt d S'=>U (d,S') | .nx _ S'=>U (.non,S') | _=>Y else Y
theorem qW{S':aa}{d:D}(h:bY N m n ds S=U (d,S')):Runs m (bh N ds) S d S':=by
 unfold bY at h
 split at h
 ·obtain⟨o,h1,h⟩:=Rb.mp h
  cases o with
  | rt d' S2=>cases h;exact .ret h1
  | nx e S2=>cases h;exact⟨_,[],h1,.inl rfl,.inr ⟨rfl,e,by rw[RU]⟩⟩
  | bk _ _=>cases h
  | ct _ _=>cases h
 ·cases h
structure dh(K:W.Frag)(mg:Str->Option Value)(x:Str)(st:Stmt):Prop where
 ex:∃ (a:Addr) (fd:FuncData),L2.Fun K x x st a fd/\mg x=U (.ref a)
noncomputable def kD(x:Str)(st:Stmt)(ps:List Str):Prop:=∀ (kV doc pm:Value) (an:Option Addr) (cdv ct:Value) (us:List Value),us.length=ps.length->bindArgs (W.fnOf x x (er st) (aH st) (am st) .none kV doc pm an cdv ct) ⟨us,[]⟩=pure (ps.zip us)
theorem Qn{K:W.Frag}{k:Nat}{st:Stmt}
  (F:dh K mg x st) (Sc:aV N ps (am st)) (hb:kD x st ps)
  (hbody:∀ (a:Addr) (cdv:Value) (A:Around) (outer:List PySem.Env) (s:Shared) (H:Hp) (E:XK),Room k (A.deeper (envOfC x (am st) s.heap.objs.size a cdv)) ->
   vc (nH xV P w K mg base N x (am st) a cdv A outer s H E).nox (aH st) m) :
  Fn P w K mg base (k+1) x ps.length (bY N m ps.length):=by
 obtain⟨a,fd,F,hmg⟩:=F.ex
 exact Mt F Sc hmg (F.binds hb) λcdv A outer s H E hr=>⟨m,hbody a cdv A outer s H E hr,λds S d S' hn hS hd h=>qW h⟩
theorem Fn.up{K:W.Frag}{k k':Nat}(F:Fn P w K mg base k x n f)(h:k<=k':=by decide):Fn P w K mg base k' x n f:=by
 obtain⟨a,fd,ps,h1,h2,h3⟩:=F.ex
 exact⟨a,fd,ps,h1,h2.mono h,h3⟩
theorem OA{K:W.Frag}{f:List D->aa->Option (D×aa)}(h:∀ ns:List Int,ns.length<=63->∃ S',f [.rol (ns.map .int)] []=U (.bl true,S')){ns:List Int}(hl:ns.length<=63)(hS:gT K H a (ns.map V.int)) :
  Dk K 1 f [.ref a] H (λv _=>v=.bl true) E:=by
 obtain⟨S',hf⟩:=h ns hl
 have hr:∀ l:List Int,Reps K ⟨[],[]⟩ H (l.map V.int) (l.map D.int):=λl=>by
  induction l with
  | nil=>exact .nil
  | cons x l ih=>exact .cons (.int x) ih
 refine⟨⟨[],[]⟩,[],_,_,S',⟨List.nodup_nil,rfl,λr a c h=>by simp at h,λa h=>by simp at h,λa h=>by simp at h⟩,.cons ?_ .nil,rfl,hf,λv H' μ' e s r=>r.bl_inv⟩
 rcases hS with hS | hS
 ·exact .rol hS ⟨by simp,by simp⟩ (hr ns)
 ·exact .krol hS (hr ns)
noncomputable def Gr(_:aa)(x:D):Option D:=match x with | .int i=>U (.int (-i)) | _=>Y
theorem Ir:UnR X (unaryOp .USub) (rM1 X.K Gr):=MV
noncomputable def aP:MT:=λ_ S=>U (true,S)
theorem GY:sB X [] aP:=Kz
theorem OB{K:W.Frag}{k:Nat}{st:Stmt}(F:dh K mg "law" st)(hfa:mg "law" = U (.ref fa))(Sc:aV N ["_law_script"] (am st))
  (hbt:∀ (kV doc pm:Value) (an:Option Addr) (cdv ct v:Value),bindArgs (W.fnOf "law" "law" (er st) (aH st) (am st) .none kV doc pm an cdv ct) ⟨[v],[]⟩=pure [(("_law_script":Str),v)])
  (hbody:∀ (base:Heap) (a:Addr) (cdv:Value) (A:Around) (outer:List PySem.Env) (s:Shared) (H:Hp) (E:XK),Room k (A.deeper (envOfC "law" (am st) s.heap.objs.size a cdv)) ->
   vc (nH xV P w K mg base N "law" (am st) a cdv A outer s H E).nox (aH st) m) :
  ∃ fd:FuncData,(∀ (s:Shared) (v:Value),BindsTo s fd ⟨[v],[]⟩ [("_law_script",v)])/\∀ base:Heap,K.In base->base.Ns mainGlobals mg->FnOk P w K mg base xV (k+1) fa fd ["_law_script"] (Dk K 1 (bY N m 1)):=by
 obtain⟨a,fd,F,hmg⟩:=F.ex
 rw[hfa] at hmg
 have e:fa=a:=by cases hmg;rfl
 subst e
 refine⟨fd,λs v=>?_,λbase _ _=>Ms F Sc λcdv A outer s H E hr=>⟨m,hbody base fa cdv A outer s H E hr,λds S d S' hn hS hd h=>qW h⟩⟩
 obtain⟨oc,od,kV,doc,pm,an,cdv,ct,osl,rfl,lk,hcd⟩:=F.ex
 exact .of_eq (hbt kV doc pm an cdv ct v)
end M
namespace HT
open AutoSeq1 (wpAny_loadPart')
theorem yt:fillsNumberSlot (.type "tuple") "mul" = pure false:=
 PySem.fillsNumberSlot_seq (id:="tuple.__mul__") (r:=U (.builtin "tuple.__rmul__"))
  F.slot_tuple_mul.lookup (by decide +kernel) F.slot_tuple_rmul.lookup (by decide +kernel)
theorem NC:seqRepeat? (.type "tuple")=pure (U (.builtin "tuple.__mul__")):=by
 unfold seqRepeat?
 rw[PySem.seqSlot_of (T:="tuple") (name:="__mul__") (id:="tuple.__mul__") F.slot_tuple_mul.lookup (by decide +kernel)]
 rw[PySem.seqSlot_of (T:="tuple") (name:="__rmul__") (id:="tuple.__rmul__") F.slot_tuple_rmul.lookup (by decide +kernel)]
 rfl
theorem Eb(a:Int)(t:Tok)(l:Addr)(items:Array Value)(n:Nat)(dd:Option Addr)(sl:Array (Option Value)) :
  Meets (Builtin.«int.__rmul__» ⟨[.int a t,.ref l],[]⟩) (λ_ R s=>s.heap.get? l=U ⟨.type "tuple",dd,.seq items n,sl⟩/\R (.ok (.ret Value.notImplemented)) s):=
 .of_wp λprog w A R s h=>by
  obtain⟨hp,g,d,tk,os⟩:=s
  obtain⟨hl,h⟩:=h
  wp_walk
  exact⟨_,rfl,h⟩
theorem mulT0(l:Addr)(items:Array Value)(n:Nat)(k:Int)(t:Tok)(dd:Option Addr)(sl:Array (Option Value))(h1:¬ (decide (k < -(2^63))||decide (k≥2^63))=true)(hc:(items.isEmpty||k==1)=true) :
  Meets (Builtin.«tuple.__mul__» ⟨[.ref l,.int k t],[]⟩) (λ_ R s=>s.heap.get? l=U ⟨.type "tuple",dd,.seq items n,sl⟩/\R (.ok (.ret (.ref l))) s):=
 .of_wp λprog w A R s h=>by
  obtain⟨hp,g,d,tk,os⟩:=s
  obtain⟨hl,h⟩:=h
  have f1:=Vh
  have f2:=Ue
  wp_walk using wpAny_loadPart' hl
  rw[RH h1]
  wp_walk using wpAny_loadPart' hl
  exact⟨_,rfl,h⟩
theorem mulT1(l:Addr)(items:Array Value)(n:Nat)(k:Int)(t:Tok)(dd:Option Addr)(sl:Array (Option Value))(h1:¬ (decide (k < -(2^63))||decide (k≥2^63))=true)(hc:¬ (items.isEmpty||k==1)=true)(hk:(decide (k<=0)||items.isEmpty)=true) :
  Meets (Builtin.«tuple.__mul__» ⟨[.ref l,.int k t],[]⟩) (λ_ R s=>s.heap.get? l=U ⟨.type "tuple",dd,.seq items n,sl⟩/\R (.ok (.ret (.ref s.heap.objs.size))) { s with heap:=s.heap.push { cls:=.type "tuple",data:=.seq #[] },toks:=s.toks }):=
 .of_wp λprog w A R s h=>by
  obtain⟨hp,g,d,tk,os⟩:=s
  obtain⟨hl,h⟩:=h
  have f1:=Vh
  have f2:=Ue
  wp_walk using wpAny_loadPart' hl
  rw[RH h1]
  wp_walk using wpAny_loadPart' hl
  exact⟨_,rfl,h⟩
theorem mulT2(l:Addr)(items:Array Value)(n:Nat)(k:Int)(t:Tok)(dd:Option Addr)(sl:Array (Option Value))(h1:¬ (decide (k < -(2^63))||decide (k≥2^63))=true)(hc:¬ (items.isEmpty||k==1)=true)(hk:¬ (decide (k<=0)||items.isEmpty)=true)
  (hb:¬ ((items.size:Int)*k>(2^63 - 1) / 8)) (hm:¬ Builtin.Tuple.tupleTooMany ((items.size:Int)*k)=true) (hz:(List.foldl (λx1 x2=>x1++x2) #[] (List.replicate k.toNat items)).size<=sizeLine) :
  Meets (Builtin.«tuple.__mul__» ⟨[.ref l,.int k t],[]⟩) (λ_ R s=>s.heap.get? l=U ⟨.type "tuple",dd,.seq items n,sl⟩/\R (.ok (.ret (.ref s.heap.objs.size))) { s with heap:=s.heap.push { cls:=.type "tuple",data:=.seq (List.foldl (λx1 x2=>x1++x2) #[] (List.replicate k.toNat items)) },toks:=s.toks }):=
 .of_wp λprog w A R s h=>by
  obtain⟨hp,g,d,tk,os⟩:=s
  obtain⟨hl,h⟩:=h
  have f1:=Vh
  have f2:=Ue
  wp_walk using wpAny_loadPart' hl
  rw[RH h1]
  wp_walk using wpAny_loadPart' hl
  rw[RH hb]
  wp_walk using wpAny_loadPart' hl
  exact⟨_,rfl,h⟩
end HT
namespace L2
section
variable{X:Cx}
theorem vrep(h:Vals xs us):∀ k:Nat,Vals (List.replicate k xs).flatten (List.replicate k us).flatten
 | 0=>.nil
 | k+1=>by rw[RP,RP,Ss,Ss];exact h.append (vrep h k)
theorem frep(its:List Value):∀ (m:Nat) (acc:List Value),List.foldl (λx1 x2=>x1++x2) acc.toArray (List.replicate m its.toArray)=(acc++(List.replicate m its).flatten).toArray
 | 0,acc=>by simp
 | m+1,acc=>by
  rw[RP,TQ,List.append_toArray,frep its m (acc++its),RP,Ss,Su]
noncomputable def rRepT(K:W.Frag):R2:=λx y H Q=>∃ a k xs,x=.ref a/\y=.int k/\iP K H a xs/\-(2^62)<=k/\k<2^62/\xs.length*k.toNat<=sizeLine /\
 ((xs=[]\/k=1)->Q (.ref a) H)/\((xs≠[]/\k≠1)->∀ p,H p=Y->Q (.ref p) (upd H p (.tup (List.replicate k.toNat xs).flatten)))
theorem Js:OpR X (binaryOp .Mult) (rRepT X.K):=by
 intro pins s σ H x y v u Q I rx ry h
 obtain⟨l,k,xs,rfl,rfl,hq,h1,h2,hz,q1,q2⟩:=h
 cases rx
 obtain⟨t,rfl⟩:=ry
 obtain⟨its,r,hT,hzz⟩:=I.tuple hq
 obtain⟨⟨cls,dd,data,sl⟩,e,hc,n,hd⟩:=id hT
 simp only at hc hd
 subst hc hd
 have hlen:xs.length=its.length:=r.length
 have g1:¬ (decide (k < -(2^63))||decide (k≥2^63))=true:=by simp;omega
 have road:∀ {S:PySem.Spec},Meets (Builtin.«tuple.__mul__» ⟨[.ref l,.int k t],[]⟩) S->S X.A (wants (EP X pins σ Q) X.xe) s->wpAny (model X.prog X.w) X.A (binaryOp .Mult (.ref l) (.int k t)) (EP X pins σ Q) X.xe s:=λM hS=>
  Vv (T:="tuple") (U:="int") (by decide) ⟨_,e,rfl⟩ (λs'=>UP s' k t) HT.yt F.fills_int_mul Ut HT.NC F.slot_int_index.lookup
   (Ta Ut (UP s k t) F.entry_int_rmul (F.args_int_rmul_2 _ _) (HT.Eb k t l its.toArray n dd sl)
    ⟨e,rfl,⟨_,e,rfl⟩,Ta F.slot_tuple_mul ⟨_,e,rfl⟩ F.entry_tuple_mul (F.args_tuple_mul_2 _ _) M hS⟩)
 by_cases hs:xs=[]\/k=1
 ·have hcc:(its.toArray.isEmpty||k==1)=true:=by
   rcases hs with rfl | rfl
   ·cases r;rfl
   ·simp
  exact road (HT.mulT0 l its.toArray n k t dd sl g1 hcc) ⟨e,.ref l,H,I,rfl,q1 hs⟩
 ·have hx:xs≠[]:=λz=>hs (.inl z)
  have hk1:k≠1:=λz=>hs (.inr z)
  have hi:its≠[]:=λz=>by subst z;cases r;exact hx rfl
  have hcc:¬ (its.toArray.isEmpty||k==1)=true:=by simp[hi,hk1]
  by_cases hk:k<=0
  ·have hk':(decide (k<=0)||its.toArray.isEmpty)=true:=by simp[hk]
   have k0:k.toNat=0:=by omega
   refine road (HT.mulT1 l its.toArray n k t dd sl g1 hcc hk') ⟨e,.ref _,_,I.laid (o:=.tup []) (λ_ _ q=>Re _ q) (Rn _) ⟨by simp,[],.nil,⟨_,Rs _ rfl,rfl,⟨0,rfl⟩,rfl⟩⟩,rfl,?_⟩
   have:=q2 ⟨hx,hk1⟩ s.heap.objs.size I.fresh
   rw[k0] at this
   exact this
  ·have hk':¬ (decide (k<=0)||its.toArray.isEmpty)=true:=by simp[hi];omega
   have km:(k.toNat:Int)=k:=by omega
   have hpr:((its.length:Int)*k)<=sizeLine:=by rw[<- km,<- hlen];exact_mod_cast hz
   have hsl:((sizeLine:Nat):Int)<=(2^63 - 1) / 8:=by decide
   have hf:=frep its k.toNat []
   rw[List.nil_append] at hf
   have hf':List.foldl (λx1 x2=>x1++x2) #[] (List.replicate k.toNat its.toArray)=(List.replicate k.toNat its).flatten.toArray:=hf
   have hl2:(List.replicate k.toNat its).flatten.length<=sizeLine:=by rw[uk,<- hlen,Up];exact hz
   refine road (HT.mulT2 l its.toArray n k t dd sl g1 hcc hk' (by rw[Rk];omega) (by unfold Builtin.Tuple.tupleTooMany;rw[Rk];simp;omega) (by rw[hf',Rk];exact hl2)) ⟨e,?_⟩
   rw[hf']
   exact⟨.ref _,_,I.laid (o:=.tup (List.replicate k.toNat xs).flatten) (λ_ _ q=>Re _ q) (Rn _) ⟨by rw[uk,Up];exact hz,(List.replicate k.toNat its).flatten,vrep r _,⟨_,Rs _ rfl,rfl,⟨0,rfl⟩,rfl⟩⟩,rfl,q2 ⟨hx,hk1⟩ _ I.fresh⟩
end
end L2
namespace M
open L2
section
variable{X:Cx}{K:W.Frag}{μ μ':Fp}{H H':Hp}{S:aa}
noncomputable def dA(S:aa)(x y:D):Option D:=match x,y with
 | .tup xs,.int k=>if -(2^62)<=k/\k<2^62/\xs.length*k.toNat<=sizeLine then U (.tup (List.replicate k.toNat xs).flatten) else Y
 | .lst xs,.int k=>if -(2^62)<=k/\k<2^62/\xs.length*k.toNat<=sizeLine then U (.lst (List.replicate k.toNat xs).flatten) else Y
 | x,y=>PQ S x y
theorem flat1{α:Type}(xs:List α):(List.replicate 1 xs).flatten=xs:=by simp
theorem Jx:OpR X (binaryOp .Mult) (iQ X.K dA):=OpR.imp (OpR.or Ol (OpR.or Js Oe)) λx y H Q ⟨μ,S,dx,dy,dz,hS,h1,h2,h3,post⟩=>by
 unfold dA at h3
 split at h3
 ·rename_i xs k
  split at h3
  ·rename_i hk
   cases h3
   obtain⟨a,vs,rfl,q,r⟩:=h1.sqT
   have h1':=h1
   refine .inr (.inl ⟨a,k,vs,rfl,h2.int_inv,q,hk.1,hk.2.1,by rw[r.length];exact hk.2.2,λhs=>?_,λ_ p hp=>post.tup hS hp (Reps.flat _ r)⟩)
   have e:(List.replicate k.toNat xs).flatten=xs:=by
    rcases hs with rfl | rfl
    ·cases r;simp
    ·exact flat1 xs
   rw[e] at post
   exact post.here hS h1'
  ·cases h3
 ·rename_i xs k
  split at h3
  ·rename_i hk
   cases h3
   obtain⟨a,vs,rfl,q,n,r⟩:=h1.sqL
   exact .inr (.inr ⟨a,k,vs,rfl,h2.int_inv,q,by omega,by omega,by rw[r.length];exact hk.2.2,λp hp=>post.lst hS hp (Reps.flat _ r)⟩)
  ·cases h3
 ·exact .inl ⟨μ,S,dx,dy,dz,hS,h1,h2,h3,post⟩
noncomputable abbrev MF:=D->List D->aa->Option (D×aa)
inductive LU(K:W.Frag)(f:MF)(x:V)(vs:List V)(H:Hp)(Q:VK):Prop
 | mk (μ:Fp) (S:aa) (dx:D) (ds:List D) (d:D) (S':aa) (hS:SOk K μ S H) (h1:Rep K μ H x dx) (h2:Reps K μ H vs ds) (h3:f dx ds S=U (d,S')) (post:Post K μ H S' d Q)
theorem MtR.imp{id:String}{r':V->List V->Hp->VK->Prop}(h:MtR X id r)(i:∀ x xs H Q,r' x xs H Q->r x xs H Q):MtR X id r':=λpins s σ H x xs v us Q I rx rv q=>h pins s σ H x xs v us Q I rx rv (i x xs H Q q)
noncomputable def lu:MF:=λo ds S=>match o,ds with
 | .ref r,[y]=>match S[r]? with | some (.lst xs)=>if xs.length<sizeLine then U (.non,S.set r (.lst (xs++[y]))) else Y | _=>Y
 | _,_=>Y
noncomputable def uA:MF:=λo ds S=>match ds with
 | [x]=>(fw S o).bind λys=>if bv 40 x=true/\ys.all (bv 39)=true then U (.int (ys.countP λd=>iT d x),S) else Y
 | _=>Y
theorem BG:MtR X "list.append" (LU X.K lu):=MtR.imp qZ λx vs H Q ⟨μ,S,dx,ds,d,S',hS,r1,r2,h,post⟩=>by
 unfold lu at h
 split at h
 ·rename_i r y
  obtain⟨v,rfl,rv⟩:=r2.one
  cases q:S[r]? with
  | none=>rw[q] at h;cases h
  | some c=>
   rw[q] at h
   cases c with
   | dct _ _=>cases h
   | lst xs=>
    dsimp only at h
    split at h
    ·rename_i hz
     cases h
     cases r1 with
     | @ref a _ h'=>
      obtain⟨ws,hw,rw'⟩:=hS.cell r a _ h' q
      obtain⟨e,s'⟩:=hS.write h' hw (rw'.append (.cons rv .nil))
      exact⟨a,ws,v,rfl,rfl,hw,by rw[rw'.length];exact hz,post _ _ μ e s' .non⟩
    ·cases h
 ·cases h
theorem nv{s:Shared}(I:Inv X pins σ H s):∀ {vs:List V} {us:List Value} {ds:List D},Vals vs us->Reps X.K μ H vs ds->(∀ d∈ds,bv 39 d=true) ->
  us.countP (fu X.K μ H x)=ds.countP λd=>iT d x
 | _,_,_,.nil,.nil,_=>rfl
 | _,_,_,.cons rv tv,.cons r t,ok=>by
  rw[List.countP_cons,List.countP_cons,pR I rv r (ok _ Rf),nv I tv t λd m=>ok d (Rj _ m)]
noncomputable def qz(S:aa):D->Bool
 | .lst _=>true
 | .rol _=>true
 | .ref r=>match S[r]? with | some (.lst _)=>true | _=>false
 | _=>false
theorem pA{d:D}(hS:SOk K μ S H)(r:Rep K μ H v d)(h:qz S d=true):∃ a vs ds,v=.ref a/\gT K H a vs/\fw S d=U ds/\Reps K μ H vs ds:=by
 cases r with
 | lst h' n r=>exact⟨_,_,_,rfl,.inl (.inl h'),rfl,r⟩
 | rol h' n r=>exact⟨_,_,_,rfl,.inl h',rfl,r⟩
 | krol h' r=>exact⟨_,_,_,rfl,.inr h',rfl,r⟩
 | @ref a i h'=>
  simp only[qz] at h
  cases q:S[i]? with
  | none=>rw[q] at h;cases h
  | some c=>
   rw[q] at h
   cases c with
   | dct _ _=>cases h
   | lst xs=>
    obtain⟨vs,e,r⟩:=hS.cell i a _ h' q
    exact⟨a,vs,xs,rfl,.inl (.inl e),by simp only[fw,q],r⟩
 | _=>cases h
noncomputable def uz:MF:=λo ds S=>if qz S o=true then uA o ds S else Y
theorem EI(hu:X.A.units+64<cLine):MtR X "list.count" (LU X.K uz):=by
 intro pins s σ H x vs v us Q I rx rv h
 obtain⟨μ,S,dx,ds,d,S',hS,r1,r2,h,post⟩:=h
 unfold uz at h
 split at h
 ·rename_i hl
  unfold uA at h
  split at h
  ·rename_i y
   obtain⟨a,ws,es,rfl,hq,hse,re⟩:=pA hS r1 hl
   rw[hse] at h
   dsimp only[Option.bind_some] at h
   split at h
   ·rename_i hk
    cases h
    cases rx
    obtain⟨w,rfl,rw0⟩:=r2.one
    obtain⟨u,rfl,ru⟩:=rv.one
    obtain⟨its,rvs,⟨⟨cls,dd,data,sl⟩,n,e,hc,hdd,hd⟩,hz⟩:=I.list hq
    simp only at hc hdd hd
    subst hc hdd hd
    have ok:=RI.mp hk.2
    refine Ta F.slot_list_count ⟨_,e,rfl⟩ F.entry_list_count (F.args_list_count_2 _ _) (SeqAt.list_countAt a its.toArray n Y sl u (fu X.K μ H y)) ⟨e,λw' hw'=>?_,?_⟩
    ·exact gj I (by show X.A.units+1+40<cLine;omega) ru rw0 hk.1 rvs re ok w' (by simpa using hw')
    ·refine⟨.int _,H,I.tok _,⟨_,rfl⟩,?_⟩
     rw[nv I rvs re ok]
     exact post.here hS (.int _)
   ·cases h
  ·cases h
 ·cases h
noncomputable def eR(f:MF)(o:ME)(ms:MA):ME:=λenv S=>(o env S).bind λp=>if qz p.2 p.1=true then(ms env p.2).bind λq=>f p.1 q.1 q.2 else Y
theorem KY{e:Expr}{es:List Expr}{name:Str}{id:String}{apos:Pos}(slot:Slot "list" name id)(hty:typeOf (.builtin id)=pure (.type "method_descriptor"))(hm:MtR X id (LU X.K f))(ho:DE X o mo)(ha:DA X (e::es) ms)
  (hbase:attributeBase o name X.env (eval o X.env)=eval o X.env)
  (hfew:((backTo cpos (starEach (e::es) X.env)).all (λx=>!x.1)&&(backToKw cpos (keywordEach [] X.env)).all (λx=>x.1.isSome)&&decide ((e::es).length+([]:List Keyword).length+(if ([]:List Keyword).isEmpty then 0 else 1)<30))=true)
  (hline:(apos.endLine==cpos.line)=true) (hs:starEach (e::es) X.env=(false,eval e X.env)::starEach es X.env) (hpl:(backTo cpos (starEach es X.env)).any (·.1)=false) :
  DE X (.Call (.Attribute o name apos) (e::es) [] cpos) (eR f mo ms):=
 PE.imp (Ez F.plainAttrs_list slot hty hm ho ha hbase hfew hline hs hpl) λσ H Q ⟨μ,S,env,d,S',hS,hE,h,post⟩=>by
  obtain⟨⟨x,S1⟩,h1,h⟩:=Rb.mp h
  dsimp only at h
  split at h
  ·rename_i hl
   obtain⟨⟨xs,S2⟩,h2,h⟩:=Rb.mp h
   refine⟨μ,S,env,x,S1,hS,hE,h1,λv H1 μ1 e1 s1 r1=>⟨?_,μ1,S1,env,xs,S2,s1,hE.mono e1,h2,λvs H2 μ2 e2 s2 r2=>⟨μ2,S2,x,xs,d,S',s2,r1.mono e2,r2,h,(post.ext e1).ext e2⟩⟩⟩
   obtain⟨a,ws,es,rfl,hq,_,_⟩:=pA s1 r1 hl
   exact .inl ⟨rfl,ws,hq⟩
  ·cases h
end
end M
namespace HT
open AutoSeq1 (wpAny_loadPart')
section
variable{prog:Program}{w:World}{A:Around}{E:Value->Shared->Prop}{s:Shared}
theorem zr{x:Value}{Q:Value->Shared->Prop}(hit:s.heap.IsTupleIter it t i)(ht:s.heap.IsTuple t items)(hx:items[i]?=U x)
  (hQ:∀ h',h'.IsTupleIter it t (i+1)->Heap.SameBut it s.heap h'->Q x { s with heap:=h' }):wpAny (model prog w) A (Builtin.SmallTypes.nextOf (.ref it)) Q E s:=by
 obtain⟨o,ho,hc,hd⟩:=id hit;obtain⟨ol,hol,_,nl,hdl⟩:=ht
 unfold Builtin.SmallTypes.nextOf
 refine Rc (Sh (name:=Str.ofString "__next__") hit.typeIs Tc (SE Tc hit.typeIs Vt ?_ (Vi _)))
 show wpAny _ _ (field (.ref it) 0 >>= _) _ _ s;refine Rc (RO ho hd (x:=.ref t) rfl ?_)
 show wpAny _ _ (if (Value.ref t==Value.none)=true then _ else _) _ _ s;rw[RH (show ¬ ((Value.ref t==Value.none)=true) from Rq)]
 show wpAny _ _ (field (.ref it) 1 >>= _) _ _ s;refine Rc (RO ho hd (x:=.int i 0) rfl ?_)
 show wpAny _ _ (seqItems? (.ref t) >>= _) _ _ s;refine Rc (SI hol hdl ?_);simp only[SB,hx]
 refine Rc (Sa ho hd (by simp) (Rh ⟨x,rfl,Rh (hQ _ ⟨_,RK _ ho (SW (SV hd _)),(Obj.cls_mapFields ..).trans hc,?_⟩ (SC ..))⟩))
 rw[SV hd];simp[rawInt]
theorem mE(hh:A.handled=Y)(hit:s.heap.IsTupleIter it t i)(ht:s.heap.IsTuple t items)(hx:items[i]?=Y)
  (hE:∀ h' e,Heap.ExtBut it s.heap h'->(∃ o,h'.get? e=U o/\o.cls=.type "StopIteration")->E (.ref e) { s with heap:=h' }):wpAny (model prog w) A (Builtin.SmallTypes.nextOf (.ref it)) Q E s:=by
 obtain⟨o,ho,hc,hd⟩:=id hit;obtain⟨ol,hol,_,nl,hdl⟩:=ht
 unfold Builtin.SmallTypes.nextOf
 refine Rc (Sh (name:=Str.ofString "__next__") hit.typeIs Tc (SE Tc hit.typeIs Vt ?_ (Vi _)))
 show wpAny _ _ (field (.ref it) 0 >>= _) _ _ s;refine Rc (RO ho hd (x:=.ref t) rfl ?_)
 show wpAny _ _ (if (Value.ref t==Value.none)=true then _ else _) _ _ s;rw[RH (show ¬ ((Value.ref t==Value.none)=true) from Rq)]
 show wpAny _ _ (field (.ref it) 1 >>= _) _ _ s;refine Rc (RO ho hd (x:=.int i 0) rfl ?_)
 show wpAny _ _ (seqItems? (.ref t) >>= _) _ _ s;refine Rc (SI hol hdl ?_);simp only[SB,hx]
 refine Rc (TH (Rc (Sa ho hd (by simp) ?_)));show wpAny _ _ (newExc (.type "StopIteration") [] >>= _) _ _ _
 refine Rc ?_;simp only[newExc,newTuple];refine Rc (RM ?_ (by size_fits))
 refine Rc (m:=firstArgMember _ _) (Wh (a:=Value.none) (by first | rfl | (simp only[firstArgMember];rfl)) (RM ?_ (by size_fits)))
 simp only[raiseNew];refine Rc (wpAny_handled ?_);(first | rw[show A.in1.handled=Y from hh] | rw[hh])
 refine Rc (Rh (wpAny_throw (hE _ _ (((SC ..).extBut.push _).push _) ⟨_,Rs _ rfl,rfl⟩)))
end
theorem pW{A:Around}(hh:A.handled=Y)(it t:Addr)(hne:t≠it)(items:Array Value) :
  Draws prog w A it [it,t] items.size (λi v=>items[i]?=U v) (λi h=>h.IsTupleIter it t i/\h.IsTuple t items) where
 live:=λ_ _ st=>by obtain⟨o,ho,_⟩:=st.1;exact⟨o,ho⟩
 frame:=λ_ _ _ st hk=>by
  obtain⟨⟨o,ho,r⟩,⟨o2,ho2,r2⟩⟩:=st
  exact⟨⟨o,hk it (by simp) o ho,r⟩,⟨o2,hk t (by simp) o2 ho2,r2⟩⟩
 item:=λi s Q E hi st hQ=>zr st.1 st.2 (x:=items[i]) (by simp[hi]) λh' hit' hs'=>hQ _ h' s.toks (by simp[hi]) ⟨hit',st.2.extBut hs'.extBut hne⟩ hs'
 done:=λs Q E st hE=>mE hh st.1 st.2 (by simp) hE
theorem Cy(l:Addr)(items:Array Value)(n:Nat)(dct:Option Addr)(sl:Array (Option Value)) :
  Meets (Builtin.«enumerate.__new__» ⟨[.type "enumerate",.ref l],[]⟩) (λ_ R s=>s.heap.get? l=U ⟨.type "tuple",dct,.seq items n,sl⟩ /\
   R (.ok (.ret (.ref (s.heap.push { cls:=.type "tuple_iterator",data:=.fields #[.ref l,.int 0 0] }).objs.size)))
    {s with heap:=(s.heap.push { cls:=.type "tuple_iterator",data:=.fields #[.ref l,.int 0 0] }).push { cls:=.type "enumerate",data:=.fields #[.none,.bool false,.ref s.heap.objs.size,rawInt 0,.none,.none] } }):=
 .of_wp λprog w A R s h=>by
  obtain⟨hp,g,d,tk,os⟩:=s
  obtain⟨hl,h⟩:=h
  have hsub:=sub_enumerate
  have hL:Heap.IsTuple (Shared.heap ⟨hp,g,d,tk,os⟩) l items:=⟨_,hl,rfl,n,rfl⟩
  wp_walk using wpAny_loadPart' hl
  refine wpAny_stack_any λst=>Rh ?_
  split
  ·rename_i c _ _ _ _ _
   cases(c==Value.type "enumerate")<;>(wp_walk using wpAny_loadPart' hl,Th hL;exact⟨_,rfl,h⟩)
  ·wp_walk using wpAny_loadPart' hl,Th hL
   exact⟨_,rfl,h⟩
end HT
namespace HT
section
variable{prog:Program}{w:World}{A:Around}{E:Value->Shared->Prop}{s:Shared}
theorem zC{Q:Value->Shared->Prop}(hL:s.heap.IsTuple l items)
  (h:∀ h':Heap,IsEnum h' (s.heap.objs.size+1) s.heap.objs.size 0 .none->h'.IsTupleIter s.heap.objs.size l 0->h'.objs.size=s.heap.objs.size+2->(∀ b o,s.heap.get? b=U o->h'.get? b=U o)->Q (.ref (s.heap.objs.size+1)) { s with heap:=h' }) :
  wpAny (model prog w) A (call (.type "enumerate") [.ref l]) Q E s:=by
 obtain⟨⟨c,dct,dt,sl⟩,hl,hc,n,hd⟩:=hL
 simp only at hc hd
 subst hc hd
 refine callType_new F.called_enumerate (by decide) (F.typeCall_enumerate_1 _) (F.newCall_enumerate_1 _) (λobj=>F.args_object_init_2 obj _) F.entry_enumerate_new (Cy l items n dct sl) ⟨hl,?_⟩
 have hz:(s.heap.push { cls:=.type "tuple_iterator",data:=.fields #[.ref l,.int 0 0] }).objs.size=s.heap.objs.size+1:=Sw ..
 show _/\_
 rw[hz]
 have he:IsEnum ((s.heap.push { cls:=.type "tuple_iterator",data:=.fields #[.ref l,.int 0 0] }).push { cls:=.type "enumerate",data:=.fields #[.none,.bool false,.ref s.heap.objs.size,rawInt 0,.none,.none] }) (s.heap.objs.size+1) s.heap.objs.size 0 .none:=by
  have q:=Rs (s.heap.push { cls:=.type "tuple_iterator",data:=.fields #[.ref l,.int 0 0] }) (o:={ cls:=.type "enumerate",data:=.fields #[.none,.bool false,.ref s.heap.objs.size,rawInt 0,.none,.none] }) rfl
  rw[hz] at q
  exact q
 exact⟨⟨_,he,rfl⟩,h _ he ⟨_,Re _ (Rs _ rfl),rfl,rfl⟩ (by rw[Sw,hz]) λb o x=>Re _ (Re _ x)⟩
end
end HT
namespace L2
section
variable{X:Cx}{pins:List (Addr×Obj)}{σ:St}{H:Hp}{s:Shared}{h':Heap}
theorem Inv.turnLaid{fp:List Addr}{a:Addr}{o:HO}{t':Nat}(I:Inv X pins σ H s)(k:∀ b o,b∉fp->s.heap.get? b=U o->h'.get? b=U o)(hf:∀ b∈fp,jJ X pins H b)(hp:s.heap.objs.size<=a)
  (new:ObjOk X.prog X.w (upd H a o) h' a o):Inv X pins σ (upd H a o) { s with heap:=h',toks:=t' }:=by
 have hn:H a=Y:=I.hok.fresh hp
 have st:∀ b u,H b=U u->upd H a o b=U u:=λb u e=>(aj (aQ e hn)).trans e
 have nfp:∀ b u,H b=U u->b∉fp:=λb u e z=>by rw[(hf b z).1] at e;cases e
 refine I.step (g':=s.gens) (d':=s.drawn) (ch:=fp) (λb hb=>?_) (λb o _ _ hc e _=>k b o hc e) (λb o _ _ hc e _=>⟨o.slots,k b o hc e⟩) (λb u _ e n=>?_) (λb o hc e=>⟨o,k b o hc e⟩) (λb xs e=>st b _ e) (λb o u e=>st b _ e) (λb ps e=>⟨#[],by rw[st b _ e];simp⟩) (λm hm=>?_) (λb u e=>?_) I.bare
 ·obtain⟨f0,f1,f2,f3,f4,f5⟩:=hf b hb
  exact⟨f3,f1,f4,f5⟩
 ·rw[aj (RL (Ry (Ro e) hp))];exact n
 ·obtain⟨o',es,ep,ho,r⟩:=hm
  exact⟨o',es,ep,k _ o' (λz=>(hf _ z).2.1 rfl) ho,r⟩
 ·by_cases hb:b=a
  ·subst hb
   rw[ah] at e
   cases e
   exact new
  ·rw[aj hb] at e
   refine(I.hok b u e).stay (λc v hc q=>k c v ?_ q) (λ_ q=>st _ _ q) λ_ _ q=>st _ _ q
   rcases hc with z | z
   ·rw[z];exact nfp b u e
   ·exact nfp c _ z
theorem Inv.turnedL{fp:List Addr}{t':Nat}(I:Inv X pins σ H s)(k:∀ b o,b∉fp->s.heap.get? b=U o->h'.get? b=U o)(hf:∀ b∈fp,jJ X pins H b):Inv X pins σ H { s with heap:=h',toks:=t' }:=by
 have nfp:∀ b u,H b=U u->b∉fp:=λb u e z=>by rw[(hf b z).1] at e;cases e
 refine I.step (g':=s.gens) (d':=s.drawn) (ch:=fp) (λb hb=>?_) (λb o _ _ hc e _=>k b o hc e) (λb o _ _ hc e _=>⟨o.slots,k b o hc e⟩) (λb u _ e n=>n) (λb o hc e=>⟨o,k b o hc e⟩) (λb xs e=>e) (λb o u e=>e) (λb ps e=>⟨#[],by rw[e];simp⟩) (λm hm=>?_) (λb u e=>?_) I.bare
 ·obtain⟨f0,f1,f2,f3,f4,f5⟩:=hf b hb
  exact⟨f3,f1,f4,f5⟩
 ·obtain⟨o',es,ep,ho,r⟩:=hm
  exact⟨o',es,ep,k _ o' (λz=>(hf _ z).2.1 rfl) ho,r⟩
 ·refine(I.hok b u e).stay (λc v hc q=>k c v ?_ q) (λ_ q=>q) λ_ _ q=>q
  rcases hc with z | z
  ·rw[z];exact nfp b u e
  ·exact nfp c _ z
noncomputable def Ite(K:W.Frag)(a:Addr):It:=
 ⟨λi H=>∃ xs x,iP K H a xs/\xs[i]?=U x,λi H x H'=>∃ p v,x=.ref p/\H p=Y/\H'=upd H p (.tup [.int (i:Nat),v])/\∀ xs,iP K H a xs->xs[i]?=U v,λi H=>∃ xs,iP K H a xs/\xs.length<=i⟩
theorem Bk{K:W.Frag}{k:Nat}(a e it:Addr)(hei:e≠it):uX P w K (.Tuple es k pos) (Ite K a) [e,it] e (λi h=>(∃ old,IsEnum h e it i old)/\h.IsTupleIter it a i) where
 mem:=by simp
 obj:=λi h st b hb=>by
  obtain⟨⟨old,he⟩,⟨o,ho,hc,hd⟩⟩:=st
  simp only[Rv,RT,SZ] at hb
  rcases hb with rfl | rfl
  ·exact⟨_,he,λv z=>by cases z⟩
  ·exact⟨o,ho,λv z=>by rw[hd] at z;cases z⟩
 keep:=λi h h' st kk=>by
  obtain⟨⟨old,he⟩,⟨o,ho,r⟩⟩:=st
  exact⟨⟨old,kk e (by simp) _ he⟩,⟨o,kk it (by simp) _ ho,r⟩⟩
 item:=by
  intro X hP hw hK hc i pins s σ H E I hf st hg
  subst hP hw hK
  obtain⟨xs,x,hq,hx⟩:=hg
  obtain⟨its,rv,p,hz⟩:=I.tuple hq
  have hT:s.heap.IsTuple a its.toArray:=p
  have hh:=I.ok.hd hc
  have ne1:a≠e:=λz=>by
   obtain⟨⟨old,he⟩,_⟩:=st
   obtain⟨o,ho,hcl,_⟩:=hT
   rw[z,he] at ho;cases ho;exact absurd (show Value.type "enumerate" = Value.type "tuple" from hcl) (by decide)
  have ne2:a≠it:=λz=>by
   obtain⟨_,⟨o',ho',hc',_⟩⟩:=st
   obtain⟨o,ho,hcl,_⟩:=hT
   rw[z,ho'] at ho;cases ho;rw[hc'] at hcl;exact absurd hcl (by decide)
  have W:=Uc (HT.pW (prog:=X.prog) (w:=X.w) (A:=X.A.in1) hh it a ne2 its.toArray) e hei (by simp;exact⟨hei,λz=>ne1 z.symm⟩) (by simp)
  have hi:i<its.toArray.size:=by rw[Rk,<- rv.length];exact(Ri.mp hx).1
  obtain⟨⟨old,he⟩,hit⟩:=st
  have Te:s.heap.objs.size≠e:=Sf (Ro he)
  have Ti:s.heap.objs.size≠it:=by
   obtain⟨o,ho,_⟩:=hit
   exact Sf (Ro ho)
  refine VH (HT.pW (prog:=X.prog) (w:=X.w) (A:=X.A.in1) hh it a ne2 its.toArray) he ⟨hit,hT⟩ hi hei (by simp;exact⟨hei,λz=>ne1 z.symm⟩) λy h1 tk hy ho st1 hT1 hsz kk=>⟨_,rfl,?_⟩
  refine W.go es k pos i s.heap.objs.size _ _ _ ⟨⟨y,ho⟩,st1,Te,Ti⟩ λh2 st2 kk2=>?_
  generalize hTT:s.heap.objs.size=T at *
  obtain⟨u,hu,ru⟩:=rv.get hx
  have ey:y=u:=by
   rw[show its.toArray[i]?=its[i]? by simp,hu] at hy
   exact(RJ hy).symm
  subst ey
  have apT:T∉[e,it]:=by simp;exact⟨Te,Ti⟩
  have kall:∀ b o,b∉[e,it]->s.heap.get? b=U o->h2.get? b=U o:=λb o hb q=>kk2 b o hb (kk b o (λz=>hb (by simp[z])) (λz=>hb (by simp[z])) q)
  have hT2:IsTupN h2 T #[.int i tk,y]:=⟨_,kk2 T _ apT hT1,rfl,⟨_,rfl⟩,rfl⟩
  have hTs:s.heap.objs.size<=T:=Uq hTT
  refine⟨.ref T,upd H T (.tup [.int (i:Nat),x]),I.turnLaid kall hf hTs ⟨by show 2<=sizeLine;decide,[.int i tk,y],.cons ⟨_,rfl⟩ (.cons ru .nil),hT2⟩,rfl,⟨T,x,rfl,I.hok.fresh hTs,rfl,λys hy=>by rw[I.tuple_inj hy hq];exact hx⟩,⟨st2.1,st2.2.1⟩,λb hb=>?_⟩
  have nb:b≠T:=λz=>apT (by rw[<- z];exact hb)
  rw[aj nb]
  exact(hf b hb).1
 done:=by
  intro X hP hw hK hc i pins s σ H E I hf st hg
  subst hP hw hK
  obtain⟨xs,hq,hx⟩:=hg
  obtain⟨its,rv,p,hz⟩:=I.tuple hq
  have hT:s.heap.IsTuple a its.toArray:=p
  have hh:=I.ok.hd hc
  have ne1:a≠e:=λz=>by
   obtain⟨⟨old,he⟩,_⟩:=st
   obtain⟨o,ho,hcl,_⟩:=hT
   rw[z,he] at ho;cases ho;exact absurd (show Value.type "enumerate" = Value.type "tuple" from hcl) (by decide)
  have D':Draws X.prog X.w X.A.in1 it [it,a] i (λ_ _=>True) (λj h=>j=i/\h.IsTupleIter it a i/\h.IsTuple a its.toArray):=
   {live:=λ_ _ q=>by obtain⟨_,⟨o,ho,_⟩,_⟩:=q;exact⟨o,ho⟩
    frame:=λ_ _ _ q hk=>by
     obtain⟨q0,⟨o,ho,r⟩,⟨o2,ho2,r2⟩⟩:=q
     exact⟨q0,⟨o,hk it (by simp) o ho,r⟩,⟨o2,hk a (by simp) o2 ho2,r2⟩⟩
    item:=λj _ _ _ hj q _=>absurd q.1 (RL hj)
    done:=λs Q E q hE=>HT.mE hh q.2.1 q.2.2 (by simp;have:=rv.length;omega) hE }
  have W:=Uc D' e hei (by simp;exact⟨hei,λz=>ne1 z.symm⟩) (by simp)
  refine W.done s _ _ ⟨st.1,rfl,st.2,hT⟩ λh2 tk kk=>⟨rfl,I.turnedL kk hf⟩
 self:=λA i s Q E st h=>by
  obtain⟨⟨old,he⟩,_⟩:=st
  exact Ua he h
noncomputable def iEnum(K:W.Frag)(t:TA):TI:=λσ H R=>t σ H λxs H1=>∃ a,xs=[.ref a]/\(∃ ys,iP K H1 a ys)/\R (Ite K a) H1
end
section
variable{X:Cx}
theorem Jf{a:Expr}{k:Nat}{p:Pos}(hg:Gl X "enumerate")(hm:X.mg "enumerate" = Y)(ha:PA X [a] ta)(hs:starEach [a] X.env=[(false,eval a X.env)]) :
  PI X (.Tuple es k tp) (.Call (.Name "enumerate" p) [a] [] pos) (iEnum X.K ta):=by
 intro pins s σ H R I h
 refine Call_ (gQ I hg hm boot_enumerate (RZ (bN (ha pos pins s σ H _ I h) λus s1 ⟨vs,H1,I1,r1,q1⟩=>?_) hs rfl))
 obtain⟨t,rfl,⟨ys,hq⟩,q⟩:=q1
 obtain⟨u,rfl,ru⟩:=r1.one
 cases ru
 obtain⟨its,rv,pt,hz⟩:=I1.tuple hq
 refine HT.zC pt λh' he hi hsz kk=>Ua he ?_
 refine⟨s1.heap.objs.size+1,[s1.heap.objs.size+1,s1.heap.objs.size],_,_,H1,rfl,I1.kept (t':=s1.toks) kk,Bk t _ _ (Nat.succ_ne_self _),⟨⟨_,he⟩,hi⟩,λb hb=>?_,q⟩
 simp only[Rv,RT,SZ] at hb
 rcases hb with rfl | rfl
 ·exact I1.fpOk (TN _) (I1.hok.fresh (TN _))
 ·exact I1.fpOk (Rn _) (I1.hok.fresh (Rn _))
end
end L2
namespace M
open L2
section
variable{X:Cx}{K:W.Frag}{μ μ':Fp}{H H':Hp}{S:aa}
noncomputable def dZ:Nat->List D->List D
 | _,[]=>[]
 | i,x::r=>.tup [.int (i:Nat),x]::dZ (i+1) r
theorem mz:∀ (i:Nat) (xs:List D),(dZ i xs).length=xs.length
 | _,[]=>rfl
 | i,_::r=>by rw[dZ,Rr,Rr,mz (i+1) r]
theorem mB:∀ (k:Nat) (xs:List D) (i:Nat) (d:D),(dZ k xs)[i]?=U d->∃ x,xs[i]?=U x/\d=.tup [.int ((k+i:Nat):Int),x]
 | _,[],i,d,h=>by simp[dZ] at h
 | k,x::r,0,d,h=>by simp[dZ] at h;exact⟨x,rfl,h.symm⟩
 | k,x::r,i+1,d,h=>by
  rw[dZ,VM] at h
  obtain⟨y,h1,h2⟩:=mB (k+1) r i d h
  refine⟨y,by simpa using h1,?_⟩
  rw[h2,show k+1+i=k+(i+1) by omega]
theorem BX(r:Rep K μ H (.ref a) (.tup xs)):xS K μ H (Ite K a) (dZ 0 xs):=λμ' H' S' e s i=>by
 have r':=r.monoP e
 obtain⟨b,vs,hb,hq,rs⟩:=r'.sqT
 cases hb
 refine⟨λd hd=>?_,λhl=>⟨vs,hq,by rw[rs.length];rw[mz] at hl;exact hl⟩⟩
 obtain⟨x,hx,rfl⟩:=mB 0 xs i d hd
 obtain⟨v,hv,rv⟩:=rs.get hx
 refine⟨⟨vs,v,hq,hv⟩,λy H2 hy=>?_⟩
 obtain⟨p,w,rfl,hp,rfl,hw⟩:=hy
 have ew:w=v:=by have:=hw vs hq;rw[hv] at this;exact(RJ this).symm
 subst ew
 obtain⟨e2,s2⟩:=s.laid (o:=.tup [.int (i:Nat),w]) hp
 refine⟨e2,s2,?_⟩
 rw[VX]
 exact .tup ah (s.notMem hp) (.cons (.int _) (.cons (rv.mono e2) .nil))
noncomputable def eV(ms:MA):MA:=λenv S=>(ms env S).bind λp=>match p.1 with | [.tup xs]=>U (dZ 0 xs,p.2) | _=>Y
theorem KN{a:Expr}{k:Nat}{p:Pos}(hm:X.mg "enumerate" = Y)(ha:DA X [a] ms)(hg:Gl X "enumerate")(hs:starEach [a] X.env=[(false,eval a X.env)]) :
  DI X (.Tuple es k tp) (.Call (.Name "enumerate" p) [a] [] pos) (eV ms):=PI.imp (Jf hg hm ha hs) λσ H R ⟨μ,S,env,xs,S',hS,hE,h,post⟩=>by
 obtain⟨⟨ds,S1⟩,h1,h⟩:=Rb.mp h
 refine⟨μ,S,env,ds,S1,hS,hE,h1,λvs H1 μ1 e1 s1 r1=>?_⟩
 dsimp only at h
 split at h
 ·rename_i ys
  cases h
  obtain⟨v,rfl,rv⟩:=r1.one
  have rv':=rv
  obtain⟨b,ws,rfl,hq,rs⟩:=rv.sqT
  exact⟨b,rfl,⟨ws,hq⟩,post _ H1 μ1 e1 s1 (BX rv')⟩
 ·cases h
end
end M
namespace HT
section
variable{prog:Program}{w:World}{A:Around}{E:Value->Shared->Prop}{s:Shared}
theorem Lz(n:Nat):Builtin.Slice.sliceAdjust Y Y (-1) (n:Int)=((n:Int) - 1,-1):=rfl
theorem ym(n:Nat):Builtin.Slice.slicePlaces ((n:Int) - 1) (-1) (-1)=n:=by
 unfold Builtin.Slice.slicePlaces
 rw[RH (by decide)]
 by_cases h:n=0
 ·subst h;rfl
 ·rw[Ru (by omega)]
  show(((n:Int) - 1 - -1 - 1) / 1+1).toNat=n
  rw[VZ];omega
theorem vM(xs:Array Value):((List.range xs.size).filterMap λ(m:Nat)=>xs[(((xs.size:Nat):Int) - 1+(m:Int)*-1).toNat]?).toArray=xs.toList.reverse.toArray:=by
 congr 1
 apply List.ext_getElem?
 intro i
 have e:∀ l:List Nat,(∀ m∈l,m<xs.size)->(l.filterMap λ(m:Nat)=>xs[(((xs.size:Nat):Int) - 1+(m:Int)*-1).toNat]?)=l.map λm=>xs[xs.size - 1 - m]?.getD .none:=by
  intro l
  induction l with
  | nil=>intro _;rfl
  | cons m l ih=>
   intro h
   have hm:=h m Rf
   have e1:(((xs.size:Nat):Int) - 1+(m:Int)*-1).toNat=xs.size - 1 - m:=by omega
   have e2:xs[xs.size - 1 - m]?=U (xs[xs.size - 1 - m]'(by omega)):=VA _
   rw[RV,e1,e2,RB,ih λk hk=>h k (Rj _ hk),e2]
   rfl
 rw[e _ λm hm=>Sv.mp hm]
 by_cases hi:i<xs.size
 ·rw[SA,List.getElem?_range hi,List.getElem?_reverse (by simpa using hi)]
  have e2:xs[xs.size - 1 - i]?=U (xs[xs.size - 1 - i]'(by omega)):=VA _
  simp[e2]
 ·rw[SY (by simp;omega),SY (by simp;omega)]
theorem xP{n:Nat}{Q:Int×Int×Nat->Shared->Prop}(hs:s.heap.IsSliceOf sl .none .none (.int (-1) u))(h:Q ((n:Int) - 1,-1,n) s) :
  wpAny (model prog w) A (Builtin.Slice.sliceApplied (.ref sl) (pure (n:Int))) Q E s:=by
 obtain⟨os,hos,hcs,hds⟩:=id hs
 unfold Builtin.Slice.sliceApplied Builtin.Slice.sliceFields
 refine Rc (Rc (RO hos hds (x:=.none) rfl (Rc (RO hos hds (x:=.none) rfl (Rc (RO hos hds (x:=.int (-1) u) rfl (Rh ?_)))))))
 refine Rc (slicePart_int ?_)
 show wpAny _ _ (if ((-1:Int)==0)=true then _ else _) _ _ s
 rw[RH (by decide)]
 refine Rc (Uz (Rc (Uz (Rc (Rh ?_)))))
 show wpAny _ _ (match Builtin.Slice.sliceAdjust Y Y (-1) (n:Int) with | (lo,hi)=>pure (lo,(-1:Int),Builtin.Slice.slicePlaces lo hi (-1))) _ _ s
 rw[Lz]
 show wpAny _ _ (pure ((n:Int) - 1,(-1:Int),Builtin.Slice.slicePlaces ((n:Int) - 1) (-1) (-1))) _ _ s
 rw[ym]
 exact Rh h
theorem lj{Q:Value->Shared->Prop}(ht:IsTup s.heap t items)(hs:s.heap.IsSliceOf sl .none .none (.int (-1) u))
  (h:Q (.ref s.heap.objs.size) { s with heap:=s.heap.push { cls:=.type "tuple",data:=.seq items.toList.reverse.toArray } }) (hsz:items.size<=sizeLine):wpAny (model prog w) A (getItem (.ref t) (.ref sl)) Q E s:=by
 have htake:sizeOk (.seq items.toList.reverse.toArray):=by
  show items.toList.reverse.toArray.size<=sizeLine
  simpa using hsz
 obtain⟨os,hos,hcs,hds⟩:=id hs
 have hTs:s.TypeIs (.ref sl) "slice":=⟨os,hos,hcs⟩
 unfold getItem
 try with_reducible refine RX ?_
 first | refine Rc (Rh ?_) | skip
 refine Rc (UO ht.typeIs (by decide) ?_)
 refine Rc (Sh (name:=Str.ofString "__getitem__") ht.typeIs Si (SE Si ht.typeIs UB ?_ (UE _ _)))
 show wpAny _ _ (Builtin.Tuple.tupleItemsOf (.ref t) >>= _) _ _ s
 refine Rc (VI ht ?_)
 refine Rc (UV hTs ?_)
 rw[Ru (by decide)]
 refine Rc (xP hs ?_)
 show wpAny _ _ (if ((((items.size:Nat):Int) - 1)==0&&(-1:Int)==1&&items.size==items.size)=true then _ else _) _ _ s
 rw[RH (by simp),vM]
 first
  | exact Rc (m:=Builtin.Tuple.tupleExact _) (RM (Rh ⟨_,rfl,Rh h⟩) htake)
  | exact Rc (m:=Builtin.Tuple.tupleExact _) (RM (Rc (Rh (Rh ⟨_,rfl,Rh h⟩))) htake)
  | exact Rc (Rc (m:=Builtin.Tuple.tupleExact _) (RM (Rh (Rh ⟨_,rfl,Rh h⟩)) htake))
  | exact Rc (Rc (m:=Builtin.Tuple.tupleExact _) (RM (Rh ⟨_,rfl,Rh h⟩) htake))
end
end HT
namespace L2
section
variable{X:Cx}{e st:Expr}{te:TE}{ts:TO}{pos p2:Pos}
noncomputable def tRev(K:W.Frag)(te:TE)(ts:TO):TE:=λσ H Q=>te σ H λx H1=>ts σ H1 λk H2=>∃ a xs,x=.ref a/\k=U (-1)/\iP K H2 a xs/\∀ p,H2 p=Y->Q (.ref p) (upd H2 p (.tup xs.reverse))
theorem NR(he:PE X e te)(hs:PO X (U st) ts):PE X (.Subscript e (.Slice Y Y (U st) p2) pos) (tRev X.K te ts):=by
 intro pins s σ H Q I h
 refine VE (bN (he pins s σ H _ I h) λv s1 ⟨x,H1,I1,r1,q1⟩=>?_)
 refine Wj ?_
 rw[UC]
 refine Rh ?_
 refine Rh (bN (hs pins s1 σ H1 _ I1 q1) λvk s2 ⟨k,H2,I2,pk,q2⟩=>?_)
 obtain⟨a,xs,rfl,rfl,hq,q⟩:=q2
 cases r1
 cases pk with
 | int _ u=>
  have I4:Inv X pins σ H2 { s2 with heap:=s2.heap.push { cls:=.type "slice",data:=.fields #[.none,.none,.int (-1) u] } }:=I2.kept (t':=s2.toks) λb ob q=>Re _ q
  obtain⟨its,r,ht,hz⟩:=I4.tuple hq
  have hlen:its.toArray.size=xs.length:=by rw[Rk];exact r.length.symm
  show wpAny (model X.prog X.w) X.A (subscriptTail e (.Slice Y Y (U st) p2) (.ref a) (.ref s2.heap.objs.size)) (EP X pins σ Q) X.xe { s2 with heap:=s2.heap.push { cls:=.type "slice",data:=.fields #[.none,.none,.int (-1) u] } }
  refine VJ (ops:=[.ref a,.ref s2.heap.objs.size]) ht.typeIs PyProof.Rows.slot_tuple_getitem.lookup (HT.lj ht (UK ..) ?_ (by rw[hlen];exact hz)) (by with_unfolding_all rfl)
  refine⟨.ref _,_,I4.laid (t':=s2.toks) (o:=.tup xs.reverse) (λb ob q=>Re _ q) (Rn _) ⟨by simpa using hz,its.reverse,r.reverse,IsTupN.new _ _⟩,rfl,q _ (I4.hok.fresh (Rn _))⟩
end
end L2
namespace M
open L2
section
variable{X:Cx}{K:W.Frag}{μ:Fp}{H:Hp}{S:aa}
theorem Reps.reverse:∀ {vs:List V} {ds:List D},Reps K μ H vs ds->Reps K μ H vs.reverse ds.reverse
 | _,_,.nil=>.nil
 | _,_,.cons h t=>by rw[Tv,Tv];exact(Reps.reverse t).append (.cons h .nil)
noncomputable def gx(a:ME)(st:MO):ME:=λenv S=>(a env S).bind λp=>(st env p.2).bind λk=>match p.1,k.1 with
 | .tup xs,U j=>if j = -1 then U (.tup xs.reverse,k.2) else Y
 | _,_=>Y
theorem Qr{st:Expr}(ha:DE X a ma)(hs:DO X (U st) ms):DE X (.Subscript a (.Slice Y Y (U st) p2) pos) (gx ma ms):=
 PE.imp (NR ha hs) λσ H Q ⟨μ,S,env,d,S',hS,hE,h,post⟩=>by
  obtain⟨⟨x,S1⟩,h1,h⟩:=Rb.mp h
  obtain⟨⟨k,S2⟩,h2,h⟩:=Rb.mp h
  refine⟨μ,S,env,x,S1,hS,hE,h1,λv H1 μ1 e1 s1 r1=>⟨μ1,S1,env,k,S2,s1,hE.mono e1,h2,λH2 μ2 e2 s2=>?_⟩⟩
  dsimp only at h
  split at h
  ·split at h
   ·rename_i xs j hj
    cases h
    obtain⟨b,vs,rfl,q,r⟩:=(r1.mono e2).sqT
    exact⟨b,vs,rfl,by rw[hj],q,λp hp=>((post.ext e1).ext e2).tup s2 hp r.reverse⟩
   ·cases h
  ·cases h
end
end M
namespace M
open L2
noncomputable def kg:List D->Option (List Int)
 | []=>U []
 | .int i::r=>(kg r).bind λns=>U (i::ns)
 | _::_=>Y
theorem mT:∀ {ds:List D} {ns:List Int},kg ds=U ns->ds=ns.map D.int
 | [],ns,h=>by cases h;rfl
 | .int i::r,ns,h=>by
  obtain⟨ms,h1,h2⟩:=Rb.mp h
  cases h2
  rw[RB,<- mT h1]
 | .non::_,ns,h=>by cases h
 | .bl _::_,ns,h=>by cases h
 | .str _::_,ns,h=>by cases h
 | .tup _::_,ns,h=>by cases h
 | .lst _::_,ns,h=>by cases h
 | .rol _::_,ns,h=>by cases h
 | .dct _ _::_,ns,h=>by cases h
 | .ref _::_,ns,h=>by cases h
section
variable{X:Cx}{K:W.Frag}{μ:Fp}{H:Hp}{S:aa}
theorem qX:∀ {vs:List V} {ns:List Int},Reps K μ H vs (ns.map D.int)->vs=ns.map V.int
 | _,[],.nil=>rfl
 | _,n::ns,.cons h t=>by rw[h.int_inv,qX t];rfl
noncomputable def mU(S:aa)(d:D):Option (List Int):=if qz S d=true then(fw S d).bind λds=>(kg ds).bind λns=>if ns.length<64 then U ns else Y else Y
theorem zd{d:D}{ns:List Int}(hS:SOk K μ S H)(r:Rep K μ H v d)(h:mU S d=U ns):∃ a,v=.ref a/\gT K H a (ns.map V.int)/\ns.length<64:=by
 unfold mU at h
 split at h
 ·rename_i hl
  obtain⟨a,vs,ds,rfl,hq,hs,rs⟩:=pA hS r hl
  rw[hs] at h
  have h:((kg ds).bind λns=>if ns.length<64 then U ns else Y)=U ns:=h
  obtain⟨ms,h1,h2⟩:=Rb.mp h
  split at h2
  ·rename_i h3
   cases h2
   have:=mT h1
   subst this
   exact⟨a,rfl,by rw[<- qX rs];exact hq,h3⟩
  ·cases h2
 ·cases h
end
section
variable{X:Cx}{K:W.Frag}{μ:Fp}{H:Hp}{S:aa}
noncomputable def gy(i j:Nat)(ms:MA):MS:=λenv S=>(ms env S).bind λp=>match p.1 with | [v,w]=>U (.nx ((env.set i (U v)).set j (U w)) p.2) | _=>Y
theorem Qj{i j:Nat}{x y:Str}{a b:Expr}{pt:Pos}(hc:X.calm=true)(hN:X.N.Nodup)(hi:X.N[i]?=U x)(hj:X.N[j]?=U y)(hij:i≠j)
  (hx:X.env.scope.names.lookup x=U .local) (hy:X.env.scope.names.lookup y=U .local) (ha:DA X [a,b] ms)
  (hw:swappedStores [.Tuple [.Name x px,.Name y py] kt pt] (.Tuple [a,b] k2 pt2) X.env=pure (U [x,y])) :
  DS X (.Assign [.Tuple [.Name x px,.Name y py] kt pt] (.Tuple [a,b] k2 pt2) pos) (gy i j ms):=
 PS.imp (NK hc hN hi hj hij hx hy ha hw rfl) λE σ H ⟨μ,S,env,o,hS,hE,h,post⟩=>by
  obtain⟨⟨ds,S1⟩,h1,h⟩:=Rb.mp h
  refine⟨μ,S,env,ds,S1,hS,hE,h1,λvs H1 μ1 e1 s1 r1=>?_⟩
  dsimp only at h
  split at h
  ·rename_i v w
   cases h
   obtain⟨v',w',rfl,rv,rw'⟩:=r1.two
   exact⟨v',w',rfl,post _ H1 μ1 e1 s1 (((hE.mono e1).set rv i).set rw' j)⟩
  ·cases h
noncomputable def oK:Expr->Bool
 | .Starred _ _=>false
 | _=>true
theorem Dy{px py pt:Pos}(hb:X.env.blockKind=.function)(hx:X.env.scope.names.lookup x=U .local)(hy:X.env.scope.names.lookup y=U .local)(hne:(x==y)=false)
  (hl:(py.line==px.line)=true) (ha:oK a=true) (hb':oK b=true) (hf:(foldedForSure 8 a&&foldedForSure 8 b)=false) (hcn:(constantsAlone 8 a&&constantsAlone 8 b)=false) :
  swappedStores [.Tuple [.Name x px,.Name y py] kt pt] (.Tuple [a,b] k2 pt2) X.env=pure (U [x,y]):=by
 have hkx:X.env.kindOf x=U .local:=hx
 have hky:X.env.kindOf y=U .local:=hy
 have hs:([a,b].any λe=>match e with | .Starred ..=>true | _=>false)=false:=by
  have q:∀ e:Expr,oK e=true->(match e with | .Starred ..=>true | _=>false:Bool)=false:=λe h=>by cases e<;>first | rfl | cases h
  simp only[Tq,List.any_nil,q a ha,q b hb',Bool.or_self]
 have hxy:(y==x)=false:=by
  rw[Bool.eq_false_iff] at hne ⊢
  intro z;exact hne (by rw[RC] at z ⊢;exact z.symm)
 have hed:([x,y]:List Str).eraseDups=[x,y]:=by simp[List.eraseDups_cons,hxy]
 have hl':py.line=px.line:=by simpa using hl
 unfold swappedStores
 simp only[Rr,Sl,hb]
 simp only[Sz,List.all_nil,VO,hf,hcn]
 generalize hg:List.filterMap _ [Expr.Name x px,Expr.Name y py]=L
 have hL:L=[x,y]:=by
  rw[<- hg]
  have e0:(Option.map (λ(x:Expr)=>x.pos.line) [Expr.Name x px,Expr.Name y py].head?).getD 0=px.line:=rfl
  rw[RV,RV]
  have e1:(Expr.Name x px).pos=px:=rfl
  simp[hkx,hky,e0,e1,hl']
 subst hL
 rw[RH (by decide)]
 rw[RH (by
  intro z
  have:([a,b].any λe=>match e with | .Starred ..=>true | _=>false)=true:=z
  rw[hs] at this;cases this)]
 rw[RH (by rw[hed];simp),RH Rq,RH Rq]
end
end M
namespace HT
section
variable{prog:Program}{w:World}{A:Around}{E:Value->Shared->Prop}{s:Shared}
structure uW(z TI TO i1 i2:Addr)(fp1 fp2:List Addr):Prop where
 TIz:TI≠z
 TOz:TO≠z
 TITO:TI≠TO
 z1:z∉fp1
 z2:z∉fp2
 o1:TO∉fp1
 o2:TO∉fp2
 i12:i1∉fp2
 i21:i2∉fp1
 t1:TI≠i1
 t2:TI≠i2
 m1:i1∈fp1
 m2:i2∈fp2
theorem Bg{TI TO:Addr}{Q:Value->Shared->Prop}
  (Z:uW z TI TO i1 i2 fp1 fp2) (D1:Draws prog w A i1 fp1 n1 P1 St1) (D2:Draws prog w A i2 fp2 n2 P2 St2) (hz:IsZip s.heap z TI TO .none) (hTI:IsPair s.heap TI (.ref i1) (.ref i2)) (hTO:IsPair s.heap TO a b)
  (s1:St1 k1 s.heap) (s2:St2 k2 s.heap) (l1:k1<n1) (l2:k2<n2)
  (hQ:∀ x y h' tk,P1 k1 x->P2 k2 y->IsZip h' z TI TO (rawInt s.heap.objs.size)->IsPair h' TO x y->St1 (k1+1) h'->St2 (k2+1) h'->IsPair h' s.heap.objs.size x y->h'.objs.size=s.heap.objs.size+1 ->
   (∀ c o,c≠z->c≠TO->c≠i1->c≠i2->s.heap.get? c=U o->h'.get? c=U o)->Q (.ref s.heap.objs.size) { s with heap:=h',toks:=tk }) :
  wpAny (model prog w) A (Builtin.«zip.__next__» ⟨[.ref z],[]⟩) (λfin s'=>∃ v,fin=.done (.ret v)/\Q v s') E s:=by
 unfold Builtin.«zip.__next__»
 show wpAny _ _ (field (.ref z) 2 >>= _) _ _ s
 refine Rc (RO hz rfl (x:=.bool false) rfl ?_)
 refine Rc (RO hz rfl (x:=.ref TI) rfl ?_)
 refine Rc (SI hTI rfl ?_)
 show wpAny _ _ (Builtin.SmallTypes.ownedTupleIsFree (.ref z) >>= _) _ _ s
 refine Rc ?_
 unfold Builtin.SmallTypes.ownedTupleIsFree
 refine Rc (RO hz rfl (x:=.none) rfl (Rh ?_))
 show wpAny _ _ (rule "zip.__next__.owned-tuple-again" >>= _) _ _ s
 refine Rc (TH ?_)
 refine Rc (RO hz rfl (x:=.ref TO) rfl ?_)
 refine Rc (Sa hz rfl (by simp) ?_)
 refine Rc ?_
 show wpAny _ _ (forIn [((Value.ref i1,0):Value×Nat),(Value.ref i2,1)] _ _) _ _ _
 rw[SR]
 refine Rc ?_
 refine Rc (TF ?_)
 refine Rc ?_
 have ez:(s.heap.update z (Obj.mapFields λvs=>vs.setIfInBounds 0 .ellipsis)).get? z=U { cls:=.type "zip",data:=.fields #[.ellipsis,.bool false,.bool false,.ref TI,.ref TO] }:=RK _ hz rfl
 have ne0:∀ c,c≠z->(s.heap.update z (Obj.mapFields λvs=>vs.setIfInBounds 0 .ellipsis)).get? c=s.heap.get? c:=λc hc=>RQ _ _ _ _ hc
 have sz0:(s.heap.update z (Obj.mapFields λvs=>vs.setIfInBounds 0 .ellipsis)).objs.size=s.heap.objs.size:=(SC ..).1
 generalize (s.heap.update z (Obj.mapFields λvs=>vs.setIfInBounds 0 .ellipsis))=h0 at ez ne0 sz0 ⊢
 have zi1:z≠i1:=λe=>Z.z1 (e ▸ Z.m1)
 have zi2:z≠i2:=λe=>Z.z2 (e ▸ Z.m2)
 have oi1:TO≠i1:=λe=>Z.o1 (e ▸ Z.m1)
 have oi2:TO≠i2:=λe=>Z.o2 (e ▸ Z.m2)
 refine D1.item k1 { s with heap:=h0 } _ _ l1 (D1.frame _ _ _ s1 λc hc o ho=>(ne0 c (λe=>Z.z1 (e ▸ hc))).trans ho) λx h1 tk1 px st1 sb1=>Rh ?_
 have o1:h1.get? TO=U { cls:=.type "tuple",data:=.seq #[a,b] }:=(sb1.2 TO oi1).trans ((ne0 TO Z.TOz).trans hTO)
 show wpAny _ _ (seqItems? (Value.ref TO) >>= _) _ _ _
 refine Rc (SI o1 rfl ?_)
 refine Rc (Vj o1 rfl ?_ (by show 2<=sizeLine;decide) (by simp;decide))
 refine Rc (Wi (Rh ?_))
 have eo:(h1.update TO (Obj.mapSeq λvs=>vs.setIfInBounds 0 x)).get? TO=U { cls:=.type "tuple",data:=.seq #[x,b] }:=RK _ o1 rfl
 have ne1:∀ c,c≠TO->(h1.update TO (Obj.mapSeq λvs=>vs.setIfInBounds 0 x)).get? c=h1.get? c:=λc hc=>RQ _ _ _ _ hc
 have sz1:(h1.update TO (Obj.mapSeq λvs=>vs.setIfInBounds 0 x)).objs.size=s.heap.objs.size:=(SC ..).1.trans (sb1.1.trans sz0)
 generalize (h1.update TO (Obj.mapSeq λvs=>vs.setIfInBounds 0 x))=h2 at eo ne1 sz1 ⊢
 show wpAny _ _ (forIn [((Value.ref i2,1):Value×Nat)] _ _) _ _ _
 rw[SR]
 refine Rc ?_
 refine Rc (TF ?_)
 refine Rc ?_
 refine D2.item k2 { s with heap:=h2,toks:=tk1 } _ _ l2 (D2.frame _ _ _ s2 λc hc o ho=>(ne1 c (λe=>Z.o2 (e ▸ hc))).trans ((sb1.2 c (λe=>Z.i12 (e ▸ hc))).trans ((ne0 c (λe=>Z.z2 (e ▸ hc))).trans ho))) λy h3 tk2 py st2 sb2=>Rh ?_
 have o2:h3.get? TO=U { cls:=.type "tuple",data:=.seq #[x,b] }:=(sb2.2 TO oi2).trans eo
 show wpAny _ _ (seqItems? (Value.ref TO) >>= _) _ _ _
 refine Rc (SI o2 rfl ?_)
 refine Rc (Vj o2 rfl ?_ (by show 2<=sizeLine;decide) (by simp;decide))
 refine Rc (Wi (Rh ?_))
 have eo2:(h3.update TO (Obj.mapSeq λvs=>vs.setIfInBounds 1 y)).get? TO=U { cls:=.type "tuple",data:=.seq #[x,y] }:=RK _ o2 rfl
 have ne2:∀ c,c≠TO->(h3.update TO (Obj.mapSeq λvs=>vs.setIfInBounds 1 y)).get? c=h3.get? c:=λc hc=>RQ _ _ _ _ hc
 have sz2:(h3.update TO (Obj.mapSeq λvs=>vs.setIfInBounds 1 y)).objs.size=s.heap.objs.size:=(SC ..).1.trans (sb2.1.trans sz1)
 generalize (h3.update TO (Obj.mapSeq λvs=>vs.setIfInBounds 1 y))=h4 at eo2 ne2 sz2 ⊢
 show wpAny _ _ (pure _) _ _ _
 refine Rh ?_
 show wpAny _ _ (seqItems? (Value.ref TO) >>= _) _ _ _
 refine Rc (SI eo2 rfl ?_)
 show wpAny _ _ (newTuple [x,y] >>= _) _ _ _
 refine Rc ?_
 simp only[newTuple]
 refine RM ?_ (by size_fits)
 have ez4:h4.get? z=U { cls:=.type "zip",data:=.fields #[.ellipsis,.bool false,.bool false,.ref TI,.ref TO] }:=(ne2 z Z.TOz.symm).trans ((sb2.2 z zi2).trans ((ne1 z Z.TOz.symm).trans ((sb1.2 z zi1).trans ez)))
 have ez5:=Re { cls:=.type "tuple",data:=.seq #[x,y] } ez4
 have et5:=Rs h4 (o:={ cls:=.type "tuple",data:=.seq #[x,y] }) rfl
 have kk5:∀ c o,h4.get? c=U o->(h4.push { cls:=.type "tuple",data:=.seq #[x,y] }).get? c=U o:=λc o=>Re _
 have sz5:(h4.push { cls:=.type "tuple",data:=.seq #[x,y] }).objs.size=s.heap.objs.size+1:=by rw[Sw,sz2]
 dsimp only
 show wpAny _ _ _ _ _ { s with heap:=h4.push { cls:=.type "tuple",data:=.seq #[x,y] },toks:=tk2 }
 generalize (h4.push { cls:=.type "tuple",data:=.seq #[x,y] })=h5 at ez5 et5 kk5 sz5 ⊢
 rw[sz2] at et5 ⊢
 show wpAny _ _ ((setField (.ref z) 0 (rawInt s.heap.objs.size) >>= λ_=>setField (.ref z) 1 (.bool false)) >>= _) _ _ _
 refine Rc (Rc (Sa ez5 rfl (by simp) ?_))
 have ez6:(h5.update z (Obj.mapFields λvs=>vs.setIfInBounds 0 (rawInt s.heap.objs.size))).get? z=U { cls:=.type "zip",data:=.fields #[rawInt s.heap.objs.size,.bool false,.bool false,.ref TI,.ref TO] }:=RK _ ez5 rfl
 have ne6:∀ c,c≠z->(h5.update z (Obj.mapFields λvs=>vs.setIfInBounds 0 (rawInt s.heap.objs.size))).get? c=h5.get? c:=λc hc=>RQ _ _ _ _ hc
 have sz6:(h5.update z (Obj.mapFields λvs=>vs.setIfInBounds 0 (rawInt s.heap.objs.size))).objs.size=s.heap.objs.size+1:=(SC ..).1.trans sz5
 generalize (h5.update z (Obj.mapFields λvs=>vs.setIfInBounds 0 (rawInt s.heap.objs.size)))=h6 at ez6 ne6 sz6 ⊢
 refine Sa ez6 rfl (by simp) ?_
 have ez7:(h6.update z (Obj.mapFields λvs=>vs.setIfInBounds 1 (.bool false))).get? z=U { cls:=.type "zip",data:=.fields #[rawInt s.heap.objs.size,.bool false,.bool false,.ref TI,.ref TO] }:=RK _ ez6 rfl
 have ne7:∀ c,c≠z->(h6.update z (Obj.mapFields λvs=>vs.setIfInBounds 1 (.bool false))).get? c=h6.get? c:=λc hc=>RQ _ _ _ _ hc
 have sz7:(h6.update z (Obj.mapFields λvs=>vs.setIfInBounds 1 (.bool false))).objs.size=s.heap.objs.size+1:=(SC ..).1.trans sz6
 generalize (h6.update z (Obj.mapFields λvs=>vs.setIfInBounds 1 (.bool false)))=h7 at ez7 ne7 sz7 ⊢
 have k57:∀ c o,c≠z->h4.get? c=U o->h7.get? c=U o:=λc o hc ho=>(ne7 c hc).trans ((ne6 c hc).trans (kk5 c o ho))
 have newz:s.heap.objs.size≠z:=Sf (Ro hz)
 refine Rh ⟨_,rfl,hQ x y h7 tk2 px py ez7 (k57 TO _ Z.TOz eo2) ?_ ?_ ((ne7 _ newz).trans ((ne6 _ newz).trans et5)) sz7 λc o c1 c2 c3 c4 ho=>k57 c o c1 ((ne2 c c2).trans ((sb2.2 c c4).trans ((ne1 c c2).trans ((sb1.2 c c3).trans ((ne0 c c1).trans ho)))))⟩
 ·exact D1.frame _ _ _ st1 λc hc o ho=>k57 c o (λe=>Z.z1 (e ▸ hc)) ((ne2 c (λe=>Z.o1 (e ▸ hc))).trans ((sb2.2 c (λe=>Z.i21 (e ▸ hc))).trans ((ne1 c (λe=>Z.o1 (e ▸ hc))).trans ho)))
 ·exact D2.frame _ _ _ st2 λc hc o ho=>k57 c o (λe=>Z.z2 (e ▸ hc)) ((ne2 c (λe=>Z.o2 (e ▸ hc))).trans ho)
theorem Bi{TI TO:Addr}
  (Z:uW z TI TO i1 i2 fp1 fp2) (D1:Draws prog w A i1 fp1 n1 P1 St1) (hz:IsZip s.heap z TI TO .none) (hTI:IsPair s.heap TI (.ref i1) (.ref i2)) (hTO:IsPair s.heap TO a b)
  (s1:St1 n1 s.heap)
  (hE:∀ h' e tk,(∀ c o,c≠z->c≠TO->c≠i1->c≠i2->s.heap.get? c=U o->h'.get? c=U o)->(∃ o,h'.get? e=U o/\o.cls=.type "StopIteration")->E (.ref e) { s with heap:=h',toks:=tk }) :
  wpAny (model prog w) A (Builtin.«zip.__next__» ⟨[.ref z],[]⟩) Q E s:=by
 unfold Builtin.«zip.__next__»
 show wpAny _ _ (field (.ref z) 2 >>= _) _ _ s
 refine Rc (RO hz rfl (x:=.bool false) rfl ?_)
 refine Rc (RO hz rfl (x:=.ref TI) rfl ?_)
 refine Rc (SI hTI rfl ?_)
 show wpAny _ _ (Builtin.SmallTypes.ownedTupleIsFree (.ref z) >>= _) _ _ s
 refine Rc ?_
 unfold Builtin.SmallTypes.ownedTupleIsFree
 refine Rc (RO hz rfl (x:=.none) rfl (Rh ?_))
 show wpAny _ _ (rule "zip.__next__.owned-tuple-again" >>= _) _ _ s
 refine Rc (TH ?_)
 refine Rc (RO hz rfl (x:=.ref TO) rfl ?_)
 refine Rc (Sa hz rfl (by simp) ?_)
 refine Rc ?_
 show wpAny _ _ (forIn [((Value.ref i1,0):Value×Nat),(Value.ref i2,1)] _ _) _ _ _
 rw[SR]
 refine Rc ?_
 refine Rc (TF ?_)
 refine Rc ?_
 have ez:(s.heap.update z (Obj.mapFields λvs=>vs.setIfInBounds 0 .ellipsis)).get? z=U { cls:=.type "zip",data:=.fields #[.ellipsis,.bool false,.bool false,.ref TI,.ref TO] }:=RK _ hz rfl
 have ne0:∀ c,c≠z->(s.heap.update z (Obj.mapFields λvs=>vs.setIfInBounds 0 .ellipsis)).get? c=s.heap.get? c:=λc hc=>RQ _ _ _ _ hc
 generalize (s.heap.update z (Obj.mapFields λvs=>vs.setIfInBounds 0 .ellipsis))=h0 at ez ne0 ⊢
 have zi1:z≠i1:=λe=>Z.z1 (e ▸ Z.m1)
 have zi2:z≠i2:=λe=>Z.z2 (e ▸ Z.m2)
 have oi1:TO≠i1:=λe=>Z.o1 (e ▸ Z.m1)
 have oi2:TO≠i2:=λe=>Z.o2 (e ▸ Z.m2)
 refine D1.done { s with heap:=h0 } _ _ (D1.frame _ _ _ s1 λc hc o ho=>(ne0 c (λe=>Z.z1 (e ▸ hc))).trans ho) λh1 e xb ⟨o,ho,hc⟩=>?_
 have z1:=xb z _ zi1 ez
 refine Sa z1 rfl (by simp) (hE _ e s.toks (λc o c1 c2 c3 c4 ho=>(RQ _ _ _ _ c1).trans (xb c o c3 ((ne0 c c1).trans ho))) ?_)
 refine⟨o,(RQ _ _ _ _ λh=>?_).trans ho,hc⟩
 rw[h,z1] at ho;cases ho;exact absurd (show Value.type "zip" = Value.type "StopIteration" from hc) (by decide)
theorem Bh{TI TO:Addr}
  (Z:uW z TI TO i1 i2 fp1 fp2) (D1:Draws prog w A i1 fp1 n1 P1 St1) (D2:Draws prog w A i2 fp2 n2 P2 St2) (hz:IsZip s.heap z TI TO .none) (hTI:IsPair s.heap TI (.ref i1) (.ref i2)) (hTO:IsPair s.heap TO a b)
  (s1:St1 k1 s.heap) (l1:k1<n1) (s2:St2 n2 s.heap)
  (hE:∀ h' e tk,(∀ c o,c≠z->c≠TO->c≠i1->c≠i2->s.heap.get? c=U o->h'.get? c=U o)->(∃ o,h'.get? e=U o/\o.cls=.type "StopIteration")->E (.ref e) { s with heap:=h',toks:=tk }) :
  wpAny (model prog w) A (Builtin.«zip.__next__» ⟨[.ref z],[]⟩) Q E s:=by
 unfold Builtin.«zip.__next__»
 show wpAny _ _ (field (.ref z) 2 >>= _) _ _ s
 refine Rc (RO hz rfl (x:=.bool false) rfl ?_)
 refine Rc (RO hz rfl (x:=.ref TI) rfl ?_)
 refine Rc (SI hTI rfl ?_)
 show wpAny _ _ (Builtin.SmallTypes.ownedTupleIsFree (.ref z) >>= _) _ _ s
 refine Rc ?_
 unfold Builtin.SmallTypes.ownedTupleIsFree
 refine Rc (RO hz rfl (x:=.none) rfl (Rh ?_))
 show wpAny _ _ (rule "zip.__next__.owned-tuple-again" >>= _) _ _ s
 refine Rc (TH ?_)
 refine Rc (RO hz rfl (x:=.ref TO) rfl ?_)
 refine Rc (Sa hz rfl (by simp) ?_)
 refine Rc ?_
 show wpAny _ _ (forIn [((Value.ref i1,0):Value×Nat),(Value.ref i2,1)] _ _) _ _ _
 rw[SR]
 refine Rc ?_
 refine Rc (TF ?_)
 refine Rc ?_
 have ez:(s.heap.update z (Obj.mapFields λvs=>vs.setIfInBounds 0 .ellipsis)).get? z=U { cls:=.type "zip",data:=.fields #[.ellipsis,.bool false,.bool false,.ref TI,.ref TO] }:=RK _ hz rfl
 have ne0:∀ c,c≠z->(s.heap.update z (Obj.mapFields λvs=>vs.setIfInBounds 0 .ellipsis)).get? c=s.heap.get? c:=λc hc=>RQ _ _ _ _ hc
 generalize (s.heap.update z (Obj.mapFields λvs=>vs.setIfInBounds 0 .ellipsis))=h0 at ez ne0 ⊢
 have zi1:z≠i1:=λe=>Z.z1 (e ▸ Z.m1)
 have zi2:z≠i2:=λe=>Z.z2 (e ▸ Z.m2)
 have oi1:TO≠i1:=λe=>Z.o1 (e ▸ Z.m1)
 have oi2:TO≠i2:=λe=>Z.o2 (e ▸ Z.m2)
 refine D1.item k1 { s with heap:=h0 } _ _ l1 (D1.frame _ _ _ s1 λc hc o ho=>(ne0 c (λe=>Z.z1 (e ▸ hc))).trans ho) λx h1 tk1 px st1 sb1=>Rh ?_
 have o1:h1.get? TO=U { cls:=.type "tuple",data:=.seq #[a,b] }:=(sb1.2 TO oi1).trans ((ne0 TO Z.TOz).trans hTO)
 show wpAny _ _ (seqItems? (Value.ref TO) >>= _) _ _ _
 refine Rc (SI o1 rfl ?_)
 refine Rc (Vj o1 rfl ?_ (by show 2<=sizeLine;decide) (by simp;decide))
 refine Rc (Wi (Rh ?_))
 have ne1:∀ c,c≠TO->(h1.update TO (Obj.mapSeq λvs=>vs.setIfInBounds 0 x)).get? c=h1.get? c:=λc hc=>RQ _ _ _ _ hc
 generalize (h1.update TO (Obj.mapSeq λvs=>vs.setIfInBounds 0 x))=h2 at ne1 ⊢
 show wpAny _ _ (forIn [((Value.ref i2,1):Value×Nat)] _ _) _ _ _
 rw[SR]
 refine Rc ?_
 refine Rc (TF ?_)
 refine Rc ?_
 refine D2.done { s with heap:=h2,toks:=tk1 } _ _ (D2.frame _ _ _ s2 λc hc o ho=>(ne1 c (λe=>Z.o2 (e ▸ hc))).trans ((sb1.2 c (λe=>Z.i12 (e ▸ hc))).trans ((ne0 c (λe=>Z.z2 (e ▸ hc))).trans ho))) λh3 e xb ⟨o,ho,hc⟩=>?_
 have z1:=xb z _ zi2 ((ne1 z Z.TOz.symm).trans ((sb1.2 z zi1).trans ez))
 refine Sa z1 rfl (by simp) (hE _ e tk1 (λc o c1 c2 c3 c4 ho=>(RQ _ _ _ _ c1).trans (xb c o c4 ((ne1 c c2).trans ((sb1.2 c c3).trans ((ne0 c c1).trans ho))))) ?_)
 refine⟨o,(RQ _ _ _ _ λh=>?_).trans ho,hc⟩
 rw[h,z1] at ho;cases ho;exact absurd (show Value.type "zip" = Value.type "StopIteration" from hc) (by decide)
theorem vH{TI TO:Addr}{Q:Option Value->Shared->Prop}
  (Z:uW z TI TO i1 i2 fp1 fp2) (D1:Draws prog w A.in1 i1 fp1 n1 P1 St1) (D2:Draws prog w A.in1 i2 fp2 n2 P2 St2) (hz:IsZip s.heap z TI TO .none) (hTI:IsPair s.heap TI (.ref i1) (.ref i2)) (hTO:IsPair s.heap TO a b)
  (s1:St1 k1 s.heap) (s2:St2 k2 s.heap) (l1:k1<n1) (l2:k2<n2)
  (hQ:∀ x y h' tk,P1 k1 x->P2 k2 y->IsZip h' z TI TO (rawInt s.heap.objs.size)->IsPair h' TO x y->St1 (k1+1) h'->St2 (k2+1) h'->IsPair h' s.heap.objs.size x y->h'.objs.size=s.heap.objs.size+1 ->
   (∀ c o,c≠z->c≠TO->c≠i1->c≠i2->s.heap.get? c=U o->h'.get? c=U o)->Q (U (.ref s.heap.objs.size)) { s with heap:=h',toks:=tk }) :
  wpAny (model prog w) A (pyNext (.ref z)) Q E s:=by
 unfold pyNext
 refine Rc (Uf ?_)
 refine Sh (name:=Str.ofString "__next__") (T:="zip") ?_ Ts (SE Ts ?_ Vg (Bg Z D1 D2 hz hTI hTO s1 s2 l1 l2 λx y h' tk a1 a2 a3 a4 a5 a6 a7 a8 a9=>Rh (hQ x y h' tk a1 a2 a3 a4 a5 a6 a7 a8 a9)) (UU _))<;>exact⟨_,hz,rfl⟩
end
end HT
namespace HT
section
variable{prog:Program}{w:World}{A:Around}{E:Value->Shared->Prop}{s:Shared}
theorem tj{TI TO:Addr}{Q:Option Value->Shared->Prop}
  (Z:uW z TI TO i1 i2 fp1 fp2) (D1:Draws prog w A.in1 i1 fp1 n1 P1 St1) (hz:IsZip s.heap z TI TO .none) (hTI:IsPair s.heap TI (.ref i1) (.ref i2)) (hTO:IsPair s.heap TO a b)
  (s1:St1 n1 s.heap) (hQ:∀ h' tk,(∀ c o,c≠z->c≠TO->c≠i1->c≠i2->s.heap.get? c=U o->h'.get? c=U o)->Q Y { s with heap:=h',toks:=tk }) :
  wpAny (model prog w) A (pyNext (.ref z)) Q E s:=by
 unfold pyNext
 refine Rc (Uf ?_)
 refine Sh (name:=Str.ofString "__next__") (T:="zip") ⟨_,hz,rfl⟩ Ts (SE Ts ⟨_,hz,rfl⟩ Vg (Bi Z D1 hz hTI hTO s1 λh' e tk kk hc=>?_) (UU _))
 show wpAny _ _ (isInstance (.ref e) (.type "StopIteration") >>= _) _ _ _
 exact Rc (wpAny_isInstance (T:="StopIteration") (b:=true) hc (by first | exact sub_StopIteration | rfl) (Rh (hQ h' tk kk)))
theorem tf{TI TO:Addr}{Q:Option Value->Shared->Prop}
  (Z:uW z TI TO i1 i2 fp1 fp2) (D1:Draws prog w A.in1 i1 fp1 n1 P1 St1) (D2:Draws prog w A.in1 i2 fp2 n2 P2 St2) (hz:IsZip s.heap z TI TO .none) (hTI:IsPair s.heap TI (.ref i1) (.ref i2)) (hTO:IsPair s.heap TO a b)
  (s1:St1 k1 s.heap) (l1:k1<n1) (s2:St2 n2 s.heap) (hQ:∀ h' tk,(∀ c o,c≠z->c≠TO->c≠i1->c≠i2->s.heap.get? c=U o->h'.get? c=U o)->Q Y { s with heap:=h',toks:=tk }) :
  wpAny (model prog w) A (pyNext (.ref z)) Q E s:=by
 unfold pyNext
 refine Rc (Uf ?_)
 refine Sh (name:=Str.ofString "__next__") (T:="zip") ⟨_,hz,rfl⟩ Ts (SE Ts ⟨_,hz,rfl⟩ Vg (Bh Z D1 D2 hz hTI hTO s1 l1 s2 λh' e tk kk hc=>?_) (UU _))
 show wpAny _ _ (isInstance (.ref e) (.type "StopIteration") >>= _) _ _ _
 exact Rc (wpAny_isInstance (T:="StopIteration") (b:=true) hc (by first | exact sub_StopIteration | rfl) (Rh (hQ h' tk kk)))
end
theorem Dn(l1 l2:Addr)(xs ys:Array Value) :
  Meets (Builtin.«zip.__new__» ⟨[.type "zip",.ref l1,.ref l2],[]⟩) (λ_ R s=>s.heap.IsTuple l1 xs/\s.heap.IsTuple l2 ys /\
   ∀ h',IsZip h' (s.heap.objs.size+4) (s.heap.objs.size+2) (s.heap.objs.size+3) .none->IsPair h' (s.heap.objs.size+2) (.ref s.heap.objs.size) (.ref (s.heap.objs.size+1))->IsPair h' (s.heap.objs.size+3) .none .none ->
    h'.IsTupleIter s.heap.objs.size l1 0->h'.IsTupleIter (s.heap.objs.size+1) l2 0->h'.objs.size=s.heap.objs.size+5->(∀ c o,s.heap.get? c=U o->h'.get? c=U o)->R (.ok (.ret (.ref (s.heap.objs.size+4)))) { s with heap:=h' }):=
 .of_wp λprog w A R s h=>by
  obtain⟨hl,hl2,h⟩:=h
  unfold Builtin.«zip.__new__»
  refine Rc ?_
  show wpAny _ _ (isType (.type "zip") >>= _) _ _ _
  refine Rc (Wh (a:=true) (by first | rfl | simp[isType]) ?_)
  show wpAny _ _ (isSubtype (.type "zip") (.type "zip") >>= _) _ _ _
  refine Rc (Wh sub_zip (Rh ?_))
  show wpAny _ _ (Builtin.SmallTypes.iterAll [.ref l1,.ref l2] >>= _) _ _ _
  refine Rc ?_
  unfold Builtin.SmallTypes.iterAll
  refine Rc ?_
  rw[SR]
  refine Rc (Rc (RX (Th hl (Rh ?_))))
  have g1:=Rs s.heap (o:={ cls:=.type "tuple_iterator",data:=.fields #[.ref l1,.int 0 0] }) rfl
  have k1:∀ c o,s.heap.get? c=U o->(s.heap.push { cls:=.type "tuple_iterator",data:=.fields #[.ref l1,.int 0 0] }).get? c=U o:=λc o=>Re _
  have z1:(s.heap.push { cls:=.type "tuple_iterator",data:=.fields #[.ref l1,.int 0 0] }).objs.size=s.heap.objs.size+1:=Sw ..
  generalize s.heap.push { cls:=.type "tuple_iterator",data:=.fields #[.ref l1,.int 0 0] } = h1 at g1 k1 z1 ⊢
  have hl2':h1.IsTuple l2 ys:=by obtain⟨o,ho,r⟩:=hl2;exact⟨o,k1 _ _ ho,r⟩
  show wpAny _ _ (forIn [Value.ref l2] _ _) _ _ _
  rw[SR]
  refine Rc (Rc (RX (Th hl2' (Rh ?_))))
  dsimp only
  have g2:=Rs h1 (o:={ cls:=.type "tuple_iterator",data:=.fields #[.ref l2,.int 0 0] }) rfl
  have k2:∀ c o,h1.get? c=U o->(h1.push { cls:=.type "tuple_iterator",data:=.fields #[.ref l2,.int 0 0] }).get? c=U o:=λc o=>Re _
  have z2:(h1.push { cls:=.type "tuple_iterator",data:=.fields #[.ref l2,.int 0 0] }).objs.size=s.heap.objs.size+2:=by rw[Sw,z1]
  generalize h1.push { cls:=.type "tuple_iterator",data:=.fields #[.ref l2,.int 0 0] } = h2 at g2 k2 z2 ⊢
  rw[z1] at g2 ⊢
  show wpAny _ _ (pure _) _ _ _
  refine Rh (Rh ?_)
  show wpAny _ _ (newTuple [.ref s.heap.objs.size,.ref (s.heap.objs.size+1)] >>= _) _ _ _
  refine Rc ?_
  simp only[newTuple]
  refine RM ?_ (by size_fits)
  have g3:=Rs h2 (o:={ cls:=.type "tuple",data:=.seq #[.ref s.heap.objs.size,.ref (s.heap.objs.size+1)] }) rfl
  have k3:∀ c o,h2.get? c=U o->(h2.push { cls:=.type "tuple",data:=.seq #[.ref s.heap.objs.size,.ref (s.heap.objs.size+1)] }).get? c=U o:=λc o=>Re _
  have z3:(h2.push { cls:=.type "tuple",data:=.seq #[.ref s.heap.objs.size,.ref (s.heap.objs.size+1)] }).objs.size=s.heap.objs.size+3:=by rw[Sw,z2]
  dsimp only
  show wpAny _ _ _ _ _ { s with heap:=h2.push { cls:=.type "tuple",data:=.seq #[.ref s.heap.objs.size,.ref (s.heap.objs.size+1)] } }
  generalize h2.push { cls:=.type "tuple",data:=.seq #[.ref s.heap.objs.size,.ref (s.heap.objs.size+1)] } = h3 at g3 k3 z3 ⊢
  rw[z2] at g3 ⊢
  refine Rc ?_
  show wpAny _ _ (newObj (.type "tuple") (.seq #[.none,.none])) _ _ _
  refine RM ?_ (by size_fits)
  have g4:=Rs h3 (o:={ cls:=.type "tuple",data:=.seq #[.none,.none] }) rfl
  have k4:∀ c o,h3.get? c=U o->(h3.push { cls:=.type "tuple",data:=.seq #[.none,.none] }).get? c=U o:=λc o=>Re _
  have z4:(h3.push { cls:=.type "tuple",data:=.seq #[.none,.none] }).objs.size=s.heap.objs.size+4:=by rw[Sw,z3]
  dsimp only
  generalize h3.push { cls:=.type "tuple",data:=.seq #[.none,.none] } = h4 at g4 k4 z4 ⊢
  rw[z3] at g4 ⊢
  refine Rc ?_
  show wpAny _ _ (newObj (.type "zip") (.fields #[.none,.bool false,.bool false,.ref (s.heap.objs.size+2),.ref (s.heap.objs.size+3)])) _ _ _
  refine RM ?_ (by size_fits)
  have g5:=Rs h4 (o:={ cls:=.type "zip",data:=.fields #[.none,.bool false,.bool false,.ref (s.heap.objs.size+2),.ref (s.heap.objs.size+3)] }) rfl
  have k5:∀ c o,h4.get? c=U o->(h4.push { cls:=.type "zip",data:=.fields #[.none,.bool false,.bool false,.ref (s.heap.objs.size+2),.ref (s.heap.objs.size+3)] }).get? c=U o:=λc o=>Re _
  have z5:(h4.push { cls:=.type "zip",data:=.fields #[.none,.bool false,.bool false,.ref (s.heap.objs.size+2),.ref (s.heap.objs.size+3)] }).objs.size=s.heap.objs.size+5:=by rw[Sw,z4]
  dsimp only
  generalize h4.push { cls:=.type "zip",data:=.fields #[.none,.bool false,.bool false,.ref (s.heap.objs.size+2),.ref (s.heap.objs.size+3)] } = h5 at g5 k5 z5 ⊢
  rw[z4] at g5 ⊢
  refine Rh ⟨_,rfl,h h5 g5 (k5 _ _ (k4 _ _ g3)) (k5 _ _ g4) ⟨_,k5 _ _ (k4 _ _ (k3 _ _ (k2 _ _ g1))),rfl,rfl⟩ ⟨_,k5 _ _ (k4 _ _ (k3 _ _ g2)),rfl,rfl⟩ z5 λc o e=>k5 _ _ (k4 _ _ (k3 _ _ (k2 _ _ (k1 _ _ e))))⟩
section
variable{prog:Program}{w:World}{A:Around}{E:Value->Shared->Prop}{s:Shared}
theorem CQ{Q:Value->Shared->Prop}(hL:s.heap.IsTuple l1 xs)(hL2:s.heap.IsTuple l2 ys)
  (h:∀ h':Heap,IsZip h' (s.heap.objs.size+4) (s.heap.objs.size+2) (s.heap.objs.size+3) .none->IsPair h' (s.heap.objs.size+2) (.ref s.heap.objs.size) (.ref (s.heap.objs.size+1))->IsPair h' (s.heap.objs.size+3) .none .none ->
    h'.IsTupleIter s.heap.objs.size l1 0->h'.IsTupleIter (s.heap.objs.size+1) l2 0->h'.objs.size=s.heap.objs.size+5->(∀ c o,s.heap.get? c=U o->h'.get? c=U o)->Q (.ref (s.heap.objs.size+4)) { s with heap:=h' }) :
  wpAny (model prog w) A (call (.type "zip") [.ref l1,.ref l2]) Q E s:=by
 refine callType_new F.called_zip (by decide) (F.typeCall_zip_2 _ _) (F.newCall_zip_2 _ _) (λobj=>F.args_object_init_3 obj _ _) F.entry_zip_new (Dn l1 l2 xs ys) ⟨hL,hL2,λh' a b c d e f g=>?_⟩
 exact⟨⟨_,a,rfl⟩,h h' a b c d e f g⟩
end
end HT
namespace L2
section
noncomputable def Itz(K:W.Frag)(a b:Addr):It:=
 ⟨λi H=>∃ xs ys x y,iP K H a xs/\iP K H b ys/\xs[i]?=U x/\ys[i]?=U y,
 λi H x H'=>∃ p v u,x=.ref p/\H p=Y/\H'=upd H p (.tup [v,u])/\(∀ xs,iP K H a xs->xs[i]?=U v)/\∀ ys,iP K H b ys->ys[i]?=U u,
 λi H=>∃ xs ys,iP K H a xs/\iP K H b ys/\(xs.length<=i\/ys.length<=i)⟩
noncomputable def TnZ(z TI TO i1 i2 a b:Addr)(i:Nat)(h:Heap):Prop:=IsZip h z TI TO .none/\IsPair h TI (.ref i1) (.ref i2)/\(∃ u v,IsPair h TO u v)/\h.IsTupleIter i1 a i/\h.IsTupleIter i2 b i
theorem xz{A:Around}(hh:A.handled=Y)(it a:Addr)(items:Array Value)(i:Nat)(hx:items[i]?=Y) :
  Draws prog w A it [it,a] i (λ_ _=>True) (λj h=>j=i/\h.IsTupleIter it a i/\h.IsTuple a items):=
 {live:=λ_ _ q=>by obtain⟨_,⟨o,ho,_⟩,_⟩:=q;exact⟨o,ho⟩
  frame:=λ_ _ _ q hk=>by
   obtain⟨q0,⟨o,ho,r⟩,⟨o2,ho2,r2⟩⟩:=q
   exact⟨q0,⟨o,hk it (by simp) o ho,r⟩,⟨o2,hk a (by simp) o2 ho2,r2⟩⟩
  item:=λj _ _ _ hj q _=>absurd q.1 (RL hj)
  done:=λs Q E q hE=>HT.mE hh q.2.1 q.2.2 hx hE }
theorem Dr{K:W.Frag}{k:Nat}(a b z TI TO i1 i2:Addr)(Z:HT.uW z TI TO i1 i2 [i1,a] [i2,b]):uX P w K (.Tuple es k pos) (Itz K a b) [z,TI,TO,i1,i2] z (TnZ z TI TO i1 i2 a b) where
 mem:=by simp
 obj:=λi h st c hc=>by
  obtain⟨hz,hTI,⟨u,v,hTO⟩,⟨o,ho,hc1,hd⟩,⟨o2,ho2,hc2,hd2⟩⟩:=st
  simp only[Rv,RT,SZ] at hc
  rcases hc with rfl | rfl | rfl | rfl | rfl
  ·exact⟨_,hz,λv z=>by cases z⟩
  ·exact⟨_,hTI,λv z=>by cases z⟩
  ·exact⟨_,hTO,λv z=>by cases z⟩
  ·exact⟨o,ho,λv z=>by rw[hd] at z;cases z⟩
  ·exact⟨o2,ho2,λv z=>by rw[hd2] at z;cases z⟩
 keep:=λi h h' st kk=>by
  obtain⟨hz,hTI,⟨u,v,hTO⟩,⟨o,ho,r⟩,⟨o2,ho2,r2⟩⟩:=st
  exact⟨kk z (by simp) _ hz,kk TI (by simp) _ hTI,⟨u,v,kk TO (by simp) _ hTO⟩,⟨o,kk i1 (by simp) _ ho,r⟩,⟨o2,kk i2 (by simp) _ ho2,r2⟩⟩
 item:=by
  intro X hP hw hK hc i pins s σ H E I hf st hg
  subst hP hw hK
  obtain⟨xs,ys,x,y,hq,hq2,hx,hy⟩:=hg
  obtain⟨its,rv,p,hz0⟩:=I.tuple hq
  obtain⟨its2,rv2,p2,hz2⟩:=I.tuple hq2
  have hT:s.heap.IsTuple a its.toArray:=p
  have hT2:s.heap.IsTuple b its2.toArray:=p2
  have hh:=I.ok.hd hc
  obtain⟨hz,hTI,⟨u0,v0,hTO⟩,hit1,hit2⟩:=st
  have li:i<its.toArray.size:=by rw[Rk,<- rv.length];exact(Ri.mp hx).1
  have li2:i<its2.toArray.size:=by rw[Rk,<- rv2.length];exact(Ri.mp hy).1
  have nea:a≠i1:=λe=>by
   obtain⟨o',ho',hc',_⟩:=hit1
   obtain⟨o,ho,hcl,_⟩:=hT
   rw[e,ho'] at ho;cases ho;rw[hc'] at hcl;exact absurd hcl (by decide)
  have neb:b≠i2:=λe=>by
   obtain⟨o',ho',hc',_⟩:=hit2
   obtain⟨o,ho,hcl,_⟩:=hT2
   rw[e,ho'] at ho;cases ho;rw[hc'] at hcl;exact absurd hcl (by decide)
  have Tn:∀ c,c∈[z,TI,TO,i1,i2]->s.heap.objs.size≠c:=λc hc=>by
   simp only[Rv,RT,SZ] at hc
   rcases hc with rfl | rfl | rfl | rfl | rfl
   ·exact Sf (Ro hz)
   ·exact Sf (Ro hTI)
   ·exact Sf (Ro hTO)
   ·obtain⟨o,ho,_⟩:=hit1;exact Sf (Ro ho)
   ·obtain⟨o,ho,_⟩:=hit2;exact Sf (Ro ho)
  refine HT.vH Z (HT.pW (prog:=X.prog) (w:=X.w) (A:=X.A.in1) hh i1 a nea its.toArray) (HT.pW (prog:=X.prog) (w:=X.w) (A:=X.A.in1) hh i2 b neb its2.toArray) hz hTI hTO ⟨hit1,hT⟩ ⟨hit2,hT2⟩ li li2 λx' y' h1 tk hx' hy' ez eo st1 st2 hT1 hsz kk=>⟨_,rfl,?_⟩
  refine wpAny_letOwnedTupleGo_zip ez λh2 ez2 sb=>?_
  generalize hTT:s.heap.objs.size=T at *
  obtain⟨u,hu,ru⟩:=rv.get hx
  obtain⟨u2,hu2,ru2⟩:=rv2.get hy
  have ex:x'=u:=by
   rw[show its.toArray[i]?=its[i]? by simp,hu] at hx'
   exact(RJ hx').symm
  have ey:y'=u2:=by
   rw[show its2.toArray[i]?=its2[i]? by simp,hu2] at hy'
   exact(RJ hy').symm
  subst ex ey
  have kall:∀ c o,c∉[z,TI,TO,i1,i2]->s.heap.get? c=U o->h2.get? c=U o:=λc o hb q=>by
   simp only[Rv,RT,SZ,not_or] at hb
   exact(sb.2 c hb.1).trans (kk c o hb.1 hb.2.2.1 hb.2.2.2.1 hb.2.2.2.2 q)
  have hTp:IsTupN h2 T #[x',y']:=⟨_,(sb.2 T (Tn z (by simp))).trans hT1,rfl,⟨_,rfl⟩,rfl⟩
  have hTs:s.heap.objs.size<=T:=Uq hTT
  have TIi:TI≠i1/\TI≠i2:=⟨Z.t1,Z.t2⟩
  refine⟨.ref T,upd H T (.tup [x,y]),I.turnLaid kall hf hTs ⟨by show 2<=sizeLine;decide,[x',y'],.cons ru (.cons ru2 .nil),hTp⟩,rfl,⟨T,x,y,rfl,I.hok.fresh hTs,rfl,λzs hz=>by rw[I.tuple_inj hz hq];exact hx,λzs hz=>by rw[I.tuple_inj hz hq2];exact hy⟩,⟨ez2,(sb.2 TI Z.TIz).trans (kk TI _ Z.TIz Z.TITO Z.t1 Z.t2 hTI),⟨x',y',(sb.2 TO Z.TOz).trans eo⟩,?_,?_⟩,λc hc=>?_⟩
  ·obtain⟨⟨o,ho,r⟩,_⟩:=st1
   exact⟨o,(sb.2 i1 (λe=>Z.z1 (by simp[e]))).trans ho,r⟩
  ·obtain⟨⟨o,ho,r⟩,_⟩:=st2
   exact⟨o,(sb.2 i2 (λe=>Z.z2 (by simp[e]))).trans ho,r⟩
  ·rw[aj (Tn c hc).symm]
   exact(hf c hc).1
 done:=by
  intro X hP hw hK hc i pins s σ H E I hf st hg
  subst hP hw hK
  obtain⟨xs,ys,hq,hq2,hl⟩:=hg
  obtain⟨its,rv,p,hz0⟩:=I.tuple hq
  obtain⟨its2,rv2,p2,hz2⟩:=I.tuple hq2
  have hT:s.heap.IsTuple a its.toArray:=p
  have hT2:s.heap.IsTuple b its2.toArray:=p2
  have hh:=I.ok.hd hc
  obtain⟨hz,hTI,⟨u0,v0,hTO⟩,hit1,hit2⟩:=st
  have fin:∀ h' tk,(∀ c o,c≠z->c≠TO->c≠i1->c≠i2->s.heap.get? c=U o->h'.get? c=U o)->(Y:Option Value)=Y/\Inv X pins σ H { s with heap:=h',toks:=tk }:=λh' tk kk=>⟨rfl,I.turnedL (fp:=[z,TI,TO,i1,i2]) (λc o hb q=>by
   simp only[Rv,RT,SZ,not_or] at hb
   exact kk c o hb.1 hb.2.2.1 hb.2.2.2.1 hb.2.2.2.2 q) hf⟩
  by_cases h1:xs.length<=i
  ·exact HT.tj Z (xz (prog:=X.prog) (w:=X.w) (A:=X.A.in1) hh i1 a its.toArray i (by simp;have:=rv.length;omega)) hz hTI hTO ⟨rfl,hit1,hT⟩ fin
  ·have h2:ys.length<=i:=hl.resolve_left h1
   have nea:a≠i1:=λe=>by
    obtain⟨o',ho',hc',_⟩:=hit1
    obtain⟨o,ho,hcl,_⟩:=hT
    rw[e,ho'] at ho;cases ho;rw[hc'] at hcl;exact absurd hcl (by decide)
   exact HT.tf Z (HT.pW (prog:=X.prog) (w:=X.w) (A:=X.A.in1) hh i1 a nea its.toArray) (xz (prog:=X.prog) (w:=X.w) (A:=X.A.in1) hh i2 b its2.toArray i (by simp;have:=rv2.length;omega)) hz hTI hTO ⟨hit1,hT⟩ (by simp;have:=rv.length;omega) ⟨rfl,hit2,hT2⟩ fin
 self:=λA i s Q E st h=>wpAny_pyIter_zip st.1 h
noncomputable def iZip(K:W.Frag)(t:TA):TI:=λσ H R=>t σ H λxs H1=>∃ a b,xs=[.ref a,.ref b]/\(∃ ys,iP K H1 a ys)/\(∃ ys,iP K H1 b ys)/\R (Itz K a b) H1
variable{X:Cx}
theorem Dm{n t t2:Nat}(h1:t<n)(h2:t2<n):HT.uW (n+4) (n+2) (n+3) n (n+1) [n,t] [n+1,t2]:=by
 constructor<;>simp only[Rv,RT,SZ,not_or,ne_eq,true_or]<;>(try (show ¬ ((_:Nat)=_)))<;>(try omega)
 all_goals (refine⟨?_,?_⟩<;>(show ¬ ((_:Nat)=_))<;>omega)
theorem Im{n b:Nat}(h:b∈[n+4,n+2,n+3,n,n+1]):n<=b:=by
 simp only[Rv,RT,SZ] at h
 omega
theorem NO{a b:Expr}{k:Nat}{p:Pos}(hg:Gl X "zip")(hm:X.mg "zip" = Y)(ha:PA X [a,b] ta)(hs:starEach [a,b] X.env=[(false,eval a X.env),(false,eval b X.env)])(hs2:starEach [b] X.env=[(false,eval b X.env)]) :
  PI X (.Tuple es k tp) (.Call (.Name "zip" p) [a,b] [] pos) (iZip X.K ta):=by
 intro pins s σ H R I h
 refine Call_ (gQ I hg hm boot_zip (RZ (bN (ha pos pins s σ H _ I h) λus s1 ⟨vs,H1,I1,r1,q1⟩=>?_) (by rw[hs,hs2]) (by rw[hs2];rfl)))
 obtain⟨t,t2,rfl,⟨ys,hq⟩,⟨ys2,hq2⟩,q⟩:=q1
 obtain⟨u,v,rfl,ru,rv⟩:=r1.two
 cases ru
 cases rv
 obtain⟨its,rv,pt,hz⟩:=I1.tuple hq
 obtain⟨its2,rv2,pt2,hz2⟩:=I1.tuple hq2
 have l1:t<s1.heap.objs.size:=by obtain⟨o,ho,_⟩:=pt;exact Ro ho
 have l2:t2<s1.heap.objs.size:=by obtain⟨o,ho,_⟩:=pt2;exact Ro ho
 refine HT.CQ pt pt2 λh' hz hTI hTO hi1 hi2 hsz kk=>wpAny_pyIter_zip hz ?_
 have Z:HT.uW (s1.heap.objs.size+4) (s1.heap.objs.size+2) (s1.heap.objs.size+3) s1.heap.objs.size (s1.heap.objs.size+1) [s1.heap.objs.size,t] [s1.heap.objs.size+1,t2]:=Dm l1 l2
 refine⟨s1.heap.objs.size+4,[s1.heap.objs.size+4,s1.heap.objs.size+2,s1.heap.objs.size+3,s1.heap.objs.size,s1.heap.objs.size+1],_,_,H1,rfl,I1.kept (t':=s1.toks) kk,Dr t t2 _ _ _ _ _ Z,⟨hz,hTI,⟨_,_,hTO⟩,hi1,hi2⟩,λb hb=>?_,q⟩
 have hb':s1.heap.objs.size<=b:=Im hb
 exact I1.fpOk hb' (I1.hok.fresh hb')
end
end L2
namespace M
open L2
section
variable{X:Cx}{K:W.Frag}{μ μ':Fp}{H H':Hp}{S:aa}
noncomputable def gL:List D->List D->List D
 | x::r,y::q=>.tup [x,y]::gL r q
 | _,_=>[]
theorem vf:∀ (xs ys:List D) (i:Nat),(gL xs ys).length<=i->xs.length<=i\/ys.length<=i
 | [],_,i,_=>.inl (SJ _)
 | _::_,[],i,_=>.inr (SJ _)
 | x::r,y::q,0,h=>by simp[gL] at h
 | x::r,y::q,i+1,h=>by
  rw[gL,Rr] at h
  rcases vf r q i (by omega) with h | h
  ·exact .inl (by rw[Rr];omega)
  ·exact .inr (by rw[Rr];omega)
theorem vg:∀ (xs ys:List D) (i:Nat) (d:D),(gL xs ys)[i]?=U d->∃ x y,xs[i]?=U x/\ys[i]?=U y/\d=.tup [x,y]
 | [],_,i,d,h=>by simp[gL] at h
 | _::_,[],i,d,h=>by simp[gL] at h
 | x::r,y::q,0,d,h=>by simp[gL] at h;exact⟨x,y,rfl,rfl,h.symm⟩
 | x::r,y::q,i+1,d,h=>by
  rw[gL,VM] at h
  simpa using vg r q i d h
theorem FV(r:Rep K μ H (.ref a) (.tup xs))(q:Rep K μ H (.ref b) (.tup ys)):xS K μ H (Itz K a b) (gL xs ys):=λμ' H' S' e s i=>by
 have r':=r.monoP e
 have q':=q.monoP e
 obtain⟨b1,vs,hb,hq,rs⟩:=r'.sqT
 cases hb
 obtain⟨b2,ws,hb,hq2,qs⟩:=q'.sqT
 cases hb
 refine⟨λd hd=>?_,λhl=>⟨vs,ws,hq,hq2,by rw[rs.length,qs.length];exact vf _ _ _ hl⟩⟩
 obtain⟨x,y,hx,hy,rfl⟩:=vg xs ys i d hd
 obtain⟨v,hv,rv⟩:=rs.get hx
 obtain⟨u,hu,ru⟩:=qs.get hy
 refine⟨⟨vs,ws,v,u,hq,hq2,hv,hu⟩,λy H2 hy=>?_⟩
 obtain⟨p,v',u',rfl,hp,rfl,hw,hw2⟩:=hy
 have ev:v'=v:=by have:=hw vs hq;rw[hv] at this;exact(RJ this).symm
 have eu:u'=u:=by have:=hw2 ws hq2;rw[hu] at this;exact(RJ this).symm
 subst ev eu
 obtain⟨e2,s2⟩:=s.laid (o:=.tup [v',u']) hp
 refine⟨e2,s2,?_⟩
 exact .tup ah (s.notMem hp) (.cons (rv.mono e2) (.cons (ru.mono e2) .nil))
noncomputable def gO(ms:MA):MA:=λenv S=>(ms env S).bind λp=>match p.1 with | [.tup xs,.tup ys]=>U (gL xs ys,p.2) | _=>Y
theorem Ql{a b:Expr}{k:Nat}{p:Pos}(hm:X.mg "zip" = Y)(ha:DA X [a,b] ms)(hg:Gl X "zip")(hs:starEach [a,b] X.env=[(false,eval a X.env),(false,eval b X.env)])(hs2:starEach [b] X.env=[(false,eval b X.env)]) :
  DI X (.Tuple es k tp) (.Call (.Name "zip" p) [a,b] [] pos) (gO ms):=PI.imp (NO hg hm ha hs hs2) λσ H R ⟨μ,S,env,xs,S',hS,hE,h,post⟩=>by
 obtain⟨⟨ds,S1⟩,h1,h⟩:=Rb.mp h
 refine⟨μ,S,env,ds,S1,hS,hE,h1,λvs H1 μ1 e1 s1 r1=>?_⟩
 dsimp only at h
 split at h
 ·rename_i xs ys
  cases h
  obtain⟨v,u,rfl,rv,ru⟩:=r1.two
  have rv':=rv
  have ru':=ru
  obtain⟨b,ws,rfl,hq,rs⟩:=rv.sqT
  obtain⟨b2,ws2,rfl,hq2,rs2⟩:=ru.sqT
  exact⟨b,b2,rfl,⟨ws,hq⟩,⟨ws2,hq2⟩,post _ H1 μ1 e1 s1 (FV rv' ru')⟩
 ·cases h
end
section
variable{X:Cx}{K:W.Frag}{μ μ':Fp}{H H':Hp}{S S':aa}
noncomputable def dM:D->Option aJ
 | .int i=>U (.inl i)
 | .str x=>U (.inr x)
 | _=>Y
theorem eW{d:D}{k:aJ}(h:dM d=U k)(r:Rep K μ H v d):v=kV k:=by
 cases d<;>first | cases h | skip
 ·rw[r.int_inv];rfl
 ·rw[r.str_inv];rfl
noncomputable def cn(kvs:List (aJ×D))(k:aJ):Option D:=match kvs with
 | []=>Y
 | p::r=>if p.1=k then U p.2 else cn r k
noncomputable def Cb(kvs:List (aJ×D))(k:aJ):Bool:=match kvs with
 | []=>false
 | p::r=>if p.1=k then true else Cb r k
noncomputable def vC(kvs:List (aJ×D))(k:aJ)(d:D):List (aJ×D):=match kvs with
 | []=>[]
 | p::r=>(if p.1=k then(p.1,d) else p)::vC r k d
noncomputable def ie(kvs:List (aJ×D))(k:aJ)(d:D):List (aJ×D):=if Cb kvs k then vC kvs k d else kvs++[(k,d)]
noncomputable def bi(kvs:List (aJ×D)):List (aJ×D)->List (aJ×D)
 | []=>kvs
 | p::r=>bi (ie kvs p.1 p.2) r
inductive KR(K:W.Frag)(μ:Fp)(H:Hp):List (aJ×V)->List (aJ×D)->Prop
 | nil:KR K μ H [] []
 | cons {k:aJ} {v:V} {d:D} {vs:List (aJ×V)} {ds:List (aJ×D)} (h:Rep K μ H v d) (t:KR K μ H vs ds):KR K μ H ((k,v)::vs) ((k,d)::ds)
theorem KR.keys:∀ {vs ds},KR K μ H vs ds->vs.map (·.1)=ds.map (·.1)
 | _,_,.nil=>rfl
 | _,_,.cons _ t=>by rw[RB,RB,KR.keys t]
theorem KR.reps:∀ {vs ds},KR K μ H vs ds->Reps K μ H (vs.map (·.2)) (ds.map (·.2))
 | _,_,.nil=>.nil
 | _,_,.cons h t=>.cons h (KR.reps t)
theorem KR.length:∀ {vs ds},KR K μ H vs ds->vs.length=ds.length
 | _,_,.nil=>rfl
 | _,_,.cons _ t=>by rw[Rr,Rr,KR.length t]
theorem KR.mono(e:Ext μ H μ' H'):∀ {vs ds},KR K μ H vs ds->KR K μ' H' vs ds
 | _,_,.nil=>.nil
 | _,_,.cons h t=>.cons (h.mono e) (KR.mono e t)
theorem KR.less{p:Addr}{cs fb:List Addr}:∀ {vs ds},KR K ⟨cs,p::fb⟩ H vs ds->KR K ⟨cs,fb⟩ H vs ds
 | _,_,.nil=>.nil
 | _,_,.cons h t=>.cons h.less (KR.less t)
theorem KR.chg{p:Addr}(hp:p∈μ.fb):∀ {vs ds},KR K μ H vs ds->KR K μ (upd H p o) vs ds
 | _,_,.nil=>.nil
 | _,_,.cons h t=>.cons (h.chg hp) (KR.chg hp t)
theorem KR.of:∀ {kvs:List (aJ×V)} {ks:List aJ} {ds:List D},ks=kvs.map (·.1)->Reps K μ H (kvs.map (·.2)) ds->KR K μ H kvs (ks.zip ds)
 | [],_,_,e,r=>by subst e;cases r;exact .nil
 | p::q,_,_,e,r=>by
  subst e
  rw[RB] at r
  cases r with | cons h t=>exact .cons h (KR.of rfl t)
theorem KR.val{k:aJ}:∀ {vs ds},KR K μ H vs ds->∀ {d},cn ds k=U d->∃ v,jH vs k=U v/\Rep K μ H v d
 | _,_,.nil,d,h=>by cases h
 | _,_,.cons (k:=k') h t,d,q=>by
  unfold cn at q
  split at q
  ·rename_i e;cases q;exact⟨_,kH e,h⟩
  ·rename_i e
   obtain⟨v,h1,h2⟩:=KR.val t q
   exact⟨v,(iX e).trans h1,h2⟩
theorem KR.valN{k:aJ}:∀ {vs ds},KR K μ H vs ds->cn ds k=Y->jH vs k=Y
 | _,_,.nil,_=>rfl
 | _,_,.cons h t,q=>by
  unfold cn at q
  split at q
  ·cases q
  ·rename_i e;exact(iX e).trans (KR.valN t q)
theorem KR.has{k:aJ}:∀ {vs ds},KR K μ H vs ds->(vs.any λkv=>decide (kv.1=k))=Cb ds k
 | _,_,.nil=>rfl
 | _,_,.cons (k:=k') h t=>by
  rw[Tq,KR.has t]
  unfold Cb
  by_cases e:k'=k
  ·simp[e]
  ·simp only[Se e,Bool.false_or,RH e];cases t<;>rfl
theorem KR.setv{k:aJ}{d:D}(r:Rep K μ H x d):∀ {vs ds},KR K μ H vs ds->KR K μ H (vs.map λkv=>if kv.1=k then(kv.1,x) else kv) (vC ds k d)
 | _,_,.nil=>.nil
 | _,_,.cons (k:=k') h t=>by
  rw[RB]
  unfold vC
  by_cases e:k'=k
  ·simp only[Ru e];exact .cons r (KR.setv r t)
  ·simp only[RH e];exact .cons h (KR.setv r t)
theorem KR.snoc{k:aJ}{d:D}(r:Rep K μ H x d):∀ {vs ds},KR K μ H vs ds->KR K μ H (vs++[(k,x)]) (ds++[(k,d)])
 | _,_,.nil=>.cons r .nil
 | _,_,.cons h t=>.cons h (KR.snoc r t)
theorem KR.put{k:aJ}{d:D}{vs ds}(r:Rep K μ H x d)(t:KR K μ H vs ds):KR K μ H (gM vs k x) (ie ds k d):=by
 unfold gM ie
 rw[t.has]
 split
 ·exact t.setv r
 ·exact t.snoc r
theorem KR.merge:∀ {ws es vs ds},KR K μ H ws es->KR K μ H vs ds->KR K μ H (jd vs ws) (bi ds es)
 | _,_,_,_,.nil,t=>t
 | _,_,vs,ds,.cons (k:=k) (v:=v) (d:=d) h q,t=>by
  have:=KR.merge q (t.put (k:=k) h)
  exact this
noncomputable abbrev MP:=ai->aa->Option (List (aJ×D)×aa)
noncomputable def gP:List (ME×ME)->MP
 | []=>λ_ S=>U ([],S)
 | (a,b)::r=>λenv S=>(a env S).bind λp=>(dM p.1).bind λk=>(b env p.2).bind λq=>(gP r env q.2).bind λz=>U ((k,q.1)::z.1,z.2)
noncomputable def DPs(X:Cx)(pos:Pos)(keys:List (Option Expr))(values:List Expr)(ms:List (ME×ME)):Prop:=PPs X pos keys values (ms.map λp=>(tM X.K p.1,tM X.K p.2))
theorem KI:DPs X pos [] [] []:=Jc
theorem Hg{k:Expr}(hk:DE X k mk)(hv:DE X v mv)(hr:DPs X pos ks vs ms):DPs X pos (U k::ks) (v::vs) ((mk,mv)::ms):=Ek hk hv hr
theorem lL:∀ {ms:List (ME×ME)} {μ:Fp} {H:Hp} {S S':aa} {kvs:List (aJ×D)} {Q:List (V×V)->Hp->Prop},SOk K μ S H->EOk K μ H σ env->gP ms env S=U (kvs,S') ->
  (∀ vs H' μ',Ext μ H μ' H'->SOk K μ' S' H'->KR K μ' H' vs kvs->Q (vs.map λkv=>(kV kv.1,kv.2)) H')->sJ (ms.map λp=>(tM K p.1,tM K p.2)) σ H Q
 | [],μ,H,S,S',kvs,Q,s,e,h,q=>by cases h;exact q [] H μ s.ext s .nil
 | (a,b)::r,μ,H,S,S',kvs,Q,s,e,h,q=>by
  obtain⟨⟨x,S1⟩,h1,h⟩:=Rb.mp h
  obtain⟨k,h2,h⟩:=Rb.mp h
  obtain⟨⟨y,S2⟩,h3,h⟩:=Rb.mp h
  obtain⟨⟨zs,S3⟩,h4,h⟩:=Rb.mp h
  cases h
  refine⟨μ,S,env,x,S1,s,e,h1,λv H1 μ1 e1 s1 r1=>⟨μ1,S1,env,y,S2,s1,e.mono e1,h3,λw H2 μ2 e2 s2 r2=>lL s2 ((e.mono e1).mono e2) h4 λvs H3 μ3 e3 s3 r3=>?_⟩⟩
  have:=q ((k,w)::vs) H3 μ3 ((e1.trans e2).trans e3) s3 (.cons (r2.mono e3) r3)
  rw[RB] at this
  rw[eW h2 r1]
  exact this
theorem Ext.shut{cs fb:List Addr}(hp:H p=Y)(hn:p∉fb)(e:Ext ⟨cs,p::fb⟩ (upd H p o) μ2 H2)(s:SOk K μ2 S2 H2) :
  Ext ⟨cs,fb⟩ H ⟨μ2.cs,fb⟩ (upd H2 p o')/\SOk K ⟨μ2.cs,fb⟩ S2 (upd H2 p o')/\(⟨μ2.cs,fb⟩:Fp).no p/\(∀ vs ds,KR K μ2 H2 vs ds->KR K ⟨μ2.cs,fb⟩ (upd H2 p o') vs ds)/\H2 p=U o:=by
 have pm:p∈μ2.fb:=by rw[e.fb];exact Rf
 have ncs:p∉μ2.cs:=s.disj p pm
 have ncs0:p∉cs:=λz=>ncs (by obtain⟨l,q,_⟩:=e.pre;rw[q];exact Sj _ z)
 have ef:μ2=⟨μ2.cs,p::fb⟩:=by have:=e.fb;obtain⟨a,b⟩:=μ2;simp only at this;rw[this]
 refine⟨⟨rfl,?_,λa o2 na ha=>?_,λa ha=>?_⟩,?_,⟨ncs,?_⟩,λvs ds r=>?_,e.keep p o ncs0 ah⟩
 ·obtain⟨l,q,hl⟩:=e.pre
  refine⟨l,q,λa ha=>?_⟩
  have:=hl a ha
  by_cases z:a=p
  ·subst z;exact hp
  ·rwa[aj z] at this
 ·have z:=aQ ha hp
  rw[aj z]
  exact e.keep a o2 na ((aj z).trans ha)
 ·have z:a≠p:=λz=>ncs (z ▸ ha)
  rw[aj z];exact e.dom a ha
 ·have:=(s.chg (o:=o') pm)
  rw[ef] at this
  exact this.less
 ·exact hn
 ·have:=r.chg (o:=o') pm
  rw[ef] at this
  exact this.less
noncomputable def dL(ms:List (ME×ME)):ME:=λenv S=>(gP ms env S).bind λz=>if z.1.length<=15 then U (.dct ((bi [] z.1).map (·.1)) ((bi [] z.1).map (·.2)),z.2) else Y
theorem Le{keys:List (Option Expr)}(h:DPs X pos keys values ms)(hall:keys.all (·.isSome)=true)(hl:keys.length=values.length)(h0:keys≠[])(h15:keys.length<=15) :
  DE X (.Dict keys values pos) (dL ms):=PE.imp (zQ h hall hl h0 h15) λσ H Q ⟨μ,S,env,d,S',hS,hE,hm,post⟩=>by
 obtain⟨⟨kvs,S1⟩,h1,hm⟩:=Rb.mp hm
 dsimp only at hm
 split at hm
 ·rename_i hl
  cases hm
  intro p hp
  obtain⟨cs,fb⟩:=μ
  refine lL (hS.more hp) (hE.more hp) h1 λvs H2 μ2 e2 s2 r2=>?_
  obtain⟨eF,sF,nF,rF,hF⟩:=Ext.shut (o':=.dK (jd [] vs)) hp (hS.notMem hp).2 e2 s2
  refine⟨hF,vs,rfl,by rw[r2.length];exact hl,post _ _ _ eF sF ?_⟩
  have rr:=(rF _ _ r2).merge KR.nil
  have:=Rep.dct (K:=X.K) (ah (H:=H2) (o:=.dK (jd [] vs))) nF rr.reps
  rw[rr.keys] at this
  exact this
 ·cases hm
noncomputable def oA(S:aa):D->Option (List (aJ×D))
 | .dct ks vs=>U (ks.zip vs)
 | .ref r=>match S[r]? with | some (.dct ks vs)=>U (ks.zip vs) | _=>Y
 | _=>Y
theorem sI{d:D}{kvs:List (aJ×D)}(s:SOk K μ S H)(r:Rep K μ H v d)(h:oA S d=U kvs):∃ a vs,v=.ref a/\H a=U (.dK vs)/\KR K μ H vs kvs:=by
 cases r with
 | dct hd n rr=>cases h;exact⟨_,_,rfl,hd,KR.of rfl rr⟩
 | ref hr=>
  rename_i a i
  unfold oA at h
  dsimp only at h
  cases q:S[i]? with
  | none=>rw[q] at h;cases h
  | some c=>
   rw[q] at h
   have ck:=s.cell _ _ _ hr q
   cases c with
   | lst _=>cases h
   | dct ks xs=>cases h;obtain⟨vs,e,hk,rr⟩:=ck;exact⟨a,vs,rfl,e,KR.of hk rr⟩
 | _=>cases h
noncomputable def aX(S:aa)(x y:D):Option D:=match oA S x with
 | some kvs=>(dM y).bind λk=>cn kvs k
 | none=>fIx S x y
theorem JY(hu:X.A.units+1<cLine):IxR X (λx y H Q=>∃ a v,x=.ref a/\DGet H a y (U v)/\Q v H):=by
 intro value slice pins s σ H x y v u Q I rx ry h hs
 obtain⟨a,z,rfl,g,q⟩:=h
 cases rx
 exact VJ (xB I g) F.slot_dict_getitem.lookup (CM hu I g ry λw' s' I' rw'=>⟨z,H,I',rw',q⟩) hs
theorem ix_DX(hu:X.A.units+1<cLine):IxR X (iQ X.K aX):=IxR.imp ((JY hu).or ix_D) λx y H Q ⟨μ,S,dx,dy,dz,hS,h1,h2,h3,post⟩=>by
 unfold aX at h3
 split at h3
 ·rename_i kvs hk
  obtain⟨k,h4,h5⟩:=Rb.mp h3
  obtain⟨a,vs,rfl,ha,rr⟩:=sI hS h1 hk
  obtain⟨v,h6,h7⟩:=rr.val h5
  refine .inl ⟨a,v,rfl,?_,post.here hS h7⟩
  rw[eW h4 h2,<- h6]
  exact DGet.k ha
 ·exact .inr ⟨μ,S,dx,dy,dz,hS,h1,h2,h3,post⟩
theorem Qv{mb:ME}(hu:X.A.units+1<cLine)(ha:DE X a ma)(hb:DE X b mb)(hs:oq b:=by intro _ _;rfl):DE X (.Subscript a b pos) (aB aX ma mb):=
 PE.imp (LW (ix_DX hu) ha hb hs) λ_ _ _ h=>sK h
end
end M
namespace L2
section
variable{X:Cx}{o e:Expr}{es:List Expr}{to:TE}{t:TA}{name:Str}{apos cpos:Pos}{id:String}{r:V->List V->Hp->VK->Prop}
noncomputable def tBD(r:V->List V->Hp->VK->Prop)(to:TE)(t:TA):TE:=λσ H Q=>to σ H λx H1=>(∃ p,x=.ref p/\IsD H1 p)/\t σ H1 λxs H2=>r x xs H2 Q
theorem NY(slot:Slot "dict" name id)(hty:typeOf (.builtin id)=pure (.type "method_descriptor"))(hm:MtR X id r)(ho:PE X o to)(ha:PA X (e::es) t)
  (hbase:attributeBase o name X.env (eval o X.env)=eval o X.env)
  (hfew:((backTo cpos (starEach (e::es) X.env)).all (λx=>!x.1)&&(backToKw cpos (keywordEach [] X.env)).all (λx=>x.1.isSome)&&decide ((e::es).length+([]:List Keyword).length+(if ([]:List Keyword).isEmpty then 0 else 1)<30))=true)
  (hline:(apos.endLine==cpos.line)=true) (hs:starEach (e::es) X.env=(false,eval e X.env)::starEach es X.env) (hplain:(backTo cpos (starEach es X.env)).any (·.1)=false) :
  PE X (.Call (.Attribute o name apos) (e::es) [] cpos) (tBD r to t):=by
 intro pins s σ H Q I h
 refine VP hbase hfew hline rfl (bN (ho pins s σ H _ I h) λv s1 ⟨x,H1,I1,r1,ty,q1⟩=>?_)
 obtain⟨p,rfl,hq⟩:=ty
 cases r1
 obtain⟨t1,t2,_⟩:=Pz I1 hq
 refine⟨"dict",id,F.plainAttrs_dict,slot,hty,t1,t2,?_⟩
 have hA:=ha cpos pins s1 σ H1 _ I1 q1
 rw[hs] at hA ⊢
 refine Ul (by show(false||(backTo cpos (starEach es X.env)).any (·.1))=false;rw[hplain]<;>rfl) (Uy ?_)
 exact bN hA λus s2 ⟨vs,H2,I2,r2,q2⟩=>hm pins s2 σ H2 (V.ref p) vs _ us Q I2 (show RelV (V.ref p) (Value.ref p) from rfl) r2 q2
theorem JD(hu:X.A.units+1<cLine):MtR X "dict.get" (λx xs H Q=>∃ a y o,x=.ref a/\DGet H a y o/\((xs=[y]/\Q (o.getD .non) H)\/∃ d,xs=[y,d]/\Q (o.getD d) H)):=by
 intro pins s σ H x xs v us Q I rx rv h
 obtain⟨a,y,o,rfl,g,h⟩:=h
 cases rx
 rcases h with ⟨rfl,q⟩ | ⟨d,rfl,q⟩
 ·obtain⟨u,rfl,ru⟩:=rv.one
  exact QE hu I g ru λw' s3 I3 rw'=>⟨_,H,I3,rw',q⟩
 ·obtain⟨u,u2,rfl,ru,ru2⟩:=rv.two
  exact QD hu I g ru ru2 λw' s4 I4 rw'=>⟨_,H,I4,rw',q⟩
end
end L2
namespace M
open L2
section
variable{X:Cx}{K:W.Frag}{μ μ':Fp}{H H':Hp}{S S':aa}
theorem SOk.writeD{S:aa}(s:SOk K μ S H){i:Nat}{a:Addr}{kvs':List (aJ×V)}{ks:List aJ}(hi:μ.cs[i]?=U a)(h:H a=U (.dK kvs))(hk:ks=kvs'.map (·.1))(r:Reps K μ H (kvs'.map (·.2)) ds) :
  Ext μ H μ (upd H a (.dK kvs'))/\SOk K μ (S.set i (.dct ks ds)) (upd H a (.dK kvs')):=by
 have ha:=RR hi
 have e:Ext μ H μ (upd H a (.dK kvs')):=⟨rfl,⟨[],by simp,λ_ z=>by simp at z⟩,λb o' n q=>by rw[aj (by rintro rfl;exact n ha)];exact q,λb hb=>by
  by_cases z:b=a
  ·subst z;rw[ah];simp
  ·rw[aj z];exact s.dom b hb⟩
 refine⟨e,s.nd,by simp[s.len],λj b c h1 h2=>?_,λb hb=>?_,s.disj⟩
 case refine_2=>
  by_cases z:b=a
  ·subst z;rw[ah];simp
  ·rw[aj z];exact s.fdom b hb
 by_cases hj:j=i
 ·subst hj
  rw[hi] at h1;cases h1
  have hl:j<S.length:=by rw[<- s.len];exact(Ri.mp hi).1
  rw[Sd hl] at h2
  cases h2
  exact⟨kvs',ah,hk,r.mono e⟩
 ·rw[RS (Ne.symm hj)] at h2
  refine(s.cell j b c h1 h2).mono e (aj λz=>hj ?_)
  subst z
  exact Ab s.nd h1 hi
theorem vT{p:Addr}{cs fb:List Addr}(n:(⟨cs,p::fb⟩:Fp).no a):(⟨cs++[p],fb⟩:Fp).no a:=
 ⟨λz=>(RE.mp z).elim n.1 λz=>n.2 (by rw[RD.mp z];exact Rf),λz=>n.2 (Rj _ z)⟩
theorem Rep.adopt{p:Addr}{cs fb:List Addr}{d:D}(r:Rep K ⟨cs,p::fb⟩ H v d):Rep K ⟨cs++[p],fb⟩ H v d:=r.imp (λh n=>⟨h,vT n⟩) λh=>uU rfl h
theorem Reps.adopt{p:Addr}{cs fb:List Addr}{d:List D}(r:Reps K ⟨cs,p::fb⟩ H v d):Reps K ⟨cs++[p],fb⟩ H v d:=r.imp (λh n=>⟨h,vT n⟩) λh=>uU rfl h
theorem KR.adopt{p:Addr}{cs fb:List Addr}:∀ {vs ds},KR K ⟨cs,p::fb⟩ H vs ds->KR K ⟨cs++[p],fb⟩ H vs ds
 | _,_,.nil=>.nil
 | _,_,.cons h t=>.cons h.adopt (KR.adopt t)
theorem Ext.shutR{cs fb:List Addr}(hp:H p=Y)(hn:p∉fb)(e:Ext ⟨cs,p::fb⟩ (upd H p o) μ2 H2)(s:SOk K μ2 S2 H2)(r:KR K μ2 H2 vs kvs) :
  Ext ⟨cs,fb⟩ H ⟨μ2.cs++[p],fb⟩ (upd H2 p (.dK vs))/\SOk K ⟨μ2.cs++[p],fb⟩ (S2++[.dct (kvs.map (·.1)) (kvs.map (·.2))]) (upd H2 p (.dK vs))/\H2 p=U o:=by
 have pm:p∈μ2.fb:=by rw[e.fb];exact Rf
 have ncs:p∉μ2.cs:=s.disj p pm
 have ncs0:p∉cs:=λz=>ncs (by obtain⟨l,q,_⟩:=e.pre;rw[q];exact Sj _ z)
 have ef:μ2.fb=p::fb:=e.fb
 obtain⟨cs2,fb2⟩:=μ2
 simp only at ef pm ncs
 subst ef
 refine⟨⟨rfl,?_,λa o2 na ha=>?_,λa ha=>?_⟩,⟨?_,by simp[s.len],λi a c h1 h2=>?_,λa ha=>?_,λa ha z=>?_⟩,e.keep p o ncs0 ah⟩
 ·obtain⟨l,q,hl⟩:=e.pre
  simp only at q
  refine⟨l++[p],by rw[q,Su],λa ha=>?_⟩
  rcases RE.mp ha with ha | ha
  ·have:=hl a ha
   by_cases z:a=p
   ·subst z;exact hp
   ·rwa[aj z] at this
  ·rw[RD.mp ha];exact hp
 ·have z:=aQ ha hp
  rw[aj z]
  exact e.keep a o2 na ((aj z).trans ha)
 ·by_cases z:a=p
  ·subst z;rw[ah];simp
  ·rw[aj z]
   rcases RE.mp ha with ha | ha
   ·exact e.dom a ha
   ·exact absurd (RD.mp ha) z
 ·exact Tb.mpr ⟨s.nd,by simp,λa ha b hb=>by rw[RD.mp hb];exact λz=>ncs (z ▸ ha)⟩
 ·have sc:=s.chg (o:=.dK vs) pm
  by_cases hi:i<cs2.length
  ·rw[Rx hi] at h1
   rw[Rx (by rw[<- s.len];exact hi)] at h2
   have ck:=sc.cell i a c h1 h2
   cases c with
   | lst ds=>obtain⟨ws,h,r⟩:=ck;exact⟨ws,h,r.adopt⟩
   | dct ks ds=>obtain⟨ws,h,q,r⟩:=ck;exact⟨ws,h,q,r.adopt⟩
  ·have hi':i=cs2.length:=by
    have:=(Ri.mp h1).1
    simp at this;omega
   subst hi'
   rw[So (Rn _)] at h1
   rw[show cs2.length=S2.length from s.len,So (Rn _)] at h2
   simp at h1 h2
   subst h1 h2
   have rc:=(r.chg (o:=.dK vs) pm).adopt
   exact⟨vs,ah,rc.keys.symm,rc.reps⟩
 ·by_cases z:a=p
  ·subst z;rw[ah];simp
  ·rw[aj z];exact s.fdom a (Rj _ ha)
 ·rcases RE.mp z with z | z
  ·exact s.disj a (Rj _ ha) z
  ·exact hn (RD.mp z ▸ ha)
noncomputable def ce(ms:List (ME×ME)):ME:=λenv S=>(gP ms env S).bind λz=>if z.1.length<=15 then U (.ref z.2.length,z.2++[.dct ((bi [] z.1).map (·.1)) ((bi [] z.1).map (·.2))]) else Y
theorem HD{keys:List (Option Expr)}(h:DPs X pos keys values ms)(hall:keys.all (·.isSome)=true)(hl:keys.length=values.length)(h0:keys≠[])(h15:keys.length<=15) :
  DE X (.Dict keys values pos) (ce ms):=PE.imp (zQ h hall hl h0 h15) λσ H Q ⟨μ,S,env,d,S',hS,hE,hm,post⟩=>by
 obtain⟨⟨kvs,S1⟩,h1,hm⟩:=Rb.mp hm
 dsimp only at hm
 split at hm
 ·rename_i hl
  cases hm
  intro p hp
  obtain⟨cs,fb⟩:=μ
  refine lL (hS.more hp) (hE.more hp) h1 λvs H2 μ2 e2 s2 r2=>?_
  obtain⟨eF,sF,hF⟩:=Ext.shutR hp (hS.notMem hp).2 e2 s2 (r2.merge KR.nil)
  exact⟨hF,vs,rfl,by rw[r2.length];exact hl,post _ _ _ eF sF (.ref (by rw[<- s2.len];simp))⟩
 ·cases hm
noncomputable def HK(S:aa):D->Bool
 | .dct _ _=>true
 | .ref r=>match S[r]? with | some (.dct _ _)=>true | _=>false
 | _=>false
theorem Lj{d:D}(s:SOk K μ S H)(r:Rep K μ H v d)(h:HK S d=true):∃ a,v=.ref a/\IsD H a:=by
 cases r with
 | dct hd n rr=>exact⟨_,rfl,.inl ⟨_,.inl hd⟩⟩
 | ref hr=>
  rename_i a i
  unfold HK at h
  dsimp only at h
  cases q:S[i]? with
  | none=>rw[q] at h;cases h
  | some c=>
   rw[q] at h
   have ck:=s.cell _ _ _ hr q
   cases c with
   | lst _=>cases h
   | dct ks xs=>obtain⟨vs,e,hk,rr⟩:=ck;exact⟨a,rfl,.inl ⟨_,.inl e⟩⟩
 | _=>cases h
noncomputable def iO:MF:=λo ds S=>(oA S o).bind λkvs=>match ds with
 | [y]=>(dM y).bind λk=>U ((cn kvs k).getD .non,S)
 | [y,d]=>(dM y).bind λk=>U ((cn kvs k).getD d,S)
 | _=>Y
theorem KR.getD{k:aJ}{vs ds}(t:KR K μ H vs ds)(r:Rep K μ H z e):Rep K μ H ((jH vs k).getD z) ((cn ds k).getD e):=by
 cases q:cn ds k with
 | none=>rw[t.valN q];exact r
 | some d=>obtain⟨v,h1,h2⟩:=t.val q;rw[h1];exact h2
theorem JF(hu:X.A.units+1<cLine):MtR X "dict.get" (LU X.K iO):=MtR.imp (JD hu) λx vs H Q ⟨μ,S,dx,ds,d,S',hS,r1,r2,h,post⟩=>by
 obtain⟨kvs,hk,h⟩:=Rb.mp h
 obtain⟨a,ws,rfl,ha,rr⟩:=sI hS r1 hk
 split at h
 ·rename_i y
  obtain⟨k,h4,h5⟩:=Rb.mp h
  cases h5
  obtain⟨v,rfl,rv⟩:=r2.one
  have:=eW h4 rv
  subst this
  exact⟨a,_,_,rfl,DGet.k ha,.inl ⟨rfl,post.here hS (rr.getD .non)⟩⟩
 ·rename_i y e
  obtain⟨k,h4,h5⟩:=Rb.mp h
  cases h5
  obtain⟨v,w,rfl,rv,rw0⟩:=r2.two
  have:=eW h4 rv
  subst this
  exact⟨a,_,_,rfl,DGet.k ha,.inr ⟨w,rfl,post.here hS (rr.getD rw0)⟩⟩
 ·cases h
noncomputable def bD(f:MF)(o:ME)(ms:MA):ME:=λenv S=>(o env S).bind λp=>if HK p.2 p.1=true then(ms env p.2).bind λq=>f p.1 q.1 q.2 else Y
theorem HB{e:Expr}{es:List Expr}{name:Str}{id:String}{apos:Pos}(slot:Slot "dict" name id)(hty:typeOf (.builtin id)=pure (.type "method_descriptor"))(hm:MtR X id (LU X.K f))(ho:DE X o mo)(ha:DA X (e::es) ms)
  (hbase:attributeBase o name X.env (eval o X.env)=eval o X.env)
  (hfew:((backTo cpos (starEach (e::es) X.env)).all (λx=>!x.1)&&(backToKw cpos (keywordEach [] X.env)).all (λx=>x.1.isSome)&&decide ((e::es).length+([]:List Keyword).length+(if ([]:List Keyword).isEmpty then 0 else 1)<30))=true)
  (hline:(apos.endLine==cpos.line)=true) (hs:starEach (e::es) X.env=(false,eval e X.env)::starEach es X.env) (hpl:(backTo cpos (starEach es X.env)).any (·.1)=false) :
  DE X (.Call (.Attribute o name apos) (e::es) [] cpos) (bD f mo ms):=
 PE.imp (NY slot hty hm ho ha hbase hfew hline hs hpl) λσ H Q ⟨μ,S,env,d,S',hS,hE,h,post⟩=>by
  obtain⟨⟨x,S1⟩,h1,h⟩:=Rb.mp h
  dsimp only at h
  split at h
  ·rename_i hl
   obtain⟨⟨xs,S2⟩,h2,h⟩:=Rb.mp h
   refine⟨μ,S,env,x,S1,hS,hE,h1,λv H1 μ1 e1 s1 r1=>⟨?_,μ1,S1,env,xs,S2,s1,hE.mono e1,h2,λvs H2 μ2 e2 s2 r2=>⟨μ2,S2,x,xs,d,S',s2,r1.mono e2,r2,h,(post.ext e1).ext e2⟩⟩⟩
   exact Lj s1 r1 hl
  ·cases h
end
end M
namespace L2
section
variable{X:Cx}{a b:Expr}{rest:List Expr}{ta tb:TE}{pos:Pos}
noncomputable def tAndX(K:W.Frag)(ta tb:TE):TE:=λσ H Q=>ta σ H λx H1=>∃ c,Dg K x H1 c/\if c=true then tb σ H1 Q else Q x H1
noncomputable def tOrX(K:W.Frag)(ta tb:TE):TE:=λσ H Q=>ta σ H λx H1=>∃ c,Dg K x H1 c/\if c=true then Q x H1 else tb σ H1 Q
noncomputable def tNotX(K:W.Frag)(ta:TE):TE:=λσ H Q=>ta σ H λx H1=>∃ c,Dg K x H1 c/\Q (.bl (!c)) H1
theorem Jn(ha:PE X a ta)(hb:PE X (.BoolOp .And (b::rest) pos) tb):PE X (.BoolOp .And (a::b::rest) pos) (tAndX X.K ta tb):=by
 intro pins s σ H Q I h
 refine BoolOp_and (bN (ha pins s σ H _ I h) λv s1 ⟨x,H1,I1,r1,q1⟩=>?_)
 obtain⟨c,tv,q1⟩:=q1
 refine bN (sE pins s1 σ H1 x v (λk H'=>k=c/\H'=H1) I1 r1 ⟨c,tv,rfl,rfl⟩) λk s2 z=>?_
 obtain⟨H2,I2,rfl,rfl⟩:=z
 cases k with
 | true=>exact hb pins s2 σ H2 Q I2 q1
 | false=>exact⟨x,H2,I2,r1,q1⟩
theorem NS(ha:PE X a ta)(hb:PE X (.BoolOp .Or (b::rest) pos) tb):PE X (.BoolOp .Or (a::b::rest) pos) (tOrX X.K ta tb):=by
 intro pins s σ H Q I h
 refine BoolOp_or (bN (ha pins s σ H _ I h) λv s1 ⟨x,H1,I1,r1,q1⟩=>?_)
 obtain⟨c,tv,q1⟩:=q1
 refine bN (sE pins s1 σ H1 x v (λk H'=>k=c/\H'=H1) I1 r1 ⟨c,tv,rfl,rfl⟩) λk s2 z=>?_
 obtain⟨H2,I2,rfl,rfl⟩:=z
 cases k with
 | false=>exact hb pins s2 σ H2 Q I2 q1
 | true=>exact⟨x,H2,I2,r1,q1⟩
theorem Jj(ha:PE X a ta):PE X (.UnaryOp .Not a pos) (tNotX X.K ta):=by
 intro pins s σ H Q I h
 refine UnaryOp_ (bN (ha pins s σ H _ I h) λv s1 ⟨x,H1,I1,r1,q1⟩=>?_)
 obtain⟨c,tv,q1⟩:=q1
 refine not_of (bN (sE pins s1 σ H1 x v (λk H'=>k=c/\H'=H1) I1 r1 ⟨c,tv,rfl,rfl⟩) λk s2 z=>?_)
 obtain⟨H2,I2,rfl,rfl⟩:=z
 exact⟨.bl (!k),H2,I2,rfl,q1⟩
end
end L2
namespace M
open L2
section
variable{X:Cx}{K:W.Frag}{μ μ':Fp}{H H':Hp}{S S':aa}{a b:Expr}{ma mb:ME}{rest:List Expr}{pos:Pos}
noncomputable def Fd(a b:ME):ME:=λenv S=>(a env S).bind λp=>(oz p.2 p.1).bind λk=>if k=true then b env p.2 else U (p.1,p.2)
noncomputable def Ou(a b:ME):ME:=λenv S=>(a env S).bind λp=>(oz p.2 p.1).bind λk=>if k=true then U (p.1,p.2) else b env p.2
noncomputable def ER(a:ME):ME:=λenv S=>(a env S).bind λp=>(oz p.2 p.1).bind λk=>U (.bl (!k),p.2)
theorem Li(ha:DE X a ma)(hb:DE X (.BoolOp .And (b::rest) pos) mb):DE X (.BoolOp .And (a::b::rest) pos) (Fd ma mb):=PE.imp (Jn ha hb) λσ H Q ⟨μ,S,env,d,S',hS,hE,hm,post⟩=>by
 obtain⟨⟨x,S1⟩,h1,hm⟩:=Rb.mp hm
 obtain⟨k,h2,hm⟩:=Rb.mp hm
 refine⟨μ,S,env,x,S1,hS,hE,h1,λv H1 μ1 e1 s1 r1=>⟨k,nK s1 r1 h2,?_⟩⟩
 cases k with
 | true=>rw[Ru rfl];exact⟨μ1,S1,env,d,S',s1,hE.mono e1,hm,post.ext e1⟩
 | false=>cases hm;rw[RH Rq];exact post _ H1 μ1 e1 s1 r1
theorem Qs(ha:DE X a ma)(hb:DE X (.BoolOp .Or (b::rest) pos) mb):DE X (.BoolOp .Or (a::b::rest) pos) (Ou ma mb):=PE.imp (NS ha hb) λσ H Q ⟨μ,S,env,d,S',hS,hE,hm,post⟩=>by
 obtain⟨⟨x,S1⟩,h1,hm⟩:=Rb.mp hm
 obtain⟨k,h2,hm⟩:=Rb.mp hm
 refine⟨μ,S,env,x,S1,hS,hE,h1,λv H1 μ1 e1 s1 r1=>⟨k,nK s1 r1 h2,?_⟩⟩
 cases k with
 | false=>rw[RH Rq];exact⟨μ1,S1,env,d,S',s1,hE.mono e1,hm,post.ext e1⟩
 | true=>cases hm;rw[Ru rfl];exact post _ H1 μ1 e1 s1 r1
theorem KW(ha:DE X a ma):DE X (.UnaryOp .Not a pos) (ER ma):=PE.imp (Jj ha) λσ H Q ⟨μ,S,env,d,S',hS,hE,hm,post⟩=>by
 obtain⟨⟨x,S1⟩,h1,hm⟩:=Rb.mp hm
 obtain⟨k,h2,hm⟩:=Rb.mp hm
 cases hm
 exact⟨μ,S,env,x,_,hS,hE,h1,λv H1 μ1 e1 s1 r1=>⟨k,nK s1 r1 h2,post _ H1 μ1 e1 s1 (.bl _)⟩⟩
end
section
variable{X:Cx}{K:W.Frag}{μ μ':Fp}{H H':Hp}{S S':aa}{tg iter:Expr}{pos:Pos}
noncomputable def dR(g:MG)(body:MS)(r:Nat):Nat->Nat->ai->aa->Option ny
 | 0,_,_,_=>Y
 | f+1,i,env,S=>match S[r]? with
  | some (.lst xs)=>match xs[i]? with
   | none=>U (.nx env S)
   | some d=>(g d env S).bind λp=>(body p.1 p.2).bind λo=>match o with
    | .nx e s=>dR g body r f (i+1) e s
    | .ct e s=>dR g body r f (i+1) e s
    | .bk e s=>U (.nx e s)
    | .rt d s=>U (.rt d s)
  | _=>Y
noncomputable def ci(m:ME)(g:MG)(body:MS):MS:=λenv S=>(m env S).bind λp=>match p.1 with
 | .ref r=>dR g body r 2000 0 env p.2
 | .lst xs=>cx g body xs env p.2
 | .rol xs=>cx g body xs env p.2
 | .tup xs=>cx g body xs env p.2
 | _=>Y
noncomputable def mForX(m:ME)(g:MG)(body:MS):MS:=λenv S=>(m env S).bind λp=>match p.1 with
 | .ref r=>dR g body r 2000 0 env p.2
 | _=>Y
theorem KF{mb:MS}(hp:PassesOwn (model X.prog X.w) X.A X.env X.xe)(hc:X.calm=true)(hi:DE X iter mi)(hg:DG X tg g)(hb:vc X body mb)
  (hs:∀ x,foldedSetIterable iter X.env x=pure x):DS X (.For tg iter body [] pos) (mForX mi g mb):=PS.imp (yk hp hc (tq hi) hg hb hs) λE σ H ⟨μ,S,env,o,hS,hE,hm,post⟩=>by
 obtain⟨⟨d,S1⟩,h1,hm⟩:=Rb.mp hm
 dsimp only at hm
 split at hm
 ·rename_i r
  refine⟨μ,S,env,_,S1,hS,hE,h1,λv H1 μ1 e1 s1 r1=>?_⟩
  cases r1 with
  | @ref a _ ha=>
   have cell:∀ {μ' H' S' xs},Ext μ1 H1 μ' H'->SOk X.K μ' S' H'->S'[r]?=U (.lst xs)->∃ vs,H' a=U (.lst vs)/\Reps X.K μ' H' vs xs:=λ{μ' H' S' xs} e s q=>by
    obtain⟨l,ql,_⟩:=e.pre
    have ha':μ'.cs[r]?=U a:=by rw[ql,Rx (Ri.mp ha).1];exact ha
    exact s.cell r a _ ha' q
   have hq0:∃ vs,gT X.K H1 a vs:=by
    unfold dR at hm
    split at hm
    ·rename_i xs q
     obtain⟨vs,hv,_⟩:=cell s1.ext s1 q
     exact⟨vs,.inl (.inl hv)⟩
    ·cases hm
   refine⟨a,rfl,hq0,?_⟩
   refine⟨λi n σ H=>∃ μ' S' env' o',Ext μ1 H1 μ' H/\SOk X.K μ' S' H/\EOk X.K μ' H σ env'/\dR g mb r n i env' S'=U o'/\PostS X.K μ' H o' E,
    ⟨2000,μ1,S1,env,o,s1.ext,s1,hE.mono e1,hm,post.ext e1⟩,?_⟩
   rintro i n σ' H' ⟨μ',S',env',o',e',s',r',hl,post'⟩
   cases n with
   | zero=>cases hl
   | succ n=>
    unfold dR at hl
    split at hl
    ·rename_i xs q
     obtain⟨vs,hv,rv⟩:=cell e' s' q
     have hsq:gT X.K H' a vs:=.inl (.inl hv)
     split at hl
     ·rename_i hx
      cases hl
      refine .inl ⟨⟨vs,hsq,?_⟩,post' σ' H' μ' s'.ext s' r'⟩
      rw[rv.length];simpa using hx
     ·rename_i d hx
      obtain⟨w,hw,rw0⟩:=rv.get hx
      refine .inr ⟨⟨vs,w,hsq,hw⟩,λσ2 H2=>∃ μ2 S2 env2 o2,Ext μ1 H1 μ2 H2/\SOk X.K μ2 S2 H2/\EOk X.K μ2 H2 σ2 env2/\dR g mb r n (i+1) env2 S2=U o2/\PostS X.K μ2 H2 o2 E,
       λσ2 H2 ⟨μ2,S2,env2,o2,q1,q2,q3,q4,q5⟩=>⟨n,by omega,μ2,S2,env2,o2,q1,q2,q3,q4,q5⟩,λx H2 y=>?_⟩
      obtain⟨e2,hy⟩:=y
      subst e2
      have ex:x=w:=by have:=hy vs hsq;rw[hw] at this;exact(RJ this).symm
      subst ex
      obtain⟨⟨env3,S3⟩,h3,hl⟩:=Rb.mp hl
      obtain⟨o4,h4,hl⟩:=Rb.mp hl
      refine⟨μ',S',env',d,env3,S3,s',r',rw0,h3,λσ3 H3 μ3 e3 s3 r3=>⟨μ3,S3,env3,o4,s3,r3,h4,?_⟩⟩
      have eT:Ext μ1 H1 μ3 H3:=e'.trans e3
      have pT:PostS X.K μ3 H3 o' E:=post'.ext e3
      cases o4 with
      | nx e5 s5=>exact λσ6 H6 μ6 e6 s6 r6=>⟨μ6,s5,e5,o',eT.trans e6,s6,r6,hl,pT.ext e6⟩
      | ct e5 s5=>exact λσ6 H6 μ6 e6 s6 r6=>⟨μ6,s5,e5,o',eT.trans e6,s6,r6,hl,pT.ext e6⟩
      | bk e5 s5=>cases hl;exact pT
      | rt d5 s5=>cases hl;exact pT
    ·cases hl
 ·cases hm
theorem KG{mb:MS}(hp:PassesOwn (model X.prog X.w) X.A X.env X.xe)(hc:X.calm=true)(hi:DE X iter mi)(hg:DG X tg g)(hb:vc X body mb)
  (hs:∀ x,foldedSetIterable iter X.env x=pure x):DS X (.For tg iter body [] pos) (ci mi g mb):=by
 have hA:=KF (pos:=pos) hp hc hi hg hb hs
 have hB:=Hb (pos:=pos) hp hc (zv (tg:=tg) hi) hg hb hs
 intro pins s σ H E I ⟨μ,S,env,o,hS,hE,h,post⟩
 obtain⟨⟨x,S1⟩,h1,h⟩:=Rb.mp h
 cases x with
 | ref r=>exact hA pins s σ H E I ⟨μ,S,env,o,hS,hE,by show(mi env S).bind _=_;rw[h1];exact h,post⟩
 | lst xs=>exact hB pins s σ H E I ⟨μ,S,env,o,hS,hE,by show((mi env S).bind _).bind _=_;rw[h1];exact h,post⟩
 | rol xs=>exact hB pins s σ H E I ⟨μ,S,env,o,hS,hE,by show((mi env S).bind _).bind _=_;rw[h1];exact h,post⟩
 | tup xs=>exact hB pins s σ H E I ⟨μ,S,env,o,hS,hE,by show((mi env S).bind _).bind _=_;rw[h1];exact h,post⟩
 | _=>cases h
end
end M
namespace L2
section
variable{X:Cx}{pos:Pos}
theorem pG:∀ {ns:List Int} {us:List Value},Vals (ns.map V.int) us->∃ xs:List (Int×Tok),us=xs.map (λp=>Value.int p.1 p.2)/\xs.map (·.1)=ns
 | [],_,.nil=>⟨[],rfl,rfl⟩
 | n::ns,_,.cons ⟨t,e⟩ r=>by
  subst e
  obtain⟨xs,e1,e2⟩:=pG r
  exact⟨(n,t)::xs,by rw[e1];rfl,by rw[RB,e2]⟩
theorem CU(hc:X.calm=true):CallR X (.builtin "max") (λxs H Q=>∃ p ns,xs=[.ref p]/\gT X.K H p (ns.map V.int)/\ns≠[]/\∀ m,m∈ns->(∀ a∈ns,a<=m)->Q (.int m) H):=by
 intro pins s σ H xs us Q I r h
 obtain⟨p,ns,rfl,hq,h0,q⟩:=h
 obtain⟨u,rfl,rx⟩:=gD r
 cases rx
 obtain⟨its,rv,pl,hz⟩:=I.list hq
 obtain⟨ps,e1,e2⟩:=pG rv
 have hl:s.heap.IsList p (intItems ps.toArray):=by
  have:=pl.isList
  rw[e1] at this
  have e:intItems ps.toArray=(ps.map (λp=>Value.int p.1 p.2)).toArray:=by simp[intItems]
  rw[e];exact this
 have hp:0<ps.toArray.size:=by
  rw[Rk]
  cases ps with
  | nil=>exact absurd e2.symm h0
  | cons _ _=>simp
 refine max_intList (I.ok.hd hc) hl hp λv h' tk hv kk=>?_
 obtain⟨g1,g2⟩:=argBest_gt (numAt ps.toArray) (ps.toArray.size - 1)
 generalize argBest (λi j=>decide (numAt ps.toArray i>numAt ps.toArray j)) (ps.toArray.size - 1)=b at hv g1 g2
 have hb:b<ps.length:=by rw[Rk] at g1 hp;omega
 have nb:∀ j (hj:j<ps.length),numAt ps.toArray j=ps[j].1:=λj hj=>by
  simp[numAt,hj]
 have ev:v=Value.int ps[b].1 ps[b].2:=by
  simp[intItems,hb] at hv
  exact hv.symm
 subst ev
 refine⟨.int ps[b].1,H,I.kept kk,⟨_,rfl⟩,q _ ?_ λa ha=>?_⟩
 ·rw[<- e2];exact Sb.mpr ⟨_,Ui hb,rfl⟩
 ·rw[<- e2] at ha
  obtain⟨x,hx,rfl⟩:=Sb.mp ha
  obtain⟨j,hj,rfl⟩:=We.mp hx
  have:=g2 j (by rw[Rk];omega)
  rw[nb j hj,nb b hb] at this
  exact this
theorem ow:∀ (l:List Value) (lo:Nat),(∀ (j:Nat) (v:Value),l[j]?=U v->∃ t,v=.int ((lo+j:Nat):Int) t)->Vals ((List.range' lo l.length).map λ(i:Nat)=>V.int (i:Int)) l
 | [],_,_=>.nil
 | v::r,lo,h=>by
  rw[Rr,List.range'_succ,RB]
  obtain⟨t,e⟩:=h 0 v rfl
  refine .cons ⟨t,by simpa using e⟩ (ow r (lo+1) λj w hw=>?_)
  obtain⟨t,e⟩:=h (j+1) w (by simpa using hw)
  exact⟨t,by rw[e];congr 2;omega⟩
noncomputable def lO(n:Nat):List V:=(List.range n).map λ(i:Nat)=>V.int (i:Int)
theorem tw{a:Expr}{p p2 pos:Pos}(hc:X.calm=true)(hm:X.mg "list" = Y)(hm2:X.mg "range" = Y)(hg:Gl X "list")(hg2:Gl X "range")(ha:PA X [a] ta)(hs:starEach [a] X.env=[(false,eval a X.env)]) :
  PE X (.Call (.Name "list" p) [.Call (.Name "range" p2) [a] [] pos2] [] pos) (λσ H Q=>ta σ H λvs H1=>∃ j:Int,vs=[.int j]/\0<=j/\j<=1000/\∀ q,H1 q=Y->Q (.ref q) (upd H1 q (.lst (lO j.toNat)))):=by
 intro pins s σ H Q I h
 refine Call_ (gQ I hg hm Vm (RZ (Wr ?_) rfl rfl))
 refine Call_ (gQ I hg2 hm2 boot_range (RZ (bN (ha pos2 pins s σ H _ I h) λus s1 ⟨vs,H1,I1,r1,q1⟩=>?_) hs rfl))
 obtain⟨j,rfl,j0,j1,q⟩:=q1
 obtain⟨u,rfl,ru⟩:=r1.one
 obtain⟨t,rfl⟩:=ru
 refine call_range_1 (Calls.spliced_nil ?_)
 have I2:Inv X pins σ H1 { s1 with heap:=s1.heap.push { cls:=.type "range",data:=.fields #[.int 0 s1.toks,.int j t,.int 1 (s1.toks+1)] },toks:=s1.toks+1+1 }:=I1.kept λb o e=>Re _ e
 have hz:(s1.heap.push { cls:=.type "range",data:=.fields #[.int 0 s1.toks,.int j t,.int 1 (s1.toks+1)] }).objs.size=s1.heap.objs.size+1:=Sw ..
 refine call_list_range (n:=j.toNat) (I1.ok.hd hc) (IsRange.new ..) (small_one (by decide) (by decide) (by omega) (by omega)) (by rw[rangeSize_one];split<;>omega) (by omega) λh' tk acc c' kk hn it=>?_
 obtain⟨i1,i2⟩:=it
 have fr:H1 (s1.heap.objs.size+1)=Y:=I1.hok.fresh (TN _)
 dsimp only at hn ⊢
 rw[hz] at hn ⊢
 refine⟨.ref _,_,I2.laid (t':=tk) (a:=s1.heap.objs.size+1) (o:=.lst (lO j.toNat)) kk (by show _<=s1.heap.objs.size+1;rw[hz];exact Rn _) ⟨?_,acc.toList,c',?_,?_⟩,rfl,q _ fr⟩
 ·simp[lO];rw[Ug];omega
 ·have:=ow acc.toList 0 (λj v hv=>by
   obtain⟨t,e⟩:=i2 j v (by simpa using hv)
   exact⟨t,by rw[e];congr 1;omega⟩)
  rw[SD,i1] at this
  rw[lO,List.range_eq_range']
  exact this
 ·simpa using hn
end
end L2
namespace M
open L2
section
variable{X:Cx}{K:W.Frag}{μ μ':Fp}{H H':Hp}{S S':aa}{pos:Pos}
noncomputable def Av(S:aa):D->Option (List D)
 | .lst xs=>U xs
 | .ref r=>match S[r]? with | some (.lst xs)=>U xs | _=>Y
 | _=>Y
theorem rL{d:D}{ds:List D}(s:SOk K μ S H)(r:Rep K μ H v d)(h:Av S d=U ds):∃ a vs,v=.ref a/\H a=U (.lst vs)/\Reps K μ H vs ds:=by
 cases r with
 | lst hd n rr=>cases h;exact⟨_,_,rfl,hd,rr⟩
 | ref hr=>
  rename_i a i
  unfold Av at h
  dsimp only at h
  cases q:S[i]? with
  | none=>rw[q] at h;cases h
  | some c=>
   rw[q] at h
   have ck:=s.cell _ _ _ hr q
   cases c with
   | lst xs=>cases h;obtain⟨vs,e,rr⟩:=ck;exact⟨a,vs,rfl,e,rr⟩
   | dct ks xs=>cases h
 | _=>cases h
noncomputable def FY:D->Bool
 | .ref _=>true
 | _=>false
noncomputable def bu(S:aa)(x y:D):Option D:=if FY x||FY y then(Av S x).bind λxs=>(Av S y).bind λys=>if xs.length+ys.length<=sizeLine then U (.lst (xs++ys)) else Y else Gx S x y
theorem zS:OpR X (binaryOp .Add) (iQ X.K bu):=OpR.imp (OpR.or EB Oo) λx y H Q ⟨μ,S,dx,dy,dz,hS,h1,h2,h3,post⟩=>by
 unfold bu at h3
 split at h3
 ·obtain⟨xs,e1,h3⟩:=Rb.mp h3
  obtain⟨ys,e2,h3⟩:=Rb.mp h3
  split at h3
  ·rename_i hl
   cases h3
   obtain⟨a,vs,rfl,q1,r1⟩:=rL hS h1 e1
   obtain⟨b,ws,rfl,q2,r2⟩:=rL hS h2 e2
   have l1:=r1.length
   have l2:=r2.length
   exact .inl ⟨a,b,vs,ws,rfl,rfl,q1,q2,by omega,λp hp=>post.lst hS hp (r1.append r2)⟩
  ·cases h3
 ·exact .inr ⟨μ,S,dx,dy,dz,hS,h1,h2,h3,post⟩
noncomputable def kU:List Int->Int
 | []=>0
 | [a]=>a
 | a::r=>max a (kU r)
theorem rf:∀ {ns:List Int},ns≠[]->kU ns∈ns/\∀ a∈ns,a<=kU ns
 | [a],_=>⟨by simp[kU],λb hb=>by simp at hb;simp[kU,hb]⟩
 | a::b::r,_=>by
  obtain⟨h1,h2⟩:=rf (ns:=b::r) (by simp)
  show max a (kU (b::r))∈_/\∀ c∈_,c<=max a (kU (b::r))
  generalize kU (b::r)=m at h1 h2
  refine⟨?_,λc hc=>?_⟩
  ·by_cases h:m<=a
   ·rw[Int.max_eq_left h];exact Rf
   ·rw[Int.max_eq_right (by omega)];exact Rj _ h1
  ·rcases Rv.mp hc with rfl | hc
   ·exact Int.le_max_left _ _
   ·exact Int.le_trans (h2 c hc) (Int.le_max_right _ _)
theorem wa{ns:List Int}{m:Int}(h0:ns≠[])(h1:m∈ns)(h2:∀ a∈ns,a<=m):m=kU ns:=by
 obtain⟨g1,g2⟩:=rf h0
 have:=h2 _ g1
 have:=g2 _ h1
 omega
noncomputable def pN(S:aa):List D->Option D
 | [d]=>(mU S d).bind λns=>if ns.isEmpty then Y else U (.int (kU ns))
 | ds=>Mu S ds
theorem CallR.or(h:CallR X f r)(h':CallR X f r'):CallR X f (λxs H Q=>r xs H Q\/r' xs H Q):=by
 intro pins s σ H xs us Q I rv q
 rcases q with q | q
 ·exact h pins s σ H xs us Q I rv q
 ·exact h' pins s σ H xs us Q I rv q
theorem CZ(hc:X.calm=true):CallR X (.builtin "max") (yj X.K (az pN)):=CallR.imp (CallR.or (CU hc) (Da hc)) λxs H Q ⟨μ,S,ds,d,S',hS,hr,hm,post⟩=>by
 obtain⟨rfl,hm'⟩:=bX hm
 match ds,hr,hm,hm' with
 | [d0],hr,hm,hm'=>
  obtain⟨ns,h1,h2⟩:=Rb.mp hm'
  split at h2
  ·cases h2
  ·rename_i h0
   cases h2
   have h0:ns≠[]:=λz=>h0 (by rw[z];rfl)
   obtain⟨v,rfl,rv⟩:=hr.one
   obtain⟨b,rfl,hq,h64⟩:=zd hS rv h1
   refine .inl ⟨b,ns,rfl,hq,h0,λm m1 m2=>?_⟩
   rw[wa h0 m1 m2]
   exact post.here hS (.int _)
 | [],hr,hm,hm'=>cases hm'
 | _::_::_,hr,hm,hm'=>exact .inr ⟨μ,_,_,d,_,hS,hr,hm,post⟩
noncomputable def bR(ms:MA):ME:=λenv S=>(ms env S).bind λp=>match p.1 with | [.int j]=>if 0<=j/\j<=1000 then U (.lst (aS 0 j.toNat),p.2) else Y | _=>Y
theorem yh(n:Nat):Reps K μ H (lO n) (aS 0 n):=by
 unfold lO aS
 generalize List.range n=l
 induction l with
 | nil=>exact .nil
 | cons a r ih=>rw[RB,RB,Int.zero_add];exact .cons (.int _) ih
theorem HC{a:Expr}{p p2:Pos}(hc:X.calm=true)(hm:X.mg "list" = Y)(hm2:X.mg "range" = Y)(hg:Gl X "list")(hg2:Gl X "range")(ha:DA X [a] ms)(hs:starEach [a] X.env=[(false,eval a X.env)]) :
  DE X (.Call (.Name "list" p) [.Call (.Name "range" p2) [a] [] pos2] [] pos) (bR ms):=PE.imp (tw hc hm hm2 hg hg2 ha hs) λσ H Q ⟨μ,S,env,d,S',hS,hE,h,post⟩=>by
 obtain⟨⟨ds,S1⟩,h1,h⟩:=Rb.mp h
 refine⟨μ,S,env,ds,S1,hS,hE,h1,λvs H1 μ1 e1 s1 r1=>?_⟩
 dsimp only at h
 split at h
 ·rename_i j
  split at h
  ·rename_i hj
   cases h
   obtain⟨v,rfl,rv⟩:=r1.one
   exact⟨j,by rw[rv.int_inv],hj.1,hj.2,λq hq=>(post.ext e1).lst s1 hq (yh _)⟩
  ·cases h
 ·cases h
end
inductive TabRel:List (aJ×Value)->List (aJ×D)->Prop
 | nil:TabRel [] []
 | cons {k:aJ} {v:Value} {d:D} {vs:List (aJ×Value)} {ds:List (aJ×D)} (x:V) (h:RelV x v) (r:∀ K μ H,Rep K μ H x d) (t:TabRel vs ds):TabRel ((k,v)::vs) ((k,d)::ds)
theorem TabRel.val{k:aJ}:∀ {vs ds},TabRel vs ds->∀ {d},cn ds k=U d->∃ v x,valueAt vs k=U v/\RelV x v/\∀ K μ H,Rep K μ H x d
 | _,_,.nil,d,h=>by cases h
 | _,_,.cons (k:=k') (v:=v) x h r t,d,q=>by
  unfold cn at q
  split at q
  ·rename_i e;cases q;refine⟨v,x,?_,h,r⟩;simp only at e;simp[valueAt,e]
  ·rename_i e
   obtain⟨v',x',h1,h2,h3⟩:=TabRel.val t q
   refine⟨v',x',?_,h2,h3⟩
   simp only at e
   rw[<- h1]
   simp[valueAt,e]
structure sA(w:World)(K:W.Frag)(mg:Str->Option Value)(x:Str)(l:List (aJ×D)):Prop where
 ex:∃ (a:Addr) (vs:List (aJ×Value)),mg x=U (.ref a)/\(∀ (P:Program) (h:Heap),K.In h->h.DictOf (aY P w) a vs)/\TabRel vs l
section
variable{X:Cx}
theorem Pw(hd:∀ (P:Program) (h:Heap),X.K.In h->h.DictOf (aY P X.w) a vs):IxR X (λx y H Q=>∃ k v z,x=.ref a/\y=kV k/\valueAt vs k=U v/\RelV z v/\Q z H):=by
 intro value slice pins s σ H x y v u Q I rx ry h hs
 obtain⟨k,v',z,rfl,rfl,hv,rz,q⟩:=h
 cases rx
 have dd:=hd X.prog s.heap I.kIn
 exact VJ dd.typeIs F.slot_dict_getitem.lookup (wpAny_getItem_of (jj ry) dd.mapOf hv ⟨z,H,I.tok _,rz,q⟩) hs
noncomputable def bV(l:List (aJ×D))(mi:ME):ME:=λenv S=>(mi env S).bind λp=>(dM p.1).bind λk=>(cn l k).bind λd=>U (d,p.2)
theorem Hx(g:sA X.w X.K X.mg x l)(hg:Gl X x)(hx:(x==("__debug__":Str))=false)(hi:DE X i mi)(hs:oq i:=by intro _ _;rfl):DE X (.Subscript (.Name x p) i pos) (bV l mi):=by
 obtain⟨a,vs,h1,h2,h3⟩:=g.ex
 refine PE.imp (LW (Pw h2) (tz (v:=.ref a) hg h1 rfl hx) hi hs) λσ H Q ⟨μ,S,env,d,S',hS,hE,hm,post⟩=>?_
 obtain⟨⟨y,S1⟩,e1,hm⟩:=Rb.mp hm
 obtain⟨k,e2,hm⟩:=Rb.mp hm
 obtain⟨d',e3,hm⟩:=Rb.mp hm
 cases hm
 obtain⟨v,z,v1,v2,v3⟩:=h3.val e3
 exact⟨μ,S,env,y,_,hS,hE,e1,λu H1 μ1 ex s1 r1=>⟨k,v,z,rfl,eW e2 r1,v1,v2,post _ H1 μ1 ex s1 (v3 _ _ _)⟩⟩
end
theorem Dt{K:W.Frag}(hl:K.lookup a=U ⟨.type "dict",Y,.dict es n,#[]⟩)(hp:∀ P,Pairs (aY P w) es.toList vs)(hk:∀ P,KeysOf (aY P w) es)(hn:(vs.map (·.1)).Nodup) :
  ∀ (P:Program) (h:Heap),K.In h->h.DictOf (aY P w) a vs:=λP h KX=>⟨_,es,n,KX a _ hl,⟨rfl,rfl,rfl⟩,rfl,hk P,hp P,hn⟩
inductive TabLit(w:World):List DictEntry->List (aJ×Value)->Prop
 | nil:TabLit w [] []
 | cons {x:Str} {t:Tok} {v:Value} {es:List DictEntry} {vs:List (aJ×Value)} (h:TabLit w es vs):TabLit w (⟨PyData.keyHash w.params x,.str x t,v⟩::es) ((.inr x,v)::vs)
theorem TabLit.pairs:∀ {es vs},TabLit w es vs->Pairs (aY P w) es vs
 | _,_,.nil=>.nil
 | _,_,.cons (x:=x) (t:=t) h=>.cons (jj (k:=.inr x) (show RelV (V.str x) (Value.str x t) from ⟨t,rfl⟩)) rfl h.pairs
theorem TabLit.keys:∀ {es vs},TabLit w es vs->∀ e∈es,∃ k,(aY P w).is k e.key=true/\e.hash=(aY P w).hash k
 | _,_,.nil,e,h=>by simp at h
 | _,_,.cons (x:=x) (t:=t) h,e,he=>by
  rcases Rv.mp he with rfl | he
  ·exact⟨.inr x,jj (k:=.inr x) (show RelV (V.str x) (Value.str x t) from ⟨t,rfl⟩),rfl⟩
  ·exact h.keys e he
theorem Nd{K:W.Frag}{mg:Str->Option Value}{es:List DictEntry}(hg:mg x=U (.ref a))(hl:K.lookup a=U ⟨.type "dict",Y,.dict es.toArray n,#[]⟩)(t:TabLit w es vs)(hn:(vs.map (·.1)).Nodup)(r:TabRel vs l):sA w K mg x l:=
 ⟨a,vs,hg,Dt hl (λP=>by simpa using t.pairs) (λP e he=>t.keys e (by simpa using he)) hn,r⟩
section
variable{X:Cx}{K:W.Frag}{μ μ':Fp}{H H':Hp}{S S':aa}{tg iter:Expr}{pos:Pos}
noncomputable def eh(g:MG)(t:MT)(e:ME)(r:Nat):Nat->Nat->ai->aa->Option (List D×aa)
 | 0,_,_,_=>Y
 | f+1,i,env,S=>match S[r]? with
  | some (.lst xs)=>match xs[i]? with
   | none=>U ([],S)
   | some d=>(g d env S).bind λp=>(t p.1 p.2).bind λb=>if b.1=true then(e p.1 b.2).bind λy=>(eh g t e r f (i+1) p.1 y.2).bind λz=>U (y.1::z.1,z.2) else eh g t e r f (i+1) p.1 b.2
  | _=>Y
noncomputable def bE(m:ME)(g:MG)(t:MT)(e:ME)(cap:List (Option Nat)):ME:=λenv S=>(m env S).bind λp=>match p.1 with
 | .ref r=>(eh g t e r 2000 0 (fP cap env) p.2).bind λz=>U (.lst z.1,z.2)
 | _=>Y
theorem qN(h:tM K (bE mi g t e cap) σ H Q):vp (Mq K (tM K mi)) (nL K g) (jT K t) (tM K e) cap σ H Q:=by
 obtain⟨μ,S,env,d,S',hS,hE,hm,post⟩:=h
 obtain⟨⟨d0,S1⟩,h1,hm⟩:=Rb.mp hm
 dsimp only at hm
 split at hm
 case h_2=>cases hm
 rename_i r
 obtain⟨⟨ys,S2⟩,h2,hm⟩:=Rb.mp hm
 cases hm
 refine⟨μ,S,env,_,S1,hS,hE,h1,λv H1 μ1 e1 s1 r1=>?_⟩
 cases r1 with
 | @ref a _ ha=>
  have hq0:∃ vs,gT K H1 a vs:=by
   unfold eh at h2
   split at h2
   ·rename_i xs q
    obtain⟨vs,hv,_⟩:=s1.cell r a _ ha q
    exact⟨vs,.inl (.inl hv)⟩
   ·cases h2
  refine⟨a,rfl,hq0,λp hp=>?_⟩
  have hpn:=s1.notMem hp
  refine⟨λi n σ' H'=>n+i=2000/\∃ (cs:List Addr) (S':aa) (env':ai) (vs:List V) (zs rest:List D),ExtP μ1 H1 ⟨cs,p::μ1.fb⟩ H'/\SOk K ⟨cs,p::μ1.fb⟩ S' H'/\EOk K ⟨cs,p::μ1.fb⟩ H' σ' env'/\H' p=U (.lst vs) /\
    Reps K ⟨cs,p::μ1.fb⟩ H' vs zs/\eh g t e r n i env' S'=U (rest,S2)/\ys=zs++rest/\vs.length<=i,⟨2000,rfl,μ1.cs,S1,fP cap env,[],[],ys,?_,s1.more hp,?_,ah,.nil,h2,rfl,Rn _⟩,?_⟩
  ·exact⟨⟨[p],rfl,λa z=>by rw[RD.mp z];exact hp⟩,⟨[],by simp,λ_ z=>by simp at z⟩,λa o' n h=>by rw[aj (aQ h hp)];exact h,λa ha=>by
    by_cases z:a=p
    ·subst z;rw[ah];simp
    ·rw[aj z];exact s1.dom a ha⟩
  ·exact((hE.mono e1).block cap).more hp
  rintro i n σ' H' ⟨hn,cs,S',env',vs,zs,rest,eP,s',r',hpv,rz,hl,rfl,hvl⟩
  have pcs:p∉cs:=λz=>s'.disj p Rf z
  cases n with
  | zero=>cases hl
  | succ n=>
   unfold eh at hl
   split at hl
   ·rename_i xs q
    have ha':(⟨cs,p::μ1.fb⟩:Fp).cs[r]?=U a:=eP.ix ha
    obtain⟨ws,hv,rv⟩:=s'.cell r a _ ha' q
    have hsq:gT K H' a ws:=.inl (.inl hv)
    split at hl
    ·rename_i hx
     cases hl
     have eF:Ext μ1 H1 ⟨cs,μ1.fb⟩ H':=⟨rfl,eP.pre,eP.keep,eP.dom⟩
     rw[RU] at post
     exact .inl ⟨⟨ws,hsq,by rw[rv.length];simpa using hx⟩,post _ H' ⟨cs,μ1.fb⟩ (e1.trans eF) s'.less (.lst hpv ⟨λz=>s'.disj p Rf z,hpn.2⟩ rz.less)⟩
    ·rename_i dd hx
     obtain⟨w,hw,rw0⟩:=rv.get hx
     refine .inr ⟨⟨ws,w,hsq,hw⟩,λx H2 y=>?_⟩
     obtain⟨e2,hy⟩:=y
     subst e2
     have ex:x=w:=by have:=hy ws hsq;rw[hw] at this;exact(RJ this).symm
     subst ex
     obtain⟨⟨env3,S3⟩,h3,hl⟩:=Rb.mp hl
     obtain⟨⟨b,S4⟩,h4,hl⟩:=Rb.mp hl
     refine⟨_,S',env',dd,env3,S3,s',r',rw0,h3,λσ3 H3 μ3 e3 s3 r3=>⟨μ3,S3,env3,b,S4,s3,r3,h4,λH4 μ4 e4 s4=>?_⟩⟩
     have eA:=e3.trans e4
     cases b with
     | false=>
      rw[RH Rq] at hl
      dsimp only
      rw[RH Rq]
      obtain⟨cs4,fb4⟩:=μ4
      have hfb:fb4=p::μ1.fb:=eA.fb
      subst hfb
      exact⟨n,Uh _,by omega,cs4,S4,env3,vs,zs,rest,eP.then eA,s4,r3.mono e4,(eA.keeps hpv pcs).1,rz.mono eA,hl,rfl,by omega⟩
     | true=>
      rw[Ru rfl] at hl
      dsimp only
      rw[Ru rfl]
      obtain⟨⟨dv,S5⟩,h5,hl⟩:=Rb.mp hl
      obtain⟨⟨rs,S6⟩,h6,hl⟩:=Rb.mp hl
      cases hl
      refine⟨μ4,S4,env3,dv,S5,s4,r3.mono e4,h5,λv H5 μ5 e5 s5 r5=>?_⟩
      have eB:=eA.trans e5
      obtain⟨cs5,fb5⟩:=μ5
      have hfb:fb5=p::μ1.fb:=eB.fb
      subst hfb
      have sz:2000<sizeLine:=by decide
      exact⟨vs,(eB.keeps hpv pcs).1,by omega,n,Uh _,by omega,cs5,S5,env3,vs++[v],zs++[dv],rs,(eP.then eB).chg hp,s5.chg Rf,((r3.mono e4).mono e5).chg Rf,ah,Reps.chg Rf ((rz.mono eB).append (.cons r5 .nil)),h6,by simp,by rw[Rz,SX];omega⟩
   ·cases hl
theorem HF
  (hc:X.calm=true) (B:BlockOk X N' scope cap) (hi:DE X iter mi) (hg:∀ C s H fp,DG (di X N' scope C s H fp) tg g) (ht:∀ C s H fp,sB (di X N' scope C s H fp) ifs t) (he:∀ C s H fp,DE (di X N' scope C s H fp) elt me)
  (hs:∀ x,foldedSetIterable iter X.env x=pure x:=by intro _;rfl):DE X (.ListComp elt [⟨tg,iter,ifs,0⟩] scope pos) (bE mi g t me cap):=
 PE.imp (tB (g:=nL X.K g) (tt:=jT X.K t) (te:=tM X.K me) hc B (tq hi) hg ht he hs) λ_ _ _ h=>qN h
theorem xu{spos:Pos}{y:Str}{i:Nat}
  (hN:X.N.Nodup) (hy:X.N[i]?=U y) (hx:Bf X.env.scope y)
  (hc:X.calm=true) (B:BlockOk X N' scope cap) (hi:DE X iter mi) (hg:∀ C s H fp,DG (di X N' scope C s H fp) tg g) (ht:∀ C s H fp,sB (di X N' scope C s H fp) ifs t) (he:∀ C s H fp,DE (di X N' scope C s H fp) elt me)
  (hsw:swapsWith (.ListComp elt [⟨tg,iter,ifs,0⟩] scope pos) (U (.Name y py)) spos.line X.env=pure true:=by rfl)
  (hs:∀ x,foldedSetIterable iter X.env x=pure x:=by intro _;rfl) (hf:X.fn y=true\/X.env.scope.names.lookup y=U .local:=by first | exact .inl rfl | exact .inr rfl | assumption) :
  DS X (.Assign [.Name y py] (.ListComp elt [⟨tg,iter,ifs,0⟩] scope pos) spos) (au (bE mi g t me cap) (ag i)):=
 PS.imp (jX (g:=nL X.K g) (tt:=jT X.K t) (te:=tM X.K me) hN hy hx hc B (tq hi) hg ht he hsw hs hf) λE σ H h=>by
  obtain⟨μ,S,env,o,hS,hE,hm,post⟩:=h
  obtain⟨⟨d,S1⟩,h1,hm⟩:=Rb.mp hm
  cases hm
  exact qN ⟨μ,S,env,d,S1,hS,hE,h1,λv H1 μ1 e1 s1 r1=>post _ H1 μ1 e1 s1 ((hE.mono e1).set r1 i)⟩
end
end M
namespace L2
section
variable{X:Cx}
noncomputable def rAddS:R2:=λx y H Q=>∃ a b,x=.str a/\y=.str b/\a.length+b.length<=sizeLine/\Q (.str (a++b)) H
theorem Jw:OpR X (binaryOp .Add) rAddS:=by
 intro pins s σ H x y v u Q I rx ry h
 obtain⟨a,b,rfl,rfl,hz,q⟩:=h
 obtain⟨t,rfl⟩:=rx
 obtain⟨t2,rfl⟩:=ry
 exact add_str (λt' tk=>⟨.str _,H,I.tok _,⟨_,rfl⟩,q⟩) hz
theorem CS:CallR X (.type "str") (λxs H Q=>(∃ i,xs=[.int i]/\i.natAbs.log2<1920/\Q (.str (toString i)) H)\/(xs=[.non]/\Q (.str "None") H)):=by
 intro pins s σ H xs us Q I r h
 rcases h with h | ⟨rfl,q⟩
 ·exact uQ pins s σ H xs us Q I r h
 ·obtain⟨u,rfl,hu⟩:=gD r
  cases hu
  exact PySem.P.str_of_none ⟨.str _,H,I.tok _,⟨_,rfl⟩,q⟩
noncomputable def tFmt(t:TE):TE:=λσ H Q=>t σ H λx H1=>(∃ y,x=.str y/\y.length<=sizeLine/\Q (.str y) H1)\/∃ i,x=.int i/\i.natAbs.log2<1920/\Q (.str (toString i)) H1
theorem NW(h:PE X e t):PE X (.FormattedValue e (-1) Y pos) (tFmt t):=by
 intro pins s σ H Q I q
 refine FormattedValue_plain (bN (h pins s σ H _ I q) λv s1 ⟨x,H1,I1,r1,q1⟩=>?_)
 rcases q1 with ⟨y,rfl,hz,q1⟩ | ⟨i,rfl,hz,q1⟩
 ·obtain⟨t,rfl⟩:=r1
  exact formatField_str (λt' tk=>⟨.str _,H1,I1.tok _,⟨_,rfl⟩,q1⟩) hz
 ·obtain⟨t,rfl⟩:=r1
  exact formatField_int_small hz ⟨.str _,H1,I1.tok _,⟨_,rfl⟩,q1⟩
noncomputable def rJoin(K:W.Frag):V->List V->Hp->VK->Prop:=λx vs H Q=>∃ sep a ys,x=.str sep/\vs=[.ref a]/\(gT K H a (ys.map V.str)\/iP K H a (ys.map V.str))/\(ys.map (·.length)).sum+ys.length*sep.length<=16777216/\Q (.str (Str.join sep ys)) H
theorem jV:∀ {ys:List Str} {us:List Value},Vals (ys.map V.str) us->StrsAre us ys
 | [],_,r=>by cases r;exact .nil
 | y::ys,_,r=>by
  cases r with
  | cons h t=>obtain⟨tk,rfl⟩:=h;exact .cons y tk (jV t)
theorem JC:MtR X "str.join" (rJoin X.K):=by
 intro pins s σ H x vs v us Q I rx rv h
 obtain⟨sep,a,ys,rfl,rfl,hs,hz,q⟩:=h
 obtain⟨t,rfl⟩:=rx
 obtain⟨u,rfl,hu⟩:=gD rv
 cases hu
 have e:Txt.join sep ys=Str.join sep ys:=StrLaws.glued_eq_join sep ys
 rcases hs with hs | hs
 ·obtain⟨its,r,p,_⟩:=I.list hs
  obtain⟨o,n,p1,p2,p3,p4⟩:=p
  exact join_list ⟨o,p1,p2,n,p4⟩ (jV r) hz λt' k=>⟨.str _,H,I.tok _,⟨_,rfl⟩,e ▸ q⟩
 ·obtain⟨its,r,p,_⟩:=I.tuple hs
  exact join_tuple p (jV r) hz λt' k=>⟨.str _,H,I.tok _,⟨_,rfl⟩,e ▸ q⟩
end
end L2
namespace M
open L2
section
variable{X:Cx}{K:W.Frag}{μ μ':Fp}{H H':Hp}{S:aa}
noncomputable def ft(S:aa)(x y:D):Option D:=match x,y with
 | .str a,.str b=>if a.length+b.length<=sizeLine then U (.str (a++b)) else Y
 | _,_=>Y
theorem zT:OpR X (binaryOp .Add) (iQ X.K ft):=OpR.imp Jw λx y H Q ⟨μ,S,dx,dy,dz,hS,h1,h2,h3,post⟩=>by
 cases dx<;>first | cases h3 | skip
 cases dy<;>first | cases h3 | skip
 rename_i a b
 dsimp only[ft] at h3
 by_cases hz:a.length+b.length<=sizeLine
 ·rw[Ru hz] at h3;cases h3;exact⟨a,b,h1.str_inv,h2.str_inv,hz,post.here hS (.str _)⟩
 ·rw[RH hz] at h3;cases h3
noncomputable def gJ(S:aa)(ds:List D):Option D:=match ds with
 | [.int i]=>if i.natAbs.log2<1920 then U (.str (toString i)) else Y
 | [.non]=>U (.str "None")
 | _=>Y
theorem HU:CallR X (.type "str") (yj X.K (az gJ)):=CallR.imp CS λxs H Q ⟨μ,S,ds,d,S',hS,hr,hm,post⟩=>by
 obtain⟨rfl,hm⟩:=bX hm
 cases ds with
 | nil=>cases hm
 | cons x r=>
  cases r with
  | cons _ _=>cases x<;>cases hm
  | nil=>
   obtain⟨v,rfl,r⟩:=hr.one
   cases x with
   | non=>cases hm;cases r;exact .inr ⟨rfl,post.here hS (.str _)⟩
   | int i=>
    dsimp only[gJ] at hm
    by_cases hz:i.natAbs.log2<1920
    ·rw[Ru hz] at hm;cases hm;exact .inl ⟨i,by rw[r.int_inv],hz,post.here hS (.str _)⟩
    ·rw[RH hz] at hm;cases hm
   | _=>cases hm
noncomputable def Kh:D->Option Str
 | .str y=>if y.length<=sizeLine then U y else Y
 | .int i=>if i.natAbs.log2<1920 then U (toString i) else Y
 | _=>Y
noncomputable def fG(m:ME):ME:=λenv S=>(m env S).bind λp=>(Kh p.1).bind λy=>U (.str y,p.2)
theorem Qy(h:DE X e m):DE X (.FormattedValue e (-1) Y pos) (fG m):=PE.imp (NW h) λσ H Q ⟨μ,S,env,d,S',hS,hE,hm,post⟩=>by
 obtain⟨⟨x,S1⟩,h1,hm⟩:=Rb.mp hm
 obtain⟨y,h2,hm⟩:=Rb.mp hm
 cases hm
 refine⟨μ,S,env,x,S1,hS,hE,h1,λv H1 μ1 e1 s1 r1=>?_⟩
 dsimp only at h2
 cases x with
 | int i=>
  dsimp only[Kh] at h2
  by_cases hz:i.natAbs.log2<1920
  ·rw[Ru hz] at h2;cases h2;exact .inr ⟨i,r1.int_inv,hz,post _ H1 μ1 e1 s1 (.str _)⟩
  ·rw[RH hz] at h2;cases h2
 | str z=>
  dsimp only[Kh] at h2
  by_cases hz:z.length<=sizeLine
  ·rw[Ru hz] at h2;cases h2;exact .inl ⟨_,r1.str_inv,hz,post _ H1 μ1 e1 s1 (.str _)⟩
  ·rw[RH hz] at h2;cases h2
 | _=>cases h2
noncomputable def bp:List ME->Str->ME
 | [],out=>λ_ S=>U (.str out,S)
 | m::r,out=>λenv S=>(m env S).bind λp=>match p.1 with
  | .str y=>if (out++y).length<=sizeLine then bp r (out++y) env p.2 else Y
  | _=>Y
inductive DEs(X:Cx):List Expr->List ME->Prop
 | nil:DEs X [] []
 | cons {e:Expr} {m:ME} {es:List Expr} {ms:List ME} (h:DE X e m) (t:DEs X es ms):DEs X (e::es) (m::ms)
theorem wU:∀ {es:List Expr} {ms:List ME},DEs X es ms->∀ (out:Str),out.length<=sizeLine->∀ (pins:List (Addr×Obj)) (s:Shared) (σ:L2.St) (H:Hp) (Q:VK),Inv X pins σ H s->tM X.K (bp ms out) σ H Q ->
  wpAny (model X.prog X.w) X.A (joinParts out (evalEach es X.env)) (EP X pins σ Q) X.xe s
 | _,_,.nil,out,ho,pins,s,σ,H,Q,I,⟨μ,S,env,d,S',hS,hE,hm,post⟩=>by
  cases hm
  exact joinParts_nil ⟨.str _,H,I.tok _,⟨_,rfl⟩,post.here hS (.str _)⟩ ho
 | _,_,.cons h t,out,ho,pins,s,σ,H,Q,I,⟨μ,S,env,d,S',hS,hE,hm,post⟩=>by
  obtain⟨⟨x,S1⟩,h1,hm⟩:=Rb.mp hm
  dsimp only at hm
  cases x<;>first | cases hm | skip
  rename_i y
  dsimp only at hm
  by_cases hz:(out++y).length<=sizeLine
  ·rw[Ru hz] at hm
   refine joinParts_cons (bN (h pins s σ H (λw H1=>w=.str y/\tM X.K (bp _ (out++y)) σ H1 Q) I ⟨μ,S,env,_,S1,hS,hE,h1,λv H1 μ1 e1 s1 r1=>⟨r1.str_inv,μ1,S1,env,d,S',s1,hE.mono e1,hm,post.ext e1⟩⟩) λv s1 ⟨w,H1,I1,r1,e1,q1⟩=>?_)
   subst e1
   obtain⟨tk,rfl⟩:=r1
   exact⟨hz,wU t (out++y) hz pins s1 σ H1 Q I1 q1⟩
  ·rw[RH hz] at hm;cases hm
theorem CH{a b:Expr}{es:List Expr}(h:DEs X (a::b::es) ms):DE X (.JoinedStr (a::b::es) pos) (bp ms Str.empty):=λpins s σ H Q I q=>
 JoinedStr_many (wU h Str.empty (by decide) pins s σ H Q I q)
theorem zx(h:DE X a m):DE X (.JoinedStr [a] pos) m:=λpins s σ H Q I q=>JoinedStr_one (h pins s σ H Q I q)
noncomputable def qT:List D->Option (List Str)
 | []=>U []
 | .str x::r=>(qT r).bind λxs=>U (x::xs)
 | _::_=>Y
theorem qR:∀ {ds:List D} {vs:List V} {ys:List Str},Reps K μ H vs ds->qT ds=U ys->vs=ys.map V.str
 | _,_,_,.nil,h=>by cases h;rfl
 | d::_,_,_,.cons r t,h=>by
  cases d<;>first | cases h | skip
  obtain⟨zs,h1,h2⟩:=Rb.mp h
  cases h2
  rw[r.str_inv,qR t h1];rfl
noncomputable def lr:MF:=λo ds S=>match o,ds with
 | .str sep,[y]=>(fw S y).bind λxs=>(qT xs).bind λys=>if (ys.map (·.length)).sum+ys.length*sep.length<=16777216 then U (.str (Str.join sep ys),S) else Y
 | _,_=>Y
theorem JE:MtR X "str.join" (LU X.K lr):=MtR.imp JC λx vs H Q ⟨μ,S,dx,ds,d,S',hS,r1,r2,h,post⟩=>by
 cases dx<;>first | cases h | skip
 rename_i sep
 cases ds with
 | nil=>cases h
 | cons y l=>
  cases l with
  | cons _ _=>cases h
  | nil=>
   obtain⟨xs,h1,h⟩:=Rb.mp h
   obtain⟨ys,h2,h⟩:=Rb.mp h
   by_cases hz:(ys.map (·.length)).sum+ys.length*sep.length<=16777216
   ·rw[Ru hz] at h;cases h
    obtain⟨v,rfl,rv⟩:=r2.one
    obtain⟨a,ws,rfl,hq,rs⟩:=fH hS rv h1
    have e:=qR rs h2
    subst e
    exact⟨sep,a,ys,r1.str_inv,rfl,hq,hz,post.here hS (.str _)⟩
   ·rw[RH hz] at h;cases h
noncomputable def FX:D->Bool
 | .str _=>true
 | _=>false
noncomputable def bL(o:ME)(ms:MA):ME:=λenv S=>(o env S).bind λp=>if FX p.1=true then(ms env p.2).bind λq=>lr p.1 q.1 q.2 else Y
theorem Hz{e:Expr}{es:List Expr}{apos:Pos}(ho:DE X o mo)(ha:DA X (e::es) ms)
  (hbase:attributeBase o "join" X.env (eval o X.env)=eval o X.env)
  (hfew:((backTo cpos (starEach (e::es) X.env)).all (λx=>!x.1)&&(backToKw cpos (keywordEach [] X.env)).all (λx=>x.1.isSome)&&decide ((e::es).length+([]:List Keyword).length+(if ([]:List Keyword).isEmpty then 0 else 1)<30))=true)
  (hline:(apos.endLine==cpos.line)=true) (hs:starEach (e::es) X.env=(false,eval e X.env)::starEach es X.env) (hpl:(backTo cpos (starEach es X.env)).any (·.1)=false) :
  DE X (.Call (.Attribute o "join" apos) (e::es) [] cpos) (bL mo ms):=
 PE.imp (Ez (X:=X) Vf F.slot_str_join F.type_str_join JE ho ha hbase hfew hline hs hpl) λσ H Q ⟨μ,S,env,d,S',hS,hE,h,post⟩=>by
  obtain⟨⟨x,S1⟩,h1,h⟩:=Rb.mp h
  dsimp only at h
  cases x<;>first | cases h | skip
  rename_i z
  obtain⟨⟨xs,S2⟩,h2,h⟩:=Rb.mp h
  refine⟨μ,S,env,_,S1,hS,hE,h1,λv H1 μ1 e1 s1 r1=>⟨?_,μ1,S1,env,xs,S2,s1,hE.mono e1,h2,λvs H2 μ2 e2 s2 r2=>⟨μ2,S2,_,xs,d,S',s2,r1.mono e2,r2,h,(post.ext e1).ext e2⟩⟩⟩
  rw[r1.str_inv]
  exact rfl
end
end M
namespace M
open L2
section
variable{X:Cx}{K:W.Frag}{μ:Fp}{H:Hp}{S:aa}
theorem DP(hu:X.A.units+1<cLine):QW X (λo i v H Q=>∃ a H',o=.ref a/\DPut H a i v H'/\Q H'):=λpins s σ H o i v ov iv u Q I ro ri rv ⟨a,H',e,g,q⟩=>by
 subst e
 cases ro
 exact CL hu I g ri rv λs' I'=>⟨H',I',q⟩
noncomputable def dN(o i:ME):MG:=λd env S=>(o env S).bind λp=>(i env p.2).bind λq=>match p.1 with
 | .ref r=>match q.2[r]? with
  | some (.dct ks vs)=>(dM q.1).bind λk=>if ks.length<=500 then U (env,q.2.set r (.dct ((ie (ks.zip vs) k d).map (·.1)) ((ie (ks.zip vs) k d).map (·.2)))) else Y
  | _=>Y
 | _=>Y
theorem KP(hu:X.A.units+64<cLine)(ho:DE X o mo)(hi:DE X i mi)(ha:∀ v,assign (.Subscript o i pos) X.env v=(do
   let ov <- holding [v] (eval o X.env)
   let iv <- holding [v,ov] (eval i X.env)
   standAt pos
   holding [v,ov,iv] (setItem ov iv v)
   release [v,ov,iv] []):=by intro _;rfl):DG X (.Subscript o i pos) (dN mo mi):=
 PG.imp (Ep ho hi (DP (by omega)) ha) λv σ H Q ⟨μ,S,env,d,env',S',hS,hE,hr,hm,post⟩=>by
  obtain⟨⟨x,S1⟩,h1,hm⟩:=Rb.mp hm
  obtain⟨⟨y,S2⟩,h2,hm⟩:=Rb.mp hm
  refine⟨μ,S,env,x,S1,hS,hE,h1,λv1 H1 μ1 e1 s1 r1=>⟨μ1,S1,env,y,S2,s1,hE.mono e1,h2,λv2 H2 μ2 e2 s2 r2=>?_⟩⟩
  cases x with
  | ref r=>
   dsimp only at hm
   cases q:S2[r]? with
   | none=>rw[q] at hm;cases hm
   | some c=>
    rw[q] at hm
    cases c with
    | lst xs=>cases hm
    | dct ks xs=>
     obtain⟨k,h3,hm⟩:=Rb.mp hm
     split at hm
     ·rename_i hz
      cases hm
      have r1':=r1.mono e2
      cases r1' with
      | @ref a _ h'=>
       obtain⟨kvs,hv,hk,rv⟩:=s2.cell r a _ h' q
       have rd:=(hr.mono e1).mono e2
       have kk:=(KR.of hk rv).put (k:=k) rd
       obtain⟨e3,s3⟩:=s2.writeD h' hv (kvs':=gM kvs k v) (ks:=(ie (ks.zip xs) k d).map (·.1)) kk.keys.symm kk.reps
       have hkey:=eW h3 r2
       subst hkey
       refine⟨a,_,rfl,DPut.k hv ?_,post σ _ μ2 ((e1.trans e2).trans e3) s3 (hE.mono ((e1.trans e2).trans e3))⟩
       rw[hk,Rt] at hz
       exact TW hz (by decide)
     ·cases hm
  | _=>cases hm
end
end M
namespace L2
noncomputable def PC(e iter:Expr)(acc:Value)(env:Env):Sem Unit:=do
 let x <- eval iter env
 standAt iter.pos
 let x <- foldedSetIterable iter env x
 let it <- holding [x] (pyIter x)
 let _ <- runOwn (.compStart e 1 it acc env) env
 pure ()
theorem jO(elt tg iter tg2 iter2:Expr)(ifs ifs2:List Expr)(scope:Scope)(pos:Pos)(it acc:Value)(env:Env) :
  compTurn (.ListComp elt [⟨tg,iter,ifs,0⟩,⟨tg2,iter2,ifs2,0⟩] scope pos) 0 it acc env=bZ (.ListComp elt [⟨tg,iter,ifs,0⟩,⟨tg2,iter2,ifs2,0⟩] scope pos) tg iter.pos ifs 0 it acc env (PC (.ListComp elt [⟨tg,iter,ifs,0⟩,⟨tg2,iter2,ifs2,0⟩] scope pos) iter2 acc env):=by
 unfold bZ PC
 simp only[bind_assoc,Vk]
 rfl
theorem qE(elt tg iter tg2 iter2:Expr)(ifs ifs2:List Expr)(scope:Scope)(pos:Pos)(it acc:Value)(env:Env) :
  compTurn (.ListComp elt [⟨tg,iter,ifs,0⟩,⟨tg2,iter2,ifs2,0⟩] scope pos) 1 it acc env=bZ (.ListComp elt [⟨tg,iter,ifs,0⟩,⟨tg2,iter2,ifs2,0⟩] scope pos) tg2 iter2.pos ifs2 1 it acc env (mD elt acc env):=rfl
theorem iV{s:Shared}{g1:Comprehension}{tg2 iter2:Expr}{ifs2:List Expr}
  (h0:codeAny (model prog w) A (.compLoop (.ListComp elt [g1,⟨tg2,iter2,ifs2,0⟩] scope pos) 1 it acc env) R s)
  (h:wpAny (model prog w) A (pyIter it) (λit' s'=>codeAny (model prog w) A (.compLoop (.ListComp elt [g1,⟨tg2,iter2,ifs2,0⟩] scope pos) 1 it' acc env) R s') (notedBy (model prog w) A env λx s'=>R (.error x) s') s) :
  codeAny (model prog w) A (.compStart (.ListComp elt [g1,⟨tg2,iter2,ifs2,0⟩] scope pos) 1 it acc env) R s:=by
 refine Vl ?_
 refine wpAny_notedAt ?_
 show wpAny _ _ (compStart _ 1 _ _ _) _ _ _
 refine Rc (wpAny_askSetting (wpAny_ite ?_))
 by_cases hq:({ program:=(model prog w).prog,params:=(model prog w).w.params:Setting }.params.followText "comprehension-iter-twice")=true
 ·rw[Ru hq];exact Rc (Rh (Rh ⟨rfl,h0⟩))
 ·rw[RH hq];exact Rc (TH (Rc (Sn (Rc (RF h (λit' s' h'=>Rh ⟨rfl,h'⟩) λ_ _ z=>z)))))
noncomputable def tIn(wi:TI)(g:TG)(tt:TT)(te:TE)(p:Addr):TB:=λσ H Q=>wi σ H λJ H1=>jU J g tt (tEm te p) σ H1 Q
theorem LX{X:Cx}{tg iter:Expr}{ifs:List Expr}(hc:X.calm=true)(hx:∀ e s,X.xe e s->False)
  (hi:PI X tg2 iter2 wi) (hg:PG X tg2 g) (ht:Be X ifs2 tt) (he:PE X elt te) (hs:∀ x,foldedSetIterable iter2 X.env x=pure x) :
  PB X (PC (.ListComp elt [⟨tg,iter,ifs,0⟩,⟨tg2,iter2,ifs2,0⟩] scope pos) iter2 (.ref p) X.env) (tIn wi g tt te p):=λpins s σ H Q I h=>by
 refine Rc (bN (hi pins s σ H _ I h) λx s1 h1=>Rc (Sn ?_))
 rw[hs]
 refine Rc (Rh (Rc (RX (bN h1 λitv s2 h2=>?_))))
 obtain⟨it,fp,tn,J,H1,e,I2,T,st2,f2,hL⟩:=h2
 subst e
 have loop:=mH (d:=1) hc hx rfl (qE elt tg iter tg2 iter2 ifs ifs2 scope pos _ _ _) hg ht (nN (p:=p) he) T I2 st2 f2 hL
 refine Rc (wpAny_runOwn ?_)
 rw[Around.mark_none]
 refine Sx (iV loop (T.self _ 0 _ _ _ st2 loop)) λr s' ⟨σ',H',hr,J',q'⟩=>?_
 subst hr
 exact Rh ⟨σ',H',J',q'⟩
end L2
namespace M
open L2
section
variable{X:Cx}{K:W.Frag}{H:Hp}{pos:Pos}
inductive iMs(K:W.Frag)(m:MA)(σ:L2.St)(H:Hp)(R:It->Hp->Prop):Prop
 | mk (μ:Fp) (S:aa) (env:ai) (xs:List D) (S':aa) (hS:SOk K μ S H) (hE:EOk K μ H σ env) (h:m env S=U (xs,S')) (post:∀ J H' μ',Ext μ H μ' H'->SOk K μ' S' H'->(∀ μ2 H2,(∀ v d,Rep K μ' H' v d->Rep K μ2 H2 v d)->xS K μ2 H2 J xs)->R J H')
noncomputable def LC(X:Cx)(tg iter:Expr)(m:MA):Prop:=PI X tg iter (iMs X.K m)
theorem zu{a:Expr}{p:Pos}(hm:X.mg "range" = Y)(ha:DA X [a] ms)(hg:Gl X "range":=by rfl)(hs:starEach [a] X.env=[(false,eval a X.env)]:=by rfl):LC X tg (.Call (.Name "range" p) [a] [] pos) (aF ms):=
 PI.imp (qY hg hm ha hs) λσ H R ⟨μ,S,env,xs,S',hS,hE,hm,post⟩=>by
  obtain⟨⟨ds,S1⟩,h1,hm⟩:=Rb.mp hm
  refine⟨μ,S,env,ds,S1,hS,hE,h1,λvs H1 μ1 e1 s1 r1=>?_⟩
  dsimp only at hm
  split at hm
  ·split at hm
   ·rename_i hb
    cases hm
    obtain⟨v,rfl,r⟩:=r1.one
    exact⟨_,by rw[r.int_inv],hb.1,hb.2,post _ H1 μ1 e1 s1 λ_ _ _=>kf 0 _⟩
   ·cases hm
  ·cases hm
theorem KM(h:DE X iter m):LC X tg iter (cO m):=PI.imp (Em h) λσ H R ⟨μ,S,env,xs,S',hS,hE,hm,post⟩=>by
 obtain⟨⟨d,S1⟩,h1,hm⟩:=Rb.mp hm
 refine⟨μ,S,env,d,S1,hS,hE,h1,λv H1 μ1 e1 s1 r1=>?_⟩
 cases d with
 | lst ys=>
  cases hm
  have r1':=r1
  obtain⟨a,vs,rfl,q,_,rs⟩:=r1.sqL
  exact⟨a,rfl,.inl ⟨⟨vs,.inl (.inl q)⟩,post _ H1 μ1 e1 s1 λ_ _ f=>jF (.inl rfl) (f _ _ r1') rfl⟩⟩
 | tup ys=>
  cases hm
  have r1':=r1
  obtain⟨a,vs,rfl,q,rs⟩:=r1.sqT
  exact⟨a,rfl,.inr ⟨⟨vs,q⟩,post _ H1 μ1 e1 s1 λ_ _ f=>wV (f _ _ r1')⟩⟩
 | rol ys=>
  cases hm
  have r1':=r1
  obtain⟨a,vs,rfl,q,rs⟩:=r1.sqR
  exact⟨a,rfl,.inl ⟨⟨vs,q⟩,post _ H1 μ1 e1 s1 λ_ _ f=>jF (.inr rfl) (f _ _ r1') rfl⟩⟩
 | _=>cases hm
noncomputable def gb(g:MG)(t:MT)(e:ME):List D->ai->aa->Option (List D×ai×aa)
 | [],env,S=>U ([],env,S)
 | d::ds,env,S=>(g d env S).bind λp=>(t p.1 p.2).bind λb=>if b.1=true then(e p.1 b.2).bind λq=>(gb g t e ds p.1 q.2).bind λr=>U (q.1::r.1,r.2) else gb g t e ds p.1 b.2
noncomputable def fZ(g:MG)(t:MT)(mi2:MA)(g2:MG)(t2:MT)(e:ME):List D->ai->aa->Option (List D×aa)
 | [],_,S=>U ([],S)
 | d::ds,env,S=>(g d env S).bind λp=>(t p.1 p.2).bind λb=>if b.1=true then(mi2 p.1 b.2).bind λq=>(gb g2 t2 e q.1 p.1 q.2).bind λr=>(fZ g t mi2 g2 t2 e ds r.2.1 r.2.2).bind λz=>U (r.1++z.1,z.2) else fZ g t mi2 g2 t2 e ds p.1 b.2
noncomputable def bF(mi:MA)(g:MG)(t:MT)(mi2:MA)(g2:MG)(t2:MT)(e:ME)(cap:List (Option Nat)):ME:=λenv S=>(mi env S).bind λp=>(fZ g t mi2 g2 t2 e p.1 (fP cap env) p.2).bind λq=>if q.1.length<=sizeLine then U (.lst q.1,q.2) else Y
structure CpI(K:W.Frag)(μ1:Fp)(H1:Hp)(p:Addr)(σ:L2.St)(H:Hp)(cs:List Addr)(S:aa)(env:ai)(vs:List V)(zs:List D):Prop where
 ext:ExtP μ1 H1 ⟨cs,p::μ1.fb⟩ H
 sok:SOk K ⟨cs,p::μ1.fb⟩ S H
 eok:EOk K ⟨cs,p::μ1.fb⟩ H σ env
 lst:H p=U (.lst vs)
 rep:Reps K ⟨cs,p::μ1.fb⟩ H vs zs
theorem CpI.go{H:Hp}{cs':List Addr}(c:CpI K μ1 H1 p σ H cs S env vs zs)(e:Ext ⟨cs,p::μ1.fb⟩ H ⟨cs',p::μ1.fb⟩ H')(s:SOk K ⟨cs',p::μ1.fb⟩ S' H')(r:EOk K ⟨cs',p::μ1.fb⟩ H' σ' env'):CpI K μ1 H1 p σ' H' cs' S' env' vs zs:=
 ⟨c.ext.then e,s,r,(e.keeps c.lst λz=>c.sok.disj p Rf z).1,c.rep.mono e⟩
theorem CpI.app{H:Hp}{d:D}(c:CpI K μ1 H1 p σ H cs S env vs zs)(hp:H1 p=Y)(r:Rep K ⟨cs,p::μ1.fb⟩ H v d):CpI K μ1 H1 p σ (upd H p (.lst (vs++[v]))) cs S env (vs++[v]) (zs++[d]):=
 ⟨c.ext.chg hp,c.sok.chg Rf,c.eok.chg Rf,ah,Reps.chg Rf (c.rep.append (.cons r .nil))⟩
theorem qP{t2:MT}(h:tM K (bF mi g t mi2 g2 t2 e cap) σ H Q):lM (iM K mi) (nL K g) (jT K t) (tIn (iMs K mi2) (nL K g2) (jT K t2) (tM K e)) cap σ H Q:=by
 obtain⟨μ,S,env,d,S9,hS,hE,hm,post⟩:=h
 obtain⟨⟨xs,S1⟩,h1,hm⟩:=Rb.mp hm
 obtain⟨⟨ys,S2⟩,h2,hm⟩:=Rb.mp hm
 dsimp only at hm
 split at hm
 case isFalse=>cases hm
 rename_i hsz
 cases hm
 refine⟨μ,S,env,xs,S1,hS,hE,h1,λJ H1 μ1 e1 s1 it p hp=>?_⟩
 have hpn:=s1.notMem hp
 refine⟨λi n σ' H'=>n=xs.length - i/\i<=xs.length/\∃ (cs:List Addr) (S':aa) (env':ai) (vs:List V) (zs rest:List D),CpI K μ1 H1 p σ' H' cs S' env' vs zs/\fZ g t mi2 g2 t2 e (xs.drop i) env' S'=U (rest,S9)/\ys=zs++rest,
  ⟨xs.length,by simp,SJ _,μ1.cs,S1,fP cap env,[],[],ys,⟨?_,s1.more hp,((hE.mono e1).block cap).more hp,ah,.nil⟩,by rw[SK];exact h2,rfl⟩,?_⟩
 ·exact⟨⟨[p],rfl,λa z=>by rw[RD.mp z];exact hp⟩,⟨[],by simp,λ_ z=>by simp at z⟩,λa o' n h=>by rw[aj (aQ h hp)];exact h,λa ha=>by
   by_cases z:a=p
   ·subst z;rw[ah];simp
   ·rw[aj z];exact s1.dom a ha⟩
 rintro i n σ' H' ⟨rfl,hi,cs,S',env',vs,zs,rest,c,hl,rfl⟩
 have iti:=it _ H' S' c.ext c.sok i
 by_cases hlt:i<xs.length
 ·refine .inr ⟨(iti.1 xs[i] (Rp hlt)).1,λx H2 y=>?_⟩
  obtain⟨e2,s2,rx⟩:=(iti.1 xs[i] (Rp hlt)).2 x H2 y
  rw[RW hlt] at hl
  obtain⟨⟨env3,S3⟩,h3,hl⟩:=Rb.mp hl
  obtain⟨⟨b,S4⟩,h4,hl⟩:=Rb.mp hl
  refine⟨_,S',env',xs[i],env3,S3,s2,c.eok.mono e2,rx,h3,λσ3 H3 μ3 e3 s3 r3=>⟨μ3,S3,env3,b,S4,s3,r3,h4,λH4 μ4 e4 s4=>?_⟩⟩
  have eA:=(e2.trans e3).trans e4
  obtain⟨cs4,fb4⟩:=μ4
  have hfb:fb4=p::μ1.fb:=eA.fb
  subst hfb
  have c4:=c.go eA s4 (r3.mono e4)
  cases b with
  | false=>
   rw[RH Rq] at hl
   dsimp only
   rw[RH Rq]
   exact⟨xs.length - (i+1),by omega,rfl,hlt,cs4,S4,env3,vs,zs,rest,c4,hl,rfl⟩
  | true=>
   rw[Ru rfl] at hl
   dsimp only
   rw[Ru rfl]
   obtain⟨⟨us,S5⟩,h5,hl⟩:=Rb.mp hl
   obtain⟨⟨ws,env6,S6⟩,h6,hl⟩:=Rb.mp hl
   obtain⟨⟨rs,S7⟩,h7,hl⟩:=Rb.mp hl
   cases hl
   refine⟨_,S4,env3,us,S5,s4,r3.mono e4,h5,λJ2 H5 μ5 e5 s5 it2=>?_⟩
   obtain⟨cs5,fb5⟩:=μ5
   have hfb:fb5=p::μ1.fb:=e5.fb
   subst hfb
   refine⟨λj n σ' H'=>n=us.length - j/\j<=us.length/\∃ (cs:List Addr) (S':aa) (env':ai) (vs:List V) (zs' rest:List D),CpI K μ1 H1 p σ' H' cs S' env' vs zs'/\(∀ v d,Rep K ⟨cs5,p::μ1.fb⟩ H5 v d->Rep K ⟨cs,p::μ1.fb⟩ H' v d)/\gb g2 t2 e (us.drop j) env' S'=U (rest,env6,S6)/\zs++ws=zs'++rest,
    ⟨us.length,by simp,SJ _,cs5,S5,env3,vs,zs,ws,c4.go e5 s5 (c4.eok.mono e5),λ_ _ z=>z,by rw[SK];exact h6,rfl⟩,?_⟩
   rintro j n σ' H' ⟨rfl,hj,cs,S',env',vs',zs',rest',c',rk,hl',hz⟩
   have itj:=it2 _ _ rk _ H' S' c'.sok.ext.toP c'.sok j
   by_cases hlj:j<us.length
   ·refine .inr ⟨(itj.1 us[j] (Rp hlj)).1,λx2 H2 y2=>?_⟩
    obtain⟨f2,q2,rx2⟩:=(itj.1 us[j] (Rp hlj)).2 x2 H2 y2
    rw[RW hlj] at hl'
    obtain⟨⟨env3',S3'⟩,k3,hl'⟩:=Rb.mp hl'
    obtain⟨⟨b',S4'⟩,k4,hl'⟩:=Rb.mp hl'
    refine⟨_,S',env',us[j],env3',S3',q2,c'.eok.mono f2,rx2,k3,λσ3 H3 μ3 e3 s3 r3=>⟨μ3,S3',env3',b',S4',s3,r3,k4,λH4 μ4 e4 s4=>?_⟩⟩
    have eA:=(f2.trans e3).trans e4
    obtain⟨cs4,fb4⟩:=μ4
    have hfb:fb4=p::μ1.fb:=eA.fb
    subst hfb
    have c4:=c'.go eA s4 (r3.mono e4)
    cases b' with
    | false=>
     rw[RH Rq] at hl'
     dsimp only
     rw[RH Rq]
     exact⟨us.length - (j+1),by omega,rfl,hlj,cs4,S4',env3',vs',zs',rest',c4,λv d z=>(rk v d z).mono eA,hl',hz⟩
    | true=>
     rw[Ru rfl] at hl'
     dsimp only
     rw[Ru rfl]
     obtain⟨⟨dv,S8⟩,k5,hl'⟩:=Rb.mp hl'
     obtain⟨⟨rs',q8⟩,k6,hl'⟩:=Rb.mp hl'
     cases hl'
     refine⟨_,S4',env3',dv,S8,s4,c4.eok,k5,λv H5 μ5 e5 s5 r5=>?_⟩
     obtain⟨cs5,fb5⟩:=μ5
     have hfb:fb5=p::μ1.fb:=e5.fb
     subst hfb
     have c5:=c4.go e5 s5 (c4.eok.mono e5)
     have hv:=c5.rep.length
     have hlen:=congrArg List.length hz
     simp only[Rz,Rr] at hlen hsz
     exact⟨vs',c5.lst,by omega,us.length - (j+1),by omega,rfl,hlj,cs5,S8,env3',vs'++[v],zs'++[dv],rs',c5.app hp r5,λv d z=>Rep.chg Rf ((((rk v d z).mono eA)).mono e5),k6,by rw[hz];simp⟩
   ·have e:j=us.length:=by omega
    subst e
    rw[SU] at hl'
    cases hl'
    rw[RU] at hz
    subst hz
    exact .inl ⟨itj.2 (Rn _),xs.length - (i+1),by omega,rfl,hlt,cs,S6,env6,vs',zs++ws,rs,c',h7,by simp⟩
 ·have e:i=xs.length:=by omega
  subst e
  refine .inl ⟨iti.2 (Rn _),?_⟩
  rw[SU] at hl
  cases hl
  have eF:Ext μ1 H1 ⟨cs,μ1.fb⟩ H':=⟨rfl,c.ext.pre,c.ext.keep,c.ext.dom⟩
  rw[RU] at post
  exact post _ H' ⟨cs,μ1.fb⟩ (e1.trans eF) c.sok.less (.lst c.lst ⟨λz=>c.sok.disj p Rf z,hpn.2⟩ c.rep.less)
variable{elt tg iter tg2 iter2:Expr}{ifs ifs2:List Expr}{scope:Scope}{spos py:Pos}{N':List Str}{cap:List (Option Nat)}{mi mi2:MA}{g g2:MG}{t t2:MT}{me:ME}{y:Str}{i:Nat}
theorem HH(hc:X.calm=true)(B:BlockOk X N' scope cap)(hi:DI X tg iter mi)(hg:∀ C s H fp,DG (di X N' scope C s H fp) tg g)(ht:∀ C s H fp,sB (di X N' scope C s H fp) ifs t)
  (hi2:∀ C s H fp,LC (di X N' scope C s H fp) tg2 iter2 mi2) (hg2:∀ C s H fp,DG (di X N' scope C s H fp) tg2 g2) (ht2:∀ C s H fp,sB (di X N' scope C s H fp) ifs2 t2) (he:∀ C s H fp,DE (di X N' scope C s H fp) elt me)
  (hs:∀ x,foldedSetIterable iter X.env x=pure x) (hs2:∀ env x,foldedSetIterable iter2 env x=pure x):DE X (.ListComp elt [⟨tg,iter,ifs,0⟩,⟨tg2,iter2,ifs2,0⟩] scope pos) (bF mi g t mi2 g2 t2 me cap):=
 PE.imp (oN (g:=nL X.K g) (tt:=jT X.K t) (tb:=tIn (iMs X.K mi2) (nL X.K g2) (jT X.K t2) (tM X.K me)) hc B hi hg ht (λ_ _ _=>jO ..) (λC s H fp p=>LX hc (λ_ _ z=>z) (hi2 C s H fp) (hg2 C s H fp) (ht2 C s H fp) (he C s H fp) (hs2 _)) hs) λ_ _ _ h=>qP h
theorem xx(hN:X.N.Nodup)(hy:X.N[i]?=U y)(hx:Bf X.env.scope y)
  (hc:X.calm=true) (B:BlockOk X N' scope cap) (hi:DI X tg iter mi) (hg:∀ C s H fp,DG (di X N' scope C s H fp) tg g) (ht:∀ C s H fp,sB (di X N' scope C s H fp) ifs t)
  (hi2:∀ C s H fp,LC (di X N' scope C s H fp) tg2 iter2 mi2) (hg2:∀ C s H fp,DG (di X N' scope C s H fp) tg2 g2) (ht2:∀ C s H fp,sB (di X N' scope C s H fp) ifs2 t2) (he:∀ C s H fp,DE (di X N' scope C s H fp) elt me)
  (hsw:swapsWith (.ListComp elt [⟨tg,iter,ifs,0⟩,⟨tg2,iter2,ifs2,0⟩] scope pos) (U (.Name y py)) spos.line X.env=pure true)
  (hs:∀ x,foldedSetIterable iter X.env x=pure x) (hs2:∀ env x,foldedSetIterable iter2 env x=pure x) (hf:X.fn y=true\/X.env.scope.names.lookup y=U .local) :
  DS X (.Assign [.Name y py] (.ListComp elt [⟨tg,iter,ifs,0⟩,⟨tg2,iter2,ifs2,0⟩] scope pos) spos) (au (bF mi g t mi2 g2 t2 me cap) (ag i)):=
 PS.imp (jc (g:=nL X.K g) (tt:=jT X.K t) (tb:=tIn (iMs X.K mi2) (nL X.K g2) (jT X.K t2) (tM X.K me)) hN hy hx hc B hi hg ht (λ_ _ _=>jO ..) (λC s H fp p=>LX hc (λ_ _ z=>z) (hi2 C s H fp) (hg2 C s H fp) (ht2 C s H fp) (he C s H fp) (hs2 _)) hsw hs hf) λE σ H h=>by
  obtain⟨μ,S,env,o,hS,hE,hm,post⟩:=h
  obtain⟨⟨d,S1⟩,h1,hm⟩:=Rb.mp hm
  cases hm
  exact qP ⟨μ,S,env,d,S1,hS,hE,h1,λv H1 μ1 e1 s1 r1=>post _ H1 μ1 e1 s1 ((hE.mono e1).set r1 i)⟩
end
section
variable{X:Cx}{e:Expr}{m:ME}{pos:Pos}
theorem Bs(bs:List Bool):((List.range bs.length).any λi=>(bs[i]?).getD true)=bs.any id:=by
 rw[Bool.eq_iff_iff,Vd,Vd]
 constructor
 ·rintro⟨i,hi,h⟩
  have hi':=Sv.mp hi
  rw[Rp hi'] at h
  exact⟨bs[i],Ui hi',h⟩
 ·rintro⟨b,hb,h⟩
  obtain⟨i,hi,e⟩:=We.mp hb
  exact⟨i,Sv.mpr hi,by rw[Rp hi,e];exact h⟩
theorem Gw{d:D}(h:Ko S ds=U d):∃ zs bs,ds=[.lst zs]/\iF zs=U bs/\d=.bl (bs.any id):=by
 unfold Ko at h
 split at h
 ·obtain⟨bs,h1,h2⟩:=Rb.mp h
  cases h2;exact⟨_,_,rfl,h1,rfl⟩
 ·cases h
theorem HX(hc:X.calm=true):CallR X (.builtin "any") (yj X.K (az Ko)):=by
 intro pins s σ H xs us Q I rv ⟨μ,S,ds,d,S',hS,hr,hm,post⟩
 obtain⟨rfl,hm⟩:=bX hm
 obtain⟨zs,bs,rfl,h1,rfl⟩:=Gw hm
 obtain⟨v,rfl,r⟩:=hr.one
 obtain⟨u,rfl,ru⟩:=gD rv
 obtain⟨a,vs,rfl,q,n,r⟩:=r.sqL
 cases ru
 obtain⟨its,rv',pl,hz⟩:=I.list (.inl (.inl q))
 have hl:=pl.isList
 have hb:=jz r rv' h1
 have hlt:a<s.heap.objs.size:=by obtain⟨_,e,_⟩:=hl;exact Ro e
 refine call_any_walk (TZ hl ⟨s.heap.objs.size,[s.heap.objs.size,a],[s.heap.objs.size],its.toArray.size,_,_,λi=>(bs[i]?).getD true,rfl,Walks.list (A:=X.A.in1) (I.ok.hd hc) _ a (RL hlt) its.toArray,
  ⟨⟨_,Rs _ rfl,rfl,rfl⟩,hl.push _⟩,λi v s' Q' E' hP hQ=>?_,λh' tk hk=>?_⟩)
 ·obtain⟨b,e,rfl⟩:=hb.get i v (by simpa using hP)
  simp only[e,Vb] at hQ
  exact SL hQ
 ·rw[Rk,hb.length,Bs]
  exact⟨.bl _,H,I.kept (LSm.kept_iter hk),rfl,post.here hS (.bl _)⟩
end
end M
namespace HT
section
variable{prog:Program}{w:World}{A:Around}{E:Value->Shared->Prop}{h:Heap}{g:Array GenState}{d:Drawn}{t:Nat}{os:OsState}
variable{nm q:Str}{C N:Addr}{bs bm bmB:List Value}{hdct:Bool}{sn:List Str}{sub:List Value}{ab:Bool}{col:Option Bool}{dd:Option Addr}{k0 k1 k2 k3 k5:Option Value}{B newId initId:String}
noncomputable abbrev pQ(h:Heap)(C:Addr)(rest:List Value):Heap:=(h.push { cls:=.type "tuple",data:=.seq rest.toArray }).push { cls:=.ref C,data:=.fields #[.ref h.objs.size,.none,.none,.none,.bool false,.none] }
theorem fO{o:Obj}(e:h.get? b=U o):(pQ h C rest).get? b=U o:=Re _ (Re _ e)
theorem mx:(pQ h C rest).get? (h.objs.size+1)=U { cls:=.ref C,data:=.fields #[.ref h.objs.size,.none,.none,.none,.bool false,.none] }:=by heap_get
theorem kJ(F:ExcBaseFacts B newId initId bmB)(T:OwnTail h bmB bm){rest:List Value}{Q:Fin->Shared->Prop}
  (hC:h.get? C=U (excClassObj nm q C N bs bm hdct sn sub ab col dd k0 k1 k2 k3 k5 newId)) (hn:h.Ns N mN) (hni:mN "__init__" = U (.ref f))
  {of:Obj} (hfo:h.get? f=U of) (hfc:of.cls=.type "function") (hrest:rest.length<=sizeLine)
  (hq:wpAny (model prog w) A (call (.ref f) (.ref (h.objs.size+1)::rest)) (λv s'=>v=.none/\Q (.done (.ret (.ref (h.objs.size+1)))) s') E ⟨pQ h C rest,g,d,t,os⟩) :
  wpAny (model prog w) A (Builtin.«type.__call__» ⟨.ref C::rest,[]⟩) Q E ⟨h,g,d,t,os⟩:=by
 repeat (first | wp_step | with_reducible refine wpAny_madeBy_exc hC ?_ | with_reducible refine SM hC ?_)
 refine codeAny_call_builtin_code (Wq _ F.quiet) (wpAny_check_new_subT F T hC (codeAny_exc_new_subT F T hC ?_ hrest))
 show wpAny _ _ _ _ _ _
 have kC:=fO (C:=C) (rest:=rest) hC
 have at0:=mx (h:=h) (C:=C) (rest:=rest)
 have own:(Value.ref C::bm).contains (.ref C)=true:=by simp
 unfold isInstance
 repeat (first | wp_step | with_reducible refine SM at0 ?_ | (with_reducible refine TK kC ?_;rw[own]))
 show wpAny _ _ (typeLookup (.ref C) _) _ _ _
 refine wpAny_typeLookup_tail kC (hn.keeps λb o e=>fO e) (T.keeps λb o e=>fO e) F.mroIs F.init.lookup ?_
 rw[hni]
 refine RX (Rc (wpAny_bindSpecial_def (of:=of) (fO hfo) hfc (Rc (RF hq (λv s' z=>Rh ?_) λ_ _ x=>x))))
 obtain⟨rfl,z⟩:=z
 show wpAny _ _ (if (Value.none != Value.none)=true then _ else ret _) _ _ _
 rw[RH (by simp)]
 exact Rh z
theorem uS(F:ExcBaseFacts B newId initId bmB)(T:OwnTail h bmB bm){rest:List Value}{Q:Value->Shared->Prop}
  (hC:h.get? C=U (excClassObj nm q C N bs bm hdct sn sub ab col dd k0 k1 k2 k3 k5 newId)) (hn:h.Ns N mN) (hni:mN "__init__" = U (.ref f))
  {of:Obj} (hfo:h.get? f=U of) (hfc:of.cls=.type "function") (hrest:rest.length<=sizeLine)
  (hq:wpAny (model prog w) (A.under (.builtin "type.__call__" ⟨.ref C::rest,[]⟩)) (call (.ref f) (.ref (h.objs.size+1)::rest)) (λv s'=>v=.none/\Q (.ref (h.objs.size+1)) s') E ⟨pQ h C rest,g,d,t,os⟩) :
  wpAny (model prog w) A (call (.ref C) rest) Q E ⟨h,g,d,t,os⟩:=by
 have f1:=tc_lookup
 have f2:=tc_bind (.ref C)
 have hT:(⟨h,g,d,t,os⟩:Shared).TypeIs (.ref C) "type":=⟨_,hC,rfl⟩
 refine Uv (Vl ?_)
 show wpAny _ _ (callAny (.ref C) _) _ _ _
 repeat (any_goals (first | assumption | with_reducible refine SM hC ?_ | wp_step))
 refine⟨rfl,?_⟩
 refine codeAny_call_builtin_at (Wq _ (by decide +kernel)) entry_typeCall (wpAny_check_type_call_sub hC (kJ F T hC hn hni hfo hfc hrest ?_))
 exact hq
theorem oJ{s:Shared}(hbase:bm.contains (.type "BaseException")=true)(hh:A.handled=Y)
  (h:wpAny M A x (λv s₁=>∃ e t dx,v=.ref e/\s₁.heap.get? C=U (excClassObj nm q C N bs bm hdct sn sub ab col dd k0 k1 k2 k3 k5 newId) /\
   s₁.heap.get? e=U { cls:=.ref C,dict:=dx,data:=.fields #[.ref t,.none,.none,.none,.bool false,.none] }/\E (.ref e) s₁) E s) :
  wpAny M A (raiseStmt env (U x) Y) Q E s:=by
 have hcB:(Value.ref C::bm).contains (.type "BaseException")=true:=by rw[UI,hbase,Wa]
 unfold raiseStmt
 refine Rc (RF h (λv s₁ h₁=>?_) λ_ _ x=>x)
 obtain⟨e,t,dx,rfl,hC,he,hE⟩:=h₁
 obtain⟨hp,g,d,tk,os⟩:=s₁
 repeat (first | with_reducible refine SM he ?_ | with_reducible refine SM hC ?_ | (with_reducible refine TK hC ?_;rw[hcB]) | wp_step)
 exact wpAny_raiseNew_none hh hE
end
section
open PySem.W Builtin Builtin.ObjectAttr Builtin.Getset_descriptor
noncomputable def gC:List Value:=[.type "ValueError",.type "Exception",.type "BaseException",.type "object"]
noncomputable def zb:Value->Bool
 | .ref _=>true
 | _=>false
inductive mK:List Value->Prop
 | base:mK gC
 | own {c:Addr} {r:List Value}:mK r->mK (.ref c::r)
theorem LG:∀ {l:List Value},(l.dropWhile zb==gC)=true->mK l
 | [],e=>absurd e (by decide)
 | x::r,e=>by
  cases hx:zb x with
  | true=>
   rw[List.dropWhile_cons_of_pos hx] at e
   cases x with
   | ref c=>exact .own (LG e)
   | _=>cases hx
  | false=>
   rw[List.dropWhile_cons_of_neg (by simp[hx])] at e
   rw[eq_of_beq e];exact .base
theorem Br(self:Value)(h:mK l):refuseLoop self "__setattr__" l=pure ():=by
 induction h with
 | base=>exact F.store_ValueError.passes self
 | own _ ih=>rw[refuseLoop_ref];exact ih
theorem Dp(h:mK l):l.contains (.type "object")=true:=by
 induction h with
 | base=>decide
 | own _ ih=>rw[UI,ih,Wa]
noncomputable def nM(K:Frag)(C:Addr):Bool:=(clsIn K C).any λcd=>cd.mro.dropWhile zb==gC
variable{prog:Program}{w:World}{A:Around}{E:Value->Shared->Prop}{s:Shared}{K:Frag}{x C:Addr}{R:Result->Shared->Prop}
theorem Jr{r:Option Value}(X:K.In s.heap)(I:InstAt s.heap x ox C od)(hp:nM K C=true)(ht:takerIn K C name=U r)
  (h:∀ b,wpAny (model prog w) A.in1 (match r with | some a=>setByDescriptor a (.ref x) v | none=>storeInOwnDict (.ref x) (.ref C) (.str name tk) name v b)
   (λfin s'=>match fin with | .done f=>R (.ok f) s' | .again c'=>c'.quiet=true/\codeAny (model prog w) A c' R s') (λe s'=>R (.error e) s') s) :
  codeAny (model prog w) A (.call (.builtin "object.__setattr__") ⟨[.ref x,.str name tk,v],[]⟩) R s:=by
 have SF:=F.store_object
 obtain⟨cd,hc,ho⟩:=any_some hp
 have ho:=LG ho
 have ne:cd.mro.isEmpty=false:=by
  cases q:cd.mro with
  | nil=>rw[q] at ho;exact absurd (Dp ho) (by decide)
  | cons _ _=>rfl
 have sub:Looks (model prog w) s.heap (isInstance (.ref x) (.type "object")) true:=I.type.andThen (looks_mroIn X (by unfold mroIn;rw[hc,Option.bind_some,RH (by rw[ne];decide),Dp ho]))
 refine Wc SF.slot.plain SF.entry (@check_slot (model prog w) _ _ s "object.__setattr__" "object" "__setattr__" (.ref x) [.str name tk,v] [] _ SF.kind SF.split sub (SF.args (.ref x) (.str name tk) v) ?_)
 obtain⟨attr,ha,hr⟩:=Rb.mp ht
 have hm:Looks (model prog w) s.heap (mroOf (.ref C)) cd.mro:=(looks_clsIn X hc).andThen .now
 have L3:Looks (model prog w) s.heap (storeTaker? attr) r:=by
  cases attr with
  | none=>cases hr;exact .now
  | some a=>
   obtain⟨b,hb,rfl⟩:=Tt.mp hr
   refine(looks_takesIn X hb).andThen ?_
   cases b<;>exact .now
 rw[osa_eq,refuse_eq]
 refine Rc (Rc (I.type.here (Rc (hm.here ?_))))
 rw[Br _ ho]
 refine Rh (Rc (I.type.here (Rc ((looks_findIn X ha).here (Rc (L3.here ?_))))))
 exact h _
theorem IG{fs:Array Value}{v:Value}{Q:Unit->Shared->Prop}(X:K.In s.heap)(I:InstAt s.heap x ⟨.ref C,Y,.fields fs,#[]⟩ C Y)
  (hs:findIn K (.ref C) "__setattr__" = U (U (.builtin "object.__setattr__"))) (hp:nM K C=true) (ht:takerIn K C name=U Y) (hh:hasDictIn K C=true)
  (h:∀ h' t',h'.get? x=U ⟨.ref C,U s.heap.objs.size,.fields fs,#[]⟩->h'.Ns1 s.heap.objs.size (λy=>if y=name then U v else Y) ->
   (∀ b o,b≠x->s.heap.get? b=U o->h'.get? b=U o)->Q () { s with heap:=h',toks:=t' }) :
  wpAny (model prog w) A (setAttr (.ref x) name v) Q E s:=by
 refine set_plain X I hs (Jr (s:={ s with toks:=s.toks+1 }) (r:=Y) X I hp ht λb=>?_)
 obtain⟨cd,hc,hd'⟩:=any_some hh
 have hx:=I.at_
 refine Rc (Rh (Rc (Rc (wpAny_loadPart hx (Rc (Looks.here (s:={ s with toks:=s.toks+1 }) (looks_clsIn X hc) ?_))))))
 rw[hd',RH (by decide)]
 obtain⟨h0,g,d,tk,os⟩:=s
 have hx₁:(h0.push { cls:=.type "dict",data:=.dict #[] }).get? x=U ⟨.ref C,Y,.fields fs,#[]⟩:=Re _ hx
 have hxs:x≠h0.objs.size:=RL (Ro hx)
 dsimp only
 rw[RH (by simp[typeHasDict])]
 refine Rc (wpAny_alloc' ?_)
 refine Rc (wpAny_update' hx₁ ?_)
 refine Rh ?_
 have hgd:((h0.push { cls:=.type "dict",data:=.dict #[] }).update x λo=>{ cls:=o.cls,dict:=U h0.objs.size,data:=o.data,slots:=o.slots }).get? h0.objs.size
   = U { cls:=.type "dict",data:=.dict #[] }:=
  (RQ _ _ _ _ hxs.symm).trans (Heap.get?_push_at rfl rfl)
 have hnd:((h0.push { cls:=.type "dict",data:=.dict #[] }).update x λo=>{ cls:=o.cls,dict:=U h0.objs.size,data:=o.data,slots:=o.slots }).Ns h0.objs.size (λ_=>Y):=
  ⟨_,#[],_,hgd,rfl,λe he=>absurd he (by simp),λ_=>rfl⟩
 show wpAny _ _ (storeInDict h0.objs.size (.str name tk) name v) _ _ _
 unfold storeInDict newKeyGuard
 refine Rc (Rh (Rc (wpAny_nsSet1 (Heap.Ns1.of_empty hnd) λh' hn' hs=>?_)))
 obtain⟨oD,esD,epD,hoD,hdD,hcD⟩:=hn'.count (Within.cons name v Within.nil)
 refine Rc (wpAny_lookBehind hoD (by rw[hdD];exact pastItsLine_dict (RG hcD (by rw[Rr,Sl,Ug];omega))) ?_)
 refine Rh (h h' _ ?_ hn' λb ob hbx hb=>?_)
 ·exact(hs.2 x hxs).trans (RK _ hx₁ rfl)
 ·exact(hs.2 b (RL (Ro hb))).trans ((RQ _ _ _ _ hbx).trans (Re _ hb))
end
end HT
namespace HT
section
variable{M:Model}{A:Around}{E:Value->Shared->Prop}{s:Shared}
structure Fly(h:Heap)(e T:Addr)(C:Value)(dx:Option Addr):Prop where
 ne:T≠e
 exc:∃ oe vs,h.get? e=U oe/\oe.cls=C/\oe.dict=dx/\oe.data=.fields vs/\vs[1]?=U (.ref T)
 ent:∃ oT ts,h.get? T=U oT/\oT.data=.fields ts/\ts[3]?=U .none
structure Left(fs:List Addr)(no:Addr->Prop)(h h':Heap):Prop where
 keep:∀ b o,b∉fs->¬ no b->h.get? b=U o->h'.get? b=U o
 slot:∀ b o,b∈fs->h.get? b=U o->∃ sl,h'.get? b=U { o with slots:=sl }
theorem kW(g:Array Value->Array Value)(o:Obj):(o.mapFields g).cls=o.cls/\(o.mapFields g).dict=o.dict:=by
 obtain⟨c,d,dt,sl⟩:=o
 cases dt<;>exact⟨rfl,rfl⟩
theorem wK{env:Env}{outer:List Env}{L:Addr}{oe:Obj}{Q:Unit->Shared->Prop}
  (hfr:A.frames=U (env::outer)) (hl:s.heap.FunFrames base (env::outer)) (hf:env.frame=U L)
  (he:s.heap.get? e=U oe) (hd:oe.data=.fields vs) (h1:vs[1]?=U .none)
  (h:∀ h' T,s.heap.objs.size<=T->Fly h' e T oe.cls oe.dict->Left ((env::outer).filterMap (·.frame)) (λb=>b=e) s.heap h'->Q () { s with heap:=h' }):wpAny M A (leaving env (.ref e)) Q E s:=by
 have hsz:1<vs.size:=(Td.mp h1).1
 have enf:e∉(env::outer).filterMap (·.frame):=λhm=>by
  obtain⟨_,o,ho,hnf⟩:=hl.mem hm
  rw[he] at ho;cases ho;exact hnf vs hd
 unfold leaving noteFrame
 simp only[hf]
 refine Rc (Rc (RO he hd h1 ?_))
 rw[RH (by decide)]
 refine Rc (wpAny_frameOf_fun hfr hl hf λh₁ hs=>Rc (Wn λpl hpl=>?_))
 have e1:h₁.get? e=U oe:=(hs.2.1 e enf).trans he
 unfold EntryCells.newEntry newFields
 refine Rc (RM ?_ (hpl.sizeOk5 _ _ _ _ _))
 generalize hts:(([Value.none,.ref L,.none,rawInt L,.none]++(if pl.isEmpty then List.replicate 6 Value.none else pl)).toArray)=ts
 have t3:3<ts.size:=by rw[<- hts];simp
 have e2:(h₁.push { cls:=.type "traceback",dict:=Y,data:=.fields ts }).get? e=U oe:=Re _ e1
 have T2:(h₁.push { cls:=.type "traceback",dict:=Y,data:=.fields ts }).get? h₁.objs.size=U { cls:=.type "traceback",dict:=Y,data:=.fields ts }:=Rs _ rfl
 have ne:h₁.objs.size≠e:=Sf (Ro e1)
 refine Sa e2 hd hsz ?_
 have d3:=SV hd (·.setIfInBounds 1 (Value.ref h₁.objs.size))
 have e3:=RK (Obj.mapFields (·.setIfInBounds 1 (Value.ref h₁.objs.size))) e2 (SW d3)
 have T3:=(RA _ (Obj.mapFields (·.setIfInBounds 1 (Value.ref h₁.objs.size))) (Ne.symm ne)).trans T2
 unfold setFlight
 refine Rc (RO e3 d3 (x:=.ref h₁.objs.size) (by simp[hsz]) ?_)
 rw[Ru (show(Value.ref h₁.objs.size != Value.none)=true from by simp)]
 refine Sa T3 rfl t3 (h _ h₁.objs.size (by rw[hs.1];exact Rn _) ⟨ne,?_,?_⟩ ⟨λb o nb ne' hb=>?_,λb o hm hb=>?_⟩)
 ·exact⟨_,_,(RA _ _ ne).trans e3,(kW _ _).1,(kW _ _).2,d3,by simp[hsz]⟩
 ·exact⟨_,_,RK _ T3 rfl,rfl,by simp[t3]⟩
 ·have b1:h₁.get? b=U o:=(hs.2.1 b nb).trans hb
  have nT:h₁.objs.size≠b:=Sf (Ro b1)
  exact(RA _ _ nT).trans ((RA _ _ (Ne.symm ne')).trans (Re _ b1))
 ·obtain⟨sl,b1⟩:=hs.2.2 b o hb
  have nT:h₁.objs.size≠b:=Sf (Ro b1)
  have nE:e≠b:=λz=>enf (z ▸ hm)
  exact⟨sl,(RA _ _ nT).trans ((RA _ _ nE).trans (Re _ b1))⟩
theorem JJ{env:Env}{outer:List Env}{L:Addr}{Q:Unit->Shared->Prop}
  (hfr:A.frames=U (env::outer)) (hl:s.heap.FunFrames base (env::outer)) (hf:env.frame=U L) (F:Fly s.heap e T C dx)
  (h:∀ h' T',s.heap.objs.size<=T'->Fly h' e T' C dx->Left ((env::outer).filterMap (·.frame)) (λb=>b=e\/b=T) s.heap h'->Q () { s with heap:=h' }):wpAny M A (noteFrame (.ref e) env) (λ_ s₂=>wpAny M A (setFlight (.ref e) Y) Q E s₂) E s:=by
 obtain⟨neT,⟨oe,vs,he,hc,hdx,hd,h1⟩,oT,ts0,hT,hdT,h3⟩:=F
 have hsz:1<vs.size:=(Td.mp h1).1
 have h3z:3<ts0.size:=(Td.mp h3).1
 have enf:e∉(env::outer).filterMap (·.frame):=λhm=>by
  obtain⟨_,o,ho,hnf⟩:=hl.mem hm
  rw[he] at ho;cases ho;exact hnf vs hd
 have tnf:T∉(env::outer).filterMap (·.frame):=λhm=>by
  obtain⟨_,o,ho,hnf⟩:=hl.mem hm
  rw[hT] at ho;cases ho;exact hnf ts0 hdT
 unfold noteFrame
 simp only[hf]
 refine Rc (RO he hd h1 ?_)
 rw[Ru (show(Value.ref T != Value.none)=true from by simp)]
 refine Rc (RO hT hdT h3 ?_)
 rw[RH (by simp[rawInt])]
 refine Rc (Sa hT hdT h3z ?_)
 have dT1:=SV hdT (·.setIfInBounds 3 Value.none)
 have hT1:=RK (Obj.mapFields (·.setIfInBounds 3 Value.none)) hT (SW dT1)
 have he1:=(RA s.heap (Obj.mapFields (·.setIfInBounds 3 Value.none)) neT).trans he
 have hl1:(s.heap.update T (Obj.mapFields (·.setIfInBounds 3 Value.none))).FunFrames base (env::outer):=hl.of_keeps λb o hb hnf=>⟨o,(RA s.heap _ λq=>by rw[<- q,hT] at hb;cases hb;exact hnf ts0 hdT).trans hb,rfl⟩
 refine Rc (wpAny_frameOf_fun hfr hl1 hf λh₁ hs=>Rc (Wn λpl hpl=>?_))
 have e1:h₁.get? e=U oe:=(hs.2.1 e enf).trans he1
 unfold EntryCells.newEntry newFields
 refine Rc (RM ?_ (hpl.sizeOk5 _ _ _ _ _))
 generalize hts:(([Value.ref T,.ref L,.none,rawInt L,.none]++(if pl.isEmpty then List.replicate 6 Value.none else pl)).toArray)=ts
 have t3:3<ts.size:=by rw[<- hts];simp
 have e2:(h₁.push { cls:=.type "traceback",dict:=Y,data:=.fields ts }).get? e=U oe:=Re _ e1
 have T2:(h₁.push { cls:=.type "traceback",dict:=Y,data:=.fields ts }).get? h₁.objs.size=U { cls:=.type "traceback",dict:=Y,data:=.fields ts }:=Rs _ rfl
 have ne:h₁.objs.size≠e:=Sf (Ro e1)
 have sz:h₁.objs.size=s.heap.objs.size:=hs.1.trans (by simp)
 refine Sa e2 hd hsz ?_
 have d3:=SV hd (·.setIfInBounds 1 (Value.ref h₁.objs.size))
 have e3:=RK (Obj.mapFields (·.setIfInBounds 1 (Value.ref h₁.objs.size))) e2 (SW d3)
 have T3:=(RA _ (Obj.mapFields (·.setIfInBounds 1 (Value.ref h₁.objs.size))) (Ne.symm ne)).trans T2
 unfold setFlight
 refine Rc (RO e3 d3 (x:=.ref h₁.objs.size) (by simp[hsz]) ?_)
 rw[Ru (show(Value.ref h₁.objs.size != Value.none)=true from by simp)]
 refine Sa T3 rfl t3 (h _ h₁.objs.size (by rw[sz];exact Rn _) ⟨ne,?_,?_⟩ ⟨λb o nb ne' hb=>?_,λb o hm hb=>?_⟩)
 ·exact⟨_,_,(RA _ _ ne).trans e3,(kW _ _).1.trans hc,(kW _ _).2.trans hdx,d3,by simp[hsz]⟩
 ·exact⟨_,_,RK _ T3 rfl,rfl,by simp[t3]⟩
 ·have b0:=(RA s.heap (Obj.mapFields (·.setIfInBounds 3 Value.none)) (a:=T) (b:=b) (λz=>ne' (.inr z.symm))).trans hb
  have b1:h₁.get? b=U o:=(hs.2.1 b nb).trans b0
  have nT:h₁.objs.size≠b:=Sf (Ro b1)
  exact(RA _ _ nT).trans ((RA _ _ (λz=>ne' (.inl z.symm))).trans (Re _ b1))
 ·have b0:=(RA s.heap (Obj.mapFields (·.setIfInBounds 3 Value.none)) (a:=T) (b:=b) (λz=>tnf (z ▸ hm))).trans hb
  obtain⟨sl,b1⟩:=hs.2.2 b o b0
  have nT:h₁.objs.size≠b:=Sf (Ro b1)
  have nE:e≠b:=λz=>enf (z ▸ hm)
  exact⟨sl,(RA _ _ nT).trans ((RA _ _ nE).trans (Re _ b1))⟩
end
end HT
namespace L2
noncomputable def jR(P:Program)(w:World):Dj:=λouter H s E e s'=>∃ x T C dx H',e=.ref x/\HT.Fly s'.heap x T (.ref C) (U dx)/\H' x=Y/\H' T=Y/\s.heap.get? x=Y/\s.heap.get? T=Y /\
 s'.os=s.os/\AllBare s'.gens/\Un (rZ outer) [] H H' s.heap s'.heap/\HOk P w H' s'.heap/\E (.ref C) (U dx) H'
theorem AJ{h h':Heap}:∀ {l:List Env},h.FunFrames base l->(∀ b o,b∈rZ l->h.get? b=U o->∃ sl,h'.get? b=U { o with slots:=sl })->h'.FunFrames base l
 | [],_,_=>trivial
 | env::r,hl,k=>by
  obtain⟨hk,⟨L,o,hf,hn,ho,hd⟩,hr⟩:=hl
  obtain⟨sl,e⟩:=k L o (by unfold rZ;rw[RV,hf];exact Rf) ho
  exact⟨hk,⟨L,_,hf,hn,e,hd⟩,AJ hr λb o hb=>k b o (by unfold rZ at hb ⊢;rw[RV,hf];exact Rj _ hb)⟩
section
variable{X:Cx}{pins:List (Addr×Obj)}{σ:St}{H:Hp}{s s':Shared}{E:XK}{e:Value}
theorem xk(hs:X.stack=X.env::X.outer)(hfm:X.env.frame=U X.env.locals)(hex:X.ex=[])(I:Inv X pins σ H s){dx:Addr}{oe:Obj}(he:s.heap.get? x=U oe)(hc:oe.cls=.ref C)
  (hdx:oe.dict=U dx) (hd:oe.data=.fields vs) (h1:vs[1]?=U .none) (nx:H x=Y) (x0:X.s₀.heap.get? x=Y) (q:E (.ref C) (U dx) H) :
  wpAny (model X.prog X.w) X.A (leaving X.env (.ref x)) (λ_ s''=>jR X.prog X.w X.outer X.H₀ X.s₀ E (.ref x) s'') E' s:=by
 have hl:=I.stack
 have hfr:X.A.frames=U (X.env::X.outer):=by rw[<- hs];exact I.ok.frames
 have fin:∀ b∈(X.env::X.outer).filterMap (·.frame),H b=Y:=λb hb=>I.stkFree b (by rw[hs];exact hb)
 rw[hs] at hl
 have inL:∀ b o,X.s₀.heap.get? b=U o->b∉rZ X.outer->b∉(X.env::X.outer).filterMap (·.frame):=λb o h0 nb z=>by
  rw[RV,hfm] at z
  rcases Rv.mp z with z | z
  ·exact absurd (Ro h0) (by rw[z];exact VF.mpr I.ok.above)
  ·exact nb z
 have nxe:∀ b:Addr,b∉X.ex:=λb=>by rw[hex];simp
 have no:∀ b o,X.s₀.heap.get? b=U o->¬ (b=x):=λb o h0 z=>by rw[z,x0] at h0;cases h0
 refine HT.wK hfr hl hfm he hd h1 λh' T sz F Lf=>⟨x,T,C,dx,H,rfl,by rw[<- hc,<- hdx];exact F,nx,I.hok.fresh sz,x0,?_,I.os,I.bare,?_,?_,q⟩
 ·cases q0:X.s₀.heap.get? T with
  | none=>rfl
  | some o=>obtain⟨o',e'⟩:=I.base.there T o q0 (nxe T);exact absurd (Ro e') (VF.mpr sz)
 ·refine⟨λb o h0 n nb _=>?_,λb o h0 n hb _=>?_,λb o h0 n _=>I.base.free b o h0 n (nxe b),λb o h0 _=>?_,I.base.tups,I.base.frzs,I.base.tbls⟩
  ·exact Lf.keep b o (inL b o h0 nb) (no b o h0) (I.base.keep b o h0 n nb (nxe b))
  ·obtain⟨sl,e1⟩:=I.base.slot b o h0 n hb (nxe b)
   obtain⟨sl3,e3⟩:=Lf.slot b _ (by rw[RV,hfm];exact Rj _ hb) e1
   exact⟨sl3,e3⟩
  ·obtain⟨o',e'⟩:=I.base.there b o h0 (nxe b)
   by_cases hb:b∈(X.env::X.outer).filterMap (·.frame)
   ·obtain⟨sl,e3⟩:=Lf.slot b o' hb e';exact⟨_,e3⟩
   ·exact⟨o',Lf.keep b o' hb (no b o h0) e'⟩
 ·intro a o ha
  have tr:∀ b,(b=a\/H b=U (.own a))->H b≠Y:=λb hb z=>by
   rcases hb with hb | hb
   ·rw[hb,ha] at z;cases z
   ·rw[hb] at z;cases z
  exact(I.hok a o ha).stay (λb u hb hu=>Lf.keep b u (λz=>tr b hb (fin b z)) (λz=>tr b hb (z ▸ nx)) hu) (λ_ z=>z) λ_ _ z=>z
end
noncomputable def qD(x C t:Addr)(h:Heap):Prop:=h.get? x=U ⟨.ref C,Y,.fields #[.ref t,.none,.none,.none,.bool false,.none],#[]⟩
noncomputable def qC(x C t dx:Addr)(h:Heap):Prop:=h.get? x=U ⟨.ref C,U dx,.fields #[.ref t,.none,.none,.none,.bool false,.none],#[]⟩
structure qj(K:W.Frag)(C:Addr)(f:Str):Prop where
 sa:W.findIn K (.ref C) "__setattr__" = U (U (.builtin "object.__setattr__"))
 ve:HT.nM K C=true
 tk:W.takerIn K C f=U Y
 hd:W.hasDictIn K C=true
noncomputable def sFldX(K:W.Frag)(ta tv:TE)(f:Str):TS:=λD σ H=>tv σ H λy H1=>ta σ H1 λx H2=>∃ a C t,x=.ref a/\H2 a=U (.ext (qD a C t))/\qj K C f /\
 ∀ dx,H2 dx=Y->D.nx σ (upd (upd H2 a (.ext (qC a C t dx))) dx (.xd [(f,y)]))
section
variable{X:Cx}{o value:Expr}{f:Str}{pos pos':Pos}{ta tv:TE}
theorem vB{s:Shared}{Q:Unit->Shared->Prop}(I:Inv X pins σ H s)(ea:H a=U (.ext (qD a C t)))(c:qj X.K C f)(ry:RelV y u)
  (h:∀ s' dx,H dx=Y->Inv X pins σ (upd (upd H a (.ext (qC a C t dx))) dx (.xd [(f,y)])) s'->Q () s'):wpAny (model X.prog X.w) X.A (setAttr (.ref a) f u) Q E s:=by
 have e0:qD a C t s.heap:=(show ObjOk X.prog X.w H s.heap a (.ext (qD a C t)) from I.hok a _ ea).1
 have hn:=I.hok.fresh (Rn s.heap.objs.size)
 have na:a≠s.heap.objs.size:=λz=>by rw[<- z,ea] at hn;cases hn
 refine HT.IG I.kIn ⟨e0,rfl,rfl,trivial⟩ c.sa c.ve c.tk c.hd λh' t' hx hd k=>h _ s.heap.objs.size hn ?_
 have up:∀ b,b≠a->b≠s.heap.objs.size->upd (upd H a (.ext (qC a C t s.heap.objs.size))) s.heap.objs.size (.xd [(f,y)]) b=H b:=λb h1 h2=>by rw[aj h2,aj h1]
 have nT:∀ b o,H b=U o->b≠s.heap.objs.size:=λb o q z=>by rw[z,hn] at q;cases q
 have lt:∀ b o,s.heap.get? b=U o->b≠s.heap.objs.size:=λb o q=>RL (Ro q)
 refine I.un (s:=s) (h':=h') (t':=t') ⟨λb o q n _ _=>k b o (λz=>by rw[z,ea] at n;cases n) q,λb o q n _ _=>⟨o.slots,k b o (λz=>by rw[z,ea] at n;cases n) q⟩,λb o q n _=>?_,λb o q _=>?_,λb xs q=>?_,λb o u q=>?_,λb ps q=>⟨#[],?_⟩⟩ λb o q=>?_
 ·rw[up b (λz=>by rw[z,ea] at n;cases n) (lt b o q)];exact n
 ·by_cases z:b=a
  ·subst z;exact⟨_,hx⟩
  ·exact⟨o,k b o z q⟩
 ·rw[up b (λz=>by rw[z,ea] at q;cases q) (nT b _ q)];exact q
 ·rw[up b (λz=>by rw[z,ea] at q;cases q) (nT b _ q)];exact q
 ·rw[up b (λz=>by rw[z,ea] at q;cases q) (nT b _ q),q];simp
 ·by_cases z:b=s.heap.objs.size
  ·subst z
   rw[ah] at q;cases q
   refine⟨_,hd,λg=>?_⟩
   by_cases hg:g=f
   ·subst hg;rw[Ru rfl];simp[List.lookup,RelO,ry]
   ·rw[RH hg]
    have hb:(g==f)=false:=SS.mpr hg
    simp only[List.lookup,hb,RelO]
  ·by_cases z':b=a
   ·subst z'
    rw[aj z,ah] at q;cases q
    exact⟨hx,⟨_,hx⟩,λh1 h2 e1 e2=>e2 _ e1⟩
   ·rw[up b z' z] at q
    refine(I.hok b o q).stay (λc' u hc hu=>k c' u (λw=>?_) hu) (λc' hc=>?_) λc' xs hc=>?_
    ·rcases hc with hc | hc
     ·exact z' (hc ▸ w)
     ·rw[w,ea] at hc;cases hc
    ·rw[up c' (λw=>by rw[w,ea] at hc;cases hc) (nT c' _ hc)];exact hc
    ·rw[up c' (λw=>by rw[w,ea] at hc;cases hc) (nT c' _ hc)];exact hc
theorem Ja(ha:PE X o ta)(hv:PE X value tv)(hs:swapsWith value (U (.Attribute o f pos')) pos.line X.env=pure false):PS X (.Assign [.Attribute o f pos'] value pos) (sFldX X.K ta tv f):=by
 intro pins s σ H D I h
 refine plainObj_wpAny_Assign_Attribute (bN (hv pins s σ H _ I h) λu s1 ⟨y,H1,I1,ry,q⟩=>bN (ha pins s1 σ H1 _ I1 q) λov s2 ⟨x,H2,I2,rx,a,C,t,ex,ea,c,q2⟩=>?_) hs
 subst ex
 obtain rfl:ov=Value.ref a:=rx
 exact vB I2 ea c ry λs3 dx hn I3=>⟨σ,_,I3,q2 dx hn⟩
end
section
variable{X:Cx}{pins:List (Addr×Obj)}{σ:St}{H:Hp}{s:Shared}
theorem Inv.letgo(I:Inv X pins σ H s)(hx:H x=U (.ext φ)):Inv X pins σ (λb=>if b=x then Y else H b) s:=by
 have ne:∀ {b:Addr} {o:HO},H b=U o->(∀ ψ,o≠.ext ψ)->(if b=x then Y else H b)=U o:=λ{b o} q n=>by
  rw[RH λz=>?_];exact q
  rw[z,hx] at q;cases q;exact n _ rfl
 refine I.un (s:=s) (h':=s.heap) (t':=s.toks) ⟨λb o q _ _ _=>q,λb o q _ _ _=>⟨o.slots,q⟩,λb o q n _=>?_,λb o q _=>⟨o,q⟩,λb xs q=>ne q (by intro ψ z;cases z),λb o u q=>ne q (by intro ψ z;cases z),λb ps q=>⟨#[],by rw[ne q (by intro ψ z;cases z)];simp⟩⟩ λb o q=>?_
 ·show(if b=x then Y else H b)=Y
  split
  ·rfl
  ·exact n
 ·by_cases z:b=x
  ·simp[z] at q
  ·have q:H b=U o:=by simpa[z] using q
   exact(I.hok b o q).stay (λ_ _ _ hu=>hu) (λc hc=>ne hc (by intro ψ w;cases w)) λc xs hc=>ne hc (by intro ψ w;cases w)
end
noncomputable def xU(K:W.Frag)(C f:Addr):Prop:=∃ nm q N bs bm hdct sn sub ab col dd k0 k1 k2 k3 k5 newId mN bmB B initId,mN "__init__" = U (.ref f)/\ExcBaseFacts B newId initId bmB/\bm.contains (.type "BaseException")=true /\
 ∀ h:Heap,K.In h->h.get? C=U (excClassObj nm q C N bs bm hdct sn sub ab col dd k0 k1 k2 k3 k5 newId)/\h.Ns N mN/\OwnTail h bmB bm/\∃ of,h.get? f=U of/\of.cls=.type "function"
noncomputable def zL(P:Program)(w:World)(K:W.Frag)(mg:Str->Option Value)(base:Heap)(k:Nat)(C f:Addr)(fl:Str):Prop:=∀ (A:Around) (outer:List Env) (s:Shared) (H:Hp) (x t:Addr) (v:V) (u:Value),Room k A->Env0 P w K mg base A outer s H ->
 RelV v u->H x=U (.ext (qD x C t))->codeAny (model P w) A (.call (.ref f) ⟨[.ref x,u],[]⟩) (CR xV outer P w H s (λr H'=>r=.non/\∃ dx,H dx=Y/\H'=upd (upd H x (.ext (qC x C t dx))) dx (.xd [(fl,v)])) E0) s
section
variable{X:Cx}{e:Expr}{x:Str}{np cpos pos:Pos}{te:TE}{C f:Addr}{fl:Str}{k:Nat}
noncomputable def NA(C:Addr)(fl:Str)(E:XK)(te:TE):TS:=λ_ σ H=>te σ H λy H1=>∀ dx,H1 dx=Y->E (.ref C) (U dx) (upd H1 dx (.xd [(fl,y)]))
theorem Ei(R:xU X.K C f)(N:zL X.prog X.w X.K X.mg X.base k C f fl)(hr:∀ us,Room k (X.A.under (.builtin "type.__call__" ⟨.ref C::us,[]⟩)))(hg:Gl X x)(hm:X.mg x=U (.ref C))(he:PE X e te)(hcalm:X.calm=true)
  (hs:X.stack=X.env::X.outer) (hfm:X.env.frame=U X.env.locals) (hex:X.ex=[])
  (hxe:∀ e' s',wpAny (model X.prog X.w) X.A (leaving X.env e') (λ_ s''=>jR X.prog X.w X.outer X.H₀ X.s₀ E e' s'') (λ_ _=>False) s'->X.xe e' s')
  (hd:(x==("__debug__":Str))=false:=by decide) (hst:starEach [e] X.env=(false,eval e X.env)::starEach [] X.env:=by rfl) :
  PS X (.Raise (U (.Call (.Name x np) [e] [] cpos)) Y pos) (NA C fl E te):=by
 intro pins s σ H D I h
 have hh:=I.ok.hd hcalm
 obtain⟨nm,q,Nn,bs,bm,hdct,sn,sub,ab,col,dd,k0,k1,k2,k3,k5,newId,mN,bmB,B,initId,hni,F,hb,R⟩:=R
 rw[arm_exec_Raise]
 refine Rc (Sn (HT.oJ (C:=C) (nm:=nm) (q:=q) (N:=Nn) (bs:=bs) (bm:=bm) (hdct:=hdct) (sn:=sn) (sub:=sub) (ab:=ab) (col:=col) (dd:=dd) (k0:=k0) (k1:=k1) (k2:=k2) (k3:=k3) (k5:=k5) (newId:=newId) hb hh ?_))
 refine Rc (RF (wpAny_Call_ofName (lc I hg hm ?_ hd)) (λv s₃ h₃=>Rc (Sn (Rh h₃))) λ_ _ z=>z)
 have ev:wpAny (model X.prog X.w) X.A (evalArgs (.ref C) true (backTo cpos (starEach [e] X.env)) []) (λa s₂=>∃ y u H1,a=⟨[u],[]⟩/\Inv X pins σ H1 s₂/\RelV y u/\∀ dx,H1 dx=Y->E (.ref C) (U dx) (upd H1 dx (.xd [(fl,y)]))) X.xe s:=by
  rw[hst]
  refine Uy (show wpAny _ _ (spliced (backTo cpos ((false,eval e X.env)::starEach [] X.env))) _ _ _ from ?_)
  rw[<- hst]
  exact spliced_more (bN (he pins s σ H _ I h) λu s1 ⟨y,H1,I1,ry,q1⟩=>spliced_none ⟨y,u,H1,rfl,I1,ry,q1⟩) hst
 have hplain:(backTo cpos (starEach [e] X.env)).any (·.1)=false:=by rw[hst];rfl
 unfold callWith
 refine Rc (RX (RF ev (λa s₂ h₂=>Rc (Sn ?_)) λ_ _ z=>z))
 obtain⟨y,u,H1,rfl,I1,ry,q1⟩:=h₂
 obtain⟨hC,hn,T,of,hf,hfc⟩:=R s₂.heap I1.kIn
 obtain⟨hp,g,d,tk,os⟩:=s₂
 simp only[hplain]
 refine Rc (wpAny_keeperOf_exc hC ?_)
 refine Rc (HT.uS F T hC hn hni hf hfc (by rw[Ug];simp) ?_)
 have I2:Inv X pins σ (upd H1 (hp.objs.size+1) (.ext (qD (hp.objs.size+1) C hp.objs.size))) ⟨HT.pQ hp C [u],g,d,tk,os⟩:=I1.laid (a:=hp.objs.size+1) (o:=.ext (qD (hp.objs.size+1) C hp.objs.size)) (t':=tk) (λb w z=>HT.fO z) (TN _) ⟨HT.mx,⟨_,HT.mx⟩,λh1 h2 e1 e2=>e2 _ e1⟩
 refine Uv (Sx (N _ X.stack _ _ (hp.objs.size+1) hp.objs.size y u (hr [u]) (I2.env0.make C [u] []) ry ah) λr s' z=>?_)
 match r,z with
 | .ok (.ret v),z=>
  obtain⟨v',H',I3,rv,rfl,dx,hdx,rfl⟩:=I2.after z
  cases(show v=Value.none from rv)
  have ndx:dx≠hp.objs.size+1:=λw=>by rw[w,ah] at hdx;cases hdx
  have hx:(upd (upd (upd H1 (hp.objs.size+1) (.ext (qD (hp.objs.size+1) C hp.objs.size))) (hp.objs.size+1) (.ext (qC (hp.objs.size+1) C hp.objs.size dx))) dx (.xd [(fl,y)])) (hp.objs.size+1)=U (.ext (qC (hp.objs.size+1) C hp.objs.size dx)):=by rw[aj (Ne.symm ndx),ah]
  have e1:qC (hp.objs.size+1) C hp.objs.size dx s'.heap:=(show ObjOk X.prog X.w _ s'.heap _ (.ext (qC (hp.objs.size+1) C hp.objs.size dx)) from I3.hok _ _ hx).1
  have I4:=I3.letgo hx
  refine⟨rfl,Rc (RX (wpAny_point (Rh ⟨_,_,U dx,rfl,(R s'.heap I3.kIn).1,e1,hxe _ _ ?_⟩)))⟩
  refine xk hs hfm hex I4 e1 rfl rfl rfl rfl (by simp) ?_ ?_
  ·exact Wf (Nat.le_succ_of_le I1.sz)
  ·have n1:H1 (hp.objs.size+1)=Y:=I1.hok.fresh (TN _)
   rw[aj ndx] at hdx
   have eq:(λb=>if b=hp.objs.size+1 then Y else upd (upd (upd H1 (hp.objs.size+1) (.ext (qD (hp.objs.size+1) C hp.objs.size))) (hp.objs.size+1) (.ext (qC (hp.objs.size+1) C hp.objs.size dx))) dx (.xd [(fl,y)]) b)=upd H1 dx (.xd [(fl,y)]):=by
    funext b
    by_cases z1:b=hp.objs.size+1
    ·rw[Ru z1,z1,aj (Ne.symm ndx),n1]
    ·rw[RH z1]
     by_cases z2:b=dx
     ·rw[z2,ah,ah]
     ·rw[aj z2,aj z2,aj z1,aj z1]
   rw[eq]
   exact q1 dx hdx
end
section
variable{X:Cx}{pins:List (Addr×Obj)}{σ:St}{H:Hp}{s s':Shared}{E:XK}{e:Value}
theorem Inv.track(I:Inv X pins σ H s){ox:Obj}{φ:Heap->Prop}(hx:s.heap.get? x=U ox)(hd:ox.data=.fields vs)(n:H x=Y)(x0:X.s₀.heap.get? x=Y)(hp:∀ p∈X.pn++pins,p.1≠x)
  (ok:φ s.heap) (st:∀ h1 h2:Heap,φ h1->(∀ o,h1.get? x=U o->h2.get? x=U o)->φ h2):Inv X pins σ (upd H x (.ext φ)) s:=by
 have nl:X.env.locals≠x:=λz=>by
  obtain⟨m,⟨o,es,ep,ho,hdo,_⟩,_⟩:=I.loc
  rw[z,hx] at ho;cases ho;rw[hd] at hdo;cases hdo
 have ne0:∀ b o,X.s₀.heap.get? b=U o->b≠x:=λb o q z=>by rw[z,x0] at q;cases q
 have sm:∀ b o,H b=U o->upd H x (.ext φ) b=U o:=λb o q=>by rw[aj λz=>?_];exact q;rw[z,n] at q;cases q
 refine⟨I.ok,I.os,I.bare,⟨I.base.keep,I.base.slot,λb o q m ne=>by rw[aj (ne0 b o q)];exact I.base.free b o q m ne,I.base.there,λb xs q=>sm b _ (I.base.tups b xs q),λb o u q=>sm b _ (I.base.frzs b o u q),λb ps q=>?_⟩,I.loc,I.cell,?_,λy c q=>?_,λp q=>?_,λb o q=>?_,I.len⟩
 ·obtain⟨more,z⟩:=I.base.tbls b ps q
  exact⟨more,sm b _ z⟩
 ·rw[aj nl];exact I.free
 ·rw[aj λz=>?_];exact I.freeC y c q
  obtain⟨v,o,ho,hdo⟩:=I.cell y c q
  rw[z,hx] at ho;cases ho;rw[hd] at hdo;cases hdo
 ·obtain⟨h1,h2,h3⟩:=I.pin p q
  exact⟨h1,by rw[aj (hp p q)];exact h2,h3⟩
 ·by_cases z:b=x
  ·subst z
   rw[ah] at q;cases q
   exact⟨ok,⟨_,hx⟩,st⟩
  ·rw[aj z] at q
   exact(I.hok b o q).stay (λ_ _ _ hu=>hu) (λc hc=>sm c _ hc) λc xs hc=>sm c _ hc
structure uZ(X:Cx)(pins:List (Addr×Obj))(H:Hp)(s:Shared)(x T C dx:Addr):Prop where
 fly:HT.Fly s.heap x T (.ref C) (U dx)
 no:H T=Y
 old:X.s₀.heap.objs.size<=T
 pin:∀ p∈X.pn++pins,p.1≠T
theorem ze(hs:X.stack=X.env::X.outer)(hfm:X.env.frame=U X.env.locals)(hex:X.ex=[])(I:Inv X pins σ H s)(hx:jR X.prog X.w X.stack H s E e s'){Q:Unit->Shared->Prop}
  (h:∀ s'' x T C dx H',e=.ref x->Inv X pins σ (upd H' x (.ext (js x C dx))) s''->H' x=Y->E (.ref C) (U dx) H'->uZ X pins H' s'' x T C dx->Q () s'') :
  wpAny (model X.prog X.w) X.A (noteFrame e X.env) (λ_ s₂=>wpAny (model X.prog X.w) X.A (setFlight e Y) Q E' s₂) E' s':=by
 obtain⟨x,T,C,dx,H',rfl,F,nx,nT,fx,fT,os,bare,un,hok,q⟩:=hx
 have fin:∀ b∈rZ X.stack,H b=Y:=I.stkFree
 have hl:s'.heap.FunFrames X.base X.stack:=AJ I.stack λb o hb ho=>un.slot b o ho (fin b hb) hb (by simp)
 have hfr:X.A.frames=U (X.env::X.outer):=by rw[<- hs];exact I.ok.frames
 rw[hs] at hl
 have nn:∀ b:Addr,b∉([]:List Addr):=λb=>by simp
 have fr':∀ b∈(X.env::X.outer).filterMap (·.frame),H' b=Y:=λb hb=>by
  have hb:b∈rZ X.stack:=by rw[hs];exact hb
  obtain⟨_,o,ho,_⟩:=I.stack.mem hb
  exact un.free b o ho (fin b hb) (nn b)
 have no:∀ b o,s.heap.get? b=U o->¬ (b=x\/b=T):=λb o h0 z=>by
  rcases z with z | z
  ·rw[z,fx] at h0;cases h0
  ·rw[z,fT] at h0;cases h0
 refine HT.JJ hfr hl hfm F λh' T' sz F' Lf=>?_
 have un':Un (rZ X.stack) [] H H' s.heap h':=by
  refine⟨λb o h0 n nb _=>?_,λb o h0 n hb _=>?_,un.free,λb o h0 _=>?_,un.tups,un.frzs,un.tbls⟩
  ·exact Lf.keep b o (by rw[hs] at nb;exact nb) (no b o h0) (un.keep b o h0 n nb (nn b))
  ·obtain⟨sl2,e2⟩:=un.slot b o h0 n hb (nn b)
   obtain⟨sl3,e3⟩:=Lf.slot b _ (by rw[hs] at hb;exact hb) e2
   exact⟨sl3,e3⟩
  ·obtain⟨o',e'⟩:=un.there b o h0 (nn b)
   by_cases hb:b∈(X.env::X.outer).filterMap (·.frame)
   ·obtain⟨sl,e3⟩:=Lf.slot b o' hb e';exact⟨_,e3⟩
   ·exact⟨o',Lf.keep b o' hb (no b o h0) e'⟩
 have hok':HOk X.prog X.w H' h':=λa o ha=>by
  have tr:∀ b,(b=a\/H' b=U (.own a))->H' b≠Y:=λb hb z=>by
   rcases hb with hb | hb
   ·rw[hb,ha] at z;cases z
   ·rw[hb] at z;cases z
  refine(hok a o ha).stay (λb u hb hu=>Lf.keep b u (λz=>tr b hb (fr' b z)) (λz=>?_) hu) (λ_ z=>z) λ_ _ z=>z
  rcases z with z | z
  ·exact tr b hb (z ▸ nx)
  ·exact tr b hb (z ▸ nT)
 have I2:Inv X pins σ H' { s' with heap:=h' }:=I.call' (s':={ s' with heap:=h' }) (ch:=[]) os un' hok' bare λb z=>absurd z (by simp)
 obtain⟨_,⟨oe,vs,he,hc,hdx,hd,_⟩,_⟩:=id F'
 have x0:X.s₀.heap.get? x=Y:=by
  cases q0:X.s₀.heap.get? x with
  | none=>rfl
  | some o=>obtain⟨o1,e1⟩:=I.base.there x o q0 (by rw[hex];simp);rw[fx] at e1;cases e1
 have s0:X.s₀.heap.objs.size<=s'.heap.objs.size:=by
  refine RG I.ok.above (UX ?_)
  obtain⟨m,⟨o,es,ep,ho,_⟩,_⟩:=I.loc
  obtain⟨o',ho'⟩:=un.there _ o ho (nn _)
  exact Ro ho'
 refine h _ x T' C dx H' rfl (I2.track he hd nx x0 (λp hp z=>?_) ⟨oe,vs,he,hc,hdx,hd⟩ λh1 h2 ⟨o,ws,z1,z2⟩ k=>⟨o,ws,k o z1,z2⟩) nx q ⟨F',hok.fresh sz,RG s0 sz,λp hp z=>?_⟩
 rotate_left
 ·obtain⟨o',ho'⟩:=un.there p.1 p.2 (I.pin p hp).1 (nn _)
  exact absurd (Ro ho') (by rw[z];exact VF.mpr sz)
 have:=(I.pin p hp).1
 rw[z,fx] at this;cases this
theorem Cf{Q:Unit->Shared->Prop}(I:Inv X pins σ (upd H' x (.ext φ)) s)(L:uZ X pins H' s x T C dx)
  (h:∀ s',Inv X pins σ (upd H' x (.ext φ)) s'->uZ X pins H' s' x T C dx->Q () s'):wpAny (model X.prog X.w) A (setFlight (.ref x) Y) Q E' s:=by
 obtain⟨neT,⟨oe,vs,he,hc,hdx,hd,h1⟩,oT,ts,hT,hdT,h3⟩:=id L.fly
 have h3z:3<ts.size:=(Td.mp h3).1
 unfold setFlight
 refine Rc (RO he hd h1 ?_)
 rw[Ru (show(Value.ref T != Value.none)=true from by simp)]
 refine Sa hT hdT h3z ?_
 have dT1:=SV hdT (·.setIfInBounds 3 Value.none)
 have hT1:=RK (Obj.mapFields (·.setIfInBounds 3 Value.none)) hT (SW dT1)
 have ot:∀ b,b≠T->(s.heap.update T (Obj.mapFields (·.setIfInBounds 3 Value.none))).get? b=s.heap.get? b:=λb hb=>RA s.heap _ (Ne.symm hb)
 have nT:upd H' x (.ext φ) T=Y:=by rw[aj neT];exact L.no
 have I2:=I.call (h':=s.heap.update T (Obj.mapFields (·.setIfInBounds 3 Value.none))) (g':=s.gens) (d':=s.drawn) (t':=s.toks) (ch:=[T]) (H':=upd H' x (.ext φ))
  ⟨λb o q _ _ nb=>(ot b λz=>nb (by simp[z])).trans q,λb o q _ _ nb=>⟨o.slots,(ot b λz=>nb (by simp[z])).trans q⟩,λb o _ n _=>n,λb o q nb=>⟨o,(ot b λz=>nb (by simp[z])).trans q⟩,λ_ _ z=>z,λ_ _ _ z=>z,λb ps z=>⟨#[],by rw[z];simp⟩⟩
  (λa o ha=>(I.hok a o ha).stay (λb u hb hu=>(ot b λz=>by
   rcases hb with hb | hb
   ·rw[<- hb,z,nT] at ha;cases ha
   ·rw[z,nT] at hb;cases hb).trans hu) (λ_ z=>z) λ_ _ z=>z) I.bare (λb hb=>by
   obtain rfl:b=T:=by simpa using hb
   refine⟨.inr L.old,λz=>?_,λy c hc' z=>?_,L.pin⟩
   ·obtain⟨m,⟨o,es,ep,ho,hdo,_⟩,_⟩:=I.loc
    rw[<- z,hT] at ho;cases ho;rw[hdT] at hdo;cases hdo
   ·obtain⟨v,o,ho,hdo⟩:=I.cell y c hc'
    rw[z,hT] at ho;cases ho;rw[hdT] at hdo;cases hdo)
 exact h _ I2 ⟨⟨neT,⟨oe,vs,(ot x (Ne.symm neT)).trans he,hc,hdx,hd,h1⟩,⟨_,_,hT1,dT1,by simp[h3z]⟩⟩,L.no,L.old,L.pin⟩
end
section
variable{X:Cx}{k:Nat}{f:Addr}{fd:FuncData}{ps:List Str}{sp:Sp}{dvs:List V}{ds:List Value}{E:XK}{x:Str}{p pos:Pos}{e:Expr}{es:List Expr}{t:TA}{pins:List (Addr×Obj)}{σ:St}{H:Hp}{s:Shared}{Q:VK}
noncomputable def QT(X:Cx)(pins:List (Addr×Obj))(σ:St)(E:XK)(e:Value)(s':Shared):Prop:=∃ H1 s1,Inv X pins σ H1 s1/\jR X.prog X.w X.stack H1 s1 E e s'
theorem xK(F:FnOk X.prog X.w X.K X.mg X.base (jR X.prog X.w) k f fd ps sp)(hr:Room k X.A)(hg:Gl X x)(hm:X.mg x=U (.ref f))(hk:W.keepIn X.K (.ref f)=true)(hb:Binds X.K fd ps ds)(hd:Vals dvs ds)
  (ha:PA X (e::es) t) (hxe:∀ v s',X.xe v s'->False) (I:Inv X pins σ H s) (h:vq sp dvs E t σ H Q) (hdb:(x==("__debug__":Str))=false:=by decide)
  (he:starEach (e::es) X.env=(false,eval e X.env)::starEach es X.env:=by rfl) (hpl:(backTo pos (starEach es X.env)).any (·.1)=false:=by rfl) :
  wpAny (model X.prog X.w) X.A (eval (.Call (.Name x p) (e::es) [] pos) X.env) (EP X pins σ Q) (QT X pins σ E) s:=by
 refine Tk (lc I hg hm ?_ hdb)
 refine W.callWith_K (h₀:=X.base) I.ok.mod.kin hk (RF (ha pos pins s σ H _ I h) (λus s1 ⟨vs,H1,I1,r,q⟩=>⟨I1.kIn,?_⟩) λv s' z=>(hxe v s' z).elim) he hpl
 have r2:Vals (vs++dvs) (us++ds):=r.append hd
 have hl:(us++ds).length=ps.length:=by rw[<- r2.length];exact F.len _ _ _ _ q
 refine Uv (Sx (F.run X.A X.stack s1 H1 ⟨us,[]⟩ (us++ds) (vs++dvs) Q E hr I1.env0 (hb s1 us I1.kIn hl) r2 q) λr s' hq=>?_)
 match r,hq with
 | .error v,hq=>exact⟨H1,s1,I1,hq⟩
 | .ok (.ret u),hq=>exact I1.after hq
end
section
variable{X:Cx}{pins:List (Addr×Obj)}{σ:St}{H:Hp}{s:Shared}
theorem Inv.frame{h':Heap}{t':Nat}{i:Nat}{x:Str}(I:Inv X pins σ H s)(hN:X.N.Nodup)(hi:X.N[i]?=U x)(hn':h'.Ns X.env.locals m')(hs:Heap.SameBut X.env.locals s.heap h')
  (hm:∃ m,s.heap.Ns X.env.locals m/\∀ y,y≠x->m' y=m y):Inv X pins (σ.set i Y) H { s with heap:=h',toks:=t' }:=by
 obtain⟨m0,hn,hl⟩:=id I.loc
 obtain⟨m,hnm,hm⟩:=hm
 have mm:m=m0:=by
  obtain⟨o,es,ep,e1,e2,e3,e4⟩:=hnm
  obtain⟨o',es',ep',f1,f2,f3,f4⟩:=hn
  rw[e1] at f1;cases f1
  rw[e2] at f2;cases f2
  funext y;rw[<- e4 y,f4 y]
 subst mm
 have nl:∀ b o,X.s₀.heap.get? b=U o->b≠X.env.locals:=λb o e=>RL (Ry (Ro e) I.ok.above)
 refine⟨I.ok,I.os,I.bare,⟨λb o e n hb hx=>(hs.2 b (nl b o e)).trans (I.base.keep b o e n hb hx),λb o e n hb hx=>?_,I.base.free,λb o e hx=>?_,I.base.tups,I.base.frzs,I.base.tbls⟩,⟨m',hn',λj y v e1 e2 e3=>?_⟩,λy c e=>?_,I.free,I.freeC,λp hp=>?_,λb o q=>?_,by simpa using I.len⟩
 ·obtain⟨sl,e1⟩:=I.base.slot b o e n hb hx
  exact⟨sl,(hs.2 b (nl b o e)).trans e1⟩
 ·obtain⟨o',e1⟩:=I.base.there b o e hx
  exact⟨o',(hs.2 b (nl b o e)).trans e1⟩
 ·by_cases hj:j=i
  ·subst hj
   rw[List.getElem?_set] at e2
   split at e2
   ·split at e2<;>simp at e2
   ·rename_i z;exact absurd rfl z
  ·rw[RS (Ne.symm hj)] at e2
   obtain⟨u,ru,lk⟩:=hl j y v e1 e2 e3
   have hy:y≠x:=λz=>hj (oR hN (z ▸ e1) hi)
   refine⟨u,ru,?_⟩
   rcases lk with ⟨k1,k2⟩ | ⟨k1,c,k2,k3⟩
   ·exact .inl ⟨k1,by rw[hm y hy];exact k2⟩
   ·refine .inr ⟨k1,c,k2,?_⟩
    obtain⟨o,ho,hd⟩:=k3
    exact⟨o,(hs.2 c (I.cne y c k2)).trans ho,hd⟩
 ·obtain⟨v,o,ho,hd⟩:=I.cell y c e
  exact⟨v,o,(hs.2 c (I.cne y c e)).trans ho,hd⟩
 ·obtain⟨h1,h2,h3,h4⟩:=I.pin p hp
  exact⟨(hs.2 _ h3).trans h1,h2,h3,h4⟩
 ·refine(I.hok b o q).stay (λc u hc hu=>(hs.2 c λz=>?_).trans hu) (λ_ z=>z) λ_ _ z=>z
  rcases hc with hc | hc
  ·rw[<- hc,z,I.free] at q;cases q
  ·rw[z,I.free] at hc;cases hc
theorem BF{i:Nat}{n:Str}{Q:Unit->Shared->Prop}(I:Inv X pins σ H s)(hN:X.N.Nodup)(hi:X.N[i]?=U n)(hk:X.env.scope.names.lookup n=U .local)
  (h:∀ s',Inv X pins (σ.set i Y) H s'->Q () s'):wpAny M A (do bindName X.env n .none;unbindBehindTheSuite X.env n pos) Q E s:=by
 have hcls:(X.env.scope.kind==.class||(X.env.scope.kind==.module&&X.env.locals != X.env.globals))=false:=by rw[I.ok.kind];rfl
 have hiσ:i < σ.length:=by rw[I.len];exact(Ri.mp hi).1
 refine Rc (Vu (gl I hN hi (.inl hk) (v:=.non) (u:=.none) rfl (λs1 I1=>?_) (.inr hk)))
 obtain⟨m,hn,hl⟩:=id I1.loc
 obtain⟨u,ru,lk⟩:=hl i n .non hi (Sd hiσ) (.inl hk)
 have hmn:m n=U u:=by
  rcases lk with ⟨_,z⟩ | ⟨z,_⟩
  ·exact z
  ·rcases z with z | z
   ·rw[show X.env.kindOf n=U .local from hk] at z;cases z
   ·rw[show X.env.kindOf n=U .local from hk] at z;cases z
 unfold unbindBehindTheSuite
 refine TF (wpAny_unbindName_local hk hn hmn hcls λh' u' hn' hs'=>?_)
 have I2:=I1.frame (t':=s1.toks) hN hi hn' hs' ⟨m,hn,λy hy=>by simp[hy]⟩
 rw[List.set_set] at I2
 exact h _ I2
end
end L2
namespace HT
section
variable{M:Model}{A:Around}{E:Value->Shared->Prop}{h:Heap}{g:Array GenState}{d:Drawn}{t:Nat}{os:OsState}
variable{nm q nm' q':Str}{C N C' N':Addr}{bs bm bs' bm':List Value}{hdct hdct':Bool}{sn sn':List Str}{sub sub':List Value}{ab ab':Bool}{col col':Option Bool}{dd dd':Option Addr}{k0 k1 k2 k3 k5 l0 l1 l2 l3 l5:Option Value}{newId newId':String}
theorem wb{oe:Obj}{Q:Bool->Shared->Prop}(hC:h.get? C=U (excClassObj nm q C N bs bm hdct sn sub ab col dd k0 k1 k2 k3 k5 newId))(hG:h.get? C'=U (excClassObj nm' q' C' N' bs' bm' hdct' sn' sub' ab' col' dd' l0 l1 l2 l3 l5 newId'))
  (he:h.get? e=U oe) (hcls:oe.cls=.ref C) (hin:(Value.ref C::bm).contains (.ref C')=true) (hbase:bm'.contains (.type "BaseException")=true)
  (hq:Q true ⟨h,g,d,t,os⟩):wpAny M A (excMatches (.ref e) (.ref C')) Q E ⟨h,g,d,t,os⟩:=by
 have hcB:(Value.ref C'::bm').contains (.type "BaseException")=true:=by rw[UI,hbase,Wa]
 have f:=tc_notTuple
 unfold excMatches
 repeat (first | (with_reducible refine SM he ?_;rw[hcls]) | with_reducible refine SM hG ?_ | (with_reducible refine TK hG ?_;rw[hcB]) | (with_reducible refine TK hC ?_;rw[hin]) | wp_step)
 exact hq
end
end HT
namespace L2
noncomputable abbrev Cx.suite(X:Cx)(v:Value)(E:Value->Shared->Prop):Cx:={ X with A:=X.A.mark (U v),calm:=false,xe:=E }
section
variable{X:Cx}{pins:List (Addr×Obj)}{σ:St}{H:Hp}{s:Shared}{v:Value}{E:Value->Shared->Prop}
theorem Cx.Ok.suite(ok:X.Ok):(X.suite v E).Ok:=⟨ok.mod,ok.kind,ok.glob,ok.blt,ok.above,ok.inj,ok.has,ok.cab,(λz=>by cases z),ok.frames,ok.stk,ok.exf,ok.bs,ok.bsz,ok.noex,ok.exfs,ok.funs,ok.frf⟩
theorem Inv.suite(I:Inv X pins σ H s):Inv (X.suite v E) pins σ H s:=⟨I.ok.suite,I.os,I.bare,I.base,I.loc,I.cell,I.free,I.freeC,I.pin,I.hok,I.len⟩
theorem Inv.unsuite(ok:X.Ok)(I:Inv (X.suite v E) pins σ H s):Inv X pins σ H s:=⟨ok,I.os,I.bare,I.base,I.loc,I.cell,I.free,I.freeC,I.pin,I.hok,I.len⟩
noncomputable def qh(K:W.Frag)(C:Addr)(bm:List Value):Prop:=∃ nm q N bs hdct sn sub ab col dd k0 k1 k2 k3 k5 newId,∀ h:Heap,K.In h->h.get? C=U (excClassObj nm q C N bs bm hdct sn sub ab col dd k0 k1 k2 k3 k5 newId)
theorem Cc{C:Addr}{i:Nat}{n:Str}{b₀:Stmt}{suite:List Stmt}{D:kA}(I:Inv X pins σ (upd H' x (.ext (js x C dx))) s)(L:uZ X pins H' s x T C dx)
  (hC:qh X.K C bm) (hG:qh X.K G bmG) (hin:(Value.ref C::bm).contains (.ref G)=true) (hb:bmG.contains (.type "BaseException")=true) (hg:Gl X g) (hm:X.mg g=U (.ref G)) (hN:X.N.Nodup) (hi:X.N[i]?=U n) (hk:X.env.scope.names.lookup n=U .local)
  (hS:∀ v,PSs (X.suite v λ_ _=>False) (b₀::suite) ts) (h:ts { nx:=λσ' H1=>D.nx (σ'.set i Y) H1,rt:=λ_ _=>False } (σ.set i (U (.ref x))) (upd H' x (.ext (js x C dx)))) (hd:(g==("__debug__":Str))=false:=by decide) :
  wpAny (model X.prog X.w) X.A (handleBy (.ref x) X.env [.ExceptHandler (U (.Name g gp)) (U n) (b₀::suite) hp]) (SP X pins D) E s:=by
 obtain⟨nm,q,N,bs,hdct,sn,sub,ab,col,dd,k0,k1,k2,k3,k5,newId,hC⟩:=hC
 obtain⟨nm',q',N',bs',hdct',sn',sub',ab',col',dd',l0,l1,l2,l3,l5,newId',hG⟩:=hG
 have ek:js x C dx s.heap:=(show ObjOk X.prog X.w _ s.heap x (.ext (js x C dx)) from I.hok x _ ah).1
 obtain⟨oe,_,he,hc,_⟩:=ek
 refine wpAny_handleBy_cons (codeAny_handlers_test (TU I.ok.kind hg (VN (by rw[I.ok.glob];exact I.mod.glob.keeps I.bk) hm ?_) hd)) (by intro z;cases z)
 have I0:=I
 have L0:=L
 obtain⟨hh,gg,ddr,tk,os⟩:=s
 refine HT.wb (hC hh I0.kIn) (hG hh I0.kIn) he hc hin hb ?_
 show codeAny _ _ _ _ _
 refine codeAny_handlers_suite_as (Cf I0 L0 λs1 I1 L1=>?_)
 refine gl I1 hN hi (.inl hk) (v:=.ref x) (u:=.ref x) rfl (λs2 I2=>?_) (.inr hk)
 refine RF (hS (.ref x) pins s2 _ _ _ I2.suite h) (λf s3 z=>?_) λ_ _ z=>z.elim
 match f,z with
 | .next,⟨σ',H1,I3,q3⟩=>exact BF (I3.unsuite I.ok) hN hi hk λs4 I4=>⟨_,H1,I4,q3⟩
 | .brk,⟨_,_,_,q3⟩=>exact q3.elim
 | .cont,⟨_,_,_,q3⟩=>exact q3.elim
 | .ret _,⟨_,_,_,_,_,q3⟩=>exact q3.elim
end
section
variable{X:Cx}{k:Nat}{f:Addr}{fd:FuncData}{ps:List Str}{sp:Sp}{dvs:List V}{ds:List Value}{x:Str}{p cpos p1:Pos}{e:Expr}{es:List Expr}{t:TA}
noncomputable def exAs(X:Cx)(G:Addr)(i:Nat)(ts:TS)(D:kA)(σ:St):XK:=λCv od H1=>∃ C dx bm,Cv=.ref C/\od=U dx/\qh X.K C bm/\(Value.ref C::bm).contains (.ref G)=true /\
 ∀ a,H1 a=Y->ts { nx:=λσ' H2=>D.nx (σ'.set i Y) H2,rt:=λ_ _=>False } (σ.set i (U (.ref a))) (upd H1 a (.ext (js a C dx)))
end
noncomputable def DL(K:W.Frag)(C:Addr)(fl:Str):Sp:=λvs H Q _=>∃ x t v,vs=[.ref x,v]/\H x=U (.ext (qD x C t))/\qj K C fl/\∀ dx,H dx=Y->Q .non (upd (upd H x (.ext (qC x C t dx))) dx (.xd [(fl,v)]))
theorem Kb{K:W.Frag}{k:Nat}(F:FnOk P w K mg base xV k f fd ps (DL K C fl))(hb:Binds K fd ps [])(hl:ps.length=2)(c:qj K C fl) :
  zL P w K mg base k C f fl:=λA outer s H x t v u hr e0 rv hx=>by
 have KX:K.In s.heap:=e0.mod.kin.keeps λb o e=>(e0.bs b o e).1
 have b:=hb s [.ref x,u] KX (by rw[hl];rfl)
 exact F.run A outer s H ⟨[.ref x,u],[]⟩ ([.ref x,u]++[]) [.ref x,v] _ E0 hr e0 b (.cons rfl (.cons rv .nil)) ⟨x,t,v,rfl,hx,c,λdx hdx=>⟨rfl,dx,hdx,rfl⟩⟩
theorem Kc{K:W.Frag}{k:Nat}{kV oc:Value}{od:Option Addr}{osl:Array (Option Value)}
  (lk:K.lookup f=U ⟨oc,od,.func (W.fnOf name qual params [.Assign [.Attribute (.Name a p1) fl p2] (.Name b p3) pos] scope dV kV doc pm an cdv ct),osl⟩) (hcd:W.codeIn K cdv qual=true) (S:aV [a,b] [a,b] scope)
  (a1:(a==("__debug__":Str))=false) (a2:(a==("__classdict__":Str))=false) (b1:(b==("__debug__":Str))=false) (b2:(b==("__classdict__":Str))=false) :
  FnOk P w K mg base xV (k+1) f (W.fnOf name qual params [.Assign [.Attribute (.Name a p1) fl p2] (.Name b p3) pos] scope dV kV doc pm an cdv ct) [a,b] (DL K C fl):=
 Gj lk hcd S (λvs H Q E ⟨x,t,v,e,_⟩=>by rw[e];rfl) λA outer s H vs Q E hr ⟨x,t,v,ev,hx,c,q⟩=>by
  subst ev
  have vis:∀ y∈[a,b],QR scope y:=λy hy=>(S.par y hy).elim .inl λz=>.inr (.inl z)
  exact⟨_,tm (Ja (pv 0 (hv:=vis a (by simp)) (hd:=a1) (hcd:=a2)) (pv 1 (hv:=vis b (by simp)) (hd:=b1) (hcd:=b2)) rfl),v,rfl,.ref x,rfl,x,C,t,rfl,hx,c,q⟩
end L2
namespace HT
open PySem PySem.Spec PySem.Calls PyProof.Rows PySem.W Builtin Builtin.ObjectAttr
structure jA(K:Frag)(C:Addr):Prop where
 ga:findIn K (.ref C) "__getattribute__" = U (U (.builtin "BaseException.__getattribute__"))
 gt:findIn K (.ref C) "__getattr__" = U Y
 mb:mroIn K C (.type "BaseException")=U true
section
variable{prog:Program}{w:World}{A:Around}{E:Value->Shared->Prop}{s:Shared}{K:Frag}{x C:Addr}{ox:Obj}{od:Option Obj}{name:Str}{expr fill:Bool}{Q:Value->Shared->Prop}{tk:Tok}
theorem CP{nameV:Value}{Q:Unit->Shared->Prop}(X:K.In s.heap)(I:InstAt s.heap x ox C od)(W:jA K C)(hq:Q () s):wpAny M A (checkBuiltinCall "BaseException.__getattribute__" ⟨[.ref x,nameV],[]⟩) Q E s:=by
 have hk:builtinKind "BaseException.__getattribute__" = U .slot:=by decide +kernel
 have hsplit:splitId "BaseException.__getattribute__" = U ("BaseException","__getattribute__"):=by decide +kernel
 have ha:=F.args_bexc_ga (.ref x) nameV
 have L0:=I.type (M:=M)
 have L1:=looks_mroIn (M:=M) X W.mb
 have L:Looks M s.heap (isInstance (.ref x) (.type "BaseException")) true:=L0.andThen L1
 simp only[checkBuiltinCall,hk,hsplit]
 refine Rc (L.at ?_)
 repeat (first | assumption | wp_step)
theorem Gy(X:K.In s.heap)(I:InstAt s.heap x ox C od)(W:jA K C)
  (h:codeAny (model prog w) A (.call (.builtin "BaseException.__getattribute__") ⟨[.ref x,.str name tk],[]⟩) (λr s'=>∃ v,r=.ok (.ret v)/\wpAny (model prog w) A (handedOut v) Q E s') s) :
  wpAny (model prog w) A (getAttrBy (.ref x) (.str name tk) fill expr) Q E s:=by
 obtain⟨hh,g,d,t,os⟩:=s
 have L0:=I.type (M:=model prog w)
 have L1:=looks_findIn (M:=model prog w) X W.ga
 have L2:=looks_findIn (M:=model prog w) X W.gt
 have hx0:(expr&&onTheHeap (Value.builtin "BaseException.__getattribute__"))=false:=by cases expr<;>rfl
 have f3:=F.attr_ValueError.ga.bind (.ref x)
 unfold getAttrBy
 refine RX (Rc (L0.at (Rc (L1.at ?_))))
 show wpAny _ _ (getAttrByItsOwn _ _ _ _ _ _) _ _ _
 unfold getAttrByItsOwn
 refine Rc ((show Looks (model prog w) hh (hookBefore (.ref C)) Y from L2).at ?_)
 unfold callGetattribute boundAndCalled
 rw[hx0,f3]
 refine Rc (Uf (RX ?_))
 refine Rc (Rh (Uv (Sx h λr s' z=>?_)))
 obtain⟨v,rfl,z⟩:=z
 exact z
theorem xq{R:Result->Shared->Prop}(X:K.In s.heap)(I:InstAt s.heap x ox C od)(W:jA K C)
  (h:wpAny (model prog w) A.in1 (Builtin.«object.__getattribute__» ⟨[.ref x,.str name tk],[]⟩) (λfin s'=>match fin with | .done f=>R (.ok f) s' | .again c'=>c'.quiet=true/\codeAny (model prog w) A c' R s') (λe s'=>R (.error e) s') s) :
  codeAny (model prog w) A (.call (.builtin "BaseException.__getattribute__") ⟨[.ref x,.str name tk],[]⟩) R s:=
 Wc F.attr_ValueError.ga.plain F.entry_bexc_ga (CP X I W h)
theorem Cj(X:K.In s.heap)(I:InstAt s.heap x ox C od)(W:jA K C)(hf:findObj K C od name=U (.value v))(hh:handedIn v=true)(h:Q v { s with toks:=s.toks+1 }):wpAny (model prog w) A (getAttr (.ref x) name expr) Q E s:=by
 unfold getAttr
 refine Rc (wpAny_mkText (Gy X I W (xq X I W ?_)))
 obtain⟨hp,g,d,t,os⟩:=s
 have L0:=I.type (M:=model prog w)
 have L1:=looks_find (M:=model prog w) X I hf
 unfold Builtin.«object.__getattribute__»
 refine Rc (Rh (Rc (Rh (Rc (L0.at (Rc (L1.at ?_)))))))
 refine Rh ⟨v,rfl,?_⟩
 rw[handedOut_of hh]
 exact Rh h
theorem Ck{D:Addr}{od:Obj}{Q:Option Value->Shared->Prop}(X:K.In s.heap)(I:InstAt s.heap x ox D (U od))(W:jA K D)(hdct:hasDictIn K D=true)(ha:findIn K (.ref D) "__class__" = U (U (.builtin "object.__class__")))
  (hn:specialIn K (.builtin "object.__class__") "__get__" = U (U (.builtin "getset_descriptor.__get__"))) (htk:takesIn K (.builtin "object.__class__")=U true) (hm:mroIn K D (.type "object")=U true)
  (h:Q (U (.ref D)) { s with toks:=s.toks+1 }):wpAny (model prog w) A (getAttr? (.ref x) "__class__") Q E s:=by
 have hf:findObj K D (U od) "__class__" = U (.bind (.builtin "getset_descriptor.__get__") (.builtin "object.__class__")):=findObj_data (by obtain⟨cd,hc,_⟩:=any_some hdct;rw[hc];rfl) ha hn htk
 unfold getAttr? getAttrBy?
 refine Rc (wpAny_mkText (Rc (Uf (Gy X I W (xq X I W ?_)))))
 obtain⟨hp,g,d,t,os⟩:=s
 have L0:=I.type (M:=model prog w)
 have L1:=looks_find (M:=model prog w) X I hf
 unfold Builtin.«object.__getattribute__»
 refine Rc (Rh (Rc (Rh (Rc (L0.at (Rc (L1.at ?_)))))))
 show wpAny _ _ (holding [Value.builtin "object.__class__"] (call (.builtin "getset_descriptor.__get__") [.builtin "object.__class__",.ref x,.ref D]) >>= ret) _ _ _
 refine Rc (RX (Uv (class_get (s:=⟨hp,g,d,t+1,os⟩) (ox:=ox) (od:=U od) X I hm ?_)))
 exact Rh ⟨_,rfl,Rh (Rh h)⟩
theorem wN{D:Addr}{ox od:Obj}(W:jA K D)(hdct:hasDictIn K D=true)(ha:findIn K (.ref D) "__class__" = U (U (.builtin "object.__class__")))
  (hn:specialIn K (.builtin "object.__class__") "__get__" = U (U (.builtin "getset_descriptor.__get__"))) (htk:takesIn K (.builtin "object.__class__")=U true) (hm:mroIn K D (.type "object")=U true) :
  KitX K (.ref x) (.ref D) (λh=>InstAt h x ox D (U od)) where
 ty:=λ_ _ _ I=>I.type
 it:=λ_ _ X _=>by
  obtain⟨cdD,hcD,_⟩:=any_some hdct
  unfold clsIn at hcD
  split at hcD
  ·rename_i ho
   intro A' Q' E' s' k q
   unfold isType loadHead
   exact Rc (wpAny_loadPart (k _ _ (X _ _ ho)) (Rh q))
  ·cases hcD
 ne:=λh tp dd its n sl X htp=>by
  obtain⟨cdD,hcD,_⟩:=any_some hdct
  refine Bool.eq_false_iff.mpr λq=>?_
  have e:D=tp:=Value.ref.inj (RC.mp q)
  subst e
  unfold clsIn at hcD
  split at hcD
  ·rename_i ho
   have z:=(X _ _ ho).symm.trans htp
   cases z
  ·cases hcD
 ca:=λX I k=>Ck X I W hdct ha hn htk hm k
end
end HT
namespace L2
structure qi(K:W.Frag)(C:Addr)(f:Str):Prop where
 wy:HT.jA K C
 hd:W.hasDictIn K C=true
 no:W.findIn K (.ref C) f=U Y
noncomputable def tFldX(K:W.Frag)(ta:TE)(f:Str):TE:=λσ H Q=>ta σ H λx H1=>∃ a C dx fs v,x=.ref a/\H1 a=U (.ext (js a C dx))/\H1 dx=U (.xd fs)/\qi K C f/\fs.lookup f=U v/\Q v H1
section
variable{X:Cx}{e:Expr}{f:Str}{pos:Pos}{ta:TE}
theorem Jk(he:PE X e ta)(hb:attributeBase e f X.env (eval e X.env)=eval e X.env):PE X (.Attribute e f pos) (tFldX X.K ta f):=by
 intro pins s σ H Q I h
 refine Lu hb (bN (he pins s σ H _ I h) λu s1 ⟨x,H1,I1,rx,a,C,dx,fs,v,ex,ea,ed,c,l,q⟩=>?_)
 subst ex
 obtain rfl:u=Value.ref a:=rx
 obtain⟨oe,ws,h1,h2,h3,h4⟩:js a C dx s1.heap:=(show ObjOk X.prog X.w _ s1.heap a (.ext (js a C dx)) from I1.hok a _ ea).1
 obtain⟨mA,hn,r⟩:=(show ObjOk X.prog X.w _ s1.heap dx (.xd fs) from I1.hok dx _ ed)
 obtain⟨u',hu,ru⟩:=RelO.some_of (v:=v) (o:=mA f) (by rw[<- l];exact r f)
 obtain⟨od,ho,hl⟩:=rM hn
 have J:W.InstAt s1.heap a oe C (U od):=⟨h1,h2,by obtain⟨_,_,d,_⟩:=oe;cases h4;rfl,by rw[h3];exact ho⟩
 exact HT.Cj I1.kIn J c.wy (W.findObj_own c.hd c.no rfl (by rw[hl,hu])) (Cd ru) ⟨v,H1,I1.tok _,ru,q⟩
end
end L2
namespace M
open L2
inductive Ik where
 | ok (o:ny)
 | xc (i:Option Int) (S:aa)
noncomputable abbrev MY:=ai->aa->Option Ik
inductive RY where
 | val (d:D) (S:aa)
 | xc (i:Option Int) (S:aa)
noncomputable def PostX(K:W.Frag)(C:Addr)(fl:Str)(μ:Fp)(H:Hp)(S':aa)(i:Option Int)(E:XK):Prop:=∀ dx H' μ',Ext μ H μ' H'->SOk K μ' S' H'->H' dx=Y->E (.ref C) (U dx) (upd H' dx (.xd [(fl,vI i)]))
noncomputable def PostY(K:W.Frag)(C:Addr)(fl:Str)(E:XK)(μ:Fp)(H:Hp)(o:Ik)(D:kA):Prop:=match o with
 | .ok o=>PostS K μ H o D
 | .xc i S'=>PostX K C fl μ H S' i E
inductive tY(K:W.Frag)(C:Addr)(fl:Str)(E:XK)(m:MY)(D:kA)(σ:L2.St)(H:Hp):Prop
 | mk (μ:Fp) (S:aa) (env:ai) (o:Ik) (hS:SOk K μ S H) (hE:EOk K μ H σ env) (h:m env S=U o) (post:PostY K C fl E μ H o D)
noncomputable def DY(X:Cx)(C:Addr)(fl:Str)(E:XK)(st:Stmt)(m:MY):Prop:=PS X st (tY X.K C fl E m)
noncomputable def Il(X:Cx)(C:Addr)(fl:Str)(E:XK)(st:List Stmt)(m:MY):Prop:=PSs X st (tY X.K C fl E m)
structure XOk(X:Cx)(E:XK):Prop where
 hs:X.stack=X.env::X.outer
 hfm:X.env.frame=U X.env.locals
 hex:X.ex=[]
 hxe:∀ e' s',wpAny (model X.prog X.w) X.A (leaving X.env e') (λ_ s''=>jR X.prog X.w X.outer X.H₀ X.s₀ E e' s'') (λ_ _=>False) s'->X.xe e' s'
section
variable{X:Cx}{K:W.Frag}{μ μ':Fp}{H H':Hp}{S S':aa}{C:Addr}{fl:Str}{E:XK}{Z:kA}{st:Stmt}{pos:Pos}
theorem PostX.ext(e:Ext μ H μ' H')(p:PostX K C fl μ H S' i E):PostX K C fl μ' H' S' i E:=λdx H2 μ2 e2 s n=>p dx H2 μ2 (e.trans e2) s n
theorem PostY.ext(e:Ext μ H μ' H')(p:PostY K C fl E μ H o Z):PostY K C fl E μ' H' o Z:=by
 cases o with
 | ok o=>exact PostS.ext e p
 | xc i S=>exact PostX.ext e p
noncomputable def nQ(m:MS):MY:=λenv S=>(m env S).bind λo=>U (.ok o)
theorem AT(h:DS X st m):DY X C fl E st (nQ m):=PS.imp h λD σ H ⟨μ,S,env,o,hS,hE,hm,post⟩=>by
 obtain⟨o1,h1,hm⟩:=Rb.mp hm
 cases hm
 exact⟨μ,S,env,o1,hS,hE,h1,post⟩
theorem Kx:Il X C fl E [] (nQ aI):=PSs.imp AW λD σ H ⟨μ,S,env,o,hS,hE,hm,post⟩=>by
 obtain⟨o1,h1,hm⟩:=Rb.mp hm
 cases hm
 exact⟨μ,S,env,o1,hS,hE,h1,post⟩
noncomputable def iJ(a b:MY):MY:=λenv S=>(a env S).bind λo=>match o with | .ok (.nx env' S')=>b env' S' | o=>U o
theorem GU(h1:DY X C fl E st a)(h2:Il X C fl E rest b):Il X C fl E (st::rest) (iJ a b):=PSs.imp (vJ h1 h2) λD σ H ⟨μ,S,env,o,hS,hE,hm,post⟩=>by
 obtain⟨o1,h1,hm⟩:=Rb.mp hm
 refine⟨μ,S,env,o1,hS,hE,h1,?_⟩
 match o1,hm with
 | .ok (.nx env' S'),hm=>exact λσ' H' μ' e s r=>⟨μ',S',env',o,s,r,hm,post.ext e⟩
 | .ok (.rt d S'),hm=>cases hm;exact post
 | .ok (.bk d S'),hm=>cases hm;exact post
 | .ok (.ct d S'),hm=>cases hm;exact post
 | .xc i S',hm=>cases hm;exact post
theorem Kw(h1:DY X C fl E st a):Il X C fl E [st] a:=tm h1
noncomputable def tU(t:MT)(a b:MY):MY:=λenv S=>(t env S).bind λp=>if p.1=true then a env p.2 else b env p.2
theorem dy_if{mt:MT}{mb:MY}(hc:DT X c mt)(ha:Il X C fl E a ma)(hb:Il X C fl E b mb):DY X C fl E (.If c a b pos) (tU mt ma mb):=PS.imp (LV hc ha hb) λD σ H ⟨μ,S,env,o,hS,hE,hm,post⟩=>by
 obtain⟨⟨k,S1⟩,h1,hm⟩:=Rb.mp hm
 refine⟨μ,S,env,k,S1,hS,hE,h1,λH1 μ1 e1 s1=>?_⟩
 cases k with
 | true=>rw[Ru rfl] at hm ⊢;exact⟨μ1,S1,env,o,s1,hE.mono e1,hm,post.ext e1⟩
 | false=>rw[RH Rq] at hm ⊢;exact⟨μ1,S1,env,o,s1,hE.mono e1,hm,post.ext e1⟩
noncomputable def ydI:D->Option (Option Int)
 | .non=>U Y
 | .int i=>U (U i)
 | _=>Y
noncomputable def ydD:Option Int->D
 | none=>.non
 | some i=>.int i
theorem Io{d:D}{i:Option Int}(r:Rep K μ H v d)(h:ydI d=U i):v=vI i:=by
 cases d<;>first | (cases h;cases r;rfl) | cases h
theorem Ip:Rep K μ H (vI i) (ydD i):=by
 cases i with
 | none=>exact .non
 | some i=>exact .int i
noncomputable def gH(m:ME):MY:=λenv S=>(m env S).bind λp=>(ydI p.1).bind λi=>U (.xc i p.2)
noncomputable def xQ(P:Program)(w:World)(K:W.Frag)(mg:Str->Option Value)(base:Heap)(x:Str)(C:Addr)(fl:Str):Prop:=∃ f,xU K C f/\zL P w K mg base 1 C f fl/\mg x=U (.ref C)
theorem GV(R:xQ X.prog X.w X.K X.mg X.base x C fl)(hr:Room 2 X.A)(hg:Gl X x)(he:DE X e m)(hcalm:X.calm=true)(O:XOk X E)
  (hd:(x==("__debug__":Str))=false) (hst:starEach [e] X.env=(false,eval e X.env)::starEach [] X.env):DY X C fl E (.Raise (U (.Call (.Name x np) [e] [] cpos)) Y pos) (gH m):=by
 obtain⟨f,R,N,hm⟩:=R
 refine PS.imp (Ei (E:=E) R N (λus=>hr.make C us []) hg hm he hcalm O.hs O.hfm O.hex O.hxe hd hst) λD σ H ⟨μ,S,env,o,hS,hE,hm,post⟩=>?_
 obtain⟨⟨d,S1⟩,h1,hm⟩:=Rb.mp hm
 obtain⟨i,h2,hm⟩:=Rb.mp hm
 cases hm
 refine⟨μ,S,env,d,S1,hS,hE,h1,λv H1 μ1 e1 s1 r1 dx n=>?_⟩
 rw[Io r1 h2]
 exact post dx H1 μ1 e1 s1 n
noncomputable def gm(g:MG)(body:MY):List D->ai->aa->Option Ik
 | [],env,S=>U (.ok (.nx env S))
 | d::ds,env,S=>(g d env S).bind λp=>(body p.1 p.2).bind λo=>match o with
  | .ok (.nx e s)=>gm g body ds e s
  | .ok (.ct e s)=>gm g body ds e s
  | .ok (.bk e s)=>U (.ok (.nx e s))
  | .ok (.rt d s)=>U (.ok (.rt d s))
  | .xc i s=>U (.xc i s)
noncomputable def wf(mi:MA)(g:MG)(body:MY):MY:=λenv S=>(mi env S).bind λp=>gm g body p.1 env p.2
theorem Qd{mb:MY}(hp:PassesOwn (model X.prog X.w) X.A X.env X.xe)(hc:X.calm=true)(hi:DI X tg iter mi)(hg:DG X tg g)(hb:Il X C fl E body mb)
  (hs:∀ x,foldedSetIterable iter X.env x=pure x):DY X C fl E (.For tg iter body [] pos) (wf mi g mb):=PS.imp (yk hp hc hi hg hb hs) λD σ H ⟨μ,S,env,o,hS,hE,hm,post⟩=>by
 obtain⟨⟨xs,S1⟩,h1,hm⟩:=Rb.mp hm
 refine⟨μ,S,env,xs,S1,hS,hE,h1,λJ H1 μ1 e1 s1 it=>?_⟩
 refine⟨λi n σ H=>n=xs.length - i/\i<=xs.length/\∃ μ' S' env' o',Ext μ1 H1 μ' H/\SOk X.K μ' S' H/\EOk X.K μ' H σ env'/\gm g mb (xs.drop i) env' S'=U o'/\PostY X.K C fl E μ' H o' D,
  ⟨xs.length,by simp,SJ _,μ1,S1,env,o,s1.ext,s1,hE.mono e1,by rw[SK];exact hm,post.ext e1⟩,?_⟩
 rintro i n σ' H' ⟨rfl,hi,μ',S',env',o',e',s',r',hl,post'⟩
 have iti:=it μ' H' S' e'.toP s' i
 by_cases hlt:i<xs.length
 ·refine .inr ⟨(iti.1 xs[i] (Rp hlt)).1,λσ2 H2=>∃ μ2 S2 env2 o2,Ext μ1 H1 μ2 H2/\SOk X.K μ2 S2 H2/\EOk X.K μ2 H2 σ2 env2/\gm g mb (xs.drop (i+1)) env2 S2=U o2/\PostY X.K C fl E μ2 H2 o2 D,
   λσ2 H2 ⟨μ2,S2,env2,o2,q1,q2,q3,q4,q5⟩=>⟨xs.length - (i+1),by omega,rfl,hlt,μ2,S2,env2,o2,q1,q2,q3,q4,q5⟩,λx H2 y=>?_⟩
  obtain⟨e2,s2,rx⟩:=(iti.1 xs[i] (Rp hlt)).2 x H2 y
  rw[RW hlt] at hl
  obtain⟨⟨env3,S3⟩,h3,hl⟩:=Rb.mp hl
  obtain⟨o4,h4,hl⟩:=Rb.mp hl
  refine⟨μ',S',env',xs[i],env3,S3,s2,r'.mono e2,rx,h3,λσ3 H3 μ3 e3 s3 r3=>⟨μ3,S3,env3,o4,s3,r3,h4,?_⟩⟩
  have eT:Ext μ1 H1 μ3 H3:=(e'.trans e2).trans e3
  have pT:PostY X.K C fl E μ3 H3 o' D:=(post'.ext e2).ext e3
  match o4,hl with
  | .ok (.nx e5 s5),hl=>exact λσ6 H6 μ6 e6 s6 r6=>⟨μ6,s5,e5,o',eT.trans e6,s6,r6,hl,pT.ext e6⟩
  | .ok (.ct e5 s5),hl=>exact λσ6 H6 μ6 e6 s6 r6=>⟨μ6,s5,e5,o',eT.trans e6,s6,r6,hl,pT.ext e6⟩
  | .ok (.bk e5 s5),hl=>cases hl;exact pT
  | .ok (.rt d5 s5),hl=>cases hl;exact pT
  | .xc i5 s5,hl=>cases hl;exact pT
 ·have e:i=xs.length:=by omega
  subst e
  refine .inl ⟨iti.2 (Rn _),?_⟩
  rw[SU] at hl
  cases hl
  exact post' σ' H' μ' s'.ext s' r'
end
noncomputable def spY(K:W.Frag)(C:Addr)(fl:Str)(n:Nat)(fy:List D->aa->Option RY):Sp:=λvs H Q E=>∃ μ S ds r,SOk K μ S H/\Reps K μ H vs ds/\ds.length=n/\fy ds S=U r/\match r with | .val d S'=>Post K μ H S' d Q | .xc i S'=>PostX K C fl μ H S' i E
structure FnY(P:Program)(w:World)(K:W.Frag)(mg:Str->Option Value)(base:Heap)(k:Nat)(x:Str)(n:Nat)(fy:List D->aa->Option RY)(C:Addr)(fl:Str):Prop where
 ex:∃ (a:Addr) (fd:FuncData) (ps:List Str),ps.length=n/\FnOk P w K mg base (jR P w) k a fd ps (spY K C fl n fy)/\mg x=U (.ref a)/\W.keepIn K (.ref a)=true/\Binds K fd ps []
theorem FnY.up{K:W.Frag}{k k':Nat}(F:FnY P w K mg base k x n fy C fl)(h:k<=k':=by decide):FnY P w K mg base k' x n fy C fl:=by
 obtain⟨a,fd,ps,h1,h2,h3⟩:=F.ex
 exact⟨a,fd,ps,h1,h2.mono h,h3⟩
noncomputable def sZ(N:List Str)(m:MY)(n:Nat):List D->aa->Option RY:=λds S=>if ds.length=n then(m (bh N ds) S).bind λo=>match o with | .ok (.rt d S')=>U (.val d S') | .ok (.nx _ S')=>U (.val .non S') | .xc i S'=>U (.xc i S') | _=>Y else Y
theorem xok{K:W.Frag}{s:Shared}:XOk (nH (jR P w) P w K mg base N q sc a cdv A outer s H E) E:=
 ⟨rfl,rfl,rfl,λe s' h=>RF h (λ_ _ z=>z) λ_ _ z=>z.elim⟩
theorem PJ{K:W.Frag}{k:Nat}{st:Stmt}
  (F:dh K mg x st) (Sc:aV N ps (am st)) (hb:kD x st ps)
  (hbody:∀ (a:Addr) (cdv:Value) (A:Around) (outer:List PySem.Env) (s:Shared) (H:Hp) (E:XK),Room k (A.deeper (envOfC x (am st) s.heap.objs.size a cdv)) ->
   Il (nH (jR P w) P w K mg base N x (am st) a cdv A outer s H E) C fl E (aH st) m) :
  FnY P w K mg base (k+1) x ps.length (sZ N m ps.length) C fl:=by
 obtain⟨a,fd,F,hmg⟩:=F.ex
 have hbd:=F.binds hb
 refine⟨a,fd,ps,rfl,?_,hmg,F.kp,hbd⟩
 obtain⟨oc,od,kV,doc,pm,an,cdv,ct,osl,rfl,lk,hcd⟩:=F.ex
 refine Gj lk hcd Sc (λvs H Q E ⟨μ,S,ds,r,hS,hr,hn,_⟩=>by rw[hr.length,hn]) λA outer s H vs Q E hr ⟨μ,S,ds,r,hS,hrp,hn,hf,post⟩=>⟨_,hbody a cdv A outer s H E hr,?_⟩
 have hEnv:EOk K μ H (L2.start N vs) (bh N ds):=by unfold L2.start bh;rw[hrp.length];exact EOk.start hrp
 unfold sZ at hf
 rw[Ru hn] at hf
 obtain⟨o,h1,hf⟩:=Rb.mp hf
 match o,hf with
 | .ok (.rt d S'),hf=>cases hf;exact⟨μ,S,_,_,hS,hEnv,h1,post⟩
 | .ok (.nx e S'),hf=>cases hf;exact⟨μ,S,_,_,hS,hEnv,h1,λσ' H' μ' e s' _=>post .non H' μ' e s' .non⟩
 | .xc i S',hf=>cases hf;exact⟨μ,S,_,_,hS,hEnv,h1,post⟩
noncomputable def xT(K:W.Frag)(mg:Str->Option Value)(g:Str)(C:Addr):Prop:=∃ G bm bmG,mg g=U (.ref G)/\qh K C bm/\qh K G bmG/\(Value.ref C::bm).contains (.ref G)=true/\bmG.contains (.type "BaseException")=true
section
variable{X:Cx}{K:W.Frag}{μ μ':Fp}{H H':Hp}{S S':aa}{C:Addr}{fl:Str}
theorem EOk.unset:∀ {σ:L2.St} {env:ai} (i:Nat),EOk K μ H σ env->EOk K μ H (σ.set i Y) (env.set i Y)
 | _,_,_,.nil=>.nil
 | _,_,0,.no t=>.no t
 | _,_,0,.yes _ t=>.no t
 | _,_,i+1,.no t=>.no (EOk.unset i t)
 | _,_,i+1,.yes h t=>.yes h (EOk.unset i t)
structure Di(K:W.Frag)(C:Addr):Prop where
 wy:HT.jA K C
 hd:W.hasDictIn K C=true
 a:W.findIn K (.ref C) "__class__" = U (U (.builtin "object.__class__"))
 n:W.specialIn K (.builtin "object.__class__") "__get__" = U (U (.builtin "getset_descriptor.__get__"))
 t:W.takesIn K (.builtin "object.__class__")=U true
 m:W.mroIn K C (.type "object")=U true
noncomputable def ClsOk(K:W.Frag)(mg:Str->Option Value)(x:Str)(C:Addr)(b:Bool):Prop:=∃ v c,(mg x=U c\/(mg x=Y/\bootBuiltins x=U c/\x≠"__name__"))/\RelV v c/\(∀ u,RelV v u->u=c)/\W.kitOne K (.ref C) c=U b/\Di K C
theorem ClsOk.pe(c:ClsOk X.K X.mg x C b)(hg:Gl X x)(hd:(x==("__debug__":Str))=false):∃ v c,PE X (.Name x p) (tC v)/\(∀ u,RelV v u->u=c)/\W.kitOne X.K (.ref C) c=U b/\Di X.K C:=by
 obtain⟨v,c,h,r,u,k,o⟩:=c
 refine⟨v,c,?_,u,k,o⟩
 rcases h with h | ⟨h1,h2,h3⟩
 ·exact tz hg h r hd
 ·exact zR hg h1 h2 r h3 hd
theorem AE{s:Shared}{fs:List (Str×V)}(I:Inv X pins σ H s)(h:H a=U (.ext (js a C dx)))(h2:H dx=U (.xd fs)):∃ oe od,W.InstAt s.heap a oe C (U od):=by
 obtain⟨oe,ws,q1,q2,q3,q4⟩:js a C dx s.heap:=(show ObjOk X.prog X.w _ s.heap a (.ext (js a C dx)) from I.hok a _ h).1
 obtain⟨mA,hn,r⟩:=(show ObjOk X.prog X.w _ s.heap dx (.xd fs) from I.hok dx _ h2)
 obtain⟨od,ho,hl⟩:=rM hn
 exact⟨oe,od,q1,q2,by obtain⟨_,_,d,_⟩:=oe;cases q4;rfl,by rw[q3];exact ho⟩
noncomputable def ub(C:Addr)(b:Bool)(m:ME):ME:=λenv S=>(m env S).bind λp=>match p.1 with | .exc C' _ _=>if C'=C then U (.bl b,p.2) else Y | _=>Y
theorem rG{S S':aa}{d:D}(h:ub C b m env S=U (d,S')):∃ fl i,m env S=U (.exc C fl i,S')/\d=.bl b:=by
 obtain⟨⟨x,S1⟩,h1,hm⟩:=Rb.mp h
 cases x<;>first | (cases hm;done) | skip
 dsimp only at hm
 split at hm
 ·rename_i e;cases hm;subst e;exact⟨_,_,h1,rfl⟩
 ·cases hm
theorem Qw{p:Pos}(hm:X.mg "isinstance" = Y)(c:ClsOk X.K X.mg x C b)(hg:Gl X "isinstance")(hgx:Gl X x)(hd:(x==("__debug__":Str))=false)(ha:DE X a ma)
  (hs1:starEach [a,.Name x p2] X.env=(false,eval a X.env)::starEach [.Name x p2] X.env):DE X (.Call (.Name "isinstance" p) [a,.Name x p2] [] pos) (ub C b ma):=by
 obtain⟨v,c,pe,hv,k,o⟩:=c.pe (p:=p2) hgx hd
 have hc:CallR X (.builtin "isinstance") (λvs H Q=>∃ a dx fs,vs=[.ref a,v]/\H a=U (.ext (js a C dx))/\H dx=U (.xd fs)/\Q (.bl b) H):=by
  intro pins s σ H xs us Q I rv h
  obtain⟨a,dx,fs,rfl,h1,h2,q⟩:=h
  obtain⟨u,w',rfl,r1,r2⟩:=vh rv
  cases r1
  cases hv _ r2
  obtain⟨oe,od,J⟩:=AE I h1 h2
  exact SN (HT.wN o.wy o.hd o.a o.n o.t o.m) I.kIn J k (λz=>nomatch z) λtk=>⟨.bl _,H,I.tok _,rfl,q⟩
 refine PE.imp (kN hc hg hm Vn (gF ha (gF pe oO rfl) hs1) (by decide) (by decide) hs1 rfl) λσ H Q ⟨μ,S,env,d,S',hS,hE,hm,post⟩=>?_
 obtain⟨fl,i,h1,rfl⟩:=rG hm
 refine⟨μ,S,env,_,S',hS,hE,h1,λv H1 μ1 e1 s1 r1=>?_⟩
 cases r1 with
 | exc q1 n1 q2 n2=>exact⟨_,_,_,rfl,q1,q2,post _ H1 μ1 e1 s1 (.bl _)⟩
inductive ClsL(X:Cx)(C:Addr):List Expr->List Bool->Prop
 | nil:ClsL X C [] []
 | cons {x:Str} {p:Pos} {b:Bool} {es:List Expr} {bs:List Bool} (c:ClsOk X.K X.mg x C b) (hg:Gl X x) (hd:(x==("__debug__":Str))=false) (t:ClsL X C es bs):ClsL X C (.Name x p::es) (b::bs)
noncomputable def tCs(vs:List V):TA:=λ_ H Q=>Q vs H
theorem ClsL.pa:∀ {es:List Expr} {bs:List Bool},ClsL X C es bs->∃ vs cs,PA X es (tCs vs)/\(∀ us,Vals vs us->us=cs)/\W.kitAny X.K (.ref C) cs=U (bs.any id)/\vs.length=es.length
 | _,_,.nil=>⟨[],[],oO,λus r=>by cases r;rfl,rfl,rfl⟩
 | _,_,.cons c hg hd t=>by
  obtain⟨v,c,pe,hv,k,o⟩:=c.pe hg hd
  obtain⟨vs,cs,pa,hvs,ks,hl⟩:=ClsL.pa t
  refine⟨v::vs,c::cs,gF pe pa rfl,λus r=>?_,?_,by simp[hl]⟩
  ·cases r with
   | cons a r=>rw[hv _ a,hvs _ r]
  ·unfold W.kitAny
   rw[k]
   rename_i b _ _ _
   cases b with
   | true=>rfl
   | false=>exact ks
theorem ClsL.own:∀ {es:List Expr} {bs:List Bool},ClsL X C es bs->es≠[]->Di X.K C
 | _,_,.nil,h=>absurd rfl h
 | _,_,.cons c _ _ _,_=>by obtain⟨_,_,_,_,_,_,o⟩:=c;exact o
theorem La{bs:List Bool}{p:Pos}(hm:X.mg "isinstance" = Y)(c:ClsL X C es bs)(hne:es≠[])(hl:es.length<=20)(hg:Gl X "isinstance")(ha:DE X a ma)
  (hs1:starEach [a,.Tuple es j p2] X.env=(false,eval a X.env)::starEach [.Tuple es j p2] X.env):DE X (.Call (.Name "isinstance" p) [a,.Tuple es j p2] [] pos) (ub C (bs.any id) ma):=by
 obtain⟨vs,cs,pa,hv,k,hvl⟩:=c.pa
 have o:=c.own hne
 have hc:CallR X (.builtin "isinstance") (λws H Q=>∃ a dx fs t,ws=[.ref a,.ref t]/\H t=U (.tup vs)/\H a=U (.ext (js a C dx))/\H dx=U (.xd fs)/\Q (.bl (bs.any id)) H):=by
  intro pins s σ H xs us Q I rv h
  obtain⟨a,dx,fs,t,rfl,ht,h1,h2,q⟩:=h
  obtain⟨u,w',rfl,r1,r2⟩:=vh rv
  cases r1
  cases r2
  obtain⟨oe,od,J⟩:=AE I h1 h2
  obtain⟨its,rv,⟨ot,q1,q2,n,q3⟩,_⟩:=I.tuple (.inl (.inl ht))
  cases hv _ rv
  obtain⟨_,dd,_,sl⟩:=ot
  cases q2
  cases q3
  exact W.kia_tup (HT.wN o.wy o.hd o.a o.n o.t o.m) I.kIn J q1 k (λz=>nomatch z) λtk=>⟨.bl _,H,I.tok _,rfl,q⟩
 refine PE.imp (kN hc hg hm Vn (gF ha (gF (Es pa) oO rfl) hs1) (by decide) (by decide) hs1 rfl) λσ H Q ⟨μ,S,env,d,S',hS,hE,hm,post⟩=>?_
 obtain⟨fl,i,h1,rfl⟩:=rG hm
 refine⟨μ,S,env,_,S',hS,hE,h1,λv H1 μ1 e1 s1 r1=>⟨?_,λt nt=>?_⟩⟩
 ·exact RG (by rw[hvl];exact hl) (by decide)
 ·obtain⟨e2,s2⟩:=s1.laid (o:=.tup vs) nt
  have r2:=r1.mono e2
  cases r2 with
  | exc q1 n1 q2 n2=>exact⟨_,_,_,t,rfl,ah,q1,q2,post _ _ μ1 (e1.trans e2) s2 (.bl _)⟩
noncomputable def wB(C:Addr)(fl:Str)(m:ME):ME:=λenv S=>(m env S).bind λp=>match p.1 with | .exc C' fl' i=>if C'=C/\fl'=fl then U (ydD i,p.2) else Y | _=>Y
theorem Lc(c:qi X.K C fl)(he:DE X e m)(hb:attributeBase e fl X.env (eval e X.env)=eval e X.env):DE X (.Attribute e fl pos) (wB C fl m):=
 PE.imp (Jk he hb) λσ H Q ⟨μ,S,env,d,S',hS,hE,hm,post⟩=>by
  obtain⟨⟨x,S1⟩,h1,hm⟩:=Rb.mp hm
  cases x<;>first | (cases hm;done) | skip
  dsimp only at hm
  split at hm
  ·rename_i e;cases hm;obtain⟨rfl,rfl⟩:=e
   refine⟨μ,S,env,_,_,hS,hE,h1,λv H1 μ1 e1 s1 r1=>?_⟩
   cases r1 with
   | exc q1 n1 q2 n2=>exact⟨_,_,_,_,_,rfl,q1,q2,c,by simp,post _ H1 μ1 e1 s1 Ip⟩
  ·cases hm
end
end M
namespace L2
theorem PB.imp{t':TB}(h:PB X m t)(i:∀ σ H Q,t' σ H Q->t σ H Q):PB X m t':=λpins s σ H Q I q=>h pins s σ H Q I (i σ H Q q)
noncomputable def wX(e iter:Expr)(d:Nat)(acc:Value)(env:Env):Sem Unit:=do
 let x <- eval iter env
 standAt iter.pos
 let x <- foldedSetIterable iter env x
 let it <- holding [x] (pyIter x)
 let _ <- runOwn (.compStart e d it acc env) env
 pure ()
section
variable{elt tg iter tg2 iter2:Expr}{gens:List Comprehension}{ifs ifs2:List Expr}{scope:Scope}{pos:Pos}{d:Nat}
theorem xG(h1:gens[d]?=U ⟨tg,iter,ifs,0⟩)(h2:gens[d+1]?=U ⟨tg2,iter2,ifs2,0⟩)(it acc:Value)(env:Env) :
  compTurn (.ListComp elt gens scope pos) d it acc env=bZ (.ListComp elt gens scope pos) tg iter.pos ifs d it acc env (wX (.ListComp elt gens scope pos) iter2 (d+1) acc env):=by
 unfold compTurn bZ wX
 simp only[h1,h2,bind_assoc,Vk]
 rfl
theorem qF(h1:gens[d]?=U ⟨tg,iter,ifs,0⟩)(h2:gens[d+1]?=Y)(it acc:Value)(env:Env) :
  compTurn (.ListComp elt gens scope pos) d it acc env=bZ (.ListComp elt gens scope pos) tg iter.pos ifs d it acc env (mD elt acc env):=by
 unfold compTurn bZ mD
 simp only[h1,h2,bind_assoc,Vk]
 rfl
theorem jx{s:Shared}(h1:gens[d]?=U ⟨tg,iter,ifs,0⟩)
  (h0:codeAny (model prog w) A (.compLoop (.ListComp elt gens scope pos) d it acc env) R s)
  (h:wpAny (model prog w) A (pyIter it) (λit' s'=>codeAny (model prog w) A (.compLoop (.ListComp elt gens scope pos) d it' acc env) R s') (notedBy (model prog w) A env λx s'=>R (.error x) s') s) :
  codeAny (model prog w) A (.compStart (.ListComp elt gens scope pos) d it acc env) R s:=by
 refine Vl ?_
 refine wpAny_notedAt ?_
 show wpAny _ _ (compStart _ d _ _ _) _ _ _
 unfold compStart
 have hc:clausesOf (.ListComp elt gens scope pos)=gens:=rfl
 rw[hc,h1]
 refine Rc (wpAny_askSetting (wpAny_ite ?_))
 by_cases hq:({ program:=(model prog w).prog,params:=(model prog w).w.params:Setting }.params.followText "comprehension-iter-twice")=true
 ·rw[Ru hq];exact Rc (Rh (Rh ⟨rfl,h0⟩))
 ·rw[RH hq];exact Rc (TH (Rc (Sn (Rc (RF h (λit' s' h'=>Rh ⟨rfl,h'⟩) λ_ _ z=>z)))))
noncomputable def tInB(wi:TI)(g:TG)(tt:TT)(tb:TB):TB:=λσ H Q=>wi σ H λJ H1=>jU J g tt tb σ H1 Q
theorem Oa{X:Cx}(hc:X.calm=true)(hx:∀ e s,X.xe e s->False)(h1:gens[d]?=U ⟨tg,iter,ifs,0⟩)
  (htn:∀ it,compTurn (.ListComp elt gens scope pos) d it (.ref p) X.env=bZ (.ListComp elt gens scope pos) tg iter.pos ifs d it (.ref p) X.env bc)
  (hi:PI X tg iter wi) (hg:PG X tg g) (ht:Be X ifs tt) (hb:PB X bc tb) (hs:∀ x,foldedSetIterable iter X.env x=pure x) :
  PB X (wX (.ListComp elt gens scope pos) iter d (.ref p) X.env) (tInB wi g tt tb):=λpins s σ H Q I h=>by
 refine Rc (bN (hi pins s σ H _ I h) λx s1 h1'=>Rc (Sn ?_))
 rw[hs]
 refine Rc (Rh (Rc (RX (bN h1' λitv s2 h2=>?_))))
 obtain⟨it,fp,tn,J,H1,e,I2,T,st2,f2,hL⟩:=h2
 subst e
 have loop:=mH (d:=d) hc hx rfl (htn _) hg ht hb T I2 st2 f2 hL
 refine Rc (wpAny_runOwn ?_)
 rw[Around.mark_none]
 refine Sx (jx h1 loop (T.self _ 0 _ _ _ st2 loop)) λr s' ⟨σ',H',hr,J',q'⟩=>?_
 subst hr
 exact Rh ⟨σ',H',J',q'⟩
end
end L2
namespace M
open L2
noncomputable abbrev MB:=ai->aa->Option (List D×ai×aa)
noncomputable def qx(e:ME):MB:=λenv S=>(e env S).bind λq=>U ([q.1],env,q.2)
noncomputable def gn(g:MG)(t:MT)(b:MB):List D->ai->aa->Option (List D×ai×aa)
 | [],env,S=>U ([],env,S)
 | d::ds,env,S=>(g d env S).bind λp=>(t p.1 p.2).bind λk=>if k.1=true then(b p.1 k.2).bind λr=>(gn g t b ds r.2.1 r.2.2).bind λz=>U (r.1++z.1,z.2) else gn g t b ds p.1 k.2
noncomputable def gz(mi:MA)(g:MG)(t:MT)(b:MB):MB:=λenv S=>(mi env S).bind λq=>gn g t b q.1 env q.2
noncomputable def bW(mi:MA)(g:MG)(t:MT)(b:MB)(cap:List (Option Nat)):ME:=λenv S=>(mi env S).bind λp=>(gn g t b p.1 (fP cap env) p.2).bind λq=>if q.1.length<=sizeLine then U (.lst q.1,q.2.2) else Y
section
variable{X:Cx}{K:W.Frag}{μ1:Fp}{H1 H:Hp}{p:Addr}{σ:L2.St}{cs:List Addr}{S S':aa}{env env':ai}{vs:List V}{zs ds xs:List D}
inductive LK(K:W.Frag)(m:MB)(p:Addr)(σ:L2.St)(H:Hp)(Q:L2.St->Hp->Prop):Prop
 | mk (μ1:Fp) (H1:Hp) (cs:List Addr) (S:aa) (env:ai) (vs:List V) (zs ds:List D) (env':ai) (S':aa) (hp:H1 p=Y) (c:CpI K μ1 H1 p σ H cs S env vs zs) (h:m env S=U (ds,env',S')) (hz:zs.length+ds.length<=sizeLine)
  (post:∀ σ' H' cs' vs',CpI K μ1 H1 p σ' H' cs' S' env' vs' (zs++ds)->(∀ v d,Rep K ⟨cs,p::μ1.fb⟩ H v d->Rep K ⟨cs',p::μ1.fb⟩ H' v d)->Q σ' H')
theorem Nh(h:LK K (qx e) p σ H Q):tEm (tM K e) p σ H Q:=by
 obtain⟨μ1,H1,cs,S,env,vs,zs,ds,env',S',hp,c,hm,hz,post⟩:=h
 obtain⟨⟨d,S1⟩,h1,hm⟩:=Rb.mp hm
 cases hm
 refine⟨_,S,env,d,S1,c.sok,c.eok,h1,λv H5 μ5 e5 s5 r5=>?_⟩
 obtain⟨cs5,fb5⟩:=μ5
 have hfb:fb5=p::μ1.fb:=e5.fb
 subst hfb
 have c5:=c.go e5 s5 (c.eok.mono e5)
 have hv:=c5.rep.length
 simp only[Rr,Sl] at hz
 exact⟨vs,c5.lst,by omega,post _ _ cs5 _ (c5.app hp r5) λv d z=>Rep.chg Rf (z.mono e5)⟩
theorem qM{J:It}{Q:L2.St->Hp->Prop}(hp:H1 p=Y)(c:CpI K μ1 H1 p σ H cs S env vs zs)(hm:gn g t b xs env S=U (ds,env',S'))(hz:zs.length+ds.length<=sizeLine)
  (it:∀ σ' H' cs' S' env' vs' zs',CpI K μ1 H1 p σ' H' cs' S' env' vs' zs'->(∀ v d,Rep K ⟨cs,p::μ1.fb⟩ H v d->Rep K ⟨cs',p::μ1.fb⟩ H' v d)->∀ i,(∀ d,xs[i]?=U d->J.go i H'/\∀ x H2,J.yld i H' x H2->Ext ⟨cs',p::μ1.fb⟩ H' ⟨cs',p::μ1.fb⟩ H2/\SOk K ⟨cs',p::μ1.fb⟩ S' H2/\Rep K ⟨cs',p::μ1.fb⟩ H2 x d)/\(xs.length<=i->J.stop i H'))
  (post:∀ σ' H' cs' vs',CpI K μ1 H1 p σ' H' cs' S' env' vs' (zs++ds)->(∀ v d,Rep K ⟨cs,p::μ1.fb⟩ H v d->Rep K ⟨cs',p::μ1.fb⟩ H' v d)->Q σ' H'):jU J (nL K g) (jT K t) (LK K b p) σ H Q:=by
 refine⟨λi n σ' H'=>n=xs.length - i/\i<=xs.length/\∃ (cs':List Addr) (S2:aa) (env2:ai) (vs':List V) (zs' rest:List D),CpI K μ1 H1 p σ' H' cs' S2 env2 vs' zs'/\(∀ v d,Rep K ⟨cs,p::μ1.fb⟩ H v d->Rep K ⟨cs',p::μ1.fb⟩ H' v d)/\gn g t b (xs.drop i) env2 S2=U (rest,env',S')/\zs++ds=zs'++rest,
  ⟨xs.length,by simp,SJ _,cs,S,env,vs,zs,ds,c,λ_ _ z=>z,by rw[SK];exact hm,rfl⟩,?_⟩
 rintro i n σ' H' ⟨rfl,hi,cs',S2,env2,vs',zs',rest,c',rk,hl,hq⟩
 have iti:=it _ _ _ _ _ _ _ c' rk i
 by_cases hlt:i<xs.length
 ·refine .inr ⟨(iti.1 xs[i] (Rp hlt)).1,λx H2 y=>?_⟩
  obtain⟨e2,s2,rx⟩:=(iti.1 xs[i] (Rp hlt)).2 x H2 y
  rw[RW hlt] at hl
  obtain⟨⟨env3,S3⟩,h3,hl⟩:=Rb.mp hl
  obtain⟨⟨k,S4⟩,h4,hl⟩:=Rb.mp hl
  refine⟨_,S2,env2,xs[i],env3,S3,s2,c'.eok.mono e2,rx,h3,λσ3 H3 μ3 e3 s3 r3=>⟨μ3,S3,env3,k,S4,s3,r3,h4,λH4 μ4 e4 s4=>?_⟩⟩
  have eA:=(e2.trans e3).trans e4
  obtain⟨cs4,fb4⟩:=μ4
  have hfb:fb4=p::μ1.fb:=eA.fb
  subst hfb
  have c4:=c'.go eA s4 (r3.mono e4)
  cases k with
  | false=>
   rw[RH Rq] at hl
   dsimp only
   rw[RH Rq]
   exact⟨xs.length - (i+1),by omega,rfl,hlt,cs4,S4,env3,vs',zs',rest,c4,λv d z=>(rk v d z).mono eA,hl,hq⟩
  | true=>
   rw[Ru rfl] at hl
   dsimp only
   rw[Ru rfl]
   obtain⟨⟨ws,env5,S5⟩,h5,hl⟩:=Rb.mp hl
   obtain⟨⟨rs,q6⟩,h6,hl⟩:=Rb.mp hl
   cases hl
   have hlen:=congrArg List.length hq
   simp only[Rz] at hlen
   refine⟨μ1,H1,cs4,S4,env3,vs',zs',ws,env5,S5,hp,c4,h5,by omega,λσ5 H5 cs5 vs5 c5 k5=>?_⟩
   exact⟨xs.length - (i+1),by omega,rfl,hlt,cs5,S5,env5,vs5,zs'++ws,rs,c5,λv d z=>k5 v d ((rk v d z).mono eA),h6,by rw[hq,Su]⟩
 ·have e:i=xs.length:=by omega
  subst e
  refine .inl ⟨iti.2 (Rn _),?_⟩
  rw[SU] at hl
  cases hl
  rw[RU] at hq
  subst hq
  exact post _ _ _ _ c' rk
theorem IA(h:LK K (gz mi g t b) p σ H Q):tInB (iMs K mi) (nL K g) (jT K t) (LK K b p) σ H Q:=by
 obtain⟨μ1,H1,cs,S,env,vs,zs,ds,env',S',hp,c,hm,hz,post⟩:=h
 obtain⟨⟨us,S5⟩,h5,hm⟩:=Rb.mp hm
 refine⟨_,S,env,us,S5,c.sok,c.eok,h5,λJ2 H5 μ5 e5 s5 it2=>?_⟩
 obtain⟨cs5,fb5⟩:=μ5
 have hfb:fb5=p::μ1.fb:=e5.fb
 subst hfb
 exact qM hp (c.go e5 s5 (c.eok.mono e5)) hm hz (λσ' H' cs' S' env' vs' zs' c' rk i=>it2 _ _ rk _ H' S' c'.sok.ext.toP c'.sok i) λσ' H' cs' vs' c' rk=>post _ _ _ _ c' λv d z=>rk v d (z.mono e5)
theorem qO(h:tM K (bW mi g t b cap) σ H Q):lM (iM K mi) (nL K g) (jT K t) (LK K b) cap σ H Q:=by
 obtain⟨μ,S,env,d,S9,hS,hE,hm,post⟩:=h
 obtain⟨⟨xs,S1⟩,h1,hm⟩:=Rb.mp hm
 obtain⟨⟨ys,env2,S2⟩,h2,hm⟩:=Rb.mp hm
 dsimp only at hm
 split at hm
 case isFalse=>cases hm
 rename_i hsz
 cases hm
 refine⟨μ,S,env,xs,S1,hS,hE,h1,λJ H1 μ1 e1 s1 it p hp=>?_⟩
 have hpn:=s1.notMem hp
 refine qM (μ1:=μ1) (H1:=H1) (cs:=μ1.cs) (zs:=[]) (vs:=[]) hp ⟨?_,s1.more hp,((hE.mono e1).block cap).more hp,ah,.nil⟩ h2 (by simpa using hsz) (λσ' H' cs' S' env' vs' zs' c' _ i=>it _ H' S' c'.ext c'.sok i) λσ' H' cs' vs' c' _=>?_
 ·exact⟨⟨[p],rfl,λa z=>by rw[RD.mp z];exact hp⟩,⟨[],by simp,λ_ z=>by simp at z⟩,λa o' n h=>by rw[aj (aQ h hp)];exact h,λa ha=>by
   by_cases z:a=p
   ·subst z;rw[ah];simp
   ·rw[aj z];exact s1.dom a ha⟩
 ·have eF:Ext μ1 H1 ⟨cs',μ1.fb⟩ H':=⟨rfl,c'.ext.pre,c'.ext.keep,c'.ext.dom⟩
  exact post _ H' ⟨cs',μ1.fb⟩ (e1.trans eF) c'.sok.less (.lst c'.lst ⟨λz=>c'.sok.disj p Rf z,hpn.2⟩ (by simpa using c'.rep.less))
end
noncomputable def MM(X:Cx)(bc:Sem Unit)(p:Addr)(b:MB):Prop:=PB X bc (LK X.K b p)
section
variable{X:Cx}{elt tg iter:Expr}{gens:List Comprehension}{ifs:List Expr}{scope:Scope}{pos:Pos}{d:Nat}{mi:MA}{g:MG}{t:MT}{b:MB}{e:ME}{p:Addr}{bc:Sem Unit}
theorem Lk(he:DE X elt e):MM X (mD elt (.ref p) X.env) p (qx e):=PB.imp (nN he) λ_ _ _ h=>Nh h
theorem db_in(hc:X.calm=true)(hx:∀ e s,X.xe e s->False)(h1:gens[d]?=U ⟨tg,iter,ifs,0⟩)(htn:∀ it,compTurn (.ListComp elt gens scope pos) d it (.ref p) X.env=bZ (.ListComp elt gens scope pos) tg iter.pos ifs d it (.ref p) X.env bc)
  (hi:LC X tg iter mi) (hg:DG X tg g) (ht:sB X ifs t) (hb:MM X bc p b) (hs:∀ x,foldedSetIterable iter X.env x=pure x):MM X (wX (.ListComp elt gens scope pos) iter d (.ref p) X.env) p (gz mi g t b):=
 PB.imp (Oa hc hx h1 htn hi hg ht hb hs) λ_ _ _ h=>IA h
end
section
variable{X:Cx}{elt tg iter:Expr}{ifs:List Expr}{rest:List Comprehension}{scope:Scope}{pos spos py:Pos}{N':List Str}{cap:List (Option Nat)}{mi:MA}{g:MG}{t:MT}{b:MB}{y:Str}{i:Nat}{bc:Value->Env->Sem Unit}
theorem HG(hc:X.calm=true)(B:BlockOk X N' scope cap)(hi:DI X tg iter mi)(hg:∀ C s H fp,DG (di X N' scope C s H fp) tg g)(ht:∀ C s H fp,sB (di X N' scope C s H fp) ifs t)
  (htn:∀ it acc env,compTurn (.ListComp elt (⟨tg,iter,ifs,0⟩::rest) scope pos) 0 it acc env=bZ (.ListComp elt (⟨tg,iter,ifs,0⟩::rest) scope pos) tg iter.pos ifs 0 it acc env (bc acc env))
  (hb:∀ C s H fp p,MM (di X N' scope C s H fp) (bc (.ref p) (di X N' scope C s H fp).env) p b)
  (hs:∀ x,foldedSetIterable iter X.env x=pure x):DE X (.ListComp elt (⟨tg,iter,ifs,0⟩::rest) scope pos) (bW mi g t b cap):=
 PE.imp (oN (g:=nL X.K g) (tt:=jT X.K t) (tb:=LK X.K b) hc B hi hg ht htn hb hs) λ_ _ _ h=>qO h
theorem xw(hN:X.N.Nodup)(hy:X.N[i]?=U y)(hx:Bf X.env.scope y)(hc:X.calm=true)(B:BlockOk X N' scope cap)(hi:DI X tg iter mi)(hg:∀ C s H fp,DG (di X N' scope C s H fp) tg g)(ht:∀ C s H fp,sB (di X N' scope C s H fp) ifs t)
  (htn:∀ it acc env,compTurn (.ListComp elt (⟨tg,iter,ifs,0⟩::rest) scope pos) 0 it acc env=bZ (.ListComp elt (⟨tg,iter,ifs,0⟩::rest) scope pos) tg iter.pos ifs 0 it acc env (bc acc env))
  (hb:∀ C s H fp p,MM (di X N' scope C s H fp) (bc (.ref p) (di X N' scope C s H fp).env) p b)
  (hsw:swapsWith (.ListComp elt (⟨tg,iter,ifs,0⟩::rest) scope pos) (U (.Name y py)) spos.line X.env=pure true)
  (hs:∀ x,foldedSetIterable iter X.env x=pure x) (hf:X.fn y=true\/X.env.scope.names.lookup y=U .local) :
  DS X (.Assign [.Name y py] (.ListComp elt (⟨tg,iter,ifs,0⟩::rest) scope pos) spos) (au (bW mi g t b cap) (ag i)):=
 PS.imp (jc (g:=nL X.K g) (tt:=jT X.K t) (tb:=LK X.K b) hN hy hx hc B hi hg ht htn hb hsw hs hf) λE σ H h=>by
  obtain⟨μ,S,env,o,hS,hE,hm,post⟩:=h
  obtain⟨⟨d,S1⟩,h1,hm⟩:=Rb.mp hm
  cases hm
  exact qO ⟨μ,S,env,d,S1,hS,hE,h1,λv H1 μ1 e1 s1 r1=>post _ H1 μ1 e1 s1 ((hE.mono e1).set r1 i)⟩
end
end M
namespace L2
section
variable{prog:Program}{w:World}{A:Around}{R:Result->Shared->Prop}{s:Shared}
theorem iW{e:Expr}{d:Nat}(he:e=.DictComp kx vx gens scope pos)(htn:compTurn e d it acc env=bZ e tg p0 ifs d it acc env bc)(I:Nat->Shared->Prop)
  (turn:∀ n s,I n s->wpAny (model prog w) A (pyNext it) (λr s₁=>match r with
   | none=>R (.ok .next) s₁
   | some v=>wpAny (model prog w) A (letOwnedTupleGo tg it v) (λ_ s₁'=>wpAny (model prog w) A (assign tg env v) (λ_ s₂=>
     wpAny (model prog w) A (forIn ifs true λc r=>if r=true then do let ok <- isTrue c env (eval c env);pure (ForInStep.yield ok) else pure (ForInStep.yield r)) (λok s₃=>
      if ok=true then wpAny (model prog w) A bc (λ_ s₅=>∃ m,m<n/\I m s₅) (λ_ _=>False) s₃
      else ∃ m,m<n/\I m s₃) (λ_ _=>False) s₂) (λ_ _=>False) s₁') (λ_ _=>False) s₁) (λ_ _=>False) s)
  (n:Nat) (h:I n s) :
  codeAny (model prog w) A (.compLoop e d it acc env) R s:=by
 refine codeAny_loop rfl I (λn s hI=>?_) n h
 subst he
 show wpAny _ A ((compTurn (.DictComp kx vx gens scope pos) d it acc env).onRaise (λx=>do noteFrame x env;theTreesLotGoes x)) _ _ s
 refine wpAny_noted ?_
 rw[htn]
 refine Rc (Sn (Rc (RF (turn n s hI) (λr s₁ h₁=>?_) λ_ _ h'=>h'.elim)))
 cases r with
 | none=>exact Rh h₁
 | some v=>
  refine Rc (RF h₁ (λ_ s₁' h₁'=>?_) λ_ _ h'=>h'.elim)
  refine Rc (RF h₁' (λ_ s₂ h₂=>Rc (RF h₂ (λok s₃ h₃=>?_) λ_ _ h'=>h'.elim)) λ_ _ h'=>h'.elim)
  cases ok with
  | false=>exact Rh ⟨rfl,h₃⟩
  | true=>exact Rc (RF h₃ (λ_ s₅ h₅=>Rh ⟨rfl,h₅⟩) λ_ _ h'=>h'.elim)
end
theorem zy{X:Cx}{e:Expr}{d:Nat}
  (hc:X.calm=true) (hx:∀ e s,X.xe e s->False) (hl:e=.DictComp kx vx gens scope pos) (htn:compTurn e d (.ref it) acc X.env=bZ e tg p0 ifs d (.ref it) acc X.env bc) (hg:PG X tg g) (ht:Be X ifs tt) (hb:PB X bc tb) (T:uX X.prog X.w X.K tg J fp it tn) {s:Shared} (I:Inv X pins σ H s) (st:tn 0 s.heap) (f2:∀ b∈fp,jJ X pins H b) (h:jU J g tt tb σ H Q) :
  codeAny (model X.prog X.w) X.A (.compLoop e d (.ref it) acc X.env) (λr s'=>∃ σ' H',r=.ok .next/\Inv X pins σ' H' s'/\Q σ' H') s:=by
 obtain⟨W,⟨m0,w0⟩,turn⟩:=h
 have no:∀ e s,X.xe e s->(λ(_:Value) (_:Shared)=>False) e s:=hx
 have stat:∀ {H':Hp},(∀ b∈fp,H' b=Y)->∀ b∈fp,jJ X pins H' b:=λhn b hb=>⟨hn b hb,(f2 b hb).2⟩
 refine iW hl htn (λn s'=>∃ i σ' H',Inv X pins σ' H' s'/\tn i s'.heap/\(∀ b∈fp,H' b=Y)/\W i n σ' H') ?_ m0 ⟨0,_,_,I,st,λb hb=>(f2 b hb).1,w0⟩
 rintro n s3 ⟨i,σ3,H3,J3,st3,fr3,w3⟩
 rcases turn i n σ3 H3 w3 with ⟨stop,qn⟩ | ⟨go,step⟩
 ·refine bN (T.done X rfl rfl rfl hc i pins s3 σ3 H3 _ J3 (stat fr3) st3 stop) λr s4 ⟨hr,J4⟩=>?_
  subst hr
  exact⟨σ3,H3,rfl,J4,qn⟩
 ·refine bN (T.item X rfl rfl rfl hc i pins s3 σ3 H3 _ J3 (stat fr3) st3 go) λr s4 ⟨u,hr,h4⟩=>?_
  subst hr
  refine bN h4 λ_ s5 ⟨x,H5,J5,r5,y5,st5,fr5⟩=>?_
  have J5':=J5.pinned (stat fr5) (T.obj _ _ st5)
  refine RF (hg _ s5 σ3 H5 x u _ J5' r5 (step x H5 y5)) (λ_ s6 ⟨σ6,H6,J6,q6⟩=>?_) no
  refine RF (ht _ s6 σ6 H6 _ J6 q6) (λok s7 ⟨H7,J7,q7⟩=>?_) no
  have again:∀ {s':Shared} {σ7:St} {H7:Hp},Inv X (pins++lP fp s5.heap) σ7 H7 s'->(∃ m',m'<n/\W (i+1) m' σ7 H7)->∃ m,m<n/\∃ i σ' H',Inv X pins σ' H' s'/\tn i s'.heap/\(∀ b∈fp,H' b=Y)/\W i m σ' H':=λ{s' σ7 H7} J7 n7=>by
   obtain⟨m',hm,w7⟩:=n7
   refine⟨m',hm,i+1,σ7,H7,J7.unpinned,T.keep _ _ _ st5 λb hb o e=>(J7.pin (b,o) (RN _ (RN _ (fF hb e)))).1,λb hb=>?_,w7⟩
   obtain⟨o,e,d⟩:=T.obj _ _ st5 b hb
   exact(J7.pin (b,o) (RN _ (RN _ (fF hb e)))).2.1
  cases ok with
  | false=>
   rw[RH Rq] at q7 ⊢
   exact again J7 q7
  | true=>
   rw[Ru rfl] at q7 ⊢
   exact RF (hb _ s7 σ6 H7 _ J7 q7) (λ_ s9 ⟨σ9,H9,J9,q9⟩=>again J9 q9) no
noncomputable def sL(wi:TI)(g:TG)(tt:TT)(tb:Addr->TB)(cap:List (Option Nat)):TE:=λσ H Q=>wi σ H λJ H1=>∀ p,H1 p=Y->jU J g tt (tb p) (σB cap σ) (upd H1 p (.dK [])) λ_ H'=>Q (.ref p) H'
theorem xF{X:Cx}{rest:List Comprehension}{tb:Addr->TB}{bc:Value->Env->Sem Unit}
  (hc:X.calm=true) (B:BlockOk X N' scope cap) (hi:PI X tg iter wi) (hg:∀ C s H fp,PG (di X N' scope C s H fp) tg g) (ht:∀ C s H fp,Be (di X N' scope C s H fp) ifs tt)
  (htn:∀ it acc env,compTurn (.DictComp kx vx (⟨tg,iter,ifs,0⟩::rest) scope pos) 0 it acc env=bZ (.DictComp kx vx (⟨tg,iter,ifs,0⟩::rest) scope pos) tg iter.pos ifs 0 it acc env (bc acc env))
  (hb:∀ C s H fp p,PB (di X N' scope C s H fp) (bc (.ref p) (di X N' scope C s H fp).env) (tb p)) {s:Shared} (I:Inv X pins σ H s) (h:sL wi g tt tb cap σ H Q) {E:Value->Shared->Prop} (hE:∀ e s,X.xe e s->E e s) :
  wpAny (model X.prog X.w) X.A (eval iter X.env) (λx s₁=>wpAny (model X.prog X.w) X.A (pyIter x) (λit s₂=>wpAny (model X.prog X.w) X.A (newDict) (λacc s₃=>
   wpAny (model X.prog X.w) X.A (newFunctionEnv scope X.env.globals (iD X.env.cells scope.names []) [] X.env.qual Y .none (U X.env)) (λcenv s₄=>
    codeAny (model X.prog X.w) X.A (.compStart (.DictComp kx vx (⟨tg,iter,ifs,0⟩::rest) scope pos) 0 it acc { cenv with scope:=relabel scope X.env }) (Behind X pins σ Q acc cenv.locals) s₄) E s₃) E s₂) E s₁) E s:=by
 refine RF (hi pins s σ H _ I h) (λv s1 h1=>RF h1 (λitv s2 h2=>?_) hE) hE
 obtain⟨it,fp,tn,J,H1,e,I2,T,st2,f2,hW⟩:=h2
 subst e
 refine RM (Wb B.nocell (by intro y hy;simp at hy) (λh₁ hns₁ hsb₁=>?_) B.kind)
 dsimp only at hns₁ hsb₁ ⊢
 have hp1:H1 s2.heap.objs.size=Y:=I2.hok.fresh (Rn _)
 have hL:=hW s2.heap.objs.size hp1
 have I3:Inv X pins σ (upd H1 s2.heap.objs.size (.dK [])) { s2 with heap:=s2.heap.push { cls:=.type "dict",data:=.dict #[] },toks:=s2.toks }:=
  I2.laid (λb o e=>Re _ e) (Rn _) (pY s2.heap I2.big)
 generalize hH2:s2.heap.push { cls:=.type "dict",data:=.dict #[] } = H2 at hns₁ hsb₁ I3 ⊢
 have hC:H2.objs.size=s2.heap.objs.size+1:=by rw[<- hH2,Sw]
 have ltfp:∀ b∈fp,b<s2.heap.objs.size:=λb hb=>by
  obtain⟨o,e,_⟩:=T.obj _ _ st2 b hb
  exact Ro e
 have hf3:∀ b∈fp,jJ X pins (upd H1 s2.heap.objs.size (.dK [])) b/\b<H2.objs.size:=λb hb=>by
  obtain⟨a0,a⟩:=f2 b hb
  refine⟨⟨?_,a⟩,by rw[hC];exact Nat.lt_succ_of_lt (ltfp b hb)⟩
  rw[aj (RL (ltfp b hb))];exact a0
 have up:∀ b o,H2.get? b=U o->h₁.get? b=U o:=λb o e=>hsb₁.extBut b o (RL (Ro e)) (Re _ e)
 have I4:=I3.block (C:=H2.objs.size) (fp:=fp) (h4:=h₁) (tk:=s2.toks+([]:List (Str×Value)).length) B hf3 (Rn _) up hns₁
 have st4:tn 0 h₁:=T.keep _ _ _ st2 λb hb o e=>up b o (by rw[<- hH2];exact Re _ e)
 have loop:codeAny (model X.prog X.w) X.A (.compLoop (.DictComp kx vx (⟨tg,iter,ifs,0⟩::rest) scope pos) 0 (.ref it) (.ref s2.heap.objs.size) (compEnvC scope (iD X.env.cells scope.names []) H2.objs.size X.env))
    (Behind X pins σ Q (.ref s2.heap.objs.size) H2.objs.size) { s2 with heap:=h₁,toks:=s2.toks+([]:List (Str×Value)).length }:=by
  refine Sx (zy (X:=di X N' scope H2.objs.size { s2 with heap:=H2,toks:=s2.toks } (upd H1 s2.heap.objs.size (.dK [])) fp) hc (λ_ _ z=>z) rfl (htn _ _ _) (hg _ _ _ _) (ht _ _ _ _) (hb _ _ _ _ _) T I4 st4 (λb hb=>?_) hL) λr s4 ⟨σ4,H4,hr,J4,qn⟩=>?_
  ·obtain⟨h0,h1,h2,h3,h4',h5⟩:=(hf3 b hb).1
   exact⟨h0,RL (hf3 b hb).2,I3.notStk h1 h2,.inl hb,λx c e=>h4' x c (B.cl I3.ok x c e),λp hp=>absurd (show p∈([]:List (Addr×Obj)) from hp) (by simp)⟩
  ·obtain⟨m,hm,_⟩:=J4.loc
   have IX:=I3.unblock (λb hb=>(hf3 b hb).1) J4
   refine⟨_,H4,m,hr,rfl,IX,qn,hm,J4.free,?_,?_,λx c e z=>?_,λq hq z=>?_⟩
   ·exact Ne.symm (RL I3.lt)
   ·exact I3.sz
   ·obtain⟨v,q⟩:=I3.cell x c e
    exact absurd q.lt (by rw[z];exact Sy _)
   ·exact absurd (Ro (I3.pin q hq).1) (by rw[z];exact Sy _)
 exact codeAny_compStart_dict loop (T.self _ 0 _ _ _ st4 loop)
theorem By{X:Cx}{iter:Expr}{rest:List Comprehension}{tb:Addr->TB}{bc:Value->Env->Sem Unit}
  (hc:X.calm=true) (B:BlockOk X N' scope cap) (hi:PI X tg iter wi) (hg:∀ C s H fp,PG (di X N' scope C s H fp) tg g) (ht:∀ C s H fp,Be (di X N' scope C s H fp) ifs tt) (htn:∀ it acc env,compTurn (.DictComp kx vx (⟨tg,iter,ifs,0⟩::rest) scope pos) 0 it acc env=bZ (.DictComp kx vx (⟨tg,iter,ifs,0⟩::rest) scope pos) tg iter.pos ifs 0 it acc env (bc acc env))
  (hb:∀ C s H fp p,PB (di X N' scope C s H fp) (bc (.ref p) (di X N' scope C s H fp).env) (tb p))
  (hs:∀ x,foldedSetIterable iter X.env x=pure x:=by intro _;rfl):PE X (.DictComp kx vx (⟨tg,iter,ifs,0⟩::rest) scope pos) (sL wi g tt tb cap):=by
 intro pins s σ H Q I h
 rw[arm_eval_DictComp]
 refine Ub (use:=Y) rfl hs (gS (B.cells I.ok)) B.kind B.names ?_
 refine RF (xF hc B hi hg ht htn hb I h λ_ _ x=>x) (λx s1 h1=>RF h1 (λit s2 h2=>RF h2 (λacc s3 h3=>RF h3 (λcenv s4 h4=>Sx h4 λr s' hr=>?_) λ_ _ x=>x) λ_ _ x=>x) λ_ _ x=>x) λ_ _ x=>x
 obtain⟨p,Hf,m,rfl,rfl,J,q,hn,c1,c2,c3,c4,c5⟩:=hr
 exact⟨m,hn,λh' sb=>⟨_,Hf,J.turned (t':=s'.toks) (λb o hb e=>(sb.2 b hb).trans e) c1 c2 (.inr c3) c4 c5,(show RelV (.ref p) (.ref p) from rfl),q⟩⟩
noncomputable def Mx(kx vx:Expr)(acc:Value)(env:Env):Sem Unit:=do
 let kv <- eval kx env
 let vv <- holding [kv] (eval vx env)
 match acc with
 | .ref d=>do
  standAt { kx.pos with endLine:=vx.pos.endLine,endCol:=vx.pos.endCol }
  holding [kv,vv] (dictSet d kv vv)
 | _=>unsupported "internal:dictcomp"
theorem qb(kx vx tg iter:Expr)(ifs:List Expr)(scope:Scope)(pos:Pos)(it acc:Value)(env:Env) :
  compTurn (.DictComp kx vx [⟨tg,iter,ifs,0⟩] scope pos) 0 it acc env=bZ (.DictComp kx vx [⟨tg,iter,ifs,0⟩] scope pos) tg iter.pos ifs 0 it acc env (Mx kx vx acc env):=rfl
noncomputable def Ni(tk tv:TE)(p:Addr):TB:=λσ H Q=>tk σ H λx H1=>tv σ H1 λy H2=>∃ kvs k,x=kV k/\H2 p=U (.dK kvs)/\kvs.length<sizeLine/\Q σ (upd H2 p (.dK (gM kvs k y)))
theorem EA(hk:PE X kx tk)(hv:PE X vx tv):PB X (Mx kx vx (.ref p) X.env) (Ni tk tv p):=λpins s σ H Q I h=>by
 refine Rc (bN (hk pins s σ H _ I h) λkv s1 ⟨x,H1,I1,r1,q1⟩=>Rc (RX (bN (hv pins s1 σ H1 _ I1 q1) λvv s2 ⟨y,H2,I2,r2,q2⟩=>?_)))
 obtain⟨kvs,k,rfl,e,l,q⟩:=q2
 refine Rc (Sn (RX ?_))
 obtain⟨z,hd,vs,rel,dd⟩:=Hj I2.hok e
 have hz:vs.length<=sizeLine:=by rw[<- rel.length];exact z
 have hl:(gM kvs k y).length<=sizeLine:=by have:=gI kvs k y;omega
 refine wpAny_dictSet_pairs (hsz:=hz) (jj r1) dd λh' dd' hs=>?_
 have he:∃ q,h'.get? p=U q:=let ⟨q,_,_,hq,_⟩:=dd';⟨q,hq⟩
 exact⟨σ,_,oi I2 (by rw[e];exact True.intro) hs he (zt hl hd (rel.put k r2) dd'),q⟩
end L2
namespace M
open L2
noncomputable def jZ(g:MG)(t:MT)(kx vx:ME):List D->ai->aa->List (aJ×D)->Option (List (aJ×D)×aa)
 | [],_,S,kvs=>U (kvs,S)
 | d::ds,env,S,kvs=>(g d env S).bind λp=>(t p.1 p.2).bind λb=>if b.1=true then(kx p.1 b.2).bind λk=>(vx p.1 k.2).bind λv=>(dM k.1).bind λkey=>if kvs.length<sizeLine then jZ g t kx vx ds p.1 v.2 (ie kvs key v.1) else Y else jZ g t kx vx ds p.1 b.2 kvs
noncomputable def cA(mi:MA)(g:MG)(t:MT)(kx vx:ME)(cap:List (Option Nat)):ME:=λenv S=>(mi env S).bind λp=>(jZ g t kx vx p.1 (fP cap env) p.2 []).bind λq=>U (.dct (q.1.map (·.1)) (q.1.map (·.2)),q.2)
section
variable{X:Cx}{K:W.Frag}
structure CpD(K:W.Frag)(μ1:Fp)(H1:Hp)(p:Addr)(σ:L2.St)(H:Hp)(cs:List Addr)(S:aa)(env:ai)(vs:List (aJ×V))(zs:List (aJ×D)):Prop where
 ext:ExtP μ1 H1 ⟨cs,p::μ1.fb⟩ H
 sok:SOk K ⟨cs,p::μ1.fb⟩ S H
 eok:EOk K ⟨cs,p::μ1.fb⟩ H σ env
 dct:H p=U (.dK vs)
 rep:KR K ⟨cs,p::μ1.fb⟩ H vs zs
theorem CpD.go{cs':List Addr}(c:CpD K μ1 H1 p σ H cs S env vs zs)(e:Ext ⟨cs,p::μ1.fb⟩ H ⟨cs',p::μ1.fb⟩ H')(s:SOk K ⟨cs',p::μ1.fb⟩ S' H')(r:EOk K ⟨cs',p::μ1.fb⟩ H' σ' env'):CpD K μ1 H1 p σ' H' cs' S' env' vs zs:=
 ⟨c.ext.then e,s,r,(e.keeps c.dct λz=>c.sok.disj p Rf z).1,c.rep.mono e⟩
theorem Bm(h:tM K (cA mi g t kx vx cap) σ H Q):sL (iM K mi) (nL K g) (jT K t) (Ni (tM K kx) (tM K vx)) cap σ H Q:=by
 obtain⟨μ,S,env,d,S9,hS,hE,hm,post⟩:=h
 obtain⟨⟨xs,S1⟩,h1,hm⟩:=Rb.mp hm
 obtain⟨⟨ys,S2⟩,h2,hm⟩:=Rb.mp hm
 cases hm
 refine⟨μ,S,env,xs,S1,hS,hE,h1,λJ H1 μ1 e1 s1 it p hp=>?_⟩
 have hpn:=s1.notMem hp
 refine⟨λi n σ' H'=>n=xs.length - i/\i<=xs.length/\∃ (cs:List Addr) (S':aa) (env':ai) (vs:List (aJ×V)) (zs:List (aJ×D)),CpD K μ1 H1 p σ' H' cs S' env' vs zs/\jZ g t kx vx (xs.drop i) env' S' zs=U (ys,S2),
  ⟨xs.length,by simp,SJ _,μ1.cs,S1,fP cap env,[],[],⟨?_,s1.more hp,((hE.mono e1).block cap).more hp,ah,.nil⟩,by rw[SK];exact h2⟩,?_⟩
 ·exact⟨⟨[p],rfl,λa z=>by rw[RD.mp z];exact hp⟩,⟨[],by simp,λ_ z=>by simp at z⟩,λa o' n h=>by rw[aj (aQ h hp)];exact h,λa ha=>by
   by_cases z:a=p
   ·subst z;rw[ah];simp
   ·rw[aj z];exact s1.dom a ha⟩
 rintro i n σ' H' ⟨rfl,hi,cs,S',env',vs,zs,c,hl⟩
 have iti:=it _ H' S' c.ext c.sok i
 by_cases hlt:i<xs.length
 ·refine .inr ⟨(iti.1 xs[i] (Rp hlt)).1,λx H2 y=>?_⟩
  obtain⟨e2,s2,rx⟩:=(iti.1 xs[i] (Rp hlt)).2 x H2 y
  rw[RW hlt] at hl
  obtain⟨⟨env3,S3⟩,h3,hl⟩:=Rb.mp hl
  obtain⟨⟨b,S4⟩,h4,hl⟩:=Rb.mp hl
  refine⟨_,S',env',xs[i],env3,S3,s2,c.eok.mono e2,rx,h3,λσ3 H3 μ3 e3 s3 r3=>⟨μ3,S3,env3,b,S4,s3,r3,h4,λH4 μ4 e4 s4=>?_⟩⟩
  have eA:=(e2.trans e3).trans e4
  obtain⟨cs4,fb4⟩:=μ4
  have hfb:fb4=p::μ1.fb:=eA.fb
  subst hfb
  have c4:=c.go eA s4 (r3.mono e4)
  cases b with
  | false=>
   rw[RH Rq] at hl
   dsimp only
   rw[RH Rq]
   exact⟨xs.length - (i+1),by omega,rfl,hlt,cs4,S4,env3,vs,zs,c4,hl⟩
  | true=>
   rw[Ru rfl] at hl
   dsimp only
   rw[Ru rfl]
   obtain⟨⟨kd,S5⟩,h5,hl⟩:=Rb.mp hl
   obtain⟨⟨vd,S6⟩,h6,hl⟩:=Rb.mp hl
   obtain⟨key,h7,hl⟩:=Rb.mp hl
   dsimp only at hl
   split at hl
   case isFalse=>cases hl
   rename_i hz
   refine⟨_,S4,env3,kd,S5,s4,c4.eok,h5,λkv H5 μ5 e5 s5 r5=>⟨μ5,S5,env3,vd,S6,s5,c4.eok.mono e5,h6,λvv H6 μ6 e6 s6 r6=>?_⟩⟩
   have eB:=e5.trans e6
   obtain⟨cs6,fb6⟩:=μ6
   have hfb:fb6=p::μ1.fb:=eB.fb
   subst hfb
   have c6:=c4.go eB s6 (c4.eok.mono eB)
   refine⟨vs,key,eW h7 r5,c6.dct,by rw[c6.rep.length];exact hz,xs.length - (i+1),by omega,rfl,hlt,cs6,S6,env3,gM vs key vv,ie zs key vd,⟨c6.ext.chg hp,c6.sok.chg Rf,c6.eok.chg Rf,ah,(KR.put r6 c6.rep).chg Rf⟩,hl⟩
 ·have e:i=xs.length:=by omega
  subst e
  refine .inl ⟨iti.2 (Rn _),?_⟩
  rw[SU] at hl
  cases hl
  have eF:Ext μ1 H1 ⟨cs,μ1.fb⟩ H':=⟨rfl,c.ext.pre,c.ext.keep,c.ext.dom⟩
  refine post _ H' ⟨cs,μ1.fb⟩ (e1.trans eF) c.sok.less ?_
  rw[<- c.rep.keys]
  exact .dct c.dct ⟨λz=>c.sok.disj p Rf z,hpn.2⟩ c.rep.less.reps
variable{kx vx tg iter:Expr}{ifs:List Expr}{scope:Scope}{pos:Pos}{N':List Str}{cap:List (Option Nat)}{mi:MA}{g:MG}{t:MT}{mk mv:ME}
theorem HE(hc:X.calm=true)(B:BlockOk X N' scope cap)(hi:DI X tg iter mi)(hg:∀ C s H fp,DG (di X N' scope C s H fp) tg g)(ht:∀ C s H fp,sB (di X N' scope C s H fp) ifs t)
  (hk:∀ C s H fp,DE (di X N' scope C s H fp) kx mk) (hv:∀ C s H fp,DE (di X N' scope C s H fp) vx mv)
  (hs:∀ x,foldedSetIterable iter X.env x=pure x):DE X (.DictComp kx vx [⟨tg,iter,ifs,0⟩] scope pos) (cA mi g t mk mv cap):=
 PE.imp (By (g:=nL X.K g) (tt:=jT X.K t) (tb:=Ni (tM X.K mk) (tM X.K mv)) hc B hi hg ht (λ_ _ _=>qb ..) (λC s H fp p=>EA (hk C s H fp) (hv C s H fp)) hs) λ_ _ _ h=>Bm h
end
end M
namespace L2
open PySem PySem.Spec PyProof.Rows Builtin Builtin.Str
section
variable{X:Cx}
theorem qI:∀ (tk:Nat) (xs:List Str),Vals (xs.map V.str) (strsFrom tk xs)
 | _,[]=>.nil
 | tk,x::r=>.cons ⟨tk,rfl⟩ (qI (tk+1) r)
noncomputable def ND:V->List V->Hp->VK->Prop:=λx xs H Q=>∃ z y,x=.str z/\xs=[.str y]/\(y.length==0)=false/\z.length<=1000000/\∀ p,H p=Y->Q (.ref p) (upd H p (.lst ((Txt.split z y).map V.str)))
theorem EH:MtR X "str.split" ND:=by
 intro pins s σ H x vs v us Q I rx rv h
 obtain⟨z,y,rfl,rfl,hy,hz,q⟩:=h
 obtain⟨t,rfl⟩:=rx
 obtain⟨u,rfl,hu⟩:=gD rv
 obtain⟨t2,rfl⟩:=hu
 have hs:z.length<=sizeLine:=RG hz (by decide)
 have hn:(partsBetween z (occurrences z y 0 z.length (z.length+1)) y.length).length<=sizeLine:=by
  rw[len_partsBetween]
  have:=StrLaws.occ_length_le_len z y 0 z.length (z.length+1)
  exact RG (show _<=1000002 by omega) (by decide)
 have q':=q _ (I.hok.fresh (Rn _))
 have one:Txt.split z y=[z]->EP X pins σ Q (.ref s.heap.objs.size) { s with heap:=s.heap.push { cls:=.type "list",data:=.seq [Value.str z t].toArray } }:=λe=>by
  rw[e] at q'
  exact⟨.ref _,_,I.laid (t':=s.toks) (o:=.lst [V.str z]) (λb ob q=>Re _ q) (Rn _) ⟨by show 1<=sizeLine;decide,_,0,.cons ⟨t,rfl⟩ .nil,Rs _ rfl⟩,rfl,q'⟩
 cases h1:(decide (z.length<y.length)||decide (strKind z<strKind y))
 ·cases hf:(occurrences z y 0 z.length (z.length+1)).isEmpty
  ·refine Ta Uj (Uw _ _ _) UT (UM _ _) (meets_str_split_sep z y t t2 h1 hy hf hs hn) ?_
   have e:Txt.split z y=partsBetween z (occurrences z y 0 z.length (z.length+1)) y.length:=(RH (UA h1)).trans (RH (UA hf))
   rw[e] at q'
   exact⟨.ref _,_,I.laid (o:=.lst ((partsBetween z (occurrences z y 0 z.length (z.length+1)) y.length).map V.str)) (λb ob q=>Re _ q) (Rn _) ⟨by rw[Rt];exact hn,_,0,qI _ _,Rs _ rfl⟩,rfl,q'⟩
  ·exact Ta Uj (Uw _ _ _) UT (UM _ _) (meets_str_split_not_found z y t t2 h1 hy hf) (one ((RH (UA h1)).trans (Ru hf)))
 ·exact Ta Uj (Uw _ _ _) UT (UM _ _) (meets_str_split_cannot_occur z y t t2 h1) (one (Ru h1))
theorem BC(hu:X.A.units+1<cLine):OpR X (compareOp .NotIn) (λx y H Q=>∃ a o,y=.ref a/\DGet H a x o/\Q (.bl (!o.isSome)) H):=λpins s σ H x y v u Q I rx ry ⟨a,o,e,g,q⟩=>by
 subst e
 cases ry
 exact Lm hu I g rx λs' I'=>⟨.bl _,H,I',rfl,q⟩
noncomputable def QY(K:W.Frag)(a:Addr):It:=
 ⟨λi H=>∃ xs x,gT K H a xs/\xs[i]?=U x,λi H x H'=>∃ p v,x=.ref p/\H p=Y/\H'=upd H p (.tup [.int (i:Nat),v])/\∀ xs,gT K H a xs->xs[i]?=U v,λi H=>∃ xs,gT K H a xs/\xs.length<=i⟩
theorem xZ{K:W.Frag}{k:Nat}(a e it:Addr)(hei:e≠it):uX P w K (.Tuple es k pos) (QY K a) [e,it] e (λi h=>(∃ old,IsEnum h e it i old)/\h.IsListIter it a i) where
 mem:=by simp
 obj:=λi h st b hb=>by
  obtain⟨⟨old,he⟩,⟨o,ho,hc,hd⟩⟩:=st
  simp only[Rv,RT,SZ] at hb
  rcases hb with rfl | rfl
  ·exact⟨_,he,λv z=>by cases z⟩
  ·exact⟨o,ho,λv z=>by rw[hd] at z;cases z⟩
 keep:=λi h h' st kk=>by
  obtain⟨⟨old,he⟩,⟨o,ho,r⟩⟩:=st
  exact⟨⟨old,kk e (by simp) _ he⟩,⟨o,kk it (by simp) _ ho,r⟩⟩
 item:=by
  intro X hP hw hK hc i pins s σ H E I hf st hg
  subst hP hw hK
  obtain⟨xs,x,hq,hx⟩:=hg
  obtain⟨its,rv,p,hz⟩:=I.list hq
  have hT:s.heap.IsList a its.toArray:=p.isList
  have hh:=I.ok.hd hc
  have ne1:a≠e:=λz=>by
   obtain⟨⟨old,he⟩,_⟩:=st
   obtain⟨o,ho,hcl,_⟩:=hT
   rw[z,he] at ho;cases ho;exact absurd (show Value.type "enumerate" = Value.type "list" from hcl) (by decide)
  have ne2:a≠it:=λz=>by
   obtain⟨_,⟨o',ho',hc',_⟩⟩:=st
   obtain⟨o,ho,hcl,_⟩:=hT
   rw[z,ho'] at ho;cases ho;rw[hc'] at hcl;exact absurd hcl (by decide)
  have W:=Uc (Draws.list (prog:=X.prog) (w:=X.w) (A:=X.A.in1) hh it a ne2 its.toArray) e hei (by simp;exact⟨hei,λz=>ne1 z.symm⟩) (by simp)
  have hi:i<its.toArray.size:=by rw[Rk,<- rv.length];exact(Ri.mp hx).1
  obtain⟨⟨old,he⟩,hit⟩:=st
  have Te:s.heap.objs.size≠e:=Sf (Ro he)
  have Ti:s.heap.objs.size≠it:=by
   obtain⟨o,ho,_⟩:=hit
   exact Sf (Ro ho)
  refine VH (Draws.list (prog:=X.prog) (w:=X.w) (A:=X.A.in1) hh it a ne2 its.toArray) he ⟨hit,hT⟩ hi hei (by simp;exact⟨hei,λz=>ne1 z.symm⟩) λy h1 tk hy ho st1 hT1 hsz kk=>⟨_,rfl,?_⟩
  refine W.go es k pos i s.heap.objs.size _ _ _ ⟨⟨y,ho⟩,st1,Te,Ti⟩ λh2 st2 kk2=>?_
  generalize hTT:s.heap.objs.size=T at *
  obtain⟨u,hu,ru⟩:=rv.get hx
  have ey:y=u:=by
   rw[show its.toArray[i]?=its[i]? by simp,hu] at hy
   exact(RJ hy).symm
  subst ey
  have apT:T∉[e,it]:=by simp;exact⟨Te,Ti⟩
  have kall:∀ b o,b∉[e,it]->s.heap.get? b=U o->h2.get? b=U o:=λb o hb q=>kk2 b o hb (kk b o (λz=>hb (by simp[z])) (λz=>hb (by simp[z])) q)
  have hT2:IsTupN h2 T #[.int i tk,y]:=⟨_,kk2 T _ apT hT1,rfl,⟨_,rfl⟩,rfl⟩
  have hTs:s.heap.objs.size<=T:=Uq hTT
  refine⟨.ref T,upd H T (.tup [.int (i:Nat),x]),I.turnLaid kall hf hTs ⟨by show 2<=sizeLine;decide,[.int i tk,y],.cons ⟨_,rfl⟩ (.cons ru .nil),hT2⟩,rfl,⟨T,x,rfl,I.hok.fresh hTs,rfl,λys hy=>by rw[I.list_inj hy hq];exact hx⟩,⟨st2.1,st2.2.1⟩,λb hb=>?_⟩
  have nb:b≠T:=λz=>apT (by rw[<- z];exact hb)
  rw[aj nb]
  exact(hf b hb).1
 done:=by
  intro X hP hw hK hc i pins s σ H E I hf st hg
  subst hP hw hK
  obtain⟨xs,hq,hx⟩:=hg
  obtain⟨its,rv,p,hz⟩:=I.list hq
  have hT:s.heap.IsList a its.toArray:=p.isList
  have hh:=I.ok.hd hc
  have ne1:a≠e:=λz=>by
   obtain⟨⟨old,he⟩,_⟩:=st
   obtain⟨o,ho,hcl,_⟩:=hT
   rw[z,he] at ho;cases ho;exact absurd (show Value.type "enumerate" = Value.type "list" from hcl) (by decide)
  have D':Draws X.prog X.w X.A.in1 it [it,a] i (λ_ _=>True) (λj h=>j=i/\h.IsListIter it a i/\h.IsList a its.toArray):=
   {live:=λ_ _ q=>by obtain⟨_,⟨o,ho,_⟩,_⟩:=q;exact⟨o,ho⟩
    frame:=λ_ _ _ q hk=>by
     obtain⟨q0,⟨o,ho,r⟩,⟨o2,ho2,r2⟩⟩:=q
     exact⟨q0,⟨o,hk it (by simp) o ho,r⟩,⟨o2,hk a (by simp) o2 ho2,r2⟩⟩
    item:=λj _ _ _ hj q _=>absurd q.1 (RL hj)
    done:=λs Q E q hE=>wpAny_nextOf_list_end hh q.2.1 q.2.2 (by simp;have:=rv.length;omega) hE }
  have W:=Uc D' e hei (by simp;exact⟨hei,λz=>ne1 z.symm⟩) (by simp)
  refine W.done s _ _ ⟨st.1,rfl,st.2,hT⟩ λh2 tk kk=>⟨rfl,I.turnedL kk hf⟩
 self:=λA i s Q E st h=>by
  obtain⟨⟨old,he⟩,_⟩:=st
  exact Ua he h
noncomputable def Gb(K:W.Frag)(t:TA):TI:=λσ H R=>t σ H λxs H1=>∃ a,xs=[.ref a]/\(∃ ys,gT K H1 a ys)/\R (QY K a) H1
theorem oM{a:Expr}{k:Nat}{p:Pos}(hg:Gl X "enumerate")(hm:X.mg "enumerate" = Y)(ha:PA X [a] ta)(hs:starEach [a] X.env=[(false,eval a X.env)]) :
  PI X (.Tuple es k tp) (.Call (.Name "enumerate" p) [a] [] pos) (Gb X.K ta):=by
 intro pins s σ H R I h
 refine Call_ (gQ I hg hm boot_enumerate (RZ (bN (ha pos pins s σ H _ I h) λus s1 ⟨vs,H1,I1,r1,q1⟩=>?_) hs rfl))
 obtain⟨t,rfl,⟨ys,hq⟩,q⟩:=q1
 obtain⟨u,rfl,ru⟩:=r1.one
 cases ru
 obtain⟨its,rv,pt,hz⟩:=I1.list hq
 refine call_enumerate_list pt.isList λh' he hi hsz kk=>Ua he ?_
 refine⟨s1.heap.objs.size+1,[s1.heap.objs.size+1,s1.heap.objs.size],_,_,H1,rfl,I1.kept (t':=s1.toks) kk,xZ t _ _ (Nat.succ_ne_self _),⟨⟨_,he⟩,hi⟩,λb hb=>?_,q⟩
 simp only[Rv,RT,SZ] at hb
 rcases hb with rfl | rfl
 ·exact I1.fpOk (TN _) (I1.hok.fresh (TN _))
 ·exact I1.fpOk (Rn _) (I1.hok.fresh (Rn _))
end
end L2
namespace M
open L2
section
variable{X:Cx}{K:W.Frag}{μ:Fp}{H:Hp}{S:aa}
noncomputable def cb(o:ME)(ms:MA):ME:=λenv S=>(o env S).bind λp=>match p.1 with
 | .str z=>(ms env p.2).bind λq=>match q.1 with
  | [.str y]=>if (y.length==0)=false/\z.length<=1000000 then U (.lst ((Txt.split z y).map .str),q.2) else Y
  | _=>Y
 | _=>Y
theorem vt:∀ xs:List Str,Reps K μ H (xs.map V.str) (xs.map D.str)
 | []=>.nil
 | x::r=>.cons (.str x) (vt r)
theorem Hy{e:Expr}{es:List Expr}{apos:Pos}(ho:DE X o mo)(ha:DA X (e::es) ms)
  (hbase:attributeBase o "split" X.env (eval o X.env)=eval o X.env)
  (hfew:((backTo cpos (starEach (e::es) X.env)).all (λx=>!x.1)&&(backToKw cpos (keywordEach [] X.env)).all (λx=>x.1.isSome)&&decide ((e::es).length+([]:List Keyword).length+(if ([]:List Keyword).isEmpty then 0 else 1)<30))=true)
  (hline:(apos.endLine==cpos.line)=true) (hs:starEach (e::es) X.env=(false,eval e X.env)::starEach es X.env) (hpl:(backTo cpos (starEach es X.env)).any (·.1)=false) :
  DE X (.Call (.Attribute o "split" apos) (e::es) [] cpos) (cb mo ms):=
 PE.imp (Ez (X:=X) Vf Uj F.type_str_split EH ho ha hbase hfew hline hs hpl) λσ H Q ⟨μ,S,env,d,S',hS,hE,h,post⟩=>by
  obtain⟨⟨x,S1⟩,h1,h⟩:=Rb.mp h
  dsimp only at h
  split at h
  ·rename_i z
   obtain⟨⟨xs,S2⟩,h2,h⟩:=Rb.mp h
   dsimp only at h
   split at h
   ·rename_i y
    split at h
    ·rename_i hc
     cases h
     refine⟨μ,S,env,_,S1,hS,hE,h1,λv H1 μ1 e1 s1 r1=>⟨?_,μ1,S1,env,_,_,s1,hE.mono e1,h2,λvs H2 μ2 e2 s2 r2=>?_⟩⟩
     ·rw[r1.str_inv];exact rfl
     ·obtain⟨w,rfl,rw'⟩:=r2.one
      refine⟨z,y,r1.str_inv,by rw[rw'.str_inv],hc.1,hc.2,λp hp=>?_⟩
      exact((post.ext e1).ext e2).lst s2 hp (vt _)
    ·cases h
   ·cases h
  ·cases h
noncomputable def el(S:aa)(x y:D):Option D:=(oA S y).bind λkvs=>(dM x).bind λk=>U (.bl (!(cn kvs k).isSome))
theorem KR.some_iff{k:aJ}{vs ds}(t:KR K μ H vs ds):(jH vs k).isSome=(cn ds k).isSome:=by
 cases q:cn ds k with
 | none=>rw[t.valN q];rfl
 | some d=>obtain⟨v,h1,_⟩:=t.val q;rw[h1];rfl
theorem BD(hu:X.A.units+1<cLine):OpR X (compareOp .NotIn) (iQ X.K el):=OpR.imp (BC hu) λx y H Q ⟨μ,S,dx,dy,dz,hS,h1,h2,h3,post⟩=>by
 obtain⟨kvs,hk,h3⟩:=Rb.mp h3
 obtain⟨k,hx,h3⟩:=Rb.mp h3
 cases h3
 obtain⟨a,vs,rfl,ha,rr⟩:=sI hS h2 hk
 refine⟨a,jH vs k,rfl,?_,?_⟩
 ·rw[eW hx h1];exact DGet.k ha
 ·rw[rr.some_iff];exact post.here hS (.bl _)
noncomputable def sQ(z:Str):List D:=z.cps.toList.map λc=>.str ⟨#[c]⟩
noncomputable def cz(ms:MA):MA:=λenv S=>(ms env S).bind λp=>match p.1 with | [.lst xs]=>U (dZ 0 xs,p.2) | _=>Y
theorem yY(r:Rep K μ H (.ref a) (.lst xs)):xS K μ H (QY K a) (dZ 0 xs):=λμ' H' S' e s i=>by
 have r':=r.monoP e
 obtain⟨b,vs,hb,hq',_,rs⟩:=r'.sqL
 cases hb
 have hq:gT K H' a vs:=.inl (.inl hq')
 refine⟨λd hd=>?_,λhl=>⟨vs,hq,by rw[rs.length];rw[mz] at hl;exact hl⟩⟩
 obtain⟨x,hx,rfl⟩:=mB 0 xs i d hd
 obtain⟨v,hv,rv⟩:=rs.get hx
 refine⟨⟨vs,v,hq,hv⟩,λy H2 hy=>?_⟩
 obtain⟨p,w,rfl,hp,rfl,hw⟩:=hy
 have ew:w=v:=by have:=hw vs hq;rw[hv] at this;exact(RJ this).symm
 subst ew
 obtain⟨e2,s2⟩:=s.laid (o:=.tup [.int (i:Nat),w]) hp
 refine⟨e2,s2,?_⟩
 rw[VX]
 exact .tup ah (s.notMem hp) (.cons (.int _) (.cons (rv.mono e2) .nil))
theorem Hk{a:Expr}{k:Nat}{p:Pos}(hm:X.mg "enumerate" = Y)(ha:DA X [a] ms)(hg:Gl X "enumerate")(hs:starEach [a] X.env=[(false,eval a X.env)]) :
  DI X (.Tuple es k tp) (.Call (.Name "enumerate" p) [a] [] pos) (cz ms):=PI.imp (oM hg hm ha hs) λσ H R ⟨μ,S,env,xs,S',hS,hE,h,post⟩=>by
 obtain⟨⟨ds,S1⟩,h1,h⟩:=Rb.mp h
 refine⟨μ,S,env,ds,S1,hS,hE,h1,λvs H1 μ1 e1 s1 r1=>?_⟩
 dsimp only at h
 split at h
 ·rename_i ys
  cases h
  obtain⟨v,rfl,rv⟩:=r1.one
  have rv':=rv
  obtain⟨b,ws,rfl,hq,_,rs⟩:=rv.sqL
  exact⟨b,rfl,⟨ws,.inl (.inl hq)⟩,post _ H1 μ1 e1 s1 (yY rv')⟩
 ·cases h
theorem hZ(h:(match o with | .Call (.Name id _) [] [] _=>id != ("super":Str) | .Call _ _ _ _=>false | _=>true)=true):attributeBase o name env w=w:=by
 unfold attributeBase
 split
 ·rename_i id _ _
  have h':(id != ("super":Str))=true:=h
  rw[h'];rfl
 ·rfl
end
end M
namespace L2
open PySem PySem.Spec PyProof.Rows Builtin Builtin.Str
section
variable{X:Cx}
noncomputable def rSlS:V->Option Int->Option Int->Hp->VK->Prop:=λx lo hi H Q=>∃ z,x=.str z/\z.length<=sizeLine/\Q (.str (Txt.slice z lo hi)) H
theorem Nw:SlR X rSlS:=by
 intro pins s σ H x v vl vu lo hi sl Q I rx hs pl pu h
 obtain⟨z,rfl,hz,q⟩:=h
 obtain⟨t,rfl⟩:=rx
 refine⟨"str",_,F.slot_str_getitem.lookup,Uw _ _ _,?_⟩
 have fin:∀ t' k,EP X pins σ Q (.str (Txt.slice z lo hi) t') { s with toks:=k }:=λt' k=>⟨.str _,H,I.tok _,⟨_,rfl⟩,q⟩
 have le:=RG (Txt.slice_le z lo hi) hz
 cases pl with
 | none=>
  cases pu with
  | none=>exact Tj (l:=Y) (u:=Y) (st:=Y) hs rfl (Um ⟨le,fin⟩)
  | int j uj=>exact Tj (l:=Y) (u:=U (j,uj)) (st:=Y) hs rfl (Um ⟨le,fin⟩)
 | int i ui=>
  cases pu with
  | none=>exact Tj (l:=U (i,ui)) (u:=Y) (st:=Y) hs rfl (Um ⟨le,fin⟩)
  | int j uj=>exact Tj (l:=U (i,ui)) (u:=U (j,uj)) (st:=Y) hs rfl (Um ⟨le,fin⟩)
theorem oF{z:Str}:∀ {l:List Nat} {us:List Value} (k:Nat),(∀ i c,l[i]?=U c->z.cps[k+i]?=U c)->l.length=us.length->(∀ j v,us[j]?=U v->SignAt z (k+j) v)->Vals (l.map λc=>V.str ⟨#[c]⟩) us
 | [],[],_,_,_,_=>.nil
 | c::l,v::us,k,h1,h2,h3=>by
  have e1:=h1 0 c rfl
  obtain⟨c',u,hc,rfl⟩:=h3 0 v rfl
  rw[e1] at hc
  cases hc
  refine .cons ⟨u,rfl⟩ (oF (z:=z) (k+1) (λi c h=>?_) (Nat.succ.inj h2) λj v h=>?_)
  ·have:=h1 (i+1) c (by simpa using h);rwa[show k+(i+1)=k+1+i by omega] at this
  ·have:=h3 (j+1) v (by simpa using h);rwa[show k+(j+1)=k+1+j by omega] at this
 | [],_::_,_,_,h2,_=>by cases h2
 | _::_,[],_,_,h2,_=>by cases h2
theorem zB(hc:X.calm=true):CallR X (.type "list") (λxs H Q=>∃ z,xs=[.str z]/\z.length<=sizeLine/\∀ p,H p=Y->Q (.ref p) (upd H p (.lst (z.cps.toList.map λc=>V.str ⟨#[c]⟩)))):=by
 intro pins s σ H xs us Q I r h
 obtain⟨z,rfl,hz,q⟩:=h
 obtain⟨u,rfl,t,rfl⟩:=gD r
 refine call_list_str (I.ok.hd hc) z t (hn:=hz) λh' tk acc' c' hk hS' hacc=>?_
 have hl:z.cps.toList.length=acc'.toList.length:=by rw[SD,SD,hacc.1]
 refine⟨.ref _,_,I.laid (t':=tk) (o:=.lst (z.cps.toList.map λc=>V.str ⟨#[c]⟩)) hk (Rn _) ⟨by rw[Rt,SD];exact hz,acc'.toList,c',oF 0 (λi c h=>by simpa using h) hl λj v h=>by rw[VX];exact hacc.2 j v (by simpa using h),by simpa using hS'⟩,rfl,q _ (I.hok.fresh (Rn _))⟩
theorem EG:MtR X "str.upper" (λx xs H Q=>∃ z,x=.str z/\xs=[]/\tooLong (Txt.upper z).length=false/\Q (.str (Txt.upper z)) H):=by
 intro pins s σ H x vs v us Q I rx rv h
 obtain⟨z,rfl,rfl,hz,q⟩:=h
 obtain⟨t,rfl⟩:=rx
 cases rv
 refine Ta F.slot_str_upper (Uw _ _ _) F.entry_str_upper (F.args_str_upper_1 _) (gives_str_upper z t hz).meets ?_
 exact⟨fit_le hz,.str _,H,I.tok _,⟨_,rfl⟩,q⟩
noncomputable def tRevL(K:W.Frag)(te:TE)(ts:TO):TE:=λσ H Q=>te σ H λx H1=>ts σ H1 λk H2=>∃ a xs,x=.ref a/\k=U (-1)/\gT K H2 a xs/\∀ p,H2 p=Y->Q (.ref p) (upd H2 p (.lst xs.reverse))
theorem Bw(xs:List Value):slicePick xs.toArray Y Y (U (-1))=xs.reverse.toArray:=by
 have hb:sliceBounds Y Y (U (-1)) xs.toArray.size=(((xs.toArray.size:Nat):Int) - 1,-1,-1):=rfl
 have hr:sliceRange (((xs.toArray.size:Nat):Int) - 1) (-1) (-1)=(List.range xs.toArray.size).map λ(m:Nat)=>(((xs.toArray.size:Nat):Int) - 1+(m:Int)*-1).toNat:=by
  unfold sliceRange
  have hc:(if (-1:Int)>0 then(if (((xs.toArray.size:Nat):Int) - 1) < -1 then(-1 - (((xs.toArray.size:Nat):Int) - 1) + -1 - 1) / -1 else 0) else(if (((xs.toArray.size:Nat):Int) - 1) > -1 then((((xs.toArray.size:Nat):Int) - 1) - -1 - -1 - 1) / (-(-1)) else 0)).toNat=xs.toArray.size:=by
   rw[RH (by decide)]
   by_cases h:xs.toArray.size=0
   ·rw[RH (by omega),h];rfl
   ·rw[Ru (by omega)]
    show((((xs.toArray.size:Nat):Int) - 1 - -1 - -1 - 1) / 1).toNat=_
    rw[VZ];omega
  show(List.range (if (-1:Int)>0 then(if (((xs.toArray.size:Nat):Int) - 1) < -1 then(-1 - (((xs.toArray.size:Nat):Int) - 1) + -1 - 1) / -1 else 0) else(if (((xs.toArray.size:Nat):Int) - 1) > -1 then((((xs.toArray.size:Nat):Int) - 1) - -1 - -1 - 1) / (-(-1)) else 0)).toNat).map _=_
  rw[hc]
  refine Wm λm _=>?_
  rw[Int.mul_comm]
 unfold slicePick
 rw[hb]
 dsimp only
 rw[hr,Wo]
 exact HT.vM xs.toArray
theorem Ji{st:Expr}(he:PE X e te)(hs:PO X (U st) ts):PE X (.Subscript e (.Slice Y Y (U st) p2) pos) (tRevL X.K te ts):=by
 intro pins s σ H Q I h
 refine VE (bN (he pins s σ H _ I h) λv s1 ⟨x,H1,I1,r1,q1⟩=>?_)
 refine Wj ?_
 rw[UC]
 refine Rh ?_
 refine Rh (bN (hs pins s1 σ H1 _ I1 q1) λvk s2 ⟨k,H2,I2,pk,q2⟩=>?_)
 obtain⟨a,xs,rfl,rfl,hq,q⟩:=q2
 cases r1
 cases pk with
 | int _ u=>
  have I4:Inv X pins σ H2 { s2 with heap:=s2.heap.push { cls:=.type "slice",data:=.fields #[.none,.none,.int (-1) u] } }:=I2.kept (t':=s2.toks) λb ob q=>Re _ q
  obtain⟨its,r,ht,hz⟩:=I4.list hq
  have hlen:its.toArray.size=xs.length:=by rw[Rk];exact r.length.symm
  show wpAny (model X.prog X.w) X.A (subscriptTail e (.Slice Y Y (U st) p2) (.ref a) (.ref s2.heap.objs.size)) (EP X pins σ Q) X.xe { s2 with heap:=s2.heap.push { cls:=.type "slice",data:=.fields #[.none,.none,.int (-1) u] } }
  refine VJ (ops:=[.ref a,.ref s2.heap.objs.size]) ht.isList.typeIs slot_list_getitem.lookup (VB ht.isList (UK ..) .none .none (.int (-1) u) (by decide) ?_ (by rw[hlen];exact hz)) (by with_unfolding_all rfl)
  rw[Bw]
  refine⟨.ref _,_,I4.laid (t':=s2.toks) (o:=.lst xs.reverse) (λb ob q=>Re _ q) (Rn _) ⟨by simpa using hz,its.reverse,0,r.reverse,Rs _ rfl⟩,rfl,q _ (I4.hok.fresh (Rn _))⟩
end
end L2
namespace M
open PySem PySem.Spec PyProof.Rows L2 Builtin Builtin.Str
section
variable{X:Cx}{K:W.Frag}{μ:Fp}{H:Hp}{S:aa}
noncomputable def aW(S:aa)(x y:D):Option D:=match x,y with
 | .str a,.str b=>ft S (.str a) (.str b)
 | x,y=>bu S x y
theorem Jy:OpR X (binaryOp .Add) (iQ X.K aW):=λpins s σ H x y v u Q I rx ry ⟨μ,S,dx,dy,dz,hS,h1,h2,h3,post⟩=>by
 unfold aW at h3
 split at h3
 ·exact zT pins s σ H x y v u Q I rx ry ⟨μ,S,_,_,dz,hS,h1,h2,h3,post⟩
 ·exact zS pins s σ H x y v u Q I rx ry ⟨μ,S,_,_,dz,hS,h1,h2,h3,post⟩
noncomputable def aN(a:ME)(lo hi:MO):ME:=λenv S=>(a env S).bind λp=>match p.1 with
 | .str z=>(lo env p.2).bind λl=>(hi env l.2).bind λh=>if z.length<=sizeLine then U (.str (Txt.slice z l.1 h.1),h.2) else Y
 | _=>bA (λ_ _=>U p) lo hi env S
theorem yJ{lo:MO}{S S':aa}{d:D}(h:aN a lo hi env S=U (d,S')):(∃ z S1 l S2 h S3,a env S=U (.str z,S1)/\lo env S1=U (l,S2)/\hi env S2=U (h,S3)/\z.length<=sizeLine/\d=.str (Txt.slice z l h)/\S'=S3)\/bA a lo hi env S=U (d,S'):=by
 obtain⟨⟨x,S1⟩,h1,h⟩:=Rb.mp h
 dsimp only at h
 split at h
 ·rename_i z
  obtain⟨⟨l,S2⟩,h2,h⟩:=Rb.mp h
  obtain⟨⟨u,S3⟩,h3,h⟩:=Rb.mp h
  dsimp only at h
  split at h
  ·rename_i hz;cases h;exact .inl ⟨z,S1,l,S2,u,_,h1,h2,h3,hz,rfl,rfl⟩
  ·cases h
 ·refine .inr ?_
  unfold bA at h ⊢
  rw[h1];exact h
theorem CG{lo:Option Expr}(ha:DE X a ma)(hl:DO X lo ml)(hh:DO X hi mh):DE X (.Subscript a (.Slice lo hi Y p2) pos) (aN ma ml mh):=λpins s σ H Q I ⟨μ,S,env,d,S',hS,hE,hm,post⟩=>by
 rcases yJ hm with ⟨z,S1,l,S2,u,S3,h1,h2,h3,hz,rfl,rfl⟩ | hm'
 ·exact vN Nw ha hl hh pins s σ H Q I ⟨μ,S,env,_,S1,hS,hE,h1,λv H1 μ1 e1 s1 r1=>⟨μ1,S1,env,l,S2,s1,hE.mono e1,h2,λH2 μ2 e2 s2=>⟨μ2,S2,env,u,S',s2,(hE.mono e1).mono e2,h3,λH3 μ3 e3 s3=>⟨z,r1.str_inv,hz,post _ H3 μ3 ((e1.trans e2).trans e3) s3 (.str _)⟩⟩⟩⟩
 ·exact xD ha hl hh pins s σ H Q I ⟨μ,S,env,d,S',hS,hE,hm',post⟩
noncomputable def iy(S:aa):List D->Option D
 | [.str z]=>if z.length<=sizeLine then U (.lst (sQ z)) else Y
 | _=>Y
theorem zE(hc:X.calm=true):CallR X (.type "list") (yj X.K (az iy)):=CallR.imp (zB hc) λxs H Q ⟨μ,S,ds,d,S',hS,hr,hm,post⟩=>by
 obtain⟨rfl,hm⟩:=bX hm
 unfold iy at hm
 split at hm
 ·rename_i z
  split at hm
  ·rename_i hl
   cases hm
   obtain⟨v,rfl,r⟩:=hr.one
   refine⟨_,by rw[r.str_inv],hl,λp hp=>post.lst hS hp ?_⟩
   have:∀ l:List Nat,Reps X.K μ H (l.map λc=>V.str ⟨#[c]⟩) (l.map λc=>D.str ⟨#[c]⟩):=λl=>by
    induction l with
    | nil=>exact .nil
    | cons c l ih=>exact .cons (.str _) ih
   exact this _
  ·cases hm
 ·cases hm
noncomputable def mq(ds:List D)(S:aa):Option (D×aa):=match ds with
 | [d]=>(fw S d).bind λxs=>U (.ref S.length,S++[.lst xs])
 | _=>Y
theorem zF:CallR X (.type "list") (yj X.K mq):=CallR.imp lF λxs H Q ⟨μ,S,ds,d,S',hS,hr,hm,post⟩=>by
 unfold mq at hm
 split at hm
 ·rename_i x
  obtain⟨ys,h1,hm⟩:=Rb.mp hm
  cases hm
  obtain⟨v,rfl,r⟩:=hr.one
  obtain⟨a,vs,rfl,hq,rs⟩:=fH hS r h1
  exact⟨a,vs,rfl,hq,λp hp=>post.lstR hS hp rs⟩
 ·cases hm
noncomputable def eO(a:ME)(st:MO):ME:=λenv S=>(a env S).bind λp=>(st env p.2).bind λk=>match p.1,k.1 with
 | .lst xs,U j=>if j = -1 then U (.lst xs.reverse,k.2) else Y
 | _,_=>Y
theorem KU{st:Expr}(ha:DE X a ma)(hs:DO X (U st) ms):DE X (.Subscript a (.Slice Y Y (U st) p2) pos) (eO ma ms):=
 PE.imp (Ji ha hs) λσ H Q ⟨μ,S,env,d,S',hS,hE,h,post⟩=>by
  obtain⟨⟨x,S1⟩,h1,h⟩:=Rb.mp h
  obtain⟨⟨k,S2⟩,h2,h⟩:=Rb.mp h
  refine⟨μ,S,env,x,S1,hS,hE,h1,λv H1 μ1 e1 s1 r1=>⟨μ1,S1,env,k,S2,s1,hE.mono e1,h2,λH2 μ2 e2 s2=>?_⟩⟩
  dsimp only at h
  split at h
  ·split at h
   ·rename_i xs j hj
    cases h
    obtain⟨b,vs,rfl,q,_,r⟩:=(r1.mono e2).sqL
    exact⟨b,vs,rfl,by rw[hj],.inl (.inl q),λp hp=>((post.ext e1).ext e2).lst s2 hp r.reverse⟩
   ·cases h
  ·cases h
noncomputable def cE(o:ME):ME:=λenv S=>(o env S).bind λp=>match p.1 with | .str z=>if tooLong (Txt.upper z).length=false then U (.str (Txt.upper z),p.2) else Y | _=>Y
theorem Hw{apos cpos:Pos}(ho:DE X o mo)(hbase:attributeBase o "upper" X.env (eval o X.env)=eval o X.env)(hline:(apos.endLine==cpos.line)=true):DE X (.Call (.Attribute o "upper" apos) [] [] cpos) (cE mo):=
 PE.imp (NZ (X:=X) Vf F.slot_str_upper F.type_str_upper EG ho hbase hline) λσ H Q ⟨μ,S,env,d,S',hS,hE,h,post⟩=>by
  obtain⟨⟨x,S1⟩,h1,h⟩:=Rb.mp h
  dsimp only at h
  split at h
  ·rename_i z
   split at h
   ·rename_i hz
    cases h
    refine⟨μ,S,env,_,_,hS,hE,h1,λv H1 μ1 e1 s1 r1=>⟨?_,z,r1.str_inv,rfl,hz,post _ H1 μ1 e1 s1 (.str _)⟩⟩
    rw[r1.str_inv];exact rfl
   ·cases h
  ·cases h
end
section
variable{X:Cx}{K:W.Frag}{μ μ':Fp}{H H':Hp}{S S':aa}{tg iter:Expr}{pos:Pos}
noncomputable def dX(g:MG)(t:MT)(e:ME)(r:Nat):Nat->Nat->ai->aa->Option (List D×aa)
 | 0,_,_,_=>Y
 | f+1,i,env,S=>match S[r]? with
  | some (.lst xs)=>match xs[i]? with
   | none=>U ([],S)
   | some d=>(g (.tup [.int (i:Nat),d]) env S).bind λp=>(t p.1 p.2).bind λb=>if b.1=true then(e p.1 b.2).bind λy=>(dX g t e r f (i+1) p.1 y.2).bind λz=>U (y.1::z.1,z.2) else dX g t e r f (i+1) p.1 b.2
  | _=>Y
noncomputable def bt(m:MA)(g:MG)(t:MT)(e:ME)(cap:List (Option Nat)):ME:=λenv S=>(m env S).bind λp=>match p.1 with
 | [.ref r]=>(dX g t e r 2000 0 (fP cap env) p.2).bind λz=>U (.lst z.1,z.2)
 | _=>Y
theorem oB(h:tM K (bt mi g t e cap) σ H Q):vp (Gb K (tMA K mi)) (nL K g) (jT K t) (tM K e) cap σ H Q:=by
 obtain⟨μ,S,env,d,S',hS,hE,hm,post⟩:=h
 obtain⟨⟨d0,S1⟩,h1,hm⟩:=Rb.mp hm
 dsimp only at hm
 split at hm
 case h_2=>cases hm
 rename_i r
 obtain⟨⟨ys,S2⟩,h2,hm⟩:=Rb.mp hm
 cases hm
 refine⟨μ,S,env,_,S1,hS,hE,h1,λvs0 H1 μ1 e1 s1 rs1=>?_⟩
 obtain⟨v,rfl,r1⟩:=rs1.one
 cases r1 with
 | @ref a _ ha=>
  have hq0:∃ vs,gT K H1 a vs:=by
   unfold dX at h2
   split at h2
   ·rename_i xs q
    obtain⟨vs,hv,_⟩:=s1.cell r a _ ha q
    exact⟨vs,.inl (.inl hv)⟩
   ·cases h2
  refine⟨a,rfl,hq0,λp hp=>?_⟩
  have hpn:=s1.notMem hp
  refine⟨λi n σ' H'=>n+i=2000/\∃ (cs:List Addr) (S':aa) (env':ai) (vs:List V) (zs rest:List D),ExtP μ1 H1 ⟨cs,p::μ1.fb⟩ H'/\SOk K ⟨cs,p::μ1.fb⟩ S' H'/\EOk K ⟨cs,p::μ1.fb⟩ H' σ' env'/\H' p=U (.lst vs) /\
    Reps K ⟨cs,p::μ1.fb⟩ H' vs zs/\dX g t e r n i env' S'=U (rest,S2)/\ys=zs++rest/\vs.length<=i,⟨2000,rfl,μ1.cs,S1,fP cap env,[],[],ys,?_,s1.more hp,?_,ah,.nil,h2,rfl,Rn _⟩,?_⟩
  ·exact⟨⟨[p],rfl,λa z=>by rw[RD.mp z];exact hp⟩,⟨[],by simp,λ_ z=>by simp at z⟩,λa o' n h=>by rw[aj (aQ h hp)];exact h,λa ha=>by
    by_cases z:a=p
    ·subst z;rw[ah];simp
    ·rw[aj z];exact s1.dom a ha⟩
  ·exact((hE.mono e1).block cap).more hp
  rintro i n σ' H' ⟨hn,cs,S',env',vs,zs,rest,eP,s',r',hpv,rz,hl,rfl,hvl⟩
  have pcs:p∉cs:=λz=>s'.disj p Rf z
  cases n with
  | zero=>cases hl
  | succ n=>
   unfold dX at hl
   split at hl
   ·rename_i xs q
    have ha':(⟨cs,p::μ1.fb⟩:Fp).cs[r]?=U a:=eP.ix ha
    obtain⟨ws,hv,rv⟩:=s'.cell r a _ ha' q
    have hsq:gT K H' a ws:=.inl (.inl hv)
    split at hl
    ·rename_i hx
     cases hl
     have eF:Ext μ1 H1 ⟨cs,μ1.fb⟩ H':=⟨rfl,eP.pre,eP.keep,eP.dom⟩
     rw[RU] at post
     exact .inl ⟨⟨ws,hsq,by rw[rv.length];simpa using hx⟩,post _ H' ⟨cs,μ1.fb⟩ (e1.trans eF) s'.less (.lst hpv ⟨λz=>s'.disj p Rf z,hpn.2⟩ rz.less)⟩
    ·rename_i dd hx
     obtain⟨w,hw,rw0⟩:=rv.get hx
     refine .inr ⟨⟨ws,w,hsq,hw⟩,λx H2 y=>?_⟩
     obtain⟨pp,w',rfl,hpp,rfl,hy⟩:=y
     have ex:w'=w:=by have:=hy ws hsq;rw[hw] at this;exact(RJ this).symm
     subst ex
     obtain⟨e0,s0⟩:=s'.laid (o:=.tup [.int (i:Nat),w']) hpp
     have rw1:Rep K ⟨cs,p::μ1.fb⟩ (upd H' pp (.tup [.int (i:Nat),w'])) (.ref pp) (.tup [.int (i:Nat),dd]):=.tup ah (s'.notMem hpp) (.cons (.int _) (.cons (rw0.mono e0) .nil))
     obtain⟨⟨env3,S3⟩,h3,hl⟩:=Rb.mp hl
     obtain⟨⟨b,S4⟩,h4,hl⟩:=Rb.mp hl
     refine⟨_,S',env',_,env3,S3,s0,r'.mono e0,rw1,h3,λσ3 H3 μ3 e3 s3 r3=>⟨μ3,S3,env3,b,S4,s3,r3,h4,λH4 μ4 e4 s4=>?_⟩⟩
     have eA:=(e0.trans e3).trans e4
     cases b with
     | false=>
      rw[RH Rq] at hl
      dsimp only
      rw[RH Rq]
      obtain⟨cs4,fb4⟩:=μ4
      have hfb:fb4=p::μ1.fb:=eA.fb
      subst hfb
      exact⟨n,Uh _,by omega,cs4,S4,env3,vs,zs,rest,eP.then eA,s4,r3.mono e4,(eA.keeps hpv pcs).1,rz.mono eA,hl,rfl,by omega⟩
     | true=>
      rw[Ru rfl] at hl
      dsimp only
      rw[Ru rfl]
      obtain⟨⟨dv,S5⟩,h5,hl⟩:=Rb.mp hl
      obtain⟨⟨rs,S6⟩,h6,hl⟩:=Rb.mp hl
      cases hl
      refine⟨μ4,S4,env3,dv,S5,s4,r3.mono e4,h5,λv H5 μ5 e5 s5 r5=>?_⟩
      have eB:=eA.trans e5
      obtain⟨cs5,fb5⟩:=μ5
      have hfb:fb5=p::μ1.fb:=eB.fb
      subst hfb
      have sz:2000<sizeLine:=by decide
      exact⟨vs,(eB.keeps hpv pcs).1,by omega,n,Uh _,by omega,cs5,S5,env3,vs++[v],zs++[dv],rs,(eP.then eB).chg hp,s5.chg Rf,((r3.mono e4).mono e5).chg Rf,ah,Reps.chg Rf ((rz.mono eB).append (.cons r5 .nil)),h6,by simp,by rw[Rz,SX];omega⟩
   ·cases hl
theorem CK{ip:Pos}{ia:Expr}
  (hc:X.calm=true) (B:BlockOk X N' scope cap) (hm0:X.mg "enumerate" = Y) (hg0:Gl X "enumerate") (hi:DA X [ia] mi) (hs0:starEach [ia] X.env=[(false,eval ia X.env)]) (hg:∀ C s H fp,DG (di X N' scope C s H fp) (.Tuple ies ik itp) g) (ht:∀ C s H fp,sB (di X N' scope C s H fp) ifs t) (he:∀ C s H fp,DE (di X N' scope C s H fp) elt me)
  (hs:∀ x,foldedSetIterable (.Call (.Name "enumerate" ip) [ia] [] ipos) X.env x=pure x:=by intro _;rfl):DE X (.ListComp elt [⟨.Tuple ies ik itp,.Call (.Name "enumerate" ip) [ia] [] ipos,ifs,0⟩] scope pos) (bt mi g t me cap):=
 PE.imp (tB (g:=nL X.K g) (tt:=jT X.K t) (te:=tM X.K me) hc B (oM hg0 hm0 hi hs0) hg ht he hs) λ_ _ _ h=>oB h
theorem uM{ip:Pos}{ia:Expr}{spos:Pos}{y:Str}{i:Nat}
  (hN:X.N.Nodup) (hy:X.N[i]?=U y) (hx:Bf X.env.scope y)
  (hc:X.calm=true) (B:BlockOk X N' scope cap) (hm0:X.mg "enumerate" = Y) (hg0:Gl X "enumerate") (hi:DA X [ia] mi) (hs0:starEach [ia] X.env=[(false,eval ia X.env)]) (hg:∀ C s H fp,DG (di X N' scope C s H fp) (.Tuple ies ik itp) g) (ht:∀ C s H fp,sB (di X N' scope C s H fp) ifs t) (he:∀ C s H fp,DE (di X N' scope C s H fp) elt me)
  (hsw:swapsWith (.ListComp elt [⟨.Tuple ies ik itp,.Call (.Name "enumerate" ip) [ia] [] ipos,ifs,0⟩] scope pos) (U (.Name y py)) spos.line X.env=pure true:=by rfl)
  (hs:∀ x,foldedSetIterable (.Call (.Name "enumerate" ip) [ia] [] ipos) X.env x=pure x:=by intro _;rfl) (hf:X.fn y=true\/X.env.scope.names.lookup y=U .local:=by first | exact .inl rfl | exact .inr rfl | assumption) :
  DS X (.Assign [.Name y py] (.ListComp elt [⟨.Tuple ies ik itp,.Call (.Name "enumerate" ip) [ia] [] ipos,ifs,0⟩] scope pos) spos) (au (bt mi g t me cap) (ag i)):=
 PS.imp (jX (g:=nL X.K g) (tt:=jT X.K t) (te:=tM X.K me) hN hy hx hc B (oM hg0 hm0 hi hs0) hg ht he hsw hs hf) λE σ H h=>by
  obtain⟨μ,S,env,o,hS,hE,hm,post⟩:=h
  obtain⟨⟨d,S1⟩,h1,hm⟩:=Rb.mp hm
  cases hm
  exact oB ⟨μ,S,env,d,S1,hS,hE,h1,λv H1 μ1 e1 s1 r1=>post _ H1 μ1 e1 s1 ((hE.mono e1).set r1 i)⟩
end
end M
namespace L2
section
variable{X:Cx}{k:Nat}{f:Addr}{fd:FuncData}{ps:List Str}{sp:Sp}{dvs:List V}{ds:List Value}{x:Str}{p cpos:Pos}{e:Expr}{es:List Expr}{t:TA}
theorem vK{y:Str}{pa:Pos}{i j:Nat}{n:Str}{b₀:Stmt}{suite:List Stmt}
  (F:FnOk X.prog X.w X.K X.mg X.base (jR X.prog X.w) k f fd ps sp) (hr:Room k X.A) (hgf:Gl X x) (hmf:X.mg x=U (.ref f)) (hkp:W.keepIn X.K (.ref f)=true) (hb:Binds X.K fd ps ds) (hdv:Vals dvs ds) (ha:PA X (e::es) t)
  (hxe:∀ v s',X.xe v s'->False) (hG:qh X.K G bmG) (hbG:bmG.contains (.type "BaseException")=true) (hg:Gl X g) (hm:X.mg g=U (.ref G)) (hN:X.N.Nodup) (hi:X.N[i]?=U n) (hk:X.env.scope.names.lookup n=U .local)
  (hj:X.N[j]?=U y) (hy:Bf X.env.scope y) (hf:X.fn y=true\/X.env.scope.names.lookup y=U .local)
  (hS:∀ v,PSs (X.suite v λ_ _=>False) (b₀::suite) ts) (hs:X.stack=X.env::X.outer) (hfm:X.env.frame=U X.env.locals) (hex:X.ex=[])
  (hdb:(x==("__debug__":Str))=false) (hd:(g==("__debug__":Str))=false)
  (he:starEach (e::es) X.env=(false,eval e X.env)::starEach es X.env) (hpl:(backTo cpos (starEach es X.env)).any (·.1)=false) (hsw:swapsWith (.Call (.Name x p) (e::es) [] cpos) (U (.Name y py)) pa.line X.env=pure false) :
  PS X (.Try [.Assign [.Name y py] (.Call (.Name x p) (e::es) [] cpos) pa] [.ExceptHandler (U (.Name g gp)) (U n) (b₀::suite) hp] [] [] pos) (λD σ H=>vq sp dvs (exAs X G i ts D σ) t σ H λv H1=>D.nx (σ.set j (U v)) H1):=by
 intro pins s σ H D I h
 refine wpAny_Try_except (UY (wpAny_Assign_Name (RF (xK F hr hgf hmf hkp hb hdv ha hxe I h hdb he hpl) (λv s1 hq=>?_) λe' s' hq=>?_) hsw))
 ·obtain⟨w,H1,I1,rw',q1⟩:=hq
  exact gl I1 hN hj hy rw' (λs2 I2=>TL (TL ⟨_,H1,I2,q1⟩)) hf
 ·obtain⟨H1,s1,I1,fl⟩:=hq
  refine ze hs hfm hex I1 fl λs'' a T C dx H' ea I2 na q L=>?_
  subst ea
  obtain⟨C',dx',bm,eC,ed,hC,hin,hts⟩:=q
  cases eC;cases ed
  exact Cc I2 L hC hG hin hbG hg hm hN hi hk hS (hts a na) hd
end
end L2
namespace M
open L2
noncomputable def wg(n:Nat)(fy:List D->aa->Option RY)(C:Addr)(fl:Str)(ms:MA)(i j v:Nat):MS:=λenv S=>(ms env S).bind λp=>if p.1.length=n then(fy p.1 p.2).bind λr=>match r with
 | .val d S'=>U (.nx (env.set v (U d)) S')
 | .xc q S'=>U (.nx (((env.set i (U (.exc C fl q))).set j (U (.exc C fl q))).set i Y) S') else Y
section
variable{X:Cx}{K:W.Frag}{μ μ':Fp}{H H':Hp}{S S':aa}{C:Addr}{fl:Str}
theorem KB{k:Nat}{e:Expr}{es:List Expr}{i j v:Nat}{nm y yv:Str}{pa pav:Pos}(F:FnY X.prog X.w X.K X.mg X.base k f n fy C fl)(hr:Room k X.A)(hgf:Gl X f)(ha:DA X (e::es) ms)
  (hxe:∀ v s',X.xe v s'->False) (hG:xT X.K X.mg g C) (hg:Gl X g) (hN:X.N.Nodup) (hi:X.N[i]?=U nm) (hk:X.env.scope.names.lookup nm=U .local) (hj:X.N[j]?=U y) (hy:X.env.scope.names.lookup y=U .local)
  (hv:X.N[v]?=U yv) (hyv:X.env.scope.names.lookup yv=U .local)
  (hs:X.stack=X.env::X.outer) (hfm:X.env.frame=U X.env.locals) (hex:X.ex=[])
  (hdb:(f==("__debug__":Str))=false) (hd:(g==("__debug__":Str))=false) (nd:(nm==("__debug__":Str))=false) (nc:(nm==("__classdict__":Str))=false)
  (he:starEach (e::es) X.env=(false,eval e X.env)::starEach es X.env) (hpl:(backTo cpos (starEach es X.env)).any (·.1)=false) (hsw:swapsWith (.Call (.Name f p) (e::es) [] cpos) (U (.Name yv pyv)) pav.line X.env=pure false) :
  DS X (.Try [.Assign [.Name yv pyv] (.Call (.Name f p) (e::es) [] cpos) pav] [.ExceptHandler (U (.Name g gp)) (U nm) [.Assign [.Name y py] (.Name nm pn) pa] hp] [] [] pos) (wg n fy C fl ms i j v):=by
 obtain⟨a,fd,ps,hn,F,hm,hkp,hb⟩:=F.ex
 obtain⟨G,bm,bmG,hmg,hC,hGG,hin,hbG⟩:=hG
 intro pins s σ H D I h
 refine vK F hr hgf hm hkp hb .nil ha hxe hGG hbG hg hmg hN hi hk hv (.inl hyv) (.inr hyv) (λv=>show PSs (X.suite v λ_ _=>False) _ (Ng X.K (au (ae i) (ag j))) from M.AV (M.uN (X:=X.suite v λ_ _=>False) (i:=j) (pos:=pa) hN hj (.inl hy) (M.Hv (i:=i) hi (.inl hk) nd nc) rfl (.inr hy))) hs hfm hex hdb hd he hpl hsw pins s σ H D I ?_
 have hl:σ.length=X.N.length:=I.len
 have hil:i<X.N.length:=(Ri.mp hi).1
 obtain⟨μ,S,env,o,hS,hE,hm,post⟩:=h
 have hel:i<env.length:=by rw[<- hE.length,hl];exact hil
 obtain⟨⟨xs,S1⟩,h1,hm⟩:=Rb.mp hm
 dsimp only at hm
 split at hm
 ·rename_i hx
  obtain⟨r,h2,hm⟩:=Rb.mp hm
  refine⟨μ,S,env,xs,S1,hS,hE,h1,λvs H1 μ1 e1 s1 r1=>?_⟩
  rw[RU]
  refine⟨μ1,S1,xs,r,s1,r1,hx,h2,?_⟩
  cases r with
  | val d S2=>cases hm;exact λw H2 μ2 e2 s2 r2=>post _ H2 μ2 (e1.trans e2) s2 ((hE.mono (e1.trans e2)).set r2 v)
  | xc q S2=>
   cases hm
   refine λdx H2 μ2 e2 s2 nx=>⟨C,dx,bm,rfl,rfl,hC,hin,λb nb=>?_⟩
   obtain⟨e3,s3⟩:=s2.laid (o:=.xd [(fl,vI q)]) nx
   obtain⟨e4,s4⟩:=s3.laid (o:=.ext (js b C dx)) nb
   have eT:=((e1.trans e2).trans e3).trans e4
   have hdb:dx≠b:=λz=>by rw[<- z,ah] at nb;cases nb
   have rp:Rep X.K μ2 (upd (upd H2 dx (.xd [(fl,vI q)])) b (.ext (js b C dx))) (.ref b) (.exc C fl q):=.exc ah (s3.notMem nb) (by rw[aj hdb,ah]) (s2.notMem nx)
   have hE4:=(hE.mono eT).set rp i
   refine⟨μ2,S2,_,.nx ((env.set i (U (.exc C fl q))).set j (U (.exc C fl q))) S2,s4,hE4,?_,λσ' H' μ' e s r=>?_⟩
   ·show((ae i) _ _).bind _=_
    unfold ae
    rw[Sd hel]
    rfl
   ·exact post _ H' μ' (eT.trans e) s (r.unset i)
 ·cases hm
end
end M
namespace MI
open L2 M
@[irreducible] noncomputable def mC(d:D):ME:=M.mC d
theorem pq{d:D}:mC d=M.mC d:=by unfold mC;rfl
@[irreducible] noncomputable def ae(i:Nat):ME:=M.ae i
theorem Ag:ae i=M.ae i:=by unfold ae;rfl
@[irreducible] noncomputable def aB(f:aa->D->D->Option D)(a b:ME):ME:=M.aB f a b
theorem fW:aB f a b=M.aB f a b:=by unfold aB;rfl
@[irreducible] noncomputable def aL(m:ME):MT:=M.aL m
theorem oZ:aL m=M.aL m:=by unfold aL;rfl
@[irreducible] noncomputable def bG(f g:aa->D->D->Option D)(a b c:ME):ME:=M.bG f g a b c
theorem lW:bG f g a b c=M.bG f g a b c:=by unfold bG;rfl
@[irreducible] noncomputable def cF(m:ME):MT:=M.cF m
theorem tV:cF m=M.cF m:=by unfold cF;rfl
@[irreducible] noncomputable def cR(a b:MT):MT:=M.cR a b
theorem pz:cR a b=M.cR a b:=by unfold cR;rfl
@[irreducible] noncomputable def fq(a b:MT):MT:=M.fq a b
theorem tW:fq a b=M.fq a b:=by unfold fq;rfl
@[irreducible] noncomputable def cw(a:MT):MT:=M.cw a
theorem wq:cw a=M.cw a:=by unfold cw;rfl
@[irreducible] noncomputable def gc(a b:ME):ME:=M.Fd a b
theorem Au:gc a b=M.Fd a b:=by unfold gc;rfl
@[irreducible] noncomputable def vb(a b:ME):ME:=M.Ou a b
theorem EO:vb a b=M.Ou a b:=by unfold vb;rfl
@[irreducible] noncomputable def fM(a:ME):ME:=M.ER a
theorem wp:fM a=M.ER a:=by unfold fM;rfl
@[irreducible] noncomputable def nU(t:MT)(a b:ME):ME:=M.nU t a b
theorem EU:nU t a b=M.nU t a b:=by unfold nU;rfl
@[irreducible] noncomputable def af:MA:=M.af 
theorem tZ  : af  = M.af  := by unfold af;rfl
@[irreducible] noncomputable def ac(a:ME)(r:MA):MA:=M.ac a r
theorem wF:ac a r=M.ac a r:=by unfold ac;rfl
@[irreducible] noncomputable def bj(ms:MA):ME:=M.bj ms
theorem Ah:bj ms=M.bj ms:=by unfold bj;rfl
@[irreducible] noncomputable def bQ(ms:MA):ME:=M.bQ ms
theorem An:bQ ms=M.bQ ms:=by unfold bQ;rfl
@[irreducible] noncomputable def dJ(ms:MA):ME:=M.dJ ms
theorem wx:dJ ms=M.dJ ms:=by unfold dJ;rfl
@[irreducible] noncomputable def qm(f:aa->D->Option D)(a:ME):ME:=M.qm f a
theorem EM:qm f a=M.qm f a:=by unfold qm;rfl
@[irreducible] noncomputable def aT:MO:=M.aT 
theorem rB  : aT  = M.aT  := by unfold aT;rfl
@[irreducible] noncomputable def bq(m:ME):MO:=M.bq m
theorem wn:bq m=M.bq m:=by unfold bq;rfl
@[irreducible] noncomputable def bA(a:ME)(lo hi:MO):ME:=M.bA a lo hi
theorem rm{lo:MO}:bA a lo hi=M.bA a lo hi:=by unfold bA;rfl
@[irreducible] noncomputable def aO(f:List D->aa->Option (D×aa))(ms:MA):ME:=M.aO f ms
theorem cQ:aO f ms=M.aO f ms:=by unfold aO;rfl
@[irreducible] noncomputable def cP(T:String)(m:ME):ME:=M.cP T m
theorem Ao:cP T m=M.cP T m:=by unfold cP;rfl
@[irreducible] noncomputable def ak(n:Nat)(f:List D->aa->Option (D×aa))(ms:MA):ME:=M.ak n f ms
theorem lX:ak n f ms=M.ak n f ms:=by unfold ak;rfl
@[irreducible] noncomputable def aI:MS:=M.aI 
theorem jf  : aI  = M.aI  := by unfold aI;rfl
@[irreducible] noncomputable def ax(a b:MS):MS:=M.ax a b
theorem Ai:ax a b=M.ax a b:=by unfold ax;rfl
@[irreducible] noncomputable def bg(m:ME):MS:=M.bg m
theorem Al:bg m=M.bg m:=by unfold bg;rfl
@[irreducible] noncomputable def dW(m:ME):MS:=M.dW m
theorem wD:dW m=M.dW m:=by unfold dW;rfl
@[irreducible] noncomputable def bM(t:MT)(a b:MS):MS:=M.bM t a b
theorem Aq:bM t a b=M.bM t a b:=by unfold bM;rfl
@[irreducible] noncomputable def ag(i:Nat):MG:=M.ag i
local macro_rules|`($c:char)=>do let q:=Lean.quote (c.getChar.toNat%48);if c.getChar.toNat<96 then `(MI.ae $q) else `(MI.ag $q)
local macro_rules|`($c:scientific)=>`(MI.mC (.int $(Lean.quote c.getScientific.1)))
local macro_rules|`(!$s:str)=>`(MI.mC (.str $s))
theorem gi:ag i=M.ag i:=by unfold ag;rfl
@[irreducible] noncomputable def cm:ou:=M.cm 
theorem xg  : cm  = M.cm  := by unfold cm;rfl
@[irreducible] noncomputable def aU(g:MG)(gs:ou):ou:=M.aU g gs
theorem rY:aU g gs=M.aU g gs:=by unfold aU;rfl
@[irreducible] noncomputable def bI(n:Nat)(gs:ou):MG:=M.bI n gs
theorem hV:bI n gs=M.bI n gs:=by unfold bI;rfl
@[irreducible] noncomputable def cC(o i:ME):MG:=M.cC o i
theorem xa:cC o i=M.cC o i:=by unfold cC;rfl
@[irreducible] noncomputable def dN(o i:ME):MG:=M.dN o i
theorem wZ:dN o i=M.dN o i:=by unfold dN;rfl
@[irreducible] noncomputable def au(m:ME)(g:MG):MS:=M.au m g
theorem dH:au m g=M.au m g:=by unfold au;rfl
@[irreducible] noncomputable def aF(ms:MA):MA:=M.aF ms
theorem jY:aF ms=M.aF ms:=by unfold aF;rfl
@[irreducible] noncomputable def bK(ms:MA):MA:=M.bK ms
theorem pf:bK ms=M.bK ms:=by unfold bK;rfl
@[irreducible] noncomputable def eG(mi:MA)(g:MG)(body:MS):MS:=M.eG mi g body
theorem Ar:eG mi g body=M.eG mi g body:=by unfold eG;rfl
@[irreducible] noncomputable def bP(mi:MA)(g:MG)(t:MT)(e:ME)(cap:List (Option Nat)):ME:=M.bP mi g t e cap
theorem po:bP mi g t e cap=M.bP mi g t e cap:=by unfold bP;rfl
@[irreducible] noncomputable def cO(m:ME):MA:=M.cO m
theorem nS:cO m=M.cO m:=by unfold cO;rfl
@[irreducible] noncomputable def aP:MT:=M.aP 
theorem wj  : aP  = M.aP  := by unfold aP;rfl
@[irreducible] noncomputable def eR(f:MF)(o:ME)(ms:MA):ME:=M.eR f o ms
theorem wu:eR f o ms=M.eR f o ms:=by unfold eR;rfl
@[irreducible] noncomputable def eV(ms:MA):MA:=M.eV ms
theorem wC:eV ms=M.eV ms:=by unfold eV;rfl
@[irreducible] noncomputable def gx(a:ME)(st:MO):ME:=M.gx a st
theorem Aj{st:MO}:gx a st=M.gx a st:=by unfold gx;rfl
@[irreducible] noncomputable def gy(i j:Nat)(ms:MA):MS:=M.gy i j ms
theorem Am:gy i j ms=M.gy i j ms:=by unfold gy;rfl
@[irreducible] noncomputable def gO(ms:MA):MA:=M.gO ms
theorem Ae:gO ms=M.gO ms:=by unfold gO;rfl
@[irreducible] noncomputable def dL(ms:List (ME×ME)):ME:=M.dL ms
theorem wE:dL ms=M.dL ms:=by unfold dL;rfl
@[irreducible] noncomputable def ce(ms:List (ME×ME)):ME:=M.ce ms
theorem rJ:ce ms=M.ce ms:=by unfold ce;rfl
@[irreducible] noncomputable def bD(f:MF)(o:ME)(ms:MA):ME:=M.bD f o ms
theorem rC:bD f o ms=M.bD f o ms:=by unfold bD;rfl
@[irreducible] noncomputable def ci(m:ME)(g:MG)(body:MS):MS:=M.ci m g body
theorem wA:ci m g body=M.ci m g body:=by unfold ci;rfl
@[irreducible] noncomputable def bR(ms:MA):ME:=M.bR ms
theorem rE:bR ms=M.bR ms:=by unfold bR;rfl
@[irreducible] noncomputable def bV(l:List (aJ×D))(a:ME):ME:=M.bV l a
theorem rh:bV l a=M.bV l a:=by unfold bV;rfl
@[irreducible] noncomputable def bE(m:ME)(g:MG)(t:MT)(e:ME)(cap:List (Option Nat)):ME:=M.bE m g t e cap
theorem lT:bE m g t e cap=M.bE m g t e cap:=by unfold bE;rfl
@[irreducible] noncomputable def fG(m:ME):ME:=M.fG m
theorem As:fG m=M.fG m:=by unfold fG;rfl
@[irreducible] noncomputable def bp(ms:List ME)(out:Str):ME:=M.bp ms out
theorem jD:bp ms out=M.bp ms out:=by unfold bp;rfl
@[irreducible] noncomputable def bL(o:ME)(ms:MA):ME:=M.bL o ms
theorem rA:bL o ms=M.bL o ms:=by unfold bL;rfl
@[irreducible] noncomputable def bF(mi:MA)(g:MG)(t:MT)(mi2:MA)(g2:MG)(t2:MT)(e:ME)(cap:List (Option Nat)):ME:=M.bF mi g t mi2 g2 t2 e cap
theorem lV{t2:MT}:bF mi g t mi2 g2 t2 e cap=M.bF mi g t mi2 g2 t2 e cap:=by unfold bF;rfl
@[irreducible] noncomputable def qx(e:ME):MB:=M.qx e
theorem EX:qx e=M.qx e:=by unfold qx;rfl
@[irreducible] noncomputable def gz(mi:MA)(g:MG)(t:MT)(b:MB):MB:=M.gz mi g t b
theorem Ap:gz mi g t b=M.gz mi g t b:=by unfold gz;rfl
@[irreducible] noncomputable def bW(mi:MA)(g:MG)(t:MT)(b:MB)(cap:List (Option Nat)):ME:=M.bW mi g t b cap
theorem lU:bW mi g t b cap=M.bW mi g t b cap:=by unfold bW;rfl
@[irreducible] noncomputable def cA(mi:MA)(g:MG)(t:MT)(kx vx:ME)(cap:List (Option Nat)):ME:=M.cA mi g t kx vx cap
theorem rK:cA mi g t kx vx cap=M.cA mi g t kx vx cap:=by unfold cA;rfl
@[irreducible] noncomputable def cb(o:ME)(ms:MA):ME:=M.cb o ms
theorem rj:cb o ms=M.cb o ms:=by unfold cb;rfl
@[irreducible] noncomputable def cz(ms:MA):MA:=M.cz ms
theorem rH:cz ms=M.cz ms:=by unfold cz;rfl
@[irreducible] noncomputable def aN(a:ME)(lo hi:MO):ME:=M.aN a lo hi
theorem pd{lo:MO}:aN a lo hi=M.aN a lo hi:=by unfold aN;rfl
@[irreducible] noncomputable def eO(a:ME)(st:MO):ME:=M.eO a st
theorem wm{st:MO}:eO a st=M.eO a st:=by unfold eO;rfl
@[irreducible] noncomputable def cE(o:ME):ME:=M.cE o
theorem rg:cE o=M.cE o:=by unfold cE;rfl
@[irreducible] noncomputable def bt(m:MA)(g:MG)(t:MT)(e:ME)(cap:List (Option Nat)):ME:=M.bt m g t e cap
theorem ka:bt m g t e cap=M.bt m g t e cap:=by unfold bt;rfl
theorem yN:ak 0 f af=M.ak 0 f M.af:=by rw[lX,tZ]
theorem yH:aL (aB f a b)=M.aL (M.aB f a b):=by rw[oZ,fW]
theorem yI:aL (bG f g a b c)=M.aL (M.bG f g a b c):=by rw[oZ,lW]
theorem ke:au m (ag i)=M.au m (M.ag i):=by rw[dH,gi]
theorem wI:au (bP mi g t e cap) (ag i)=M.au (M.bP mi g t e cap) (M.ag i):=by rw[dH,gi,po]
theorem ue:au (bE mi g t e cap) (ag i)=M.au (M.bE mi g t e cap) (M.ag i):=by rw[dH,gi,lT]
theorem ug{t2:MT}:au (bF mi g t mi2 g2 t2 e cap) (ag i)=M.au (M.bF mi g t mi2 g2 t2 e cap) (M.ag i):=by rw[dH,gi,lV]
theorem qy:au (bt mi g t e cap) (ag i)=M.au (M.bt mi g t e cap) (M.ag i):=by rw[dH,gi,ka]
theorem uf:au (bW mi g t b cap) (ag i)=M.au (M.bW mi g t b cap) (M.ag i):=by rw[dH,gi,lU]
section
variable{X:Cx}{e:Expr}{es:List Expr}{s:Stmt}{ss:List Stmt}
theorem MD{m m':MB}(h:m=m')(d:MM X bc p m'):MM X bc p m:=by rw[h];exact d
theorem aM{m m':ME}(h:m=m')(d:DE X e m'):DE X e m:=by rw[h];exact d
theorem xJ{m m':MT}(h:m=m')(d:DT X e m'):DT X e m:=by rw[h];exact d
theorem Bc{m m':MT}(h:m=m')(d:DW X e m'):DW X e m:=by rw[h];exact d
theorem MH{m m':MA}(h:m=m')(d:DA X es m'):DA X es m:=by rw[h];exact d
theorem MC{m m':MO}(h:m=m')(d:DO X o m'):DO X o m:=by rw[h];exact d
theorem sr{m m':MG}(h:m=m')(d:DG X e m'):DG X e m:=by rw[h];exact d
theorem HR{m m':ou}(h:m=m')(d:QZ X es m'):QZ X es m:=by rw[h];exact d
theorem qc{m m':MA}(h:m=m')(d:DI X tg e m'):DI X tg e m:=by rw[h];exact d
theorem HQ{m m':MA}(h:m=m')(d:LC X tg e m'):LC X tg e m:=by rw[h];exact d
theorem QI{m m':MT}(h:m=m')(d:sB X es m'):sB X es m:=by rw[h];exact d
theorem fv{m m':MS}(h:m=m')(d:DS X s m'):DS X s m:=by rw[h];exact d
theorem HP{m m':MS}(h:m=m')(d:vc X ss m'):vc X ss m:=by rw[h];exact d
end
inductive GI where
 | fn (n:Nat) (f:List D->aa->Option (D×aa))
 | con (d:D)
 | blt
 | tab (l:List (aJ×D))
 | thr (f:Str) (n:Nat) (fy:List D->aa->Option RY) (C:Addr) (fl:Str)
 | cls (C:Addr) (b:Bool)
 | hnd (C:Addr)
 | rse (C:Addr) (fl:Str)
 | fld (C:Addr) (fl:Str)
structure CI where
 N:List Str
 sc:Scope
 all:Bool
 gs:List (Str×GI)
 mt:List Nat
 nx:Bool
noncomputable def GOk(X:Cx)(k:Nat)(x:Str):GI->Prop
 | .fn n f=>Fn X.prog X.w X.K X.mg X.base k x n f
 | .con d=>GC X.K X.mg x d
 | .blt=>X.mg x=Y
 | .tab l=>sA X.w X.K X.mg x l
 | .thr f n fy C fl=>FnY X.prog X.w X.K X.mg X.base k f n fy C fl
 | .cls C b=>ClsOk X.K X.mg x C b
 | .hnd C=>xT X.K X.mg x C
 | .rse C fl=>2<=k/\xQ X.prog X.w X.K X.mg X.base x C fl
 | .fld C fl=>qi X.K C fl
structure NX(X:Cx):Prop where
 xe:X.xe=λ_ _=>False
 hs:X.stack=X.env::X.outer
 hfm:X.env.frame=U X.env.locals
 hex:X.ex=[]
structure fc(k:Nat)(c:CI)(X:Cx):Prop where
 N:X.N=c.N
 nd:c.N.Nodup
 sc:X.env.scope=c.sc
 fk:c.sc.kind=.function
 fn:c.all=true->∀ x,X.fn x=true
 calm:X.calm=true
 room:Room k X.A
 xe:PassesOwn (model X.prog X.w) X.A X.env X.xe
 xf:c.nx=true->NX X
 gs:∀ p∈c.gs,GOk X k p.1 p.2
noncomputable def eE:ME:=λ_ _=>Y
noncomputable def qw:MT:=λ_ _=>Y
noncomputable def dG:MS:=λ_ _=>Y
noncomputable def la:MA:=λ_ _=>Y
noncomputable def Gg:MG:=λ_ _ _=>Y
section
variable{X:Cx}{k:Nat}{c:CI}{e:Expr}{pos:Pos}
theorem aR:DE X e eE:=λ_ _ _ _ _ _ ⟨_,_,_,_,_,_,_,h,_⟩=>by cases h
theorem lz:DT X e qw:=λ_ _ _ _ _ _ ⟨_,_,_,_,_,_,_,h,_⟩=>by cases h
theorem dO{s:Stmt}:DS X s dG:=λ_ _ _ _ _ _ ⟨_,_,_,_,_,_,h,_⟩=>by cases h
theorem pV{s:Stmt}:DS X s (au eE g):=by
 rw[show au eE g=dG from by rw[dH];rfl]
 exact dO
theorem Qh{s:List Stmt}:vc X s dG:=λ_ _ _ _ _ _ ⟨_,_,_,_,_,_,h,_⟩=>by cases h
theorem da_no:DA X es la:=λ_ _ _ _ _ _ _ ⟨_,_,_,_,_,_,_,h,_⟩=>by cases h
theorem pZ:DI X tg e la:=λ_ _ _ _ _ _ ⟨_,_,_,_,_,_,_,h,_⟩=>by cases h
theorem sk:DG X e Gg:=λ_ _ _ _ _ _ _ _ _ ⟨_,_,_,_,_,_,_,_,_,h,_⟩=>by cases h
noncomputable def iR(x:Str):List Str->Option Nat
 | []=>Y
 | y::r=>if x==y then U 0 else(iR x r).map (· + 1)
theorem bn:∀ {l:List Str} {i:Nat},iR x l=U i->l[i]?=U x
 | y::r,i,h=>by
  unfold iR at h
  split at h
  ·rename_i e;cases h;simp at e;simp[e]
  ·cases q:iR x r with
   | none=>rw[q] at h;cases h
   | some j=>rw[q] at h;cases h;simpa using bn q
noncomputable def dm(x:Str):Bool:=!(x==("__debug__":Str))&&!(x==("__classdict__":Str))&&!(x==("__name__":Str))
theorem aZ(h:dm x=true):(x==("__debug__":Str))=false:=by
 unfold dm at h;rw[Rg,Rg] at h;simpa only[Bool.not_eq_true'] using h.1.1
theorem vQ(h:dm x=true):(x==("__classdict__":Str))=false:=by
 unfold dm at h;rw[Rg,Rg] at h;simpa only[Bool.not_eq_true'] using h.1.2
theorem cN(h:dm x=true):x≠"__name__":=by
 unfold dm at h;rw[Rg,Rg] at h
 have:=h.2
 rw[Bool.not_eq_true'] at this
 intro z;rw[z] at this;simp at this
noncomputable def Gf(c:CI)(x:Str):Option GI:=match c.sc.names.lookup x with | some .globalImplicit=>if dm x then c.gs.lookup x else Y | _=>Y
theorem dY{g:GI}(C:fc k c X)(h:Gf c x=U g):Gl X x/\dm x=true/\GOk X k x g:=by
 unfold Gf at h
 split at h
 ·rename_i e
  split at h
  ·rename_i o
   refine⟨?_,o,C.gs _ (Sr h)⟩
   show X.env.scope.names.lookup x=_
   rw[C.sc,e]
  ·cases h
 ·cases h
noncomputable def zj(c:CI)(x:Str):ME:=match c.sc.names.lookup x with
 | some .globalImplicit=>match Gf c x with | some (.con d)=>mC d | _=>eE
 | some .local=>match iR x c.N with | some i=>if dm x then ae i else eE | none=>eE
 | some .cell=>match iR x c.N with | some i=>if dm x then ae i else eE | none=>eE
 | some .free=>match iR x c.N with | some i=>if dm x then ae i else eE | none=>eE
 | _=>eE
theorem ko(C:fc k c X)(hv:QR c.sc x):DE X (.Name x pos) (match iR x c.N with | some i=>if dm x then ae i else eE | none=>eE):=by
 split
 ·rename_i i e
  split
  ·rename_i o
   exact aM Ag <| M.Hv (by rw[C.N];exact bn e) (by rw[C.sc];exact hv) (aZ o) (vQ o)
  ·exact aR
 ·exact aR
theorem Co(C:fc k c X)(x:Str):DE X (.Name x pos) (zj c x):=by
 unfold zj
 split
 ·split
  ·rename_i d e
   obtain⟨g,o,G⟩:=dY C e
   exact aM pq <| M.Lb G g (aZ o)
  ·exact aR
 ·rename_i e;exact ko C (.inl e)
 ·rename_i e;exact ko C (.inr (.inl e))
 ·rename_i e;exact ko C (.inr (.inr e))
 ·exact aR
noncomputable def AR:Const->ME
 | .int i=>mC (.int i)
 | .bool b=>mC (.bl b)
 | .none=>mC .non
 | .str x=>mC (.str x)
 | _=>eE
theorem zm(v:Const):DE X (.Constant v j pos) (AR v):=by
 cases v<;>first | exact aM pq <| M.Qx | exact aM pq <| M.de_bl | exact aM pq <| M.Qt | exact aM pq <| M.Qq | exact aR
noncomputable def GN(z y:Bool)(op:Operator)(a b:ME):ME:=match op with
 | .Add=>if y then aB aW a b else if z then aB ft a b else aB bu a b
 | .Sub=>aB Kj a b
 | .Mult=>aB dA a b
 | .Mod=>aB iw a b
 | .FloorDiv=>aB Ci a b
 | .Pow=>aB qB a b
 | _=>eE
theorem GM{mb:ME}(ha:DE X a ma)(hb:DE X b mb):DE X (.BinOp a op b pos) (GN z y op ma mb):=by
 cases op<;>first | exact aR | skip
 ·cases y
  ·cases z
   ·exact aM fW <| M.nr zS ha hb
   ·exact aM fW <| M.nr zT ha hb
  ·exact aM fW <| M.nr Jy ha hb
 ·exact aM fW <| M.nr Oi ha hb
 ·exact aM fW <| M.nr Jx ha hb
 ·exact aM fW <| M.nr Om ha hb
 ·exact aM fW <| M.nr Oj ha hb
 ·exact aM fW <| M.nr On ha hb
noncomputable def evUn(op:UnaryOp)(a:ME):ME:=match op with
 | .Not=>fM a
 | .USub=>qm Gr a
 | _=>eE
theorem Kq(ha:DE X a ma):DE X (.UnaryOp op a pos) (evUn op ma):=by
 cases op<;>first | exact aR | skip
 ·exact aM wp <| M.KW ha
 ·exact aM EM <| M.de_un Ir ha
noncomputable def QF:CmpOp->Option (aa->D->D->Option D)
 | .Eq=>U nj
 | .NotEq=>U ux
 | .Lt=>U fLt
 | .LtE=>U fLe
 | .Gt=>U fGt
 | .GtE=>U fGe
 | .In=>U fIn
 | .NotIn=>U Gq
 | .Is=>U PX
 | .IsNot=>U iz
theorem AZ{f:aa->D->D->Option D}(r:Room k X.A)(h:QF op=U f):OpR X (compareOp op) (iQ X.K f):=by
 cases op<;>cases h
 ·exact op_Eq r.units
 ·exact op_Ne r.units
 ·exact op_Lt
 ·exact op_Le
 ·exact op_Gt
 ·exact op_Ge
 ·exact op_Is
 ·exact ED
 ·exact op_In r.units
 ·exact EC r.units
noncomputable def nw(z:Bool)(op:CmpOp):Option (aa->D->D->Option D):=if z then(match op with | .NotIn=>U el | op=>QF op) else QF op
theorem hX{f:aa->D->D->Option D}(r:Room k X.A)(h:nw z op=U f):OpR X (compareOp op) (iQ X.K f):=by
 have hu:X.A.units+1<cLine:=by have:=r.units;omega
 unfold nw at h
 split at h
 ·split at h
  ·cases h;exact BD hu
  ·exact AZ r h
 ·exact AZ r h
noncomputable def dP:Expr->Bool
 | .Set _ _ _=>false
 | _=>true
theorem gh(h:dP e=true):behindInMarks op e=false:=by cases e<;>first | rfl | cases h
theorem ba(h:dP e=true)(x:Value):foldedSetIterable e X.env x=pure x:=by cases e<;>first | rfl | cases h
noncomputable def GL(c:CI)(E:CI->Expr->ME)(a:Expr)(ops:List CmpOp)(bs:List Expr):ME:=match ops,bs with
 | [op],[b]=>if dP b then(match nw (c.mt.contains 990000) op with | some f=>aB f (E c a) (E c b) | none=>eE) else eE
 | [op,op'],[b,d]=>if dP d then(match nw (c.mt.contains 990000) op,nw (c.mt.contains 990000) op' with | some f,U g=>bG f g (E c a) (E c b) (E c d) | _,_=>eE) else eE
 | _,_=>eE
noncomputable def zn(c:CI)(E:CI->Expr->ME)(a:Expr)(ops:List CmpOp)(bs:List Expr):MT:=match ops,bs with
 | [op],[b]=>if dP b then(match nw (c.mt.contains 990000) op with | some f=>aL (aB f (E c a) (E c b)) | none=>qw) else qw
 | [op,op'],[b,d]=>if dP d then(match nw (c.mt.contains 990000) op,nw (c.mt.contains 990000) op' with | some f,U g=>aL (bG f g (E c a) (E c b) (E c d)) | _,_=>qw) else qw
 | _,_=>qw
section
variable{E:CI->Expr->ME}{T:CI->Expr->MT}
theorem GJ(C:fc k c X)(hE:∀ e,DE X e (E c e)){bs:List Expr}:DE X (.Compare a ops bs pos) (GL c E a ops bs):=by
 unfold GL
 split
 ·split
  ·rename_i hm
   split
   ·rename_i f h;exact aM fW <| M.Qz (hX C.room h) (hE _) (hE _) (gh hm)
   ·exact aR
  ·exact aR
 ·split
  ·rename_i hm
   split
   ·rename_i f g h1 h2;exact aM lW <| M.HI (hX C.room h1) (hX C.room h2) (hE _) (hE _) (hE _) (gh hm)
   ·exact aR
  ·exact aR
 ·exact aR
theorem Ct(C:fc k c X)(hE:∀ e,DE X e (E c e)){bs:List Expr}:DT X (.Compare a ops bs pos) (zn c E a ops bs):=by
 unfold zn
 split
 ·split
  ·rename_i hm
   split
   ·rename_i f h;exact xJ yH <| M.Qg (hX C.room h) (hE _) (hE _) (gh hm)
   ·exact lz
  ·exact lz
 ·split
  ·rename_i hm
   split
   ·rename_i f g h1 h2;exact xJ yI <| M.GZ (hX C.room h1) (hX C.room h2) (hE _) (hE _) (hE _) (gh hm)
   ·exact lz
  ·exact lz
 ·exact lz
noncomputable def xj(f:ME->ME->ME):List ME->ME
 | []=>eE
 | [m]=>m
 | m::r=>f m (xj f r)
noncomputable def pK(f:MT->MT->MT):List MT->MT
 | []=>qw
 | [m]=>m
 | m::r=>f m (pK f r)
theorem se{E:Expr->ME}(hE:∀ e,DE X e (E e)):∀ vs:List Expr,DE X (.BoolOp .And vs pos) (xj gc (vs.map E))
 | []=>aR
 | [e]=>HA (hE e)
 | e::e'::r=>aM Au <| M.Li (hE e) (se hE (e'::r))
theorem xi{E:Expr->ME}(hE:∀ e,DE X e (E e)):∀ vs:List Expr,DE X (.BoolOp .Or vs pos) (xj vb (vs.map E))
 | []=>aR
 | [e]=>HA (hE e)
 | e::e'::r=>aM EO <| M.Qs (hE e) (xi hE (e'::r))
theorem Ce{E:Expr->MT}(hE:∀ e,DT X e (E e)):∀ vs:List Expr,DT X (.BoolOp .And vs pos) (pK cR (vs.map E))
 | []=>lz
 | [e]=>KA (AU (hE e))
 | e::e'::r=>KA (Bc pz <| M.GX (hE e) (foldT_andW hE (e'::r) (by simp)))
where foldT_andW {E:Expr->MT} (hE:∀ e,DT X e (E e)):∀ vs:List Expr,vs≠[]->DW X (.BoolOp .And vs pos) (pK cR (vs.map E))
 | [],h=>absurd rfl h
 | [e],_=>AU (hE e)
 | e::e'::r,_=>Bc pz <| M.GX (hE e) (foldT_andW hE (e'::r) (by simp))
theorem Gi{E:Expr->MT}(hE:∀ e,DT X e (E e)):∀ vs:List Expr,DT X (.BoolOp .Or vs pos) (pK fq (vs.map E))
 | []=>lz
 | [e]=>KA (GW (hE e))
 | e::e'::r=>KA (Bc tW <| M.My (hE e) (foldT_orW hE (e'::r) (by simp)))
where foldT_orW {E:Expr->MT} (hE:∀ e,DT X e (E e)):∀ vs:List Expr,vs≠[]->DW X (.BoolOp .Or vs pos) (pK fq (vs.map E))
 | [],h=>absurd rfl h
 | [e],_=>GW (hE e)
 | e::e'::r,_=>Bc tW <| M.My (hE e) (foldT_orW hE (e'::r) (by simp))
noncomputable def bb:Expr->Bool
 | .Starred _ _=>false
 | _=>true
theorem aA{es:List Expr}(h:bb e=true):starEach (e::es) X.env=(false,eval e X.env)::starEach es X.env:=by cases e<;>first | rfl | cases h
theorem eI:∀ {es:List Expr},es.all bb=true->(backTo pos (starEach es X.env)).any (·.1)=false
 | [],_=>rfl
 | e::es,h=>by
  rw[Sz,Rg] at h
  rw[aA h.1]
  show(false||(backTo pos (starEach es X.env)).any (·.1))=false
  rw[eI h.2];rfl
noncomputable def oh(E:Expr->ME):List Expr->MA
 | []=>af
 | e::r=>if bb e then ac (E e) (oh E r) else la
theorem cq{E:Expr->ME}(hE:∀ e,DE X e (E e)):∀ es:List Expr,DA X es (oh E es)
 | []=>MH tZ <| M.QC
 | e::r=>by
  unfold oh
  split
  ·rename_i h;exact MH wF <| M.Ll (hE e) (cq hE r) (aA h)
  ·exact da_no
noncomputable def Cn(E:Expr->ME):Option Expr->MO
 | none=>aT
 | some e=>bq (E e)
theorem my{E:Expr->ME}(hE:∀ e,DE X e (E e)):∀ o:Option Expr,DO X o (Cn E o)
 | none=>MC rB <| M.KL
 | some e=>MC wn <| M.KJ (hE e)
noncomputable def vn(c:CI):Expr->Option (List (aJ×D))
 | .Name x _=>match Gf c x with | some (.tab l)=>U l | _=>Y
 | _=>Y
theorem yc{l:List (aJ×D)}(C:fc k c X)(h:vn c a=U l):∃ x p,a=.Name x p/\Gl X x/\dm x=true/\sA X.w X.K X.mg x l:=by
 unfold vn at h
 split at h
 ·split at h
  ·rename_i e
   cases h
   obtain⟨g,o,G⟩:=dY C e
   exact⟨_,_,rfl,g,o,G⟩
  ·cases h
 ·cases h
noncomputable def Mv(c:CI)(E:Expr->ME)(a i:Expr):ME:=match i with
 | .Slice lo hi st _=>match st with | none=>if c.mt.contains 992000 then aN (E a) (Cn E lo) (Cn E hi) else bA (E a) (Cn E lo) (Cn E hi) | some st=>(match lo,hi with | none,Y=>if c.mt.contains 994000 then eO (E a) (Cn E (U st)) else gx (E a) (Cn E (U st)) | _,_=>eE)
 | i=>match vn c a with | some l=>bV l (E i) | none=>aB aX (E a) (E i)
theorem Cm(C:fc k c X){E:Expr->ME}(hE:∀ e,DE X e (E e))(a i:Expr)(hs:oq i:=by intro _ _;rfl):DE X (.Subscript a i pos) (match vn c a with | some l=>bV l (E i) | none=>aB aX (E a) (E i)):=by
 cases ht:vn c a with
 | none=>
  exact aM fW <| M.Qv (by have:=C.room.units;omega) (hE a) (hE _) hs
 | some l=>
  obtain⟨x,p,rfl,g,o,G⟩:=yc C ht
  exact aM rh (M.Hx G g (aZ o) (hE _) hs)
theorem GA(C:fc k c X){E:Expr->ME}(hE:∀ e,DE X e (E e))(a i:Expr):DE X (.Subscript a i pos) (Mv c E a i):=by
 cases i with
 | Slice lo hi st p=>
  cases st with
  | none=>
   show DE X _ (if c.mt.contains 992000 then aN (E a) (Cn E lo) (Cn E hi) else bA (E a) (Cn E lo) (Cn E hi))
   split
   ·exact aM pd <| M.CG (hE a) (my hE lo) (my hE hi)
   ·exact aM rm <| M.xD (hE a) (my hE lo) (my hE hi)
  | some st=>
   cases lo with
   | none=>
    cases hi with
    | none=>
     show DE X _ (if c.mt.contains 994000 then eO (E a) (Cn E (U st)) else gx (E a) (Cn E (U st)))
     split
     ·exact aM wm (M.KU (hE a) (my hE (U st)))
     ·exact aM Aj (M.Qr (hE a) (my hE (U st)))
    | some _=>exact aR
   | some _=>exact aR
 | _=>exact Cm C hE a _
noncomputable def fE:Expr->Option Str
 | .Name x _=>U x
 | _=>Y
theorem cg{x:Str}(h:fE e=U x):∃ p,e=.Name x p:=by cases e<;>cases h;exact⟨_,rfl⟩
noncomputable def iE:Expr->Option (Str×List Expr)
 | .Call f es [] _=>(fE f).map λx=>(x,es)
 | _=>Y
theorem dB{x:Str}{es:List Expr}(h:iE e=U (x,es)):∃ p p2,e=.Call (.Name x p) es [] p2:=by
 cases e with
 | Call f es' ks p2=>
  cases ks with
  | nil=>
   obtain⟨y,h1,h2⟩:=Tt.mp h
   cases h2
   obtain⟨p,rfl⟩:=cg h1
   exact⟨p,p2,rfl⟩
  | cons _ _=>cases h
 | _=>cases h
noncomputable def hJ(c:CI)(x:Str):Bool:=match Gf c x with | some .blt=>true | _=>false
theorem fN(C:fc k c X)(h:hJ c x=true):X.mg x=Y/\Gl X x/\dm x=true:=by
 unfold hJ at h
 split at h
 ·rename_i e;obtain⟨a,b,d⟩:=dY C e;exact⟨d,a,b⟩
 ·cases h
noncomputable def yg(c:CI)(es:List Expr):Option Expr:=match es with
 | [e1]=>match iE e1 with
  | some (y,[a])=>if y=="set"&&hJ c y&&bb a then U a else Y
  | _=>Y
 | _=>Y
theorem vD{a:Expr}(h:yg c es=U a):∃ p p2,es=[.Call (.Name "set" p) [a] [] p2]/\hJ c "set" = true/\bb a=true:=by
 unfold yg at h
 split at h
 ·split at h
  ·rename_i hc
   split at h
   ·rename_i hb
    cases h
    rw[Rg,Rg] at hb
    obtain⟨p,p2,rfl⟩:=dB hc
    have z:=hb.1.1
    rw[RC] at z;subst z
    exact⟨p,p2,rfl,hb.1.2,hb.2⟩
   ·cases h
  ·cases h
 ·cases h
noncomputable def oI(c:CI)(es:List Expr):Option Expr:=match es with
 | [e1]=>match iE e1 with
  | some (y,[a])=>if y=="range"&&hJ c y&&bb a then U a else Y
  | _=>Y
 | _=>Y
theorem qt{a:Expr}(h:oI c es=U a):∃ p p2,es=[.Call (.Name "range" p) [a] [] p2]/\hJ c "range" = true/\bb a=true:=by
 unfold oI at h
 split at h
 ·split at h
  ·rename_i hc
   split at h
   ·rename_i hb
    cases h
    rw[Rg,Rg] at hb
    obtain⟨p,p2,rfl⟩:=dB hc
    have z:=hb.1.1
    rw[RC] at z;subst z
    exact⟨p,p2,rfl,hb.1.2,hb.2⟩
   ·cases h
  ·cases h
 ·cases h
noncomputable def QJ(z y n g h:Bool)(x:Str):Option (List D->aa->Option (D×aa)):=
 if x=="len" then U (az fm) else if x=="int" then U (az xp) else if x=="max" then U (az pN) else if x=="min" then U (az xn)
 else if x=="list" then U (if g then az iy else if h then mq else az (iN .lst)) else if x=="tuple" then U (az (iN .tup)) else if x=="all" then U (az zh) else if x=="any" then U (az Ko) else if x=="str" then U (az gJ) else Y
set_option maxHeartbeats 800000 in
theorem Ls{f:List D->aa->Option (D×aa)}{es:List Expr}(C:fc k c X)(h:QJ zz yy nn gg hh x=U f)(hm:X.mg x=Y)(hg:Gl X x)(o:dm x=true)(hs:(e::es).all bb=true)(ha:DA X (e::es) ms) :
  DE X (.Call (.Name x p) (e::es) [] pos) (aO f ms):=by
 rw[Sz,Rg] at hs
 have q1:=aA (X:=X) (es:=es) hs.1
 have q2:=eI (X:=X) (pos:=pos) hs.2
 unfold QJ at h
 split at h
 ·rename_i z;cases h;rw[RC] at z;subst z;exact aM cQ <| M.jw HV hm boot_len ha hg (cN o) (aZ o) q1 q2
 split at h
 ·rename_i z;cases h;rw[RC] at z;subst z;exact aM cQ <| M.gk HW hm boot_int ha hg (cN o) (aZ o) q1 q2
 split at h
 ·rename_i z;cases h;rw[RC] at z;subst z;exact aM cQ <| M.jw (CZ C.calm) hm boot_max ha hg (cN o) (aZ o) q1 q2
 split at h
 ·rename_i z;cases h;rw[RC] at z;subst z;exact aM cQ <| M.jw (CY C.calm) hm boot_min ha hg (cN o) (aZ o) q1 q2
 split at h
 ·rename_i z;cases h;rw[RC] at z;subst z;cases gg;cases hh;exact aM cQ <| M.gk Db hm Vm ha hg (cN o) (aZ o) q1 q2;exact aM cQ <| M.gk zF hm Vm ha hg (cN o) (aZ o) q1 q2;exact aM cQ <| M.gk (zE C.calm) hm Vm ha hg (cN o) (aZ o) q1 q2
 split at h
 ·rename_i z;cases h;rw[RC] at z;subst z;exact aM cQ <| M.gk zD hm boot_tuple ha hg (cN o) (aZ o) q1 q2
 split at h
 ·rename_i z;cases h;rw[RC] at z;subst z;exact aM cQ <| M.jw (HY C.calm) hm boot_all ha hg (cN o) (aZ o) q1 q2
 split at h
 ·rename_i z;cases h;rw[RC] at z;subst z;exact aM cQ <| M.jw (HX C.calm) hm boot_any ha hg (cN o) (aZ o) q1 q2
 split at h
 ·rename_i z;cases h;rw[RC] at z;subst z;exact aM cQ <| M.gk HU hm boot_str ha hg (cN o) (aZ o) q1 q2
 cases h
noncomputable def MW(x:Str):Option String:=if x=="int" then U "int" else if x=="bool" then U "bool" else if x=="str" then U "str" else if x=="tuple" then U "tuple" else if x=="list" then U "list" else if x=="dict" then U "dict" else Y
theorem zN{T:String}(h:MW x=U T):bootBuiltins x=U (.type T)/\(T = "int"\/T = "bool"\/T = "str"\/T = "tuple"\/T = "list"\/T = "dict"):=by
 unfold MW at h
 split at h
 ·rename_i z;cases h;rw[RC] at z;subst z;exact⟨boot_int,by simp⟩
 split at h
 ·rename_i z;cases h;rw[RC] at z;subst z;exact⟨boot_bool,by simp⟩
 split at h
 ·rename_i z;cases h;rw[RC] at z;subst z;exact⟨boot_str,by simp⟩
 split at h
 ·rename_i z;cases h;rw[RC] at z;subst z;exact⟨boot_tuple,by simp⟩
 split at h
 ·rename_i z;cases h;rw[RC] at z;subst z;exact⟨Vm,by simp⟩
 split at h
 ·rename_i z;cases h;rw[RC] at z;subst z;exact⟨boot_dict,by simp⟩
 cases h
noncomputable def LH:Expr->Option (List Expr)
 | .Tuple es _ _=>U es
 | _=>Y
theorem ya{es:List Expr}(h:LH e=U es):∃ j p,e=.Tuple es j p:=by cases e<;>cases h;exact⟨_,_,rfl⟩
noncomputable def clsC(c:CI):List Expr->Option Addr
 | []=>Y
 | e::_=>match fE e with | some x=>(match Gf c x with | some (.cls C _)=>U C | _=>Y) | none=>Y
noncomputable def Lp(c:CI)(C:Addr):List Expr->Option (List Bool)
 | []=>U []
 | e::r=>match fE e with | some x=>(match Gf c x with | some (.cls C' b)=>if C'=C then(Lp c C r).map (b::·) else Y | _=>Y) | none=>Y
theorem Ba(C:fc k c X):∀ {es:List Expr} {bs:List Bool},Lp c A es=U bs->ClsL X A es bs
 | [],bs,h=>by cases h;exact .nil
 | e::r,bs,h=>by
  unfold Lp at h
  split at h
  ·rename_i x hx
   obtain⟨p,rfl⟩:=cg hx
   split at h
   ·rename_i A' b hg
    obtain⟨g,o,G⟩:=dY C hg
    split at h
    ·rename_i e;subst e
     obtain⟨bs',h1,rfl⟩:=Tt.mp h
     exact .cons G g (aZ o) (Ba C h1)
    ·cases h
   ·cases h
  ·cases h
noncomputable def Mw(c:CI)(E:Expr->ME):List Expr->ME
 | [a,t]=>match fE t with
  | some y=>match Gf c y,MW y with | some .blt,U T=>if bb a then cP T (E a) else eE | some (.cls C b),_=>if bb a then ub C b (E a) else eE | _,_=>eE
  | none=>match LH t with
   | some es=>match clsC c es with
    | some C=>match Lp c C es with | some bs=>if bb a&&decide (es.length<=20) then ub C (bs.any id) (E a) else eE | none=>eE
    | none=>eE
   | none=>eE
 | _=>eE
noncomputable def uI(c:CI)(E:Expr->ME)(x:Str)(es:List Expr):ME:=match Gf c x with
 | some (.fn n f)=>match es with
  | []=>if n==0 then ak 0 f af else eE
  | e::r=>if (e::r).all bb then ak n f (oh E (e::r)) else eE
 | some .blt=>if x=="isinstance" then Mw c E es else match (if x=="len" then yg c es else Y) with
  | some a=>eE
  | none=>match (if x=="list" then oI c es else Y) with
  | some a=>bR (oh E [a])
  | none=>match QJ (c.mt.contains 400000) (c.mt.contains 950000) (c.mt.contains 960000) (c.mt.contains 993000) (c.mt.contains 995000) x,es with
   | some f,e::r=>if (e::r).all bb then aO f (oh E (e::r)) else eE
   | _,_=>eE
 | _=>eE
theorem Cu(C:fc k c X){E:Expr->ME}(hE:∀ e,DE X e (E e)):DE X (.Call (.Name x p) es [] pos) (uI c E x es):=by
 unfold uI
 split
 ·rename_i n f hg
  obtain⟨g,o,G⟩:=dY C hg
  split
  ·split
   ·rename_i hn
    have:n=0:=by simpa using hn
    subst this
    exact aM yN <| M.HJ G C.room g (aZ o)
   ·exact aR
  ·split
   ·rename_i hs
    have hs':=hs
    rw[Sz,Rg] at hs
    exact aM lX <| M.Lh G C.room (cq hE _) g (aZ o) (aA hs.1) (eI hs.2)
   ·exact aR
 ·rename_i hg
  obtain⟨g,o,G⟩:=dY C hg
  split
  ·rename_i z
   rw[RC] at z;subst z
   unfold Mw
   split
   ·split
    ·rename_i y hy
     obtain⟨p2,rfl⟩:=cg hy
     split
     ·rename_i T h1 h2
      obtain⟨g',o',G'⟩:=dY C h1
      split
      ·rename_i hs
       exact aM Ao <| M.CJ G G' (zN h2).1 (hE _) (zN h2).2 g g' (cN o') (aZ o') (aA hs) rfl rfl
      ·exact aR
     ·rename_i A b _ h1
      obtain⟨g',o',G'⟩:=dY C h1
      split
      ·rename_i hs
       exact M.Qw G G' g g' (aZ o') (hE _) (aA hs)
      ·exact aR
     ·exact aR
    ·split
     ·rename_i es ht
      obtain⟨j,p2,rfl⟩:=ya ht
      split
      ·rename_i A hA
       split
       ·rename_i bs hb
        split
        ·rename_i hs
         rw[Rg,Sq] at hs
         exact M.La G (Ba C hb) (λz=>by rw[z] at hA;cases hA) hs.2 g (hE _) (aA hs.1)
        ·exact aR
       ·exact aR
      ·exact aR
     ·exact aR
   ·exact aR
  ·split
   ·rename_i a ha
    split at ha
    ·rename_i z
     rw[RC] at z;subst z
     obtain⟨p3,p4,rfl,hb,hs⟩:=vD ha
     obtain⟨m2,g2,o2⟩:=fN C hb
     exact aR
    ·cases ha
   ·split
    ·rename_i a ha
     split at ha
     ·rename_i z
      rw[RC] at z;subst z
      obtain⟨p3,p4,rfl,hb,hs⟩:=qt ha
      obtain⟨m2,g2,o2⟩:=fN C hb
      exact aM rE (M.HC C.calm G m2 g g2 (cq hE _) (aA hs))
     ·cases ha
    ·split
     ·rename_i _ f e r hf
      split
      ·rename_i hs
       exact Ls C (by assumption) G g o hs (cq hE _)
      ·exact aR
     ·exact aR
 ·exact aR
noncomputable def zG:Expr->Option (Expr×Str×Pos)
 | .Attribute o nm ap=>U (o,nm,ap)
 | _=>Y
theorem xN{o:Expr}{nm:Str}{ap:Pos}(h:zG e=U (o,nm,ap)):e=.Attribute o nm ap:=by cases e<;>cases h;rfl
noncomputable def EK(x:Str):Option MF:=if x=="append" then U lu else if x=="count" then U uz else Y
theorem EJ{f:MF}(C:fc k c X)(h:EK x=U f):∃ id,Slot "list" x id/\typeOf (.builtin id)=pure (.type "method_descriptor")/\MtR X id (LU X.K f):=by
 unfold EK at h
 split at h
 ·rename_i z;cases h;rw[RC] at z;subst z;exact⟨_,Wp,F.type_list_append,BG⟩
 split at h
 ·rename_i z;cases h;rw[RC] at z;subst z;exact⟨_,F.slot_list_count,F.type_list_count,EI C.room.units⟩
 cases h
noncomputable def yw(x:Str):Option MF:=if x=="get" then U iO else Y
theorem BH{f:MF}(C:fc k c X)(h:yw x=U f):∃ id,Slot "dict" x id/\typeOf (.builtin id)=pure (.type "method_descriptor")/\MtR X id (LU X.K f):=by
 unfold yw at h
 split at h
 ·rename_i z;cases h;rw[RC] at z;subst z;exact⟨_,TR,F.type_dict_get,JF (by have:=C.room.units;omega)⟩
 cases h
theorem vw:∀ {es:List Expr},es.all bb=true->(backTo pos (starEach es X.env)).all (λx=>!x.1)=true
 | [],_=>rfl
 | e::es,h=>by
  rw[Sz,Rg] at h
  rw[aA h.1]
  show(true&&(backTo pos (starEach es X.env)).all (λx=>!x.1))=true
  rw[vw h.2];rfl
noncomputable def NN(o:Expr):Bool:=match o with | .Call (.Name id _) [] [] _=>id != ("super":Str) | .Call _ _ _ _=>false | _=>true
noncomputable def uD(z:Bool)(E:Expr->ME)(o:Expr)(nm:Str)(ap cp:Pos)(es:List Expr):ME:=match NN o,es with
 | true,e::r=>if (e::r).all bb&&(decide ((e::r).length<30)&&ap.endLine==cp.line) then
   (if nm=="count" then eE else if nm=="join" then bL (E o) (oh E (e::r)) else if nm=="split" then cb (E o) (oh E (e::r)) else match yw nm with | some f=>bD f (E o) (oh E (e::r)) | none=>match EK nm with | some f=>eR f (E o) (oh E (e::r)) | none=>eE) else eE
 | true,[]=>if nm=="upper"&&ap.endLine==cp.line then cE (E o) else eE
 | _,_=>eE
theorem Cp(C:fc k c X){E:Expr->ME}(hE:∀ e,DE X e (E e)):DE X (.Call (.Attribute o nm ap) es [] pos) (uD z E o nm ap pos es):=by
 unfold uD
 split
 ·rename_i e r hx
  split
  ·rename_i h
   rw[Rg,Rg] at h
   have hs:=h.1
   rw[Sz,Rg] at hs
   have few:((backTo pos (starEach (e::r) X.env)).all (λx=>!x.1)&&(backToKw pos (keywordEach [] X.env)).all (λx=>x.1.isSome)&&decide ((e::r).length+([]:List Keyword).length+(if ([]:List Keyword).isEmpty then 0 else 1)<30))=true:=by
    rw[vw h.1]
    show(true&&decide ((e::r).length+0+0<30))=true
    exact h.2.1
   split
   ·rename_i hc
    rw[RC] at hc;subst hc
    exact aR
   split
   ·rename_i hc
    rw[RC] at hc;subst hc
    exact aM rA (M.Hz (hE _) (cq hE _) (hZ hx) few h.2.2 (aA hs.1) (eI hs.2))
   split
   ·rename_i hc
    rw[RC] at hc;subst hc
    exact aM rj (M.Hy (hE _) (cq hE _) (hZ hx) few h.2.2 (aA hs.1) (eI hs.2))
   ·split
    ·rename_i f hf
     obtain⟨id,h1,h2,h3⟩:=BH C hf
     exact aM rC (M.HB h1 h2 h3 (hE _) (cq hE _) (hZ hx) few h.2.2 (aA hs.1) (eI hs.2))
    ·split
     ·rename_i f hf
      obtain⟨id,h1,h2,h3⟩:=EJ C hf
      exact aM wu (M.KY h1 h2 h3 (hE _) (cq hE _) (hZ hx) few h.2.2 (aA hs.1) (eI hs.2))
     ·exact aR
  ·exact aR
 ·rename_i hx
  split
  ·rename_i h
   rw[Rg,RC] at h
   obtain⟨h1,h2⟩:=h
   subst h1
   exact aM rg (M.Hw (hE _) (hZ hx) h2)
  ·exact aR
 ·exact aR
noncomputable def vR:Expr->Bool
 | .Slice _ _ _ _=>false
 | _=>true
noncomputable def Cr(G:Expr->MG):List Expr->ou
 | []=>cm
 | e::r=>aU (if bb e then G e else Gg) (Cr G r)
noncomputable def nG(c:CI)(x:Str):MG:=match c.sc.names.lookup x,iR x c.N with
 | some .local,U i=>ag i
 | some .cell,U i=>if c.all then ag i else Gg
 | _,_=>Gg
noncomputable def GF(c:CI)(E:Expr->ME):Expr->MG
 | .Name x _=>nG c x
 | .Subscript o i _=>if vR i then(if c.mt.contains 600000 then dN (E o) (E i) else cC (E o) (E i)) else Gg
 | _=>Gg
noncomputable def Qb(c:CI)(G1 G:Expr->MG)(es:List Expr):MG:=if es.all bb then bI es.length (Cr G es) else Gg
noncomputable def xr(c:CI)(E:Expr->ME):Expr->MG
 | .Tuple es _ _=>Qb c (GF c E) (λe=>match e with | .Tuple es _ _=>if es.all bb then bI es.length (Cr (GF c E) es) else Gg | e=>GF c E e) es
 | e=>GF c E e
theorem Ku(C:fc k c X)(x:Str):DG X (.Name x pos) (nG c x):=by
 unfold nG
 split
 ·rename_i h1 h2
  exact sr gi <| M.AY (by rw[C.N];exact C.nd) (by rw[C.N];exact bn h2) (by rw[C.sc];exact .inl h1) (.inr (by rw[C.sc];exact h1))
 ·rename_i h1 h2
  split
  ·rename_i ha
   exact sr gi <| M.AY (by rw[C.N];exact C.nd) (by rw[C.N];exact bn h2) (by rw[C.sc];exact .inr h1) (.inl (C.fn ha x))
  ·exact sk
 ·exact sk
theorem Kv(C:fc k c X){E:Expr->ME}(hE:∀ e,DE X e (E e))(e:Expr):DG X e (GF c E e):=by
 cases e with
 | Name x p=>exact Ku C x
 | Subscript o i p=>
  show DG X _ (if vR i then(if c.mt.contains 600000 then dN (E o) (E i) else cC (E o) (E i)) else Gg)
  split
  ·rename_i h
   split
   ·refine sr wZ (M.KP C.room.units (hE o) (hE i) ?_)
    cases i<;>first | (intro _;rfl) | cases h
   refine sr xa (M.Qm (hE o) (hE i) ?_)
   cases i<;>first | (intro _;rfl) | cases h
  ·exact sk
 | _=>exact sk
theorem mJ{es:List Expr}(h:bb e=true):assignEach (e::es) X.env=(false,assign e X.env)::assignEach es X.env:=by cases e<;>first | rfl | cases h
theorem lI:∀ {es:List Expr},es.all bb=true->(assignEach es X.env).length=es.length/\(assignEach es X.env).findIdx? (·.1)=Y
 | [],_=>⟨rfl,rfl⟩
 | e::es,h=>by
  rw[Sz,Rg] at h
  rw[mJ h.1]
  obtain⟨a,b⟩:=lI h.2
  exact⟨by simp[a],by simp[List.findIdx?_cons,b]⟩
theorem uF{G:Expr->MG}(hG:∀ e,DG X e (G e)):∀ es:List Expr,es.all bb=true->QZ X es (Cr G es)
 | [],_=>HR xg <| M.KO
 | e::r,h=>by
  rw[Sz,Rg] at h
  unfold Cr
  rw[Ru h.1]
  exact HR rY <| M.Hl (hG e) (uF hG r h.2) (by rw[mJ h.1];rfl)
theorem Kt(C:fc k c X){G:Expr->MG}(hG:∀ e,DG X e (G e))(es:List Expr)(j:Nat):DG X (.Tuple es j pos) (if es.all bb then bI es.length (Cr G es) else Gg):=by
 split
 ·rename_i h
  exact sr hV <| M.Hm C.calm (uF hG es h) (lI h).1 (lI h).2
 ·exact sk
theorem GE(C:fc k c X){G1 G:Expr->MG}(hG1:∀ e,DG X e (G1 e))(hG:∀ e,DG X e (G e))(es:List Expr)(j:Nat):DG X (.Tuple es j pos) (Qb c G1 G es):=by
 unfold Qb
 split
 ·rename_i h
  exact sr hV <| M.Hm C.calm (uF hG es h) (lI h).1 (lI h).2
 ·exact sk
theorem cI(C:fc k c X){E:Expr->ME}(hE:∀ e,DE X e (E e))(e:Expr):DG X e (xr c E e):=by
 have h1:=Kv C hE
 cases e with
 | Tuple es j p=>
  refine GE C h1 (λe=>?_) es j
  cases e with
  | Tuple es j p=>exact Kt C h1 es j
  | _=>exact h1 _
 | _=>exact h1 _
noncomputable def Ks(c:CI)(E:Expr->ME)(tg it:Expr):MA:=match iE it with
 | some (x,es)=>if x=="enumerate"&&hJ c x then(match tg,es with
   | .Tuple _ _ _,[a]=>if bb a then(if c.mt.contains 985000 then cz (oh E [a]) else eV (oh E [a])) else la
   | _,_=>la) else if x=="zip"&&hJ c x then(match tg,es with
   | .Tuple _ _ tp,[a,b]=>if bb a&&bb b then(gO (oh E [a,b])) else la
   | _,_=>la) else if x=="range"&&hJ c x then(match es with
   | [a]=>if bb a then aF (oh E [a]) else la
   | [a,b]=>if bb a&&bb b then bK (oh E [a,b]) else la
   | _=>la) else cO (E it)
 | none=>cO (E it)
theorem iC(C:fc k c X){E:Expr->ME}(hE:∀ e,DE X e (E e)):DI X tg it (Ks c E tg it):=by
 unfold Ks
 split
 ·rename_i x es he
  obtain⟨p,p2,rfl⟩:=dB he
  split
  ·rename_i hx
   rw[Rg] at hx
   obtain⟨m,g,o⟩:=fN C hx.2
   have z:=hx.1
   rw[RC] at z;subst z
   split
   ·split
    ·rename_i h
     split
     ·exact qc rH (M.Hk m (cq hE _) g (aA h))
     ·exact qc wC (M.KN m (cq hE _) g (aA h))
    ·exact pZ
   ·exact pZ
  split
  ·rename_i hx
   rw[Rg] at hx
   obtain⟨m,g,o⟩:=fN C hx.2
   have z:=hx.1
   rw[RC] at z;subst z
   split
   ·split
    ·rename_i h
     rw[Rg] at h
     exact qc Ae (M.Ql m (cq hE _) g (by rw[aA h.1,aA h.2];rfl) (aA h.2))
    ·exact pZ
   ·exact pZ
  split
  ·rename_i hx
   rw[Rg] at hx
   obtain⟨m,g,o⟩:=fN C hx.2
   have z:=hx.1
   rw[RC] at z;subst z
   split
   ·split
    ·rename_i h
     exact qc jY <| M.CD m (cq hE _) g (aA h)
    ·exact pZ
   ·split
    ·rename_i h
     rw[Rg] at h
     exact qc pf <| M.CC m (cq hE _) g (by rw[aA h.1,aA h.2];rfl) (aA h.2)
    ·exact pZ
   ·exact pZ
  ·exact qc nS <| M.zv (hE _)
 ·exact qc nS <| M.zv (hE _)
noncomputable def FZ(c:CI)(it:Expr):Bool:=match iE it with | some (x,_)=>(x=="enumerate"||x=="zip"||x=="range")&&hJ c x | none=>false
noncomputable def jb(scope sc:Scope):Scope:={ scope with names:=scope.names.map λx=>match x with | (n,k)=>if (k==NameKind.free&&sc.kind==.function&&sc.names.lookup n==U .cell)=true then(n,.cell) else(n,k) }
noncomputable def xL(scope:Scope):List Str:=(scope.names.filter λx=>x.2==.local&&!(x.1==(".0":Str))).map (·.1)++(scope.names.filter λx=>x.2==.free).map (·.1)
noncomputable def iG(c:CI)(scope:Scope):List (Option Nat):=(scope.names.filter λx=>x.2==.local&&!(x.1==(".0":Str))).map (λ_=>Y)++(scope.names.filter λx=>x.2==.free).map (λx=>iR x.1 c.N)
noncomputable def Dc(c:CI)(scope:Scope):Bool:=
 scope.kind==.function&&(scope.names.all λx=>x.2 != .cell)&&(scope.names.all λx=>x.2 != .local||scope.names.lookup x.1==U .local)
&&(scope.names.all λx=>x.2 != .free||c.sc.names.lookup x.1==U .cell||c.sc.names.lookup x.1==U .free)
&&qG c.N (xL scope) (λy=>c.sc.names.lookup y) (λy=>(jb scope c.sc).names.lookup y) (iG c scope) (xL scope)&&decide (xL scope).Nodup
noncomputable def dS(c:CI)(scope:Scope):CI:=⟨xL scope,jb scope c.sc,false,c.gs,c.mt,false⟩
theorem iH(C:fc k c X)(h:Dc c scope=true):BlockOk X (xL scope) scope (iG c scope)/\∀ A s H fp,fc k (dS c scope) (di X (xL scope) scope A s H fp):=by
 unfold Dc at h
 simp only[Rg,Sq,RC] at h
 obtain⟨⟨⟨⟨⟨h1,h2⟩,h3⟩,h4⟩,h5⟩,h6⟩:=h
 refine⟨blk h6 h1 h2 h3 ?_ ?_,λA s H fp=>⟨rfl,h6,?_,h1,(λz=>nomatch z),C.calm,C.room,Vq,(λz=>nomatch z),C.gs⟩⟩
 ·show(scope.names.all λx=>x.2 != .free||X.env.scope.names.lookup x.1==U .cell||X.env.scope.names.lookup x.1==U .free)=true
  rw[C.sc];exact h4
 ·show qG X.N (xL scope) (λy=>X.env.scope.names.lookup y) (λy=>(jb scope X.env.scope).names.lookup y) (iG c scope) (xL scope)=true
  rw[C.sc,C.N];exact h5
 ·show jb scope X.env.scope=_
  rw[C.sc];rfl
noncomputable def uB(T:Expr->MT):List Expr->MT
 | []=>aP
 | [e]=>T e
 | _=>qw
theorem dg{T:Expr->MT}(hT:∀ e,DT X e (T e)):∀ es:List Expr,sB X es (uB T es)
 | []=>QI wj <| M.GY
 | [e]=>Ky (hT e)
 | _::_::_=>λ_ _ _ _ _ _ ⟨_,_,_,_,_,_,_,h,_⟩=>by cases h
noncomputable def Kr(c:CI)(E:Expr->ME)(it:Expr):MA:=match iE it with
 | some (x,es)=>if x=="range"&&hJ c x then(match es with
   | [a]=>if bb a then aF (oh E [a]) else la
   | _=>la) else la
 | none=>cO (E it)
theorem uE(C:fc k c X){E:Expr->ME}(hE:∀ e,DE X e (E e)):LC X tg it (Kr c E it):=by
 have no:LC X tg it la:=λ_ _ _ _ _ _ h=>by obtain⟨_,_,_,_,_,_,_,h,_⟩:=h;cases h
 unfold Kr
 split
 ·rename_i x es he
  obtain⟨p,p2,rfl⟩:=dB he
  split
  ·rename_i hx
   rw[Rg] at hx
   obtain⟨m,g,o⟩:=fN C hx.2
   have z:=hx.1
   rw[RC] at z;subst z
   split
   ·split
    ·rename_i h
     exact HQ jY (M.zu m (cq hE _) g (aA h))
    ·exact no
   ·exact no
  ·exact no
 ·exact HQ nS (M.KM (hE _))
theorem kP{e:Expr}(h:dP e=true)(env:Env)(x:Value):foldedSetIterable e env x=pure x:=by cases e<;>first | rfl | cases h
noncomputable def zo(c:CI)(E:Expr->ME)(T:Expr->MT)(elt:Expr):List Comprehension->Option MB
 | []=>U (qx (E elt))
 | ⟨tg,it,ifs,a⟩::r=>if a==0&&dP it then(zo c E T elt r).bind λb=>U (gz (Kr c E it) (xr c E tg) (uB T ifs) b) else Y
noncomputable def MJ(e elt:Expr)(d:Nat)(acc:Value)(env:Env):List Comprehension->Sem Unit
 | []=>mD elt acc env
 | g::_=>wX e g.iter d acc env
theorem AX{α:Type}{l:List α}{d:Nat}{x:α}{r:List α}(h:l.drop d=x::r):l[d]?=U x/\l.drop (d+1)=r:=by
 have h1:(l.drop d)[0]?=U x:=by rw[h];rfl
 rw[UH,Nat.add_zero] at h1
 refine⟨h1,?_⟩
 rw[<- TY,h];rfl
theorem CB{α:Type}{l:List α}{d:Nat}(h:l.drop d=[]):l[d]?=Y:=SY (List.drop_eq_nil_iff.mp h)
theorem si{E:Expr->ME}{T:Expr->MT}{g:Comprehension}{r:List Comprehension}{b:MB}(h:zo c E T elt (g::r)=U b):∃ tg it ifs,g=⟨tg,it,ifs,0⟩:=by
 obtain⟨tg,it,ifs,a⟩:=g
 unfold zo at h
 split at h
 ·rename_i q
  rw[Rg,RC] at q
  rw[q.1]
  exact⟨_,_,_,rfl⟩
 ·cases h
theorem lK{E:Expr->ME}{T:Expr->MT}{tg iter:Expr}{gens r:List Comprehension}{ifs:List Expr}{d:Nat}{b:MB}(h1:gens[d]?=U ⟨tg,iter,ifs,0⟩)(h2:gens.drop (d+1)=r)(hb:zo c E T elt r=U b)(it acc:Value)(env:Env) :
  compTurn (.ListComp elt gens scope pos) d it acc env=bZ (.ListComp elt gens scope pos) tg iter.pos ifs d it acc env (MJ (.ListComp elt gens scope pos) elt (d+1) acc env r):=by
 cases r with
 | nil=>exact qF h1 (CB h2) it acc env
 | cons g r=>
  obtain⟨tg2,it2,ifs2,rfl⟩:=si hb
  exact xG h1 (AX h2).1 it acc env
theorem uJ{E:Expr->ME}{T:Expr->MT}(C:fc k c X)(hx:∀ e s,X.xe e s->False)(hE:∀ e,DE X e (E e))(hT:∀ e,DT X e (T e)){gens:List Comprehension}:∀ {rest:List Comprehension} {d:Nat} {b:MB},gens.drop d=rest->zo c E T elt rest=U b->MM X (MJ (.ListComp elt gens scope pos) elt d (.ref p) X.env rest) p b
 | [],d,b,_,h=>by cases h;exact MD EX (Lk (hE elt))
 | g::r,d,b,hd,h=>by
  obtain⟨tg,it,ifs,rfl⟩:=si h
  unfold zo at h
  split at h
  ·rename_i q
   rw[Rg] at q
   obtain⟨b',hb,h⟩:=Rb.mp h
   cases h
   obtain⟨h1,h2⟩:=AX hd
   exact MD Ap (db_in C.calm hx h1 (λit=>lK h1 h2 hb it _ _) (uE C hE) (cI C hE tg) (dg hT ifs) (uJ C hx hE hT h2 hb) (ba q.2))
  ·cases h
noncomputable def zp(c:CI)(tg it:Expr):Option Expr:=match tg,iE it with
 | .Tuple _ _ _,U (x,[a])=>if x=="enumerate"&&hJ c x&&bb a then U a else Y
 | _,_=>Y
theorem nq{a:Expr}(h:zp c tg it=U a):∃ es j tp p2 p3,tg=.Tuple es j tp/\it=.Call (.Name "enumerate" p2) [a] [] p3/\hJ c "enumerate" = true/\bb a=true:=by
 unfold zp at h
 split at h
 ·rename_i hc
  split at h
  ·rename_i hb
   cases h
   simp only[Rg] at hb
   obtain⟨p,p2,rfl⟩:=dB hc
   have z:=hb.1.1
   rw[RC] at z;subst z
   exact⟨_,_,_,_,_,rfl,rfl,hb.1.2,hb.2⟩
  ·cases h
 ·cases h
noncomputable def jt(c:CI)(E:CI->Expr->ME)(T:CI->Expr->MT)(elt:Expr)(gens:List Comprehension)(scope:Scope)(line:Nat):ME:=match gens with
 | [⟨tg,it,ifs,a⟩]=>if a==0&&dP it&&Dc c scope then if c.mt.contains (line+100000) then bE (E c it) (xr (dS c scope) (E (dS c scope)) tg) (uB (T (dS c scope)) ifs) (E (dS c scope) elt) (iG c scope) else match (if c.mt.contains (line+120000) then zp c tg it else Y) with | some a=>bt (oh (E c) [a]) (xr (dS c scope) (E (dS c scope)) tg) (uB (T (dS c scope)) ifs) (E (dS c scope) elt) (iG c scope) | none=>bP (Ks c (E c) tg it) (xr (dS c scope) (E (dS c scope)) tg) (uB (T (dS c scope)) ifs) (E (dS c scope) elt) (iG c scope) else eE
 | [⟨tg,it,ifs,a⟩,⟨tg2,it2,ifs2,a2⟩]=>if a==0&&a2==0&&dP it&&dP it2&&Dc c scope then bF (Ks c (E c) tg it) (xr (dS c scope) (E (dS c scope)) tg) (uB (T (dS c scope)) ifs) (Kr (dS c scope) (E (dS c scope)) it2) (xr (dS c scope) (E (dS c scope)) tg2) (uB (T (dS c scope)) ifs2) (E (dS c scope) elt) (iG c scope) else eE
 | ⟨tg,it,ifs,a⟩::g2::g3::r=>if a==0&&dP it&&Dc c scope then(match zo (dS c scope) (E (dS c scope)) (T (dS c scope)) elt (g2::g3::r) with | some b=>bW (Ks c (E c) tg it) (xr (dS c scope) (E (dS c scope)) tg) (uB (T (dS c scope)) ifs) b (iG c scope) | none=>eE) else eE
 | _=>eE
theorem sf(C:fc k c X)(hE:∀ c X,fc k c X->∀ e,DE X e (E c e))(hT:∀ c X,fc k c X->∀ e,DT X e (T c e)):DE X (.ListComp elt gens scope pos) (jt c E T elt gens scope line):=by
 unfold jt
 split
 ·rename_i tg it ifs a
  split
  ·rename_i h
   simp only[Rg,RC] at h
   obtain⟨⟨h0,h1⟩,h2⟩:=h
   subst h0
   obtain⟨B,C'⟩:=iH C h2
   split
   ·exact aM lT <| M.HF C.calm B (hE _ _ C it) (λA s H fp=>cI (C' A s H fp) (hE _ _ (C' A s H fp)) tg) (λA s H fp=>dg (hT _ _ (C' A s H fp)) ifs) (λA s H fp=>hE _ _ (C' A s H fp) elt) (ba h1)
   split
   ·rename_i a hen
    split at hen
    ·obtain⟨es,j,tp,p2,p3,rfl,rfl,hb,ha⟩:=nq hen
     obtain⟨m,g,o⟩:=fN C hb
     exact aM ka <| M.CK C.calm B m g (cq (hE _ _ C) _) (aA ha) (λA s H fp=>cI (C' A s H fp) (hE _ _ (C' A s H fp)) _) (λA s H fp=>dg (hT _ _ (C' A s H fp)) ifs) (λA s H fp=>hE _ _ (C' A s H fp) elt) (ba h1)
    ·cases hen
   ·exact aM po <| M.Lg C.calm B (iC C (hE _ _ C)) (λA s H fp=>cI (C' A s H fp) (hE _ _ (C' A s H fp)) tg) (λA s H fp=>dg (hT _ _ (C' A s H fp)) ifs) (λA s H fp=>hE _ _ (C' A s H fp) elt) (ba h1)
  ·exact aR
 ·rename_i tg it ifs a tg2 it2 ifs2 a2
  split
  ·rename_i h
   simp only[Rg,RC] at h
   obtain⟨⟨⟨⟨h0,h0'⟩,h1⟩,h1'⟩,h2⟩:=h
   subst h0 h0'
   obtain⟨B,C'⟩:=iH C h2
   exact aM lV <| M.HH C.calm B (iC C (hE _ _ C)) (λA s H fp=>cI (C' A s H fp) (hE _ _ (C' A s H fp)) tg) (λA s H fp=>dg (hT _ _ (C' A s H fp)) ifs) (λA s H fp=>uE (C' A s H fp) (hE _ _ (C' A s H fp))) (λA s H fp=>cI (C' A s H fp) (hE _ _ (C' A s H fp)) tg2) (λA s H fp=>dg (hT _ _ (C' A s H fp)) ifs2) (λA s H fp=>hE _ _ (C' A s H fp) elt) (ba h1) (kP h1')
  ·exact aR
 ·rename_i tg it ifs a g2 g3 r
  split
  ·rename_i h
   simp only[Rg,RC] at h
   obtain⟨⟨h0,h1⟩,h2⟩:=h
   subst h0
   obtain⟨B,C'⟩:=iH C h2
   split
   ·rename_i b hb
    exact aM lU <| M.HG C.calm B (iC C (hE _ _ C)) (λA s H fp=>cI (C' A s H fp) (hE _ _ (C' A s H fp)) tg) (λA s H fp=>dg (hT _ _ (C' A s H fp)) ifs) (λit acc env=>lK rfl rfl hb it acc env) (λA s H fp p=>uJ (C' A s H fp) (λ_ _ z=>z) (hE _ _ (C' A s H fp)) (hT _ _ (C' A s H fp)) rfl hb) (ba h1)
   ·exact aR
  ·exact aR
 ·exact aR
noncomputable def uH(c:CI)(E:CI->Expr->ME)(T:CI->Expr->MT)(kx vx:Expr)(gens:List Comprehension)(scope:Scope):ME:=match gens with
 | [⟨tg,it,ifs,a⟩]=>if a==0&&dP it&&Dc c scope then cA (Ks c (E c) tg it) (xr (dS c scope) (E (dS c scope)) tg) (uB (T (dS c scope)) ifs) (E (dS c scope) kx) (E (dS c scope) vx) (iG c scope) else eE
 | _=>eE
theorem zk(C:fc k c X)(hE:∀ c X,fc k c X->∀ e,DE X e (E c e))(hT:∀ c X,fc k c X->∀ e,DT X e (T c e)):DE X (.DictComp kx vx gens scope pos) (uH c E T kx vx gens scope):=by
 unfold uH
 split
 ·rename_i tg it ifs a
  split
  ·rename_i h
   simp only[Rg,RC] at h
   obtain⟨⟨h0,h1⟩,h2⟩:=h
   subst h0
   obtain⟨B,C'⟩:=iH C h2
   exact aM rK <| M.HE C.calm B (iC C (hE _ _ C)) (λA s H fp=>cI (C' A s H fp) (hE _ _ (C' A s H fp)) tg) (λA s H fp=>dg (hT _ _ (C' A s H fp)) ifs) (λA s H fp=>hE _ _ (C' A s H fp) kx) (λA s H fp=>hE _ _ (C' A s H fp) vx) (ba h1)
  ·exact aR
 ·exact aR
noncomputable def Qa(E:Expr->ME):List (Option Expr)->List Expr->Option (List (ME×ME))
 | [],[]=>U []
 | some k::ks,v::vs=>(Qa E ks vs).bind λr=>U ((E k,E v)::r)
 | _,_=>Y
theorem AO{E:Expr->ME}(hE:∀ e,DE X e (E e)):∀ {ks:List (Option Expr)} {vs:List Expr} {ms:List (ME×ME)},Qa E ks vs=U ms->DPs X pos ks vs ms/\ks.all (·.isSome)=true/\ks.length=vs.length
 | [],[],ms,h=>by cases h;exact⟨KI,rfl,rfl⟩
 | some k::ks,v::vs,ms,h=>by
  obtain⟨r,h1,h2⟩:=Rb.mp h
  cases h2
  obtain⟨a,b,d⟩:=AO hE h1
  exact⟨Hg (hE k) (hE v) a,by rw[Sz,b];rfl,by rw[Rr,Rr,d]⟩
 | [],_::_,_,h=>by cases h
 | none::_,_,_,h=>by cases h
 | some _::_,[],_,h=>by cases h
noncomputable def zl(c:CI)(E:Expr->ME)(ks:List (Option Expr))(vs:List Expr)(line:Nat):ME:=match ks with
 | []=>if vs.isEmpty&&!c.mt.contains line then mC (.dct [] []) else eE
 | k::r=>if (k::r).length<=15 then(match Qa E (k::r) vs with | some ms=>if c.mt.contains line then ce ms else dL ms | none=>eE) else eE
theorem Cs{E:Expr->ME}(C:fc k c X)(hE:∀ e,DE X e (E e))(ks:List (Option Expr))(vs:List Expr)(line:Nat):DE X (.Dict ks vs pos) (zl c E ks vs line):=by
 unfold zl
 split
 ·split
  ·rename_i h
   rw[Rg] at h
   have:vs=[]:=by simpa using h.1
   subst this
   exact aM pq <| M.Ld
  ·exact aR
 ·rename_i k r
  split
  ·rename_i hl
   split
   ·rename_i ms h
    obtain⟨a,b,d⟩:=AO (pos:=pos) hE h
    split
    ·exact aM rJ (M.HD a b d (by simp) hl)
    ·exact aM wE (M.Le a b d (by simp) hl)
   ·exact aR
  ·exact aR
theorem Hn{E:Expr->ME}(hE:∀ e,DE X e (E e)):∀ es:List Expr,M.DEs X es (es.map E)
 | []=>.nil
 | e::r=>.cons (hE e) (Hn hE r)
noncomputable def GD(E:Expr->ME):List Expr->ME
 | []=>eE
 | [e]=>E e
 | a::b::r=>bp ((a::b::r).map E) Str.empty
theorem Cq{E:Expr->ME}(hE:∀ e,DE X e (E e)):∀ es:List Expr,DE X (.JoinedStr es pos) (GD E es)
 | []=>aR
 | [e]=>M.zx (hE e)
 | a::b::r=>aM jD (M.CH (Hn hE _))
noncomputable def GH(E:Expr->ME)(v:Expr)(cv:Int)(f:Option Expr):ME:=match cv,f with
 | -1,Y=>fG (E v)
 | _,_=>eE
theorem GG{E:Expr->ME}(hE:∀ e,DE X e (E e)):DE X (.FormattedValue v cv f pos) (GH E v cv f):=by
 unfold GH
 split
 ·exact aM As (M.Qy (hE v))
 ·exact aR
noncomputable def LO(E:CI->Expr->ME)(T:CI->Expr->MT)(c:CI):Expr->ME
 | .Constant v _ _=>AR v
 | .Name x _=>zj c x
 | .BinOp a op b p=>GN (c.mt.contains (p.line+200000)) (c.mt.contains (p.line+210000)) op (E c a) (E c b)
 | .UnaryOp op a _=>evUn op (E c a)
 | .Compare a ops bs _=>GL c E a ops bs
 | .BoolOp op vs _=>match op with | .And=>xj gc (vs.map (E c)) | .Or=>xj vb (vs.map (E c))
 | .IfExp t a b _=>nU (T c t) (E c a) (E c b)
 | .Tuple es _ _=>bj (oh (E c) es)
 | .List es pos=>if c.mt.contains pos.line then dJ (oh (E c) es) else bQ (oh (E c) es)
 | .Dict ks vs pos=>zl c (E c) ks vs pos.line
 | .Subscript a i _=>Mv c (E c) a i
 | .Call f es ks p=>match fE f,zG f,ks with | some x,_,[]=>uI c (E c) x es | none,U (o,nm,ap),[]=>uD (c.mt.contains 500000) (E c) o nm ap p es | _,_,_=>eE
 | .ListComp elt gens scope p=>jt c E T elt gens scope p.line
 | .DictComp kx vx gens scope _=>uH c E T kx vx gens scope
 | .JoinedStr es _=>GD (E c) es
 | .FormattedValue v cv f _=>GH (E c) v cv f
 | .Attribute o nm _=>match fE o,c.gs.lookup (".": Str) with | some _,U (.fld C fl)=>if nm=fl then wB C fl (E c o) else eE | _,_=>eE
 | _=>eE
noncomputable def LM(E:CI->Expr->ME)(T:CI->Expr->MT)(c:CI):Expr->MT
 | .UnaryOp op a p=>match op with | .Not=>cw (T c a) | op=>cF (E c (.UnaryOp op a p))
 | .BoolOp op vs _=>match op with | .And=>pK cR (vs.map (T c)) | .Or=>pK fq (vs.map (T c))
 | .Compare a ops bs _=>zn c E a ops bs
 | .IfExp _ _ _ _=>qw
 | e=>cF (E c e)
theorem DJ(hE:∀ c X,fc k c X->∀ e,DE X e (E c e))(hT:∀ c X,fc k c X->∀ e,DT X e (T c e))(C:fc k c X)(e:Expr):DE X e (LO E T c e):=by
 have h1:=hE c X C
 have h2:=hT c X C
 cases e with
 | Constant v j p=>exact zm v
 | Name x p=>exact Co C x
 | BinOp a op b p=>
  show DE X _ (GN (c.mt.contains (p.line+200000)) (c.mt.contains (p.line+210000)) op (E c a) (E c b))
  exact GM (z:=c.mt.contains (p.line+200000)) (y:=c.mt.contains (p.line+210000)) (h1 a) (h1 b)
 | UnaryOp op a p=>exact Kq (h1 a)
 | Compare a ops bs p=>exact GJ C h1
 | BoolOp op vs p=>cases op with | And=>exact se h1 vs | Or=>exact xi h1 vs
 | IfExp t a b p=>exact aM EU <| M.de_if (h2 t) (h1 a) (h1 b)
 | Tuple es j p=>exact aM Ah <| M.Qp (cq h1 es)
 | List es p=>
  show DE X _ (if c.mt.contains p.line then dJ (oh (E c) es) else bQ (oh (E c) es))
  split
  ·exact aM wx <| M.KZ (cq h1 es)
  ·exact aM An <| M.Qu (cq h1 es)
 | Dict ks vs p=>exact Cs C h1 ks vs p.line
 | Subscript a i p=>exact GA C h1 a i
 | Call f es ks p=>
  show DE X _ (match fE f,zG f,ks with | some x,_,[]=>uI c (E c) x es | none,U (o,nm,ap),[]=>uD (c.mt.contains 500000) (E c) o nm ap p es | _,_,_=>eE)
  split
  ·rename_i x h
   obtain⟨p2,rfl⟩:=cg h
   exact Cu C h1
  ·rename_i o nm ap _ ha
   have:=xN ha
   subst this
   exact Cp C h1
  ·exact aR
 | ListComp elt gens scope p=>exact sf C hE hT
 | DictComp kx vx gens scope p=>exact zk C hE hT
 | JoinedStr es p=>exact Cq h1 es
 | FormattedValue v cv f p=>exact GG h1
 | Attribute o nm p=>
  show DE X _ (match fE o,c.gs.lookup (".": Str) with | some _,U (.fld C fl)=>if nm=fl then wB C fl (E c o) else eE | _,_=>eE)
  split
  ·rename_i A fl ho hl
   obtain⟨q,rfl⟩:=cg ho
   split
   ·rename_i e;subst e
    exact M.Lc (C.gs _ (Sr hl)) (h1 _) rfl
   ·exact aR
  ·exact aR
 | _=>exact aR
theorem DF(hE:∀ c X,fc k c X->∀ e,DE X e (E c e))(hT:∀ c X,fc k c X->∀ e,DT X e (T c e))(C:fc k c X)(e:Expr):DT X e (LM E T c e):=by
 have h1:=hE c X C
 have h2:=hT c X C
 cases e with
 | UnaryOp op a p=>cases op<;>first | exact xJ wq <| M.Qf (h2 a) | exact xJ tV <| M.xt (h1 _)
 | BoolOp op vs p=>cases op with | And=>exact Ce h2 vs | Or=>exact Gi h2 vs
 | Compare a ops bs p=>exact Ct C h1
 | IfExp t a b p=>exact lz
 | _=>exact xJ tV <| M.xt (h1 _)
noncomputable def ev:Nat->(CI->Expr->ME)×(CI->Expr->MT)
 | 0=>(λ_ _=>eE,λ_ _=>qw)
 | n+1=>(LO (ev n).1 (ev n).2,LM (ev n).1 (ev n).2)
theorem nk:∀ n:Nat,(∀ c X,fc k c X->∀ e,DE X e ((ev n).1 c e))/\(∀ c X,fc k c X->∀ e,DT X e ((ev n).2 c e))
 | 0=>⟨λ_ _ _ _=>aR,λ_ _ _ _=>lz⟩
 | n+1=>⟨λ_ _ C e=>DJ (nk n).1 (nk n).2 C e,λ_ _ C e=>DF (nk n).1 (nk n).2 C e⟩
noncomputable def ij:Expr->Bool
 | .ListComp _ _ _ _=>false
 | .SetComp _ _ _ _=>false
 | .DictComp _ _ _ _ _=>false
 | _=>true
theorem fI(h:ij e=true):swapsWith e t l X.env=pure false:=by cases e<;>first | rfl | cases h
noncomputable def rV:Expr->Bool
 | .Tuple _ _ _=>true
 | .List _ _=>true
 | _=>false
theorem yq(h:rV t=false\/rV e=false):swappedStores [t] e X.env=pure Y:=by
 rcases h with h | h
 ·cases t<;>first | rfl | cases h
 ·cases t<;>first | rfl | (cases e<;>first | rfl | cases h)
noncomputable def GS(c:CI)(E:CI->Expr->ME)(T:CI->Expr->MT)(x:Str)(px:Pos)(e:Expr):MS:=match e with
 | .ListComp elt gens scope p=>if c.all&&(c.sc.names.lookup x==U .local&&px.line==p.line&&!(scope.names.any λy=>y.1==x&&(y.2==.local||y.2==.cell))) then au (jt c E T elt gens scope p.line) (nG c x) else if c.all&&c.sc.names.lookup x==U .cell then au (jt c E T elt gens scope p.line) (nG c x) else dG
 | e=>if ij e then au (E c e) (nG c x) else dG
noncomputable def Iv:Expr->Option (Expr×Expr)
 | .Tuple [a,b] _ _=>U (a,b)
 | _=>Y
theorem qL{a b:Expr}(h:Iv t=U (a,b)):∃ k p,t=.Tuple [a,b] k p:=by
 unfold Iv at h
 split at h
 ·cases h;exact⟨_,_,rfl⟩
 ·cases h
noncomputable def nmP:Expr->Option (Str×Pos)
 | .Name x p=>U (x,p)
 | _=>Y
theorem vU{e:Expr}{x:Str}{p:Pos}(h:nmP e=U (x,p)):e=.Name x p:=by cases e<;>cases h;rfl
noncomputable def par2(t:Expr):Option (Str×Pos×Str×Pos):=(Iv t).bind λq=>(nmP q.1).bind λx=>(nmP q.2).bind λy=>U (x.1,x.2,y.1,y.2)
theorem BA{x y:Str}{px py:Pos}(h:par2 t=U (x,px,y,py)):∃ k p,t=.Tuple [.Name x px,.Name y py] k p:=by
 obtain⟨⟨a,b⟩,h1,h⟩:=Rb.mp h
 obtain⟨x,h2,h⟩:=Rb.mp h
 obtain⟨y,h3,h⟩:=Rb.mp h
 cases h
 cases vU h2
 cases vU h3
 exact qL h1
theorem ye{k:Nat}{a b:Expr}(h:(X.env.kindOf x==U NameKind.local&&X.env.kindOf y==U NameKind.local)=false):swappedStores [.Tuple [.Name x px,.Name y py] k p] (.Tuple [a,b] k2 p2) X.env=pure Y:=by
 unfold swappedStores
 simp only
 split
 ·rfl
 split
 ·rfl
 rw[Ru]
 generalize hg:List.filterMap _ [Expr.Name x px,Expr.Name y py]=L
 have hL:L.length<=1:=by
  rw[<- hg,RV,RV]
  cases hx:(X.env.kindOf x==U NameKind.local) with
  | false=>simp only[hx,Vz,SH,TV];split<;>simp
  | true=>
   have hy:(X.env.kindOf y==U NameKind.local)=false:=by rw[hx,Bool.true_and] at h;exact h
   simp only[hy,Vz,SH,TV];split<;>simp
 have h2:(L.length != [Expr.Name x px,Expr.Name y py].length)=true:=by
  rw[VD];show L.length≠2;omega
 rw[h2];rfl
noncomputable def Aa(c:CI)(x y:Str):Bool:=!(c.sc.names.lookup x==U .local&&c.sc.names.lookup y==U .local)
noncomputable def AQ(c:CI)(E:CI->Expr->ME)(t e:Expr):Option MS:=match par2 t,Iv e with
 | some (x,px,y,py),U (a,b)=>if Aa c x y then U (au (E c e) (xr c (E c) t)) else match iR x c.N,iR y c.N with
  | some i,U j=>if (c.all&&c.sc.names.lookup x==U .local&&c.sc.names.lookup y==U .local&&!(x==y)&&py.line==px.line&&oK a&&oK b&&!(foldedForSure 8 a&&foldedForSure 8 b)&&!(constantsAlone 8 a&&constantsAlone 8 b)&&!(i==j))=true then U (gy i j (oh (E c) [a,b])) else Y
  | _,_=>Y
 | _,_=>Y
theorem GB(C:fc k c X){E:CI->Expr->ME}(hE:∀ e,DE X e (E c e)){m:MS}(h:AQ c E t e=U m):DS X (.Assign [t] e pos) m:=by
 unfold AQ at h
 split at h
 ·rename_i x px y py a b h1 h2
  obtain⟨k1,p1,rfl⟩:=BA h1
  obtain⟨k2,p2,rfl⟩:=qL h2
  split at h
  ·rename_i hn
   cases h
   refine fv dH <| M.Hd (hE _) (cI C hE _) rfl (ye ?_) rfl
   unfold Aa at hn
   rw[Bool.not_eq_true'] at hn
   show(X.env.scope.names.lookup x==U NameKind.local&&X.env.scope.names.lookup y==U NameKind.local)=false
   rw[C.sc];exact hn
  split at h
  ·rename_i i j hi hj
   split at h
   ·rename_i hc
    cases h
    simp only[Rg,RC,Bool.not_eq_true'] at hc
    obtain⟨⟨⟨⟨⟨⟨⟨⟨⟨_,hx⟩,hy⟩,hne⟩,hl⟩,ha⟩,hb⟩,hf⟩,hcn⟩,hij⟩:=hc
    have hx':X.env.scope.names.lookup x=U .local:=by rw[C.sc];exact hx
    have hy':X.env.scope.names.lookup y=U .local:=by rw[C.sc];exact hy
    have hbk:X.env.blockKind=.function:=by unfold Env.blockKind;rw[C.sc,C.fk];rfl
    exact fv Am (M.Qj C.calm (by rw[C.N];exact C.nd) (by rw[C.N];exact bn hi) (by rw[C.N];exact bn hj) (by simpa using hij) hx' hy' (cq hE _) (Dy hbk hx' hy' hne (by simpa using hl) ha hb hf hcn))
   ·cases h
  ·cases h
 ·cases h
noncomputable def GT(c:CI)(E:CI->Expr->ME)(T:CI->Expr->MT)(t e:Expr):MS:=match t with
 | .Name x px=>GS c E T x px e
 | t=>match AQ c E t e with
 | some m=>m
 | none=>if ij e&&bb t&&(!rV t||!rV e) then au (E c e) (xr c (E c) t) else dG
theorem lb{s:Stmt}:DS X s (au m Gg):=λ_ _ _ _ _ _ ⟨_,_,_,_,_,_,h,_⟩=>by
 rw[dH] at h
 obtain⟨_,_,h⟩:=Rb.mp h
 cases h
theorem Cw(C:fc k c X)(hE:∀ c X,fc k c X->∀ e,DE X e (E c e))(hT:∀ c X,fc k c X->∀ e,DT X e (T c e)):DS X (.Assign [.Name x px] e pos) (GS c E T x px e):=by
 have h1:=hE c X C
 have gen:∀ e,ij e=true->DS X (.Assign [.Name x px] e pos) (au (E c e) (nG c x)):=λe hn=>by
  unfold nG
  split
  ·rename_i h1' h2
   exact fv ke <| M.uN (by rw[C.N];exact C.nd) (by rw[C.N];exact bn h2) (by rw[C.sc];exact .inl h1') (h1 e) (fI hn) (.inr (by rw[C.sc];exact h1'))
  ·rename_i h1' h2
   split
   ·rename_i ha
    exact fv ke <| M.uN (by rw[C.N];exact C.nd) (by rw[C.N];exact bn h2) (by rw[C.sc];exact .inr h1') (h1 e) (fI hn) (.inl (C.fn ha x))
   ·exact lb
  ·exact lb
 cases e with
 | ListComp elt gens scope p=>
  show DS X _ (if c.all&&(c.sc.names.lookup x==U .local&&px.line==p.line&&!(scope.names.any λy=>y.1==x&&(y.2==.local||y.2==.cell))) then au (jt c E T elt gens scope p.line) (nG c x) else if c.all&&c.sc.names.lookup x==U .cell then au (jt c E T elt gens scope p.line) (nG c x) else dG)
  split
  ·rename_i hw
   rw[Rg] at hw
   have hw1:=hw.2
   simp only[Rg,RC] at hw1
   have hl:=hw1.1.1
   unfold nG
   rw[hl]
   cases hi:iR x c.N with
   | none=>exact lb
   | some i=>
    have sw:(pure (X.env.blockKind==.function&&X.env.scope.names.lookup x==U .local&&px.line==p.line&&!(scope.names.any λy=>y.1==x&&(y.2==.local||y.2==.cell))):Sem Bool)=pure true:=by
     have hb:X.env.blockKind=.function:=by unfold Env.blockKind;rw[C.sc,C.fk];rfl
     rw[hb,C.sc]
     have:=hw.2
     simp only[Bool.and_assoc] at this ⊢
     rw[this];rfl
    unfold jt
    split
    ·rename_i tg it ifs a
     split
     ·rename_i h
      simp only[Rg,RC] at h
      obtain⟨⟨h0,h1'⟩,h2⟩:=h
      subst h0
      obtain⟨B,C'⟩:=iH C h2
      split
      ·exact fv ue <| M.xu (by rw[C.N];exact C.nd) (by rw[C.N];exact bn hi) (by rw[C.sc];exact .inl hl) C.calm B (hE _ _ C it) (λA s H fp=>cI (C' A s H fp) (hE _ _ (C' A s H fp)) tg) (λA s H fp=>dg (hT _ _ (C' A s H fp)) ifs) (λA s H fp=>hE _ _ (C' A s H fp) elt) sw (ba h1') (.inr (by rw[C.sc];exact hl))
      split
      ·rename_i a hen
       split at hen
       ·obtain⟨es,j,tp,p2,p3,rfl,rfl,hb,ha⟩:=nq hen
        obtain⟨m,g,o⟩:=fN C hb
        exact fv qy <| M.uM (by rw[C.N];exact C.nd) (by rw[C.N];exact bn hi) (by rw[C.sc];exact .inl hl) C.calm B m g (cq (hE _ _ C) _) (aA ha) (λA s H fp=>cI (C' A s H fp) (hE _ _ (C' A s H fp)) _) (λA s H fp=>dg (hT _ _ (C' A s H fp)) ifs) (λA s H fp=>hE _ _ (C' A s H fp) elt) sw (ba h1') (.inr (by rw[C.sc];exact hl))
       ·cases hen
      ·exact fv wI <| M.zq (by rw[C.N];exact C.nd) (by rw[C.N];exact bn hi) (by rw[C.sc];exact .inl hl) C.calm B (iC C (hE _ _ C)) (λA s H fp=>cI (C' A s H fp) (hE _ _ (C' A s H fp)) tg) (λA s H fp=>dg (hT _ _ (C' A s H fp)) ifs) (λA s H fp=>hE _ _ (C' A s H fp) elt) sw (ba h1') (.inr (by rw[C.sc];exact hl))
     ·intro _ _ _ _ _ _ ⟨_,_,_,_,_,_,h,_⟩
      rw[dH] at h
      obtain⟨_,z,h⟩:=Rb.mp h
      cases z
    ·rename_i tg it ifs a tg2 it2 ifs2 a2
     split
     ·rename_i h
      simp only[Rg,RC] at h
      obtain⟨⟨⟨⟨h0,h0'⟩,h1'⟩,h1''⟩,h2⟩:=h
      subst h0 h0'
      obtain⟨B,C'⟩:=iH C h2
      exact fv ug <| M.xx (by rw[C.N];exact C.nd) (by rw[C.N];exact bn hi) (by rw[C.sc];exact .inl hl) C.calm B (iC C (hE _ _ C)) (λA s H fp=>cI (C' A s H fp) (hE _ _ (C' A s H fp)) tg) (λA s H fp=>dg (hT _ _ (C' A s H fp)) ifs) (λA s H fp=>uE (C' A s H fp) (hE _ _ (C' A s H fp))) (λA s H fp=>cI (C' A s H fp) (hE _ _ (C' A s H fp)) tg2) (λA s H fp=>dg (hT _ _ (C' A s H fp)) ifs2) (λA s H fp=>hE _ _ (C' A s H fp) elt) sw (ba h1') (kP h1'') (.inr (by rw[C.sc];exact hl))
     ·intro _ _ _ _ _ _ ⟨_,_,_,_,_,_,h,_⟩
      rw[dH] at h
      obtain⟨_,z,h⟩:=Rb.mp h
      cases z
    ·rename_i tg it ifs a g2 g3 r
     split
     ·rename_i h
      simp only[Rg,RC] at h
      obtain⟨⟨h0,h1'⟩,h2⟩:=h
      subst h0
      obtain⟨B,C'⟩:=iH C h2
      split
      ·rename_i b hb
       exact fv uf <| M.xw (by rw[C.N];exact C.nd) (by rw[C.N];exact bn hi) (by rw[C.sc];exact .inl hl) C.calm B (iC C (hE _ _ C)) (λA s H fp=>cI (C' A s H fp) (hE _ _ (C' A s H fp)) tg) (λA s H fp=>dg (hT _ _ (C' A s H fp)) ifs) (λit acc env=>lK rfl rfl hb it acc env) (λA s H fp p=>uJ (C' A s H fp) (λ_ _ z=>z) (hE _ _ (C' A s H fp)) (hT _ _ (C' A s H fp)) rfl hb) sw (ba h1') (.inr (by rw[C.sc];exact hl))
      ·exact pV
     ·exact pV
    ·exact pV
  ·split
   ·rename_i hw
    rw[Rg,RC] at hw
    unfold nG
    rw[hw.2]
    cases hi:iR x c.N with
    | none=>exact lb
    | some i=>
     dsimp only
     rw[Ru hw.1]
     refine fv ke <| M.uN (by rw[C.N];exact C.nd) (by rw[C.N];exact bn hi) (by rw[C.sc];exact .inr hw.2) (sf C hE hT) ?_ (.inl (C.fn hw.1 x))
     show(pure (X.env.blockKind==.function&&X.env.scope.names.lookup x==U .local&&px.line==p.line&&!(scope.names.any λy=>y.1==x&&(y.2==.local||y.2==.cell))):Sem Bool)=pure false
     rw[C.sc,hw.2]
     have:((U NameKind.cell:Option NameKind)==U .local)=false:=by decide
     rw[this,Tw];rfl
   ·exact dO
 | SetComp _ _ _ _=>exact dO
 | DictComp _ _ _ _ _=>exact dO
 | _=>exact gen _ rfl
theorem GR(C:fc k c X)(hE:∀ c X,fc k c X->∀ e,DE X e (E c e))(hT:∀ c X,fc k c X->∀ e,DT X e (T c e)){t:Expr}:DS X (.Assign [t] e pos) (GT c E T t e):=by
 have gen:∀ t,DS X (.Assign [t] e pos) (match AQ c E t e with | some m=>m | none=>if ij e&&bb t&&(!rV t||!rV e) then au (E c e) (xr c (E c) t) else dG):=λt=>by
  split
  ·rename_i h
   exact GB C (hE _ _ C) h
  split
  ·rename_i h
   simp only[Rg,Uu,Bool.not_eq_true'] at h
   refine fv dH <| M.Hd (hE _ _ C e) (cI C (hE _ _ C) t) (fI h.1.1) (yq h.2) ?_
   rw[mJ h.1.2];rfl
  ·exact dO
 cases t with
 | Name x px=>exact Cw C hE hT
 | _=>exact gen _
noncomputable def sS:List MS->MS
 | []=>aI
 | [m]=>m
 | m::r=>ax m (sS r)
theorem jB{F:Stmt->MS}(h:∀ s,DS X s (F s)):∀ ss:List Stmt,vc X ss (sS (ss.map F))
 | []=>HP jf <| M.AW
 | [s]=>AV (h s)
 | s::s'::r=>HP Ai <| M.Ha (h s) (jB h (s'::r))
noncomputable def za:Expr->Bool
 | .Constant (.str _) _ _=>true
 | _=>false
noncomputable def GQ(c:CI)(E:Expr->ME)(op:Operator)(e:Expr):Expr->MS
 | .Name x _=>match op,c.sc.names.lookup x,iR x c.N with
  | .Add,U .local,U i=>dG
  | _,_,_=>dG
 | _=>dG
theorem GP{E:Expr->ME}(C:fc k c X)(hE:∀ e,DE X e (E e))(e:Expr)(t:Expr):DS X (.AugAssign t op e pos) (GQ c E op e t):=by
 unfold GQ
 split
 ·split
  ·rename_i h1 h2
   exact dO
  ·exact dO
 ·exact dO
noncomputable def Ie:Stmt->Option (Expr×Expr)
 | .Assign ts v _=>ts.head?.bind λt=>if ts.length=1 then U (t,v) else Y
 | _=>Y
theorem qg{s:Stmt}{t v:Expr}(h:Ie s=U (t,v)):∃ p,s=.Assign [t] v p:=by
 cases s<;>try cases h
 rename_i ts v' p
 obtain⟨t',h1,h⟩:=Rb.mp h
 split at h
 ·rename_i hl
  cases h
  cases ts with
  | nil=>cases hl
  | cons a r=>
   cases r with
   | nil=>cases h1;exact⟨_,rfl⟩
   | cons b r=>simp at hl
 ·cases h
noncomputable def hdOf:ExceptHandler->Option (Expr×Str×Stmt)
 | .ExceptHandler g nm ss _=>g.bind λg=>nm.bind λnm=>ss.head?.bind λs=>if ss.length=1 then U (g,nm,s) else Y
theorem Ca{k:ExceptHandler}{g:Expr}{nm:Str}{s:Stmt}(h:hdOf k=U (g,nm,s)):∃ p,k=.ExceptHandler (U g) (U nm) [s] p:=by
 cases k
 rename_i g' nm' ss p
 obtain⟨g2,rfl,h⟩:=Rb.mp h
 obtain⟨n2,rfl,h⟩:=Rb.mp h
 obtain⟨s2,h1,h⟩:=Rb.mp h
 split at h
 ·rename_i hl
  cases h
  cases ss with
  | nil=>cases hl
  | cons a r=>
   cases r with
   | nil=>cases h1;exact⟨_,rfl⟩
   | cons b r=>simp at hl
 ·cases h
noncomputable def yb(b:List Stmt)(h:List ExceptHandler):Option (Str×Expr×List Expr×Str×Str×Str×Str):=match b,h with
 | [s],[k]=>(Ie s).bind λz=>(fE z.1).bind λv=>(iE z.2).bind λp=>(hdOf k).bind λm=>(Ie m.2.2).bind λa=>(fE m.1).bind λg=>(fE a.1).bind λy=>(fE a.2).bind λn'=>match p.2 with
  | e::es=>if n'==m.2.1 then U (p.1,e,es,g,m.2.1,y,v) else Y
  | []=>Y
 | _,_=>Y
theorem vm{f g nm y v:Str}{e:Expr}{es:List Expr}(q:yb b h=U (f,e,es,g,nm,y,v)):∃ p0 p1 p2 p3 p4 p5 p6 p7 p8,b=[.Assign [.Name v p0] (.Call (.Name f p1) (e::es) [] p2) p3]/\h=[.ExceptHandler (U (.Name g p4)) (U nm) [.Assign [.Name y p5] (.Name nm p6) p7] p8]:=by
 unfold yb at q
 split at q
 ·obtain⟨⟨t0,v0⟩,h1,q1⟩:=Rb.mp q
  obtain⟨v',h9,q9⟩:=Rb.mp q1
  obtain⟨⟨f',es'⟩,h2,q2⟩:=Rb.mp q9
  obtain⟨⟨g',nm',s'⟩,h3,q3⟩:=Rb.mp q2
  obtain⟨⟨t,u⟩,h4,q4⟩:=Rb.mp q3
  obtain⟨g2,h5,q5⟩:=Rb.mp q4
  obtain⟨y2,h6,q6⟩:=Rb.mp q5
  obtain⟨n2,h7,q7⟩:=Rb.mp q6
  clear q q1 q2 q3 q4 q5 q6 q9
  obtain⟨p1,rfl⟩:=qg h1
  obtain⟨p0,rfl⟩:=cg h9
  obtain⟨p2,p3,rfl⟩:=dB h2
  obtain⟨p4,rfl⟩:=Ca h3
  obtain⟨p5,rfl⟩:=qg h4
  obtain⟨p6,rfl⟩:=cg h5
  obtain⟨p7,rfl⟩:=cg h6
  obtain⟨p8,rfl⟩:=cg h7
  cases es' with
  | nil=>cases q7
  | cons a r=>
   dsimp only at q7
   split at q7
   ·rename_i z
    cases q7
    rw[RC] at z
    subst z
    exact⟨_,_,_,_,_,_,_,_,_,rfl,rfl⟩
   ·cases q7
 ·cases q
noncomputable def Ix(c:CI)(E:Expr->ME)(b:List Stmt)(h:List ExceptHandler):Option MS:=match yb b h with
 | some (f,e,es,g,nm,y,v)=>match c.gs.lookup ("try": Str),Gf c g,iR nm c.N,iR y c.N,iR v c.N with
  | some (.thr f' n fy C fl),U (.hnd C'),U i,U j,U l=>if f'=f/\C'=C/\c.sc.names.lookup f=U .globalImplicit/\dm f=true/\dm nm=true/\c.sc.names.lookup nm=U .local/\c.sc.names.lookup y=U .local/\(e::es).all bb=true/\c.sc.names.lookup v=U .local then U (wg n fy C fl (oh E (e::es)) i j l) else Y
  | _,_,_,_,_=>Y
 | none=>Y
theorem Iw{E:Expr->ME}(C:fc k c X)(hE:∀ e,DE X e (E e))(hx:c.nx=true){m:MS}(q:Ix c E b h=U m):DS X (.Try b h [] [] pos) m:=by
 have Z:=C.xf hx
 unfold Ix at q
 split at q
 ·rename_i f e es g nm y v ht
  obtain⟨p0,p1,p2,p3,p4,p5,p6,p7,p8,rfl,rfl⟩:=vm ht
  split at q
  ·rename_i f' n fy A fl A' i j l hl hg hi hj hv
   obtain⟨gg,o,G⟩:=dY C hg
   split at q
   ·rename_i z
    obtain⟨rfl,rfl,z1,z2,z3,z4,z5,z6,z7⟩:=z
    cases q
    rw[Sz,Rg] at z6
    exact M.KB (C.gs _ (Sr hl)) C.room (by show X.env.scope.names.lookup f'=_;rw[C.sc];exact z1) (cq hE _) (λv s' w=>by rw[Z.xe] at w;exact w) G gg (by rw[C.N];exact C.nd) (by rw[C.N];exact bn hi) (by rw[C.sc];exact z4)
     (by rw[C.N];exact bn hj) (by rw[C.sc];exact z5) (by rw[C.N];exact bn hv) (by rw[C.sc];exact z7) Z.hs Z.hfm Z.hex (aZ z2) (aZ o) (aZ z3) (vQ z3) (aA z6.1) (eI z6.2) rfl
   ·cases q
  ·cases q
 ·cases q
noncomputable def LN(E:CI->Expr->ME)(T:CI->Expr->MT)(F:CI->Stmt->MS)(c:CI):Stmt->MS
 | .Return o _=>match o with | some e=>bg (E c e) | none=>λ_ S=>U (.rt .non S)
 | .Pass _=>aI
 | .Break _=>λenv S=>U (.bk env S)
 | .Continue _=>λenv S=>U (.ct env S)
 | .Expr e _=>if za e then aI else if ij e then dW (E c e) else dG
 | .If t a b _=>bM (T c t) (sS (a.map (F c))) (sS (b.map (F c)))
 | .Assign ts e _=>match ts with | [t]=>GT c E T t e | _=>dG
 | .AugAssign t op e _=>GQ c (E c) op e t
 | .Try body hs els fin _=>match hs,els,fin with | _::_,[],[]=>if c.nx then(match Ix c (E c) body hs with | some m=>m | none=>dG) else dG | _,_,_=>dG
 | .While tst body els _=>match els with | []=>dG | _=>dG
 | .For tg it body els _=>match els with | []=>if dP it then(if FZ c it then eG (Ks c (E c) tg it) (xr c (E c) tg) (sS (body.map (F c))) else ci (E c it) (xr c (E c) tg) (sS (body.map (F c)))) else dG | _=>dG
 | _=>dG
theorem DH{F:CI->Stmt->MS}(hE:∀ c X,fc k c X->∀ e,DE X e (E c e))(hT:∀ c X,fc k c X->∀ e,DT X e (T c e))(hF:∀ c X,fc k c X->∀ e,DS X e (F c e))(C:fc k c X)(s:Stmt):DS X s (LN E T F c s):=by
 have h1:=hE c X C
 have h2:=hT c X C
 have h3:=hF c X C
 cases s with
 | Return o p=>cases o with | none=>exact KC | some e=>exact fv Al <| M.Qi (h1 e)
 | Pass p=>exact fv jf <| M.KE
 | Break p=>exact Hc
 | Continue p=>exact xy
 | Expr e p=>
  show DS X _ (if za e then aI else if ij e then dW (E c e) else dG)
  split
  ·rename_i h
   unfold za at h
   split at h
   ·exact fv jf <| M.Qk
   ·cases h
  ·split
   ·rename_i h;exact fv wD <| M.KH (h1 e) (fI h)
   ·exact dO
 | If t a b p=>exact fv Aq <| M.ds_if (h2 t) (jB h3 a) (jB h3 b)
 | Assign ts e p=>
  show DS X _ (match ts with | [t]=>GT c E T t e | _=>dG)
  split
  ·exact GR C hE hT
  ·exact dO
 | AugAssign t op e p=>exact GP C h1 e t
 | Try body hs els fin p=>
  show DS X _ (match hs,els,fin with | _::_,[],[]=>if c.nx then(match Ix c (E c) body hs with | some m=>m | none=>dG) else dG | _,_,_=>dG)
  split
  ·split
   ·rename_i hx
    split
    ·rename_i m hm
     exact Iw C h1 hx hm
    ·exact dO
   ·exact dO
  ·exact dO
 | While tst body els p=>
  cases els with
  | nil=>exact dO
  | cons _ _=>exact dO
 | For tg it body els p=>
  cases els with
  | nil=>
   show DS X _ (if dP it then(if FZ c it then eG (Ks c (E c) tg it) (xr c (E c) tg) (sS (body.map (F c))) else ci (E c it) (xr c (E c) tg) (sS (body.map (F c)))) else dG)
   split
   ·rename_i h
    split
    ·exact fv Ar <| M.Hb C.xe C.calm (iC C h1) (cI C h1 tg) (jB h3 body) (ba h)
    ·exact fv wA <| M.KG C.xe C.calm (h1 it) (cI C h1 tg) (jB h3 body) (ba h)
   ·exact dO
  | cons _ _=>exact dO
 | _=>exact dO
noncomputable def evS(n:Nat):Nat->CI->Stmt->MS
 | 0=>λ_ _=>dG
 | m+1=>LN (ev n).1 (ev n).2 (evS n m)
theorem zi(n:Nat):∀ m:Nat,∀ c X,fc k c X->∀ s,DS X s (evS n m c s)
 | 0=>λ_ _ _ _=>dO
 | m+1=>λ_ _ C s=>DH (nk n).1 (nk n).2 (zi n m) C s
noncomputable def qo(c:CI)(body:List Stmt):MS:=sS (body.map (evS 40 20 c))
theorem GO(C:fc k c X)(body:List Stmt):vc X body (qo c body):=jB (zi 40 20 c X C) body
end
end
noncomputable def uT(N:List Str)(st:Stmt)(gs:List (Str×GI))(mt:List Nat):CI:=⟨N,am st,true,gs,mt,true⟩
noncomputable def GK(P:Program)(w:World)(K:W.Frag)(mg:Str->Option Value)(base:Heap)(k:Nat)(p:Str×GI):Prop:=match p.2 with
 | .fn n f=>Fn P w K mg base k p.1 n f
 | .con d=>GC K mg p.1 d
 | .blt=>mg p.1=Y
 | .tab l=>sA w K mg p.1 l
 | .thr f n fy C fl=>FnY P w K mg base k f n fy C fl
 | .cls C b=>ClsOk K mg p.1 C b
 | .hnd C=>xT K mg p.1 C
 | .rse C fl=>2<=k/\xQ P w K mg base p.1 C fl
 | .fld C fl=>qi K C fl
theorem Ho{K:W.Frag}{k:Nat}{st:Stmt}{gs:List (Str×GI)}{mt:List Nat}
  (F:dh K mg x st) (Sc:aV N ps (am st)) (hb:kD x st ps) (hg:∀ p∈gs,GK P w K mg base k p) :
  Fn P w K mg base (k+1) x ps.length (bY N (qo (uT N st gs mt) (aH st)) ps.length):=
 Qn F Sc hb λa cdv A outer s H E hr=>GO (k:=k) ⟨rfl,Sc.nd,rfl,Sc.kind,λ_ _=>rfl,rfl,hr,Vq,λ_=>⟨rfl,rfl,rfl,rfl⟩,λp hp=>by
  have:=hg p hp
  obtain⟨x,g⟩:=p
  cases g<;>exact this⟩ _
section
variable{k:Nat}{c:CI}{X:Cx}{A:Addr}{fl:Str}{E':XK}{pos:Pos}
noncomputable def Bn:List MY->MY
 | []=>nQ aI
 | [m]=>m
 | m::r=>iJ m (Bn r)
theorem kL{F:Stmt->MY}(h:∀ s,DY X A fl E' s (F s)):∀ ss:List Stmt,Il X A fl E' ss (Bn (ss.map F))
 | []=>by show Il X A fl E' [] (nQ aI);rw[jf];exact Kx
 | [s]=>Kw (h s)
 | s::s'::r=>GU (h s) (kL h (s'::r))
noncomputable def yi(A:Addr)(fl:Str)(c:CI)(E:Expr->ME)(ex:Expr):Option MY:=match iE ex with
 | some (x,[a])=>match Gf c x with
  | some (.rse C f)=>if C=A/\f=fl/\bb a=true then U (gH (E a)) else Y
  | _=>Y
 | _=>Y
theorem Bt{E:Expr->ME}(C:fc k c X)(O:XOk X E')(hE:∀ e,DE X e (E e)){m:MY}(h:yi A fl c E ex=U m):DY X A fl E' (.Raise (U ex) Y pos) m:=by
 unfold yi at h
 split at h
 ·rename_i x a hc
  obtain⟨p,p2,rfl⟩:=dB hc
  split at h
  ·rename_i C' f hg
   obtain⟨g,o,h2,R⟩:=dY C hg
   split at h
   ·rename_i z
    obtain⟨rfl,rfl,z⟩:=z
    cases h
    exact GV R (C.room.mono h2) g (hE a) C.calm O (aZ o) (aA z)
   ·cases h
  ·cases h
 ·cases h
noncomputable def DD(A:Addr)(fl:Str)(E:CI->Expr->ME)(T:CI->Expr->MT)(F:CI->Stmt->MS)(Y0:CI->Stmt->MY)(c:CI):Stmt->MY
 | .Raise (U ex) Y _=>match yi A fl c (E c) ex with | some m=>m | none=>nQ dG
 | .If t a b _=>tU (T c t) (Bn (a.map (Y0 c))) (Bn (b.map (Y0 c)))
 | .For tg it body [] _=>if dP it&&FZ c it then wf (Ks c (E c) tg it) (xr c (E c) tg) (Bn (body.map (Y0 c))) else nQ dG
 | s=>nQ (F c s)
theorem DC{E:CI->Expr->ME}{T:CI->Expr->MT}{F:CI->Stmt->MS}{Y0:CI->Stmt->MY}(hE:∀ c X,fc k c X->∀ e,DE X e (E c e))(hT:∀ c X,fc k c X->∀ e,DT X e (T c e))(hF:∀ c X,fc k c X->∀ e,DS X e (F c e))(hY:∀ c X,fc k c X->XOk X E'->∀ s,DY X A fl E' s (Y0 c s))(C:fc k c X)(O:XOk X E')(s:Stmt):DY X A fl E' s (DD A fl E T F Y0 c s):=by
 have h1:=hE c X C
 have h4:=hY c X C O
 unfold DD
 split
 ·split
  ·rename_i h;exact Bt C O h1 h
  ·exact AT dO
 ·exact dy_if (hT c X C _) (kL h4 _) (kL h4 _)
 ·split
  ·rename_i h
   rw[Rg] at h
   exact Qd C.xe C.calm (iC C h1) (cI C h1 _) (kL h4 _) (ba h.1)
  ·exact AT dO
 ·exact AT (hF c X C _)
noncomputable def evY(A:Addr)(fl:Str)(n:Nat):Nat->CI->Stmt->MY
 | 0=>λ_ _=>nQ dG
 | m+1=>DD A fl (ev n).1 (ev n).2 (evS n m) (evY A fl n m)
theorem Gz(n:Nat):∀ m:Nat,∀ c X,fc k c X->XOk X E'->∀ s,DY X A fl E' s (evY A fl n m c s)
 | 0=>λ_ _ _ _ _=>AT dO
 | m+1=>λ_ _ C O s=>DC (nk n).1 (nk n).2 (zi n m) (Gz n m) C O s
noncomputable def Kp(A:Addr)(fl:Str)(c:CI)(body:List Stmt):MY:=Bn (body.map (evY A fl 40 20 c))
end
noncomputable def cOfY(N:List Str)(st:Stmt)(gs:List (Str×GI))(mt:List Nat):CI:=⟨N,am st,true,gs,mt,false⟩
theorem Nb{K:W.Frag}{k:Nat}{st:Stmt}{gs:List (Str×GI)}{mt:List Nat}
  (F:dh K mg x st) (Sc:aV N ps (am st)) (hb:kD x st ps) (hg:∀ p∈gs,GK P w K mg base k p) :
  FnY P w K mg base (k+1) x ps.length (sZ N (Kp C fl (cOfY N st gs mt) (aH st)) ps.length) C fl:=
 PJ F Sc hb λa cdv A outer s H E hr=>kL (Gz 40 20 _ _ (k:=k) ⟨rfl,Sc.nd,rfl,Sc.kind,λ_ _=>rfl,rfl,hr,PassesOwn.leaving,(λz=>by cases z),λp hp=>by
  have:=hg p hp
  obtain⟨x,g⟩:=p
  cases g<;>exact this⟩ xok) _
noncomputable def GKs(P:Program)(w:World)(K:W.Frag)(mg:Str->Option Value)(base:Heap)(k:Nat):List (Str×GI)->Prop
 | []=>True
 | p::r=>GK P w K mg base k p/\GKs P w K mg base k r
theorem GKs.mem{K:W.Frag}{k:Nat}:∀ {gs:List (Str×GI)},GKs P w K mg base k gs->∀ p∈gs,GK P w K mg base k p
 | q::r,h,p,hp=>by
  rcases Rv.mp hp with rfl | hp
  ·exact h.1
  ·exact GKs.mem h.2 p hp
theorem OC{K:W.Frag}{k:Nat}{st:Stmt}{mt:List Nat}(F:dh K mg "law" st)(hfa:mg "law" = U (.ref fa))(Sc:aV N ["_law_script"] (am st))
  (hbt:∀ (kV doc pm:Value) (an:Option Addr) (cdv ct v:Value),bindArgs (W.fnOf "law" "law" (er st) (aH st) (am st) .none kV doc pm an cdv ct) ⟨[v],[]⟩=pure [(("_law_script":Str),v)])
  (hg:∀ base,GKs P w K mg base k gs) :
  ∃ fd:FuncData,(∀ (s:Shared) (v:Value),BindsTo s fd ⟨[v],[]⟩ [("_law_script",v)])/\∀ base:Heap,K.In base->base.Ns mainGlobals mg->FnOk P w K mg base xV (k+1) fa fd ["_law_script"] (Dk K 1 (bY N (qo (uT N st gs mt) (aH st)) 1)):=
 OB F hfa Sc hbt λbase a cdv A outer s H E hr=>GO (k:=k) ⟨rfl,Sc.nd,rfl,Sc.kind,λ_ _=>rfl,rfl,hr,Vq,λ_=>⟨rfl,rfl,rfl,rfl⟩,λp hp=>by
  have:=GKs.mem (hg base) p hp
  obtain⟨x,g⟩:=p
  cases g<;>exact this⟩ _
section
variable{P:List Value->Prop}
theorem xW(h:P []):∀ us:List Value,us.length=0->P us:=λus e=>by rw[TC e];exact h
theorem nJ{n:Nat}(h:∀ a,∀ us:List Value,us.length=n->P (a::us)):∀ us:List Value,us.length=n+1->P us:=λus e=>by
 cases us with
 | nil=>cases e
 | cons a us=>exact h a us (Nat.succ.inj e)
end
noncomputable def Ed(N:List Str)(st:Stmt)(gs:List (Str×GI))(mt:List Nat)(x:Str)(a:Nat):Nat->List D->aa->Option (D×aa)
 | 0=>λ_ _=>Y
 | n+1=>bY N (qo (uT N st ((x,.fn a (Ed N st gs mt x a n))::gs) mt) (aH st)) a
section
variable{P:Program}{w:World}{K:W.Frag}{mg:Str->Option Value}{base:Heap}{k:Nat}{x:Str}{st:Stmt}{N ps:List Str}{gs:List (Str×GI)}{mt:List Nat}
theorem GK.up{k':Nat}(h:k<=k'):∀ {p:Str×GI},GK P w K mg base k p->GK P w K mg base k' p
 | (_,.fn _ _),g=>Fn.up g h
 | (_,.con _),g=>g
 | (_,.blt),g=>g
 | (_,.tab _),g=>g
 | (_,.thr _ _ _ _ _),g=>FnY.up g h
 | (_,.cls _ _),g=>g
 | (_,.hnd _),g=>g
 | (_,.rse _ _),g=>⟨RG g.1 h,g.2⟩
 | (_,.fld _ _),g=>g
theorem Kg(F:dh K mg x st)(Sc:aV N ps (am st))(hb:kD x st ps):Fn P w K mg base (k+1) x ps.length (λ_ _=>Y):=by
 obtain⟨a,fd,F,hmg⟩:=F.ex
 exact Mt F Sc hmg (F.binds hb) λcdv A outer s H E hr=>⟨dG,Qh,λds S d S' _ _ _ h=>by cases h⟩
theorem Ec(F:dh K mg x st)(Sc:aV N ps (am st))(hb:kD x st ps)(hg:GKs P w K mg base k gs):∀ n,Fn P w K mg base (k+1+n) x ps.length (Ed N st gs mt x ps.length n)
 | 0=>Kg F Sc hb
 | n+1=>Ho (k:=k+1+n) F Sc hb λp hp=>by
  rcases Rv.mp hp with rfl | hp
  ·exact Ec F Sc hb hg n
  ·exact GK.up (by omega) (GKs.mem hg p hp)
end
noncomputable def kE(P:Params)(x:Str)(t:Nat)(v:Value):DictEntry:=⟨PyData.keyHash P x,.str x t,v⟩
noncomputable def kC(x:Str)(t l n a b:Nat)(u v:Value)(c d:Nat):Obj:=⟨.type "code",Y,.fields #[.str x t,.str x (t+1),.str "/claim/cut.py" (t+2),.int l 0,.int n 0,.int 0 0,.int 0 0,.int 3 0,.ref a,.bool true,.int 181 0,.ref b,.none,u,v,.ref c,.int d 0,.int l 0,.str "/claim/cut.py" (d+1)],#[]⟩
noncomputable def kF(x:Str)(st:Stmt)(m:Str)(t c:Nat):Obj:=⟨.type "function",Y,.func (W.fnOf x x (er st) (aH st) (am st) .none .none .none (.str m t) Y (.ref c) .none),#[]⟩
theorem lC{K:W.Frag}(X:K.In h)(G:h.Ns mainGlobals mg){st:Stmt}(m:Str)(f t c:Nat)(e:(W.nsIn K mainGlobals x,K.lookup f,W.codeIn K (.ref c) x,W.keepIn K (.ref f))=(U (U (.ref f)),U (kF x st m t c),true,true):=by kernel_rfl):dh K mg x st:=by
 have e1:=congrArg (·.1) e
 have e2:=congrArg (·.2.1) e
 have e3:=congrArg (·.2.2.1) e
 have e4:=congrArg (·.2.2.2) e
 exact⟨_,_,PH (st:=st) (show K.lookup f=U ⟨.type "function",Y,.func (W.fnOf x x (er st) (aH st) (am st) .none .none .none (.str m t) Y (.ref c) .none),#[]⟩ from e2) e3 e4,UQ X G e1⟩
theorem em{K:W.Frag}{k:Nat}{st:Stmt}{mt:List Nat}
  (F:dh K mg x st) (Sc:aV N ps (am st)) (hb:kD x st ps) (hg:GKs P w K mg base k gs):Fn P w K mg base (k+1) x ps.length (bY N (qo (uT N st gs mt) (aH st)) ps.length):=Ho F Sc hb (GKs.mem hg)
theorem BI{m:MS}(h:qo c b=m):bY N (qo c b) n=bY N m n:=by rw[h]
noncomputable def kX(x:Str)(C N:Nat)(bs bm sub:List Value)(a t u:Nat):Obj:=excClassObj x x C N bs bm true [] sub false Y Y (U (.ref a)) Y (U (.str x t)) (U (.str x u)) (U (.bool true)) "ValueError.__new__"
noncomputable def kI(q:Str)(st:Stmt)(m:Str)(t c:Nat):Obj:=⟨.type "function",Y,.func (W.fnOf "__init__" q (er st) (aH st) (am st) .none .none .none (.str m t) Y (.ref c) .none),#[]⟩
noncomputable def Lo(s:Stmt):Stmt:=match s with
 | .ClassDef _ _ _ (d::_) _ _ _ _ _ _ _=>d
 | s=>s
noncomputable def strB(es:Array DictEntry):Bool:=es.toList.all λe=>match e.key with | .str _ _=>true | _=>false
theorem ID(h:strB es=true):StrKeys es:=λe he=>by
 have:=RI.mp h e (by simpa using he)
 split at this
 ·exact⟨_,_,by assumption⟩
 ·cases this
noncomputable def nsX(K:W.Frag)(N:Addr)(y:Str):Option (Option Value):=match K.lookup N with
 | some ⟨_,_,.dict es _,_⟩=>if strB es=true then U ((es.toList.find? (·.key.isStr y)).map (·.val)) else Y
 | _=>Y
theorem EE{K:W.Frag}{v:Option Value}(h:nsX K N y=U v):∃ m:Str->Option Value,m y=v/\∀ h:Heap,K.In h->h.Ns N m:=by
 unfold nsX at h
 split at h
 ·rename_i c d es n sl q
  split at h
  ·rename_i hs
   cases h
   exact⟨nsFind es,by unfold nsFind findBy;rw[<- Wt],λh X=>⟨_,es,n,X _ _ q,rfl,ID hs,λ_=>rfl⟩⟩
  ·cases h
 ·cases h
theorem isK{K:W.Frag}{bs sub:List Value}(e:K.lookup C=U (kX x C N bs bm sub a t u)):qh K C bm:=⟨_,_,_,_,_,_,_,_,_,_,_,_,_,_,_,_,λh X=>X _ _ e⟩
section
variable{w:World}{K:W.Frag}{h:Heap}{mg:Str->Option Value}
theorem rseK(X:K.In h)(G:h.Ns mainGlobals mg){q:Str}{st:Stmt}(md:Str)(C N Gd NG f c t aC tC uC aG tG uG:Nat)(subC subG:List Value)
  (hb:aH st=[.Assign [.Attribute (.Name a p1) fl p2] (.Name b p3) p4]) (Sc:aV [a,b] [a,b] (am st))
  (bd:∀ us:List Value,us.length=2->bindArgs (W.fnOf "__init__" q (er st) (aH st) (am st) .none .none .none (.str md t) Y (.ref c) .none) ⟨us,[]⟩=pure ([a,b].zip us))
  (a1:(a==("__debug__":Str))=false) (a2:(a==("__classdict__":Str))=false) (b1:(b==("__debug__":Str))=false) (b2:(b==("__classdict__":Str))=false)
  (e:(W.nsIn K mainGlobals x,K.lookup C,K.lookup Gd,nsX K N "__init__",nsX K NG "__init__",K.lookup f,W.codeIn K (.ref c) q) =
   (U (U (.ref C)),U (kX x C N [.ref Gd] (.ref Gd::HT.gC) subC aC tC uC),U (kX g Gd NG [.type "ValueError"] HT.gC subG aG tG uG),U (U (.ref f)),U Y,U (kI q st md t c),true))
  (ec:(W.findIn K (.ref C) "__setattr__",HT.nM K C,W.takerIn K C fl,W.hasDictIn K C)=(U (U (.builtin "object.__setattr__")),true,U Y,true)) :
  ∀ P base,xQ P w K mg base x C fl:=λP base=>by
 have e1:=congrArg (·.1) e
 have e2:=congrArg (·.2.1) e
 have e3:=congrArg (·.2.2.1) e
 obtain⟨mN,hm,hN⟩:=EE (congrArg (·.2.2.2.1) e)
 obtain⟨mG,hg,hG⟩:=EE (congrArg (·.2.2.2.2.1) e)
 have e6:=congrArg (·.2.2.2.2.2.1) e
 have e7:=congrArg (·.2.2.2.2.2.2) e
 dsimp only at e1 e2 e3 e6 e7
 have cc:qj K C fl:=⟨congrArg (·.1) ec,congrArg (·.2.1) ec,congrArg (·.2.2.1) ec,congrArg (·.2.2.2) ec⟩
 refine⟨f,⟨_,_,N,_,_,_,_,_,_,_,_,_,_,_,_,_,_,mN,HT.gC,"ValueError",_,hm,F.excBase_ValueError,(show(Value.ref Gd::HT.gC).contains (.type "BaseException")=true from rfl),λh X=>⟨X _ _ e2,hN h X,.own (X _ _ e3) (hG h X) hg .base,_,X _ _ e6,rfl⟩⟩,?_,UQ X G e1⟩
 have F:=Kc (P:=P) (w:=w) (K:=K) (mg:=mg) (base:=base) (k:=0) (C:=C) (f:=f) (fl:=fl) (name:="__init__") (qual:=q) (a:=a) (b:=b) (params:=er st) (scope:=am st) (p1:=p1) (p2:=p2) (p3:=p3) (pos:=p4) (dV:=.none) (kV:=.none) (doc:=.none) (pm:=.str md t) (cdv:=.ref c) (ct:=.none) (an:=Y)
  (by rw[<- hb];exact e6) e7 Sc a1 a2 b1 b2
 rw[<- hb] at F
 exact Kb F (Binds.all bd) rfl cc
theorem hndK(X:K.In h)(G:h.Ns mainGlobals mg)(C N Gd NG aC tC uC aG tG uG:Nat)(bs bm bsG bmG subC subG:List Value)
  (e:(W.nsIn K mainGlobals g,K.lookup C,K.lookup Gd,(Value.ref C::bm).contains (.ref Gd),bmG.contains (.type "BaseException"))=(U (U (.ref Gd)),U (kX x C N bs bm subC aC tC uC),U (kX g Gd NG bsG bmG subG aG tG uG),true,true)):xT K mg g C:=
 ⟨Gd,bm,bmG,UQ X G (congrArg (·.1) e),isK (congrArg (·.2.1) e),isK (congrArg (·.2.2.1) e),congrArg (·.2.2.2.1) e,congrArg (·.2.2.2.2) e⟩
theorem Ln(X:K.In h)(G:h.Ns mainGlobals mg){b:Bool}(C A:Nat)(O:Di K C)(e:(W.nsIn K mainGlobals x,W.kitOne K (.ref C) (.ref A))=(U (U (.ref A)),U b)):ClsOk K mg x C b:=
 ⟨.ref A,.ref A,.inl (UQ X G (congrArg (·.1) e)),rfl,λ_ z=>z,congrArg (·.2) e,O⟩
theorem clsT(X:K.In h)(G:h.Ns mainGlobals mg){x:Str}{b:Bool}(C:Nat)(O:Di K C)(hn:x≠"__name__")(hb:bootBuiltins x=U (.type T))(e:(W.nsIn K mainGlobals x,W.kitOne K (.ref C) (.type T))=(U Y,U b)):ClsOk K mg x C b:=
 ⟨.ty T,.type T,.inr ⟨Sm X G (congrArg (·.1) e),hb,hn⟩,rfl,λ_ z=>z,congrArg (·.2) e,O⟩
end
theorem meY{m:MY}(h:Kp A fl c b=m):sZ N (Kp A fl c b) n=sZ N m n:=by rw[h]
section
variable{env e:ai}{S S':aa}{x y d:D}{f g:aa->D->D->Option D}{a b c:ME}{ms:MA}{t u:MT}{k l:Bool}{p q:MS}{tg:MG}
@[simp high] theorem ob{α β:Type}{a:α}{f:α->Option β}:(U a).bind f=f a:=id rfl
@[simp high] theorem obn{α β:Type}{f:α->Option β}:(Y:Option α).bind f=Y:=id rfl
@[simp high] theorem oj{α:Type}{a:Option α}:(U a).join=a:=rfl
@[simp high] theorem fg{α:Type}{a:α}{l:List α}:(a::l)[0]?=U a:=rfl
@[simp high] theorem fL{α:Type}{a b:α}{l:List α}:(a::b::l)[1]?=U b:=rfl
@[simp high] theorem fK{α:Type}{a:α}{l:List α}{i:Nat}:(a::l)[i+1]?=l[i]?:=rfl
@[simp high] theorem jh{α:Type}{a b:α}{l:List α}:(a::l).set 0 b=b::l:=rfl
@[simp high] theorem kG{α:Type}{a b:α}{l:List α}{i:Nat}:(a::l).set (i+1) b=a::l.set i b:=rfl
noncomputable def qA(S:aa)(z:D):Option (D×aa):=U (z,S)
@[simp] theorem av:qA S d=U (d,S):=rfl
@[simp] theorem cB:mC d env S=U (d,S):=by rw[pq];rfl
@[simp] theorem aw:ae i env S=(env[i]?).join.bind (qA S):=by rw[Ag];rfl
noncomputable def OS(f:aa->D->D->Option D)(x:D)(q:D×aa):Option (D×aa):=(f q.2 x q.1).bind (qA q.2)
noncomputable def kOp1(f:aa->D->D->Option D)(b:ME)(env:ai)(q:D×aa):Option (D×aa):=(b env q.2).bind (OS f q.1)
@[simp] theorem bf:kOp1 f b env (x,S)=(b env S).bind (OS f x):=id rfl
@[simp] theorem be:OS f x (y,S)=(f S x y).bind (qA S):=id rfl
@[simp] theorem bO:aB f a b env S=(a env S).bind (kOp1 f b env):=by rw[fW];rfl
noncomputable def Me(q:D×aa):Option (Bool×aa):=match q.1 with | .bl k=>U (k,q.2) | _=>Y
@[simp] theorem de:Me (.bl k,S)=U (k,S):=id rfl
@[simp] theorem db:aL a env S=(a env S).bind Me:=by rw[oZ];rfl
noncomputable def Pl(g:aa->D->D->Option D)(y:D)(q:D×aa):Option (D×aa):=(g q.2 y q.1).bind (qA q.2)
noncomputable def FR(g:aa->D->D->Option D)(c:ME)(env:ai)(y:D)(S:aa)(z:D):Option (D×aa):=match z with
 | .bl true=>(c env S).bind (Pl g y)
 | .bl false=>U (.bl false,S)
 | _=>Y
noncomputable def JU(f g:aa->D->D->Option D)(c:ME)(env:ai)(x:D)(q:D×aa):Option (D×aa):=(f q.2 x q.1).bind (FR g c env q.1 q.2)
noncomputable def Pm(f g:aa->D->D->Option D)(b c:ME)(env:ai)(q:D×aa):Option (D×aa):=(b env q.2).bind (JU f g c env q.1)
@[simp] theorem kCh1_s:Pm f g b c env (x,S)=(b env S).bind (JU f g c env x):=id rfl
@[simp] theorem kCh2_s:JU f g c env x (y,S)=(f S x y).bind (FR g c env y S):=id rfl
@[simp] theorem kChz_t:FR g c env y S (.bl true)=(c env S).bind (Pl g y):=id rfl
@[simp] theorem kChz_f:FR g c env y S (.bl false)=U (.bl false,S):=id rfl
@[simp] theorem kCh3_s:Pl g y (x,S)=(g S y x).bind (qA S):=id rfl
@[simp] theorem mChain_s:bG f g a b c env S=(a env S).bind (Pm f g b c env):=by
 rw[lW];unfold M.bG Pm JU FR
 congr 1
noncomputable def yS(q:D×aa):Option (Bool×aa):=(oz q.2 q.1).bind λk=>U (k,q.2)
@[simp] theorem yR:yS (.bl k,S)=U (k,S):=id rfl
@[simp] theorem kTru_n:yS (.non,S)=U (false,S):=id rfl
@[simp] theorem kTru_i:yS (.int i,S)=U (i != 0,S):=id rfl
@[simp] theorem kTru_t:yS (.tup xs,S)=U (!xs.isEmpty,S):=id rfl
@[simp] theorem kTru_l:yS (.lst xs,S)=U (!xs.isEmpty,S):=id rfl
@[simp] theorem oX:cF a env S=(a env S).bind yS:=by rw[tV];rfl
noncomputable def FS(u:MT)(env:ai)(q:Bool×aa):Option (Bool×aa):=if q.1=true then u env q.2 else U (false,q.2)
noncomputable def OR(u:MT)(env:ai)(q:Bool×aa):Option (Bool×aa):=if q.1=true then U (true,q.2) else u env q.2
noncomputable def Mh(q:Bool×aa):Option (Bool×aa):=U (!q.1,q.2)
@[simp] theorem AC:FS u env (true,S)=u env S:=id rfl
@[simp] theorem JX:FS u env (false,S)=U (false,S):=id rfl
@[simp] theorem kOrT_t:OR u env (true,S)=U (true,S):=id rfl
@[simp] theorem kOrT_f:OR u env (false,S)=u env S:=id rfl
@[simp] theorem uo:Mh (k,S)=U (!k,S):=id rfl
@[simp] theorem uh:cR t u env S=(t env S).bind (FS u env):=by rw[pz];rfl
@[simp] theorem mOrT_s:fq t u env S=(t env S).bind (OR u env):=by rw[tW];rfl
@[simp] theorem tX:cw t env S=(t env S).bind Mh:=by rw[wq];rfl
@[simp] theorem il:aP env S=U (true,S):=by rw[wj];rfl
noncomputable def Pu(b:ME)(env:ai)(q:D×aa):Option (D×aa):=(oz q.2 q.1).bind λk=>if k=true then b env q.2 else U (q.1,q.2)
noncomputable def kOr(b:ME)(env:ai)(q:D×aa):Option (D×aa):=(oz q.2 q.1).bind λk=>if k=true then U (q.1,q.2) else b env q.2
@[simp] theorem kAnd_t:Pu b env (.bl true,S)=b env S:=id rfl
@[simp] theorem kAnd_f:Pu b env (.bl false,S)=U (.bl false,S):=id rfl
@[simp] theorem kOr_t:kOr b env (.bl true,S)=U (.bl true,S):=id rfl
@[simp] theorem kOr_f:kOr b env (.bl false,S)=b env S:=id rfl
@[simp] theorem mAnd_s:gc a b env S=(a env S).bind (Pu b env):=by rw[Au];rfl
@[simp] theorem mOr_s:vb a b env S=(a env S).bind (kOr b env):=by rw[EO];rfl
noncomputable def AA(q:D×aa):Option (D×aa):=(oz q.2 q.1).bind λk=>U (.bl (!k),q.2)
@[simp] theorem kNotV_l:AA (.lst xs,S)=U (.bl (!!xs.isEmpty),S):=id rfl
@[simp] theorem kNotV_t:AA (.tup xs,S)=U (.bl (!!xs.isEmpty),S):=id rfl
@[simp] theorem kOr_c{d:D}{ds:List D}:kOr b env (.lst (d::ds),S)=U (.lst (d::ds),S):=id rfl
@[simp] theorem kOr_e:kOr b env (.lst [],S)=b env S:=id rfl
@[simp] theorem kNotV_s:AA (.bl k,S)=U (.bl (!k),S):=id rfl
@[simp] theorem mNotV_s:fM a env S=(a env S).bind AA:=by rw[wp];rfl
noncomputable def kIf(a b:ME)(env:ai)(q:Bool×aa):Option (D×aa):=if q.1=true then a env q.2 else b env q.2
@[simp] theorem kIf_t:kIf a b env (true,S)=a env S:=id rfl
@[simp] theorem kIf_f:kIf a b env (false,S)=b env S:=id rfl
@[simp] theorem Mc:nU t a b env S=(t env S).bind (kIf a b env):=by rw[EU];rfl
@[simp] theorem aD:af env S=U ([],S):=by rw[tZ];rfl
noncomputable def yW(x:D)(q:List D×aa):Option (List D×aa):=U (x::q.1,q.2)
noncomputable def FK(ms:MA)(env:ai)(q:D×aa):Option (List D×aa):=(ms env q.2).bind (yW q.1)
@[simp] theorem ao{xs:List D}:yW x (xs,S)=U (x::xs,S):=id rfl
@[simp] theorem aq:FK ms env (x,S)=(ms env S).bind (yW x):=id rfl
@[simp] theorem ar:ac a ms env S=(a env S).bind (FK ms env):=by rw[wF];rfl
noncomputable def gY(q:List D×aa):Option (D×aa):=if q.1.length<=sizeLine then U (.tup q.1,q.2) else Y
noncomputable def jo(q:List D×aa):Option (D×aa):=if q.1.length<=sizeLine then U (.lst q.1,q.2) else Y
noncomputable def FD(q:List D×aa):Option (D×aa):=if q.1.length<=sizeLine then U (.ref q.2.length,q.2++[.lst q.1]) else Y
theorem sz{n:Nat}(h:n<=1000):n<=sizeLine:=RG h (by decide)
theorem bS{xs:List D}(h:xs.length<=1000):gY (xs,S)=U (.tup xs,S):=Ru (sz h)
theorem cH{xs:List D}(h:xs.length<=1000):jo (xs,S)=U (.lst xs,S):=Ru (sz h)
theorem FC{xs:List D}(h:xs.length<=1000):FD (xs,S)=U (.ref S.length,S++[.lst xs]):=Ru (sz h)
@[simp] theorem fj:bj ms env S=(ms env S).bind gY:=by rw[Ah];rfl
@[simp] theorem fX:bQ ms env S=(ms env S).bind jo:=by rw[An];rfl
@[simp] theorem mLstR_s:dJ ms env S=(ms env S).bind FD:=by rw[wx];rfl
noncomputable def Mn(f:List D->aa->Option (D×aa))(q:List D×aa):Option (D×aa):=f q.1 q.2
@[simp] theorem ej{f:List D->aa->Option (D×aa)}{xs:List D}:Mn f (xs,S)=f xs S:=id rfl
@[simp] theorem ei{f:List D->aa->Option (D×aa)}:aO f ms env S=(ms env S).bind (Mn f):=by rw[cQ];rfl
noncomputable def mj(n:Nat)(f:List D->aa->Option (D×aa))(q:List D×aa):Option (D×aa):=if q.1.length=n then f q.1 q.2 else Y
@[simp] theorem kCallN_0{f:List D->aa->Option (D×aa)}:mj 0 f ([],S)=f [] S:=id rfl
@[simp] theorem gZ{f:List D->aa->Option (D×aa)}:mj 1 f ([x],S)=f [x] S:=id rfl
@[simp] theorem cU{f:List D->aa->Option (D×aa)}:mj 2 f ([x,y],S)=f [x,y] S:=id rfl
@[simp] theorem kCallN_3{f:List D->aa->Option (D×aa)}{z:D}:mj 3 f ([x,y,z],S)=f [x,y,z] S:=id rfl
@[simp] theorem kCallN_4{f:List D->aa->Option (D×aa)}{z w:D}:mj 4 f ([x,y,z,w],S)=f [x,y,z,w] S:=id rfl
@[simp] theorem bH{n:Nat}{f:List D->aa->Option (D×aa)}:ak n f ms env S=(ms env S).bind (mj n f):=by rw[lX];rfl
noncomputable def kIsI(T:String)(q:D×aa):Option (D×aa):=(iA T q.2 q.1).bind (qA q.2)
@[simp] theorem FE:kIsI T (x,S)=(iA T S x).bind (qA S):=id rfl
@[simp] theorem ES:cP T a env S=(a env S).bind (kIsI T):=by rw[Ao];rfl
noncomputable def kUn(f:aa->D->Option D)(q:D×aa):Option (D×aa):=(f q.2 q.1).bind (qA q.2)
@[simp] theorem kUn_s{f:aa->D->Option D}:kUn f (x,S)=(f S x).bind (qA S):=id rfl
@[simp] theorem mUn_s{f:aa->D->Option D}:qm f a env S=(a env S).bind (kUn f):=by rw[EM];rfl
@[simp] theorem pg:aT env S=U (Y,S):=by rw[rB];rfl
noncomputable def Mg(q:D×aa):Option (Option Int×aa):=match q.1 with | .int i=>U (U i,q.2) | _=>Y
@[simp] theorem nZ:Mg (.int i,S)=U (U i,S):=id rfl
@[simp] theorem nR:bq a env S=(a env S).bind Mg:=by rw[wn];rfl
noncomputable def BQ(x:D)(l:Option Int)(q:Option Int×aa):Option (D×aa):=match x with
 | .tup xs=>U (.tup (gB xs l q.1),q.2)
 | .lst xs=>U (.lst (gB xs l q.1),q.2)
 | .rol xs=>U (.lst (gB xs l q.1),q.2)
 | .ref r=>match q.2[r]? with | some (.lst xs)=>U (.lst (gB xs l q.1),q.2) | _=>Y
 | _=>Y
noncomputable def JN(hi:MO)(env:ai)(x:D)(q:Option Int×aa):Option (D×aa):=(hi env q.2).bind (BQ x q.1)
noncomputable def OM(lo hi:MO)(env:ai)(q:D×aa):Option (D×aa):=(lo env q.2).bind (JN hi env q.1)
@[simp] theorem OL{lo:MO}:OM lo hi env (x,S)=(lo env S).bind (JN hi env x):=id rfl
@[simp] theorem Ft{l:Option Int}:JN hi env x (l,S)=(hi env S).bind (BQ x l):=id rfl
@[simp] theorem OJ{l h:Option Int}:BQ (.tup xs) l (h,S)=U (.tup (gB xs l h),S):=id rfl
@[simp] theorem OK{l h:Option Int}:BQ (.lst xs) l (h,S)=U (.lst (gB xs l h),S):=id rfl
@[simp] theorem kSl3_r{l h:Option Int}:BQ (.rol xs) l (h,S)=U (.lst (gB xs l h),S):=id rfl
@[simp] theorem wl{lo:MO}:bA a lo hi env S=(a env S).bind (OM lo hi env):=by rw[rm];rfl
@[simp] theorem fJ:aI env S=U (.nx env S):=by rw[jf];rfl
noncomputable def Fu(q:MS):ny->Option ny
 | .nx e S=>q e S
 | .rt d S=>U (.rt d S)
 | .bk e S=>U (.bk e S)
 | .ct e S=>U (.ct e S)
@[simp] theorem df:Fu q (.nx e S)=q e S:=id rfl
@[simp] theorem um:Fu q (.rt d S)=U (.rt d S):=id rfl
@[simp] theorem kSeq_bk:Fu q (.bk e S)=U (.bk e S):=id rfl
@[simp] theorem kSeq_ct:Fu q (.ct e S)=U (.ct e S):=id rfl
@[simp] theorem dQ:ax p q env S=(p env S).bind (Fu q):=by rw[Ai];unfold M.ax;congr 1;funext o;cases o<;>rfl
noncomputable def kRt(q:D×aa):Option ny:=U (.rt q.1 q.2)
@[simp] theorem iK:kRt (d,S)=U (.rt d S):=id rfl
@[simp] theorem fV:bg a env S=(a env S).bind kRt:=by rw[Al];rfl
noncomputable def Mm(env:ai)(q:D×aa):Option ny:=U (.nx env q.2)
@[simp] theorem kDrop_s:Mm env (d,S)=U (.nx env S):=id rfl
@[simp] theorem mDrop_s:dW a env S=(a env S).bind (Mm env):=by rw[wD];rfl
noncomputable def OU(p q:MS)(env:ai)(r:Bool×aa):Option ny:=if r.1=true then p env r.2 else q env r.2
@[simp] theorem pC:OU p q env (true,S)=p env S:=id rfl
@[simp] theorem jp:OU p q env (false,S)=q env S:=id rfl
@[simp] theorem fY:bM t p q env S=(t env S).bind (OU p q env):=by rw[Aq];rfl
noncomputable def kNx(q:ai×aa):Option ny:=U (.nx q.1 q.2)
@[simp] theorem cr:kNx (e,S)=U (.nx e S):=id rfl
noncomputable def kAsg(tg:MG)(env:ai)(q:D×aa):Option ny:=(tg q.1 env q.2).bind kNx
@[simp] theorem bz:kAsg tg env (d,S)=(tg d env S).bind kNx:=id rfl
@[simp] theorem bx:au a tg env S=(a env S).bind (kAsg tg env):=by rw[dH];rfl
@[simp] theorem aK:ag i d env S=U (env.set i (U d),S):=by rw[gi];rfl
@[simp] theorem AH:cm [] env S=U (env,S):=by rw[xg];rfl
noncomputable def kGs(gs:ou)(r:List D)(q:ai×aa):Option (ai×aa):=gs r q.1 q.2
@[simp] theorem Mk:kGs gs r (e,S)=gs r e S:=id rfl
@[simp] theorem xh{r:List D}:aU tg gs (d::r) env S=(tg d env S).bind (kGs gs r):=by rw[rY];rfl
@[simp] theorem AF:bI 2 gs (.tup [x,y]) env S=gs [x,y] env S:=by rw[hV];rfl
@[simp] theorem gTupD_3{z:D}:bI 3 gs (.tup [x,y,z]) env S=gs [x,y,z] env S:=by rw[hV];rfl
@[simp] theorem gTupD_4{z w:D}:bI 4 gs (.tup [x,y,z,w]) env S=gs [x,y,z,w] env S:=by rw[hV];rfl
noncomputable def wP(env:ai)(d:D)(r:Nat)(k:Int)(S:aa):Option (ai×aa):=match S[r]? with
 | some (.lst xs)=>(yX xs.length k).bind λj=>U (env,S.set r (.lst (xs.set j d)))
 | _=>Y
noncomputable def Ax(env:ai)(d o:D)(q:D×aa):Option (ai×aa):=match o,q.1 with
 | .ref r,.int k=>wP env d r k q.2
 | _,_=>Y
noncomputable def Fo(i:ME)(env:ai)(d:D)(q:D×aa):Option (ai×aa):=(i env q.2).bind (Ax env d q.1)
@[simp] theorem JM:Fo a env d (x,S)=(a env S).bind (Ax env d x):=id rfl
@[simp] theorem JL:Ax env d (.ref r) (.int i,S)=wP env d r i S:=id rfl
theorem lg{r:Nat}{j:Nat}(h:S[r]?=U (.lst xs))(hj:yX xs.length i=U j):wP env d r i S=U (env,S.set r (.lst (xs.set j d))):=by
 unfold wP;rw[h];show(yX xs.length i).bind _=_;rw[hj];rfl
@[simp] theorem Kf:cC a b d env S=(a env S).bind (Fo b env d):=by
 rw[xa];unfold M.cC Fo Ax wP;congr 1
noncomputable def kFor(tg:MG)(p:MS)(env:ai)(q:List D×aa):Option ny:=cx tg p q.1 env q.2
@[simp] theorem pD{xs:List D}:kFor tg p env (xs,S)=cx tg p xs env S:=id rfl
@[simp] theorem pj:eG ms tg p env S=(ms env S).bind (kFor tg p env):=by rw[Ar];rfl
noncomputable def BS(tg:MG)(p:MS)(xs:List D):ny->Option ny
 | .nx e s=>cx tg p xs e s
 | .ct e s=>cx tg p xs e s
 | .bk e s=>U (.nx e s)
 | .rt d s=>U (.rt d s)
noncomputable def kLp1(tg:MG)(p:MS)(xs:List D)(q:ai×aa):Option ny:=(p q.1 q.2).bind (BS tg p xs)
@[simp] theorem ur:kLp1 tg p xs (e,S)=(p e S).bind (BS tg p xs):=id rfl
@[simp] theorem oa:BS tg p xs (.nx e S)=cx tg p xs e S:=id rfl
@[simp] theorem kLp2_ct:BS tg p xs (.ct e S)=cx tg p xs e S:=id rfl
@[simp] theorem kLp2_bk:BS tg p xs (.bk e S)=U (.nx e S):=id rfl
@[simp] theorem kLp2_rt:BS tg p xs (.rt d S)=U (.rt d S):=id rfl
@[simp] theorem mForL_nil:cx tg p [] env S=U (.nx env S):=id rfl
theorem im{xs:List D}:cx tg p (d::xs) env S=(tg d env S).bind (kLp1 tg p xs):=by
 show(tg d env S).bind _=_
 first | rfl | (congr 1;funext q;show(p q.1 q.2).bind _=(p q.1 q.2).bind _;congr 1;funext o;cases o<;>rfl)
noncomputable def BU(q:D×aa):Option (List D×aa):=match q.1 with | .lst xs=>U (xs,q.2) | .rol xs=>U (xs,q.2) | .tup xs=>U (xs,q.2) | _=>Y
@[simp] theorem yU:BU (.lst xs,S)=U (xs,S):=id rfl
@[simp] theorem kItS_r:BU (.rol xs,S)=U (xs,S):=id rfl
@[simp] theorem OT:BU (.tup xs,S)=U (xs,S):=id rfl
@[simp] theorem ua:cO a env S=(a env S).bind BU:=by rw[nS];rfl
noncomputable def Fw(q:List D×aa):Option (List D×aa):=match q.1 with | [.int j]=>if -(2^62)<=j/\j<2^62 then U (aS 0 j.toNat,q.2) else Y | _=>Y
theorem jk{j:Int}(h:-1000000<=j)(h':j<=1000000):Fw ([.int j],S)=U (aS 0 j.toNat,S):=Ru ⟨by omega,by omega⟩
@[simp] theorem eQ:aF ms env S=(ms env S).bind Fw:=by rw[jY];rfl
noncomputable def kR2(q:List D×aa):Option (List D×aa):=match q.1 with | [.int i,.int j]=>if -(2^62)<=i/\i<2^62/\-(2^62)<=j/\j<2^62 then U (aS i (j - i).toNat,q.2) else Y | _=>Y
@[simp] theorem mRange2_s:bK ms env S=(ms env S).bind kR2:=by rw[pf];rfl
noncomputable def jq(q:List D×aa):Option (D×aa):=U (.lst q.1,q.2)
noncomputable def rQ(g:MG)(t:MT)(e:ME)(cap:List (Option Nat))(env:ai)(q:List D×aa):Option (D×aa):=if q.1.length<=sizeLine then(dn g t e q.1 (fP cap env) q.2).bind jq else Y
theorem pE{xs:List D}(h:xs.length<=1000):rQ tg t a cap env (xs,S)=(dn tg t a xs (fP cap env) S).bind jq:=Ru (sz h)
@[simp] theorem lh{xs:List D}:jq (xs,S)=U (.lst xs,S):=id rfl
@[simp] theorem ud:bP ms tg t a cap env S=(ms env S).bind (rQ tg t a cap env):=by rw[po];rfl
noncomputable def Ph(x:D)(q:List D×aa):Option (List D×aa):=U (x::q.1,q.2)
noncomputable def Pi(g:MG)(t:MT)(e:ME)(xs:List D)(env:ai)(q:D×aa):Option (List D×aa):=(dn g t e xs env q.2).bind (Ph q.1)
noncomputable def JT(g:MG)(t:MT)(e:ME)(xs:List D)(env:ai)(q:Bool×aa):Option (List D×aa):=if q.1=true then(e env q.2).bind (Pi g t e xs env) else dn g t e xs env q.2
noncomputable def kCl1(g:MG)(t:MT)(e:ME)(xs:List D)(q:ai×aa):Option (List D×aa):=(t q.1 q.2).bind (JT g t e xs q.1)
@[simp] theorem FQ:kCl1 tg t a xs (e,S)=(t e S).bind (JT tg t a xs e):=id rfl
@[simp] theorem FP:JT tg t a xs e (true,S)=(a e S).bind (Pi tg t a xs e):=id rfl
@[simp] theorem Pj:JT tg t a xs e (false,S)=dn tg t a xs e S:=id rfl
@[simp] theorem FO:Pi tg t a xs e (d,S)=(dn tg t a xs e S).bind (Ph d):=id rfl
@[simp] theorem FN{xs:List D}:Ph d (xs,S)=U (d::xs,S):=id rfl
@[simp] theorem Ow:dn tg t a [] env S=U ([],S):=id rfl
theorem jg{xs:List D}:dn tg t a (d::xs) env S=(tg d env S).bind (kCl1 tg t a xs):=id rfl
noncomputable def Po(x:D)(q:List D×ai×aa):Option (List D×ai×aa):=U (x::q.1,q.2)
noncomputable def Pq(g:MG)(t:MT)(e:ME)(xs:List D)(env:ai)(q:D×aa):Option (List D×ai×aa):=(gb g t e xs env q.2).bind (Po q.1)
noncomputable def Ps(g:MG)(t:MT)(e:ME)(xs:List D)(env:ai)(q:Bool×aa):Option (List D×ai×aa):=if q.1=true then(e env q.2).bind (Pq g t e xs env) else gb g t e xs env q.2
noncomputable def kCe1(g:MG)(t:MT)(e:ME)(xs:List D)(q:ai×aa):Option (List D×ai×aa):=(t q.1 q.2).bind (Ps g t e xs q.1)
theorem Pt:kCe1 tg t a xs (e,S)=(t e S).bind (Ps tg t a xs e):=id rfl
theorem Pr:Ps tg t a xs e (true,S)=(a e S).bind (Pq tg t a xs e):=id rfl
theorem Pp:Pq tg t a xs e (d,S)=(gb tg t a xs e S).bind (Po d):=id rfl
theorem Pn{xs:List D}:Po d (xs,e,S)=U (d::xs,e,S):=id rfl
theorem yL:gb tg t a [] env S=U ([],env,S):=id rfl
theorem wH{xs:List D}:gb tg t a (d::xs) env S=(tg d env S).bind (kCe1 tg t a xs):=id rfl
noncomputable def OY(r:List D)(z:List D×aa):Option (List D×aa):=U (r++z.1,z.2)
noncomputable def Pa(g:MG)(t:MT)(mi:MA)(g2:MG)(t2:MT)(e:ME)(xs:List D)(r:List D×ai×aa):Option (List D×aa):=(fZ g t mi g2 t2 e xs r.2.1 r.2.2).bind (OY r.1)
noncomputable def Pc(g:MG)(t:MT)(mi:MA)(g2:MG)(t2:MT)(e:ME)(xs:List D)(env:ai)(q:List D×aa):Option (List D×aa):=(gb g2 t2 e q.1 env q.2).bind (Pa g t mi g2 t2 e xs)
noncomputable def Pe(g:MG)(t:MT)(mi:MA)(g2:MG)(t2:MT)(e:ME)(xs:List D)(env:ai)(q:Bool×aa):Option (List D×aa):=if q.1=true then(mi env q.2).bind (Pc g t mi g2 t2 e xs env) else fZ g t mi g2 t2 e xs env q.2
noncomputable def kCo1(g:MG)(t:MT)(mi:MA)(g2:MG)(t2:MT)(e:ME)(xs:List D)(q:ai×aa):Option (List D×aa):=(t q.1 q.2).bind (Pe g t mi g2 t2 e xs q.1)
section
variable{g2:MG}{t2:MT}{xs:List D}{mi2:MA}
theorem Pf:kCo1 tg t mi2 g2 t2 a xs (e,S)=(t e S).bind (Pe tg t mi2 g2 t2 a xs e):=id rfl
theorem Pd:Pe tg t mi2 g2 t2 a xs e (true,S)=(mi2 e S).bind (Pc tg t mi2 g2 t2 a xs e):=id rfl
theorem Pb{us:List D}:Pc tg t mi2 g2 t2 a xs e (us,S)=(gb g2 t2 a us e S).bind (Pa tg t mi2 g2 t2 a xs):=id rfl
theorem OZ{us:List D}:Pa tg t mi2 g2 t2 a xs (us,e,S)=(fZ tg t mi2 g2 t2 a xs e S).bind (OY us):=id rfl
theorem OX:OY us (xs,S)=U (us++xs,S):=id rfl
theorem yK:fZ tg t mi2 g2 t2 a [] env S=U ([],S):=id rfl
theorem wG:fZ tg t mi2 g2 t2 a (d::xs) env S=(tg d env S).bind (kCo1 tg t mi2 g2 t2 a xs):=id rfl
noncomputable def JS(q:List D×aa):Option (D×aa):=if q.1.length<=sizeLine then U (.lst q.1,q.2) else Y
theorem JR(h:xs.length<=1000):JS (xs,S)=U (.lst xs,S):=Ru (sz h)
noncomputable def kCo0(g:MG)(t:MT)(mi:MA)(g2:MG)(t2:MT)(e:ME)(cap:List (Option Nat))(env:ai)(q:List D×aa):Option (D×aa):=(fZ g t mi g2 t2 e q.1 (fP cap env) q.2).bind JS
theorem Pg:kCo0 tg t mi2 g2 t2 a cap env (xs,S)=(fZ tg t mi2 g2 t2 a xs (fP cap env) S).bind JS:=id rfl
theorem Fc:bF ms tg t mi2 g2 t2 a cap env S=(ms env S).bind (kCo0 tg t mi2 g2 t2 a cap env):=by rw[lV];rfl
end
@[simp] theorem mw:bu S (.int i) (.int j)=U (.int (i+j)):=id rfl
theorem pP{xs ys:List D}(h:xs.length+ys.length<=1000):bu S (.lst xs) (.lst ys)=U (.lst (xs++ys)):=Ru (sz h)
@[simp] theorem fSub_i:Kj S (.int i) (.int j)=U (.int (i - j)):=id rfl
@[simp] theorem fLt_i:fLt S (.int i) (.int j)=U (.bl (decide (i<j))):=id rfl
@[simp] theorem fLe_i:fLe S (.int i) (.int j)=U (.bl (decide (i<=j))):=id rfl
@[simp] theorem fGt_i:fGt S (.int i) (.int j)=U (.bl (decide (j<i))):=id rfl
@[simp] theorem fGe_i:fGe S (.int i) (.int j)=U (.bl (decide (j<=i))):=id rfl
@[simp] theorem PM:Gr S (.int i)=U (.int (-i)):=id rfl
theorem gr{j:Int}(h:0<j):iw S (.int i) (.int j)=U (.int (i%j)):=Ru (Sg h)
theorem Gv{j:Int}(h:0<j)(h':j<1073741824):Ci S (.int i) (.int j)=U (.int (i / j)):=Ru (by show(decide (0<j)&&decide (j<1073741824))=true;rw[Sg h,Sg h'];rfl)
theorem Gp{i j:Int}(h:(decide (0<=j)&&decide (j<=1000000)&&decide (i.natAbs<2^64))=true):qB S (.int i) (.int j)=U (.int (i^j.toNat)):=Ru h
theorem iu(h:kR i j=true):dA S (.int i) (.int j)=U (.int (i*j)):=Ru h
theorem tO{i:Int}(h:-18446744073709551616<i)(h':i<18446744073709551616):kR i j=true:=by
 unfold kR;rw[Sg (p:=i.natAbs<18446744073709551616) (by omega)];rfl
theorem tN{j:Int}(h:-18446744073709551616<j)(h':j<18446744073709551616):kR i j=true:=by
 unfold kR;rw[Sg (p:=j.natAbs<18446744073709551616) (by omega)];simp
@[simp] theorem fIx_t:aX S (.tup xs) (.int i)=oo xs i:=id rfl
@[simp] theorem AM:aX S (.lst xs) (.int i)=oo xs i:=id rfl
@[simp] theorem fIx_r:aX S (.rol xs) (.int i)=oo xs i:=id rfl
theorem jG{r:Nat}(h:S[r]?=U (.lst xs)):aX S (.ref r) (.int i)=oo xs i:=by
 have:fw S (.ref r)=U xs:=by simp only[fw,h]
 have t:oA S (.ref r)=Y:=by simp only[oA,h]
 unfold aX;rw[t]
 show(fw S (.ref r)).bind _=_;rw[this];rfl
theorem Ic{α:Type}{xs:List α}{i:Int}(h0:0<=i)(h:i<xs.length):oo xs i=U (xs[i.toNat]'(by omega)):=by
 unfold oo yX;rw[Ru h0,Ru h];show xs[i.toNat]?=_;rw[Rp]
@[simp] theorem fLen_t:az fm [.tup xs] S=U (.int xs.length,S):=id rfl
@[simp] theorem PU:az fm [.lst xs] S=U (.int xs.length,S):=id rfl
@[simp] theorem PR:az fm [.rol xs] S=U (.int xs.length,S):=id rfl
@[simp] theorem fInt1_i:az xp [.int i] S=U (.int i,S):=id rfl
@[simp] theorem fInt1_b:az xp [.bl k] S=U (.int (if k then 1 else 0),S):=id rfl
@[simp] theorem fMax2_i:az pN [.int i,.int j] S=U (.int (if j>i then j else i),S):=id rfl
@[simp] theorem Kk:az xn [.int i,.int j] S=U (.int (if j<i then j else i),S):=id rfl
@[simp] theorem fSeq1_t{g:List D->D}{xs:List D}:az (iN g) [.tup xs] S=U (g xs,S):=id rfl
@[simp] theorem AL{g:List D->D}{xs:List D}:az (iN g) [.lst xs] S=U (g xs,S):=id rfl
theorem PY{bs:List Bool}(h:iF xs=U bs):az zh [.lst xs] S=U (.bl (bs.all id),S):=by
 show((iF xs).bind _).bind _=_;rw[h];rfl
@[simp] theorem fIs_n:PX S x .non=U (.bl (rW x .non)):=id rfl
@[simp] theorem fIs_b:PX S x (.bl k)=U (.bl (rW x (.bl k))):=id rfl
@[simp] theorem pO:iz S x .non=U (.bl (!rW x .non)):=id rfl
@[simp] theorem fIsNot_b:iz S x (.bl k)=U (.bl (!rW x (.bl k))):=id rfl
theorem mr(h:bv 40 x=true)(h':bv 40 y=true):nj S x y=U (.bl (iT x y)):=by
 unfold nj;rw[lB h,lB h'];exact Ru ⟨h,h'⟩
theorem Km{r:Nat}(hr:S[r]?=U (.lst xs))(h:bv 40 (.lst xs)=true)(h':bv 40 y=true):nj S (.ref r) y=U (.bl (iT (.lst xs) y)):=by
 unfold nj;rw[show iU S (.ref r)=.lst xs by simp only[iU,hr],lB h'];exact Ru ⟨h,h'⟩
theorem pM(h:bv 40 x=true)(h':bv 40 y=true):ux S x y=U (.bl (!iT x y)):=by
 unfold ux;rw[lB h,lB h'];exact Ru ⟨h,h'⟩
@[simp] theorem zg:nj S (.int i) (.int j)=U (.bl (i==j)):=mr (by simp[bv]) (by simp[bv])
@[simp] theorem fNe_ii:ux S (.int i) (.int j)=U (.bl (!(i==j))):=pM (by simp[bv]) (by simp[bv])
@[simp] theorem fEq_bb:nj S (.bl k) (.bl l)=U (.bl (k==l)):=mr (by simp[bv]) (by simp[bv])
@[simp] theorem uy:nj S (.str i) (.str j)=U (.bl (i==j)):=mr (by simp[bv]) (by simp[bv])
@[simp] theorem fNe_ss:ux S (.str i) (.str j)=U (.bl (!(i==j))):=pM (by simp[bv]) (by simp[bv])
noncomputable def ir(f:MF)(x:D)(q:List D×aa):Option (D×aa):=f x q.1 q.2
noncomputable def AB(f:MF)(ms:MA)(env:ai)(q:D×aa):Option (D×aa):=if qz q.2 q.1=true then(ms env q.2).bind (ir f q.1) else Y
@[simp] theorem mMeth_s{f:MF}:eR f a ms env S=(a env S).bind (AB f ms env):=by rw[wu];rfl
@[simp] theorem kMeth_l{f:MF}{xs:List D}:AB f ms env (.lst xs,S)=(ms env S).bind (ir f (.lst xs)):=id rfl
@[simp] theorem jm{f:MF}{xs:List D}:ir f x (xs,S)=f x xs S:=id rfl
noncomputable def Ml(q:List D×aa):Option (List D×aa):=match q.1 with | [.tup xs]=>U (dZ 0 xs,q.2) | _=>Y
@[simp] theorem kEnum_s:Ml ([.tup xs],S)=U (dZ 0 xs,S):=id rfl
@[simp] theorem mEnum_s:eV ms env S=(ms env S).bind Ml:=by rw[wC];rfl
noncomputable def Az(x:D)(q:Option Int×aa):Option (D×aa):=match x,q.1 with
 | .tup xs,U j=>if j = -1 then U (.tup xs.reverse,q.2) else Y
 | _,_=>Y
noncomputable def ON(st:MO)(env:ai)(q:D×aa):Option (D×aa):=(st env q.2).bind (Az q.1)
@[simp] theorem kRev_s{st:MO}:ON st env (x,S)=(st env S).bind (Az x):=id rfl
@[simp] theorem kRev2_s:Az (.tup xs) (U (-1),S)=U (.tup xs.reverse,S):=id rfl
@[simp] theorem mRev_s{st:MO}:gx a st env S=(a env S).bind (ON st env):=by rw[Aj];unfold M.gx ON Az;congr 1
noncomputable def kPar(i j:Nat)(env:ai)(q:List D×aa):Option ny:=match q.1 with | [v,w]=>U (.nx ((env.set i (U v)).set j (U w)) q.2) | _=>Y
@[simp] theorem Ot:gy i j ms env S=(ms env S).bind (kPar i j env):=by rw[Am];rfl
@[simp] theorem OQ:kPar i j env ([x,y],S)=U (.nx ((env.set i (U x)).set j (U y)) S):=id rfl
noncomputable def kZip(q:List D×aa):Option (List D×aa):=match q.1 with | [.tup xs,.tup ys]=>U (gL xs ys,q.2) | _=>Y
@[simp] theorem kZip_s:kZip ([.tup xs,.tup ys],S)=U (gL xs ys,S):=id rfl
@[simp] theorem mZip_s:gO ms env S=(ms env S).bind kZip:=by rw[Ae];rfl
@[simp] theorem Do{xs ys:List D}:gL (x::xs) (y::ys)=.tup [x,y]::gL xs ys:=id rfl
@[simp] theorem zipD_nl:gL [] xs=[]:=by cases xs<;>rfl
@[simp] theorem zipD_nr:gL xs []=[]:=by cases xs<;>rfl
noncomputable def OO(k:aJ)(d:D)(z:List (aJ×D)×aa):Option (List (aJ×D)×aa):=U ((k,d)::z.1,z.2)
noncomputable def JP(r:List (ME×ME))(env:ai)(k:aJ)(q:D×aa):Option (List (aJ×D)×aa):=(gP r env q.2).bind (OO k q.1)
noncomputable def kPr2(b:ME)(r:List (ME×ME))(env:ai)(S:aa)(k:aJ):Option (List (aJ×D)×aa):=(b env S).bind (JP r env k)
noncomputable def OP(b:ME)(r:List (ME×ME))(env:ai)(q:D×aa):Option (List (aJ×D)×aa):=(dM q.1).bind (kPr2 b r env q.2)
@[simp] theorem ph:gP [] env S=U ([],S):=id rfl
@[simp] theorem mR{r:List (ME×ME)}:gP ((a,b)::r) env S=(a env S).bind (OP b r env):=id rfl
@[simp] theorem kPr1_i:OP b r env (.int i,S)=(b env S).bind (JP r env (.inl i)):=id rfl
@[simp] theorem Fz:OP b r env (.str i,S)=(b env S).bind (JP r env (.inr i)):=id rfl
@[simp] theorem Fy{k:aJ}:JP r env k (d,S)=(gP r env S).bind (OO k d):=id rfl
@[simp] theorem Fx{k:aJ}{z:List (aJ×D)}:OO k d (z,S)=U ((k,d)::z,S):=id rfl
noncomputable def rP(z:List (aJ×D)×aa):Option (D×aa):=if z.1.length<=15 then U (.dct ((bi [] z.1).map (·.1)) ((bi [] z.1).map (·.2)),z.2) else Y
noncomputable def uv(z:List (aJ×D)×aa):Option (D×aa):=if z.1.length<=15 then U (.ref z.2.length,z.2++[.dct ((bi [] z.1).map (·.1)) ((bi [] z.1).map (·.2))]) else Y
@[simp] theorem JH:dL ps env S=(gP ps env S).bind rP:=by rw[wE];rfl
@[simp] theorem EY:ce ps env S=(gP ps env S).bind uv:=by rw[rJ];rfl
theorem wY{k:aJ}:∀ {l:List (aJ×D)},k∉l.map (·.1)->Cb l k=false
 | [],_=>rfl
 | p::r,h=>by
  rw[RB,Rv,not_or] at h
  unfold Cb;rw[RH (λz=>h.1 z.symm)];exact wY h.2
theorem oS:∀ {l m:List (aJ×D)},((m++l).map (·.1)).Nodup->bi m l=m++l
 | [],m,_=>by rw[RU];rfl
 | p::r,m,h=>by
  show bi (ie m p.1 p.2) r=_
  have hn:p.1∉m.map (·.1):=by
   rw[Sk,RB,Tb] at h
   intro z;exact h.2.2 _ z _ Rf rfl
  unfold ie;rw[wY hn,RH Rq]
  rw[oS (by rw[Su];exact h),Su];rfl
theorem jC{l:List (aJ×D)}(h:(l.map (·.1)).Nodup):bi [] l=l:=oS (m:=[]) h
theorem FJ{l:List (aJ×D)}(h:(l.map (·.1)).Nodup)(hl:l.length<=15):rP (l,S)=U (.dct (l.map (·.1)) (l.map (·.2)),S):=by
 unfold rP;rw[Ru hl];simp only[jC h]
theorem BV{l:List (aJ×D)}(h:(l.map (·.1)).Nodup)(hl:l.length<=15):uv (l,S)=U (.ref S.length,S++[.dct (l.map (·.1)) (l.map (·.2))]):=by
 unfold uv;rw[Ru hl];simp only[jC h]
theorem jS{α β:Type}:∀ (l:List (α×β)),(l.map (·.1)).zip (l.map (·.2))=l
 | []=>rfl
 | p::r=>by rw[RB,RB,List.zip_cons_cons,jS r]
@[simp] theorem fIx_dct:aX S (.dct ks vs) y=(dM y).bind (cn (ks.zip vs)):=id rfl
theorem fIx_d{l:List (aJ×D)}{k:aJ}(h:dM y=U k):aX S (.dct (l.map (·.1)) (l.map (·.2))) y=cn l k:=by
 show(dM y).bind (λk=>cn ((l.map (·.1)).zip (l.map (·.2))) k)=_
 rw[h,jS];rfl
theorem Kl{l:List (aJ×D)}{k:aJ}(h:dM y=U k):iO (.dct (l.map (·.1)) (l.map (·.2))) [y,d] S=U ((cn l k).getD d,S):=by
 show((U ((l.map (·.1)).zip (l.map (·.2)))).bind _)=_
 rw[jS];show(dM y).bind _=_;rw[h];rfl
noncomputable def uq(f:MF)(ms:MA)(env:ai)(q:D×aa):Option (D×aa):=if HK q.2 q.1=true then(ms env q.2).bind (ir f q.1) else Y
noncomputable def FM(g:MG)(t:MT)(e:ME)(cap:List (Option Nat))(env:ai)(q:D×aa):Option (D×aa):=match q.1 with
 | .ref r=>(eh g t e r 2000 0 (fP cap env) q.2).bind jq
 | _=>Y
theorem Fa{g:MG}{t:MT}{e:ME}:bE a g t e cap env S=(a env S).bind (FM g t e cap env):=by rw[lT];rfl
theorem FL{g:MG}{t:MT}{e:ME}:FM g t e cap env (.ref r,S)=(eh g t e r 2000 0 (fP cap env) S).bind jq:=id rfl
noncomputable def mf(l:List (aJ×D))(q:D×aa):Option (D×aa):=(dM q.1).bind λk=>(cn l k).bind λd=>U (d,q.2)
@[simp] theorem EN{l:List (aJ×D)}:bV l a env S=(a env S).bind (mf l):=by rw[rh];rfl
@[simp] theorem wv{f:MF}:bD f a ms env S=(a env S).bind (uq f ms env):=by rw[rC];rfl
@[simp] theorem FB{f:MF}{ks:List aJ}{vs:List D}:uq f ms env (.dct ks vs,S)=(ms env S).bind (ir f (.dct ks vs)):=id rfl
theorem FA{f:MF}{r:Nat}{ks:List aJ}{vs:List D}(h:S[r]?=U (.dct ks vs)):uq f ms env (.ref r,S)=(ms env S).bind (ir f (.ref r)):=by
 unfold uq;exact Ru (by simp only[HK,h])
@[simp] theorem valD_nil{k:aJ}:cn [] k=Y:=id rfl
@[simp] theorem valD_cons{k k':aJ}{l:List (aJ×D)}:cn ((k',d)::l) k=if k'=k then U d else cn l k:=id rfl
@[simp] theorem keyOf_i:dM (.int i)=U (.inl i):=id rfl
@[simp] theorem keyOf_s:dM (.str i)=U (.inr i):=id rfl
noncomputable def wS(tg:MG)(p:MS)(env:ai)(q:D×aa):Option ny:=match q.1 with
 | .ref r=>dR tg p r 2000 0 env q.2
 | .lst xs=>cx tg p xs env q.2
 | .rol xs=>cx tg p xs env q.2
 | .tup xs=>cx tg p xs env q.2
 | _=>Y
@[simp] theorem nV:ci a tg p env S=(a env S).bind (wS tg p env):=by rw[wA];rfl
@[simp] theorem JQ:wS tg p env (.lst xs,S)=cx tg p xs env S:=id rfl
@[simp] theorem kForD_o:wS tg p env (.rol xs,S)=cx tg p xs env S:=id rfl
@[simp] theorem uu:wS tg p env (.tup xs,S)=cx tg p xs env S:=id rfl
@[simp] theorem kForD_r:wS tg p env (.ref r,S)=dR tg p r 2000 0 env S:=id rfl
noncomputable def ut(q:List D×aa):Option (D×aa):=match q.1 with | [.int j]=>if 0<=j/\j<=1000 then U (.lst (aS 0 j.toNat),q.2) else Y | _=>Y
@[simp] theorem wz:bR ms env S=(ms env S).bind ut:=by rw[rE];rfl
theorem rO{j:Int}(h0:0<=j)(h1:j<=1000):ut ([.int j],S)=U (.lst (aS 0 j.toNat),S):=Ru ⟨h0,h1⟩
noncomputable def ul(x d:D)(env:ai)(q:D×aa):Option (ai×aa):=match x with
 | .ref r=>match q.2[r]? with
  | some (.dct ks vs)=>(dM q.1).bind λk=>if ks.length<=500 then U (env,q.2.set r (.dct ((ie (ks.zip vs) k d).map (·.1)) ((ie (ks.zip vs) k d).map (·.2)))) else Y
  | _=>Y
 | _=>Y
noncomputable def Fl(b:ME)(env:ai)(d:D)(q:D×aa):Option (ai×aa):=(b env q.2).bind (ul q.1 d env)
@[simp] theorem AG:dN a b d env S=(a env S).bind (Fl b env d):=by rw[wZ];rfl
@[simp] theorem wQ:Fl b env d (x,S)=(b env S).bind (ul x d env):=id rfl
noncomputable def yV(q:D×aa):Option (D×aa):=(Kh q.1).bind λy=>U (.str y,q.2)
@[simp] theorem uc:fG a env S=(a env S).bind yV:=by rw[As];rfl
theorem LL{n:Nat}(h:n<=1000000):n<=sizeLine:=RG h (by decide)
theorem FF{y:Str}(h:y.length<=1000000):yV (.str y,S)=U (.str y,S):=by
 show(if y.length<=sizeLine then U y else Y).bind _=_
 rw[Ru (LL h)];rfl
theorem wJ{i:Int}(h:-1000000<=i)(h':i<=1000000):i.natAbs.log2<1920:=by
 have h1:i.natAbs<=1000000:=by omega
 have h2:i.natAbs<2^1920:=TW h1 (by decide +kernel)
 by_cases h0:i.natAbs=0
 ·rw[h0];decide
 ·exact(Nat.log2_lt h0).mpr h2
theorem FG{i:Int}(h:-1000000<=i)(h':i<=1000000):yV (.int i,S)=U (.str (toString i),S):=by
 show(if i.natAbs.log2<1920 then U (Str.ofString (toString i)) else Y).bind _=_
 rw[Ru (wJ h h')];rfl
noncomputable def kJL(r:List ME)(out:Str)(env:ai)(q:D×aa):Option (D×aa):=match q.1 with
 | .str y=>if (out++y).length<=sizeLine then bp r (out++y) env q.2 else Y
 | _=>Y
@[simp] theorem pi:bp [] out env S=U (.str out,S):=by rw[jD];rfl
theorem eU{r:List ME}:bp (a::r) out env S=(a env S).bind (kJL r out env):=by
 rw[jD]
 show(a env S).bind _=_
 congr 1
 funext q
 unfold kJL
 obtain⟨d,T⟩:=q
 cases d<;>first | rfl | skip
 dsimp only
 rw[jD]
theorem Mi{out y:Str}(h:(out++y).length<=1000000):kJL r out env (.str y,S)=bp r (out++y) env S:=Ru (LL h)
noncomputable def kSJ(ms:MA)(env:ai)(q:D×aa):Option (D×aa):=if FX q.1=true then(ms env q.2).bind (ir lr q.1) else Y
@[simp] theorem kZ:bL a ms env S=(a env S).bind (kSJ ms env):=by rw[rA];rfl
@[simp] theorem Ay:kSJ ms env (.str z,S)=(ms env S).bind (ir lr (.str z)):=id rfl
theorem qS:∀ ys:List Str,qT (ys.map .str)=U ys
 | []=>rfl
 | y::r=>by
  have:=qS r
  show(qT (r.map .str)).bind _=_
  rw[this];rfl
theorem lq{z:Str}{ys:List Str}(h:fw S y=U (ys.map .str))(hl:(ys.map (·.length)).sum+ys.length*z.length<=1000000):lr (.str z) [y] S=U (.str (Str.join z ys),S):=by
 show((fw S y).bind _)=_
 rw[h]
 show((qT (ys.map .str)).bind _)=_
 rw[qS]
 exact Ru (RG hl (by decide))
theorem lv{i j:Str}(h:i.length+j.length<=1000000):ft S (.str i) (.str j)=U (.str (i++j)):=Ru (LL h)
@[simp] theorem fStr1_n:az gJ [.non] S=U (.str "None",S):=id rfl
theorem AK{i:Int}(h:-1000000<=i)(h':i<=1000000):az gJ [.int i] S=U (.str (toString i),S):=by
 show(gJ S [.int i]).bind _=_
 rw[show gJ S [.int i]=U (.str (toString i)) from Ru (wJ h h')];rfl
noncomputable def Jq:ny->Option (D×aa)
 | .rt d S'=>U (d,S')
 | .nx _ S'=>U (.non,S')
 | .bk _ _=>Y
 | .ct _ _=>Y
@[simp] theorem fi:Jq (.rt d S)=U (d,S):=id rfl
@[simp] theorem outM_nx:Jq (.nx e S)=U (.non,S):=id rfl
theorem da{n:Nat}{ds:List D}{S:aa}(h:ds.length=n):bY N m n ds S=(m (bh N ds) S).bind Jq:=by
 unfold bY;rw[Ru h];first | rfl | (congr 1;funext o;cases o<;>rfl)
@[simp] theorem rep0:List.replicate 0 (Y:Option D)=[]:=id rfl
end
section
open PySem.StrLaws PySem.Builtin PySem.Builtin.Str
theorem oC{y:Str}{h:Nat}{t:List Nat}(hy:y.cps.toList=h::t){k:Nat}(q:At x y x.length k):x.cps.toList[k]?=U h/\∃ r,x.cps.toList.drop k=y.cps.toList++r:=by
 have q2:=q.2
 rw[subAt_eq,RC] at q2
 have e:x.cps.toList.drop k=y.cps.toList++(x.cps.toList.drop k).drop y.length:=by
  conv=>lhs;rw[<- SG y.length (x.cps.toList.drop k),q2]
 refine⟨?_,_,e⟩
 have:(x.cps.toList.drop k)[0]?=U h:=by rw[e,hy];rfl
 simpa using this
theorem zH{x y:Str}{k:Nat}{r:List Nat}(h:x.cps.toList.drop k=y.cps.toList++r)(hy:1<=y.length):At x y x.length k:=by
 have ly:y.cps.toList.length=y.length:=by simp[Str.length]
 have lx:x.cps.toList.length=x.length:=by simp[Str.length]
 have hl:=congrArg List.length h
 rw[Tg,Rz,ly,lx] at hl
 refine⟨by omega,?_⟩
 rw[subAt_eq,h,RC,<- ly,List.take_left]
theorem FU(y p q:Str)(r:List Str):(Str.join y (p::q::r)).cps.toList=p.cps.toList++(y.cps.toList++(Str.join y (q::r)).cps.toList):=by
 show(p++y++Str.join y (q::r)).cps.toList=_
 simp[Str.cps_append]
theorem Dz{x p:Str}{b:Nat}(h:(x.cps.toList.drop a).take (b - a)=p.cps.toList):strSub x a b=p:=by
 apply Str.ext'
 apply Array.toList_inj.mp
 rw[strSub_toList];exact h
theorem yo{x y:Str}{h:Nat}{t:List Nat}(hy:y.cps.toList=h::t):∀ (ps:List Str) (cuts:List Nat) (a f:Nat),ps≠[]->(∀ p∈ps,h∉p.cps.toList)->x.cps.toList.drop a=(Str.join y ps).cps.toList->a<=x.length->ChainG x y x.length a cuts f->(∀ k,f<=k->¬ At x y x.length k)->partsFrom x y.length a cuts=ps:=by
 have ly:y.length=t.length+1:=by have:=congrArg List.length hy;simpa[Str.length] using this
 have lx:x.cps.toList.length=x.length:=by simp[Str.length]
 intro ps
 induction ps with
 | nil=>intro _ _ _ z;exact absurd rfl z
 | cons p ps ih=>
  intro cuts a f _ hf hd ha hc hn
  cases ps with
  | nil=>
   have hp:x.cps.toList.drop a=p.cps.toList:=hd
   have no:∀ k,a<=k->¬ At x y x.length k:=λk hk q=>by
    have q1:=(oC hy q).1
    have:(x.cps.toList.drop a)[k - a]?=U h:=by rw[UH,show a+(k - a)=k by omega];exact q1
    rw[hp] at this
    exact hf p (by simp) (RR this)
   cases cuts with
   | nil=>
    show [strSub x a x.length]=[p]
    rw[Dz (p:=p)]
    rw[hp];exact VS (by rw[<- hp,Tg,lx];exact Rn _)
   | cons c r=>exact absurd hc.2.1 (no c hc.1)
  | cons q r=>
   rw[FU] at hd
   have l0:=congrArg List.length hd
   rw[Tg,lx,Rz,Rz] at l0
   have k0:At x y x.length (a+p.cps.toList.length):=zH (r:=(Str.join y (q::r)).cps.toList) (by rw[<- TY,hd,Vx]) (by omega)
   cases cuts with
   | nil=>
    have e:f=a:=hc
    exact absurd k0 (hn _ (by omega))
   | cons c rc=>
    obtain⟨h1,h2,h3,h4⟩:a<=c/\At x y x.length c/\(∀ k,a<=k->k<c->¬ At x y x.length k)/\ChainG x y x.length (c+y.length) rc f:=by
     first
     | exact⟨hc.1,hc.2.1,hc.2.2.1,hc.2.2.2⟩
     | (obtain⟨a1,a2,a3,a4⟩:=hc;first | exact⟨a1,a2,a3,a4⟩ | exact⟨a1,a3,a2,a4⟩)
    have ec:c=a+p.cps.toList.length:=by
     rcases Nat.lt_trichotomy c (a+p.cps.toList.length) with z | z | z
     ·have q1:=(oC hy h2).1
      have:(x.cps.toList.drop a)[c - a]?=U h:=by rw[UH,show a+(c - a)=c by omega];exact q1
      rw[hd,Rx (by omega)] at this
      exact absurd (RR this) (hf p (by simp))
     ·exact z
     ·exact absurd k0 (h3 _ (by omega) z)
    subst ec
    show strSub x a _::partsFrom x y.length _ rc=_
    have yl:y.cps.toList.length=y.length:=by simp[Str.length]
    rw[Dz (p:=p) (by rw[hd,show a+p.cps.toList.length - a=p.cps.toList.length by omega,List.take_left]),ih rc _ f (by simp) (λz hz=>hf z (Rj _ hz)) ?_ ?_ h4 hn]
    ·rw[<- TY,<- TY,hd,Vx,<- yl,Vx]
    ·omega
theorem yf{y:Str}{h:Nat}{t:List Nat}(hy:y.cps.toList=h::t)(hk:Builtin.Str.strKind y=1){ps:List Str}(hne:ps≠[])(hf:∀ p∈ps,h∉p.cps.toList):Txt.split (Str.join y ps) y=ps:=by
 generalize hx:Str.join y ps=x
 have ly:y.length=t.length+1:=by have:=congrArg List.length hy;simpa[Str.length] using this
 have lx:x.cps.toList.length=x.length:=by simp[Str.length]
 have main:∀ cuts f,ChainG x y x.length 0 cuts f->(∀ k,f<=k->¬ At x y x.length k)->partsFrom x y.length 0 cuts=ps:=λcuts f hc hn=>yo hy ps cuts 0 f hne hf (by rw[SK,hx]) (SJ _) hc hn
 obtain⟨f,hc,hn⟩:=occ_tight x y (by omega)
 have hm:=main _ f hc hn
 unfold Txt.split
 split
 ·rename_i q
  have k1:¬ Builtin.Str.strKind x<Builtin.Str.strKind y:=by rw[hk];unfold Builtin.Str.strKind;split<;>(try split)<;>omega
  have q2:x.length<y.length:=by simpa[k1] using q
  cases ps with
  | nil=>exact absurd rfl hne
  | cons p r=>
   cases r with
   | nil=>rw[<- hx];rfl
   | cons p2 r=>
    have:=congrArg (λz:Str=>z.cps.toList.length) hx
    simp only[FU,Rz,lx] at this
    have yl:y.cps.toList.length=y.length:=by simp[Str.length]
    omega
 ·split
  ·rename_i q
   rw[List.isEmpty_iff.mp q] at hm
   rw[<- hm]
   show [x]=[strSub x 0 x.length]
   rw[sub_whole]
  ·rw[partsBetween_eq];exact hm
end
section
variable{env e:ai}{S S':aa}{x y d:D}{a b:ME}{ms:MA}{t:MT}{g:MG}{bd:MB}{xs:List D}{cap:List (Option Nat)}
noncomputable def Fs(z:Str)(q:List D×aa):Option (D×aa):=match q.1 with
 | [.str y]=>if (y.length==0)=false/\z.length<=1000000 then U (.lst ((Txt.split z y).map .str),q.2) else Y
 | _=>Y
noncomputable def kSpl(ms:MA)(env:ai)(p:D×aa):Option (D×aa):=match p.1 with
 | .str z=>(ms env p.2).bind (Fs z)
 | _=>Y
theorem wk:cb a ms env S=(a env S).bind (kSpl ms env):=by rw[rj];rfl
theorem Fq:kSpl ms env (.str z,S)=(ms env S).bind (Fs z):=id rfl
theorem wR{z w:Str}(h:(w.length==0)=false)(hz:z.length<=1000000):Fs z ([.str w],S)=U (.lst ((Txt.split z w).map .str),S):=Ru ⟨h,hz⟩
noncomputable def kEm(env:ai)(q:D×aa):Option (List D×ai×aa):=U ([q.1],env,q.2)
theorem mEm_s:qx a env S=(a env S).bind (kEm env):=by rw[EX];rfl
theorem kEm_s:kEm env (d,S)=U ([d],env,S):=id rfl
noncomputable def kIB(g:MG)(t:MT)(b:MB)(env:ai)(q:List D×aa):Option (List D×ai×aa):=gn g t b q.1 env q.2
theorem ET:gz ms g t bd env S=(ms env S).bind (kIB g t bd env):=by rw[Ap];rfl
theorem Mj:kIB g t bd env (xs,S)=gn g t bd xs env S:=id rfl
noncomputable def JW(q:List D×ai×aa):Option (D×aa):=if q.1.length<=sizeLine then U (.lst q.1,q.2.2) else Y
noncomputable def kCN(g:MG)(t:MT)(b:MB)(cap:List (Option Nat))(env:ai)(q:List D×aa):Option (D×aa):=(gn g t b q.1 (fP cap env) q.2).bind JW
theorem Fb:bW ms g t bd cap env S=(ms env S).bind (kCN g t bd cap env):=by rw[lU];rfl
theorem kCN_s:kCN g t bd cap env (xs,S)=(gn g t bd xs (fP cap env) S).bind JW:=id rfl
theorem JV(h:xs.length<=1000):JW (xs,e,S)=U (.lst xs,S):=Ru (sz h)
theorem io{α:Type}{enc:α->D}(I:ai->Prop)(ws:α->List D):∀ (l:List α) (env:ai),I env->(∀ x∈l,∀ env,I env->∃ env1 env2,g (enc x) env S=U (env1,S)/\bd env1 S=U (ws x,env2,S)/\I env2)->∃ env',gn g aP bd (l.map enc) env S=U (l.flatMap ws,env',S)/\I env'
 | [],env,h,_=>⟨env,rfl,h⟩
 | x::l,env,h,hs=>by
  obtain⟨env1,env2,h1,h2,h3⟩:=hs x (by simp) env h
  obtain⟨env',h4,h5⟩:=io I ws l env2 h3 λy hy=>hs y (Rj _ hy)
  refine⟨env',?_,h5⟩
  show(g (enc x) env S).bind _=_
  rw[h1,ob]
  dsimp only
  rw[il,ob]
  dsimp only
  rw[Ru rfl,h2,ob]
  dsimp only
  rw[h4]
  rfl
noncomputable def OW(q:List (aJ×D)×aa):Option (D×aa):=U (.dct (q.1.map (·.1)) (q.1.map (·.2)),q.2)
noncomputable def kDC(g:MG)(t:MT)(kx vx:ME)(cap:List (Option Nat))(env:ai)(q:List D×aa):Option (D×aa):=(jZ g t kx vx q.1 (fP cap env) q.2 []).bind OW
theorem EZ:cA ms g t a b cap env S=(ms env S).bind (kDC g t a b cap env):=by rw[rK];rfl
theorem kDC_s:kDC g t a b cap env (xs,S)=(jZ g t a b xs (fP cap env) S []).bind OW:=id rfl
theorem OV{l:List (aJ×D)}:OW (l,S)=U (.dct (l.map (·.1)) (l.map (·.2)),S):=id rfl
theorem pB{α:Type}{enc:α->D}(I:ai->Prop)(key:α->Str):∀ (l:List α) (env:ai) (S:aa) (kvs:List (aJ×D)),I env->kvs.length+l.length<=1000->(∀ x∈l,∀ env S,I env->∃ env1 T,g (enc x) env S=U (env1,S)/\a env1 S=U (.str (key x),S++T)/\(∀ S,b env1 S=U (enc x,S))/\I env1) ->
  ∃ T,jZ g aP a b (l.map enc) env S kvs=U (bi kvs (l.map λx=>(.inr (key x),enc x)),S++T)
 | [],env,S,kvs,h,_,_=>⟨[],by rw[RU];rfl⟩
 | x::l,env,S,kvs,h,hl,hs=>by
  rw[Rr] at hl
  obtain⟨env1,T,h1,h2,h3,h4⟩:=hs x (by simp) env S h
  have hp:(ie kvs (.inr (key x)) (enc x)).length<=kvs.length+1:=by
   unfold ie
   split
   ·have:∀ l:List (aJ×D),(vC l (.inr (key x)) (enc x)).length=l.length:=λl=>by induction l with | nil=>rfl | cons p r ih=>rw[vC,Rr,Rr,ih]
    rw[this];omega
   ·simp
  obtain⟨T',h5⟩:=pB I key l env1 (S++T) (ie kvs (.inr (key x)) (enc x)) h4 (by omega) λy hy=>hs y (Rj _ hy)
  refine⟨T++T',?_⟩
  show(g (enc x) env S).bind _=_
  rw[h1,ob]
  dsimp only
  rw[il,ob]
  dsimp only
  rw[Ru rfl,h2,ob]
  dsimp only
  rw[h3,ob]
  dsimp only
  rw[show dM (.str (key x))=U (.inr (key x)) from rfl,ob,Ru (Ry (show kvs.length<1001 by omega) (by decide)),h5,Su]
  rfl
theorem sD{α:Type}{key:α->Str}{enc:α->D}:∀ {l:List α},(l.map key).Nodup->∀ x∈l,cn (l.map λx=>(.inr (key x),enc x)) (.inr (key x))=U (enc x)
 | y::l,hn,x,hx=>by
  rw[RB,To] at hn
  show(if (Sum.inr (key y):aJ)=Sum.inr (key x) then U (enc y) else cn _ _)=_
  rcases Rv.mp hx with rfl | hx
  ·rw[Ru rfl]
  ·rw[RH (λz=>hn.1 (by rw[Vp z];exact List.mem_map_of_mem hx))]
   exact sD hn.2 x hx
theorem vY{α:Type}{key:α->Str}{enc:α->D}{l:List α}(hn:(l.map key).Nodup):bi [] (l.map λx=>((.inr (key x):aJ),enc x))=l.map λx=>(.inr (key x),enc x):=by
 apply jC
 rw[TX]
 have e:((λp:aJ×D=>p.1) ∘ λx=>((.inr (key x):aJ),enc x))=(Sum.inr:Str->aJ) ∘ key:=rfl
 rw[e,<- TX]
 exact List.pairwise_map.mpr (hn.imp λh z=>h (Vp z))
noncomputable def FI(p:List D×aa):Option (List D×aa):=match p.1 with | [.lst xs]=>U (dZ 0 xs,p.2) | _=>Y
theorem EW:cz ms env S=(ms env S).bind FI:=by rw[rH];rfl
theorem FH:FI ([.lst xs],S)=U (dZ 0 xs,S):=id rfl
theorem zf{l:List (aJ×D)}:el S (.str z) (.dct (l.map (·.1)) (l.map (·.2)))=U (.bl (!(cn l (.inr z)).isSome)):=by
 show U (D.bl (!(cn ((l.map (·.1)).zip (l.map (·.2))) (.inr z)).isSome))=_
 rw[jS]
end
noncomputable def nX:MS:=
 ax (bM (aL (aB fGt (aB aX '0' 0e0) 0e0)) (ax (au (aB iw (aB aX '0' 0e0) '1') 'b') (ax (au (aB Ci (aB aX '0' 0e0) '1') (cC '0' 0e0)) (bg '2'))) aI) (ax (au (aB bu (aB aX '0' 2e0) 1e0) (cC '0' 2e0)) (ax (au (aB iw (aB bu (aB bu (aB dA (aB aX '0' 1e0) 48271e0) 12345e0) (aB dA 7e0 (aB aX '0' 2e0))) 2147483647e0) (cC '0' 1e0)) (bg (aB iw (aB Ci (aB iw (aB dA (aB aX '0' 1e0) (aB aX '0' 1e0)) 1999999973e0) 64e0) '1'))))
noncomputable def yO:MS:=
 ax (au 1e0 '`') (ax (eG (aF (ac 10e0 af)) 'a' (au (aB dA '0' (aB qB 10e0 60e0)) '`')) (bg '0'))
noncomputable def jE:MS:=
 ax (bM (aL (aB fLt '1' (aO (az fm) (ac '0' af)))) (bg (aB aX '0' '1')) aI) (bg 0e0)
noncomputable def nY(cellAt far:List D->aa->Option (D×aa)):MS:=
 ax (au (ak 2 cellAt (ac '0' (ac (aB iw '1' (aO (az pN) (ac 1e0 (ac (aO (az fm) (ac '0' af)) af)))) af))) 'b') (ax (au (aB iw (aB dA (aB bu (aB bu (aB iw '2' 2147483629e0) (aB dA (aB dA 7919e0 '1') '1')) 11e0) 48271e0) 2147483647e0) 'c') (ax (au (aB iw (aB bu (aB bu (aB dA '3' 39373e0) (aB dA 7e0 '1')) 1e0) 2147483629e0) 'c') (ax (bM (aL (aB fLt '2' (aB qB 10e0 18e0))) (au 0e0 'b') aI) (bg (dJ (ac (aB iw '2' (ak 0 far af)) (ac '3' (ac 0e0 af))))))))
theorem QM{a b c:D}:oo [a,b,c] 0=U a/\oo [a,b,c] 1=U b/\oo [a,b,c] 2=U c:=⟨rfl,rfl,rfl⟩
noncomputable def Pk(S:aa)(r:Nat):Prop:=∃ a b c:Int,S[r]?=U (.lst [.int a,.int b,.int c])/\0<=a/\0<=b/\b<2147483647
noncomputable def p60:Int:=1000000000000000000000000000000000000000000000000000000000000
theorem Oc:(10:Int)^(60:Int).toNat=p60:=by decide +kernel
theorem Ob:p60.natAbs<=2^(200*1):=by decide +kernel
theorem Jo:0<p60:=by decide +kernel
theorem Jp{i:Int}(h:i.natAbs<2^4000):kR i p60=true:=by
 unfold kR
 rw[Sg h,Sg (p:=p60.natAbs<2^4000) (by decide +kernel)]
 simp
noncomputable def Go:MS:=au (aB dA '0' (aB qB 10e0 60e0)) '`'
theorem PL:qB S (.int 10) (.int 60)=U (.int p60):=by
 have h:=Gp (S:=S) (i:=10) (j:=60) (by decide +kernel)
 rw[Oc] at h
 exact h
theorem Gn{o:Option D}(h1:qB S (.int 10) (.int 60)=U (.int p))(h2:dA S (.int a) (.int p)=U (.int (a*p))):Go [U (.int a),o] S=U (.nx [U (.int (a*p)),o] S):=by
 simp[Go,h1,h2]
theorem Ki{o:Option D}(h:kR a p60=true):Go [U (.int a),o] S=U (.nx [U (.int (a*p60)),o] S):=Gn PL (iu h)
theorem farL{B:Nat}(hB:∀ i:Int,i.natAbs<B->kR i p60=true)(l:List D):∀ (a:Int) (o:Option D),0<a->a.natAbs*2^(200*l.length)<B->∃ q o',cx 'a' Go l [U (.int a),o] S=U (.nx [U (.int q),o'] S)/\0<q:=by
 induction l with
 | nil=>exact λa o h _=>⟨a,o,rfl,h⟩
 | cons d l ih=>
  intro a o h hb
  have h1:a.natAbs<B:=TW (Nat.le_mul_of_pos_right _ (Nat.pow_pos (by decide))) hb
  obtain⟨q,o',e,hq⟩:=ih (a*p60) (U d) (Int.mul_pos h Jo) (by
   rw[Int.natAbs_mul]
   refine TW ?_ hb
   rw[Rr,Nat.mul_add,Nat.pow_add,Nat.mul_assoc]
   refine TM _ ?_
   rw[Up]
   exact TM _ Ob)
  refine⟨q,o',?_,hq⟩
  rw[im,aK,ob,ur]
  show(Go [U (.int a),U d] S).bind _=_
  rw[Ki (hB a h1),ob,oa]
  exact e
theorem Gm{N:List Str}(hN:N.length=2):∃ q:Int,bY N yO 0 [] S=U (.int q,S)/\0<q:=by
 obtain⟨q,o',e,hq⟩:=farL (S:=S) (λi h=>Jp h) (aS 0 10) 1 Y (by decide) (by decide +kernel)
 refine⟨q,?_,hq⟩
 rw[da (show([]:List D).length=0 from rfl)]
 have:bh N []=[Y,Y]:=by simp[bh,hN,List.replicate]
 rw[this]
 have k1:Fw ([.int 10],S)=U (aS 0 10,S):=jk (by decide) (by decide)
 have e':cx 'a' (au (aB dA '0' (aB qB 10e0 60e0)) '`') (aS 0 10) [U (.int 1),Y] S=U (.nx [U (.int q),o'] S):=e
 simp only[yO,dQ,bx,cB,ob,bz,aK,jh,cr,df,pj,eQ,ar,aq,aD,ao,k1,pD,e',fV,aw,fg,oj,av,iK,fi]
theorem Bv{m:Int}{N:List Str}(hN:N.length=3)(h:Pk S r)(h0:0<m)(h1:m<1073741824) :
  ∃ q S',bY N nX 2 [.ref r,.int m] S=U (.int q,S')/\0<=q/\q<m/\Pk S' r/\(∀ j,j≠r->S'[j]?=S[j]?)/\S'.length=S.length:=by
 obtain⟨a,b,c,h,ha,hb,hb'⟩:=h
 have hr:r<S.length:=(Ri.mp h).1
 have hm:∀ x:Int,0<=x%m/\x%m<m:=λx=>⟨Tr _ (by omega),UJ _ h0⟩
 have hst:bh N [.ref r,.int m]=[U (.ref r),U (.int m),Y]:=by simp[bh,hN]
 rw[da (show [D.ref r,D.int m].length=2 from rfl),hst]
 have hs:∀ c:mL,(S.set r c)[r]?=U c:=λc=>Sd hr
 by_cases hp:0<a
 ·refine⟨a%m,S.set r (.lst [.int (a / m),.int b,.int c]),?_,(hm a).1,(hm a).2,⟨a / m,b,c,hs _,Int.ediv_nonneg ha (by omega),hb,hb'⟩,λj hj=>by rw[RS (Ne.symm hj)],by simp⟩
  have w:=lg (env:=[U (.ref r),U (.int m),U (.int (a%m))]) (d:=.int (a / m)) h (show yX _ 0=U 0 from rfl)
  simp[nX,jG h,hp,gr h0,Gv h0 h1,QM,w]
 ·have hB:∀ x:Int,0<=x%2147483647/\x%2147483647<2147483647:=λx=>⟨Tr _ (by decide),UJ _ (by decide)⟩
  let b':=(b*48271+12345+7*(c+1))%2147483647
  have hb2:=hB (b*48271+12345+7*(c+1))
  have m3:kR b' b'=true:=tO (by omega) (by omega)
  have s1:(S.set r (.lst [.int a,.int b,.int (c+1)]))[r]?=U (.lst [.int a,.int b,.int (c+1)]):=hs _
  have s2:((S.set r (.lst [.int a,.int b,.int (c+1)])).set r (.lst [.int a,.int b',.int (c+1)]))[r]?=U (.lst [.int a,.int b',.int (c+1)]):=Sd (by simpa using hr)
  refine⟨b'*b'%1999999973 / 64%m,(S.set r (.lst [.int a,.int b,.int (c+1)])).set r (.lst [.int a,.int b',.int (c+1)]),?_,(hm _).1,(hm _).2,⟨a,b',c+1,s2,ha,(hB _).1,(hB _).2⟩,λj hj=>by rw[RS (Ne.symm hj),RS (Ne.symm hj)],by simp⟩
  have e1:dA (S.set r (.lst [.int a,.int b,.int (c+1)])) (.int b) (.int 48271)=U (.int (b*48271)):=iu (tN (by decide) (by decide))
  have e2:dA (S.set r (.lst [.int a,.int b,.int (c+1)])) (.int 7) (.int (c+1))=U (.int (7*(c+1))):=iu (tO (by decide) (by decide))
  have e3:∀ S x,iw S (.int x) (.int 2147483647)=U (.int (x%2147483647)):=λ_ _=>gr (by decide)
  have e4:∀ S x,iw S (.int x) (.int 1999999973)=U (.int (x%1999999973)):=λ_ _=>gr (by decide)
  have e5:∀ S x,Ci S (.int x) (.int 64)=U (.int (x / 64)):=λ_ _=>Gv (by decide) (by decide)
  have w1:=lg (env:=[U (.ref r),U (.int m),Y]) (d:=.int (c+1)) h (show yX _ 2=U 2 from rfl)
  have w2:=lg (env:=[U (.ref r),U (.int m),Y]) (d:=.int b') s1 (show yX _ 1=U 1 from rfl)
  simp[nX,jG h,jG s1,jG s2,hp,gr h0,QM,e1,e2,e3,e4,e5,w1]
  rw[show(b*48271+12345+7*(c+1))%2147483647=b' from rfl,w2]
  simp[jG (hs _),QM,iu m3,e4,e5,gr h0]
theorem xI{S:aa}{ns:List Int}{k:Int}{N:List Str}(hN:N.length=2)(h0:0<=k):∃ v,bY N jE 2 [.rol (ns.map .int),.int k] S=U (.int v,S):=by
 rw[da (show [D.rol (ns.map .int),D.int k].length=2 from rfl)]
 have hst:bh N [D.rol (ns.map .int),D.int k]=[U (D.rol (ns.map .int)),U (.int k)]:=by simp[bh,hN]
 rw[hst]
 by_cases h:k<ns.length
 ·have e:oo (ns.map D.int) k=U (.int (ns[k.toNat]'(by omega))):=by
   rw[Ic h0 (by simpa using h)];simp
  exact⟨ns[k.toNat]'(by omega),by simp[jE,h,e]⟩
 ·exact⟨0,by simp[jE,h]⟩
theorem QV{S:aa}{a b:Int}(ha:0<=a)(hb:0<=b)(hb':b<2147483647):Pk (S++[.lst [.int a,.int b,.int c]]) S.length:=⟨a,b,c,by simp,ha,hb,hb'⟩
theorem BK{S:aa}{ns:List Int}{k:Int}{N:List Str}{cellAt far:List D->aa->Option (D×aa)}(hN:N.length=4)(h0:0<=k)(h1:k<=100000)
  (hc:∀ S k,0<=k->∃ v,cellAt [.rol (ns.map .int),.int k] S=U (.int v,S)) (hf:∀ S,∃ q,far [] S=U (.int q,S)/\0<q) :
  ∃ a b,bY N (nY cellAt far) 2 [.rol (ns.map .int),.int k] S=U (.ref S.length,S++[.lst [.int a,.int b,.int 0]])/\0<=a/\0<=b/\b<2147483647:=by
 rw[da (show [D.rol (ns.map .int),D.int k].length=2 from rfl)]
 have hst:bh N [D.rol (ns.map .int),D.int k]=[U (D.rol (ns.map .int)),U (.int k),Y,Y]:=by simp[bh,hN,List.replicate]
 rw[hst]
 have hmx:0<(if (ns.length:Int)>1 then(ns.length:Int) else 1):=by split<;>omega
 obtain⟨v,hv⟩:=hc S (k%(if (ns.length:Int)>1 then(ns.length:Int) else 1)) (Tr _ (by omega))
 obtain⟨q,hq,q0⟩:=hf S
 have e1:∀ S x,iw S (.int x) (.int 2147483629)=U (.int (x%2147483629)):=λ_ _=>gr (by decide)
 have e2:∀ S x,iw S (.int x) (.int 2147483647)=U (.int (x%2147483647)):=λ_ _=>gr (by decide)
 have e3:∀ S x,iw S (.int x) (.int q)=U (.int (x%q)):=λ_ _=>gr q0
 have p1:∀ S,dA S (.int 7919) (.int k)=U (.int (7919*k)):=λ_=>iu (tO (by decide) (by decide))
 have p2:∀ S,dA S (.int (7919*k)) (.int k)=U (.int (7919*k*k)):=λ_=>iu (tN (by omega) (by omega))
 have p3:∀ S x,dA S (.int x) (.int 48271)=U (.int (x*48271)):=λ_ _=>iu (tN (by decide) (by decide))
 have p4:∀ S x,dA S (.int x) (.int 39373)=U (.int (x*39373)):=λ_ _=>iu (tN (by decide) (by decide))
 have p5:∀ S,dA S (.int 7) (.int k)=U (.int (7*k)):=λ_=>iu (tO (by decide) (by decide))
 have pw:∀ S,qB S (.int 10) (.int 18)=U (.int 1000000000000000000):=λS=>by
  have h:=Gp (S:=S) (i:=10) (j:=18) (by decide +kernel)
  rwa[show(10:Int)^(18:Int).toNat=1000000000000000000 by decide +kernel] at h
 have hb:∀ x:Int,0<=x%2147483629/\x%2147483629<2147483647:=λx=>⟨Tr _ (by decide),by have:=UJ x (show(0:Int)<2147483629 by decide);omega⟩
 have kl:∀ S x y,FD ([.int x,.int y,.int 0],S)=U (.ref S.length,S++[.lst [.int x,.int y,.int 0]]):=λ_ _ _=>FC (by simp)
 by_cases h:v<1000000000000000000
 ·refine⟨0%q,(((v%2147483629+7919*k*k+11)*48271%2147483647)*39373+7*k+1)%2147483629,?_,Tr _ (by omega),(hb _).1,(hb _).2⟩
  simp[-Int.zero_emod,nY,gr hmx,hv,e1,e2,e3,p1,p2,p3,p4,p5,pw,h,hq,kl]
 ·refine⟨v%q,(((v%2147483629+7919*k*k+11)*48271%2147483647)*39373+7*k+1)%2147483629,?_,Tr _ (by omega),(hb _).1,(hb _).2⟩
  simp[nY,gr hmx,hv,e1,e2,e3,p1,p2,p3,p4,p5,pw,h,hq,kl]
theorem lp{tg:MG}{p:MS}(I:ai->aa->Prop):∀ (xs:List D),(∀ d∈xs,∀ env S,I env S->∃ env1 S1 env2 S2,tg d env S=U (env1,S1)/\p env1 S1=U (.nx env2 S2)/\I env2 S2) ->
  ∀ env S,I env S->∃ env' S',cx tg p xs env S=U (.nx env' S')/\I env' S'
 | [],_,env,S,h=>⟨env,S,rfl,h⟩
 | d::xs,hs,env,S,h=>by
  obtain⟨env1,S1,env2,S2,e1,e2,h2⟩:=hs d Rf env S h
  obtain⟨env',S',e3,h3⟩:=lp I xs (λd hd=>hs d (Rj _ hd)) env2 S2 h2
  exact⟨env',S',by rw[im,e1,ob,ur,e2,ob,oa,e3],h3⟩
theorem yx{lo:Int}{d:D}(h:d∈aS lo n):∃ i:Nat,i<n/\d=.int (lo+(i:Int)):=by
 obtain⟨i,hi⟩:=Ur.mp h
 exact⟨i,oH lo n i d hi⟩
noncomputable abbrev PF:=List D->aa->Option (D×aa)
noncomputable def Ij(pick:PF):Prop:=∀ (S:aa) (r:Nat) (m:Int),Pk S r->0<m->m<1073741824->∃ q S',pick [.ref r,.int m] S=U (.int q,S')/\0<=q/\q<m/\Pk S' r/\(∀ j,j≠r->S'[j]?=S[j]?)/\S'.length=S.length
noncomputable def EntOk(n:Int)(xs:List D)(d:D):Prop:=∃ (g:Int) (w:Str) (m:Int) (t:D),d=.tup [.int g,.str w,.int m,t]/\0<=g/\g<n/\(w = "read"\/w = "write")/\0<=m/\m<=999/\(t=.non\/∃ k,t=.int k/\1<=k/\k<=9)/\oo xs g=U (.str "out")
theorem EntOk.up{n':Int}{d:D}(h:EntOk n xs d)(hn:n<=n'):EntOk n' xs d:=by
 obtain⟨g,w,m,t,e,h0,h1,r⟩:=h
 exact⟨g,w,m,t,e,h0,by omega,r⟩
theorem Gu{S:aa}{q:Nat}(h:S[q]?=U (.lst xs)):az fm [.ref q] S=U (.int xs.length,S):=by
 have e:fw S (.ref q)=U xs:=by simp only[fw,h]
 show((fw S (.ref q)).bind _).bind _=_
 rw[e];rfl
theorem Pk.app{c:mL}(h:Pk S r):Pk (S++[c]) r/\S.length≠r:=by
 obtain⟨a,b,d,h,z⟩:=h
 have hr:=(Ri.mp h).1
 exact⟨⟨a,b,d,by rw[Rx hr];exact h,z⟩,by omega⟩
theorem jW(lo:Int)(n:Nat):(aS lo n).length=n:=by unfold aS;simp
noncomputable def Keep(r:Nat)(S S':aa):Prop:=(∀ j,j≠r->S'[j]?=S[j]?)/\S'.length=S.length
theorem Keep.trans(h:Keep r S S')(h':Keep r S' S''):Keep r S S'':=⟨λj z=>(h'.1 j z).trans (h.1 j z),h'.2.trans h.2⟩
theorem Keep.refl:Keep r S S:=⟨λ_ _=>rfl,rfl⟩
noncomputable def iq(F:PF):MS:=
 ax (bM (cF (cP "dict" '1')) (ax (bM (fq (cw (cF (cP "dict" '0'))) (aL (aB ux (aO (az fm) (ac '0' af)) (aO (az fm) (ac '1' af))))) (bg (mC (.bl false))) aI) (ax (au eE 'b') (bg (aO (az zh) (ac (bP (cO '1') '`' aP (gc (aB fIn '0' '2') (gc (ak 2 F (ac (aB aX '3' '0') (ac '0' af))) (ak 2 F (ac (aB aX '2' '0') (ac (aB aX '1' '0') af))))) [Y,U 1,U 0,U 2]) af))))) aI) (ax (bM (fq (cF (cP "list" '1')) (cF (cP "tuple" '1'))) (ax (bM (fq (aL (aB ux (cP "list" '0') (cP "list" '1'))) (aL (aB ux (cP "tuple" '0') (cP "tuple" '1')))) (bg (mC (.bl false))) aI) (bg (gc (aB nj (aO (az fm) (ac '0' af)) (aO (az fm) (ac '1' af))) (aO (az zh) (ac (bP (gO (ac '0' (ac '1' af))) (bI 2 (aU '`' (aU 'a' cm))) aP (ak 2 F (ac '0' (ac '1' af))) [Y,Y]) af))))) aI) (ax (bM (aL (aB PX '1' (mC .non))) (bg (aB PX '0' (mC .non))) aI) (ax (bM (cF (cP "str" '1')) (bg (gc (cP "str" '0') (aB nj '0' '1'))) aI) (ax (bM (fq (cF (cP "bool" '1')) (cF (cP "bool" '0'))) (bg (gc (cP "bool" '0') (gc (cP "bool" '1') (aB nj '0' '1')))) aI) (bg (gc (cP "int" '0') (aB nj '0' '1')))))))
noncomputable def fz:Nat->D->Bool
 | 0,_=>false
 | _+1,.non=>true
 | _+1,.bl _=>true
 | _+1,.int _=>true
 | _+1,.str _=>true
 | j+1,.tup xs=>decide (xs.length<=1000)&&xs.all (fz j)
 | _+1,_=>false
theorem PV{S:aa}{d:D}(h:fz j d=true):iA "dict" S d=U (.bl false)/\iA "list" S d=U (.bl false):=by
 cases j with
 | zero=>cases h
 | succ j=>cases d<;>first | exact⟨rfl,rfl⟩ | (exfalso;simp[fz] at h)
theorem jK:∀ xs:List D,(gL xs xs).length=xs.length
 | []=>rfl
 | x::r=>by rw[Do,Rr,Rr,jK r]
theorem lH:∀ n:Nat,iF (List.replicate n (D.bl true))=U (List.replicate n true)
 | 0=>rfl
 | n+1=>by
  rw[RP,RP]
  have:=lH n
  simp only[iF,this];rfl
theorem PP{k:Bool}:ux S (.bl k) (.bl l)=U (.bl (!(k==l))):=pM (by simp[bv]) (by simp[bv])
theorem DX{F:PF}{S:aa}{t1 t2:Option D}:∀ (xs:List D) (a b:Option D),(∀ d∈xs,F [d,d] S=U (.bl true,S))->dn (bI 2 (aU '`' (aU 'a' cm))) aP (ak 2 F (ac '0' (ac '1' af))) (gL xs xs) [a,b] S=U (List.replicate xs.length (.bl true),S)
 | [],a,b,_=>by simp
 | x::r,a,b,h=>by
  have h1:=h x (by simp)
  have h2:=DX (t1:=t1) (t2:=t2) r (U x) (U x) λd hd=>h d (Rj _ hd)
  rw[Do,jg]
  simp[h1,h2,RP]
theorem vF{R:Nat->PF}{N:List Str}(hN:N.length=3)(hR:∀ j,R (j+1)=bY N (iq (R j)) 2){S:aa}:∀ (j:Nat) (d:D),fz j d=true->R j [d,d] S=U (.bl true,S)
 | 0,d,h=>by cases d<;>cases h
 | j+1,d,h=>by
  have hst:bh N [d,d]=[U d,U d,Y]:=by simp[bh,hN,List.replicate]
  rw[hR,da (show [d,d].length=2 from rfl),hst]
  obtain⟨i1,i2⟩:=PV (S:=S) h
  cases d with
  | tup xs=>
   have hx:xs.length<=1000/\xs.all (fz j)=true:=by simpa[fz] using h
   have it:iA "tuple" S (.tup xs)=U (.bl true):=rfl
   have hl:=DX (F:=R j) (S:=S) (t1:=Y) (t2:=Y) xs Y Y λd hd=>vF hN hR j d (RI.mp hx.2 d hd)
   have kc:rQ (bI 2 (aU '`' (aU 'a' cm))) aP (ak 2 (R j) (ac '0' (ac '1' af))) [Y,Y] [U (.tup xs),U (.tup xs),Y] (gL xs xs,S)=U (.lst (List.replicate xs.length (.bl true)),S):=by
    rw[pE (by rw[jK];exact hx.1)]
    show(dn _ _ _ (gL xs xs) [Y,Y] S).bind _=_
    rw[hl];rfl
   have fa:az zh [.lst (List.replicate xs.length (D.bl true))] S=U (.bl true,S):=by
    rw[PY (lH _)];simp
   simp[iq,i1,i2,it,PP,kc,fa]
  | txt=>cases h
  | obj=>cases h
  | exc C fl i=>cases h
  | non=>simp[iq,i1,i2,show iA "tuple" S .non=U (.bl false) from rfl,rW]
  | bl k=>simp[iq,i1,i2,show iA "tuple" S (.bl k)=U (.bl false) from rfl,show iA "str" S (.bl k)=U (.bl false) from rfl,show iA "bool" S (.bl k)=U (.bl true) from rfl,rW]
  | int i=>simp[iq,i1,i2,show iA "tuple" S (.int i)=U (.bl false) from rfl,show iA "str" S (.int i)=U (.bl false) from rfl,show iA "bool" S (.int i)=U (.bl false) from rfl,show iA "int" S (.int i)=U (.bl true) from rfl,rW]
  | str x=>simp[iq,i1,i2,show iA "tuple" S (.str x)=U (.bl false) from rfl,show iA "str" S (.str x)=U (.bl true) from rfl,rW]
  | lst _=>simp[fz] at h
  | rol _=>simp[fz] at h
  | dct _ _=>simp[fz] at h
  | ref _=>simp[fz] at h
theorem uV{S:aa}{c:mL}:(S++[c])[S.length]?=U c:=by simp
theorem Ly{S:aa}{c d:mL}:(S++[c]).set S.length d=S++[d]:=by
 rw[List.set_append,RH (Sy _)];simp
inductive Wd where | out | reads | rising | writes | raised
deriving DecidableEq
noncomputable def Wd.s:Wd->Str
 | .out=>"out"
 | .reads=>"reads"
 | .rising=>"rising"
 | .writes=>"writes"
 | .raised=>"raised"
structure En where
 g:Nat
 wr:Bool
 m:Int
 t:Option Int
noncomputable def cL(b:Bool):Str:=if b then "write" else "read"
noncomputable def cS:Option Int->D
 | none=>.non
 | some k=>.int k
noncomputable def En.d(e:En):D:=.tup [.int (e.g:Nat),.str (cL e.wr),.int e.m,cS e.t]
noncomputable abbrev Rm:=List Wd×List En
noncomputable def Wd.d(w:Wd):D:=.str w.s
noncomputable def esD(es:List En):D:=.tup (es.map En.d)
inductive Rw where | rows | readers | writers | turns | passes
deriving DecidableEq
noncomputable def Rw.s:Rw->Str
 | .rows=>"rows"
 | .readers=>"readers"
 | .writers=>"writers"
 | .turns=>"turns"
 | .passes=>"passes"
structure Rl where
 w:Rw
 a:Int
 b:Int
 c:Int
noncomputable def Rl.d(r:Rl):D:=.tup [.str r.w.s,.int r.a,.int r.b,.int r.c]
structure Rl.Ok(r:Rl):Prop where
 a0:0<=r.a
 a5:r.a<=5
 b0:0<=r.b
 b9:r.b<=9
 c0:0<=r.c
 c1:r.c<=1
section
variable{α:Type}{enc:α->D}{p:α->Bool}{f:α->D}{t:MT}{e:ME}{rest:ai}{S:aa}
theorem Mz:∀ (xs:List α) (a:Option D),(∀ x∈xs,t (U (enc x)::rest) S=U (p x,S))->(∀ x∈xs,p x=true->e (U (enc x)::rest) S=U (f x,S))->dn '`' t e (xs.map enc) (a::rest) S=U ((xs.filter p).map f,S)
 | [],a,_,_=>by simp
 | x::r,a,h,h2=>by
  have ih:=Mz r (U (enc x)) (λy hy=>h y (Rj _ hy)) λy hy=>h2 y (Rj _ hy)
  rw[RB,jg,aK,ob,jh,FQ,h x (by simp),ob]
  cases hp:p x with
  | true=>rw[FP,h2 x (by simp) hp,ob,FO,ih,ob,FN,List.filter_cons_of_pos hp,RB]
  | false=>rw[Pj,ih,List.filter_cons_of_neg (by simp[hp])]
theorem Fj{a:Option D}{xs:List α}(hc:fP cap env=a::rest)(hl:xs.length<=1000)(h:∀ x∈xs,t (U (enc x)::rest) S=U (p x,S))(h2:∀ x∈xs,p x=true->e (U (enc x)::rest) S=U (f x,S)) :
  rQ '`' t e cap env (xs.map enc,S)=U (.lst ((xs.filter p).map f),S):=by
 rw[pE (by rw[Rt];exact hl),hc,Mz xs a h h2,ob,lh]
end
theorem Ib{α:Type}{xs:List α}{i:Nat}{x:α}(h:xs[i]?=U x):oo xs (i:Int)=U x:=by
 have hl:=(Ri.mp h).1
 rw[Ic (by omega) (by omega)]
 rw[Ri] at h
 obtain⟨_,h⟩:=h
 simpa using h
theorem LP{d i:Nat}:HT.dF n d (U (i:Int))=min i n:=by
 show(if (i:Int)<0 then((i:Int)+(n:Int)).toNat else min (i:Int).toNat n)=_
 rw[RH (by omega),SB]
theorem LQ{d:Nat}:HT.dF n d Y=d:=rfl
theorem CN{α:Type}(xs:List α)(i:Nat)(h:i<=xs.length):gB xs Y (U (i:Int))=xs.take i:=by
 unfold gB
 rw[LP,LQ,Nat.min_eq_left h];simp
theorem CO{α:Type}(xs:List α)(i:Nat)(h:i<=xs.length):gB xs (U (i:Int)) Y=xs.drop i:=by
 unfold gB
 rw[LP,LQ,Nat.min_eq_left h,VS (by simp)]
noncomputable def letB(r:Rl)(ws:List Wd)(wr:Bool):Bool:=
 if ws.count .reads+ws.count .rising+ws.count .out<ws.length then false
 else if wr then decide (ws.count .reads+ws.count .rising=0)
 else decide (ws.count .rising=0)&&(decide (r.a=0)||decide (((ws.count .reads+ws.count .rising:Nat):Int)<r.a))
noncomputable def ni(i:Nat):D:=.int (i:Int)
noncomputable def nl(l:List Nat):D:=.lst (l.map ni)
noncomputable def orL(a b:List Nat):List Nat:=if a=[] then b else a
noncomputable def Px(p:En->Bool)(es:List En):List Nat:=(es.zipIdx.filter λq=>p q.1).map (·.2)
theorem EF(n:Nat):D.lst (aS 0 n)=nl (List.range n):=by
 unfold aS nl ni;congr 1;apply Wm;intro i _;rw[Int.zero_add]
noncomputable def frL(r:Rl)(es:List En):List Nat:=match r.w with
 | .rows=>(List.range es.length).take 1
 | .readers=>(orL (Px (λe=>!e.wr) es) (Px (λe=>e.wr) es)).take 1
 | .passes=>(List.range es.length).filter λi=>decide (kU (0::(es.take i).map λe=>e.m+1)<=r.b)
 | .turns=>(orL (Px (λe=>decide (e.m=1)) es) (orL (Px (λe=>e.wr) es) (Px (λe=>!e.wr) es))).take 1
 | .writers=>(orL (Px (λe=>e.wr) es) (Px (λe=>!e.wr) es)).take 1
structure ROk(R:Rm):Prop where
 out:∀ e∈R.2,R.1[e.g]?=U .out
 nd:(R.2.map (·.g)).Nodup
theorem yu:∀ (n:Nat) (l:List Nat),l.Nodup->(∀ x∈l,x<n)->l.length<=n
 | 0,l,_,h=>by cases l with | nil=>exact Rn _ | cons x _=>exact absurd (h x (by simp)) (by omega)
 | n+1,l,hn,h=>by
  by_cases hm:n∈l
  ·have:=yu n (l.erase n) (hn.erase n) λx hx=>by
    have h1:=h x (List.mem_of_mem_erase hx)
    have h2:x≠n:=λz=>by rw[z] at hx;exact(List.Nodup.not_mem_erase hn) hx
    omega
   rw[List.length_erase_of_mem hm] at this
   omega
  ·have:=yu n l hn λx hx=>by
    have h1:=h x hx
    have h2:x≠n:=λz=>hm (z ▸ hx)
    omega
   omega
theorem ROk.lt(h:ROk R){e:En}(he:e∈R.2):e.g<R.1.length:=(Ri.mp (h.out e he)).1
theorem ROk.len(h:ROk R):R.2.length<=R.1.length:=by
 have:=yu R.1.length (R.2.map (·.g)) h.nd λx hx=>by obtain⟨e,he,rfl⟩:=Sb.mp hx;exact h.lt he
 rwa[Rt] at this
structure Ev where
 w:Str
 g:Nat
noncomputable def Ev.d(e:Ev):D:=.tup [.str e.w,.int (e.g:Nat)]
noncomputable def Ig(ws:List Wd):List Nat:=(List.range ws.length).filter λg=>decide (ws[g]?=U .rising)&&decide (ws.count .out+1=ws.length)
noncomputable def someL(r:Rl)(ws:List Wd)(es:List En):List Nat:=(frL r es).filter λi=>match es[i]? with | some e=>letB r ws e.wr | none=>false
noncomputable def HZ(r:Rl)(e:En):En:={ e with m:=e.m+(if r.w=.passes then 1 else 0) }
noncomputable def Ke(r:Rl)(R:Rm)(i:Nat)(e:En):Rm:=(R.1.set e.g (if e.wr then .writes else .reads),(R.2.take i).map (HZ r)++R.2.drop (i+1))
noncomputable def stL(r:Rl)(R:Rm):Rm×List Ev:=match Ig R.1 with
 | g::_=>((R.1.set g .raised,R.2),[⟨"steps",g⟩])
 | []=>match someL r R.1 R.2 with
  | i::_=>match R.2[i]? with
   | some e=>(Ke r R i e,[⟨"in",e.g⟩])
   | none=>(R,[])
  | []=>(R,[])
noncomputable def seL(r:Rl):Nat->Rm->Rm×List Ev
 | 0,R=>(R,[])
 | n+1,R=>let a:=stL r R;let b:=seL r n a.1;(b.1,a.2++b.2)
theorem yz(r:Rl)(es:List En):(es.map (HZ r)).map (·.g)=es.map (·.g):=by rw[TX];rfl
theorem Kd{i:Nat}{e:En}(h:ROk R)(hi:R.2[i]?=U e):ROk (Ke r R i e):=by
 obtain⟨ws,es⟩:=R
 have hs:es=es.take i++e::es.drop (i+1):=by
  obtain⟨hl,he⟩:=Ri.mp hi
  rw[<- he,List.getElem_cons_drop,SG]
 have hnd:((es.take i).map (·.g)++e.g::(es.drop (i+1)).map (·.g)).Nodup:=by
  have:=h.nd
  dsimp only at this
  rw[hs] at this
  simpa using this
 rw[Tb,To] at hnd
 obtain⟨n1,⟨n2,n3⟩,n4⟩:=hnd
 refine⟨λx hx=>?_,?_⟩
 ·show(ws.set e.g _)[x.g]?=_
  have key:∃ y∈es,y.g=x.g/\x.g≠e.g:=by
   rcases RE.mp hx with hx | hx
   ·obtain⟨y,hy,rfl⟩:=Sb.mp hx
    refine⟨y,TD hy,rfl,λz=>?_⟩
    exact n4 _ (Sb.mpr ⟨y,hy,rfl⟩) _ Rf z
   ·refine⟨x,Ux hx,rfl,λz=>n2 ?_⟩
    rw[<- z];exact Sb.mpr ⟨x,hx,rfl⟩
  obtain⟨y,hy,e1,ne⟩:=key
  rw[RS (Ne.symm ne),<- e1]
  exact h.out y hy
 ·show(((es.take i).map (HZ r)++es.drop (i+1)).map (·.g)).Nodup
  rw[Sk,yz,Tb]
  exact⟨n1,n3,λa ha b hb=>n4 a ha b (Rj _ hb)⟩
theorem zI{g:Nat}(h:g∈Ig ws):ws[g]?=U .rising:=by
 have:=(SQ.mp h).2
 rw[Rg] at this
 exact Tu this.1
theorem Nl(h:ROk R):ROk (stL r R).1/\(stL r R).1.1.length=R.1.length:=by
 unfold stL
 split
 ·rename_i g l hg
  have hr:R.1[g]?=U .rising:=zI (by rw[hg];exact Rf)
  refine⟨⟨λe he=>?_,h.nd⟩,by simp⟩
  show(R.1.set g .raised)[e.g]?=_
  have h1:=h.out e he
  rw[RS (λz=>by rw[z,h1] at hr;cases hr)]
  exact h1
 ·split
  ·split
   ·rename_i e he
    exact⟨Kd h he,by simp[Ke]⟩
   ·exact⟨h,rfl⟩
  ·exact⟨h,rfl⟩
theorem DR:∀ (n:Nat) {R:Rm},ROk R->ROk (seL r n R).1/\(seL r n R).1.1.length=R.1.length
 | 0,R,h=>⟨h,rfl⟩
 | n+1,R,h=>by
  obtain⟨h1,h2⟩:=Nl (r:=r) h
  obtain⟨h3,h4⟩:=DR n h1
  exact⟨h3,h4.trans h2⟩
section
variable{S:aa}{ws:List Wd}{es:List En}{r:Rl}
theorem PN:ux S (nl l) (.lst [])=U (.bl (!decide (l=[]))):=by
 have ok:bv 40 (nl l)=true:=by
  show(l.map ni).all (bv 39)=true
  rw[RI];intro d hd;obtain⟨i,_,rfl⟩:=Sb.mp hd;rfl
 rw[pM ok rfl]
 cases l with
 | nil=>rfl
 | cons _ _=>rfl
end
inductive Ak where | up | down | leave | stop
deriving DecidableEq
noncomputable def Ak.s:Ak->Str
 | .up=>"up"
 | .down=>"down"
 | .leave=>"leave"
 | .stop=>"stop"
inductive Dd where
 | ask (wr:Bool) (g:Nat) (t:Option Int)
 | act (k:Ak) (g:Nat)
 | tick
noncomputable def Dd.d:Dd->D
 | .ask wr g t=>.tup [.str (cL wr),.int (g:Int),cS t]
 | .act k g=>.tup [.str k.s,.int (g:Int)]
 | .tick=>.tup [.str "tick"]
noncomputable def gf(t:Option Int):Prop:=∀ k,t=U k->0<=k/\k<=9
noncomputable def Dd.Ok(n:Nat):Dd->Prop
 | .ask _ g t=>g<n/\gf t
 | .act _ g=>g<n
 | .tick=>True
noncomputable def lf(pick:PF):MS:=
 ax (au (ak 2 pick (ac '0' (ac '1' af))) 'b') (ax (au (ak 2 pick (ac '0' (ac 12e0 af))) 'c') (ax (bM (aL (aB fLt '3' 6e0)) (bg (bj (ac (aB aX (bQ (ac (!"read") (ac (!"write") af))) (aB iw '3' 2e0)) (ac '2' (ac (aB aX (bQ (ac (mC .non) (ac (mC .non) (ac (mC .non) (ac 0e0 (ac 1e0 (ac 9e0 af))))))) (ak 2 pick (ac '0' (ac 6e0 af)))) af))))) aI) (ax (bM (aL (aB nj '3' 11e0)) (bg (bj (ac (!"tick") af))) aI) (bg (bj (ac (aB aX (bQ (ac (!"up") (ac (!"down") (ac (!"leave") (ac (!"leave") (ac (!"stop") af)))))) (aB Kj '3' 6e0)) (ac '2' af)))))))
theorem Lv{q:Int}(h0:0<=q)(h1:q<6):∃ t:Option Int,oo [D.non,D.non,D.non,D.int 0,D.int 1,D.int 9] q=U (cS t)/\gf t:=by
 have n:gf Y:=λk h=>by cases h
 have s:∀ j:Int,0<=j->j<=9->gf (U j):=λj a b k h=>by cases h;exact⟨a,b⟩
 obtain rfl | rfl | rfl | rfl | rfl | rfl:q=0\/q=1\/q=2\/q=3\/q=4\/q=5:=by omega
 ·exact⟨Y,rfl,n⟩
 ·exact⟨Y,rfl,n⟩
 ·exact⟨Y,rfl,n⟩
 ·exact⟨U 0,rfl,s 0 (by decide) (by decide)⟩
 ·exact⟨U 1,rfl,s 1 (by decide) (by decide)⟩
 ·exact⟨U 9,rfl,s 9 (by decide) (by decide)⟩
theorem QL{q:Int}(h0:6<=q)(h1:q<11):∃ k:Ak,oo [D.str "up",D.str "down",D.str "leave",D.str "leave",D.str "stop"] (q - 6)=U (.str k.s):=by
 obtain rfl | rfl | rfl | rfl | rfl:q=6\/q=7\/q=8\/q=9\/q=10:=by omega
 ·exact⟨.up,rfl⟩
 ·exact⟨.down,rfl⟩
 ·exact⟨.leave,rfl⟩
 ·exact⟨.leave,rfl⟩
 ·exact⟨.stop,rfl⟩
theorem at_wr{q:Int}:∃ wr:Bool,oo [D.str "read",D.str "write"] (q%2)=U (.str (cL wr)):=by
 obtain h | h:q%2=0\/q%2=1:=by omega
 ·exact⟨false,by rw[h];rfl⟩
 ·exact⟨true,by rw[h];rfl⟩
theorem Ht{pick:PF}(hp:Ij pick){S:aa}{r n:Nat}{N:List Str}(hN:N.length=4)(P:Pk S r)(h1:1<=n)(h9:n<=9):∃ (dd:Dd) (S':aa),bY N (lf pick) 2 [.ref r,.int (n:Int)] S=U (dd.d,S')/\dd.Ok n/\Pk S' r/\Keep r S S':=by
 have hst:bh N [D.ref r,.int (n:Int)]=[U (.ref r),U (.int (n:Int)),Y,Y]:=by simp[bh,hN,List.replicate]
 rw[da (show [D.ref r,D.int (n:Int)].length=2 from rfl),hst]
 obtain⟨g,S1,e1,g0,g1,P1,K1⟩:=hp _ _ (n:Int) P (by omega) (by omega)
 obtain⟨q,S2,e2,q0,q1,P2,K2⟩:=hp _ _ 12 P1 (by decide) (by decide)
 obtain⟨g',rfl⟩:∃ g':Nat,g=(g':Int):=⟨g.toNat,by omega⟩
 have md:∀ S,iw S (.int q) (.int 2)=U (.int (q%2)):=λS=>gr (by decide)
 by_cases h6:q<6
 ·obtain⟨l,S3,e3,l0,l1,P3,K3⟩:=hp _ _ 6 P2 (by decide) (by decide)
  obtain⟨t,et,ot⟩:=Lv l0 l1
  obtain⟨wr,ew⟩:=at_wr (q:=q)
  have k1:∀ S,jo ([D.str "read",D.str "write"],S)=U (.lst [D.str "read",D.str "write"],S):=λS=>cH (by simp)
  have k2:∀ S,jo ([D.non,D.non,D.non,D.int 0,D.int 1,D.int 9],S)=U (.lst [D.non,D.non,D.non,D.int 0,D.int 1,D.int 9],S):=λS=>cH (by simp)
  have k3:∀ S (a b c:D),gY ([a,b,c],S)=U (.tup [a,b,c],S):=λS a b c=>bS (by simp)
  refine⟨.ask wr g' t,S3,?_,⟨by omega,ot⟩,P3,Keep.trans K1 (Keep.trans K2 K3)⟩
  simp[lf,e1,e2,h6,k1,md,ew,e3,k2,et,k3,Dd.d]
 ·by_cases h11:q=11
  ·subst h11
   have k1:∀ S (a:D),gY ([a],S)=U (.tup [a],S):=λS a=>bS (by simp)
   refine⟨.tick,S2,?_,trivial,P2,Keep.trans K1 K2⟩
   simp[lf,e1,e2,k1,Dd.d]
  ·obtain⟨k,ek⟩:=QL (q:=q) (by omega) (by omega)
   have k1:∀ S,jo ([D.str "up",D.str "down",D.str "leave",D.str "leave",D.str "stop"],S)=U (.lst [D.str "up",D.str "down",D.str "leave",D.str "leave",D.str "stop"],S):=λS=>cH (by simp)
   have k2:∀ S (a b:D),gY ([a,b],S)=U (.tup [a,b],S):=λS a b=>bS (by simp)
   refine⟨.act k g',S2,?_,(by show g'<n;omega),P2,Keep.trans K1 K2⟩
   simp[lf,e1,e2,h6,SS.mpr h11,k1,ek,k2,Dd.d]
noncomputable def iY(es:List En)(g:Nat):Bool:=es.any λe=>decide (e.g=g)
noncomputable def HS(R:Rm):Dd->Bool
 | .tick=>true
 | .ask _ g _=>decide (R.1[g]?=U .out)&&!iY R.2 g
 | .act .up g=>decide (R.1[g]?=U .reads)
 | .act .down g=>decide (R.1[g]?=U .writes)||decide (R.1[g]?=U .raised)
 | .act .leave g=>decide (R.1[g]?≠U .out)
 | .act .stop g=>iY R.2 g||decide (R.1[g]?=U .rising)
noncomputable def mkL(r:Rl)(w:Wd)(es:List En):List En:=if r.w=.turns/\w=.writes then es.map (λe=>if e.wr then e else { e with m:=1 }) else es
section
variable{S:aa}{ws:List Wd}{es:List En}{r:Rl}
noncomputable def yZ:Dd->Bool
 | .tick=>true
 | _=>false
theorem Dd.tick_ne{dd:Dd}:nj S dd.d (.tup [.str "tick"])=U (.bl (yZ dd)):=by
 cases dd with
 | tick=>rw[mr rfl rfl];rfl
 | ask wr g t=>
  rw[mr (by cases t<;>rfl) rfl]
  show U (D.bl (_&&false))=U (D.bl false)
  rw[Tw]
 | act k g=>
  rw[mr rfl rfl]
  show U (D.bl (_&&false))=U (D.bl false)
  rw[Tw]
end
noncomputable def cM(r:Rl)(R:Rm):Rm×List Ev:=seL r (2*R.1.length) R
noncomputable def Df(wr:Bool)(g:Nat)(t:Option Int):En:=⟨g,wr,0,if t=U 0 then U 1 else t⟩
noncomputable def De(r:Rl)(R:Rm)(wr:Bool)(g:Nat)(t:Option Int):Rm×List Ev:=
 let a:=cM r (R.1,R.2++[Df wr g t])
 if iY a.1.2 g=false then a
 else if t=U 0 then((a.1.1,a.1.2.filter λe=>decide (e.g≠g)),a.2++[⟨"no",g⟩])
 else(a.1,a.2++[⟨"waits",g⟩])
noncomputable def Hu(e:En):En:={ e with t:=e.t.map (· - 1) }
noncomputable def LI(r:Rl)(R:Rm):Rm×List Ev:=
 let a:=cM r (R.1,(R.2.map Hu).filter λe=>decide (e.t≠U 0))
 (a.1,(((R.2.map Hu).filter λe=>decide (e.t=U 0)).map λe=>⟨"ends",e.g⟩)++a.2)
noncomputable def PK(k:Ak)(g:Nat):List Ev:=match k with
 | .up=>[]
 | .stop=>[⟨"ends",g⟩]
 | .down=>[⟨"down",g⟩]
 | .leave=>[⟨"out",g⟩]
noncomputable def sH(k:Ak)(w:Wd):Wd:=match k with
 | .up=>.rising
 | .down=>.reads
 | .leave=>.out
 | .stop=>if w=.rising then .reads else .out
noncomputable def zK(r:Rl)(k:Ak)(w:Wd)(g:Nat)(es:List En):List En:=(if k=.down\/k=.leave then mkL r w es else es).filter λe=>decide (e.g≠g)
noncomputable def Ii(r:Rl)(R:Rm)(k:Ak)(g:Nat)(w:Wd):Rm×List Ev:=
 let a:=cM r (R.1.set g (sH k w),zK r k w g R.2)
 (a.1,PK k g++a.2++(if a.1.1[g]?=U .rising then [⟨"waits",g⟩] else []))
noncomputable def xA(r:Rl)(R:Rm)(dd:Dd):Option (Rm×List Ev):=
 if HS R dd=false then Y else match dd with
 | .tick=>U (LI r R)
 | .ask wr g t=>U (De r R wr g t)
 | .act k g=>if k=.up/\(r.c=0\/Wd.rising∈R.1) then U (R,[⟨"no",g⟩]) else match R.1[g]? with
  | some w=>U (Ii r R k g w)
  | none=>Y
theorem sN(h:iY es g=false){e:En}(he:e∈es):e.g≠g:=λz=>by
 have:iY es g=true:=Vd.mpr ⟨e,he,by simp[z]⟩
 rw[h] at this;cases this
theorem ROk.filter{ws:List Wd}{es:List En}(h:ROk (ws,es))(p:En->Bool):ROk (ws,es.filter p):=
 ⟨λe he=>h.out e (SQ.mp he).1,List.Sublist.nodup (List.Sublist.map _ (List.filter_sublist)) h.nd⟩
theorem ROk.mapE{ws:List Wd}{es:List En}(h:ROk (ws,es))(f:En->En)(hf:∀ e,(f e).g=e.g):ROk (ws,es.map f):=
 ⟨λe he=>by obtain⟨x,hx,rfl⟩:=Sb.mp he;rw[hf];exact h.out x hx,by
  show((es.map f).map (·.g)).Nodup
  rw[TX,show((·.g) ∘ f)=(λe:En=>e.g) from funext hf];exact h.nd⟩
theorem ROk.setW{ws:List Wd}{es:List En}(h:ROk (ws,es))(g:Nat)(w:Wd)(hg:∀ e∈es,e.g≠g):ROk (ws.set g w,es):=
 ⟨λe he=>by show(ws.set g w)[e.g]?=_;rw[RS (Ne.symm (hg e he))];exact h.out e he,h.nd⟩
theorem iZ(h:ROk R):ROk (cM r R).1/\(cM r R).1.1.length=R.1.length:=DR _ h
theorem Lx{g:Nat}(h:ROk R)(hw:R.1[g]?=U .out)(hs:iY R.2 g=false):ROk (R.1,R.2++[Df wr g t]):=
 ⟨λe he=>by
  rcases RE.mp he with he | he
  ·exact h.out e he
  ·rw[RD.mp he];exact hw,by
  show((R.2++[Df wr g t]).map (·.g)).Nodup
  rw[Sk,Tb]
  refine⟨h.nd,by simp,λa ha b hb=>?_⟩
  obtain⟨e,he,rfl⟩:=Sb.mp ha
  simp[Df] at hb
  rw[hb];exact sN hs he⟩
theorem Op{ws:List Wd}{es:List En}(h:ROk (ws,es)):ROk (ws,mkL r w es):=by
 unfold mkL;split
 ·exact h.mapE _ λe=>by split<;>rfl
 ·exact h
theorem LA{k:Ak}{ws:List Wd}{es:List En}(h:ROk (ws,es))(w':Wd):ROk (ws.set g w',zK r k w g es):=by
 unfold zK
 refine ROk.setW (ROk.filter ?_ _) g w' λe he=>Tu (SQ.mp he).2
 split
 ·exact Op h
 ·exact h
theorem Hh{x:Rm×List Ev}(h:ROk R)(hx:xA r R dd=U x):ROk x.1/\x.1.1.length=R.1.length:=by
 unfold xA at hx
 split at hx
 ·cases hx
 ·rename_i hc
  have hc:HS R dd=true:=by simpa using hc
  cases dd with
  | tick=>
   cases hx
   obtain⟨a,b⟩:=iZ (r:=r) (R:=(R.1,(R.2.map Hu).filter λe=>decide (e.t≠U 0))) (ROk.filter (ROk.mapE h Hu λe=>rfl) _)
   exact⟨a,b⟩
  | ask wr g t=>
   cases hx
   simp only[HS,Rg,Sq,Bool.not_eq_true'] at hc
   obtain⟨a,b⟩:=iZ (r:=r) (Lx (wr:=wr) (t:=t) h hc.1 hc.2)
   unfold De
   dsimp only
   split
   ·exact⟨a,b⟩
   ·split
    ·exact⟨ROk.filter a _,b⟩
    ·exact⟨a,b⟩
  | act k g=>
   dsimp only at hx
   split at hx
   ·cases hx;exact⟨h,rfl⟩
   ·split at hx
    ·rename_i w hw
     cases hx
     obtain⟨a,b⟩:=iZ (r:=r) (LA (r:=r) (k:=k) (w:=w) (g:=g) h (sH k w))
     exact⟨a,b.trans (by simp)⟩
    ·cases hx
noncomputable def Grow(r:Nat)(S S':aa):Prop:=S.length<=S'.length/\∀ j,j<S.length->j≠r->S'[j]?=S[j]?
theorem Grow.of(h:Keep r S S'):Grow r S S':=⟨Uq h.2.symm,λj _ hj=>h.1 j hj⟩
theorem Grow.app{T:aa}:Grow r S (S++T):=⟨by simp,λj h _=>Rx h⟩
theorem Grow.trans(h:Grow r S S')(h':Grow r S' S''):Grow r S S'':=⟨RG h.1 h'.1,λj hj hr=>(h'.2 j (Ry hj h.1) hr).trans (h.2 j hj hr)⟩
theorem Pk.lt(h:Pk S r):r<S.length:=by
 obtain⟨a,b,d,h,z⟩:=h
 exact(Ri.mp h).1
noncomputable def pS(n:Nat):Rm:=(List.replicate n .out,[])
theorem Cz:ROk (pS n):=⟨λe h=>by simp[pS] at h,by simp[pS]⟩
inductive Behind(r:Rl)(n:Nat):List Dd->Rm->Prop
 | nil:Behind r n [] (pS n)
 | snoc {l:List Dd} {R:Rm} {d:Dd} {x:Rm×List Ev} (h:Behind r n l R) (hd:d.Ok n) (e:xA r R d=U x):Behind r n (l++[d]) x.1
theorem Behind.ok(h:Behind r n l R):ROk R/\R.1.length=n:=by
 induction h with
 | nil=>exact⟨Cz,by simp[pS]⟩
 | snoc h hd e ih=>obtain⟨a,b⟩:=Hh ih.1 e;exact⟨a,b.trans ih.2⟩
noncomputable def ixW(p:Wd->Bool)(ws:List Wd):List Nat:=(ws.zipIdx.filter λq=>p q.1).map (·.2)
noncomputable def nt(l:List Nat):D:=.tup (l.map ni)
section
variable{ws:List Wd}{es:List En}{r:Rl}{R:Rm}{g:Nat}
theorem so{a b:Wd}:∀ {ws:List Wd} {i:Nat},ws[i]?=U a->a≠b->∀ c,(ws.set i b).count c+(if a=c then 1 else 0)=ws.count c+(if b=c then 1 else 0)
 | [],i,h,_,c=>by simp at h
 | w::l,0,h,hn,c=>by
  simp at h;subst h
  rw[List.set_cons_zero,Us,Us]
  by_cases h1:w=c<;>by_cases h2:b=c<;>simp[h1,h2]<;>omega
 | w::l,i+1,h,hn,c=>by
  have:=so (i:=i) (ws:=l) (by simpa using h) hn c
  rw[List.set_cons_succ,Us,Us]
  omega
end
section
variable{S:aa}{r:Rl}{R:Rm}
theorem Gs(h:bv 40 x=true):ux S x x=U (.bl false):=by
 rw[pM h h,ju 40 x h];rfl
end
section
variable{r:Rl}
structure Calm(ws:List Wd):Prop where
 only:∀ w∈ws,w=.out\/w=.reads
 one:1<=ws.count .reads
theorem Calm.set(c:Calm ws){g:Nat}(hg:ws[g]?=U .out):Calm (ws.set g .reads)/\(ws.set g .reads).count .reads=ws.count .reads+1:=by
 have h:=so (b:=.reads) hg (by decide) .reads
 simp at h
 have:=c.one
 refine⟨⟨λw hw=>?_,by omega⟩,h⟩
 rcases Vw hw with z | z
 ·exact c.only w z
 ·exact .inr z
end
noncomputable def MB(k:Nat)(es:List En):Prop:=∀ e∈es,0<=e.m/\e.m<=k/\∀ t,e.t=U t->1<=t/\t<=9
section
variable{r:Rl}{R:Rm}{k j:Nat}{es:List En}
theorem MB.mono(h:MB k es)(hk:k<=j):MB j es:=λe he=>⟨(h e he).1,by have:=(h e he).2.1;omega,(h e he).2.2⟩
theorem MB.sub{l:List En}(h:MB k es)(hs:∀ e∈l,e∈es):MB k l:=λe he=>h e (hs e he)
theorem MB.filter(h:MB k es)(p:En->Bool):MB k (es.filter p):=h.sub λe he=>(SQ.mp he).1
theorem MB.app(h:MB k es)(h':MB k l):MB k (es++l):=λe he=>(RE.mp he).elim (h e) (h' e)
theorem MB.up(h:MB k es):MB (k+1) (es.map (HZ r)):=λe he=>by
 obtain⟨x,hx,rfl⟩:=Sb.mp he
 obtain⟨h1,h2,h3⟩:=h x hx
 refine⟨?_,?_,h3⟩<;>(show _<=_;unfold HZ;dsimp only;split<;>omega)
theorem Nm(h:MB k R.2):MB (k+1) (stL r R).1.2:=by
 unfold stL
 split
 ·exact h.mono (by omega)
 ·split
  ·split
   ·exact MB.app (MB.up (h.sub λe he=>TD he)) ((h.sub λe he=>Ux he).mono (by omega))
   ·exact h.mono (by omega)
  ·exact h.mono (by omega)
theorem DU:∀ (n:Nat) {R:Rm} {k:Nat},MB k R.2->MB (k+n) (seL r n R).1.2
 | 0,R,k,h=>h
 | n+1,R,k,h=>by
  have:=DU n (Nm (r:=r) h)
  rw[show k+1+n=k+(n+1) by omega] at this
  exact this
theorem ja(h:MB k R.2):MB (k+2*R.1.length) (cM r R).1.2:=DU _ h
theorem Oq(h:MB k es)(hk:1<=k):MB k (mkL r w es):=by
 unfold mkL
 split
 ·intro e he
  obtain⟨x,hx,rfl⟩:=Sb.mp he
  obtain⟨h1,h2,h3⟩:=h x hx
  split
  ·exact⟨h1,h2,h3⟩
  ·exact⟨by show(0:Int)<=1;decide,by show(1:Int)<=k;omega,h3⟩
 ·exact h
theorem Hi{dd:Dd}{x:Rm×List Ev}(hd:dd.Ok n)(h:MB k R.2)(hx:xA r R dd=U x):MB (k+1+2*R.1.length) x.1.2:=by
 have h1:MB (k+1) R.2:=h.mono (by omega)
 unfold xA at hx
 split at hx
 ·cases hx
 ·split at hx
  ·cases hx
   refine ja (R:=(R.1,_)) ?_
   intro e he
   obtain⟨he,ht⟩:=SQ.mp he
   obtain⟨y,hy,rfl⟩:=Sb.mp he
   obtain⟨a1,a2,a3⟩:=h1 y hy
   refine⟨a1,a2,λt z=>?_⟩
   have ht':=Tu ht
   unfold Hu at z ht'
   dsimp only at z ht'
   cases hy2:y.t with
   | none=>rw[hy2] at z;cases z
   | some u=>
    rw[hy2] at z ht'
    have:=a3 u hy2
    rw[Option.map_some] at z ht'
    cases z
    have:u - 1≠0:=λq=>ht' (by rw[q])
    omega
  ·rename_i wr g t hcan
   cases hx
   have hs:MB (k+1+2*R.1.length) (cM r (R.1,R.2++[Df wr g t])).1.2:=by
    refine ja (R:=(R.1,_)) (MB.app h1 ?_)
    intro e he
    rw[RD.mp he]
    refine⟨Int.le_refl _,by show(0:Int)<=_;omega,λu z=>?_⟩
    have hl:gf t:=hd.2
    unfold Df at z
    dsimp only at z
    split at z
    ·cases z;decide
    ·rename_i hne
     have:=hl u z
     have:u≠0:=λq=>hne (by rw[z,q])
     omega
   unfold De
   dsimp only
   split
   ·exact hs
   ·split
    ·exact hs.filter _
    ·exact hs
  ·rename_i kk g hcan
   split at hx
   ·cases hx;exact h.mono (by omega)
   ·split at hx
    ·rename_i w hw
     cases hx
     have:=ja (r:=r) (R:=(R.1.set g (sH kk w),zK r kk w g R.2)) (k:=k+1) (by
      show MB (k+1) (zK r kk w g R.2)
      unfold zK
      refine MB.filter ?_ _
      split
      ·exact Oq h1 (by omega)
      ·exact h1)
     rw[show(R.1.set g (sH kk w),zK r kk w g R.2).1.length=R.1.length by simp] at this
     exact this
    ·cases hx
theorem Behind.mb(h:Behind r n l R):MB (l.length*(2*n+1)) R.2:=by
 induction h with
 | nil=>intro e he;cases he
 | snoc h hd e ih=>
  have:=Hi hd ih e
  rw[h.ok.2] at this
  rw[Rz,SX]
  refine this.mono ?_
  rw[Nat.add_mul]
  omega
end
theorem wT(s a:Str):∀ (r:List Str) (b:Str),r.foldl (λacc y=>acc++s++y) (a++b)=a++r.foldl (λacc y=>acc++s++y) b
 | [],b=>rfl
 | y::r,b=>by
  rw[TQ,TQ,Va a b s,Va a (b++s) y]
  exact wT s a r (b++s++y)
theorem rR(s:Str):∀ (ys:List Str) (x:Str),Str.join s (x::ys)=ys.foldl (λacc y=>acc++s++y) x
 | [],x=>rfl
 | y::r,x=>by
  show x++s++Str.join s (y::r)=_
  rw[rR s r y,TQ,wT s (x++s) r y]
theorem Ka{i:Int}(h:-1000<=i)(h':i<=1000):(Str.ofString (toString i)).length<=1002:=by
 have:=len_str_of_int i
 omega
theorem gA(a b:Str):(a++b).length=a.length+b.length:=strLen_append a b
theorem qe:(Str.ofString " ").length=1/\(Str.ofString ", ").length=2/\Str.empty.length=0/\(Str.ofString "-").length=1:=by decide +kernel
theorem sM{α:Type}(f:α->Nat)(k:Nat):∀ l:List α,(∀ x∈l,f x<=k)->(l.map f).sum<=l.length*k
 | [],_=>by simp
 | x::r,h=>by
  have h1:=h x (by simp)
  have h2:=sM f k r λy hy=>h y (Rj _ hy)
  rw[RB,List.sum_cons,Rr,Nat.succ_mul]
  omega
theorem mn(s:Str):∀ ys:List Str,(Str.join s ys).length<=(ys.map (·.length)).sum+ys.length*s.length:=StrLaws.join_length_le s
section
variable{α:Type}{enc:α->D}{f:α->Nat->D}{e:ME}{mi:MA}{S:aa}{n:Nat}{c:Option D}
theorem HM{w:Option D}{f:Nat->D}(h:∀ g,e [w,U (ni g),c] S=U (f g,S)):∀ (us:List Nat) (b:Option D),∃ b',gb 'a' aP e (us.map ni) [w,b,c] S=U (us.map f,[w,b',c],S)
 | [],b=>⟨b,yL⟩
 | g::us,b=>by
  obtain⟨b',ih⟩:=HM h us (U (ni g))
  refine⟨b',?_⟩
  rw[RB,wH,aK,ob,kG,jh,Pt,il,ob,Pr,h,ob,Pp,ih,ob,Pn,RB]
theorem HL(hi:∀ a b,mi [a,b,c] S=U ((List.range n).map ni,S))(he:∀ x g,e [U (enc x),U (ni g),c] S=U (f x g,S)) :
  ∀ (xs:List α) (a b:Option D),fZ '`' aP mi 'a' aP e (xs.map enc) [a,b,c] S=U (xs.flatMap λx=>(List.range n).map (f x),S)
 | [],a,b=>yK
 | x::xs,a,b=>by
  obtain⟨b',h⟩:=HM (c:=c) (S:=S) (w:=U (enc x)) (e:=e) (f:=f x) (he x) (List.range n) b
  rw[RB,wG,aK,ob,jh,Pf,il,ob,Pd,hi,ob,Pb,h,ob,OZ,HL hi he xs,ob,OX,Ud]
end
noncomputable def askA(n:Nat):List Dd:=[false,true].flatMap λwr=>(List.range n).map λg=>Dd.ask wr g Y
noncomputable def actA(n:Nat):List Dd:=[Ak.up,.down,.leave,.stop].flatMap λk=>(List.range n).map λg=>Dd.act k g
noncomputable def allA(n:Nat):List Dd:=askA n++actA n
end MI
local macro_rules|`($c:char)=>do let q:=Lean.quote (c.getChar.toNat%48);if c.getChar.toNat<96 then `(MI.ae $q) else `(MI.ag $q)
local macro_rules|`($c:scientific)=>`(MI.mC (.int $(Lean.quote c.getScientific.1)))
local macro_rules|`(!$s:str)=>`(MI.mC (.str $s))
section
set_option maxHeartbeats 4000000
namespace K50
open L2 MI
open M hiding qx gz bW cA cb cz aN eO cE bt mC ae aB aL bG cF cR fq cw gc vb fM nU af ac bj bQ dJ qm aT bq bA aO cP ak aI ax bg dW bM ag cm aU bI cC au aF bK eG bP cO aP eR eV gx gy gO dL ce bD ci bR bV bE bF fG bp bL dN
def lJ(i:Nat):Stmt:=PySem.Challenge.pw_manyreaders_k50_rows_refused_by_their_li.main.body.getD i (.Pass ⟨0,0,0,0⟩)
abbrev cu:Stmt:=lJ 16
abbrev fD:Stmt:=lJ 18
abbrev eM:Stmt:=lJ 17
abbrev bU:Stmt:=lJ 22
abbrev dD:Stmt:=lJ 23
abbrev eL:Stmt:=lJ 19
abbrev eJ:Stmt:=lJ 11
abbrev cf:Stmt:=lJ 14
abbrev dj:Stmt:=lJ 13
abbrev eK:Stmt:=lJ 24
abbrev eN:Stmt:=lJ 20
abbrev cY:Stmt:=lJ 25
abbrev bC:Stmt:=lJ 21
abbrev qV:Stmt:=lJ 26
noncomputable def bT:List (aJ×D):=[(.inr "read",(.str "reads")),(.inr "write",(.str "writes")),(.inr "up",(.str "up")),(.inr "down",(.str "down")),(.inr "leave",(.str "leaves")),(.inr "stop",(.str "stops"))]
noncomputable def cV:D:=(.int 9)
noncomputable def ee:D:=(.tup [(.str "up"),(.str "down"),(.str "leave"),(.str "stop")])
noncomputable def lG:D:=(.tup [(.str "read"),(.str "write")])
noncomputable def cX:Addr:=64
abbrev DZ:Stmt:=Lo (lJ 5)
structure Txt(w:World)(K:W.Frag)(mg:Str->Option Value):Prop where
 d__law_cell_at:dh K mg "_law_cell_at" cu
 d__law_far:dh K mg "_law_far" fD
 d__law_left:dh K mg "_law_left" eM
 d__law_deed_text:dh K mg "_law_deed_text" bU
 d__law_deeds:dh K mg "_law_deeds" dD
 d__law_pick:dh K mg "_law_pick" eL
 d_deed_text:dh K mg "deed_text" eJ
 d_deeds_by_text:dh K mg "deeds_by_text" cf
 d_read_row:dh K mg "read_row" dj
 d__law_read:dh K mg "_law_read" eK
 d__law_deed:dh K mg "_law_deed" eN
 d__law_spoilt:dh K mg "_law_spoilt" cY
 d__law_same:dh K mg "_law_same" bC
 d_law:dh K mg "law" qV
 z_all:mg "all" = Y
 z_bool:mg "bool" = Y
 z_dict:mg "dict" = Y
 z_enumerate:mg "enumerate" = Y
 z_int:mg "int" = Y
 z_isinstance:mg "isinstance" = Y
 z_len:mg "len" = Y
 z_list:mg "list" = Y
 z_max:mg "max" = Y
 z_min:mg "min" = Y
 z_range:mg "range" = Y
 z_str:mg "str" = Y
 z_tuple:mg "tuple" = Y
 z_zip:mg "zip" = Y
 g_DEED_WORDS:sA w K mg "DEED_WORDS" bT
 g_GREATEST_LEFT:GC K mg "GREATEST_LEFT" cV
 g_GUEST_WORDS:GC K mg "GUEST_WORDS" ee
 g_WANTS:GC K mg "WANTS" lG
 x_rse:∀ P base,xQ P w K mg base "NoText" cX "row"
 x_hnd_GuestError:xT K mg "GuestError" cX
 x_cls_NoDeed:ClsOk K mg "NoDeed" cX false
 x_cls_NoLine:ClsOk K mg "NoLine" cX false
 x_cls_NoText:ClsOk K mg "NoText" cX true
 x_cls_TooMany:ClsOk K mg "TooMany" cX false
 x_cls_ValueError:ClsOk K mg "ValueError" cX true
 x_fld:qi K cX "row"
section
local macro_rules|`(tactic|symm)=>`(tactic|(intro _ _ _ _ _ _;repeat (first|exact xW rfl|(refine nJ ?_;intro _))))
variable{P:Program}{w:World}{K:W.Frag}{mg:Str->Option Value}{base:Heap}
noncomputable def dC:List Str:=["_law_script","_law_k"]
noncomputable def jr:List (Str×GI):=[("len",.blt)]
noncomputable def dw:=bY dC (qo (uT dC cu jr []) (aH cu)) 2
theorem nz:aV dC ["_law_script","_law_k"] (am cu):=by ac_rfl
theorem nB(T:Txt w K mg):Fn P w K mg base 1 "_law_cell_at" 2 dw:=
 em (gs:=jr) T.d__law_cell_at nz (by symm) ⟨T.z_len,trivial⟩
noncomputable def gu:List Str:=["_law_far_here","_law_k"]
noncomputable def pJ:List (Str×GI):=[("range",.blt)]
noncomputable def gq:=bY gu (qo (uT gu fD pJ []) (aH fD)) 0
theorem vE:aV gu [] (am fD):=by ac_rfl
theorem vP(T:Txt w K mg):Fn P w K mg base 1 "_law_far" 0 gq:=
 em (gs:=pJ) T.d__law_far vE (by symm) ⟨T.z_range,trivial⟩
noncomputable def fS:List Str:=["_law_script","_law_k","_law_cell","_law_seed"]
noncomputable def mZ:List (Str×GI):=[("_law_cell_at",.fn 2 dw),("max",.blt),("_law_far",.fn 0 gq),("len",.blt)]
noncomputable def eY:=bY fS (qo (uT fS eM mZ [54]) (aH eM)) 2
theorem sX:aV fS ["_law_script","_law_k"] (am eM):=by ac_rfl
theorem tJ(T:Txt w K mg):Fn P w K mg base 2 "_law_left" 2 eY:=
 em (gs:=mZ) T.d__law_left sX (by symm) ⟨(nB T).up,T.z_max,(vP T).up,T.z_len,trivial⟩
noncomputable def cD:List Str:=["_law_deed_here","_law_words","_law_text"]
noncomputable def hU:List (Str×GI):=[("str",.blt)]
noncomputable def aE:=bY cD (qo (uT cD bU hU [200097,200098]) (aH bU)) 1
theorem kM:aV cD ["_law_deed_here"] (am bU):=by ac_rfl
theorem gG(T:Txt w K mg):Fn P w K mg base 1 "_law_deed_text" 1 aE:=
 em (gs:=hU) T.d__law_deed_text kM (by symm) ⟨T.z_str,trivial⟩
noncomputable def fo:List Str:=["_law_n","_law_found","_law_guest","_law_word","_law_rest"]
noncomputable def lm:List (Str×GI):=[("range",.blt),("list",.blt),("_law_deed_text",.fn 1 aE)]
noncomputable def dI:=bY fo (qo (uT fo dD lm [100,600000]) (aH dD)) 1
theorem qq:aV fo ["_law_n"] (am dD):=by ac_rfl
theorem qu(T:Txt w K mg):Fn P w K mg base 2 "_law_deeds" 1 dI:=
 em (gs:=lm) T.d__law_deeds qq (by symm) ⟨T.z_range,T.z_list,(gG T).up,trivial⟩
noncomputable def gK:List Str:=["_law_left_here","_law_many","_law_digit"]
noncomputable def mY:List (Str×GI):=[]
noncomputable def ay:=bY gK (qo (uT gK eL mY []) (aH eL)) 2
theorem sW:aV gK ["_law_left_here","_law_many"] (am eL):=by ac_rfl
theorem ig(T:Txt w K mg):Fn P w K mg base 1 "_law_pick" 2 ay:=
 em (gs:=mY) T.d__law_pick sW (by symm) trivial
noncomputable def fR:List Str:=["deed","text"]
noncomputable def mW:List (Str×GI):=[("DEED_WORDS",.tab bT),("len",.blt)]
noncomputable def dq:=bY fR (qo (uT fR eJ mW []) (aH eJ)) 1
theorem sT:aV fR ["deed"] (am eJ):=by ac_rfl
theorem tF(T:Txt w K mg):Fn P w K mg base 1 "deed_text" 1 dq:=
 em (gs:=mW) T.d_deed_text sT (by symm) ⟨T.g_DEED_WORDS,T.z_len,trivial⟩
noncomputable def cW:List Str:=["n","lefts","asks","others"]
noncomputable def iL:List (Str×GI):=[("list",.blt),("WANTS",.con lG),("GUEST_WORDS",.con ee),("deed_text",.fn 1 dq),("range",.blt),("GREATEST_LEFT",.con cV)]
noncomputable def bw:=bY cW (qo (uT cW cf iL []) (aH cf)) 1
theorem lN:aV cW ["n"] (am cf):=by ac_rfl
theorem gW(T:Txt w K mg):Fn P w K mg base 2 "deeds_by_text" 1 bw:=
 em (gs:=iL) T.d_deeds_by_text lN (by symm) ⟨T.z_list,T.g_WANTS,T.g_GUEST_WORDS,(tF T).up,T.z_range,T.g_GREATEST_LEFT,trivial⟩
noncomputable def cK:List Str:=["n","text","lines","known","place","line"]
noncomputable def kh:List (Str×GI):=[("deeds_by_text",.fn 1 bw),("enumerate",.blt),("tuple",.blt),("isinstance",.blt),("str",.blt)]
noncomputable def kn:=bY cK (qo (uT cK dj kh [985000,990000]) (aH dj)) 2
theorem mM:aV cK ["n","text"] (am dj):=by ac_rfl
noncomputable def mV:List (Str×GI):=("NoText",.rse cX "row")::kh
noncomputable def bo:=sZ cK (Kp cX "row" (cOfY cK dj mV [985000,990000]) (aH dj)) 2
theorem tE(T:Txt w K mg):FnY P w K mg base 3 "read_row" 2 bo cX "row":=
 Nb T.d_read_row mM (λ_ _ _ _ _ _=>nJ λ_=>nJ λ_=>xW rfl) (GKs.mem (gs:=mV) ⟨⟨by decide,T.x_rse _ _⟩,(gW T).up,T.z_enumerate,T.z_tuple,T.z_isinstance,T.z_str,trivial⟩)
theorem vO(T:Txt w K mg):Fn P w K mg base 3 "read_row" 2 kn:=
 em (gs:=kh) T.d_read_row mM (by symm) ⟨(gW T).up,T.z_enumerate,T.z_tuple,T.z_isinstance,T.z_str,trivial⟩
noncomputable def eZ:List Str:=["_law_n","_law_thing","_law_caught","_law_found","e"]
noncomputable def mX:List (Str×GI):=[("try",.thr "read_row" 2 bo cX "row"),("GuestError",.hnd cX),("NoDeed",.cls cX false),("NoLine",.cls cX false),("TooMany",.cls cX false),("ValueError",.cls cX true),("NoText",.cls cX true),(".",.fld cX "row"),("read_row",.fn 2 kn),("isinstance",.blt)]
noncomputable def bJ:=bY eZ (qo (uT eZ eK mX []) (aH eK)) 2
theorem sV:aV eZ ["_law_n","_law_thing"] (am eK):=by ac_rfl
theorem tI(T:Txt w K mg):Fn P w K mg base 4 "_law_read" 2 bJ:=
 em (gs:=mX) T.d__law_read sV (by symm) ⟨(tE T).up,T.x_hnd_GuestError,T.x_cls_NoDeed,T.x_cls_NoLine,T.x_cls_TooMany,T.x_cls_ValueError,T.x_cls_NoText,T.x_fld,(vO T).up,T.z_isinstance,trivial⟩
noncomputable def fU:List Str:=["_law_left_here","_law_n","_law_guest","_law_way"]
noncomputable def ng:List (Str×GI):=[("_law_pick",.fn 2 ay)]
noncomputable def du:=bY fU (qo (uT fU eN ng []) (aH eN)) 2
theorem sY:aV fU ["_law_left_here","_law_n"] (am eN):=by ac_rfl
theorem tK(T:Txt w K mg):Fn P w K mg base 2 "_law_deed" 2 du:=
 em (gs:=ng) T.d__law_deed sY (by symm) ⟨(ig T).up,trivial⟩
noncomputable def eg:List Str:=["_law_left_here","_law_line","_law_words","_law_at","_law_spot","_law_sign","_law_other","_law_some"]
noncomputable def jN:List (Str×GI):=[("_law_pick",.fn 2 ay),("list",.blt),("len",.blt)]
noncomputable def cZ:=bY eg (qo (uT eg cY jN [210126,210127,210128,992000,993000,994000]) (aH cY)) 2
theorem oG:aV eg ["_law_left_here","_law_line"] (am cY):=by ac_rfl
theorem oP(T:Txt w K mg):Fn P w K mg base 2 "_law_spoilt" 2 cZ:=
 em (gs:=jN) T.d__law_spoilt oG (by symm) ⟨(ig T).up,T.z_list,T.z_len,trivial⟩
noncomputable def N__law_same:List Str:=["_law_found","_law_due","_law_keys"]
noncomputable def eX:List (Str×GI):=[("isinstance",.blt),("dict",.blt),("str",.blt),("all",.blt),("list",.blt),("tuple",.blt),("bool",.blt),("int",.blt),("len",.blt),("zip",.blt)]
noncomputable def fh:=Ed N__law_same bC eX [] "_law_same" 2
noncomputable def dr:=fh 8
theorem tL:N__law_same.Nodup:=by decide +kernel
theorem sU:aV N__law_same ["_law_found","_law_due"] (am bC):=⟨rfl,rfl,rfl,tL,rfl,by decide +kernel,by decide +kernel⟩
theorem tH(T:Txt w K mg):Fn P w K mg base 9 "_law_same" 2 dr:=
 Ec (gs:=eX) (k:=0) T.d__law_same sU (λ_ _ _ _ _ _=>nJ λ_=>nJ λ_=>xW rfl) ⟨T.z_isinstance,T.z_dict,T.z_str,T.z_all,T.z_list,T.z_tuple,T.z_bool,T.z_int,T.z_len,T.z_zip,trivial⟩ 8
noncomputable def xR:List Str:=["_law_script","_law_k","_law_left_here","_law_n","_law_texts","_law_lines","_law_turn","_law_made","_law_change","_law_at","_law_bad","_law_due","_law_thing"]
noncomputable def Mr:List (Str×GI):=[("range",.blt),("_law_left",.fn 2 eY),("_law_deeds",.fn 1 dI),("min",.blt),("_law_pick",.fn 2 ay),("_law_deed_text",.fn 1 aE),("list",.blt),("tuple",.blt),("_law_read",.fn 2 bJ),("len",.blt),("_law_deed",.fn 2 du),("_law_spoilt",.fn 2 cZ),("_law_same",.fn 2 dr),("enumerate",.blt)]
noncomputable def xl:=bY xR (qo (uT xR qV Mr [100141,120140,990000,995000]) (aH qV)) 1
theorem Nz:aV xR ["_law_script"] (am qV):=by ac_rfl
theorem PD(T:Txt w K mg):GKs P w K mg base 9 Mr:=⟨T.z_range,(tJ T).up,(qu T).up,T.z_min,(ig T).up,(gG T).up,T.z_list,T.z_tuple,(tI T).up,T.z_len,(tK T).up,(oP T).up,(tH T).up,T.z_enumerate,trivial⟩
end
theorem QO{l:W.OpenLaw}{K:W.Frag}(X:K.In h)(G:h.Ns mainGlobals mg)(hfa:mg "law" = U (.ref fa))(T:Txt w K mg) :
  ∃ fd:FuncData,(∀ (s:Shared) (v:Value),BindsTo s fd ⟨[v],[]⟩ [("_law_script",v)])/\∀ base:Heap,K.In base->base.Ns mainGlobals mg->FnOk l.prog w K mg base xV 10 fa fd ["_law_script"] (Dk K 1 xl):=
 OC T.d_law hfa Nz (λ_ _ _ _ _ _ _=>rfl) λbase=>PD T
theorem walk{l:W.OpenLaw}{YP:World->Heap->Prop}{d:DefRec}{K:Params->W.Frag}(hn:l.most=U 63)(hdf:d.params.defaults=[])(hnm:d.name = "law")
  (hY:∀ (w:World) (h:Heap),YP w h->(K w.params).In h) (hlaw:∀ ns:List Int,ns.length<=63->∃ S',xl [.rol (ns.map .int)] []=U (.bl true,S'))
  (F:∀ (w:World) (mg:Str->Option Value) (h:Heap),(K w.params).In h->h.Ns mainGlobals mg->Txt w (K w.params) mg) :
  W.WalkO q loose XP YP l.row.toRowW d [] (λf vs=>PySem.call f vs):=
 L2.Iq (n:=63) (k:=10) (x:="_law_script") (CX:=λ_=>xV) (sp:=λw=>Dk (K w.params) 1 xl) hn (by decide) hdf ⟨rfl,by decide,by decide⟩ hY
  (λw mg fa h KX G hmg=>QO KX G (hnm ▸ hmg) (F w mg h KX G)) (λ_ _ a ns hl _ hS=>OA hlaw hl hS) λ_ _ _ _ _ z=>z
end K50
end
section
set_option maxHeartbeats 4000000
namespace K50
open L2 MI
open M hiding qx gz bW cA cb cz aN eO cE bt mC ae aB aL bG cF cR fq cw gc vb fM nU af ac bj bQ dJ qm aT bq bA aO cP ak aI ax bg dW bM ag cm aU bI cC au aF bK eG bP cO aP eR eV gx gy gO dL ce bD ci bR bV bE bF fG bp bL dN
noncomputable def oW:MS:=
 jE
theorem nC:dw=bY dC oW 2:=BI rfl
noncomputable def yF:MS:=
 yO
theorem vZ:gq=bY gu yF 0:=BI rfl
noncomputable def wd:MS:=
 nY dw gq
theorem tS:eY=bY fS wd 2:=BI rfl
noncomputable def gX:MS:=
 ax (bM (aL (aB nj '0' (bj (ac (!"tick") af)))) (bg (!"tick")) aI) (ax (au (dL [(mC (.str "read"),mC (.str "reads")),(mC (.str "write"),mC (.str "writes")),(mC (.str "leave"),mC (.str "leaves")),(mC (.str "stop"),mC (.str "stops"))]) 'a') (ax (au (aB ft (aB ft (aO (az gJ) (ac (aB aX '0' 1e0) af)) (!" ")) (bD iO '1' (ac (aB aX '0' 0e0) (ac (aB aX '0' 0e0) af)))) 'b') (bg (aB ft '2' (bL (!"") (ac (bP (cO (bA '0' (bq 2e0) aT)) '`' (aL (aB iz '0' (mC .non))) (aB ft (!" ") (aO (az gJ) (ac '0' af))) [Y]) af))))))
theorem kT:aE=bY cD gX 1:=BI rfl
noncomputable def kY:MS:=
 ax (au (ce [(mC (.str "tick"),bj (ac (!"tick") af))]) 'a') (ax (eG (aF (ac '0' af)) 'b' (ax (ci (bj (ac (!"up") (ac (!"down") (ac (!"leave") (ac (!"stop") af))))) 'c' (au (bj (ac '3' (ac '2' af))) (dN '1' (ak 1 aE (ac (bj (ac '3' (ac '2' af))) af))))) (ci (aB bu (bQ (ac (mC .non) af)) (bR (ac 10e0 af))) 'd' (ci (bj (ac (!"read") (ac (!"write") af))) 'c' (au (bj (ac '3' (ac '2' (ac '4' af)))) (dN '1' (ak 1 aE (ac (bj (ac '3' (ac '2' (ac '4' af)))) af)))))))) (bg '1'))
theorem qv:dI=bY fo kY 1:=BI rfl
noncomputable def wc:MS:=
 nX
theorem tR:ay=bY gK wc 2:=BI rfl
noncomputable def mP:MS:=
 ax (bM (aL (aB nj (aB aX '0' 0e0) (!"tick"))) (bg (!"tick")) aI) (ax (au (bp [fG (aB aX '0' 1e0),mC (.str " "),fG (bV bT (aB aX '0' 0e0))] Str.empty) 'a') (ax (bM (cR (aL (aB nj (aO (az fm) (ac '0' af)) 3e0)) (aL (aB iz (aB aX '0' 2e0) (mC .non)))) (bg (bp [fG '1',mC (.str " "),fG (aB aX '0' 2e0)] Str.empty)) aI) (bg '1')))
theorem tP:dq=bY fR mP 1:=BI rfl
noncomputable def iI:MS:=
 ax (au (aB bu (bQ (ac (mC .non) af)) (bR (ac (aB bu (mC cV) 1e0) af))) 'a') (ax (au (bW (cO (mC lG)) '`' aP (gz (aF (ac '4' af)) 'a' aP (gz (cO '3') 'b' aP (qx (bj (ac '0' (ac '1' (ac '2' af))))))) [Y,Y,Y,U 1,U 0]) 'b') (ax (au (bF (cO (mC ee)) '`' aP (aF (ac '2' af)) 'a' aP (bj (ac '0' (ac '1' af))) [Y,Y,U 0]) 'c') (bg (cA (cO (aB bu (aB bu '2' '3') (bQ (ac (bj (ac (!"tick") af)) af)))) '`' aP (ak 1 dq (ac '0' af)) '0' [Y]))))
theorem lS:bw=bY cW iI 1:=BI rfl
noncomputable def mO:MY:=
 iJ (tU (cw (cF (cP "str" '1'))) (gH (mC .non)) (nQ aI)) (iJ (nQ (au (nU (cF '1') (cb '1' (ac (!"\n") af)) (bQ af)) 'b')) (iJ (nQ (au (ak 1 bw (ac '0' af)) 'c')) (iJ (wf (cz (ac '2' af)) (bI 2 (aU 'd' (aU 'e' cm))) (tU (aL (aB el '5' '3')) (gH '4') (nQ aI))) (nQ (bg (aO (az (iN .tup)) (ac (bP (cO '2') '`' aP (aB aX '1' '0') [Y,U 3]) af)))))))
theorem kQ:bo=sZ cK mO 2:=meY rfl
noncomputable def je:MS:=
 ax (au (mC .non) 'b') (ax (au (mC .non) 'c') (ax (wg 2 bo cX "row" (ac '0' (ac '1' af)) 4 2 3) (ax (bM (aL (aB PX '2' (mC .non))) (bg '3') aI) (ax (bM (fq (cw (cF (ub cX true '2'))) (cF (ub cX ([false,false,false].any id) '2'))) (bg (bj (ac (!"*") (ac (!"other") af)))) aI) (bg (nU (cF (ub cX true '2')) (bj (ac (!"*") (ac (wB cX "row" '2') af))) (bj (ac (!"*") (ac (!"other") af)))))))))
theorem kS:bJ=bY eZ je 2:=BI rfl
noncomputable def we:MS:=
 lf ay
theorem tT:du=bY fU we 2:=BI rfl
noncomputable def jL:MS:=
 ax (au (cb '1' (ac (!" ") af)) 'b') (ax (gy 3 4 (ac (ak 2 ay (ac '0' (ac (aB bu (aO (az fm) (ac '1' af)) 1e0) af))) (ac (ak 2 ay (ac '0' (ac (aO (az fm) (ac '2' af)) af))) af))) (ax (au (aB aX (aO (az iy) (ac (!"0123459 -aks") af)) (ak 2 ay (ac '0' (ac 12e0 af)))) 'e') (ax (au (bQ (ac (!"tick") (ac (!"0") (ac (!"5") (ac (!"9") (ac (!"10") (ac (!"-1") (ac (!"00") (ac (!"reads") (ac (!"writes") (ac (!"up") (ac (!"stops") (ac (!"leave") (ac (!"") af)))))))))))))) 'f') (ax (au (aB aX '6' (ak 2 ay (ac '0' (ac 13e0 af)))) 'f') (ax (au (bQ (ac (aB aW (aN '1' aT (bq '3')) (aN '1' (bq (aB aW '3' 1e0)) aT)) (ac (aB aW (aB aW (aN '1' aT (bq '3')) '5') (aN '1' (bq '3') aT)) (ac (aB aW (aB aW (aN '1' aT (bq '3')) '5') (aN '1' (bq (aB aW '3' 1e0)) aT)) (ac (!"") af))))) 'g') (ax (au (aB aW '7' (bQ (ac (bL (!" ") (ac (aB aW (aB aW (aN '2' aT (bq '4')) (bQ (ac '6' af))) (aN '2' (bq (aB aW '4' 1e0)) aT)) af)) (ac (aB aW (aB aW '1' (!" ")) '6') (ac (aB aW (!" ") '1') (ac (aB aW '1' (!" ")) af)))))) 'g') (bg (aB aX (aB aW '7' (bQ (ac (cE '1') (ac (bL (!" ") (ac (eO '2' (bq (qm Gr 1e0))) af)) (ac '6' af))))) (ak 2 ay (ac '0' (ac 11e0 af)))))))))))
theorem oV:cZ=bY eg jL 2:=BI rfl
noncomputable def mQ(dr:List D->aa->Option (D×aa)):MS:=
 iq dr
theorem tQ(j:Nat):fh (j+1)=bY N__law_same (mQ (fh j)) 2:=by
 unfold fh
 show bY N__law_same (qo (uT N__law_same bC (("_law_same",.fn 2 (Ed N__law_same bC eX [] "_law_same" 2 j))::eX) []) (aH bC)) 2=_
 generalize Ed N__law_same bC eX [] "_law_same" 2 j=F
 rw[show qo (uT N__law_same bC (("_law_same",.fn 2 F)::eX) []) (aH bC)=mQ F from rfl]
noncomputable def Mb:MS:=
 ax (eG (aF (ac (aB bu 2e0 (aO (az xn) (ac 8e0 (ac (aO (az fm) (ac '0' af)) af)))) af)) 'a' (ax (au (ak 2 eY (ac '0' (ac '1' af))) 'b') (ax (au (aB bu 1e0 (ak 2 ay (ac '2' (ac 5e0 af)))) 'c') (ax (au (ak 1 dI (ac '3' af)) 'd') (ax (au (bP (aF (ac (aB bu 1e0 (ak 2 ay (ac '2' (ac 12e0 af)))) af)) '`' aP (ak 1 aE (ac (ak 2 du (ac '1' (ac '2' af))) af)) [Y,U 2,U 3]) 'e') (eG (aF (ac 4e0 af)) 'f' (ax (au (aO mq (ac '5' af)) 'g') (ax (eG (aF (ac (aB bu 1e0 (ak 2 ay (ac '2' (ac 3e0 af)))) af)) 'h' (ax (au (ak 2 ay (ac '2' (ac (aO (az fm) (ac '7' af)) af))) 'i') (au (ak 2 cZ (ac '2' (ac (aB aX '7' '9') af))) (cC '7' '9')))) (ax (au (bt (ac '7' af) (bI 2 (aU '`' (aU 'a' cm))) (aL (aB el '1' '2')) '0' [Y,Y,U 4]) 'j') (ax (au (aO (az (iN .tup)) (ac (bE '7' '`' aP (bD iO '1' (ac '0' af)) [Y,U 4]) af)) 'k') (ax (bM (aL (aB ux ':' (bQ af))) (au (bj (ac (!"*") (ac (aB aX ':' 0e0) af))) 'k') aI) (ax (bM (aL (aB nj '7' (bQ (ac (!"") af)))) (au (bj af) 'k') aI) (bM (cw (cF (ak 2 dr (ac (ak 2 bJ (ac '3' (ac (bL (!"\n") (ac '7' af)) af))) (ac ';' af))))) (bg (mC (.bl false))) aI))))))))))))) (ax (ci (bj (ac (mC .non) (ac 7e0 (ac (mC (.bl false)) (ac (bj af) (ac (bQ (ac (!"tick") af)) (ac (bj (ac (!"tick") af)) (ac (mC (.dct [] [])) af)))))))) 'l' (bM (aL (aB ux (ak 2 bJ (ac 2e0 (ac '<' af))) (bj (ac (!"*") (ac (mC .non) af))))) (bg (mC (.bl false))) aI)) (bg (mC (.bl true))))
theorem Os:xl=bY xR Mb 1:=BI rfl
end K50
end
section
namespace K50
open MI L2
open M hiding mC ae aB aL bG cF cR fq cw gc vb fM nU af ac bj bQ dJ qm aT bq bA aO cP ak aI ax bg dW bM ag cm aU bI cC dN au aF bK eG bP cO aP eR eV gx gy gO dL ce bD ci bR bV bE fG bp bL bF qx gz bW cA cb cz aN eO cE bt
theorem gN:Ij ay:=λS r m h h0 h1=>by rw[tR];exact Bv rfl h h0 h1
theorem left{ns:List Int}{k:Int}(h0:0<=k)(h1:k<=100000):∃ a b,eY [.rol (ns.map .int),.int k] S=U (.ref S.length,S++[.lst [.int a,.int b,.int 0]])/\0<=a/\0<=b/\b<2147483647:=by
 rw[tS]
 exact BK (N:=fS) (cellAt:=dw) (far:=gq) rfl h0 h1 (λS k h=>by rw[nC];exact xI (N:=dC) rfl h) (λS=>by rw[vZ];exact Gm (N:=gu) rfl)
theorem deed{n:Nat}(P:Pk S r)(h1:1<=n)(h5:n<=5):∃ (dd:Dd) (S':aa),du [.ref r,.int (n:Int)] S=U (dd.d,S')/\dd.Ok n/\Pk S' r/\Keep r S S':=by
 rw[tT];exact Ht gN (N:=fU) rfl P h1 (by omega)
noncomputable def iS(i:Int):Str:=Str.ofString (toString i)
theorem pI{i:Int}(h0:0<=i)(h1:i<=1000):(iS i).length<=1002:=Ka (by omega) h1
theorem Fe:(Str.ofString "most ").length=5/\(Str.ofString "ups").length=3/\(Str.ofString " most ").length=6/\(Str.ofString " ups").length=4/\(Str.ofString "\n").length=1/\(Str.ofString "").length=0/\(Str.ofString "tick").length=4:=by decide +kernel
noncomputable def Nx(b:Bool):Str:=if b then "writes" else "reads"
noncomputable def Ny:Ak->Str
 | .up=>"up"
 | .down=>"down"
 | .leave=>"leaves"
 | .stop=>"stops"
noncomputable def gE:Option Int->Str
 | none=>Str.empty
 | some t=>(" ":Str)++iS t
noncomputable def bB:Dd->Str
 | .ask wr g t=>iS (g:Int)++" "++Nx wr++gE t
 | .act k g=>iS (g:Int)++" "++Ny k
 | .tick=>"tick"
theorem ixW{S:aa}:mf bT (.str (cL b),S)=U (.str (Nx b),S):=by
 cases b<;>simp (decide:=true) [mf,dM,cn,bT,cL,Nx]
theorem ixA{S:aa}{k:Ak}:mf bT (.str k.s,S)=U (.str (Ny k),S):=by
 cases k<;>simp (decide:=true) [mf,dM,cn,bT,Ak.s,Ny]
theorem kK(b:Bool):(Nx b).length<=6:=by cases b<;>decide +kernel
theorem sR(k:Ak):(Ny k).length<=6:=by cases k<;>decide +kernel
theorem nW(b:Bool):(cL b==("tick":Str))=false:=by cases b<;>decide +kernel
theorem nA(k:Ak):(k.s==("tick":Str))=false:=by cases k<;>decide +kernel
section
variable{S:aa}{d:D}{g:Nat}{w sh:Str}
noncomputable def MX:ME:=bp [fG (aB aX '0' 1e0),mC (.str " "),fG (bV bT (aB aX '0' 0e0))] Str.empty
theorem MZ{a1:Option D}(x0:aX S d (.int 0)=U (.str w))(x1:aX S d (.int 1)=U (.int (g:Int)))(hg:g<=9)(ix:mf bT (.str w,S)=U (.str sh,S))(hs:sh.length<=6):MX [U d,a1] S=U (.str (iS (g:Int)++" "++sh),S):=by
 obtain⟨b1,b2,b3,b4⟩:=qe
 have h1:=pI (i:=(g:Int)) (by omega) (by omega)
 have k1:yV (.int (g:Int),S)=U (.str (iS (g:Int)),S):=FG (by omega) (by omega)
 have k2:yV (.str sh,S)=U (.str sh,S):=FF (by omega)
 have j:∀ (r:List ME) (out y:Str) env,(out++y).length<=1000000->kJL r out env (.str y,S)=bp r (out++y) env S:=λr out y env h=>Mi h
 unfold MX
 rw[eU,uc]
 simp only[bO,aw,fg,fL,fK,oj,ob,av,bf,cB,be,x1,k1]
 rw[j _ _ _ _ (by simp only[gA];omega),eU,cB,ob,j _ _ _ _ (by simp only[gA];omega),eU,uc]
 simp only[EN,bO,aw,fg,fL,fK,oj,ob,av,bf,cB,be,x0,ix,k2]
 rw[j _ _ _ _ (by simp only[gA];omega),pi,Str.empty_append]
theorem txt2{x:Str}(hx:x.length<=5000)(x2:aX S d (.int 2)=U (.int t))(t0:0<=t)(t9:t<=9):bp [fG '1',mC (.str " "),fG (aB aX '0' 2e0)] Str.empty [U d,U (.str x)] S=U (.str (x++gE (U t)),S):=by
 obtain⟨b1,b2,b3,b4⟩:=qe
 have h1:=pI (i:=t) (by omega) (by omega)
 have k1:yV (.int t,S)=U (.str (iS t),S):=FG (by omega) (by omega)
 have k2:yV (.str x,S)=U (.str x,S):=FF (by omega)
 have j:∀ (r:List ME) (out y:Str) env,(out++y).length<=1000000->kJL r out env (.str y,S)=bp r (out++y) env S:=λr out y env h=>Mi h
 rw[eU,uc]
 simp only[aw,fg,fL,fK,oj,ob,av,k2]
 rw[j _ _ _ _ (by simp only[gA];omega),eU,cB,ob,j _ _ _ _ (by simp only[gA];omega),eU,uc]
 simp only[bO,aw,fg,fL,fK,oj,ob,av,bf,cB,be,x2,k1]
 rw[j _ _ _ _ (by simp only[gA];omega),pi,Str.empty_append,Va]
 rfl
end
theorem qf{g:Nat}{sh:Str}(hg:g<=9)(hs:sh.length<=6):(iS (g:Int)++" "++sh).length<=1009:=by
 obtain⟨b1,b2,b3,b4⟩:=qe
 have h1:=pI (i:=(g:Int)) (by omega) (by omega)
 simp only[gA];omega
theorem zw(S:aa){dd:Dd}(h:dd.Ok n)(hn:n<=9):dq [dd.d] S=U (.str (bB dd),S):=by
 rw[tP,da (show [dd.d].length=1 from rfl),show bh fR [dd.d]=[U dd.d,Y] from rfl]
 have hm:mP=ax (bM (aL (aB nj (aB aX '0' 0e0) (!"tick"))) (bg (!"tick")) aI) (ax (au MX 'a') (ax (bM (cR (aL (aB nj (aO (az fm) (ac '0' af)) 3e0)) (aL (aB iz (aB aX '0' 2e0) (mC .non)))) (bg (bp [fG '1',mC (.str " "),fG (aB aX '0' 2e0)] Str.empty)) aI) (bg '1'))):=rfl
 rw[hm]
 cases dd with
 | tick=>
  have x0:aX S Dd.tick.d (.int 0)=U (.str "tick"):=rfl
  simp only[dQ,fY,db,bO,aw,fg,fL,fK,oj,ob,av,bf,cB,be,x0,uy,Tx,de,pC,fV,iK,um,fi]
  rfl
 | act k g=>
  have hg:g<n:=h
  have x0:aX S (Dd.act k g).d (.int 0)=U (.str k.s):=rfl
  have x1:aX S (Dd.act k g).d (.int 1)=U (.int (g:Int)):=rfl
  have ln:az fm [(Dd.act k g).d] S=U (.int 2,S):=rfl
  have n3:((2:Int)==3)=false:=rfl
  simp only[dQ,fY,db,bO,aw,fg,fL,fK,oj,ob,av,bf,cB,be,x0,uy,nA k,de,jp,fJ,df,bx,MZ x0 x1 (show g<=9 by omega) ixA (sR k),bz,aK,jh,kG,cr,uh,ei,ar,aq,aD,ao,ej,ln,zg,n3,JX,fV,iK,fi]
  rfl
 | ask wr g t=>
  obtain⟨hg,ht⟩:g<n/\gf t:=h
  have x0:aX S (Dd.ask wr g t).d (.int 0)=U (.str (cL wr)):=rfl
  have x1:aX S (Dd.ask wr g t).d (.int 1)=U (.int (g:Int)):=rfl
  have x2:aX S (Dd.ask wr g t).d (.int 2)=U (cS t):=rfl
  have ln:az fm [(Dd.ask wr g t).d] S=U (.int 3,S):=rfl
  cases t with
  | none=>
   have i2:(!rW (cS Y) .non)=false:=rfl
   simp only[dQ,fY,db,bO,aw,fg,fL,fK,oj,ob,av,bf,cB,be,x0,uy,nW wr,de,jp,fJ,df,bx,MZ x0 x1 (show g<=9 by omega) ixW (kK wr),bz,aK,jh,kG,cr,uh,ei,ar,aq,aD,ao,ej,ln,zg,Tx,AC,x2,pO,i2,fV,iK,fi]
   show U (D.str _,S)=U (D.str (_++Str.empty),S)
   rw[Str.append_empty]
  | some t=>
   have i2:(!rW (cS (U t)) .non)=true:=rfl
   obtain⟨t0,t9⟩:=ht t rfl
   simp only[dQ,fY,db,bO,aw,fg,fL,fK,oj,ob,av,bf,cB,be,x0,uy,nW wr,de,jp,fJ,df,bx,MZ x0 x1 (show g<=9 by omega) ixW (kK wr),bz,aK,jh,kG,cr,uh,ei,ar,aq,aD,ao,ej,ln,zg,Tx,AC,x2,pO,i2,pC,fV,txt2 (RG (qf (show g<=9 by omega) (kK wr)) (by decide)) x2 t0 t9,iK,um,fi]
   rfl
noncomputable def lwL:List (aJ×D):=[(.inr "read",.str "reads"),(.inr "write",.str "writes"),(.inr "leave",.str "leaves"),(.inr "stop",.str "stops")]
theorem vW:(cn lwL (.inr (cL b))).getD (.str (cL b))=.str (Nx b):=by
 cases b<;>simp (decide:=true) [cn,lwL,cL,Nx]
theorem vA{k:Ak}:(cn lwL (.inr k.s)).getD (.str k.s)=.str (Ny k):=by
 cases k<;>simp (decide:=true) [cn,lwL,Ak.s,Ny]
section
variable{S:aa}{d:D}{g:Nat}{w sh:Str}
noncomputable def ldM:MS:=ax (au (dL [(mC (.str "read"),mC (.str "reads")),(mC (.str "write"),mC (.str "writes")),(mC (.str "leave"),mC (.str "leaves")),(mC (.str "stop"),mC (.str "stops"))]) 'a') (ax (au (aB ft (aB ft (aO (az gJ) (ac (aB aX '0' 1e0) af)) (!" ")) (bD iO '1' (ac (aB aX '0' 0e0) (ac (aB aX '0' 0e0) af)))) 'b') (bg (aB ft '2' (bL (!"") (ac (bP (cO (bA '0' (bq 2e0) aT)) '`' (aL (aB iz '0' (mC .non))) (aB ft (!" ") (aO (az gJ) (ac '0' af))) [Y]) af)))))
theorem Md{ts:List (Option Int)}{a1 a2:Option D}(hd:d=.tup ds)(hc:gB ds (U 2) Y=ts.map cS)(x0:aX S d (.int 0)=U (.str w))(x1:aX S d (.int 1)=U (.int (g:Int)))(hg:g<=9)(hv:(cn lwL (.inr w)).getD (.str w)=.str sh)(hs:sh.length<=6)(hl:ts.length<=1)(ht:∀ t∈ts,gf t) :
  (ldM [U d,a1,a2] S).bind Jq=U (.str (iS (g:Int)++" "++sh++Str.join "" ((ts.filter (·.isSome)).map gE)),S):=by
 obtain⟨b1,b2,b3,b4⟩:=qe
 have h1:=pI (i:=(g:Int)) (by omega) (by omega)
 have kd:rP ([(.inr "read",.str "reads"),(.inr "write",.str "writes"),(.inr "leave",.str "leaves"),(.inr "stop",.str "stops")],S)=U (.dct (lwL.map (·.1)) (lwL.map (·.2)),S):=FJ (l:=lwL) (show [(Sum.inr "read":aJ),.inr "write",.inr "leave",.inr "stop"].Nodup by decide +kernel) (by show 4<=15;decide)
 have gd:iO (.dct (lwL.map (·.1)) (lwL.map (·.2))) [.str w,.str w] S=U (.str sh,S):=by rw[Kl (k:=.inr w) rfl,hv]
 have s1:az gJ [.int (g:Int)] S=U (.str (iS (g:Int)),S):=AK (by omega) (by omega)
 have a1:ft S (.str (iS (g:Int))) (.str " ")=U (.str (iS (g:Int)++" ")):=lv (by omega)
 have a2:ft S (.str (iS (g:Int)++" ")) (.str sh)=U (.str (iS (g:Int)++" "++sh)):=lv (by simp only[gA];omega)
 have kc:=λenv=>Fj (S:=S) (t:=aL (aB iz '0' (mC .non))) (e:=aB ft (!" ") (aO (az gJ) (ac '0' af))) (cap:=[Y]) (env:=env) (rest:=[]) (a:=Y) (enc:=cS) (p:=λt=>t.isSome) (f:=λt=>.str (gE t)) (xs:=ts) rfl (by omega) (λt _=>by
  have:(!rW (cS t) .non)=t.isSome:=by cases t<;>rfl
  simp only[db,bO,aw,fg,oj,ob,av,bf,cB,be,pO,this,de]) (λt hm hp=>by
  cases t with
  | none=>cases hp
  | some k=>
   obtain⟨k0,k9⟩:=ht _ hm k rfl
   have h2:=pI (i:=k) (by omega) (by omega)
   have s2:az gJ [cS (U k)] S=U (.str (iS k),S):=AK (by omega) (by omega)
   have a3:ft S (.str " ") (.str (iS k))=U (.str (" "++iS k)):=lv (by omega)
   simp only[bO,cB,ob,bf,ei,ar,aw,fg,oj,av,aq,aD,ao,ej,s2,be,a3]
   rfl)
 have few:(((ts.filter (·.isSome)).map gE).map (·.length)).sum+((ts.filter (·.isSome)).map gE).length*(Str.ofString "").length<=2000:=by
  rw[Fe.2.2.2.2.2.1,TX,Nat.mul_zero]
  refine RG (sM ((·.length) ∘ gE) 1003 _ λt hm=>?_) ?_
  ·have hm:=(SQ.mp hm).1
   cases t with
   | none=>show Str.empty.length<=_;omega
   | some k=>
    obtain⟨k0,k9⟩:=ht _ hm k rfl
    have h2:=pI (i:=k) (by omega) (by omega)
    show((" ":Str)++iS k).length<=_
    simp only[gA];omega
  ·have:=List.length_filter_le (·.isSome) ts
   have:(ts.filter (·.isSome)).length*1003<=1*1003:=Nat.mul_le_mul (by omega) (Rn _)
   omega
 have jn:lr (.str "") [.lst ((ts.filter (·.isSome)).map λt=>.str (gE t))] S=U (.str (Str.join "" ((ts.filter (·.isSome)).map gE)),S):=lq (by show U _=_;rw[TX];rfl) (RG few (by decide))
 have jl:=RG (mn "" ((ts.filter (·.isSome)).map gE)) few
 have a4:ft S (.str (iS (g:Int)++" "++sh)) (.str (Str.join "" ((ts.filter (·.isSome)).map gE)))=U (.str (iS (g:Int)++" "++sh++Str.join "" ((ts.filter (·.isSome)).map gE))):=lv (by simp only[gA];omega)
 have sl:BQ d (U 2) (Y,S)=U (.tup (ts.map cS),S):=by rw[hd,OJ,hc]
 simp only[ldM,dQ,bx,JH,mR,cB,ob,Fz,Fy,ph,Fx,kd,bz,aK,jh,kG,cr,df,bO,ei,ar,aw,fg,fL,fK,oj,av,bf,be,x1,aq,aD,ao,ej,s1,a1,wv,FB,x0,jm,gd,a2,fV,kZ,Ay,ud,ua,wl,OL,nR,nZ,Ft,pg,sl,OT,kc,jn,a4,iK,fi]
end
theorem join1(s x:Str):Str.join s [x]=x:=rR s [] x
theorem gR(S:aa){dd:Dd}(h:dd.Ok n)(hn:n<=9):aE [dd.d] S=U (.str (bB dd),S):=by
 rw[kT,da (show [dd.d].length=1 from rfl),show bh cD [dd.d]=[U dd.d,Y,Y] from rfl]
 have hm:gX=ax (bM (aL (aB nj '0' (bj (ac (!"tick") af)))) (bg (!"tick")) aI) ldM:=rfl
 rw[hm]
 have t1:∀ a:D,gY ([a],S)=U (.tup [a],S):=λa=>bS (by simp)
 have go:yZ dd=false->((ax (bM (aL (aB nj '0' (bj (ac (!"tick") af)))) (bg (!"tick")) aI) ldM) [U dd.d,Y,Y] S)=ldM [U dd.d,Y,Y] S:=λht=>by
  simp only[dQ,fY,db,bO,aw,fg,fL,fK,oj,ob,av,bf,fj,ar,cB,aq,aD,ao,t1,be,Dd.tick_ne,ht,de,jp,fJ,df]
 cases dd with
 | tick=>
  have e:=Dd.tick_ne (S:=S) (dd:=.tick)
  simp only[dQ,fY,db,bO,aw,fg,fL,fK,oj,ob,av,bf,fj,ar,cB,aq,aD,ao,t1,be,e,yZ,de,pC,fV,iK,um,fi]
  rfl
 | act k g=>
  have hg:g<n:=h
  rw[go rfl,Md (d:=(Dd.act k g).d) (ts:=[]) (g:=g) (sh:=Ny k) rfl rfl rfl rfl (by omega) vA (sR k) (by decide) (λt h=>by cases h)]
  show U (D.str (_++Str.empty),S)=_
  rw[Str.append_empty];rfl
 | ask wr g t=>
  obtain⟨hg,ht⟩:g<n/\gf t:=h
  rw[go rfl,Md (d:=(Dd.ask wr g t).d) (ts:=[t]) (g:=g) (sh:=Nx wr) rfl rfl rfl rfl (by omega) vW (kK wr) (Rn 1) (λu h=>by rw[RD.mp h];exact ht)]
  cases t with
  | none=>rfl
  | some t=>
   show U (D.str (_++Str.join "" [gE (U t)]),S)=_
   rw[join1];rfl
noncomputable def allA:List Ak:=[.up,.down,.leave,.stop]
noncomputable def lefts:List (Option Int):=Y::(List.range 10).map λ(i:Nat)=>U (i:Int)
noncomputable def cJ(n:Nat):List Dd:=([false,true]:List Bool).flatMap (λw=>(List.range n).flatMap λg=>lefts.flatMap λt=>[.ask w g t])++(allA.flatMap λk=>(List.range n).flatMap λg=>[.act k g])++[.tick]
set_option maxHeartbeats 0 in
theorem xC:∀ n,n<=5->((cJ n).map bB).Nodup:=by decide +kernel
theorem rn(n:Nat):aS 0 n=(List.range n).map ni:=by have:=EF n;unfold nl at this;injection this
section
variable{S:aa}
noncomputable def db2:MB:=gz (cO '3') 'b' aP (qx (bj (ac '0' (ac '1' (ac '2' af)))))
noncomputable def db1:MB:=gz (aF (ac '4' af)) 'a' aP db2
noncomputable def Dl:D:=.lst (lefts.map cS)
noncomputable def J1(n:Nat)(w:Bool)(env:ai):Prop:=∃ b c,env=[U (.str (cL w)),b,c,U Dl,U (ni n)]
noncomputable def J2(n:Nat)(w:Bool)(g:Nat)(env:ai):Prop:=∃ c,env=[U (.str (cL w)),U (ni g),c,U Dl,U (ni n)]
theorem QA(h:J2 n w g env):∃ env',db2 env S=U (lefts.flatMap (λt=>[(Dd.ask w g t).d]),env',S)/\J2 n w g env':=by
 have k3:∀ x y z:D,gY ([x,y,z],S)=U (.tup [x,y,z],S):=λx y z=>bS (by simp)
 obtain⟨env',h1,h2⟩:=io (S:=S) (g:=ag 2) (bd:=qx (bj (ac '0' (ac '1' (ac '2' af))))) (enc:=cS) (J2 n w g) (λt=>[(Dd.ask w g t).d]) lefts env h λt _ env hi=>by
  obtain⟨c,rfl⟩:=hi
  refine⟨[U (.str (cL w)),U (ni g),U (cS t),U Dl,U (ni n)],[U (.str (cL w)),U (ni g),U (cS t),U Dl,U (ni n)],by rw[aK];rfl,?_,⟨_,rfl⟩⟩
  simp only[mEm_s,fj,ar,aw,fg,fL,fK,oj,ob,av,aq,aD,ao,k3,kEm_s]
  rfl
 refine⟨env',?_,h2⟩
 have hv:cO '3' env S=U (lefts.map cS,S):=by
  obtain⟨c,rfl⟩:=h
  simp only[ua,aw,fg,fL,fK,oj,ob,av,Dl,yU]
 rw[db2,ET,hv,ob,Mj]
 exact h1
theorem QB{n:Nat}(hn:n<=5)(h:J1 n w env):∃ env',db1 env S=U ((List.range n).flatMap (λg=>lefts.flatMap λt=>[(Dd.ask w g t).d]),env',S)/\J1 n w env':=by
 obtain⟨env',h1,h2⟩:=io (S:=S) (g:=ag 1) (bd:=db2) (enc:=ni) (J1 n w) (λg=>lefts.flatMap λt=>[(Dd.ask w g t).d]) (List.range n) env h λg _ env hi=>by
  obtain⟨b,c,rfl⟩:=hi
  obtain⟨env2,q1,c2,rfl⟩:=QA (S:=S) (n:=n) (w:=w) (g:=g) (env:=[U (.str (cL w)),U (ni g),c,U Dl,U (ni n)]) ⟨_,rfl⟩
  exact⟨_,_,by rw[aK];rfl,q1,⟨_,_,rfl⟩⟩
 refine⟨env',?_,h2⟩
 have hv:aF (ac '4' af) env S=U ((List.range n).map ni,S):=by
  obtain⟨b,c,rfl⟩:=h
  simp only[eQ,ar,aw,fg,fL,fK,oj,ob,av,aq,aD,ao]
  show Fw ([.int (n:Int)],S)=_
  rw[jk (by omega) (by omega),SB,rn]
 rw[db1,ET,hv,ob,Mj]
 exact h1
noncomputable def jP(n:Nat):List Dd:=([false,true]:List Bool).flatMap (λw=>(List.range n).flatMap λg=>lefts.flatMap λt=>[.ask w g t])
noncomputable def jQ(n:Nat):List Dd:=allA.flatMap λk=>(List.range n).flatMap λg=>[.act k g]
theorem QN(n:Nat):(([false,true]:List Bool).flatMap (λw=>(List.range n).flatMap λg=>lefts.flatMap λt=>[(Dd.ask w g t).d]))=(jP n).map Dd.d:=by
 simp only[jP,List.map_flatMap];rfl
theorem QP(n:Nat):(allA.flatMap λk=>(List.range n).map λg=>(Dd.act k g).d)=(jQ n).map Dd.d:=by
 simp only[jQ,List.map_flatMap]
 congr 1;funext k
 induction List.range n with
 | nil=>rfl
 | cons g l ih=>rw[RB,Ud,<- ih];rfl
noncomputable def mF(n:Nat):List (aJ×D):=(cJ n).map λdd=>(.inr (bB dd),dd.d)
theorem Hq{n:Nat}:∀ dd∈cJ n,dd.Ok n:=λdd hd=>by
 unfold cJ at hd
 simp only[RE,Vc,Sv,RD] at hd
 rcases hd with (⟨w,_,g,hg,t,ht,rfl⟩ | ⟨k,_,g,hg,rfl⟩) | rfl
 ·refine⟨hg,λk e=>?_⟩
  subst e
  unfold lefts at ht
  simp only[Rv,Sb,Sv,UR] at ht
  rcases ht with ht | ⟨i,hi,rfl⟩
  ·cases ht
  ·omega
 ·exact hg
 ·trivial
theorem Hs{dd:Dd}(h:dd.Ok n):dd∈cJ n:=by
 unfold cJ
 simp only[RE,Vc,Sv,RD]
 cases dd with
 | ask w g t=>
  refine .inl (.inl ⟨w,by cases w<;>simp,g,h.1,t,?_,rfl⟩)
  unfold lefts
  cases t with
  | none=>simp
  | some k=>
   have:=h.2 k rfl
   simp only[Rv,Sb,Sv,UR]
   exact .inr ⟨k.toNat,by omega,by omega⟩
 | act k g=>exact .inl (.inr ⟨k,by cases k<;>decide,g,h,rfl⟩)
 | tick=>exact .inr rfl
theorem CF:∀ n,n<=5->(cJ n).length<=200/\(jP n).length<=200/\(jQ n).length<=200:=by decide +kernel
theorem KQ(n:Nat):(jP n).map Dd.d++(jQ n).map Dd.d++[.tup [.str "tick"]]=(cJ n).map Dd.d:=by
 rw[show cJ n=jP n++jQ n++[.tick] from rfl,Sk,Sk];rfl
theorem KS(S:aa){n:Nat}(hn:n<=5):∃ T,bw [.int (n:Int)] S=U (.dct ((mF n).map (·.1)) ((mF n).map (·.2)),S++T):=by
 rw[lS,da (show [D.int (n:Int)].length=1 from rfl),show bh cW [D.int (n:Int)]=[U (ni n),Y,Y,Y] from rfl]
 obtain⟨l1,l2,l3⟩:=CF n hn
 obtain⟨env',h1,_⟩:=io (S:=S) (g:=ag 0) (bd:=db1) (enc:=λw:Bool=>.str (cL w)) (λenv=>∃ a b c,env=[a,b,c,U Dl,U (ni n)]) (λw=>(List.range n).flatMap λg=>lefts.flatMap λt=>[(Dd.ask w g t).d]) [false,true] [Y,Y,Y,U Dl,U (ni n)] ⟨_,_,_,rfl⟩ λw _ env hi=>by
  obtain⟨a,b,c,rfl⟩:=hi
  obtain⟨env2,q1,b2,c2,rfl⟩:=QB (S:=S) (n:=n) (w:=w) (env:=[U (.str (cL w)),b,c,U Dl,U (ni n)]) hn ⟨_,_,rfl⟩
  exact⟨_,_,by rw[aK];rfl,q1,⟨_,_,_,rfl⟩⟩
 rw[QN] at h1
 have h3:=HL (S:=S) (e:=bj (ac '0' (ac '1' af))) (mi:=aF (ac '2' af)) (enc:=λk:Ak=>.str k.s) (c:=U (ni n)) (n:=n) (f:=λk g=>(Dd.act k g).d) (λk b=>by
  simp only[eQ,ar,aw,fg,fL,fK,oj,ob,av,aq,aD,ao]
  show Fw ([.int (n:Int)],S)=_
  rw[jk (by omega) (by omega),SB,rn]) (λk g=>by
  simp only[fj,ar,aw,fg,fL,fK,oj,ob,av,aq,aD,ao]
  exact bS (by simp)) allA Y Y
 rw[QP] at h3
 obtain⟨T,h2⟩:=pB (g:=ag 0) (a:=ak 1 dq (ac '0' af)) (b:=ae 0) (enc:=Dd.d) (λenv=>∃ a,env=[a]) bB (cJ n) [Y] S [] ⟨_,rfl⟩ (by simp only[Sl];omega) λdd hr env S hi=>by
  obtain⟨a,rfl⟩:=hi
  have e:=zw S (Hq dd hr) (by omega)
  refine⟨[U dd.d],[],by rw[aK];rfl,?_,λS=>by simp only[aw,fg,oj,ob,av],⟨_,rfl⟩⟩
  simp only[bH,ar,aw,fg,oj,ob,av,aq,aD,ao,gZ,e,RU]
 rw[vY (xC n hn)] at h2
 refine⟨T,?_⟩
 have hm:iI=ax (au (aB bu (bQ (ac (mC .non) af)) (bR (ac (aB bu (mC cV) 1e0) af))) 'a') (ax (au (bW (cO (mC lG)) '`' aP db1 [Y,Y,Y,U 1,U 0]) 'b') (ax (au (bF (cO (mC ee)) '`' aP (aF (ac '2' af)) 'a' aP (bj (ac '0' (ac '1' af))) [Y,Y,U 0]) 'c') (bg (cA (cO (aB bu (aB bu '2' '3') (bQ (ac (bj (ac (!"tick") af)) af)))) '`' aP (ak 1 dq (ac '0' af)) '0' [Y])))):=rfl
 have ki:BU (lG,S)=U (([false,true]:List Bool).map λw=>.str (cL w),S):=rfl
 have kj:BU (ee,S)=U (allA.map λk=>.str k.s,S):=rfl
 have kl:∀ e,JW ((jP n).map Dd.d,e,S)=U (.lst ((jP n).map Dd.d),S):=λe=>JV (by rw[Rt];omega)
 have k9:JS ((jQ n).map Dd.d,S)=U (.lst ((jQ n).map Dd.d),S):=JR (by rw[Rt];omega)
 have f1:bu S cV (.int 1)=U (.int 10):=rfl
 have f2:jo ([.non],S)=U (.lst [.non],S):=cH (by simp)
 have f3:ut ([.int 10],S)=U (.lst (aS 0 10),S):=rO (by decide) (by decide)
 have f4:bu S (.lst [.non]) (.lst (aS 0 10))=U Dl:=pP (by decide)
 have f5:bu S (.lst ((jP n).map Dd.d)) (.lst ((jQ n).map Dd.d))=U (.lst ((jP n).map Dd.d++(jQ n).map Dd.d)):=pP (by rw[Rt,Rt];omega)
 have f6:gY ([.str "tick"],S)=U (.tup [.str "tick"],S):=bS (by simp)
 have f7:jo ([.tup [.str "tick"]],S)=U (.lst [.tup [.str "tick"]],S):=cH (by simp)
 have f8:bu S (.lst ((jP n).map Dd.d++(jQ n).map Dd.d)) (.lst [.tup [.str "tick"]])=U (.lst ((cJ n).map Dd.d)):=by
  rw[pP (by rw[Rz,Rt,Rt];simp only[Rr,Sl];omega),KQ]
 rw[hm]
 simp only[dQ,bx,bO,fX,ar,cB,ob,aq,aD,ao,f2,bf,wz,be,f1,av,f3,f4,bz,aK,jh,kG,cr,df,Fb,ua,ki,kCN_s,show ∀ a b:Option D,fP [Y,Y,Y,U 1,U 0] [U (ni n),U Dl,a,b]=[Y,Y,Y,U Dl,U (ni n)] from λ_ _=>rfl,h1,kl,
  Fc,kj,Pg,show ∀ a b c:Option D,fP [Y,Y,U 0] [U (ni n),a,b,c]=[Y,Y,U (ni n)] from λ_ _ _=>rfl,h3,k9,fV,EZ,aw,fg,fL,fK,oj,f5,fj,f6,f7,f8,yU,kDC_s,show ∀ e:ai,fP [Y] e=[Y] from λ_=>rfl,h2,OV,iK,fi]
 rfl
end
theorem ok5{n:Nat}(hn:n<=5){dd:Dd}(h:dd.Ok n):dd∈cJ 5:=Hs (by
 cases dd with
 | ask w g t=>exact⟨Ry h.1 hn,h.2⟩
 | act k g=>exact Ry h hn
 | tick=>trivial)
theorem yr:(Str.ofString "\n").cps.toList=[10]/\Builtin.Str.strKind (Str.ofString "\n")=1/\((Str.ofString "\n").length==0)=false:=by decide +kernel
theorem Np:(Str.ofString " ").cps.toList=[32]/\Builtin.Str.strKind (Str.ofString " ")=1/\((Str.ofString " ").length==0)=false:=by decide +kernel
theorem wO{S:aa}{y:Str}(h:y.length<=1000000):yS (.str y,S)=U ((y.length:Int) != 0,S):=by
 show(if y.length<=sizeLine then U ((y.length:Int) != 0) else Y).bind _=_
 rw[Ru (LL h)];rfl
end K50
end
section
namespace K50
open PySem MI PySem.Spec PyProof.Rows L2 Builtin Builtin.Str
open M hiding mC ae aB aL bG cF cR fq cw gc vb fM nU af ac bj bQ dJ qm aT bq bA aO cP ak aI ax bg dW bM ag cm aU bI cC dN au aF bK eG bP cO aP eR eV gx gy gO dL ce bD ci bR bV bE fG bp bL bF qx gz bW cA cb cz aN eO cE bt
noncomputable def pl(c:Nat):Prop:=c<128/\c≠10
structure Cl(b:Nat)(z:Str):Prop where
 c:∀ c∈z.cps.toList,pl c
 l:z.length<=b
noncomputable def clB(b:Nat)(z:Str):Bool:=(z.cps.toList.all λc=>decide (c<128)&&decide (c≠10))&&decide (z.length<=b)
theorem uO(h:clB b z=true):Cl b z:=by
 unfold clB at h
 rw[Rg,RI,Sq] at h
 exact⟨λc hc=>by have:=h.1 c hc;rw[Rg,Sq,Sq] at this;exact this,h.2⟩
section
variable{a b:Nat}{x y z:Str}
theorem Cl.up(h:Cl a z)(k:a<=b):Cl b z:=⟨h.c,RG h.l k⟩
theorem cpsA(x y:Str):(x++y).cps.toList=x.cps.toList++y.cps.toList:=by simp[Str.cps_append]
theorem Cl.app(h:Cl a x)(k:Cl b y):Cl (a+b) (x++y):=⟨λc hc=>by
 rw[cpsA,RE] at hc
 rcases hc with hc | hc
 ·exact h.c c hc
 ·exact k.c c hc,by rw[gA];exact Nat.add_le_add h.l k.l⟩
theorem Cl.slice(h:Cl b z)(l u:Option Int):Cl b (Txt.slice z l u):=⟨λc hc=>by
 unfold Txt.slice at hc
 split at hc
 ·exact h.c c hc
 ·obtain⟨i,_,hi⟩:=UG.mp (show c∈(strSliceIndices l u 1 z.length).filterMap (z.cps[·]?) by simpa using hc)
  exact h.c c (Wg.mpr (Array.mem_of_getElem? hi)),RG (Txt.slice_le _ _ _) h.l⟩
theorem Cl.upper(h:Cl b z):Cl b (Txt.upper z):=by
 rw[upper_ascii λc hc=>(h.c c hc).1]
 refine⟨λc hc=>?_,?_⟩
 ·obtain⟨d,hd,rfl⟩:=Sb.mp (show c∈z.cps.toList.map up1 by simpa using hc)
  have:=h.c d hd
  unfold pl at this ⊢
  unfold up1
  split<;>omega
 ·show(z.cps.map up1).size<=b
  rw[Array.size_map];exact h.l
noncomputable def wt(ps:List Str):Nat:=(ps.map (·.length)).sum+ps.length
theorem nI(p:Str)(ps:List Str):wt (p::ps)=p.length+1+wt ps:=by unfold wt;simp only[RB,List.sum_cons,Rr];omega
theorem sC(ps qs:List Str):wt (ps++qs)=wt ps+wt qs:=by unfold wt;simp only[Sk,List.sum_append,Rz];omega
theorem MQ(ps:List Str):wt ps.reverse=wt ps:=by
 induction ps with
 | nil=>rfl
 | cons p ps ih=>rw[Tv,sC,ih,nI,nI];show _+(_+1+0)=_;omega
theorem sO:(Str.ofString " ").length=1/\(Str.ofString " ").cps.toList=[32]:=by decide +kernel
theorem zM:∀ ps:List Str,wt ps<=(Str.join " " ps).length+1
 | []=>by show 0<=_;omega
 | [p]=>by show p.length+0+1<=p.length+1;omega
 | p::q::r=>by
  have:=zM (q::r)
  rw[nI]
  show _<=(p++" "++Str.join " " (q::r)).length+1
  rw[gA,gA,show(" ":Str).length=1 from sO.1];omega
theorem oU{c:Nat}{s:Str}:∀ ps:List Str,(c∈(Str.join s ps).cps.toList->c∈s.cps.toList\/∃ p∈ps,c∈p.cps.toList)/\((∃ p∈ps,c∈p.cps.toList)->c∈(Str.join s ps).cps.toList)
 | []=>⟨λh=>absurd h (by show ¬ c∈([]:List Nat);exact RT),λh=>by obtain⟨_,h,_⟩:=h;cases h⟩
 | [p]=>⟨λh=>.inr ⟨p,by simp,h⟩,λh=>by obtain⟨q,h,hc⟩:=h;rw[RD.mp h] at hc;exact hc⟩
 | p::q::r=>by
  obtain⟨i1,i2⟩:=oU (c:=c) (s:=s) (q::r)
  rw[FU,RE,RE]
  refine⟨λh=>?_,λ⟨u,hu,hc⟩=>?_⟩
  ·rcases h with h | h | h
   ·exact .inr ⟨p,by simp,h⟩
   ·exact .inl h
   ·rcases i1 h with h | ⟨u,hu,hc⟩
    ·exact .inl h
    ·exact .inr ⟨u,Rj _ hu,hc⟩
  ·rcases Rv.mp hu with rfl | hu
   ·exact .inl hc
   ·exact .inr (.inr (i2 ⟨u,hu,hc⟩))
structure Cls(w:Nat)(ps:List Str):Prop where
 c:∀ p∈ps,∀ c∈p.cps.toList,pl c
 l:wt ps<=w
theorem Cl.split(h:Cl b z):Cls (b+1) (Txt.split z " "):=by
 have e:=StrLaws.join_split z " "
 refine⟨λp hp c hc=>h.c c (by rw[<- e];exact(oU _).2 ⟨p,hp,hc⟩),?_⟩
 have:=zM (Txt.split z " ")
 rw[e] at this
 have:=h.l
 omega
theorem DK(z y:Str):Txt.split z y≠[]:=by
 unfold Txt.split
 split
 ·exact λh=>by cases h
 ·split
  ·exact λh=>by cases h
  ·rw[StrLaws.partsBetween_eq]
   obtain⟨p,r,e⟩:=StrLaws.partsFrom_ne z y.length 0 (Builtin.Str.occurrences z y 0 z.length (z.length+1))
   rw[e];exact λh=>by cases h
variable{w:Nat}{ps:List Str}
theorem Cls.join(h:Cls w ps):Cl w (Str.join " " ps):=by
 refine⟨λc hc=>?_,?_⟩
 ·rcases(oU ps).1 hc with hc | ⟨p,hp,hc⟩
  ·rw[sO.2,RD] at hc
   subst hc
   exact⟨by decide,by decide⟩
  ·exact h.c p hp c hc
 ·have:=mn " " ps
  rw[show(" ":Str).length=1 from sO.1] at this
  have:=h.l
  unfold wt at this
  omega
theorem Cls.put(h:Cls w ps)(ho:Cl a o)(i:Nat):Cls (w+a+1) (ps.take i++[o]++ps.drop (i+1)):=by
 refine⟨λp hp=>?_,?_⟩
 ·rw[RE,RE,RD] at hp
  rcases hp with (hp | rfl) | hp
  ·exact h.c p (TD hp)
  ·exact ho.c
  ·exact h.c p (Ux hp)
 ·have e:wt (ps.take i)+wt (ps.drop i)=wt ps:=by rw[<- sC,SG]
  have e2:wt (ps.drop (i+1))<=wt (ps.drop i):=by
   rw[<- TY]
   cases ps.drop i with
   | nil=>exact Rn _
   | cons q r=>rw[nI];show wt r<=_;omega
  rw[sC,sC]
  show _+(o.length+0+1)+_<=_
  have:=h.l
  have:=ho.l
  omega
theorem Cls.rev(h:Cls w ps):Cls w ps.reverse:=⟨λp hp=>h.c p (List.mem_reverse.mp hp),by rw[MQ];exact h.l⟩
theorem Cls.few(h:Cls w ps):(ps.map (·.length)).sum+ps.length*(Str.ofString " ").length<=w:=by rw[sO.1];have:=h.l;unfold wt at this;omega
theorem Cls.len(h:Cls w ps):ps.length<=w:=by have:=h.l;unfold wt at this;omega
theorem Ia{xs:List Str}{q:Int}(h0:0<=q)(h1:q<xs.length)(h:∀ x∈xs,Cl b x):∃ x,oo (xs.map D.str) q=U (.str x)/\Cl b x:=by
 obtain⟨i,rfl⟩:∃ i:Nat,q=(i:Int):=⟨q.toNat,by omega⟩
 have hi:i<xs.length:=by omega
 exact⟨xs[i],Ib (by rw[SA,Rp hi];rfl),h _ (Ui hi)⟩
theorem Ih{xs:List Str}(h:xs.all (clB b)=true):∀ x∈xs,Cl b x:=λx hx=>uO (RI.mp h x hx)
end
theorem Hr:∀ dd∈cJ 5,Cl 20 (bB dd):=by
 have h:((cJ 5).all λdd=>clB 20 (bB dd))=true:=by decide +kernel
 exact λdd hd=>uO (RI.mp h dd hd)
section
variable{env:ai}{S S':aa}{x y d:D}{a b:ME}{ms:MA}{lo hi:MO}
theorem iB{i j:Str}(h:i.length+j.length<=1000000):aW S (.str i) (.str j)=U (.str (i++j)):=lv (S:=S) h
theorem og{xs ys:List D}(h:xs.length+ys.length<=1000):aW S (.lst xs) (.lst ys)=U (.lst (xs++ys)):=pP (S:=S) h
theorem AN:aW S (.int i) (.int j)=U (.int (i+j)):=mw (S:=S)
noncomputable def Fk(z:Str)(l:Option Int)(q:Option Int×aa):Option (D×aa):=if z.length<=sizeLine then U (.str (Txt.slice z l q.1),q.2) else Y
noncomputable def OI(hi:MO)(env:ai)(z:Str)(q:Option Int×aa):Option (D×aa):=(hi env q.2).bind (Fk z q.1)
noncomputable def kSz(lo hi:MO)(env:ai)(p:D×aa):Option (D×aa):=match p.1 with
 | .str z=>(lo env p.2).bind (OI hi env z)
 | _=>OM lo hi env p
theorem rq:aN a lo hi env S=(a env S).bind (kSz lo hi env):=by
 rw[pd]
 show(a env S).bind _=_
 refine congrArg _ ?_
 funext p
 obtain⟨x,S1⟩:=p
 cases x<;>(first | rfl | (show bA _ lo hi env S=_;rw[wl];rfl))
theorem kSz_s:kSz lo hi env (.str z,S)=(lo env S).bind (OI hi env z):=id rfl
theorem kSz_l:kSz lo hi env (.lst xs,S)=(lo env S).bind (JN hi env (.lst xs)):=id rfl
theorem OH{l:Option Int}:OI hi env z (l,S)=(hi env S).bind (Fk z l):=id rfl
theorem Aw{z:Str}{h:Option Int}(hz:z.length<=1000000):Fk z l (h,S)=U (.str (Txt.slice z l h),S):=Ru (LL hz)
noncomputable def yT(x:D)(k:Option Int×aa):Option (D×aa):=match x,k.1 with
 | .lst xs,U j=>if j = -1 then U (.lst xs.reverse,k.2) else Y
 | _,_=>Y
noncomputable def Mf(st:MO)(env:ai)(p:D×aa):Option (D×aa):=(st env p.2).bind (yT p.1)
theorem JG:eO a lo env S=(a env S).bind (Mf lo env):=by rw[wm];rfl
theorem JO:Mf lo env (x,S)=(lo env S).bind (yT x):=id rfl
theorem Fv:yT (.lst xs) (U (-1),S)=U (.lst xs.reverse,S):=id rfl
noncomputable def yQ(p:D×aa):Option (D×aa):=match p.1 with | .str z=>if tooLong (Txt.upper z).length=false then U (.str (Txt.upper z),p.2) else Y | _=>Y
theorem EL:cE a env S=(a env S).bind yQ:=by rw[rg];rfl
theorem BP(h:(Txt.upper z).length<=1000000):yQ (.str z,S)=U (.str (Txt.upper z),S):=Ru (by
 unfold tooLong
 exact Se (by have:=LL h;omega))
theorem Cg{z:Str}(h:z.length<=1000000):az iy [.str z] S=U (.lst (sQ z),S):=by
 have:iy S [.str z]=U (.lst (sQ z)):=Ru (LL h)
 show(iy S [.str z]).bind _=_
 rw[this];rfl
end
end K50
end
section
namespace K50
open MI L2
open M hiding mC ae aB aL bG cF cR fq cw gc vb fM nU af ac bj bQ dJ qm aT bq bA aO cP ak aI ax bg dW bM ag cm aU bI cC dN au aF bK eG bP cO aP eR eV gx gy gO dL ce bD ci bR bV bE fG bp bL bF qx gz bW cA cb cz aN eO cE bt
noncomputable def sp0:MS:=au (cb '1' (ac (!" ") af)) 'b'
noncomputable def sp1:MS:=gy 3 4 (ac (ak 2 ay (ac '0' (ac (aB bu (aO (az fm) (ac '1' af)) 1e0) af))) (ac (ak 2 ay (ac '0' (ac (aO (az fm) (ac '2' af)) af))) af))
noncomputable def sp2:MS:=au (aB aX (aO (az iy) (ac (!"0123459 -aks") af)) (ak 2 ay (ac '0' (ac 12e0 af)))) 'e'
noncomputable def sp3:MS:=au (bQ (ac (!"tick") (ac (!"0") (ac (!"5") (ac (!"9") (ac (!"10") (ac (!"-1") (ac (!"00") (ac (!"reads") (ac (!"writes") (ac (!"up") (ac (!"stops") (ac (!"leave") (ac (!"") af)))))))))))))) 'f'
noncomputable def sp4:MS:=au (aB aX '6' (ak 2 ay (ac '0' (ac 13e0 af)))) 'f'
noncomputable def sp5:MS:=au (bQ (ac (aB aW (aN '1' aT (bq '3')) (aN '1' (bq (aB aW '3' 1e0)) aT)) (ac (aB aW (aB aW (aN '1' aT (bq '3')) '5') (aN '1' (bq '3') aT)) (ac (aB aW (aB aW (aN '1' aT (bq '3')) '5') (aN '1' (bq (aB aW '3' 1e0)) aT)) (ac (!"") af))))) 'g'
noncomputable def sp6:MS:=au (aB aW '7' (bQ (ac (bL (!" ") (ac (aB aW (aB aW (aN '2' aT (bq '4')) (bQ (ac '6' af))) (aN '2' (bq (aB aW '4' 1e0)) aT)) af)) (ac (aB aW (aB aW '1' (!" ")) '6') (ac (aB aW (!" ") '1') (ac (aB aW '1' (!" ")) af)))))) 'g'
noncomputable def sp7:MS:=bg (aB aX (aB aW '7' (bQ (ac (cE '1') (ac (bL (!" ") (ac (eO '2' (bq (qm Gr 1e0))) af)) (ac '6' af))))) (ak 2 ay (ac '0' (ac 11e0 af))))
noncomputable def Dk:MS:=ax sp0 (ax sp1 (ax sp2 (ax sp3 (ax sp4 (ax sp5 (ax sp6 (sp7)))))))
theorem Nq:jL=Dk:=rfl
noncomputable def signsL:List Str:=[⟨#[48]⟩,⟨#[49]⟩,⟨#[50]⟩,⟨#[51]⟩,⟨#[52]⟩,⟨#[53]⟩,⟨#[57]⟩,⟨#[32]⟩,⟨#[45]⟩,⟨#[97]⟩,⟨#[107]⟩,⟨#[115]⟩]
noncomputable def othersL:List Str:=["tick","0","5","9","10","-1","00","reads","writes","up","stops","leave",""]
theorem vz:sQ "0123459 -aks" = signsL.map .str/\(Str.ofString "0123459 -aks").length<=1000:=by
 refine⟨?_,by decide +kernel⟩
 have:(Str.ofString "0123459 -aks").cps.toList=[48,49,50,51,52,53,57,32,45,97,107,115]:=by decide +kernel
 show(Str.ofString "0123459 -aks").cps.toList.map (λc=>D.str ⟨#[c]⟩)=_
 rw[this];rfl
theorem DM:∀ x∈signsL,Cl 1 x:=Ih (by decide +kernel)
theorem BB:∀ x∈othersL,Cl 6 x:=Ih (by decide +kernel)
theorem vy:Cl 1 " "/\Cl 0 "":=⟨uO (by decide +kernel),uO (by decide +kernel)⟩
section
variable{S:aa}{r b:Nat}{z sg ot:Str}{q1:Int}{i:Nat}
noncomputable def X4(z:Str)(q1:Int)(sg:Str):List Str:=[Txt.slice z Y (U q1)++Txt.slice z (U (q1+1)) Y,Txt.slice z Y (U q1)++sg++Txt.slice z (U q1) Y,Txt.slice z Y (U q1)++sg++Txt.slice z (U (q1+1)) Y,""]
noncomputable def X8(z:Str)(i:Nat)(ot:Str):List Str:=[Str.join " " ((Txt.split z " ").take i++[ot]++(Txt.split z " ").drop (i+1)),z++" "++ot," "++z,z++" "]
noncomputable def X11(z ot:Str):List Str:=[Txt.upper z,Str.join " " (Txt.split z " ").reverse,ot]
theorem x4_cl(h:Cl b z)(hs:Cl 1 sg):∀ x∈X4 z q1 sg,Cl (2*b+10) x:=by
 intro x hx
 have s1:=h.slice Y (U q1)
 have s2:=h.slice (U (q1+1)) Y
 have s3:=h.slice (U q1) Y
 unfold X4 at hx
 simp only[Rv,RT,SZ] at hx
 rcases hx with rfl | rfl | rfl | rfl
 ·exact(s1.app s2).up (by omega)
 ·exact((s1.app hs).app s3).up (by omega)
 ·exact((s1.app hs).app s2).up (by omega)
 ·exact vy.2.up (by omega)
theorem x8_cl(h:Cl b z)(ho:Cl 6 ot):∀ x∈X8 z i ot,Cl (2*b+10) x:=by
 intro x hx
 unfold X8 at hx
 simp only[Rv,RT,SZ] at hx
 rcases hx with rfl | rfl | rfl | rfl
 ·exact(h.split.put ho i).join.up (by omega)
 ·exact((h.app vy.1).app ho).up (by omega)
 ·exact(vy.1.app h).up (by omega)
 ·exact(h.app vy.1).up (by omega)
theorem MN(h:Cl b z)(ho:Cl 6 ot):∀ x∈X11 z ot,Cl (2*b+10) x:=by
 intro x hx
 unfold X11 at hx
 simp only[Rv,RT,SZ] at hx
 rcases hx with rfl | rfl | rfl
 ·exact h.upper.up (by omega)
 ·exact h.split.rev.join.up (by omega)
 ·exact ho.up (by omega)
noncomputable def eS(r:Nat)(z:Str)(q1:Int)(i:Nat)(sg ot:Str)(a7:Option D):ai:=[U (.ref r),U (.str z),U (.lst ((Txt.split z " ").map .str)),U (.int q1),U (.int (i:Int)),U (.str sg),U (.str ot),a7]
theorem Nu(h:Cl b z)(hs:Cl 1 sg)(hb:b<=400):sp5 (eS r z q1 i sg ot a7) S=U (.nx (eS r z q1 i sg ot (U (.lst ((X4 z q1 sg).map .str)))) S):=by
 have s1:=(h.slice Y (U q1)).l
 have s2:=(h.slice (U (q1+1)) Y).l
 have s3:=(h.slice (U q1) Y).l
 have h1:=h.l
 have h2:=hs.l
 have kz:∀ l u,Fk z l (u,S)=U (.str (Txt.slice z l u),S):=λl u=>Aw (by omega)
 have a1:aW S (.str (Txt.slice z Y (U q1))) (.str (Txt.slice z (U (q1+1)) Y))=U (.str (Txt.slice z Y (U q1)++Txt.slice z (U (q1+1)) Y)):=iB (by omega)
 have a2:aW S (.str (Txt.slice z Y (U q1))) (.str sg)=U (.str (Txt.slice z Y (U q1)++sg)):=iB (by omega)
 have a3:aW S (.str (Txt.slice z Y (U q1)++sg)) (.str (Txt.slice z (U q1) Y))=U (.str (Txt.slice z Y (U q1)++sg++Txt.slice z (U q1) Y)):=iB (by rw[gA];omega)
 have a4:aW S (.str (Txt.slice z Y (U q1)++sg)) (.str (Txt.slice z (U (q1+1)) Y))=U (.str (Txt.slice z Y (U q1)++sg++Txt.slice z (U (q1+1)) Y)):=iB (by rw[gA];omega)
 have kl:∀ a b c d:D,jo ([a,b,c,d],S)=U (.lst [a,b,c,d],S):=λa b c d=>cH (by simp)
 simp only[sp5,eS,bx,fX,ar,bO,rq,aw,fg,fL,fK,oj,ob,av,kSz_s,pg,OH,nR,nZ,kz,bf,cB,be,AN,a1,a2,a3,a4,aq,aD,ao,kl,bz,aK,jh,kG,cr]
 rfl
theorem Nt(h:Cl b z)(ho:Cl 6 ot)(hb:b<=400)(hi:i<(Txt.split z " ").length):sp6 (eS r z q1 i sg ot (U (.lst ((X4 z q1 sg).map .str)))) S=U (.nx (eS r z q1 i sg ot (U (.lst ((X4 z q1 sg++X8 z i ot).map .str)))) S):=by
 have h1:=h.l
 have h2:=ho.l
 have h3:=vy.1.l
 have hs:=h.split.len
 have kz:∀ l u,Fk z l (u,S)=U (.str (Txt.slice z l u),S):=λl u=>Aw (by omega)
 have c1:gB ((Txt.split z " ").map D.str) Y (U (i:Int))=((Txt.split z " ").take i).map .str:=by rw[CN _ _ (by rw[Rt];omega),List.map_take]
 have c2:gB ((Txt.split z " ").map D.str) (U ((i:Int)+1)) Y=((Txt.split z " ").drop (i+1)).map .str:=by
  rw[show(i:Int)+1=((i+1:Nat):Int) by omega,CO _ _ (by rw[Rt];omega),List.map_drop]
 have k1:∀ a:D,jo ([a],S)=U (.lst [a],S):=λa=>cH (by simp)
 have a1:aW S (.lst (((Txt.split z " ").take i).map .str)) (.lst [.str ot])=U (.lst (((Txt.split z " ").take i++[ot]).map .str)):=by
  rw[og (by rw[Rt,Tf];simp only[Rr,Sl];omega),Sk];rfl
 have a2:aW S (.lst (((Txt.split z " ").take i++[ot]).map .str)) (.lst (((Txt.split z " ").drop (i+1)).map .str))=U (.lst (((Txt.split z " ").take i++[ot]++(Txt.split z " ").drop (i+1)).map .str)):=by
  rw[og (by simp only[Rt,Rz,Tf,Tg,Rr,Sl];omega),Sk (l₁:=(Txt.split z " ").take i++[ot])]
 have j:lr (.str " ") [.lst (((Txt.split z " ").take i++[ot]++(Txt.split z " ").drop (i+1)).map .str)] S=U (.str (Str.join " " ((Txt.split z " ").take i++[ot]++(Txt.split z " ").drop (i+1))),S):=lq rfl (RG (h.split.put ho i).few (by omega))
 have a3:aW S (.str z) (.str " ")=U (.str (z++" ")):=iB (by omega)
 have a4:aW S (.str (z++" ")) (.str ot)=U (.str (z++" "++ot)):=iB (by rw[gA];omega)
 have a5:aW S (.str " ") (.str z)=U (.str (" "++z)):=iB (by omega)
 have kl:∀ a b c d:D,jo ([a,b,c,d],S)=U (.lst [a,b,c,d],S):=λa b c d=>cH (by simp)
 have a6:aW S (.lst ((X4 z q1 sg).map .str)) (.lst [.str (Str.join " " ((Txt.split z " ").take i++[ot]++(Txt.split z " ").drop (i+1))),.str (z++" "++ot),.str (" "++z),.str (z++" ")])=U (.lst ((X4 z q1 sg++X8 z i ot).map .str)):=by
  rw[og (by rw[Rt];exact(by decide:4+4<=1000)),Sk];rfl
 simp only[sp6,eS,bx,bO,aw,fg,fL,fK,oj,ob,av,bf,fX,ar,kZ,cB,Ay,rq,kSz_l,pg,Ft,nR,nZ,OK,c1,aq,aD,ao,k1,be,a1,AN,c2,a2,jm,j,a3,a4,a5,kl,a6,bz,aK,jh,kG,cr]
theorem Nr(P:Pk S r)(h:Cl b z)(hs:Cl 1 sg)(ho:Cl 6 ot)(hb:b<=400):∃ y S',sp7 (eS r z q1 i sg ot (U (.lst ((X4 z q1 sg++X8 z i ot).map .str)))) S=U (.rt (.str y) S')/\Cl (2*b+10) y/\Pk S' r/\Keep r S S':=by
 obtain⟨q,S',e,q0,q11,P',K'⟩:=gN S r 11 P (by decide) (by decide)
 have hup:=h.upper.l
 have hsp:=h.split.len
 have ku:yQ (.str z,S)=U (.str (Txt.upper z),S):=BP (by omega)
 have kr:((Txt.split z " ").map D.str).reverse=(Txt.split z " ").reverse.map .str:=by rw[List.map_reverse]
 have j:lr (.str " ") [.lst ((Txt.split z " ").reverse.map .str)] S=U (.str (Str.join " " (Txt.split z " ").reverse),S):=lq rfl (RG h.split.rev.few (by omega))
 have kl:∀ a b c:D,jo ([a,b,c],S)=U (.lst [a,b,c],S):=λa b c=>cH (by simp)
 have a6:aW S (.lst ((X4 z q1 sg++X8 z i ot).map .str)) (.lst [.str (Txt.upper z),.str (Str.join " " (Txt.split z " ").reverse),.str ot])=U (.lst ((X4 z q1 sg++X8 z i ot++X11 z ot).map .str)):=by
  rw[og (by rw[Rt];exact(by decide:8+3<=1000)),Sk (l₁:=X4 z q1 sg++X8 z i ot)];rfl
 obtain⟨y,hy,cy⟩:=Ia (b:=2*b+10) (xs:=X4 z q1 sg++X8 z i ot++X11 z ot) q0 (by show q<11;exact q11) (λx hx=>by
  rw[RE,RE] at hx
  rcases hx with (hx | hx) | hx
  ·exact x4_cl h hs x hx
  ·exact x8_cl h ho x hx
  ·exact MN h ho x hx)
 refine⟨y,S',?_,cy,P',K'⟩
 simp only[sp7,eS,fV,bO,aw,fg,fL,fK,oj,ob,av,bf,fX,ar,EL,ku,kZ,cB,Ay,JG,JO,nR,mUn_s,kUn_s,PM,nZ,Fv,kr,aq,aD,ao,jm,j,kl,be,a6,bH,cU,e,AM,hy,iK]
theorem No(P:Pk S r)(h:Cl b z)(hb:b<=400):∃ y S',cZ [.ref r,.str z] S=U (.str y,S')/\Cl (2*b+10) y/\Pk S' r/\Keep r S S':=by
 rw[oV,da (show [D.ref r,D.str z].length=2 from rfl),show bh eg [D.ref r,D.str z]=[U (.ref r),U (.str z),Y,Y,Y,Y,Y,Y] from rfl,Nq]
 have hz:=h.l
 have hw:1<=(Txt.split z " ").length:=by
  cases e:Txt.split z " " with
  | nil=>exact absurd e (DK _ _)
  | cons p q=>simp
 have hs:=h.split.len
 obtain⟨q1,S1,e1,q10,q11,P1,K1⟩:=gN S r ((z.length:Nat)+1) P (by omega) (by omega)
 obtain⟨q2,S2,e2,q20,q21,P2,K2⟩:=gN S1 r ((Txt.split z " ").length:Nat) P1 (by omega) (by omega)
 obtain⟨q3,S3,e3,q30,q31,P3,K3⟩:=gN S2 r 12 P2 (by decide) (by decide)
 obtain⟨q4,S4,e4,q40,q41,P4,K4⟩:=gN S3 r 13 P3 (by decide) (by decide)
 obtain⟨i,rfl⟩:∃ i:Nat,q2=(i:Int):=⟨q2.toNat,by omega⟩
 obtain⟨sg,g1,g2⟩:=Ia (xs:=signsL) q30 (by exact q31) DM
 obtain⟨ot,o1,o2⟩:=Ia (xs:=othersL) q40 (by exact q41) BB
 obtain⟨y,S5,e5,cy,P5,K5⟩:=Nr (q1:=q1) (i:=i) P4 h g2 o2 hb
 have f5:=Nu (S:=S4) (r:=r) (q1:=q1) (i:=i) (ot:=ot) (a7:=Y) h g2 hb
 have f6:=Nt (S:=S4) (r:=r) (q1:=q1) (i:=i) (sg:=sg) (ot:=ot) h o2 hb (by omega)
 have fl:∀ S,az fm [.str z] S=U (.int (z.length:Nat),S):=λS=>by
  have:fm S [.str z]=U (.int (z.length:Nat)):=Ru (LL (by omega))
  show(fm S [.str z]).bind _=_
  rw[this];rfl
 have fs:az iy [.str "0123459 -aks"] S2=U (.lst (signsL.map .str),S2):=by rw[Cg (RG vz.2 (by decide)),vz.1]
 have lo:∀ {S},jo ([.str "tick",.str "0",.str "5",.str "9",.str "10",.str "-1",.str "00",.str "reads",.str "writes",.str "up",.str "stops",.str "leave",.str ""],S)=U (.lst (othersL.map .str),S):=λ{S}=>cH (by decide)
 have f0:sp0 [U (.ref r),U (.str z),Y,Y,Y,Y,Y,Y] S=U (.nx [U (.ref r),U (.str z),U (.lst ((Txt.split z " ").map .str)),Y,Y,Y,Y,Y] S):=by
  simp only[sp0,bx,wk,aw,fg,fL,fK,oj,ob,av,Fq,ar,cB,aq,aD,ao,wR Np.2.2 (show z.length<=1000000 by omega),bz,aK,jh,kG,cr]
 have f1:sp1 [U (.ref r),U (.str z),U (.lst ((Txt.split z " ").map .str)),Y,Y,Y,Y,Y] S=U (.nx [U (.ref r),U (.str z),U (.lst ((Txt.split z " ").map .str)),U (.int q1),U (.int (i:Int)),Y,Y,Y] S2):=by
  simp only[sp1,Ot,bH,ar,aw,fg,fL,fK,oj,ob,av,aq,bO,ei,aD,ao,ej,fl,bf,cB,be,mw,cU,e1,PU,Rt,e2,OQ]
  rfl
 have f2:sp2 [U (.ref r),U (.str z),U (.lst ((Txt.split z " ").map .str)),U (.int q1),U (.int (i:Int)),Y,Y,Y] S2=U (.nx [U (.ref r),U (.str z),U (.lst ((Txt.split z " ").map .str)),U (.int q1),U (.int (i:Int)),U (.str sg),Y,Y] S3):=by
  simp only[sp2,bx,bO,ei,ar,cB,ob,aq,aD,ao,ej,fs,bf,bH,aw,fg,fL,fK,oj,av,cU,e3,be,AM,g1,bz,aK,jh,kG,cr]
 have f3:sp3 [U (.ref r),U (.str z),U (.lst ((Txt.split z " ").map .str)),U (.int q1),U (.int (i:Int)),U (.str sg),Y,Y] S3=U (.nx [U (.ref r),U (.str z),U (.lst ((Txt.split z " ").map .str)),U (.int q1),U (.int (i:Int)),U (.str sg),U (.lst (othersL.map .str)),Y] S3):=by
  simp only[sp3,bx,fX,ar,cB,ob,aq,aD,ao,lo,bz,aK,jh,kG,cr]
 have f4:sp4 [U (.ref r),U (.str z),U (.lst ((Txt.split z " ").map .str)),U (.int q1),U (.int (i:Int)),U (.str sg),U (.lst (othersL.map .str)),Y] S3=U (.nx (eS r z q1 i sg ot Y) S4):=by
  simp only[sp4,eS,bx,bO,ar,cB,ob,aq,aD,ao,bf,bH,aw,fg,fL,fK,oj,av,cU,e4,be,AM,o1,bz,aK,jh,kG,cr]
 refine⟨y,S5,?_,cy,P5,((Keep.trans K1 K2).trans K3).trans (Keep.trans K4 K5)⟩
 simp only[Dk,dQ,f0,ob,df,f1,f2,f3,f4,f5,f6,e5,fi]
end
end K50
end
section
namespace K50
open MI L2
open M hiding mC ae aB aL bG cF cR fq cw gc vb fM nU af ac bj bQ dJ qm aT bq bA aO cP ak aI ax bg dW bM ag cm aU bI cC dN au aF bK eG bP cO aP eR eV gx gy gO dL ce bD ci bR bV bE fG bp bL bF qx gz bW cA cb cz aN eO cE bt
noncomputable def kv(dd:Dd):aJ×D:=(.inr (bB dd),dd.d)
noncomputable def dc(l:List (aJ×D)):mL:=.dct (l.map (·.1)) (l.map (·.2))
theorem lR:∀ (a b l:List (aJ×D)),bi l (a++b)=bi (bi l a) b
 | [],b,l=>rfl
 | p::a,b,l=>lR a b _
theorem zP:∀ (l:List (aJ×D)) (k:aJ) (d:D),(vC l k d).length=l.length
 | [],_,_=>rfl
 | p::r,k,d=>by rw[vC,Rr,Rr,zP r]
theorem lQ:∀ (a l:List (aJ×D)),(bi l a).length<=l.length+a.length
 | [],l=>Rn _
 | p::a,l=>by
  refine RG (lQ a _) ?_
  rw[Rr]
  unfold ie
  split
  ·rw[zP];omega
  ·rw[Rz];simp only[Rr,Sl];omega
section
variable{S0:aa}{tg:MG}{p:MS}
theorem Gh{α:Type}{enc:α->D}(I:ai->Prop)(f:α->List Dd):∀ (xs:List α) (env:ai) (l:List (aJ×D)),I env->l.length+(xs.flatMap f).length<=400 ->
  (∀ x∈xs,∀ env l,I env->l.length+(f x).length<=400->∃ env1 env2,tg (enc x) env (S0++[dc l])=U (env1,S0++[dc l])/\p env1 (S0++[dc l])=U (.nx env2 (S0++[dc (bi l ((f x).map kv))]))/\I env2) ->
  ∃ env',cx tg p (xs.map enc) env (S0++[dc l])=U (.nx env' (S0++[dc (bi l ((xs.flatMap f).map kv))]))/\I env'
 | [],env,l,h,_,_=>⟨env,rfl,h⟩
 | x::xs,env,l,h,hl,hs=>by
  rw[Ud,Rz] at hl
  obtain⟨env1,env2,e1,e2,h2⟩:=hs x (by simp) env l h (by omega)
  have:=lQ ((f x).map kv) l
  rw[Rt] at this
  obtain⟨env',e3,h3⟩:=Gh I f xs env2 (bi l ((f x).map kv)) h2 (by omega) λy hy=>hs y (Rj _ hy)
  refine⟨env',?_,h3⟩
  rw[RB,im,e1,ob,ur,e2,ob,oa,e3,Ud,Sk,lR]
end
noncomputable def IS:MS:=au (bj (ac '3' (ac '2' af))) (dN '1' (ak 1 aE (ac (bj (ac '3' (ac '2' af))) af)))
noncomputable def IQ:MS:=au (bj (ac '3' (ac '2' (ac '4' af)))) (dN '1' (ak 1 aE (ac (bj (ac '3' (ac '2' (ac '4' af)))) af)))
noncomputable def lpA:MS:=ci (bj (ac (!"up") (ac (!"down") (ac (!"leave") (ac (!"stop") af))))) 'c' IS
noncomputable def lpC:MS:=ci (bj (ac (!"read") (ac (!"write") af))) 'c' IQ
noncomputable def lpB:MS:=ci (aB bu (bQ (ac (mC .non) af)) (bR (ac 10e0 af))) 'd' lpC
noncomputable def Fg:MS:=ax (au (ce [(mC (.str "tick"),bj (ac (!"tick") af))]) 'a') (ax (eG (aF (ac '0' af)) 'b' (ax lpA lpB)) (bg '1'))
theorem BL:kY=Fg:=rfl
noncomputable def fA(g:Nat):List Dd:=allA.flatMap λk=>[.act k g]
noncomputable def fC(g:Nat)(t:Option Int):List Dd:=([false,true]:List Bool).flatMap λw=>[.ask w g t]
noncomputable def fB(g:Nat):List Dd:=lefts.flatMap (fC g)
noncomputable def Bo(n:Nat):List Dd:=.tick::(List.range n).flatMap λg=>fA g++fB g
section
variable{S0:aa}{n g:Nat}{l:List (aJ×D)}{a3 a4:Option D}
theorem kput{d:D}(hl:l.length<=400):ul (.ref S0.length) d env (.str z,S0++[dc l])=U (env,S0++[dc (ie l (.inr z) d)]):=by
 unfold ul
 dsimp only
 rw[uV]
 show(if (l.map (·.1)).length<=500 then U (env,(S0++[dc l]).set S0.length (.dct ((ie ((l.map (·.1)).zip (l.map (·.2))) (.inr z) d).map (·.1)) ((ie ((l.map (·.1)).zip (l.map (·.2))) (.inr z) d).map (·.2)))) else Y)=_
 rw[Ru (by rw[Rt];omega),jS,Ly]
 rfl
noncomputable def eD(S0:aa)(n g:Nat)(a3 a4:Option D):ai:=[U (ni n),U (.ref S0.length),U (ni g),a3,a4]
theorem IR{k:Ak}(h5:g<5)(hl:l.length<=400):IS (eD S0 n g (U (.str k.s)) a4) (S0++[dc l])=U (.nx (eD S0 n g (U (.str k.s)) a4) (S0++[dc (bi l (([.act k g]:List Dd).map kv))])):=by
 have t2:∀ a b:D,∀ S,gY ([a,b],S)=U (.tup [a,b],S):=λa b S=>bS (by simp)
 have e:aE [.tup [.str k.s,ni g]] (S0++[dc l])=U (.str (bB (.act k g)),S0++[dc l]):=gR _ (n:=5) (dd:=.act k g) h5 (by decide)
 simp only[IS,eD,bx,fj,ar,aw,fg,fL,fK,oj,ob,av,aq,aD,ao,t2,bz,AG,wQ,bH,gZ,e,kput hl,cr]
 rfl
theorem IP(h5:g<5)(ht:gf t)(hl:l.length<=400):IQ (eD S0 n g (U (.str (cL w))) (U (cS t))) (S0++[dc l])=U (.nx (eD S0 n g (U (.str (cL w))) (U (cS t))) (S0++[dc (bi l (([.ask w g t]:List Dd).map kv))])):=by
 have t3:∀ a b c:D,∀ S,gY ([a,b,c],S)=U (.tup [a,b,c],S):=λa b c S=>bS (by simp)
 have e:aE [.tup [.str (cL w),ni g,cS t]] (S0++[dc l])=U (.str (bB (.ask w g t)),S0++[dc l]):=gR _ (n:=5) (dd:=.ask w g t) ⟨h5,ht⟩ (by decide)
 simp only[IQ,eD,bx,fj,ar,aw,fg,fL,fK,oj,ob,av,aq,aD,ao,t3,bz,AG,wQ,bH,gZ,e,kput hl,cr]
 rfl
theorem Oz(h5:g<5)(hl:l.length+(fA g).length<=400):∃ b3,lpA (eD S0 n g a3 a4) (S0++[dc l])=U (.nx (eD S0 n g b3 a4) (S0++[dc (bi l ((fA g).map kv))])):=by
 obtain⟨env',e,b3,rfl⟩:=Gh (S0:=S0) (tg:=ag 3) (p:=IS) (enc:=λk:Ak=>.str k.s) (λenv=>∃ a3,env=eD S0 n g a3 a4) (λk=>[.act k g]) allA (eD S0 n g a3 a4) l ⟨_,rfl⟩ hl λk _ env l hi hl=>by
  obtain⟨b,rfl⟩:=hi
  exact⟨_,_,by rw[aK];rfl,IR h5 (by omega),⟨_,rfl⟩⟩
 have t4:∀ S,gY ([.str "up",.str "down",.str "leave",.str "stop"],S)=U (.tup (allA.map λk=>.str k.s),S):=λS=>bS (by simp)
 refine⟨b3,?_⟩
 simp only[lpA,nV,fj,ar,cB,ob,aq,aD,ao,t4,uu,e]
 rfl
theorem Ox(h5:g<5)(ht:gf t)(hl:l.length+(fC g t).length<=400):∃ b3,lpC (eD S0 n g a3 (U (cS t))) (S0++[dc l])=U (.nx (eD S0 n g b3 (U (cS t))) (S0++[dc (bi l ((fC g t).map kv))])):=by
 obtain⟨env',e,b3,rfl⟩:=Gh (S0:=S0) (tg:=ag 3) (p:=IQ) (enc:=λw:Bool=>.str (cL w)) (λenv=>∃ a3,env=eD S0 n g a3 (U (cS t))) (λw=>[.ask w g t]) [false,true] (eD S0 n g a3 (U (cS t))) l ⟨_,rfl⟩ hl λk _ env l hi hl=>by
  obtain⟨b,rfl⟩:=hi
  exact⟨_,_,by rw[aK];rfl,IP h5 ht (by omega),⟨_,rfl⟩⟩
 have t2:∀ S,gY ([.str "read",.str "write"],S)=U (.tup (([false,true]:List Bool).map λw=>.str (cL w)),S):=λS=>bS (by simp)
 refine⟨b3,?_⟩
 simp only[lpC,nV,fj,ar,cB,ob,aq,aD,ao,t2,uu,e]
 rfl
theorem Ff:∀ t∈lefts,gf t:=λt ht k e=>by
 subst e
 unfold lefts at ht
 simp only[Rv,Sb,Sv,UR] at ht
 rcases ht with ht | ⟨i,hi,rfl⟩
 ·cases ht
 ·omega
theorem Oy(h5:g<5)(hl:l.length+(fB g).length<=400):∃ b3 b4,lpB (eD S0 n g a3 a4) (S0++[dc l])=U (.nx (eD S0 n g b3 b4) (S0++[dc (bi l ((fB g).map kv))])):=by
 obtain⟨env',e,b3,b4,rfl⟩:=Gh (S0:=S0) (tg:=ag 4) (p:=lpC) (enc:=cS) (λenv=>∃ a3 a4,env=eD S0 n g a3 a4) (fC g) lefts (eD S0 n g a3 a4) l ⟨_,_,rfl⟩ hl λt ht env l hi hl=>by
  obtain⟨b,b',rfl⟩:=hi
  obtain⟨b3,e⟩:=Ox (S0:=S0) (n:=n) (g:=g) (l:=l) (a3:=b) h5 (Ff t ht) hl
  exact⟨_,_,by rw[aK];rfl,e,⟨_,_,rfl⟩⟩
 have f2:∀ S,jo ([.non],S)=U (.lst [.non],S):=λS=>cH (by simp)
 have f3:∀ S,ut ([.int 10],S)=U (.lst (aS 0 10),S):=λS=>rO (by decide) (by decide)
 have f4:∀ S,bu S (.lst [.non]) (.lst (aS 0 10))=U (.lst (lefts.map cS)):=λS=>pP (by decide)
 refine⟨b3,b4,?_⟩
 simp only[lpB,nV,bO,fX,ar,cB,ob,aq,aD,ao,f2,bf,wz,f3,be,f4,av,JQ,e]
 rfl
end
end K50
end
section
namespace K50
open MI L2
open M hiding mC ae aB aL bG cF cR fq cw gc vb fM nU af ac bj bQ dJ qm aT bq bA aO cP ak aI ax bg dW bM ag cm aU bI cC dN au aF bK eG bP cO aP eR eV gx gy gO dL ce bD ci bR bV bE fG bp bL bF qx gz bW cA cb cz aN eO cE bt
noncomputable def dU(n:Nat):List (aJ×D):=(Bo n).map kv
set_option maxHeartbeats 0 in
theorem DQ:∀ n,n<=5->((Bo n).map bB).Nodup:=by decide +kernel
theorem IH:∀ n,n<=5->(Bo n).length<=200:=by decide +kernel
theorem yP(S:aa){n:Nat}(hn:n<=5):dI [.int (n:Int)] S=U (.ref S.length,S++[dc (dU n)]):=by
 rw[qv,da (show [D.int (n:Int)].length=1 from rfl),show bh fo [D.int (n:Int)]=[U (ni n),Y,Y,Y,Y] from rfl,BL]
 have ln:=IH n hn
 unfold Bo at ln
 rw[Rr] at ln
 obtain⟨env',e,a2,a3,a4,rfl⟩:=Gh (S0:=S) (tg:=ag 2) (p:=ax lpA lpB) (enc:=ni) (λenv=>∃ a2 a3 a4,env=[U (ni n),U (.ref S.length),a2,a3,a4]) (λg=>fA g++fB g) (List.range n) [U (ni n),U (.ref S.length),Y,Y,Y] [kv .tick] ⟨_,_,_,rfl⟩ (by show 1+_<=400;omega) λg hg env l hi hl=>by
  obtain⟨a2,a3,a4,rfl⟩:=hi
  have h5:g<5:=Ry (Sv.mp hg) hn
  rw[Rz] at hl
  have q:=lQ ((fA g).map kv) l
  rw[Rt] at q
  obtain⟨b3,e1⟩:=Oz (S0:=S) (n:=n) (g:=g) (l:=l) (a3:=a3) (a4:=a4) h5 (by omega)
  obtain⟨c3,c4,e2⟩:=Oy (S0:=S) (n:=n) (g:=g) (l:=bi l ((fA g).map kv)) (a3:=b3) (a4:=a4) h5 (by omega)
  refine⟨eD S n g a3 a4,eD S n g c3 c4,aK,?_,⟨_,_,_,rfl⟩⟩
  rw[dQ,e1,ob,df,e2,Sk,lR]
 have fin:bi [kv .tick] (((List.range n).flatMap λg=>fA g++fB g).map kv)=dU n:=by
  have:=vY (key:=bB) (enc:=Dd.d) (DQ n hn)
  exact this
 have t1:∀ S,gY ([.str "tick"],S)=U (.tup [.str "tick"],S):=λS=>bS (by simp)
 have k1:uv ([((.inr "tick":aJ),(.tup [.str "tick"]:D))],S)=U (.ref S.length,S++[dc [kv .tick]]):=BV (by simp) (by simp)
 have r1:∀ S,Fw ([ni n],S)=U ((List.range n).map ni,S):=λS=>by show Fw ([.int (n:Int)],S)=_;rw[jk (by omega) (by omega),SB,rn]
 rw[fin] at e
 simp only[Fg,dQ,bx,EY,mR,cB,ob,Fz,fj,ar,aq,aD,ao,t1,Fy,ph,Fx,k1,bz,aK,jh,kG,cr,df,pj,eQ,aw,fg,fL,fK,oj,av,r1,pD,e,fV,iK,fi]
theorem vi{L:List Dd}{z:Str}(h:∀ dd∈L,bB dd≠z):cn (L.map kv) (.inr z)=Y:=by
 induction L with
 | nil=>rfl
 | cons dd L ih=>
  show(if (Sum.inr (bB dd):aJ)=Sum.inr z then U dd.d else cn (L.map kv) (.inr z))=Y
  rw[RH (λe=>h dd (by simp) (Vp e)),ih λx hx=>h x (Rj _ hx)]
noncomputable def V(n:Nat)(z:Str):Option D:=cn (mF n) (.inr z)
theorem seq_mem{dd:Dd}:dd∈Bo n↔dd∈cJ n:=by
 unfold Bo cJ fA fB fC
 simp only[RE,Vc,Sv,Rv,RT,SZ]
 constructor
 ·rintro(rfl | ⟨g,hg,⟨k,hk,rfl⟩ | ⟨t,ht,w,hw,rfl⟩⟩)
  ·exact .inr rfl
  ·exact .inl (.inr ⟨k,hk,g,hg,rfl⟩)
  ·exact .inl (.inl ⟨w,hw,g,hg,t,ht,rfl⟩)
 ·rintro((⟨w,hw,g,hg,t,ht,rfl⟩ | ⟨k,hk,g,hg,rfl⟩) | rfl)
  ·exact .inr ⟨g,hg,.inr ⟨t,ht,w,hw,rfl⟩⟩
  ·exact .inr ⟨g,hg,.inl ⟨k,hk,rfl⟩⟩
  ·exact .inl rfl
theorem QS{n:Nat}(hn:n<=5)(z:Str):cn (dU n) (.inr z)=V n z/\(∀ d,V n z=U d->∃ dd:Dd,d=dd.d):=by
 by_cases h:∃ dd∈cJ n,bB dd=z
 ·obtain⟨dd,hd,rfl⟩:=h
  have e1:cn (dU n) (.inr (bB dd))=U dd.d:=sD (key:=bB) (enc:=Dd.d) (DQ n hn) dd (seq_mem.mpr hd)
  have e2:V n (bB dd)=U dd.d:=sD (key:=bB) (enc:=Dd.d) (xC n hn) dd hd
  exact⟨e1.trans e2.symm,λd h=>by rw[e2] at h;cases h;exact⟨dd,rfl⟩⟩
 ·have e2:V n z=Y:=vi λdd hd e=>h ⟨dd,hd,e⟩
  have e1:cn (dU n) (.inr z)=Y:=vi λdd hd e=>h ⟨dd,seq_mem.mp hd,e⟩
  exact⟨e1.trans e2.symm,λd h=>by rw[e2] at h;cases h⟩
noncomputable def gv(n:Nat)(z:Str):D:=(V n z).getD .non
noncomputable def fQ(n:Nat):Nat->List Str->List Nat
 | _,[]=>[]
 | k,z::r=>if (V n z).isSome then fQ n (k+1) r else k::fQ n (k+1) r
theorem xM:∀ {k:Nat} {ms:List Str},fQ n k ms=[]->∀ z∈ms,V n z=U (gv n z)
 | k,[],_,z,hz=>by cases hz
 | k,y::r,h,z,hz=>by
  unfold fQ at h
  split at h
  ·rename_i q
   rcases Rv.mp hz with rfl | hz
   ·unfold gv;cases e:V n z with | none=>rw[e] at q;cases q | some d=>rfl
   ·exact xM h z hz
  ·cases h
noncomputable def KD(n:Nat):D:=.dct ((mF n).map (·.1)) ((mF n).map (·.2))
noncomputable def yG:MG:=bI 2 (aU 'd' (aU 'e' cm))
noncomputable def yB:MY:=tU (aL (aB el '5' '3')) (gH '4') (nQ aI)
section
variable{S:aa}{n:Nat}{a0 a1 a2 a4 a5:Option D}
theorem yB_ok{i:Nat}:yB [a0,a1,a2,U (KD n),U (.int (i:Nat)),U (.str z)] S=if (V n z).isSome then U (.ok (.nx [a0,a1,a2,U (KD n),U (.int (i:Nat)),U (.str z)] S)) else U (.xc (U ((i:Nat):Int)) S):=by
 have f:el S (.str z) (KD n)=U (.bl (!(V n z).isSome)):=zf
 unfold yB tU gH nQ
 simp only[db,bO,aw,fg,fL,fK,oj,ob,av,bf,be,f,de]
 cases(V n z).isSome with
 | true=>simp only[UN,SH,TV,Uo,fJ,ob]
 | false=>simp only[Vy,Uo,SH,TV,ydI,ob]
theorem LF:∀ (ms:List Str) (i:Nat) (a4 a5:Option D),(fQ n i ms=[]->∃ b4 b5,gm yG yB (dZ i (ms.map .str)) [a0,a1,a2,U (KD n),a4,a5] S=U (.ok (.nx [a0,a1,a2,U (KD n),b4,b5] S)))/\(∀ b r,fQ n i ms=b::r->gm yG yB (dZ i (ms.map .str)) [a0,a1,a2,U (KD n),a4,a5] S=U (.xc (U ((b:Nat):Int)) S))
 | [],i,a4,a5=>⟨λ_=>⟨a4,a5,rfl⟩,λb r h=>(by cases h)⟩
 | z::ms,i,a4,a5=>by
  obtain⟨i1,i2⟩:=LF ms (i+1) (U (.int (i:Nat))) (U (.str z))
  have st:gm yG yB (dZ i ((z::ms).map .str)) [a0,a1,a2,U (KD n),a4,a5] S=(yB [a0,a1,a2,U (KD n),U (.int (i:Nat)),U (.str z)] S).bind λo=>match o with
   | .ok (.nx e s)=>gm yG yB (dZ (i+1) (ms.map .str)) e s
   | .ok (.ct e s)=>gm yG yB (dZ (i+1) (ms.map .str)) e s
   | .ok (.bk e s)=>U (.ok (.nx e s))
   | .ok (.rt d s)=>U (.ok (.rt d s))
   | .xc i s=>U (.xc i s):=by
   show(yG (.tup [.int (i:Nat),.str z]) [a0,a1,a2,U (KD n),a4,a5] S).bind _=_
   have:yG (.tup [.int (i:Nat),.str z]) [a0,a1,a2,U (KD n),a4,a5] S=U ([a0,a1,a2,U (KD n),U (.int (i:Nat)),U (.str z)],S):=by
    simp only[yG,AF,xh,aK,jh,kG,ob,Mk,AH]
   rw[this];rfl
  rw[st,yB_ok]
  unfold fQ
  by_cases q:(V n z).isSome=true
  ·rw[Ru q,Ru q]
   exact⟨i1,i2⟩
  ·rw[RH q,RH q]
   exact⟨λh=>(by cases h),λb r h=>(by cases h;rfl)⟩
noncomputable def y0:MY:=tU (cw (cF (cP "str" '1'))) (gH (mC .non)) (nQ aI)
noncomputable def y1:MS:=au (nU (cF '1') (cb '1' (ac (!"\n") af)) (bQ af)) 'b'
noncomputable def y2:MS:=au (ak 1 bw (ac '0' af)) 'c'
noncomputable def y4:MS:=bg (aO (az (iN .tup)) (ac (bP (cO '2') '`' aP (aB aX '1' '0') [Y,U 3]) af))
noncomputable def yM:MY:=iJ y0 (iJ (nQ y1) (iJ (nQ y2) (iJ (wf (cz (ac '2' af)) yG yB) (nQ y4))))
theorem LD:mO=yM:=rfl
theorem y0_ok{a2 a3:Option D}:y0 [a0,U (.str z),a2,a3,a4,a5] S=U (.ok (.nx [a0,U (.str z),a2,a3,a4,a5] S)):=by
 have ii:iA "str" S (.str z)=U (.bl true):=rfl
 unfold y0 tU nQ
 simp only[tX,oX,ES,aw,fg,fL,fK,oj,ob,av,FE,ii,yR,uo,UN,SH,TV,fJ]
theorem y4_ok{ms:List Str}{b4 b5:Option D}(hl:ms.length<=100)(h:∀ z∈ms,V n z=U (gv n z)):y4 [a0,a1,U (.lst (ms.map .str)),U (KD n),b4,b5] S=U (.rt (.tup (ms.map (gv n))) S):=by
 have kc:=Fj (S:=S) (t:=aP) (e:=aB aX '1' '0') (cap:=[Y,U 3]) (env:=[a0,a1,U (.lst (ms.map .str)),U (KD n),b4,b5]) (rest:=[U (KD n)]) (a:=Y) (enc:=D.str) (p:=λ_=>true) (f:=gv n) (xs:=ms) rfl (by omega) (λ_ _=>il) (λz hm _=>by
  have:aX S (KD n) (.str z)=V n z:=fIx_d (S:=S) (l:=mF n) (y:=.str z) (k:=.inr z) rfl
  rw[h z hm] at this
  simp only[bO,aw,fg,fL,fK,oj,ob,av,bf,be,this])
 rw[List.filter_eq_self.mpr (λ_ _=>rfl)] at kc
 simp only[y4,fV,ei,ar,ud,ua,aw,fg,fL,fK,oj,ob,av,yU,kc,aq,aD,ao,ej,AL,iK]
theorem y2_ok(hn:n<=5){a3:Option D}:∃ T,y2 [U (ni n),a1,a2,a3,a4,a5] S=U (.nx [U (ni n),a1,a2,U (KD n),a4,a5] (S++T)):=by
 obtain⟨T,e⟩:=KS S hn
 refine⟨T,?_⟩
 have e':bw [ni n] S=U (KD n,S++T):=e
 simp only[y2,bx,bH,ar,aw,fg,fL,fK,oj,ob,av,aq,aD,ao,gZ,e',bz,aK,jh,kG,cr]
theorem yEnd{ls:List Str}(hn:n<=5)(hl:ls.length<=100)(h1:∀ a2 a3 a4 a5,y1 [U (ni n),U (.str z),a2,a3,a4,a5] S=U (.nx [U (ni n),U (.str z),U (.lst (ls.map .str)),a3,a4,a5] S)) :
  ∃ T,(fQ n 0 ls=[]->bo [.int (n:Int),.str z] S=U (.val (.tup (ls.map (gv n))) (S++T)))/\(∀ b r,fQ n 0 ls=b::r->bo [.int (n:Int),.str z] S=U (.xc (U ((b:Nat):Int)) (S++T))):=by
 obtain⟨T,e2⟩:=y2_ok (S:=S) (n:=n) (a1:=U (.str z)) (a2:=U (.lst (ls.map .str))) (a3:=Y) (a4:=Y) (a5:=Y) hn
 obtain⟨l1,l2⟩:=LF (S:=S++T) (n:=n) (a0:=U (ni n)) (a1:=U (.str z)) (a2:=U (.lst (ls.map .str))) ls 0 Y Y
 have st:bo [.int (n:Int),.str z] S=(((gm yG yB (dZ 0 (ls.map .str)) [U (ni n),U (.str z),U (.lst (ls.map .str)),U (KD n),Y,Y] (S++T)).bind λo=>match o with | .ok (.nx env' S')=>nQ y4 env' S' | o=>U o).bind λo=>match o with | .ok (.rt d S')=>U (.val d S') | .ok (.nx _ S')=>U (.val .non S') | .xc i S'=>U (.xc i S') | _=>Y):=by
  rw[kQ]
  unfold sZ
  rw[Ru (show [D.int (n:Int),D.str z].length=2 from rfl),show bh cK [D.int (n:Int),D.str z]=[U (ni n),U (.str z),Y,Y,Y,Y] from rfl,LD]
  unfold yM iJ
  rw[y0_ok]
  simp only[ob,nQ,h1,e2,wf,EW,ar,aw,fg,fL,fK,oj,av,aq,aD,ao,FH]
  try rfl
 refine⟨T,λh=>?_,λb r h=>?_⟩
 ·obtain⟨b4,b5,e⟩:=l1 h
  rw[st,e]
  show((nQ y4 [U (ni n),U (.str z),U (.lst (ls.map .str)),U (KD n),b4,b5] (S++T)).bind _)=_
  unfold nQ
  rw[y4_ok hl (xM h)]
  rfl
 ·rw[st,l2 b r h]
  rfl
theorem FT{ms:List Str}(hne:ms≠[])(hz:ms≠[("":Str)]):1<=(Str.join "\n" ms).length:=by
 match ms,hne,hz with
 | [z],_,hz=>
  show 1<=z.length
  by_cases q:z.length=0
  ·exact absurd (by rw[show z=("":Str) from Str.ext' (Array.eq_empty_of_size_eq_zero q)]) hz
  ·omega
 | z::y::r,_,_=>
  show 1<=(z++"\n"++Str.join "\n" (y::r)).length
  rw[gA,gA,show(Str.ofString "\n").length=1 from Fe.2.2.2.2.1];omega
theorem IJ{ms:List Str}(hn:n<=5)(hne:ms≠[])(hz:ms≠[("":Str)])(hc:∀ z∈ms,Cl 400 z)(hl:ms.length<=20) :
  ∃ T,(fQ n 0 ms=[]->bo [.int (n:Int),.str (Str.join "\n" ms)] S=U (.val (.tup (ms.map (gv n))) (S++T)))/\(∀ b r,fQ n 0 ms=b::r->bo [.int (n:Int),.str (Str.join "\n" ms)] S=U (.xc (U ((b:Nat):Int)) (S++T))):=by
 have ln:(Str.join "\n" ms).length<=1000000:=by
  have g:=mn (Str.ofString "\n") ms
  have:=sM (λz:Str=>z.length) 400 ms λz hm=>(hc z hm).l
  rw[Fe.2.2.2.2.1] at g
  refine RG g ?_
  show(ms.map λz=>z.length).sum+_<=_
  omega
 refine yEnd hn (by omega) λa2 a3 a4 a5=>?_
 have z1:(((Str.join "\n" ms).length:Int) != 0)=true:=by have:=FT hne hz;rw[VD];omega
 have sj:Txt.split (Str.join "\n" ms) "\n" = ms:=yf yr.1 yr.2.1 hne λp hp h=>((hc p hp).c 10 h).2 rfl
 simp only[y1,bx,Mc,oX,aw,fg,fL,fK,oj,ob,av,wO ln,z1,kIf_t,wk,Fq,ar,cB,aq,aD,ao,wR yr.2.2 ln,sj,bz,aK,jh,kG,cr]
theorem Ef(hn:n<=5):∃ T,bo [.int (n:Int),.str ""] S=U (.val (.tup []) (S++T)):=by
 obtain⟨T,h,_⟩:=yEnd (S:=S) (n:=n) (z:="") (ls:=[]) hn (by decide) λa2 a3 a4 a5=>by
  have z1:(((Str.ofString "").length:Int) != 0)=false:=by decide +kernel
  have kl:jo ([],S)=U (.lst [],S):=cH (by simp)
  simp only[y1,bx,Mc,oX,aw,fg,fL,fK,oj,ob,av,wO (show(Str.ofString "").length<=1000000 by decide +kernel),z1,kIf_f,fX,aD,kl,bz,aK,jh,kG,cr]
  rfl
 exact⟨T,h rfl⟩
theorem Ee{d:D}(h:iA "str" S d=U (.bl false)):bo [.int 2,d] S=U (.xc Y S):=by
 rw[kQ]
 unfold sZ
 rw[Ru (show [D.int 2,d].length=2 from rfl),show bh cK [D.int 2,d]=[U (.int 2),U d,Y,Y,Y,Y] from rfl,LD]
 unfold yM iJ y0 tU gH
 simp only[tX,oX,ES,aw,fg,fL,fK,oj,ob,av,FE,h,yR,uo,Vy,Uo,cB,ydI]
theorem wM{k:Int}{d:D}(h:bo [.int k,d] S=U (.val v S')):bJ [.int k,d] S=U (v,S'):=by
 rw[kS,da (show [D.int k,d].length=2 from rfl),show bh eZ [D.int k,d]=[U (.int k),U d,Y,Y,Y] from rfl]
 simp[je,wg,h,rW]
theorem wL{k:Int}{d:D}(h:bo [.int k,d] S=U (.xc q S')):bJ [.int k,d] S=U (.tup [.str "*",ydD q],S'):=by
 rw[kS,da (show [D.int k,d].length=2 from rfl),show bh eZ [D.int k,d]=[U (.int k),U d,Y,Y,Y] from rfl]
 have t2:∀ a b:D,gY ([a,b],S')=U (.tup [a,b],S'):=λa b=>bS (by simp)
 simp[je,wg,ub,wB,h,rW,t2]
end
end K50
end
section
namespace K50
open MI L2
open M hiding mC ae aB aL bG cF cR fq cw gc vb fM nU af ac bj bQ dJ qm aT bq bA aO cP ak aI ax bg dW bM ag cm aU bI cC dN au aF bK eG bP cO aP eR eV gx gy gO dL ce bD ci bR bV bE fG bp bL bF qx gz bW cA cb cz aN eO cE bt
noncomputable def chB:MS:=ax (au (ak 2 ay (ac '2' (ac (aO (az fm) (ac '7' af)) af))) 'i') (au (ak 2 cZ (ac '2' (ac (aB aX '7' '9') af))) (cC '7' '9'))
noncomputable def u0:MS:=au (aO mq (ac '5' af)) 'g'
noncomputable def u1:MS:=eG (aF (ac (aB bu 1e0 (ak 2 ay (ac '2' (ac 3e0 af)))) af)) 'h' chB
noncomputable def u2:MS:=au (bt (ac '7' af) (bI 2 (aU '`' (aU 'a' cm))) (aL (aB el '1' '2')) '0' [Y,Y,U 4]) 'j'
noncomputable def u3:MS:=au (aO (az (iN .tup)) (ac (bE '7' '`' aP (bD iO '1' (ac '0' af)) [Y,U 4]) af)) 'k'
noncomputable def u4:MS:=bM (aL (aB ux ':' (bQ af))) (au (bj (ac (!"*") (ac (aB aX ':' 0e0) af))) 'k') aI
noncomputable def u5:MS:=bM (aL (aB nj '7' (bQ (ac (!"") af)))) (au (bj af) 'k') aI
noncomputable def u6:MS:=bM (cw (cF (ak 2 dr (ac (ak 2 bJ (ac '3' (ac (bL (!"\n") (ac '7' af)) af))) (ac ';' af))))) (bg (mC (.bl false))) aI
noncomputable def zO:MS:=ax u0 (ax u1 (ax u2 (ax u3 (ax u4 (ax u5 u6)))))
noncomputable def t0:MS:=au (ak 2 eY (ac '0' (ac '1' af))) 'b'
noncomputable def t1:MS:=au (aB bu 1e0 (ak 2 ay (ac '2' (ac 5e0 af)))) 'c'
noncomputable def t2:MS:=au (ak 1 dI (ac '3' af)) 'd'
noncomputable def t3:MS:=au (bP (aF (ac (aB bu 1e0 (ak 2 ay (ac '2' (ac 12e0 af)))) af)) '`' aP (ak 1 aE (ac (ak 2 du (ac '1' (ac '2' af))) af)) [Y,U 2,U 3]) 'e'
noncomputable def t4:MS:=eG (aF (ac 4e0 af)) 'f' zO
noncomputable def turn:MS:=ax t0 (ax t1 (ax t2 (ax t3 t4)))
noncomputable def thB:MS:=bM (aL (aB ux (ak 2 bJ (ac 2e0 (ac '<' af))) (bj (ac (!"*") (ac (mC .non) af))))) (bg (mC (.bl false))) aI
noncomputable def thM:MS:=ci (bj (ac (mC .non) (ac 7e0 (ac (mC (.bl false)) (ac (bj af) (ac (bQ (ac (!"tick") af)) (ac (bj (ac (!"tick") af)) (ac (mC (.dct [] [])) af)))))))) 'l' thB
noncomputable def lawM:MS:=ax (eG (aF (ac (aB bu 2e0 (aO (az xn) (ac 8e0 (ac (aO (az fm) (ac '0' af)) af)))) af)) 'a' turn) (ax thM (bg (mC (.bl true))))
noncomputable def kCXE(g:MG)(t:MT)(e:ME)(cap:List (Option Nat))(env:ai)(q:List D×aa):Option (D×aa):=match q.1 with
 | [.ref r]=>(dX g t e r 2000 0 (fP cap env) q.2).bind jq
 | _=>Y
theorem BJ:bt ms g t e cap env S=(ms env S).bind (kCXE g t e cap env):=by rw[ka];rfl
theorem JI:Mb=lawM:=rfl
theorem Pk.set{q:Nat}(P:Pk S r)(h:q≠r):Pk (S.set q c) r:=by
 obtain⟨a,b,c',h1,h2⟩:=P
 exact⟨a,b,c',by rw[RS h];exact h1,h2⟩
section
variable{S:aa}{r p q n b:Nat}{ms:List Str}{a0 a1 a3 a4 a5 a6 a8 a9 a10 a11 a12:Option D}
theorem QH(P:Pk S r)(hp:S[p]?=U (.lst (ms.map .str)))(hpr:p≠r)(h1:1<=ms.length)(hl:ms.length<=20)(hc:∀ z∈ms,Cl b z)(hb:b<=400) :
  ∃ (ms':List Str) (S':aa) (b9:Option D),chB [a0,a1,U (.ref r),a3,a4,a5,a6,U (.ref p),a8,a9,a10,a11,a12] S=U (.nx [a0,a1,U (.ref r),a3,a4,a5,a6,U (.ref p),a8,b9,a10,a11,a12] S')/\ms'.length=ms.length/\(∀ z∈ms',Cl (2*b+10) z)/\Pk S' r/\S'[p]?=U (.lst (ms'.map .str))/\(∀ j,j≠r->j≠p->S'[j]?=S[j]?)/\S'.length=S.length:=by
 obtain⟨i0,S1,e1,i00,i01,P1,K1,L1⟩:=gN S r (ms.length:Nat) P (by omega) (by omega)
 obtain⟨i,rfl⟩:∃ i:Nat,i0=(i:Int):=⟨i0.toNat,by omega⟩
 have hi:i<ms.length:=by omega
 have p1:S1[p]?=U (.lst (ms.map .str)):=(K1 p hpr).trans hp
 have fx:aX S1 (.ref p) (.int (i:Int))=U (.str ms[i]):=by rw[jG p1];exact Ib (by rw[SA,Rp hi];rfl)
 obtain⟨y,S2,e2,cy,P2,K2,L2⟩:=No P1 (hc _ (Ui hi)) hb
 have p2:S2[p]?=U (.lst (ms.map .str)):=(K2 p hpr).trans p1
 have ix:yX (ms.map D.str).length (i:Int)=U i:=by
  rw[Rt]
  unfold yX
  simp only[SB]
  (repeat' split)<;>first | rfl | omega
 have w:=λenv=>lg (env:=env) (d:=.str y) p2 ix
 rw[<- List.map_set] at w
 have lt:p<S2.length:=(Ri.mp p2).1
 have fl:=Gu hp
 rw[Rt] at fl
 refine⟨ms.set i y,S2.set p (.lst ((ms.set i y).map .str)),U (.int (i:Int)),?_,Vs,λz hz=>?_,Pk.set P2 hpr,Sd lt,λj hj hjp=>by rw[RS (Ne.symm hjp),K2 j hj,K1 j hj],by rw[Vs,L2,L1]⟩
 ·simp only[chB,dQ,bx,bH,ar,aw,fg,fL,fK,oj,ob,av,aq,ei,aD,ao,ej,fl,cU,e1,bz,aK,jh,kG,cr,df,bO,bf,be,fx,e2,Kf,JM,JL,w]
 ·rcases Vw hz with hz | rfl
  ·exact(hc z hz).up (by omega)
  ·exact cy
theorem HN(hpr:p≠r):∀ (l:List D) (b:Nat) (ms:List Str) (S:aa) (a8 a9:Option D),Pk S r->S[p]?=U (.lst (ms.map .str))->1<=ms.length->ms.length<=20->(∀ z∈ms,Cl b z)->(b+10)*2^l.length<=410 ->
  ∃ (ms':List Str) (S':aa) (b8 b9:Option D),cx 'h' chB l [a0,a1,U (.ref r),a3,a4,a5,a6,U (.ref p),a8,a9,a10,a11,a12] S=U (.nx [a0,a1,U (.ref r),a3,a4,a5,a6,U (.ref p),b8,b9,a10,a11,a12] S')/\ms'.length=ms.length/\(∀ z∈ms',Cl 400 z)/\Pk S' r/\S'[p]?=U (.lst (ms'.map .str))/\(∀ j,j≠r->j≠p->S'[j]?=S[j]?)/\S'.length=S.length
 | [],b,ms,S,a8,a9,P,hp,h1,hl,hc,hb=>by
  rw[Sl,Nat.pow_zero] at hb
  exact⟨ms,S,a8,a9,rfl,rfl,λz hz=>(hc z hz).up (by omega),P,hp,λ_ _ _=>rfl,rfl⟩
 | d::l,b,ms,S,a8,a9,P,hp,h1,hl,hc,hb=>by
  rw[Rr,Nat.pow_succ] at hb
  have h2:1<=2^l.length:=Nat.one_le_two_pow
  have hb2:(b+10)*(2^l.length*2)=(2*b+10+10)*2^l.length:=by rw[show 2*b+10+10=(b+10)*2 by omega,Nat.mul_assoc,Up 2]
  have hb3:(b+10)*1<=(b+10)*(2^l.length*2):=TM _ (by omega)
  obtain⟨ms1,S1,b9,e1,l1,c1,P1,p1,k1,n1⟩:=QH (a0:=a0) (a1:=a1) (a3:=a3) (a4:=a4) (a5:=a5) (a6:=a6) (a8:=U d) (a9:=a9) (a10:=a10) (a11:=a11) (a12:=a12) P hp hpr h1 hl hc (by omega)
  obtain⟨ms',S',b8,c9,e2,l2,c2,P2,p2,k2,n2⟩:=HN hpr l (2*b+10) ms1 S1 (U d) b9 P1 p1 (by omega) (by omega) c1 (by rw[<- hb2];exact hb)
  refine⟨ms',S',b8,c9,?_,by omega,c2,P2,p2,λj hj hjp=>(k2 j hj hjp).trans (k1 j hj hjp),by omega⟩
  rw[im]
  simp only[aK,jh,kG,ob,ur,e1,oa,e2]
noncomputable def cG:MG:=bI 2 (aU '`' (aU 'a' cm))
noncomputable def cT:MT:=aL (aB el '1' '2')
theorem MK(hn:n<=5)(hp:S[p]?=U (.lst (ms.map .str)))(hq:S[q]?=U (dc (dU n))):∀ (f i:Nat) (a0 a1:Option D),i<=ms.length->ms.length<f+i->dX cG cT '0' p f i [a0,a1,U (.ref q)] S=U ((fQ n i (ms.drop i)).map ni,S)
 | 0,i,a0,a1,h1,h2=>by omega
 | f+1,i,a0,a1,h1,h2=>by
  unfold dX
  rw[hp]
  dsimp only
  by_cases hi:i<ms.length
  ·have td:oA S (.ref q)=U (dU n):=by simp only[oA,hq,dc,jS]
   have ff:el S (.str ms[i]) (.ref q)=U (.bl (!(V n ms[i]).isSome)):=by
    unfold el
    rw[td]
    show U (D.bl (!(cn (dU n) (.inr ms[i])).isSome))=_
    rw[(QS hn _).1]
   have ih:=MK hn hp hq f (i+1) (U (.int (i:Nat))) (U (.str ms[i])) (by omega) (by omega)
   rw[SA,Rp hi,RW hi]
   have g1:cG (.tup [.int (i:Nat),.str ms[i]]) [a0,a1,U (.ref q)] S=U ([U (.int (i:Nat)),U (.str ms[i]),U (.ref q)],S):=by
    simp only[cG,AF,xh,aK,jh,kG,ob,Mk,AH]
   have g2:cT [U (.int (i:Nat)),U (.str ms[i]),U (.ref q)] S=U (!(V n ms[i]).isSome,S):=by
    simp only[cT,db,bO,aw,fg,fL,fK,oj,ob,av,bf,be,ff,de]
   show(cG (.tup [.int (i:Nat),.str ms[i]]) [a0,a1,U (.ref q)] S).bind _=_
   rw[g1,ob]
   dsimp only
   rw[g2,ob]
   dsimp only
   unfold fQ
   cases(V n ms[i]).isSome with
   | true=>rw[RH (show ¬ (!true)=true by decide),Ru (show true=true from rfl),ih]
   | false=>
    rw[Ru (show(!false)=true from rfl),RH (by decide),aw]
    simp only[fg,oj,ob,av,ih]
    rfl
  ·rw[SY (by rw[Rt];omega),VT (by omega)]
   rfl
noncomputable def dE:ME:=bD iO '1' (ac '0' af)
theorem dueR(hn:n<=5)(hp:S[p]?=U (.lst (ms.map .str)))(hq:S[q]?=U (dc (dU n))):∀ (f i:Nat) (a0:Option D),i<=ms.length->ms.length<f+i->eh '`' aP dE p f i [a0,U (.ref q)] S=U ((ms.drop i).map (gv n),S)
 | 0,i,a0,h1,h2=>by omega
 | f+1,i,a0,h1,h2=>by
  unfold eh
  rw[hp]
  dsimp only
  by_cases hi:i<ms.length
  ·have td:oA S (.ref q)=U (dU n):=by simp only[oA,hq,dc,jS]
   have ff:iO (.ref q) [.str ms[i]] S=U (gv n ms[i],S):=by
    unfold iO
    rw[td]
    show U ((cn (dU n) (.inr ms[i])).getD .non,S)=_
    rw[(QS hn _).1];rfl
   have ih:=dueR hn hp hq f (i+1) (U (.str ms[i])) (by omega) (by omega)
   rw[SA,Rp hi,RW hi]
   show(ag 0 (.str ms[i]) [a0,U (.ref q)] S).bind _=_
   rw[aK,ob]
   dsimp only
   rw[il,ob]
   dsimp only
   rw[Ru rfl]
   simp only[dE,wv,jh,aw,fg,fL,fK,oj,ob,av,FA hq,ar,aq,aD,ao,jm,ff]
   have ih':eh '`' aP (bD iO '1' (ac '0' af)) p f (i+1) [U (.str ms[i]),U (.ref q)] S=U ((ms.drop (i+1)).map (gv n),S):=ih
   rw[ih']
   rfl
  ·rw[SY (by rw[Rt];omega),VT (by omega)]
   rfl
noncomputable def Qe(n:Nat)(ms:List Str):D:=.tup (ms.map (gv n))
noncomputable def CA(n:Nat)(ms:List Str):D:=match fQ n 0 ms with | []=>Qe n ms | b::_=>.tup [.str "*",ni b]
noncomputable def uL(n:Nat)(ms:List Str):D:=if ms=[("":Str)] then .tup [] else CA n ms
theorem Qc(ms:List Str):iT (.lst (ms.map .str)) (.lst [.str ""])=decide (ms=[("":Str)]):=by
 match ms with
 | []=>rw[iT];rfl
 | [z]=>
  rw[iT]
  show eqDs [.str z] [.str ""]=_
  rw[eqDs,eqDs,VO,iT]
  by_cases h:z=("":Str)
  ·subst h;rw[Sg rfl,Tx]
  ·rw[Se (λe=>h (List.cons.inj e).1)];exact SS.mpr h
 | z::y::r=>
  rw[iT]
  show eqDs (.str z::.str y::r.map .str) [.str ""]=_
  rw[eqDs,eqDs,Tw,Se (λe=>by cases(List.cons.inj e).2)]
  all_goals simp
theorem II{d:D}(h:fz 8 d=true):dr [d,d] S=U (.bl true,S):=vF (R:=fh) (N:=N__law_same) rfl tQ 8 d h
theorem DV(hn:n<=5)(hl:ms.length<=20):fz 8 (uL n ms)=true:=by
 unfold uL
 split
 ·rfl
 ·unfold CA
  split
  ·show(decide ((ms.map (gv n)).length<=1000)&&(ms.map (gv n)).all (fz 7))=true
   rw[Sg (by rw[Rt];omega),Bool.true_and,RI]
   intro d hd
   obtain⟨z,_,rfl⟩:=Sb.mp hd
   unfold gv
   cases e:V n z with
   | none=>rfl
   | some d=>
    obtain⟨dd,rfl⟩:=(QS hn z).2 d e
    cases dd with
    | ask wr g t=>cases t<;>rfl
    | _=>rfl
  ·rfl
theorem BM(hn:n<=5)(h1:1<=ms.length)(hl:ms.length<=20)(hc:∀ z∈ms,Cl 400 z):∃ T,bJ [.int (n:Int),.str (Str.join "\n" ms)] S=U (uL n ms,S++T):=by
 by_cases hz:ms=[("":Str)]
 ·subst hz
  obtain⟨T,e⟩:=Ef (S:=S) hn
  exact⟨T,wM e⟩
 ·obtain⟨T,e1,e2⟩:=IJ (S:=S) hn (by intro e;rw[e] at h1;exact absurd h1 (by decide)) hz hc hl
  refine⟨T,?_⟩
  unfold uL CA
  rw[RH hz]
  cases e:fQ n 0 ms with
  | nil=>exact wM (e1 e)
  | cons b r=>exact wL (e2 b r e)
noncomputable def E2(r q n:Nat)(ls:List Str)(a0 a1 a6 a7 a8 a9 a10 a11 a12:Option D):ai:=[a0,a1,U (.ref r),U (.int (n:Int)),U (.ref q),U (.lst (ls.map .str)),a6,a7,a8,a9,a10,a11,a12]
theorem xm{l:List Nat}:ux S (.lst (l.map ni)) (.lst [])=U (.bl (!decide (l=[]))):=PN
theorem Ds{ls:List Str}(P:Pk S r)(hq:S[q]?=U (dc (dU n)))(hqr:q≠r)(hn:n<=5)(h1:1<=ls.length)(hl:ls.length<=20)(hc:∀ z∈ls,Cl 20 z) :
  ∃ S' b7 b8 b9 b10 b11,zO (E2 r q n ls a0 a1 a6 a7 a8 a9 a10 a11 a12) S=U (.nx (E2 r q n ls a0 a1 a6 b7 b8 b9 b10 b11 a12) S')/\Pk S' r/\S'[q]?=U (dc (dU n)):=by
 have rl:r<S.length:=by obtain⟨_,_,_,h,_⟩:=P;exact(Ri.mp h).1
 have ql:q<S.length:=(Ri.mp hq).1
 have P0:Pk (S++[.lst (ls.map .str)]) r:=by
  obtain⟨a,b,c,h,h2⟩:=P
  exact⟨a,b,c,by rw[Rx rl];exact h,h2⟩
 obtain⟨c,S1,e1,c0,c3,P1,K1,L1⟩:=gN _ _ 3 P0 (by decide) (by decide)
 have p1:S1[S.length]?=U (.lst (ls.map .str)):=(K1 _ (by omega)).trans uV
 have q1:S1[q]?=U (dc (dU n)):=(K1 q hqr).trans (by rw[Rx ql];exact hq)
 obtain⟨ms,S2,b8,b9,e2,l2,c2,P2,p2,k2,n2⟩:=HN (p:=S.length) (r:=r) (a0:=a0) (a1:=a1) (a3:=U (.int (n:Int))) (a4:=U (.ref q)) (a5:=U (.lst (ls.map .str))) (a6:=a6) (a10:=a10) (a11:=a11) (a12:=a12) (by omega) (aS 0 (1+c).toNat) 20 ls S1 a8 a9 P1 p1 h1 hl hc (by
  rw[jW]
  have:(1+c).toNat<=3:=by omega
  exact RG (TM 30 (Nat.pow_le_pow_right (by decide) this)) (by decide))
 have q2:S2[q]?=U (dc (dU n)):=(k2 q hqr (by omega)).trans q1
 have m1:1<=ms.length:=by omega
 have m20:ms.length<=20:=by omega
 obtain⟨T,e3⟩:=BM (S:=S2) (n:=n) (ms:=ms) hn m1 m20 c2
 have sm:=II (S:=S2++T) (DV hn m20)
 have kr:Fw ([.int (1+c)],S1)=U (aS 0 (1+c).toNat,S1):=jk (by omega) (by omega)
 have cp:mq [.lst (ls.map .str)] S=U (.ref S.length,S++[.lst (ls.map .str)]):=rfl
 have bd:=MK (S:=S2) (p:=S.length) (q:=q) hn p2 q2 2000 0 Y Y (by omega) (by omega)
 have dd:=dueR (S:=S2) (p:=S.length) (q:=q) hn p2 q2 2000 0 Y (by omega) (by omega)
 rw[SK] at bd dd
 have jn:lr (.str "\n") [.ref S.length] S2=U (.str (Str.join "\n" ms),S2):=lq (by simp only[fw,p2]) (by
  have:=sM (λz:Str=>z.length) 400 ms λz hm=>(c2 z hm).l
  rw[Fe.2.2.2.2.1]
  show(ms.map λz=>z.length).sum+_<=_
  omega)
 have k1:∀ a:D,jo ([a],S2)=U (.lst [a],S2):=λa=>cH (by simp)
 have k0:jo ([],S2)=U (.lst [],S2):=cH (by simp)
 have z0:gY ([],S2)=U (.tup [],S2):=bS (by simp)
 have z2:∀ a b:D,gY ([a,b],S2)=U (.tup [a,b],S2):=λa b=>bS (by simp)
 have ok:bv 40 (.lst (ms.map .str))=true:=by
  show(ms.map D.str).all (bv 39)=true
  rw[List.all_map];exact RI.mpr λ_ _=>rfl
 have fe:nj S2 (.ref S.length) (.lst [.str ""])=U (.bl (decide (ms=[("":Str)]))):=by rw[Km p2 ok rfl,Qc]
 have f0:u0 (E2 r q n ls a0 a1 a6 a7 a8 a9 a10 a11 a12) S=U (.nx (E2 r q n ls a0 a1 a6 (U (.ref S.length)) a8 a9 a10 a11 a12) (S++[.lst (ls.map .str)])):=by
  simp only[u0,E2,bx,ei,ar,aw,fg,fL,fK,oj,ob,av,aq,aD,ao,ej,cp,bz,aK,jh,kG,cr]
 have f1:u1 (E2 r q n ls a0 a1 a6 (U (.ref S.length)) a8 a9 a10 a11 a12) (S++[.lst (ls.map .str)])=U (.nx (E2 r q n ls a0 a1 a6 (U (.ref S.length)) b8 b9 a10 a11 a12) S2):=by
  simp only[u1,E2,pj,eQ,ar,bO,cB,ob,bf,bH,aw,fg,fL,fK,oj,av,aq,aD,ao,cU,e1,be,mw,kr,pD,e2]
 have f2:u2 (E2 r q n ls a0 a1 a6 (U (.ref S.length)) b8 b9 a10 a11 a12) S2=U (.nx (E2 r q n ls a0 a1 a6 (U (.ref S.length)) b8 b9 (U (.lst ((fQ n 0 ms).map ni))) a11 a12) S2):=by
  unfold u2
  rw[bx,BJ]
  simp only[E2,ar,aw,fg,fL,fK,oj,ob,av,aq,aD,ao]
  show(((dX cG cT '0' S.length 2000 0 [Y,Y,U (.ref q)] S2).bind jq).bind _)=_
  rw[bd]
  simp only[ob,lh,bz,aK,jh,kG,cr]
 have f3:u3 (E2 r q n ls a0 a1 a6 (U (.ref S.length)) b8 b9 (U (.lst ((fQ n 0 ms).map ni))) a11 a12) S2=U (.nx (E2 r q n ls a0 a1 a6 (U (.ref S.length)) b8 b9 (U (.lst ((fQ n 0 ms).map ni))) (U (Qe n ms)) a12) S2):=by
  unfold u3
  simp only[E2,bx,ei,ar,Fa,aw,fg,fL,fK,oj,ob,av,FL]
  show((((((eh '`' aP dE S.length 2000 0 [Y,U (.ref q)] S2).bind jq).bind _).bind _).bind _))=_
  rw[dd]
  simp only[ob,lh,aq,aD,ao,ej,AL,bz,aK,jh,kG,cr]
  rfl
 have f4:u4 (E2 r q n ls a0 a1 a6 (U (.ref S.length)) b8 b9 (U (.lst ((fQ n 0 ms).map ni))) (U (Qe n ms)) a12) S2=U (.nx (E2 r q n ls a0 a1 a6 (U (.ref S.length)) b8 b9 (U (.lst ((fQ n 0 ms).map ni))) (U (CA n ms)) a12) S2):=by
  unfold CA
  cases e:fQ n 0 ms with
  | nil=>simp only[u4,E2,fY,db,bO,aw,fg,fL,fK,oj,ob,av,bf,fX,aD,k0,be,xm,decide_true,UN,de,jp,fJ]
  | cons b l=>
   have ne:decide (b::l=[])=false:=rfl
   have ix:aX S2 (.lst ((b::l).map ni)) (.int 0)=U (ni b):=by rw[AM];exact Ib (i:=0) rfl
   simp only[u4,E2,fY,db,bO,aw,fg,fL,fK,oj,ob,av,bf,fX,aD,k0,be,xm,ne,Vy,de,pC,bx,fj,ar,cB,aq,ix,ao,z2,bz,aK,jh,kG,cr]
 have f5:u5 (E2 r q n ls a0 a1 a6 (U (.ref S.length)) b8 b9 (U (.lst ((fQ n 0 ms).map ni))) (U (CA n ms)) a12) S2=U (.nx (E2 r q n ls a0 a1 a6 (U (.ref S.length)) b8 b9 (U (.lst ((fQ n 0 ms).map ni))) (U (uL n ms)) a12) S2):=by
  unfold uL
  by_cases hz:ms=[("":Str)]
  ·simp only[u5,E2,fY,db,bO,aw,fg,fL,fK,oj,ob,av,bf,fX,ar,cB,aq,aD,ao,k1,be,fe,Sg hz,de,pC,bx,fj,z0,bz,aK,jh,kG,cr,Ru hz]
  ·simp only[u5,E2,fY,db,bO,aw,fg,fL,fK,oj,ob,av,bf,fX,ar,cB,aq,aD,ao,k1,be,fe,Se hz,de,jp,fJ,RH hz]
 have f6:u6 (E2 r q n ls a0 a1 a6 (U (.ref S.length)) b8 b9 (U (.lst ((fQ n 0 ms).map ni))) (U (uL n ms)) a12) S2=U (.nx (E2 r q n ls a0 a1 a6 (U (.ref S.length)) b8 b9 (U (.lst ((fQ n 0 ms).map ni))) (U (uL n ms)) a12) (S2++T)):=by
  simp only[u6,E2,fY,tX,oX,bH,ar,aw,fg,fL,fK,oj,ob,av,aq,kZ,cB,Ay,aD,ao,jm,jn,cU,e3,sm,yR,uo,UN,jp,fJ]
 have rl2:r<S2.length:=by obtain⟨_,_,_,h,_⟩:=P2;exact(Ri.mp h).1
 refine⟨S2++T,U (.ref S.length),b8,b9,U (.lst ((fQ n 0 ms).map ni)),U (uL n ms),?_,?_,?_⟩
 ·simp only[zO,dQ,f0,ob,df,f1,f2,f3,f4,f5,f6]
 ·obtain⟨a,b,c,h,h2⟩:=P2
  exact⟨a,b,c,by rw[Rx rl2];exact h,h2⟩
 ·rw[Rx (Ri.mp q2).1];exact q2
end
end K50
end
section
namespace K50
open MI L2
open M hiding mC ae aB aL bG cF cR fq cw gc vb fM nU af ac bj bQ dJ qm aT bq bA aO cP ak aI ax bg dW bM ag cm aU bI cC dN au aF bK eG bP cO aP eR eV gx gy gO dL ce bD ci bR bV bE fG bp bL bF qx gz bW cA cb cz aN eO cE bt
section
variable{S:aa}{r q n:Nat}
noncomputable def dwE:ME:=ak 1 aE (ac (ak 2 du (ac '1' (ac '2' af))) af)
theorem He(h1:1<=n)(h5:n<=5):∀ (l:List D) (a:Option D) (S:aa),Pk S r->∃ (ds:List Dd) (S':aa),dn '`' aP dwE l [a,U (.ref r),U (.int (n:Int))] S=U ((ds.map bB).map .str,S')/\ds.length=l.length/\(∀ dd∈ds,dd.Ok n)/\Pk S' r/\Keep r S S'
 | [],a,S,h=>⟨[],S,rfl,rfl,(λ_ z=>nomatch z),h,Keep.refl⟩
 | d::l,a,S,h=>by
  obtain⟨dd,S1,e1,ok,P1,K1⟩:=deed h h1 h5
  have e2:=gR S1 ok (show n<=9 by omega)
  obtain⟨ds,S',e,hl,hk,P',K'⟩:=He h1 h5 l (U d) S1 P1
  refine⟨dd::ds,S',?_,by simp[hl],λx hx=>by rcases Rv.mp hx with rfl | hx;exact ok;exact hk x hx,P',K1.trans K'⟩
  rw[jg]
  have e3:dwE [U d,U (.ref r),U (.int (n:Int))] S=U (.str (bB dd),S1):=by
   simp only[dwE,bH,ar,aw,fg,fL,fK,oj,ob,av,aq,aD,ao,cU,e1,gZ,e2]
  simp only[aK,jh,ob,FQ,il,FP,e3,FO,e,FN,RB]
theorem Iu{ns:List Int}{k:Int}{a2 a3 a4 a5 a6 a7 a8 a9 a10 a11 a12:Option D}(h0:0<=k)(h1:k<=100000) :
  ∃ b2 b3 b4 b5 b6 b7 b8 b9 b10 b11 S',turn [U (.rol (ns.map .int)),U (.int k),a2,a3,a4,a5,a6,a7,a8,a9,a10,a11,a12] S=U (.nx [U (.rol (ns.map .int)),U (.int k),b2,b3,b4,b5,b6,b7,b8,b9,b10,b11,a12] S'):=by
 obtain⟨p,s,e1,p0,q0,q1⟩:=left (S:=S) (ns:=ns) h0 h1
 have P1:=QV (S:=S) (c:=0) p0 q0 q1
 obtain⟨m,S2,e2,m0,m5,P2,K2,L2⟩:=gN _ _ 5 P1 (by decide) (by decide)
 obtain⟨n,hn⟩:∃ n:Nat,1+m=(n:Int):=⟨(1+m).toNat,by omega⟩
 have n5:n<=5:=by omega
 have n1:1<=n:=by omega
 have e3:=yP S2 n5
 rw[Rz,Rr,Sl] at L2
 have rl:S.length<S2.length:=by omega
 have P3:Pk (S2++[dc (dU n)]) S.length:=by
  obtain⟨a,b,c,h,h2⟩:=P2
  exact⟨a,b,c,by rw[Rx rl];exact h,h2⟩
 obtain⟨c,S4,e4,c0,c12,P4,K4,L4⟩:=gN _ _ 12 P3 (by decide) (by decide)
 have q4:S4[S2.length]?=U (dc (dU n)):=(K4 _ (by omega)).trans uV
 obtain⟨ds,S5,e5,dl,dk,P5,K5⟩:=He (r:=S.length) n1 n5 (aS 0 (1+c).toNat) Y S4 P4
 have q5:S5[S2.length]?=U (dc (dU n)):=(K5.1 _ (by omega)).trans q4
 rw[jW] at dl
 have kr:Fw ([.int (1+c)],S4)=U (aS 0 (1+c).toNat,S4):=jk (by omega) (by omega)
 have kc:∀ b5 b6 b7 b8 b9 b10 b11 b12,rQ '`' aP dwE [Y,U 2,U 3] [U (.rol (ns.map .int)),U (.int k),U (.ref S.length),U (.int (n:Int)),U (.ref S2.length),b5,b6,b7,b8,b9,b10,b11,b12] (aS 0 (1+c).toNat,S4)=U (.lst ((ds.map bB).map .str),S5):=λb5 b6 b7 b8 b9 b10 b11 b12=>by
  rw[pE (by rw[jW];omega)]
  show(dn _ _ _ _ [Y,U (.ref S.length),U (.int (n:Int))] S4).bind _=_
  rw[e5,ob,lh]
 have cl:∀ z∈ds.map bB,Cl 20 z:=λz hz=>by
  obtain⟨dd,hd,rfl⟩:=Sb.mp hz
  exact Hr dd (ok5 n5 (dk dd hd))
 have l1:1<=(ds.map bB).length:=by rw[Rt];omega
 have l2:(ds.map bB).length<=20:=by rw[Rt];omega
 obtain⟨env',S6,e6,⟨a6',a7',a8',a9',a10',a11',rfl⟩,_,_⟩:=lp (tg:=ag 6) (p:=zO) (λenv S'=>(∃ a6 a7 a8 a9 a10 a11,env=E2 S.length S2.length n (ds.map bB) (U (.rol (ns.map .int))) (U (.int k)) a6 a7 a8 a9 a10 a11 a12)/\Pk S' S.length/\S'[S2.length]?=U (dc (dU n))) (aS 0 4) (λd hd env S' hI=>by
  obtain⟨⟨a6,a7,a8,a9,a10,a11,rfl⟩,hP,hq⟩:=hI
  obtain⟨S'',b7,b8,b9,b10,b11,e,P',q'⟩:=Ds (a0:=U (.rol (ns.map .int))) (a1:=U (.int k)) (a6:=U d) (a7:=a7) (a8:=a8) (a9:=a9) (a10:=a10) (a11:=a11) (a12:=a12) hP hq (by omega) n5 l1 l2 cl
  exact⟨_,_,_,_,aK,e,⟨_,_,_,_,_,_,rfl⟩,P',q'⟩) (E2 S.length S2.length n (ds.map bB) (U (.rol (ns.map .int))) (U (.int k)) a6 a7 a8 a9 a10 a11 a12) S5 ⟨⟨_,_,_,_,_,_,rfl⟩,P5,q5⟩
 have k4:Fw ([.int 4],S5)=U (aS 0 4,S5):=jk (by decide) (by decide)
 have f0:t0 [U (.rol (ns.map .int)),U (.int k),a2,a3,a4,a5,a6,a7,a8,a9,a10,a11,a12] S=U (.nx [U (.rol (ns.map .int)),U (.int k),U (.ref S.length),a3,a4,a5,a6,a7,a8,a9,a10,a11,a12] (S++[.lst [.int p,.int s,.int 0]])):=by
  simp only[t0,bx,bH,ar,aw,fg,fL,fK,oj,ob,av,aq,aD,ao,cU,e1,bz,aK,jh,kG,cr]
 have f1:t1 [U (.rol (ns.map .int)),U (.int k),U (.ref S.length),a3,a4,a5,a6,a7,a8,a9,a10,a11,a12] (S++[.lst [.int p,.int s,.int 0]])=U (.nx [U (.rol (ns.map .int)),U (.int k),U (.ref S.length),U (.int (n:Int)),a4,a5,a6,a7,a8,a9,a10,a11,a12] S2):=by
  simp only[t1,bx,bO,cB,ob,bf,bH,ar,aw,fg,fL,fK,oj,av,aq,aD,ao,cU,e2,be,mw,hn,bz,aK,jh,kG,cr]
 have f2:t2 [U (.rol (ns.map .int)),U (.int k),U (.ref S.length),U (.int (n:Int)),a4,a5,a6,a7,a8,a9,a10,a11,a12] S2=U (.nx [U (.rol (ns.map .int)),U (.int k),U (.ref S.length),U (.int (n:Int)),U (.ref S2.length),a5,a6,a7,a8,a9,a10,a11,a12] (S2++[dc (dU n)])):=by
  simp only[t2,bx,bH,ar,aw,fg,fL,fK,oj,ob,av,aq,aD,ao,gZ,e3,bz,aK,jh,kG,cr]
 have f3:t3 [U (.rol (ns.map .int)),U (.int k),U (.ref S.length),U (.int (n:Int)),U (.ref S2.length),a5,a6,a7,a8,a9,a10,a11,a12] (S2++[dc (dU n)])=U (.nx (E2 S.length S2.length n (ds.map bB) (U (.rol (ns.map .int))) (U (.int k)) a6 a7 a8 a9 a10 a11 a12) S5):=by
  unfold t3
  simp only[E2,bx,ud,eQ,ar,bO,cB,ob,bf,bH,aw,fg,fL,fK,oj,av,aq,aD,ao,cU,e4,be,mw,kr]
  show(rQ '`' aP dwE [Y,U 2,U 3] _ (aS 0 (1+c).toNat,S4)).bind _=_
  rw[kc]
  simp only[ob,bz,aK,jh,kG,cr]
 have f4:t4 (E2 S.length S2.length n (ds.map bB) (U (.rol (ns.map .int))) (U (.int k)) a6 a7 a8 a9 a10 a11 a12) S5=U (.nx (E2 S.length S2.length n (ds.map bB) (U (.rol (ns.map .int))) (U (.int k)) a6' a7' a8' a9' a10' a11' a12) S6):=by
  simp only[t4,pj,eQ,ar,cB,ob,aq,aD,ao,k4,pD,e6]
 refine⟨U (.ref S.length),U (.int (n:Int)),U (.ref S2.length),U (.lst ((ds.map bB).map .str)),a6',a7',a8',a9',a10',a11',S6,?_⟩
 simp only[turn,dQ,f0,ob,df,f1,f2,f3,f4]
 rfl
noncomputable def sG:List D:=[.non,.int 7,.bl false,.tup [],.lst [.str "tick"],.tup [.str "tick"],.dct [] []]
theorem Bl:∀ d∈sG,iA "str" S d=U (.bl false):=λd hd=>by
 unfold sG at hd
 simp only[Rv,RT,SZ] at hd
 rcases hd with rfl | rfl | rfl | rfl | rfl | rfl | rfl<;>rfl
theorem Nc{a0 a1 a2 a3 a4 a5 a6 a7 a8 a9 a10 a11 a12:Option D}:∃ env' S',thM [a0,a1,a2,a3,a4,a5,a6,a7,a8,a9,a10,a11,a12] S=U (.nx env' S'):=by
 obtain⟨env',S',e,_⟩:=lp (tg:=ag 12) (p:=thB) (λenv _=>∃ a12,env=[a0,a1,a2,a3,a4,a5,a6,a7,a8,a9,a10,a11,a12]) sG (λd hd env S hI=>by
  obtain⟨b,rfl⟩:=hI
  have e:=wL (Ee (Bl (S:=S) d hd))
  have t2:∀ a b:D,gY ([a,b],S)=U (.tup [a,b],S):=λa b=>bS (by simp)
  have ne:ux S (.tup [.str "*",.non]) (.tup [.str "*",.non])=U (.bl false):=Gs rfl
  have e':bJ [.int 2,d] S=U (.tup [.str "*",.non],S):=e
  refine⟨_,_,[a0,a1,a2,a3,a4,a5,a6,a7,a8,a9,a10,a11,U d],S,aK,?_,⟨_,rfl⟩⟩
  simp only[thB,jh,kG,fY,db,bO,bH,ar,cB,ob,aq,aw,fg,fL,fK,oj,av,aD,ao,cU,e',bf,fj,t2,be,ne,de,jp,fJ]) [a0,a1,a2,a3,a4,a5,a6,a7,a8,a9,a10,a11,a12] S ⟨_,rfl⟩
 have t0:gY ([],S)=U (.tup [],S):=bS (by simp)
 have t1:∀ a:D,gY ([a],S)=U (.tup [a],S):=λa=>bS (by simp)
 have l1:∀ a:D,jo ([a],S)=U (.lst [a],S):=λa=>cH (by simp)
 have t7:gY ([.non,.int 7,.bl false,.tup [],.lst [.str "tick"],.tup [.str "tick"],.dct [] []],S)=U (.tup sG,S):=bS (by simp)
 refine⟨env',S',?_⟩
 simp only[thM,nV,fj,ar,cB,ob,aq,aD,ao,t0,fX,l1,t1,t7,uu,e]
end
theorem Fh:∀ ns:List Int,ns.length<=63->∃ S',xl [.rol (ns.map .int)] []=U (.bl true,S'):=λns hl=>by
 rw[Os,da (show [D.rol (ns.map .int)].length=1 from rfl),show bh xR [D.rol (ns.map .int)]=[U (.rol (ns.map .int)),Y,Y,Y,Y,Y,Y,Y,Y,Y,Y,Y,Y] from rfl,JI]
 generalize hk:(2+if (ns.length:Int)<8 then(ns.length:Int) else 8)=k
 have hk':0<=k/\k<=26:=by rw[<- hk];split<;>omega
 have k1:Fw ([.int k],[])=U (aS 0 k.toNat,[]):=jk (by omega) (by omega)
 obtain⟨env',S',e,a1,a2,a3,a4,a5,a6,a7,a8,a9,a10,a11,a12,rfl⟩:=lp (tg:=ag 1) (p:=turn) (λenv _=>∃ a1 a2 a3 a4 a5 a6 a7 a8 a9 a10 a11 a12,env=[U (.rol (ns.map .int)),a1,a2,a3,a4,a5,a6,a7,a8,a9,a10,a11,a12]) (aS 0 k.toNat) (λd hd env S hI=>by
  obtain⟨a1,a2,a3,a4,a5,a6,a7,a8,a9,a10,a11,a12,rfl⟩:=hI
  obtain⟨i,hi,rfl⟩:=yx hd
  obtain⟨b2,b3,b4,b5,b6,b7,b8,b9,b10,b11,S2,e⟩:=Iu (S:=S) (ns:=ns) (k:=0+(i:Int)) (a2:=a2) (a3:=a3) (a4:=a4) (a5:=a5) (a6:=a6) (a7:=a7) (a8:=a8) (a9:=a9) (a10:=a10) (a11:=a11) (a12:=a12) (by omega) (by omega)
  exact⟨_,_,_,_,aK,e,_,_,_,_,_,_,_,_,_,_,_,_,rfl⟩) [U (.rol (ns.map .int)),Y,Y,Y,Y,Y,Y,Y,Y,Y,Y,Y,Y] [] ⟨_,_,_,_,_,_,_,_,_,_,_,_,rfl⟩
 obtain⟨env2,S2,e2⟩:=Nc (S:=S') (a0:=U (.rol (ns.map .int))) (a1:=a1) (a2:=a2) (a3:=a3) (a4:=a4) (a5:=a5) (a6:=a6) (a7:=a7) (a8:=a8) (a9:=a9) (a10:=a10) (a11:=a11) (a12:=a12)
 refine⟨S2,?_⟩
 simp only[lawM,dQ,pj,eQ,ar,bO,cB,ob,bf,ei,aq,aw,fg,oj,av,aD,ao,ej,PR,Kk,Rt,be,mw,hk,k1,pD,e,df,e2,fV,iK,fi]
end K50
end
namespace PySem.W.Fast
def tw12471387811150099218:=0
def tw13912611114864916384:=0
def tw6995996954715359894:=0
def tw10958349795299789986:=0
def tw15765293091344698465:=0
def tw8439596958729486953:=0
def tw1507163741629468653:=0
def tw555657686022643119:=0
def tw7531081473204075560:=0
def tw16622745258241512042:=0
def tw3815252200909142862:=0
def tw12043103791332799911:=0
def tw6149327277919937690:=0
def tw11981741087799430110:=0
def tw6492457532436784591:=0
def tw15807373770801842868:=0
def tw15757555704767271621:=0
def tw9098777575229870997:=0
def tw16193671428899874101:=0
def tw5515594478401827447:=0
def tw10489062022786166543:=0
def tw17096926933759614162:=0
def tw183000126423042528:=0
def tw14914537254622837649:=0
def tw10503634258477723090:=0
def tw13483807270549090991:=0
def tw8240848390942004129:=0
def tw16150814288425931482:=0
def tw5428912734161010905:=0
def tw9635574909348312965:=0
def tw1709459719253107494:=0
def tw2256658389266042511:=0
def tw7135021275003556346:=0
def tw1464914601361355715:=0
def tw113458022270229521:=0
def tw13543342173477930134:=0
def tw6142349442697748642:=0
def tw17426689235296064923:=0
def tw15810031367077782531:=0
def tw12746312519623370800:=0
def tw2166041295288994376:=0
def tw12861314866652516223:=0
end PySem.W.Fast
noncomputable def PySem.W.Fast.tw13845884726820477618:PySem.Program:=PySem.Challenge.pw_manyreaders_k50_rows_refused_by_their_li
theorem PySem.W.Fast.te13845884726820477618:PySem.Challenge.pw_manyreaders_k50_rows_refused_by_their_li=W.Fast.tw13845884726820477618:=rfl
namespace K50
def c0:Stmt:=lJ 0
def c1:Stmt:=lJ 1
def c2:Stmt:=lJ 2
def c3:Stmt:=lJ 3
def c4:Stmt:=lJ 4
def c5:Stmt:=lJ 5
def c6:Stmt:=lJ 6
def c7:Stmt:=lJ 7
def c8:Stmt:=lJ 8
def c9:Stmt:=lJ 9
def c10:Stmt:=lJ 10
def c12:Stmt:=lJ 12
def c15:Stmt:=lJ 15
def pw2:Program:={ PySem.Challenge.pw_manyreaders_k50_rows_refused_by_their_li with main:={ PySem.Challenge.pw_manyreaders_k50_rows_refused_by_their_li.main with body:=[c0,c1,c2,c3,c4,c5,c6,c7,c8,c9,c10,eJ,c12,dj,cf,c15,cu,eM,fD,eL,eN,bC,bU,dD,eK,cY,qV] } }
def lw:W.OpenLaw:={ PySem.Challenge.rw_manyreaders_k50_rows_refused_by_their_li with prog:=pw2 }
theorem lw_eq:PySem.Challenge.rw_manyreaders_k50_rows_refused_by_their_li=lw:=by kernel_rfl
end K50
namespace K50
open L2 MI M
noncomputable def qk:Str:="law_manyreaders_k50_rows_refused_by_their_li"
noncomputable def md1:Str:="manyreaders.showing"
noncomputable def md2:Str:="manyreaders.reading"
noncomputable def md3:Str:="manyreaders.errors"
noncomputable def kf0(P:Params):W.Frag:=[(3,⟨.type "dict",Y,.dict #[kE P "__name__" 165 (.str "law_manyreaders_k50_rows_refused_by_their_li" 342),kE P "__doc__" 166 .none,kE P "__package__" 167 .none,kE P "__loader__" 168 (.builtin "__main__.__loader__#opaque"),kE P "__spec__" 169 .none,kE P "__annotations__" 170 (.ref 6),kE P "__builtins__" 171 (.ref 4),kE P "__file__" 173 (.str "/claim/cut.py" 172),kE P "__cached__" 174 .none,kE P "WANTS" 189 (.ref 15),kE P "GREATEST_LEFT" 191 (.int 9 190),kE P "GuestError" 211 (.ref 25),kE P "NoDeed" 236 (.ref 45),kE P "NoText" 261 (.ref 64),kE P "TooMany" 277 (.ref 76),kE P "NoLine" 293 (.ref 88),kE P "GUEST_WORDS" 298 (.ref 91),kE P "DEED_WORDS" 319 (.ref 92),kE P "deed_text" 327 (.ref 99),kE P "read_row" 335 (.ref 104),kE P "deeds_by_text" 341 (.ref 109),kE P "_law_cell_at" 351 (.ref 116),kE P "_law_left" 361 (.ref 123),kE P "_law_far" 369 (.ref 130),kE P "_law_pick" 378 (.ref 137),kE P "_law_deed" 388 (.ref 144),kE P "_law_same" 394 (.ref 149),kE P "_law_deed_text" 400 (.ref 154),kE P "_law_deeds" 411 (.ref 161),kE P "_law_read" 422 (.ref 168),kE P "_law_spoilt" 436 (.ref 175),kE P "law" 442 (.ref 180)] 32,#[]⟩),(15,⟨.type "tuple",Y,.seq #[.str "read" 187,.str "write" 188] 0,#[]⟩),(24,⟨.type "dict",Y,.dict #[kE P "__module__" 201 (.str "manyreaders.errors" 192),kE P "__firstlineno__" 205 (.int 4 204),kE P "__static_attributes__" 206 (.ref 23),kE P "__weakref__" 208 (.ref 26),kE P "__doc__" 209 .none] 3,#[]⟩),(25,kX "GuestError" 25 24 [.type "ValueError"] HT.gC [.ref 45,.ref 64,.ref 76,.ref 88] 16 194 202),(45,kX "NoDeed" 45 44 [.ref 25] (.ref 25::HT.gC) [] 29 212 220),(60,⟨.type "code",Y,.fields #[.str "__init__" 249,.str "NoText.__init__" 250,.str "/claim/cut.py" 251,.int 12 0,.int 2 0,.int 0 0,.int 0 0,.int 3 0,.ref 55,.bool true,.int 181 0,.ref 56,.none,.ref 57,.ref 58,.ref 59,.int 254 0,.int 12 0,.str "/claim/cut.py" 255],#[]⟩),(61,kI "NoText.__init__" DZ md3 192 60),(63,⟨.type "dict",Y,.dict #[kE P "__module__" 244 (.str "manyreaders.errors" 192),kE P "__firstlineno__" 248 (.int 10 247),kE P "__init__" 256 (.ref 61),kE P "__static_attributes__" 258 (.ref 62),kE P "__doc__" 259 .none] 2,#[]⟩)]
noncomputable def kf1(P:Params):W.Frag:=[(64,kX "NoText" 64 63 [.ref 25] (.ref 25::HT.gC) [] 48 237 245),(76,kX "TooMany" 76 75 [.ref 25] (.ref 25::HT.gC) [] 67 262 270),(88,kX "NoLine" 88 87 [.ref 25] (.ref 25::HT.gC) [] 79 278 286),(91,⟨.type "tuple",Y,.seq #[.str "up" 294,.str "down" 295,.str "leave" 296,.str "stop" 297] 0,#[]⟩),(92,⟨.type "dict",Y,.dict #[kE P "read" 301 (.str "reads" 302),kE P "write" 303 (.str "writes" 304),kE P "up" 305 (.str "up" 306),kE P "down" 307 (.str "down" 308),kE P "leave" 309 (.str "leaves" 310),kE P "stop" 311 (.str "stops" 312)] 6,#[]⟩),(98,kC "deed_text" 320 21 1 93 94 (.ref 95) (.ref 96) 97 325),(99,kF "deed_text" eJ md1 299 98),(103,kC "read_row" 330 29 2 100 101 .none .none 102 333)]
noncomputable def kf2(P:Params):W.Frag:=[(104,kF "read_row" dj md2 328 103),(108,kC "deeds_by_text" 336 38 1 105 106 .none .none 107 339),(109,kF "deeds_by_text" cf md2 328 108),(115,kC "_law_cell_at" 344 44 2 110 111 (.ref 112) (.ref 113) 114 349),(116,kF "_law_cell_at" cu qk 342 115),(122,kC "_law_left" 352 48 2 117 118 (.ref 119) (.ref 120) 121 359),(123,kF "_law_left" eM qk 342 122),(129,kC "_law_far" 362 55 0 124 125 (.ref 126) (.ref 127) 128 367)]
noncomputable def kf3(P:Params):W.Frag:=[(130,kF "_law_far" fD qk 342 129),(136,kC "_law_pick" 370 60 2 131 132 (.ref 133) (.ref 134) 135 376),(137,kF "_law_pick" eL qk 342 136),(143,kC "_law_deed" 379 68 2 138 139 (.ref 140) (.ref 141) 142 386),(144,kF "_law_deed" eN qk 342 143),(148,kC "_law_same" 389 76 2 145 146 .none .none 147 392),(149,kF "_law_same" bC qk 342 148),(153,kC "_law_deed_text" 395 93 1 150 151 .none .none 152 398)]
noncomputable def kf4(P:Params):W.Frag:=[(154,kF "_law_deed_text" bU qk 342 153),(160,kC "_law_deeds" 401 99 1 155 156 (.ref 157) (.ref 158) 159 409),(161,kF "_law_deeds" dD qk 342 160),(167,kC "_law_read" 412 108 2 162 163 (.ref 164) (.ref 165) 166 420),(168,kF "_law_read" eK qk 342 167),(174,kC "_law_spoilt" 423 120 2 169 170 (.ref 171) (.ref 172) 173 434),(175,kF "_law_spoilt" cY qk 342 174),(179,kC "law" 437 129 1 176 177 .none .none 178 440)]
noncomputable def kf5(P:Params):W.Frag:=[(180,kF "law" qV qk 342 179)]
noncomputable def ji(P:Params):W.Frag:=((kf0 P)++((kf1 P)++(kf2 P)))++((kf3 P)++((kf4 P)++(kf5 P)))
noncomputable def kads:List Addr:=[3,15,24,25,45,60,61,63,64,76,88,91,92,98,99,103,104,108,109,115,116,122,123,129,130,136,137,143,144,148,149,153,154,160,161,167,168,174,175,179,180]
theorem ownX:Di (ji P) cX:=⟨⟨by kernel_rfl,by kernel_rfl,by kernel_rfl⟩,by kernel_rfl,by kernel_rfl,by kernel_rfl,by kernel_rfl,by kernel_rfl⟩
theorem txt{w:World}(X:(ji w.params).In h)(G:h.Ns mainGlobals mg):Txt w (ji w.params) mg:=
 ⟨lC X G qk 116 342 115,lC X G qk 130 342 129,lC X G qk 123 342 122,lC X G qk 154 342 153,lC X G qk 161 342 160,lC X G qk 137 342 136,lC X G md1 99 299 98,lC X G md2 109 328 108,lC X G md2 104 328 103,lC X G qk 168 342 167,lC X G qk 144 342 143,lC X G qk 175 342 174,lC X G qk 149 342 148,lC X G qk 180 342 179,Sm X G (by kernel_rfl),Sm X G (by kernel_rfl),Sm X G (by kernel_rfl),Sm X G (by kernel_rfl),Sm X G (by kernel_rfl),Sm X G (by kernel_rfl),Sm X G (by kernel_rfl),Sm X G (by kernel_rfl),Sm X G (by kernel_rfl),Sm X G (by kernel_rfl),Sm X G (by kernel_rfl),Sm X G (by kernel_rfl),Sm X G (by kernel_rfl),Sm X G (by kernel_rfl),Nd (UQ X G (show W.nsIn (ji w.params) mainGlobals "DEED_WORDS" = U (U (.ref 92)) by kernel_rfl)) (show(ji w.params).lookup 92=U ⟨.type "dict",Y,.dict #[⟨PyData.keyHash w.params "read",.str "read" 301,.str "reads" 302⟩,⟨PyData.keyHash w.params "write",.str "write" 303,.str "writes" 304⟩,⟨PyData.keyHash w.params "up",.str "up" 305,.str "up" 306⟩,⟨PyData.keyHash w.params "down",.str "down" 307,.str "down" 308⟩,⟨PyData.keyHash w.params "leave",.str "leave" 309,.str "leaves" 310⟩,⟨PyData.keyHash w.params "stop",.str "stop" 311,.str "stops" 312⟩] 6,#[]⟩ by kernel_rfl) (.cons (.cons (.cons (.cons (.cons (.cons (.nil))))))) (show List.Nodup ([.inr "read",.inr "write",.inr "up",.inr "down",.inr "leave",.inr "stop"]:List aJ) by decide +kernel) (.cons (V.str "reads") ⟨_,rfl⟩ (λ_ _ _=>.str _) (.cons (V.str "writes") ⟨_,rfl⟩ (λ_ _ _=>.str _) (.cons (V.str "up") ⟨_,rfl⟩ (λ_ _ _=>.str _) (.cons (V.str "down") ⟨_,rfl⟩ (λ_ _ _=>.str _) (.cons (V.str "leaves") ⟨_,rfl⟩ (λ_ _ _=>.str _) (.cons (V.str "stops") ⟨_,rfl⟩ (λ_ _ _=>.str _) (.nil))))))),⟨_,V.int 9,UQ X G (show W.nsIn (ji w.params) mainGlobals "GREATEST_LEFT" = U (U (.int 9 190)) by kernel_rfl),⟨_,rfl⟩,λμ H=>.int _⟩,⟨_,.ref 91,UQ X G (show W.nsIn (ji w.params) mainGlobals "GUEST_WORDS" = U (U (.ref 91)) by kernel_rfl),rfl,λμ H=>.ktup (vs:=[V.str "up",V.str "down",V.str "leave",V.str "stop"]) ⟨_,_,_,(show(ji w.params).lookup 91=U ⟨.type "tuple",Y,.seq #[.str "up" 294,.str "down" 295,.str "leave" 296,.str "stop" 297] 0,#[]⟩ by kernel_rfl),rfl,rfl,rfl,(show 4<=sizeLine by decide),.cons ⟨_,rfl⟩ (.cons ⟨_,rfl⟩ (.cons ⟨_,rfl⟩ (.cons ⟨_,rfl⟩ (.nil))))⟩ (.cons (.str _) (.cons (.str _) (.cons (.str _) (.cons (.str _) (.nil)))))⟩,⟨_,.ref 15,UQ X G (show W.nsIn (ji w.params) mainGlobals "WANTS" = U (U (.ref 15)) by kernel_rfl),rfl,λμ H=>.ktup (vs:=[V.str "read",V.str "write"]) ⟨_,_,_,(show(ji w.params).lookup 15=U ⟨.type "tuple",Y,.seq #[.str "read" 187,.str "write" 188] 0,#[]⟩ by kernel_rfl),rfl,rfl,rfl,(show 2<=sizeLine by decide),.cons ⟨_,rfl⟩ (.cons ⟨_,rfl⟩ (.nil))⟩ (.cons (.str _) (.cons (.str _) (.nil)))⟩,rseK X G (q:="NoText.__init__") (g:="GuestError") (a:="self") (b:="row") (st:=DZ) md3 64 63 25 24 61 60 192 48 237 245 16 194 202 [] [.ref 45,.ref 64,.ref 76,.ref 88] rfl ⟨rfl,rfl,rfl,by decide +kernel,rfl,by decide +kernel,by decide +kernel⟩ (nJ λ_=>nJ λ_=>xW rfl) (by decide) (by decide) (by decide) (by decide) (by kernel_rfl) (by kernel_rfl),hndK X G (x:="NoText") 64 63 25 24 48 237 245 16 194 202 [.ref 25] (.ref 25::HT.gC) [.type "ValueError"] HT.gC [] [.ref 45,.ref 64,.ref 76,.ref 88] (by kernel_rfl),Ln X G cX 45 ownX (by kernel_rfl),Ln X G cX 88 ownX (by kernel_rfl),Ln X G cX 64 ownX (by kernel_rfl),Ln X G cX 76 ownX (by kernel_rfl),clsT X G (T:="ValueError") cX ownX (by decide) rfl (by kernel_rfl),⟨ownX.wy,by kernel_rfl,by kernel_rfl⟩⟩
end K50
open PySem.W
set_option maxRecDepth 100000 in
set_option maxHeartbeats 0 in
theorem PySem.Challenge.cw_manyreaders_k50_rows_refused_by_their_li_holds : PySem.Challenge.rw_manyreaders_k50_rows_refused_by_their_li.Holds := by
 rw[K50.lw_eq];w_on;o_law;o_head (kHook K50.ji K50.kads (λ_=>by kernel_rfl));(case hw=>w_witness2)
 exact K50.walk (l:=K50.lw) rfl rfl rfl (λw h Y0=>PySem.W.kIn_of Y0) K50.Fh λw mg h KX G=>K50.txt KX G

end
