import PyProof.Rows.All
import Wide.All
import OpenK.AllK
import Wide.FinOn
import Lean
import PyProof.EqAt
import PyProof.EqKinds
import PyProof.TupleCall
import PySem.Challenge.RW_manyreaders_k16_what_can_not_be_done
set_option compiler.extract_closed false
set_option bootstrap.genMatcherCode false
open Option renaming some -> U,none -> Y
local macro_rules|`(tactic|ac_rfl)=>`(tactic|exact⟨rfl,rfl,rfl,by decide +kernel,rfl,by decide +kernel,by decide +kernel⟩)
noncomputable section
set_option Elab.async false
set_option linter.all false
set_option maxRecDepth 100000
open PySem renaming Value -> gV,Shared -> td,Addr -> tx,Expr -> Nl,Program -> Of,World -> RG,Stmt -> Uo,Around -> Wr,Heap -> Ws,sizeLine -> acY,starEach -> acZ,foldedSetIterable -> ada,mainGlobals -> adb,compareOp -> adc,binaryOp -> add,wpAny -> ade
open PySem.W renaming Frag -> adf
open List renaming replicate -> adg
open Bool renaming false_ne_true -> adh
open PySem PySem.Spec PyProof.Rows
def Yx:=@Option.bind_eq_some_iff
def Yy:=@wpAny_bind
def Yz:=@List.getElem?_eq_some_iff
def YA:=@Heap.get?_push_of_some
def YB:=@List.mem_cons_of_mem
def YC:=@List.size_toArray
def YD:=@Bool.and_eq_true
def YE:=@List.length_map
def YF:=@List.mem_cons_self
def YG:=@List.getElem?_eq_getElem
def YH:=@wpAny_pure
def YI:=@Heap.lt_size
def YJ:=@List.map_cons
def YK:=@decide_eq_false
def YL:=@Nat.le_refl
def YM:=@decide_eq_true
def YN:=@Heap.get?_push_size
def YO:=@List.all_eq_true
def YQ:=@List.length_append
def YR:=@if_pos
def YS:=@Heap.get?_update_other
def YT:=@List.length_cons
def YU:=@Option.some.inj
def YV:=@Nat.lt_of_lt_of_le
def YW:=@Nat.le_trans
def YX:=@List.mem_append
def YY:=@List.mem_of_getElem?
def YZ:=@Heap.get?_update_self
def Za:=@List.getElem?_append_left
def Zb:=@List.mem_map
def Zc:=@List.replicate_succ
def Zd:=@List.mem_cons
def Ze:=@List.append_assoc
def Zf:=@List.getElem?_set_ne
def Zg:=@List.getElem?_set_self
def Zh:=@Heap.get?_update_ne
def Zi:=@Nat.ne_of_lt
def Zj:=@wpAny_mono
def Zk:=@Bool.not_true
def Zl:=@wpAny_field
def Zm:=@Bool.eq_iff_iff
def Zn:=@List.append_nil
def Zo:=@Bool.not_false
def Zp:=@wpAny_newObj_type
def Zq:=@List.map_append
def Zr:=@List.mem_singleton
def Zs:=@List.mem_append_right
def Zt:=@List.length_filter_le
def Zu:=@List.filter_eq_self
def Zv:=@wpAny_setField
def Zw:=@PyProof.Rows.callWith_type1
def Zx:=@List.mem_filter
def Zy:=@List.length_range
def Zz:=@List.mem_append_left
def ZA:=@List.map_map
def ZB:=@Bool.false_eq_true
def ZC:=@List.find?_cons
def ZD:=@List.filter_cons
def ZE:=@List.any_eq_true
def ZF:=@beq_eq_false_iff_ne
def ZG:=@List.filterMap_cons
def ZH:=@of_decide_eq_true
def ZI:=@W.mg_none_of
def ZJ:=@Nat.ne_of_gt
def ZK:=@List.flatten_cons
def ZL:=@wpAny_holding
def ZM:=@wpAny_callSpecial?_slot
def ZN:=@List.getElem?_append_right
def ZO:=@decide_eq_true_eq
def ZP:=@PySem.mem_of_lookup
def ZQ:=@Int.toNat_natCast
def ZR:=@List.eq_nil_of_length_eq_zero
def ZS:=@List.mem_of_mem_take
def ZT:=@List.all_cons
def ZU:=@List.mem_range
def ZV:=@Heap.size_push
def ZW:=@Option.some.injEq
def ZX:=@Heap.SameBut.update
def ZY:=@List.not_mem_nil
def ZZ:=@List.any_cons
def aaa:=@wpAny_seqItems
def aab:=@wpAny_truthy_bool
def aac:=@wpAny_loadPart_at
def aad:=@W.kia_one
def aae:=@PyProof.Rows.slot_tuple_getitem
def aaf:=@Option.isSome_iff_exists
def aag:=@List.length_nil
def aah:=@List.getElem?_map
def aai:=@List.forIn_cons
def aaj:=@Nat.lt_irrefl
def aak:=@wpAny_call_entry
def aal:=@List.zipIdx_cons
def aam:=@Bool.and_false
def aan:=@wpAny_Call_Name_kw
def aao:=@Obj.data_mapFields
def aap:=@List.findIdx?_cons
def aaq:=@wpAny_passesOwn
def aar:=@decide_true
def aas:=@codeAny_mono
def aat:=@Obj.isFreed_of_fields
def aau:=@List.nodup_cons
def aav:=@List.length_singleton
def aaw:=@List.nodup_append
def aax:=@F.slot_tuple_iterator_next
def aay:=@Array.getElem?_eq_some_iff
def aaz:=@W.mg_of
def aaA:=@Bool.false_and
def aaB:=@List.length_take
def aaC:=@decide_false
def aaD:=@call_meets
def aaE:=@wpAny_pyIter_tuple
def aaF:=@wpAny_execs_nil
def aaG:=@if_false
def aaH:=@List.filter_cons_of_pos
def aaI:=@List.filter_cons_of_neg
def aaJ:=@Int.emod_nonneg
def aaK:=@F.slot_zip_next
def aaL:=@Option.map_eq_some_iff
def aaM:=@List.take_append_drop
def aaN:=@List.mem_iff_getElem?
def aaO:=@List.lookup_cons
def aaP:=@Calls.evalArgs_plain
def aaQ:=@wpAny_standAt
def aaR:=@wpAny_onRaise
def aaS:=@List.map_take
def aaT:=@wpAny_isSubtype_exc
def aaU:=@List.map_congr_left
def aaV:=@List.count_cons
def aaW:=@Bool.or_eq_true
def aaX:=@Array.length_toList
def aaY:=@Calls.Name_function_global
def aaZ:=@wpAny_pyIter_list
def aba:=@List.filter_congr
def abb:=@AutoSeq1.sub_tuple_tuple
def abc:=@wpAny_attempt
def abd:=@sizeLine_eq
def abe:=@if_true
def abf:=@Nat.zero_le
def abg:=@List.getElem?_cons_succ
def abh:=@List.getElem_mem
def abi:=@wpAny_Call_method_late
def abj:=@List.take_of_length_le
def abk:=@Calls.callWith_builtin
def abl:=@wpAny_updateSeq
def abm:=@Nat.zero_add
def abn:=@List.length_set
def abo:=@List.any_map
def abp:=@F.slot_int_rmul
def abq:=@wpAny_call
def abr:=@or_false
def abt:=@Nat.le_succ
def abu:=@List.map_drop
def abv:=@List.findIdx?_eq_some_iff_getElem
def abw:=@List.contains_cons
def abx:=@Int.emod_lt_of_pos
def aby:=@F.slot_list_extend
def abz:=@F.args_tuple_add_2
def abA:=@Bool.true_and
def abB:=@Bool.and_true
def abC:=@wpAny_rule
def abD:=@typeIs_int
def abE:=@F.slot_list_count
def abF:=@F.entry_tuple_add
def abG:=@F.args_zip_next_1
def abH:=@Nat.mul_comm
def abI:=@Nat.le_of_lt
def abJ:=@Nat.le_of_eq
def abK:=@List.map_nil
def abL:=@wpAny_execs_cons
def abM:=@noFill_tuple_add
def abN:=@Option.getD_some
def abO:=@List.length_drop
def abP:=@F.slot_tuple_add
def abQ:=@F.entry_zip_next
def abR:=@AutoSeq1.idx_int
def abS:=@List.countP_eq_length_filter
def abT:=@F.args_tuple_iterator_next_1
def abU:=@boot_isinstance
def abV:=@W.kitx_list
def abW:=@PassesOwn.never
def abX:=@Nat.min_eq_left
def abY:=@List.of_mem_zip
def abZ:=@List.nil_append
def aca:=@F.entry_tuple_iterator_next
def acb:=@wpAny_binaryOp_repeat_ref
def acd:=@List.findIdx?_eq_none_iff
def ace:=@List.drop_zero
def acf:=@List.drop_eq_getElem_cons
def acg:=@wpAny_comprehension_free
def ach:=@intBits_le
def aci:=@Nat.not_lt
def acj:=@List.getElem?_take_of_lt
def ack:=@seq_tuple_add
def acl:=@Paired.length
def acm:=@List.getElem?_cons_zero
def acn:=@Calls.loadGlobal_global
def aco:=@subscriptTail_builtinR
def acp:=@Nat.le_of_succ_le_succ
def acq:=@List.range_succ_eq_map
def acr:=@wpAny_typeOf
def acs:=@seqIndex_neg
def acu:=@concat_meets
def acv:=@W.callWith_K
def acw:=@Nat.add_zero
def acx:=@Int.zero_add
def acy:=@Int.le_trans
def acz:=@Bool.or_true
def acA:=@codeAny_call_builtin
def acB:=@List.mem_of_mem_drop
def acC:=@List.mem_iff_getElem
def acD:=@List.getElem_toArray
def acE:=@Heap.get?_none_of_le
def acF:=@F.args_list_extend_2
def acG:=@wpAny_of_eq
def acH:=@wpAny_letGo
def acI:=@seqIndex_of
def acJ:=@entry_tuple_getitem
def acK:=@W.kitx_dict
def acL:=@Nat.mul_le_mul_left
def acM:=@F.entry_list_extend
def acN:=@wpAny_entryPlaceOf
def acO:=@args_tuple_getitem
def acP:=@Nat.lt_of_le_of_lt
def acQ:=@List.mem_filterMap
def acR:=@F.slot_tuple_count
def acS:=@F.slot_list_append
def acT:=@F.slot_dict_update
def acU:=@Code.quiet_builtin
def acV:=@Calls.spliced_cons
def acW:=@Calls.Constant_str
def acX:=@Array.find?_toList
namespace L2
abbrev bD:=Sum Int Str
noncomputable def yd:bD->gV->Bool
 | .inl k,v=>Value.isInt k v
 | .inr x,v=>Value.isStrOf x v
noncomputable def keyH(w:RG):bD->Int
 | .inl k=>hashInt k
 | .inr x=>hashStr w x
def db:∀ {k:bD} {v:gV},yd k v=true->(∃ i t,k=Sum.inl i/\v=Value.int i t)\/(∃ x t,k=Sum.inr x/\v=Value.str x t)
 | .inl i,v,h=>by
  obtain⟨t,e⟩:=Value.isInt_shape (k:=i) (v:=v) h
  exact .inl ⟨i,t,rfl,e⟩
 | .inr x,v,h=>by
  obtain⟨t,e⟩:=Value.isStrOf_shape (x:=x) (v:=v) h
  exact .inr ⟨x,t,rfl,e⟩
def JA(i:Int)(t:Tok):yd (.inl i) (.int i t)=true:=by simp[yd,Value.isInt]
def Jz(x:Str)(t:Tok):yd (.inr x) (.str x t)=true:=by simp[yd,Value.isStrOf]
def WC(a b:Int):decide ((Sum.inl a:bD)=Sum.inl b)=(a==b):=by
 by_cases e:a=b
 ·subst e;simp
 ·have h:¬ (Sum.inl a:bD)=Sum.inl b:=λq=>e (Sum.inl.inj q)
  rw[YK h]
  exact(ZF.mpr e).symm
def Wz(a b:Str):decide ((Sum.inr a:bD)=Sum.inr b)=decide (a=b):=by
 by_cases e:a=b
 ·subst e;simp
 ·have h:¬ (Sum.inr a:bD)=Sum.inr b:=λq=>e (Sum.inr.inj q)
  rw[YK h,YK e]
def WB(a:Int)(b:Str):decide ((Sum.inl a:bD)=Sum.inr b)=false:=YK (λq=>nomatch q)
def WA(a:Str)(b:Int):decide ((Sum.inr a:bD)=Sum.inl b)=false:=YK (λq=>nomatch q)
noncomputable def cq(prog:Of)(w:RG):PySem.KeyKind prog w bD where
 is:=yd
 hash:=keyH w
 inj:=λv a b ha hb=>by
  rcases db ha with ⟨i,t,rfl,rfl⟩ | ⟨x,t,rfl,rfl⟩
  ·rcases db hb with ⟨j,u,rfl,e⟩ | ⟨y,u,rfl,e⟩
   ·injection e with e1 _;rw[e1]
   ·exact nomatch e
  ·rcases db hb with ⟨j,u,rfl,e⟩ | ⟨y,u,rfl,e⟩
   ·exact nomatch e
   ·injection e with e1 _;rw[e1]
 byValue:=λk v h=>by
  rcases db h with ⟨i,t,rfl,rfl⟩ | ⟨x,t,rfl,rfl⟩<;>rfl
 pyHash:=λhv h=>by
  rcases db hv with ⟨i,t,rfl,rfl⟩ | ⟨x,t,rfl,rfl⟩
  ·exact wpAny_pyHash_int h
  ·exact wpAny_pyHash_str h
 eqBool:=λhu hv h=>by
  rcases db hu with ⟨i,t,rfl,rfl⟩ | ⟨x,t,rfl,rfl⟩
  ·rcases db hv with ⟨j,u,rfl,rfl⟩ | ⟨y,u,rfl,rfl⟩
   ·rw[WC] at h;exact wpAny_eqBool_int h
   ·rw[WB] at h;exact SeqAt.EqAt.int_str i t y u _ _ _ _ h
  ·rcases db hv with ⟨j,u,rfl,rfl⟩ | ⟨y,u,rfl,rfl⟩
   ·rw[WA] at h;exact SeqAt.EqAt.str_int x t j u _ _ _ _ h
   ·rw[Wz] at h;exact wpAny_eqBool_str h
 «strs»:=λk x t v h=>by
  rcases db h with ⟨i,u,rfl,e⟩ | ⟨y,u,rfl,e⟩
  ·exact nomatch e
  ·injection e with e1 _
   subst e1
   cases v<;>rfl
def BU(prog:Of)(w:RG)(i:Int)(t:Tok):(cq prog w).is (.inl i) (.int i t)=true:=JA i t
def BS(prog:Of)(w:RG)(x:Str)(t:Tok):(cq prog w).is (.inr x) (.str x t)=true:=Jz x t
inductive V where
 | non | bl (b:Bool) | int (i:Int) | str (x:Str) | byt (b:Array UInt8) | flt (b:UInt64) | ref (a:tx) | ty (n:String)
 deriving DecidableEq
def RelV:V->gV->Prop
 | .non,u=>u=Value.none
 | .bl b,u=>u=Value.bool b
 | .int i,u=>∃ t,u=Value.int i t
 | .str x,u=>∃ t,u=Value.str x t
 | .byt b,u=>∃ t,u=Value.bytes b t
 | .flt b,u=>∃ t,u=Value.float b t
 | .ref a,u=>u=Value.ref a
 | .ty n,u=>u=Value.type n
abbrev Vals:List V->List gV->Prop:=Paired RelV
theorem Vals.length{xs:List V}{us:List gV}(r:Vals xs us):xs.length=us.length:=acl r
theorem Vals.get:∀ {xs:List V} {us:List gV} {i:Nat} {x:V},Vals xs us->xs[i]?=U x->∃ u,us[i]?=U u/\RelV x u
 | _,_,_,_,.nil,e=>by simp at e
 | _,_,0,_,.cons r _,e=>by simp at e;subst e;exact⟨_,rfl,r⟩
 | _,_,i+1,x,.cons _ t,e=>by
  obtain⟨u,h1,h2⟩:=Vals.get (i:=i) (x:=x) t (by simpa using e)
  exact⟨u,by simpa using h1,h2⟩
theorem Vals.set(r:RelV x u):∀ {xs:List V} {us:List gV} (i:Nat),Vals xs us->Vals (xs.set i x) (us.set i u)
 | _,_,_,.nil=>.nil
 | _,_,0,.cons _ t=>.cons r t
 | _,_,i+1,.cons q t=>.cons q (Vals.set r i t)
theorem Vals.append:∀ {xs ys:List V} {us ws:List gV},Vals xs us->Vals ys ws->Vals (xs++ys) (us++ws)
 | _,_,_,_,.nil,s=>s
 | _,_,_,_,.cons r t,s=>.cons r (Vals.append t s)
theorem Vals.take:∀ {xs:List V} {us:List gV} (n:Nat),Vals xs us->Vals (xs.take n) (us.take n)
 | _,_,0,_=>.nil
 | _,_,_+1,.nil=>.nil
 | _,_,n+1,.cons r t=>.cons r (Vals.take n t)
theorem Vals.drop:∀ {xs:List V} {us:List gV} (n:Nat),Vals xs us->Vals (xs.drop n) (us.drop n)
 | _,_,0,r=>r
 | _,_,_+1,.nil=>.nil
 | _,_,n+1,.cons _ t=>Vals.drop n t
noncomputable def RelO:Option V->Option gV->Prop
 | some v,U u=>RelV v u
 | none,Y=>True
 | _,_=>False
def KV{κ:Type}:List (κ×V)->List (κ×gV)->Prop:=Paired λ(p:κ×V) (q:κ×gV)=>p.1=q.1/\RelV p.2 q.2
noncomputable def kV:bD->V
 | .inl i=>.int i
 | .inr x=>.str x
inductive HO where
 | lst (xs:List V)
 | tup (xs:List V)
 | dK (kvs:List (bD×V)) | dT (kvs:List (List bD×V))
 | set (S:Int->Bool) (n:Nat)
 | ins (C dx:tx) (fs:List (Str×V))
 | own (x:tx)
 | xd (fs:List (Str×V))
 | met (f x:tx)
 | rng (lo hi:Int)
 | frz (o:Obj) (u:HO)
 | tbl (ps:Array gV)
 | ext (φ:Ws->Prop)
abbrev Hp:=tx->Option HO
noncomputable def upd(H:Hp)(a:tx)(o:HO):Hp:=λb=>if b=a then U o else H b
def bf:upd H a o a=U o:=by unfold upd;rw[YR rfl]
def aR{a b:tx}(h:b≠a):upd H a o b=H b:=by unfold upd;rw[if_neg h]
def cD{H:Hp}{o:HO}(h:H a=U o)(h':H b=Y):a≠b:=by
 intro e;subst e;rw[h] at h';cases h'
def IsTupN(h:Ws)(a:tx)(items:Array gV):Prop:=∃ o,h.get? a=U o/\o.cls=.type "tuple"/\(∃ n,o.data=.seq items n)/\o.dict=Y
def IsTupN.up(x:IsTupN h a items):IsTup h a items:=by
 obtain⟨o,e,c,d,_⟩:=x
 exact⟨o,e,c,d⟩
theorem IsTupN.lt(x:IsTupN h a items):a<h.objs.size:=x.up.lt
def IsTupN.new(h:Ws)(items:Array gV):IsTupN (h.push { cls:=.type "tuple",data:=.seq items }) h.objs.size items:=⟨_,YN _ rfl,rfl,⟨_,rfl⟩,rfl⟩
section
variable(P:Of)(w:RG)
def ObjOk(H:Hp)(h:Ws)(a:tx):HO->Prop
 | .lst xs=>xs.length<=acY/\∃ (its:List gV) (n:Nat),Vals xs its/\h.get? a=U { cls:=.type "list",data:=.seq its.toArray n }
 | .tup xs=>xs.length<=acY/\∃ its:List gV,Vals xs its/\IsTupN h a its.toArray
 | .dK kvs=>kvs.length<=acY/\(a==sysModules)=false/\∃ vs,KV kvs vs/\h.DictOf (cq P w) a vs
 | .dT kvs=>kvs.length<=acY/\(a==sysModules)=false/\∃ xs:List (List bD×tx×gV),
   Paired (λ(p:List bD×V) (q:List bD×tx×gV)=>p.1=q.1/\H q.2.1=U (.tup (p.1.map kV))/\RelV p.2 q.2.2) kvs xs /\
   ∃ o es ep,h.get? a=U o/\o.ExactDict/\o.data=.dict es ep/\es.toList=xs.map (entryOfKey (tupleKind (cq P w)))/\(xs.map (·.1)).Nodup
 | .set S n=>h.SetOf (intKind P w) a S n
 | .ins C dx fs=>H dx=U (.own a)/\fs.length<=1000/\dx≠a/\h.get? a=U (W.instObj C dx) /\
   ∃ mA,h.Ns1 dx mA/\(∀ f,RelO (fs.lookup f) (mA f))/\PySem.Within mA (fs.map (·.1))
 | .own _=>∃ o,h.get? a=U o
 | .xd fs=>∃ mA,h.Ns1 a mA/\∀ f,RelO (fs.lookup f) (mA f)
 | .rng lo hi=>∃ t u v,h.get? a=U { cls:=.type "range",data:=.fields #[.int lo t,.int hi u,.int 1 v] }
 | .frz o u=>h.get? a=U o/\ObjOk H h a u
 | .tbl ps=>h.get? a=U { cls:=.none,data:=.fields ps }
 | .met f x=>h.get? a=U (W.methodObj (.ref f) (.ref x))
 | .ext φ=>φ h/\(∃ o,h.get? a=U o)/\∀ h1 h2:Ws,φ h1->(∀ o,h1.get? a=U o->h2.get? a=U o)->φ h2
def HOk(H:Hp)(h:Ws):Prop:=∀ a o,H a=U o->ObjOk P w H h a o
end
section
variable{P:Of}{w:RG}{H H':Hp}{h h':Ws}{a:tx}{o:HO}
theorem ObjOk.lt(x:ObjOk P w H h a o):a<h.objs.size:=by
 cases o with
 | lst xs=>obtain⟨_,_,_,_,e⟩:=x;exact YI e
 | tup xs=>obtain⟨_,_,_,p⟩:=x;exact p.lt
 | dK kvs=>obtain⟨_,_,_,_,o,_,_,e,_⟩:=x;exact YI e
 | dT kvs=>obtain⟨_,_,_,_,o,_,_,e,_⟩:=x;exact YI e
 | set S n=>obtain⟨o,_,_,_,e,_⟩:=x;exact YI e
 | ins C dx fs=>obtain⟨_,_,_,e,_⟩:=x;exact YI e
 | own y=>obtain⟨_,e⟩:=x;exact YI e
 | xd fs=>obtain⟨_,⟨_,_,_,e,_⟩,_⟩:=x;exact YI e
 | rng lo hi=>obtain⟨_,_,_,e⟩:=x;exact YI e
 | frz ob u=>obtain⟨e,_⟩:=x;exact YI e
 | tbl ps=>exact YI (show h.get? a=U _ from x)
 | met f y=>exact YI (show h.get? a=U _ from x)
 | ext φ=>obtain⟨_,⟨_,e⟩,_⟩:=x;exact YI e
theorem Paired.mapP{α β:Type}{F G:α->β->Prop}:∀ {l₁:List α} {l₂:List β},Paired F l₁ l₂->(∀ a b,F a b->G a b)->Paired G l₁ l₂
 | _,_,.nil,_=>.nil
 | _,_,.cons r t,f=>.cons (f _ _ r) (Paired.mapP t f)
def ObjOk.stay(x:ObjOk P w H h a o)(k:∀ b u,(b=a\/H b=U (.own a))->h.get? b=U u->h'.get? b=U u)
  (ho:∀ b,H b=U (.own a)->H' b=U (.own a)) (ht:∀ b xs,H b=U (.tup xs)->H' b=U (.tup xs)):ObjOk P w H' h' a o:=by
 induction o with
 | lst xs=>obtain⟨z,its,n,r,e⟩:=x;exact⟨z,its,n,r,k _ _ (.inl rfl) e⟩
 | tup xs=>obtain⟨z,its,r,ob,e,c⟩:=x;exact⟨z,its,r,ob,k _ _ (.inl rfl) e,c⟩
 | dK kvs=>obtain⟨z,y,vs,r,ob,es,ep,e,c⟩:=x;exact⟨z,y,vs,r,ob,es,ep,k _ _ (.inl rfl) e,c⟩
 | dT kvs=>
  obtain⟨z,y,xs,r,ob,es,ep,e,c⟩:=x
  exact⟨z,y,xs,Paired.mapP r λp q z=>⟨z.1,ht _ _ z.2.1,z.2.2⟩,ob,es,ep,k _ _ (.inl rfl) e,c⟩
 | set S n=>obtain⟨ob,es,ep,t,e,c⟩:=x;exact⟨ob,es,ep,t,k _ _ (.inl rfl) e,c⟩
 | ins C dx fs=>
  obtain⟨d,z,ne,e,mA,⟨od,es,ep,e2,c⟩,r⟩:=x
  exact⟨ho _ d,z,ne,k _ _ (.inl rfl) e,mA,⟨od,es,ep,k _ _ (.inr d) e2,c⟩,r⟩
 | own y=>obtain⟨ob,e⟩:=x;exact⟨ob,k _ _ (.inl rfl) e⟩
 | xd fs=>obtain⟨mA,⟨od,es,ep,e,c⟩,r⟩:=x;exact⟨mA,⟨od,es,ep,k _ _ (.inl rfl) e,c⟩,r⟩
 | rng lo hi=>obtain⟨t,u,v,e⟩:=x;exact⟨t,u,v,k _ _ (.inl rfl) e⟩
 | frz ob u ih=>obtain⟨e,q⟩:=x;exact⟨k _ _ (.inl rfl) e,ih q⟩
 | tbl ps=>
  have e:h.get? a=U { cls:=.none,data:=.fields ps }:=x
  show h'.get? a=U { cls:=.none,data:=.fields ps }
  exact k a _ (.inl rfl) e
 | met f y=>
  have e:h.get? a=U (W.methodObj (.ref f) (.ref y)):=x
  show h'.get? a=U (W.methodObj (.ref f) (.ref y))
  exact k a _ (.inl rfl) e
 | ext φ=>obtain⟨p,⟨o,e⟩,st⟩:=x;exact⟨st _ _ p λo q=>k _ _ (.inl rfl) q,⟨o,k _ _ (.inl rfl) e⟩,st⟩
theorem HOk.lt(x:HOk P w H h)(e:H a=U o):a<h.objs.size:=(x a o e).lt
def HOk.fresh(x:HOk P w H h)(e:h.objs.size<=a):H a=Y:=by
 cases q:H a with
 | none=>rfl
 | some u=>exact absurd (YV (x.lt q) e) (aaj _)
def HOk.kept(x:HOk P w H h)(k:∀ b u,h.get? b=U u->h'.get? b=U u):HOk P w H h':=λa o e=>
 (x a o e).stay (λb u _ q=>k b u q) (λ_ q=>q) λ_ _ q=>q
def HOk.laid(x:HOk P w H h)(k:∀ b u,h.get? b=U u->h'.get? b=U u)(hp:h.objs.size<=a)(new:ObjOk P w (upd H a o) h' a o):HOk P w (upd H a o) h':=λb u e=>by
 have hn:=x.fresh hp
 by_cases hb:b=a
 ·subst hb;rw[bf] at e;cases e;exact new
 ·rw[aR hb] at e
  exact(x b u e).stay (λc v _ q=>k c v q) (λc q=>by rw[aR (cD q hn)];exact q) λc xs q=>by rw[aR (cD q hn)];exact q
end
def Rd(H:Hp)(a:tx)(u:HO):Prop:=H a=U u\/∃ o,H a=U (.frz o u)
def Rd.ok(r:Rd H a u)(x:HOk P w H h):ObjOk P w H h a u:=by
 rcases r with r | ⟨o,r⟩
 ·exact x a u r
 ·obtain⟨_,q⟩:=x a _ r
  exact q
def Mut:Option HO->Prop
 | some (.lst _)=>True
 | some (.dK _)=>True
 | some (.dT _)=>True
 | some (.set _ _)=>True
 | some (.ins _ _ _)=>True
 | some (.ext _)=>True
 | _=>False
section
variable{P:Of}{w:RG}{H:Hp}{h h':Ws}{x e:tx}{o':HO}
def HOk.write(ok:HOk P w H h)(mu:Mut (H x))(he:e=x\/H e=U (.own x))(k:∀ b u,b≠e->h.get? b=U u->h'.get? b=U u)(heo:∃ u,h'.get? e=U u)
  (new:ObjOk P w (upd H x o') h' x o'):HOk P w (upd H x o') h':=λb u q=>by
 have nown:∀ c y,H c=U (.own y)->c≠x:=λc y r z=>by subst z;rw[r] at mu;exact mu
 have ntup:∀ c xs,H c=U (.tup xs)->c≠x:=λc xs r z=>by subst z;rw[r] at mu;exact mu
 by_cases hb:b=x
 ·subst hb;rw[bf] at q;cases q;exact new
 ·rw[aR hb] at q
  by_cases hbe:b=e
  ·have q':H b=U (.own x):=by
    rcases he with z | z
    ·exact absurd (hbe.trans z) hb
    ·rw[hbe];exact z
   rw[q] at q';cases q'
   obtain⟨v,hv⟩:=heo
   exact⟨v,by rw[hbe];exact hv⟩
  ·refine(ok b u q).stay (λc v hc r=>k c v ?_ r) (λc r=>by rw[aR (nown c b r)];exact r) λc xs r=>by rw[aR (ntup c xs r)];exact r
   rcases hc with rfl | hc
   ·exact hbe
   ·rintro rfl
    rcases he with z | z
    ·exact nown c b hc z
    ·rw[hc] at z;cases z;exact hb rfl
end
structure Un(fs ex:List tx)(H H':Hp)(h h':Ws):Prop where
 keep:∀ b o,h.get? b=U o->H b=Y->b∉fs->b∉ex->h'.get? b=U o
 slot:∀ b o,h.get? b=U o->H b=Y->b∈fs->b∉ex->∃ sl,h'.get? b=U { o with slots:=sl }
 free:∀ b o,h.get? b=U o->H b=Y->b∉ex->H' b=Y
 there:∀ b o,h.get? b=U o->b∉ex->∃ o',h'.get? b=U o'
 tups:∀ b xs,H b=U (.tup xs)->H' b=U (.tup xs)
 frzs:∀ b o u,H b=U (.frz o u)->H' b=U (.frz o u)
 tbls:∀ b ps,H b=U (.tbl ps)->∃ more,H' b=U (.tbl (ps++more))
section
variable{fs fs' ex ex':List tx}{H H1 H2:Hp}{h h1 h2 h':Ws}{a x e:tx}{o:HO}
def Un.any(u:Un fs ex H H1 h h1){ob:Obj}(q:h.get? b=U ob)(n:H b=Y)(hx:b∉ex):∃ sl,h1.get? b=U { ob with slots:=sl }:=by
 by_cases hb:b∈fs
 ·exact u.slot b ob q n hb hx
 ·exact⟨ob.slots,u.keep b ob q n hb hx⟩
def Un.kept(k:∀ b u,h.get? b=U u->h'.get? b=U u):Un fs ex H H h h':=
 ⟨λb ob q _ _ _=>k b ob q,λb ob q _ _ _=>⟨ob.slots,k b ob q⟩,λ_ _ _ n _=>n,λb ob q _=>⟨ob,k b ob q⟩,λ_ _ q=>q,λ_ _ _ q=>q,λ_ ps q=>⟨#[],by rw[q];simp⟩⟩
def Un.refl:Un fs ex H H h h:=Un.kept λ_ _ q=>q
def Un.laid(k:∀ b u,h.get? b=U u->h'.get? b=U u)(hp:h.objs.size<=a)(hn:H a=Y):Un fs ex H (upd H a o) h h' where
 keep:=λb u q _ _ _=>k b u q
 slot:=λb u q _ _ _=>⟨u.slots,k b u q⟩
 free:=λb u q n _=>by rw[aR (Zi (YV (YI q) hp))];exact n
 there:=λb u q _=>⟨u,k b u q⟩
 tups:=λb xs q=>by rw[aR (cD q hn)];exact q
 frzs:=λb u xs q=>by rw[aR (cD q hn)];exact q
 tbls:=λb ps q=>⟨#[],by rw[aR (cD q hn),q];simp⟩
def Un.write(mu:Mut (H x))(he:e=x\/H e=U (.own x))(k:∀ b u,b≠e->h.get? b=U u->h'.get? b=U u)(heo:∃ u,h'.get? e=U u):Un fs ex H (upd H x o) h h':=by
 have hx:∀ b,H b=Y->b≠x:=λb n z=>by subst z;rw[n] at mu;exact mu
 have hb:∀ b,H b=Y->b≠e:=λb n z=>by
  subst z
  rcases he with r | r
  ·exact hx b n r
  ·rw[n] at r;cases r
 have hm:∀ b u,H b=U u->¬ Mut (U u)->b≠x:=λb u q nm z=>by subst z;rw[q] at mu;exact nm mu
 refine⟨λb u q n _ _=>k b u (hb b n) q,λb u q n _ _=>⟨u.slots,k b u (hb b n) q⟩,λb u q n _=>by rw[aR (hx b n)];exact n,λb u q _=>?_,
  λb xs q=>by rw[aR (hm b _ q λz=>z)];exact q,λb u xs q=>by rw[aR (hm b _ q λz=>z)];exact q,λb ps q=>⟨#[],by rw[aR (hm b _ q λz=>z),q];simp⟩⟩
 by_cases hbe:b=e
 ·subst hbe;exact heo
 ·exact⟨u,k b u hbe q⟩
end
noncomputable def trk(h:Ws)(H:Hp):List tx:=(List.range h.objs.size).filter λa=>(H a).isSome
noncomputable def Ap(h:Ws)(H:Hp):Ws:=W.hideAll h (trk h H)
def JN(h:Ws)(H:Hp):(Ap h H).objs.size=h.objs.size:=W.hideAll_size _ _
def NT{h:Ws}{H:Hp}{o:Obj}(e:h.get? b=U o)(n:H b=Y):(Ap h H).get? b=U o:=
 W.hideAll_get _ e λhm=>by
  have q:(H b).isSome=true:=(Zx.mp hm).2
  rw[n] at q;simp at q
def RE{o:Obj}(e:(Ap h H).get? b=U o):h.get? b=U o/\H b=Y:=by
 have e':h.get? b=U o:=W.of_hideAll (trk h H) e
 refine⟨e',?_⟩
 cases q:H b with
 | none=>rfl
 | some x=>
  have hm:b∈trk h H:=Zx.mpr ⟨ZU.mpr (YI e'),by simp[q]⟩
  have z:(Ap h H).get? b=Y:=W.hideAll_none (trk h H) hm
  rw[z] at e;cases e
structure Mod(K:adf)(mg:Str->Option gV)(base:Ws):Prop where
 kin:K.In base
 glob:base.Ns adb mg
 blt:∃ mb,base.Ns builtinsNs mb/\∀ x:Str,x≠"__name__"->mb x=bootBuiltins x
 nolimit:base.NoLimit
structure Cx where
 prog:Of
 w:RG
 K:adf
 mg:Str->Option gV
 base:Ws
 A:Wr
 N:List Str
 s₀:td
 H₀:Hp
 env:Env
 outer:List Env
 stack:List Env
 ex:List tx
 fn:Str->Bool
 calm:Bool
 pn:List (tx×Obj)
 xe:gV->td->Prop
noncomputable def yt(l:List Env):List tx:=l.filterMap (·.frame)
noncomputable abbrev Cx.fs(X:Cx):List tx:=yt X.outer
def Ua(sc:Scope)(x:Str):Prop:=sc.names.lookup x=U .local\/sc.names.lookup x=U .cell\/sc.names.lookup x=U .free
def Qm(sc:Scope)(x:Str):Prop:=sc.names.lookup x=U .local\/sc.names.lookup x=U .cell
def Look(env:Env)(h:Ws)(m:Str->Option gV)(x:Str)(u:gV):Prop:=
 (env.kindOf x=U .local/\m x=U u)\/((env.kindOf x=U .cell\/env.kindOf x=U .free)/\∃ c,env.cells.lookup x=U c/\h.IsCell c (U u))
structure Cx.Ok(X:Cx):Prop where
 mod:Mod X.K X.mg X.base
 kind:X.env.scope.kind=.function
 glob:X.env.globals=adb
 blt:X.env.builtins=builtinsNs
 above:X.s₀.heap.objs.size<=X.env.locals
 inj:∀ x y c,X.env.cells.lookup x=U c->X.env.cells.lookup y=U c->x=y
 has:∀ x,(X.env.kindOf x=U .cell\/X.env.kindOf x=U .free)->∃ c,X.env.cells.lookup x=U c
 cab:∀ x c,X.fn x=true->X.env.cells.lookup x=U c->X.s₀.heap.objs.size<=c
 hd:X.calm=true->X.A.handled=Y
 frames:X.A.frames=U X.stack
 stk:X.stack=X.outer\/(X.stack=X.env::X.outer/\X.env.frame=U X.env.locals)
 exf:∀ b∈X.ex,b≠X.env.locals/\∀ x c,X.env.cells.lookup x=U c->c≠b
 bs:∀ b o,X.base.get? b=U o->X.s₀.heap.get? b=U o/\X.H₀ b=Y
 bsz:X.base.objs.size<=X.s₀.heap.objs.size
 noex:∀ b o,X.base.get? b=U o->b∉X.ex
 exfs:∀ b∈X.ex,b∉X.fs
 funs:X.s₀.heap.FunFrames X.base X.outer
 frf:∀ b∈X.fs,X.H₀ b=Y
structure Inv(X:Cx)(pins:List (tx×Obj))(σ:List (Option V))(H:Hp)(s:td):Prop where
 ok:X.Ok
 os:s.os=X.s₀.os
 bare:AllBare s.gens
 base:Un X.fs X.ex X.H₀ H X.s₀.heap s.heap
 loc:∃ m,s.heap.Ns X.env.locals m/\∀ (i:Nat) (x:Str) (v:V),X.N[i]?=U x->σ[i]?=U (U v)->Ua X.env.scope x->∃ u,RelV v u/\Look X.env s.heap m x u
 cell:∀ x c,X.env.cells.lookup x=U c->∃ v,s.heap.IsCell c v
 free:H X.env.locals=Y
 freeC:∀ x c,X.env.cells.lookup x=U c->H c=Y
 pin:∀ p∈X.pn++pins,s.heap.get? p.1=U p.2/\H p.1=Y/\p.1≠X.env.locals/\p.1∉X.fs/\∀ v,p.2.data≠.cell v
 hok:HOk X.prog X.w H s.heap
 len:σ.length=X.N.length
section
variable{X:Cx}{pins:List (tx×Obj)}{σ:List (Option V)}{H H':Hp}{s:td}{h':Ws}
def Cx.Ok.nofr(ok:X.Ok){o:Obj}(e:X.base.get? b=U o):b∉X.fs:=λhb=>by
 have:=(ok.funs.mem hb).1
 rw[e] at this;cases this
theorem Inv.bs(I:Inv X pins σ H s):∀ b o,X.base.get? b=U o->s.heap.get? b=U o/\H b=Y:=λb o e=>
 ⟨I.base.keep b o (I.ok.bs b o e).1 (I.ok.bs b o e).2 (I.ok.nofr e) (I.ok.noex b o e),I.base.free b o (I.ok.bs b o e).1 (I.ok.bs b o e).2 (I.ok.noex b o e)⟩
def Inv.bk(I:Inv X pins σ H s):∀ b o,X.base.get? b=U o->s.heap.get? b=U o:=λb o e=>(I.bs b o e).1
theorem Inv.mod(I:Inv X pins σ H s):Mod X.K X.mg X.base:=I.ok.mod
def Inv.kIn(I:Inv X pins σ H s):X.K.In s.heap:=I.ok.mod.kin.keeps I.bk
theorem Inv.lt(I:Inv X pins σ H s):X.env.locals<s.heap.objs.size:=let ⟨_,hn,_⟩:=I.loc;hn.lt
def Inv.sz(I:Inv X pins σ H s):X.s₀.heap.objs.size<=s.heap.objs.size:=YW I.ok.above (abI I.lt)
def Inv.nofs(I:Inv X pins σ H s){a:tx}(h:s.heap.objs.size<=a):a∉X.fs:=λhb=>by
 obtain⟨_,o,ho,_⟩:=I.ok.funs.mem hb
 exact absurd (YV (YI ho) (YW I.sz h)) (aaj _)
def Inv.cne(I:Inv X pins σ H s):∀ x c,X.env.cells.lookup x=U c->c≠X.env.locals:=λx c e z=>by
 obtain⟨v,o,ho,hd⟩:=I.cell x c e
 obtain⟨m,⟨o',es,ep,ho',hd',_⟩,_⟩:=I.loc
 rw[z,ho'] at ho;cases ho;rw[hd'] at hd;cases hd
theorem Inv.funs(I:Inv X pins σ H s):s.heap.FunFrames X.base X.outer:=by
 have all:∀ (l:List Env),(∀ b∈yt l,b∈X.fs)->X.s₀.heap.FunFrames X.base l->s.heap.FunFrames X.base l:=by
  intro l
  induction l with
  | nil=>intro _ _;trivial
  | cons env r ih=>
   intro hs hl
   obtain⟨hk,⟨L,o,hf,hn,ho,hd⟩,hr⟩:=hl
   have hL:L∈X.fs:=hs L (by unfold yt;rw[ZG,hf];exact YF)
   obtain⟨sl,e⟩:=I.base.slot L o ho (I.ok.frf L hL) hL λz=>I.ok.exfs L z hL
   exact⟨hk,⟨L,_,hf,hn,e,hd⟩,ih (λb hb=>hs b (by unfold yt;rw[ZG,hf];exact YB _ hb)) hr⟩
 exact all X.outer (λ_ hb=>hb) I.ok.funs
theorem Inv.stack(I:Inv X pins σ H s):s.heap.FunFrames X.base X.stack:=by
 rcases I.ok.stk with e | ⟨e,hf⟩
 ·rw[e];exact I.funs
 ·rw[e]
  obtain⟨m,hn,_⟩:=I.loc
  refine .cons (by rw[I.ok.kind];decide) hf hn ?_ I.funs
  exact acE (YW I.ok.bsz I.ok.above)
def Inv.stkSub(I:Inv X pins σ H s):∀ b∈yt X.stack,b∈X.env.locals::X.fs:=λb hb=>by
 rcases I.ok.stk with e | ⟨e,hf⟩
 ·rw[e] at hb;exact YB _ hb
 ·rw[e] at hb
  unfold yt at hb
  rw[ZG,hf] at hb
  exact hb
def Inv.stkFree(I:Inv X pins σ H s):∀ b∈yt X.stack,H b=Y:=λb hb=>by
 rcases Zd.mp (I.stkSub b hb) with e | hb
 ·rw[e];exact I.free
 ·obtain⟨_,o,ho,_⟩:=I.ok.funs.mem hb
  exact I.base.free b o ho (I.ok.frf b hb) λz=>I.ok.exfs b z hb
def Inv.step{t':Nat}{d':Drawn}{ch:List tx}(I:Inv X pins σ H s)
  (hch:∀ b∈ch,(b∈X.ex\/X.s₀.heap.objs.size<=b)/\b≠X.env.locals/\(∀ x c,X.env.cells.lookup x=U c->c≠b)/\∀ p∈X.pn++pins,p.1≠b)
  (keep:∀ b o,b≠X.env.locals->b∉X.fs->b∉ch->s.heap.get? b=U o->H b=Y->h'.get? b=U o)
  (slot:∀ b o,b≠X.env.locals->b∈X.fs->b∉ch->s.heap.get? b=U o->H b=Y->∃ sl,h'.get? b=U { o with slots:=sl }) (free:∀ b o,b∉ch->s.heap.get? b=U o->H b=Y->H' b=Y)
  (there:∀ b o,b∉ch->s.heap.get? b=U o->∃ o',h'.get? b=U o')
  (tups:∀ b xs,H b=U (.tup xs)->H' b=U (.tup xs)) (frzs:∀ b o u,H b=U (.frz o u)->H' b=U (.frz o u)) (tbls:∀ b ps,H b=U (.tbl ps)->∃ more,H' b=U (.tbl (ps++more)))
  (ns:∀ m,s.heap.Ns X.env.locals m->h'.Ns X.env.locals m) (hok:HOk X.prog X.w H' h') (hg:AllBare g') :
  Inv X pins σ H' { s with heap:=h',gens:=g',drawn:=d',toks:=t' }:=by
 have neL:∀ b o,X.s₀.heap.get? b=U o->b≠X.env.locals:=λb o e=>Zi (YV (YI e) I.ok.above)
 have neC:∀ b o,X.s₀.heap.get? b=U o->b∉X.ex->b∉ch:=λb o e hx hb=>by
  rcases(hch b hb).1 with z | z
  ·exact hx z
  ·exact absurd (YV (YI e) z) (aaj _)
 have cellK:∀ x c,X.env.cells.lookup x=U c->∀ v,s.heap.IsCell c v->h'.IsCell c v:=λx c e v ⟨o,ho,hd⟩=>by
  have nch:c∉ch:=λz=>(hch c z).2.2.1 x c e rfl
  by_cases hc:c∈X.fs
  ·obtain⟨sl,q⟩:=slot c o (I.cne x c e) hc nch ho (I.freeC x c e)
   exact⟨_,q,hd⟩
  ·exact⟨o,keep c o (I.cne x c e) hc nch ho (I.freeC x c e),hd⟩
 refine⟨I.ok,I.os,hg,⟨λb o e n hb hx=>?_,λb o e n hb hx=>?_,λb o e n hx=>?_,λb o e hx=>?_,λb xs e=>tups b xs (I.base.tups b xs e),λb o xs e=>frzs b o xs (I.base.frzs b o xs e),λb ps e=>?_⟩,?_,λx c e=>?_,?_,λx c e=>?_,λp hp=>?_,hok,I.len⟩
 ·exact keep b o (neL b o e) hb (neC b o e hx) (I.base.keep b o e n hb hx) (I.base.free b o e n hx)
 ·obtain⟨sl,e1⟩:=I.base.slot b o e n hb hx
  obtain⟨sl',e2⟩:=slot b _ (neL b o e) hb (neC b o e hx) e1 (I.base.free b o e n hx)
  exact⟨sl',e2⟩
 ·obtain⟨o',e1⟩:=I.base.there b o e hx
  exact free b o' (neC b o e hx) e1 (I.base.free b o e n hx)
 ·obtain⟨o',e1⟩:=I.base.there b o e hx
  exact there b o' (neC b o e hx) e1
 ·obtain⟨m1,e1⟩:=I.base.tbls b ps e
  obtain⟨m2,e2⟩:=tbls b _ e1
  exact⟨m1++m2,by rw[e2,Array.append_assoc]⟩
 ·obtain⟨m,hn,hl⟩:=I.loc
  refine⟨m,ns m hn,λi x v e1 e2 e3=>?_⟩
  obtain⟨u,r,l⟩:=hl i x v e1 e2 e3
  refine⟨u,r,?_⟩
  rcases l with l | ⟨k,c,e,z⟩
  ·exact .inl l
  ·exact .inr ⟨k,c,e,cellK x c e _ z⟩
 ·obtain⟨v,z⟩:=I.cell x c e
  exact⟨v,cellK x c e v z⟩
 ·obtain⟨m,⟨o,_,_,ho,_⟩,_⟩:=I.loc
  exact free _ o (λz=>(hch _ z).2.1 rfl) ho I.free
 ·obtain⟨v,o,ho,hd⟩:=I.cell x c e
  exact free c o (λz=>(hch c z).2.2.1 x c e rfl) ho (I.freeC x c e)
 ·obtain⟨e,n,ne,nf,d⟩:=I.pin p hp
  have nch:p.1∉ch:=λz=>(hch p.1 z).2.2.2 p hp rfl
  exact⟨keep p.1 p.2 ne nf nch e n,free p.1 p.2 nch e n,ne,nf,d⟩
def Inv.un{t':Nat}(I:Inv X pins σ H s)(u:Un X.fs [] H H' s.heap h')(hok:HOk X.prog X.w H' h'):Inv X pins σ H' { s with heap:=h',toks:=t' }:=by
 obtain⟨m,⟨o,es,ep,ho,r⟩,_⟩:=id I.loc
 obtain⟨sl,hL⟩:=u.any ho I.free (by simp)
 exact I.step (g':=s.gens) (d':=s.drawn) (ch:=[]) (λ_ z=>nomatch z) (λb o _ hb _ e n=>u.keep b o e n hb (by simp)) (λb o _ hb _ e n=>u.slot b o e n hb (by simp)) (λb o _ e n=>u.free b o e n (by simp)) (λb o _ e=>u.there b o e (by simp)) u.tups u.frzs u.tbls (λm' hm=>by
  obtain⟨o',es',ep',ho',r'⟩:=hm
  rw[ho] at ho';cases ho'
  exact⟨_,es',ep',hL,r'⟩) hok I.bare
def Inv.call{t':Nat}{d':Drawn}(I:Inv X pins σ H s)(u:Un (yt X.stack) ch H H' s.heap h')(hok:HOk X.prog X.w H' h')(hg:AllBare g')
  (hch:∀ b∈ch,(b∈X.ex\/X.s₀.heap.objs.size<=b)/\b≠X.env.locals/\(∀ x c,X.env.cells.lookup x=U c->c≠b)/\∀ p∈X.pn++pins,p.1≠b) :
  Inv X pins σ H' { s with heap:=h',gens:=g',drawn:=d',toks:=t' }:=by
 obtain⟨m,⟨o,es,ep,ho,r⟩,_⟩:=id I.loc
 obtain⟨sl,hL⟩:=u.any ho I.free λz=>(hch _ z).2.1 rfl
 exact I.step (ch:=ch) hch (λb o hL hb hc e n=>u.keep b o e n (λz=>(Zd.mp (I.stkSub b z)).elim hL hb) hc) (λb o _ _ hc e n=>u.any e n hc) (λb o hc e n=>u.free b o e n hc) (λb o hc e=>u.there b o e hc) u.tups u.frzs u.tbls (λm' hm=>by
  obtain⟨o',es',ep',ho',r'⟩:=hm
  rw[ho] at ho';cases ho'
  exact⟨_,es',ep',hL,r'⟩) hok hg
def Inv.turned{t':Nat}{it:tx}(I:Inv X pins σ H s)(k:∀ b o,b≠it->s.heap.get? b=U o->h'.get? b=U o)(hn:H it=Y)(hL:it≠X.env.locals)
  (h1:it∈X.ex\/X.s₀.heap.objs.size<=it) (h2:∀ x c,X.env.cells.lookup x=U c->c≠it) (h3:∀ p∈X.pn++pins,p.1≠it):Inv X pins σ H { s with heap:=h',toks:=t' }:=by
 have nit:∀ b u,H b=U u->b≠it:=λb u e z=>by rw[z,hn] at e;cases e
 refine I.step (g':=s.gens) (d':=s.drawn) (ch:=[it]) (λb hb=>?_) (λb o _ _ hc e _=>k b o (λz=>hc (by simp[z])) e) (λb o _ _ hc e _=>⟨o.slots,k b o (λz=>hc (by simp[z])) e⟩) (λ_ _ _ _ n=>n)
  (λb o hc e=>⟨o,k b o (λz=>hc (by simp[z])) e⟩) (λ_ _ e=>e) (λ_ _ _ e=>e) (λb ps e=>⟨#[],by rw[e];simp⟩) (λm hm=>?_) (λb u e=>?_) I.bare
 ·have e:b=it:=by simpa using hb
  subst e
  exact⟨h1,hL,h2,h3⟩
 ·obtain⟨o,es,ep,ho,r⟩:=hm
  exact⟨o,es,ep,k _ o (Ne.symm hL) ho,r⟩
 ·refine(I.hok b u e).stay (λc v hc q=>k c v ?_ q) (λ_ q=>q) λ_ _ q=>q
  rcases hc with z | z
  ·rw[z];exact nit b u e
  ·exact nit c _ z
def Inv.tok(I:Inv X pins σ H s)(t:Nat):Inv X pins σ H { s with toks:=t }:=I.un (h':=s.heap) (t':=t) Un.refl I.hok
theorem Inv.kept{t':Nat}(I:Inv X pins σ H s)(k:∀ b u,s.heap.get? b=U u->h'.get? b=U u):Inv X pins σ H { s with heap:=h',toks:=t' }:=I.un (Un.kept k) (I.hok.kept k)
theorem Inv.laid{a:tx}{t':Nat}(I:Inv X pins σ H s)(k:∀ b u,s.heap.get? b=U u->h'.get? b=U u)(hp:s.heap.objs.size<=a)(new:ObjOk X.prog X.w (upd H a o) h' a o) :
  Inv X pins σ (upd H a o) { s with heap:=h',toks:=t' }:=I.un (Un.laid k hp (I.hok.fresh hp)) (I.hok.laid k hp new)
theorem Inv.write{e:tx}{t':Nat}(I:Inv X pins σ H s)(mu:Mut (H x))(he:e=x\/H e=U (.own x))(k:∀ b u,b≠e->s.heap.get? b=U u->h'.get? b=U u)(heo:∃ u,h'.get? e=U u)
  (new:ObjOk X.prog X.w (upd H x o) h' x o):Inv X pins σ (upd H x o) { s with heap:=h',toks:=t' }:=I.un (Un.write mu he k heo) (I.hok.write mu he k heo new)
def Inv.pins_of{pins':List (tx×Obj)}(I:Inv X pins σ H s)(h:∀ p∈pins',s.heap.get? p.1=U p.2/\H p.1=Y/\p.1≠X.env.locals/\p.1∉X.fs/\∀ v,p.2.data≠.cell v):Inv X pins' σ H s:=
 ⟨I.ok,I.os,I.bare,I.base,I.loc,I.cell,I.free,I.freeC,λp hp=>(YX.mp hp).elim (λz=>I.pin p (Zz _ z)) (h p),I.hok,I.len⟩
def uw{N:List Str}(hN:N.Nodup){i j:Nat}{x:Str}(a:N[i]?=U x)(b:N[j]?=U x):i=j:=by
 obtain⟨h1,e1⟩:=Yz.mp a
 obtain⟨h2,e2⟩:=Yz.mp b
 exact(List.getElem_inj hN).mp (e1.trans e2.symm)
noncomputable def xC{i:Nat}{x:Str}{Q:Unit->td->Prop}(I:Inv X pins σ H s)(hN:X.N.Nodup)(hi:X.N[i]?=U x)(hx:Qm X.env.scope x)(r:RelV v u)
  (h:∀ s',Inv X pins (σ.set i (U v)) H s'->(∃ a,Heap.SameBut a s.heap s'.heap/\(a=X.env.locals\/X.env.cells.lookup x=U a))->Q () s') (hf:X.fn x=true\/X.env.scope.names.lookup x=U .local):ade M A (storeName X.env x u) Q E s:=by
 obtain⟨m,hn,hl⟩:=id I.loc
 have hcls:(X.env.scope.kind==.class||(X.env.scope.kind==.module&&X.env.locals != X.env.globals))=false:=by rw[I.ok.kind];rfl
 have hiσ:i < σ.length:=by rw[I.len];exact(Yz.mp hi).1
 have cne:=I.cne
 have tracked:∀ {a:tx} {h':Ws},(∃ o,s.heap.get? a=U o/\H a=Y)->Heap.SameBut a s.heap h'->HOk X.prog X.w H h':=λ{a h'} ha hs b ob e=>by
  obtain⟨_,_,hfree⟩:=ha
  refine(I.hok b ob e).stay (λc w' hc q=>(hs.2 c ?_).trans q) (λ_ q=>q) λ_ _ q=>q
  rintro rfl
  rcases hc with rfl | hc
  ·rw[hfree] at e;cases e
  ·rw[hfree] at hc;cases hc
 rcases hx with hk | hk
 ·refine wpAny_storeName_local hk hn (λh' hn' hs=>?_) hcls
  obtain⟨oL,_,_,hoL,_⟩:=id hn
  refine h _ ⟨I.ok,I.os,I.bare,⟨λb o e n hb hx=>?_,λb o e n hb hx=>?_,I.base.free,λb o e hx=>?_,I.base.tups,I.base.frzs,I.base.tbls⟩,⟨_,hn',λj y v' e1 e2 e3=>?_⟩,λy c e=>?_,I.free,I.freeC,λp hp=>?_,tracked ⟨oL,hoL,I.free⟩ hs,by simpa using I.len⟩ ⟨_,hs,.inl rfl⟩
  ·exact(hs.2 b (Zi (YV (YI e) I.ok.above))).trans (I.base.keep b o e n hb hx)
  ·obtain⟨sl,e1⟩:=I.base.slot b o e n hb hx
   exact⟨sl,(hs.2 b (Zi (YV (YI e) I.ok.above))).trans e1⟩
  ·obtain⟨o',e1⟩:=I.base.there b o e hx
   exact⟨o',(hs.2 b (Zi (YV (YI e) I.ok.above))).trans e1⟩
  ·by_cases hj:j=i
   ·subst hj
    rw[hi] at e1;cases e1
    rw[Zg hiσ] at e2
    cases e2
    exact⟨u,r,.inl ⟨hk,by simp⟩⟩
   ·rw[Zf (Ne.symm hj)] at e2
    obtain⟨u',r',q⟩:=hl j y v' e1 e2 e3
    refine⟨u',r',?_⟩
    rcases q with ⟨k,e⟩ | ⟨k,c,e,z⟩
    ·refine .inl ⟨k,?_⟩
     have:y≠x:=λe=>hj (uw hN e1 (e ▸ hi))
     simp[this,e]
    ·exact .inr ⟨k,c,e,z.sameBut hs (cne y c e)⟩
  ·obtain⟨w',z⟩:=I.cell y c e
   exact⟨w',z.sameBut hs (cne y c e)⟩
  ·obtain⟨e,n,ne,nf,d⟩:=I.pin p hp
   exact⟨(hs.2 p.1 ne).trans e,n,ne,nf,d⟩
 ·have hfn:X.fn x=true:=by
   rcases hf with z | z
   ·exact z
   ·rw[z] at hk;cases hk
  obtain⟨c,hc⟩:=I.ok.has x (.inl hk)
  obtain⟨w',z⟩:=I.cell x c hc
  refine wpAny_storeName_cell I.ok.kind hk hc z (λh' hc' hs=>?_)
  obtain⟨oc,hoc,hocd⟩:=id z
  refine h { s with heap:=h' } ⟨I.ok,I.os,I.bare,⟨λb o e n hb hx=>?_,λb o e n hb hx=>?_,I.base.free,λb o e hx=>?_,I.base.tups,I.base.frzs,I.base.tbls⟩,⟨m,hn.sameBut hs (Ne.symm (cne x c hc)),λj y v' e1 e2 e3=>?_⟩,λy c' e=>?_,I.free,I.freeC,λp hp=>?_,tracked ⟨oc,hoc,I.freeC x c hc⟩ hs,by simpa using I.len⟩ ⟨c,hs,.inr hc⟩
  ·exact(hs.2 b (Zi (YV (YI e) (I.ok.cab x c hfn hc)))).trans (I.base.keep b o e n hb hx)
  ·obtain⟨sl,e1⟩:=I.base.slot b o e n hb hx
   exact⟨sl,(hs.2 b (Zi (YV (YI e) (I.ok.cab x c hfn hc)))).trans e1⟩
  ·obtain⟨o',e1⟩:=I.base.there b o e hx
   exact⟨o',(hs.2 b (Zi (YV (YI e) (I.ok.cab x c hfn hc)))).trans e1⟩
  ·by_cases hj:j=i
   ·subst hj
    rw[hi] at e1;cases e1
    rw[Zg hiσ] at e2
    cases e2
    exact⟨u,r,.inr ⟨.inl hk,c,hc,hc'⟩⟩
   ·rw[Zf (Ne.symm hj)] at e2
    obtain⟨u',r',q⟩:=hl j y v' e1 e2 e3
    refine⟨u',r',?_⟩
    rcases q with q | ⟨k,c',e,z'⟩
    ·exact .inl q
    ·refine .inr ⟨k,c',e,z'.sameBut hs ?_⟩
     rintro rfl
     exact hj (uw hN e1 (I.ok.inj _ _ _ e hc ▸ hi))
  ·by_cases hcc:c'=c
   ·subst hcc;exact⟨_,hc'⟩
   ·obtain⟨w2,z2⟩:=I.cell y c' e
    exact⟨w2,z2.sameBut hs hcc⟩
  ·obtain⟨e,n,ne,nf,d⟩:=I.pin p hp
   refine⟨(hs.2 p.1 ?_).trans e,n,ne,nf,d⟩
   intro q
   rw[q,hoc] at e
   have q':oc=p.2:=YU e
   exact d w' (by rw[<- q'];exact hocd)
noncomputable def pH{i:Nat}{x:Str}{Q:Unit->td->Prop}(I:Inv X pins σ H s)(hN:X.N.Nodup)(hi:X.N[i]?=U x)(hx:Qm X.env.scope x)(r:RelV v u)
  (h:∀ s',Inv X pins (σ.set i (U v)) H s'->Q () s') (hf:X.fn x=true\/X.env.scope.names.lookup x=U .local):ade M A (storeName X.env x u) Q E s:=
 xC I hN hi hx r (λs' I' _=>h s' I') hf
def Inv.call'{s':td}(I:Inv X pins σ H s)(ho:s'.os=s.os)(u:Un (yt X.stack) ch H H' s.heap s'.heap)(hok:HOk X.prog X.w H' s'.heap)(hg:AllBare s'.gens)
  (hch:∀ b∈ch,(b∈X.ex\/X.s₀.heap.objs.size<=b)/\b≠X.env.locals/\(∀ x c,X.env.cells.lookup x=U c->c≠b)/\∀ p∈X.pn++pins,p.1≠b):Inv X pins σ H' s':=by
 obtain⟨h',g',d',t',o'⟩:=s'
 have e:o'=s.os:=ho
 subst e
 exact I.call (g':=g') (t':=t') (d':=d') u hok hg hch
end
abbrev XK:=gV->Option tx->Hp->Prop
abbrev St:=List (Option V)
abbrev VK:=V->Hp->Prop
abbrev TE:=St->Hp->VK->Prop
abbrev TT:=St->Hp->(Bool->Hp->Prop)->Prop
abbrev TA:=St->Hp->(List V->Hp->Prop)->Prop
structure pB where
 nx:St->Hp->Prop
 rt:VK
 bk:St->Hp->Prop:=λ_ _=>False
 ct:St->Hp->Prop:=λ_ _=>False
abbrev TS:=pB->St->Hp->Prop
def EP(X:Cx)(pins:List (tx×Obj))(σ:St)(Q:VK)(u:gV)(s':td):Prop:=∃ v H',Inv X pins σ H' s'/\RelV v u/\Q v H'
def TP(X:Cx)(pins:List (tx×Obj))(σ:St)(Q:Bool->Hp->Prop)(b:Bool)(s':td):Prop:=∃ H',Inv X pins σ H' s'/\Q b H'
def AP(X:Cx)(pins:List (tx×Obj))(σ:St)(Q:List V->Hp->Prop)(us:List gV)(s':td):Prop:=∃ vs H',Inv X pins σ H' s'/\Vals vs us/\Q vs H'
def SP(X:Cx)(pins:List (tx×Obj))(D:pB)(f:Flow)(s':td):Prop:=
 match f with
 | .next=>∃ σ' H',Inv X pins σ' H' s'/\D.nx σ' H'
 | .brk=>∃ σ' H',Inv X pins σ' H' s'/\D.bk σ' H'
 | .cont=>∃ σ' H',Inv X pins σ' H' s'/\D.ct σ' H'
 | .ret u=>∃ v σ' H',Inv X pins σ' H' s'/\RelV v u/\D.rt v H'
def PE(X:Cx)(e:Nl)(t:TE):Prop:=
 ∀ (pins:List (tx×Obj)) (s:td) (σ:St) (H:Hp) (Q:VK),Inv X pins σ H s->t σ H Q->ade (model X.prog X.w) X.A (eval e X.env) (EP X pins σ Q) X.xe s
def PT(X:Cx)(e:Nl)(t:TT):Prop:=
 ∀ (pins:List (tx×Obj)) (s:td) (σ:St) (H:Hp) (Q:Bool->Hp->Prop),Inv X pins σ H s->t σ H Q->ade (model X.prog X.w) X.A (isTrue e X.env (eval e X.env)) (TP X pins σ Q) X.xe s
def PW(X:Cx)(e:Nl)(t:TT):Prop:=
 ∀ (whole:Sem gV) (pins:List (tx×Obj)) (s:td) (σ:St) (H:Hp) (Q:Bool->Hp->Prop),Inv X pins σ H s->t σ H Q->ade (model X.prog X.w) X.A (isTrue e X.env whole) (TP X pins σ Q) X.xe s
def PW.pt(h:PW X e t):PT X e t:=h _
def PA(X:Cx)(es:List Nl)(t:TA):Prop:=
 ∀ (pos:Pos) (pins:List (tx×Obj)) (s:td) (σ:St) (H:Hp) (Q:List V->Hp->Prop),Inv X pins σ H s->t σ H Q->ade (model X.prog X.w) X.A (spliced (backTo pos (acZ es X.env))) (AP X pins σ Q) X.xe s
def PS(X:Cx)(st:Uo)(t:TS):Prop:=
 ∀ (pins:List (tx×Obj)) (s:td) (σ:St) (H:Hp) (D:pB),Inv X pins σ H s->t D σ H->ade (model X.prog X.w) X.A (exec st X.env) (SP X pins D) X.xe s
def PSs(X:Cx)(st:List Uo)(t:TS):Prop:=
 ∀ (pins:List (tx×Obj)) (s:td) (σ:St) (H:Hp) (D:pB),Inv X pins σ H s->t D σ H->ade (model X.prog X.w) X.A (execs st X.env) (SP X pins D) X.xe s
def cZ{α:Type}{t:Sem α}{Q Q':α->td->Prop}{M:Model}{A:Wr}{E:gV->td->Prop}{s:td}(h:ade M A t Q E s)(hQ:∀ a s,Q a s->Q' a s):ade M A t Q' E s:=Zj h hQ λ_ _ x=>x
section
variable{X:Cx}
def tVar(i:Nat):TE:=λσ H Q=>∃ v,σ[i]?=U (U v)/\Q v H
def tC(v:V):TE:=λ_ H Q=>Q v H
noncomputable def EQ{i:Nat}{x:Str}(hN:X.N[i]?=U x)(hv:Ua X.env.scope x)(hd:(x==("__debug__":Str))=false)(hcd:(x==("__classdict__":Str))=false):PE X (.Name x pos) (tVar i):=by
 intro pins s σ H Q I h
 obtain⟨v,e,h⟩:=h
 obtain⟨m,hn,hl⟩:=I.loc
 obtain⟨u,r,l⟩:=hl i x v hN e hv
 have fin:EP X pins σ Q u s:=⟨v,H,I,r,h⟩
 rcases l with ⟨hk,hm⟩ | ⟨hk,c,hc,hcell⟩
 ·exact wpAny_Name (wpAny_loadName_local I.ok.kind hk hn hm fin) hd
 ·rcases hk with hk | hk
  ·exact wpAny_Name (wpAny_loadName_cell I.ok.kind hk hc hcell fin) hd
  ·exact wpAny_Name (wpAny_loadName_free I.ok.kind hk hc hcell fin hcd) hd
def VN{i j pos}:PE X (.Constant (.int i) j pos) (tC (.int i)):=λ_ _ _ H _ I h=>wpAny_Constant_int ⟨.int i,H,I.tok _,⟨_,rfl⟩,h⟩
def pe_bl{b j pos}:PE X (.Constant (.bool b) j pos) (tC (.bl b)):=λ_ _ _ H _ I h=>Constant_bool ⟨.bl b,H,I,rfl,h⟩
def VM{j pos}:PE X (.Constant .none j pos) (tC .non):=λ_ _ _ H _ I h=>Constant_none ⟨.non,H,I,rfl,h⟩
def VI{x j pos}:PE X (.Constant (.str x) j pos) (tC (.str x)):=λ_ _ _ H _ I h=>acW ⟨.str x,H,I.tok _,⟨_,rfl⟩,h⟩
def Gl(X:Cx)(x:Str):Prop:=X.env.kindOf x=U .globalImplicit
noncomputable def qd{s:td}{u:gV}{Q:gV->td->Prop}(I:Inv X pins σ H s)(hg:Gl X x)(hm:X.mg x=U u)(h:Q u s)
  (hd:(x==("__debug__":Str))=false):ade (model X.prog X.w) X.A (eval (.Name x pos) X.env) Q E s:=
 aaY I.ok.kind hg (acn (by rw[I.ok.glob];exact I.mod.glob.keeps I.bk) hm h) hd
noncomputable def lN{s:td}{u:gV}{Q:gV->td->Prop}(I:Inv X pins σ H s)(hg:Gl X x)(hm:X.mg x=Y)(hv:bootBuiltins x=U u)(h:Q u s)
  (hn:x≠"__name__":=by decide) (hd:(x==("__debug__":Str))=false:=by decide):ade (model X.prog X.w) X.A (eval (.Name x pos) X.env) Q E s:=by
 obtain⟨mb,h1,h2⟩:=I.mod.blt
 exact aaY I.ok.kind hg (Calls.loadGlobal_builtin (by rw[I.ok.glob];exact I.mod.glob.keeps I.bk) hm (by rw[I.ok.blt];exact h1.keeps I.bk) ((h2 x hn).trans hv) h) hd
noncomputable def tf{u:gV}(hg:Gl X x)(hm:X.mg x=U u)(r:RelV v u)(hd:(x==("__debug__":Str))=false):PE X (.Name x pos) (tC v):=
 λ_ _ _ H _ I h=>qd I hg hm ⟨v,H,I,r,h⟩ hd
noncomputable def GY{u:gV}(hg:Gl X x)(hm:X.mg x=Y)(hv:bootBuiltins x=U u)(r:RelV v u)(hn:x≠"__name__")(hd:(x==("__debug__":Str))=false):PE X (.Name x pos) (tC v):=
 λ_ _ _ H _ I h=>lN I hg hm hv ⟨v,H,I,r,h⟩ hn hd
variable{a b:Nl}{ta tb:TE}{pos:Pos}
variable{tA tB':TT}{rest:List Nl}
def tAnd(t u:TT):TT:=λσ H Q=>t σ H λc H1=>if c=true then u σ H1 Q else Q false H1
def tOr(t u:TT):TT:=λσ H Q=>t σ H λc H1=>if c=true then Q true H1 else u σ H1 Q
def tNot(t:TT):TT:=λσ H Q=>t σ H λc H1=>Q (!c) H1
def QQ(ha:PT X a tA):PW X (.BoolOp .And [a] pos) tA:=by
 intro wh pins s σ H Q I h
 refine isTrue_and (cZ (ha pins s σ H Q I h) λc s1 e=>?_)
 cases c with
 | true=>exact isTrue_and_nil e
 | false=>exact e
def Vy(ha:PT X a tA):PW X (.BoolOp .Or [a] pos) tA:=by
 intro wh pins s σ H Q I h
 refine isTrue_or (cZ (ha pins s σ H Q I h) λc s1 e=>?_)
 cases c with
 | false=>exact isTrue_or_nil e
 | true=>exact e
def Vz(ha:PT X a tA)(hb:PW X (.BoolOp .And (b::rest) pos) tB'):PW X (.BoolOp .And (a::b::rest) pos) (tAnd tA tB'):=by
 intro wh pins s σ H Q I h
 refine isTrue_and (cZ (ha pins s σ H _ I h) λc s1 ⟨H1,I1,q1⟩=>?_)
 cases c with
 | true=>exact hb wh pins s1 σ H1 Q I1 q1
 | false=>exact⟨H1,I1,q1⟩
def pw_or(ha:PT X a tA)(hb:PW X (.BoolOp .Or (b::rest) pos) tB'):PW X (.BoolOp .Or (a::b::rest) pos) (tOr tA tB'):=by
 intro wh pins s σ H Q I h
 refine isTrue_or (cZ (ha pins s σ H _ I h) λc s1 ⟨H1,I1,q1⟩=>?_)
 cases c with
 | true=>exact⟨H1,I1,q1⟩
 | false=>exact hb wh pins s1 σ H1 Q I1 q1
def VA(ha:PT X a tA):PT X (.UnaryOp .Not a pos) (tNot tA):=by
 intro pins s σ H Q I h
 exact isTrue_not (ha pins s σ H (λc H1=>Q (!c) H1) I h)
def VL{op}(h:PE X a t):PE X (.BoolOp op [a] pos) t:=λpins s σ H Q I hw=>BoolOp_one (h pins s σ H Q I hw)
def tIf(t:TT)(ta tb:TE):TE:=λσ H Q=>t σ H λc H1=>if c=true then ta σ H1 Q else tb σ H1 Q
def Mu(hc:PT X c tA)(ha:PE X a ta)(hb:PE X b tb):PE X (.IfExp c a b pos) (tIf tA ta tb):=by
 intro pins s σ H Q I h
 refine wpAny_IfExp (cZ (hc pins s σ H _ I h) λd s1 ⟨H1,I1,q1⟩=>?_)
 cases d with
 | true=>exact ha pins s1 σ H1 Q I1 q1
 | false=>exact hb pins s1 σ H1 Q I1 q1
end
def pz(K:adf)(H:Hp)(a:tx)(xs:List V):Prop:=
 Rd H a (.lst xs) \/
  ∃ (o:Obj) (its:Array gV) (n:Nat),K.lookup a=U o/\o.cls=.type "list"/\o.dict=Y/\o.data=.seq its n/\its.size<=acY/\Vals xs its.toList
def lZ(K:adf)(H:Hp)(a:tx)(xs:List V):Prop:=
 Rd H a (.tup xs) \/
  ∃ (o:Obj) (its:Array gV) (n:Nat),K.lookup a=U o/\o.cls=.type "tuple"/\o.dict=Y/\o.data=.seq its n/\its.size<=acY/\Vals xs its.toList
noncomputable def absV:gV->Option V
 | .none=>U .non
 | .bool b=>U (.bl b)
 | .int i _=>U (.int i)
 | .str x _=>U (.str x)
 | .bytes b _=>U (.byt b)
 | .float b _=>U (.flt b)
 | .ref a=>U (.ref a)
 | .type n=>U (.ty n)
 | _=>Y
def RelV.abs(r:RelV x u):absV u=U x:=by
 cases x with
 | non=>cases r;rfl
 | bl _=>cases r;rfl
 | int _=>obtain⟨t,rfl⟩:=r;rfl
 | str _=>obtain⟨t,rfl⟩:=r;rfl
 | byt _=>obtain⟨t,rfl⟩:=r;rfl
 | flt _=>obtain⟨t,rfl⟩:=r;rfl
 | ref _=>cases r;rfl
 | ty _=>cases r;rfl
theorem RelV.inj(r:RelV x u)(q:RelV y u):x=y:=YU (r.abs.symm.trans q.abs)
theorem Vals.inj:∀ {xs ys:List V} {us:List gV},Vals xs us->Vals ys us->xs=ys
 | _,_,_,.nil,.nil=>rfl
 | _,_,_,.cons r t,.cons r' t'=>by rw[r.inj r',Vals.inj t t']
section
variable{X:Cx}{pins:List (tx×Obj)}{σ:St}{H:Hp}{s:td}{a:tx}{xs ys:List V}
theorem Inv.list(I:Inv X pins σ H s)(h:pz X.K H a xs):∃ its:List gV,Vals xs its/\PlainL s.heap a its.toArray/\xs.length<=acY:=by
 rcases h with h | ⟨o,its,n,hk,hc,hd,hs,hz,r⟩
 ·obtain⟨z,its,n,r,e⟩:=h.ok I.hok
  exact⟨its,r,⟨_,n,e,rfl,rfl,rfl⟩,z⟩
 ·refine⟨its.toList,r,⟨o,n,I.kIn a o hk,hc,hd,by simpa using hs⟩,?_⟩
  have e:=r.length
  simp only[aaX] at e
  omega
def Inv.tuple(I:Inv X pins σ H s)(h:lZ X.K H a xs):∃ its:List gV,Vals xs its/\IsTup s.heap a its.toArray/\xs.length<=acY:=by
 rcases h with h | ⟨o,its,n,hk,hc,hdn,hs,hz,r⟩
 ·obtain⟨z,its,r,p⟩:=h.ok I.hok
  exact⟨its,r,p.up,z⟩
 ·refine⟨its.toList,r,⟨o,I.kIn a o hk,hc,n,by simpa using hs⟩,?_⟩
  have e:=r.length
  simp only[aaX] at e
  omega
def Inv.list_inj(I:Inv X pins σ H s)(h:pz X.K H a xs)(h':pz X.K H a ys):xs=ys:=by
 obtain⟨its,r,⟨o,n,e,_,_,d⟩,_⟩:=I.list h
 obtain⟨its',r',⟨o',n',e',_,_,d'⟩,_⟩:=I.list h'
 rw[e] at e';cases e'
 rw[d] at d'
 injection d' with d1 _
 have:its=its':=by simpa using congrArg Array.toList d1
 subst this
 exact r.inj r'
def Inv.tuple_inj(I:Inv X pins σ H s)(h:lZ X.K H a xs)(h':lZ X.K H a ys):xs=ys:=by
 obtain⟨its,r,⟨o,e,_,n,d⟩,_⟩:=I.tuple h
 obtain⟨its',r',⟨o',e',_,n',d'⟩,_⟩:=I.tuple h'
 rw[e] at e';cases e'
 rw[d] at d'
 injection d' with d1 _
 have:its=its':=by simpa using congrArg Array.toList d1
 subst this
 exact r.inj r'
end
noncomputable abbrev Cx.wish(X:Cx)(E:gV->td->Prop):Cx:={ X with xe:=E }
noncomputable abbrev Cx.nox(X:Cx):Cx:=X.wish λ_ _=>False
theorem Cx.Ok.wish{X:Cx}(ok:X.Ok)(E:gV->td->Prop):(X.wish E).Ok:=
 ⟨ok.mod,ok.kind,ok.glob,ok.blt,ok.above,ok.inj,ok.has,ok.cab,ok.hd,ok.frames,ok.stk,ok.exf,ok.bs,ok.bsz,ok.noex,ok.exfs,ok.funs,ok.frf⟩
def Cx.Ok.unwish{X:Cx}(ok:(X.wish E).Ok):X.Ok:=
 ⟨ok.mod,ok.kind,ok.glob,ok.blt,ok.above,ok.inj,ok.has,ok.cab,ok.hd,ok.frames,ok.stk,ok.exf,ok.bs,ok.bsz,ok.noex,ok.exfs,ok.funs,ok.frf⟩
section
variable{X:Cx}{pins:List (tx×Obj)}{σ:St}{H:Hp}{s:td}{E:gV->td->Prop}
theorem Inv.wish(I:Inv X pins σ H s)(E:gV->td->Prop):Inv (X.wish E) pins σ H s:=⟨I.ok.wish E,I.os,I.bare,I.base,I.loc,I.cell,I.free,I.freeC,I.pin,I.hok,I.len⟩
theorem Inv.unwish(I:Inv (X.wish E) pins σ H s):Inv X pins σ H s:=⟨I.ok.unwish,I.os,I.bare,I.base,I.loc,I.cell,I.free,I.freeC,I.pin,I.hok,I.len⟩
theorem SP.unwish{D:pB}(h:SP (X.wish E) pins D f s'):SP X pins D f s':=by
 cases f with
 | next=>obtain⟨σ',H',I,q⟩:=h;exact⟨σ',H',I.unwish,q⟩
 | brk=>obtain⟨σ',H',I,q⟩:=h;exact⟨σ',H',I.unwish,q⟩
 | cont=>obtain⟨σ',H',I,q⟩:=h;exact⟨σ',H',I.unwish,q⟩
 | ret u=>obtain⟨v,σ',H',I,r,q⟩:=h;exact⟨v,σ',H',I.unwish,r,q⟩
theorem PSs.nox{st:List Uo}(h:PSs X.nox st t):PSs X st t:=λpins s σ H D I hw=>
 Zj (h pins s σ H D (I.wish _) hw) (λ_ _ q=>q.unwish) λ_ _ z=>False.elim z
end
section
variable{X:Cx}{st:Uo}{rest:List Uo}{t u:TS}{e:Nl}{te:TE}{pos:Pos}
def Lv:TS:=λD σ H=>D.nx σ H
def tSeq(t u:TS):TS:=λD σ H=>t { D with nx:=u D } σ H
def QV:PSs X [] Lv:=λ_ _ σ H _ I h=>aaF ⟨σ,H,I,h⟩
def ud(h1:PS X st t)(h2:PSs X rest u):PSs X (st::rest) (tSeq t u):=by
 intro pins s σ H D I h
 refine abL (cZ (h1 pins s σ H { D with nx:=u D } I h) λf s1 q=>?_)
 cases f with
 | next=>
  obtain⟨σ',H',I',q⟩:=q
  exact h2 pins s1 σ' H' D I' q
 | ret v=>exact q
 | brk=>exact q
 | cont=>exact q
def sY(h1:PS X st t):PSs X [st] t:=by
 intro pins s σ H D I h
 refine abL (cZ (h1 pins s σ H D I h) λf s1 q=>?_)
 cases f with
 | next=>exact aaF q
 | ret v=>exact q
 | brk=>exact q
 | cont=>exact q
def Vo:TS:=λD σ H=>D.bk σ H
def tCont:TS:=λD σ H=>D.ct σ H
def QX:PS X (.Pass pos) Lv:=λ_ _ σ H _ I h=>wpAny_Pass ⟨σ,H,I,h⟩
def Mm:PS X (.Break pos) Vo:=λ_ _ σ H _ I h=>wpAny_Break ⟨σ,H,I,h⟩
def BC:PS X (.Continue pos) tCont:=λ_ _ σ H _ I h=>wpAny_Continue ⟨σ,H,I,h⟩
def Inv.quiet{s:td}(I:Inv X pins σ H s):interactive X.env=false:=by simp[interactive,I.ok.kind]
def VB{x j pos pos'}:PS X (.Expr (.Constant (.str x) j pos) pos') Lv:=λ_ s σ H _ I h=>wpAny_Expr (acW (show SP X _ _ .next { s with toks:=s.toks+1 } from ⟨σ,H,I.tok _,h⟩)) I.quiet
def tDrop(te:TE):TS:=λD σ H=>te σ H λ_ H1=>D.nx σ H1
noncomputable def QZ(he:PE X e te)(hs:swapsWith e Y pos.line X.env=pure false):PS X (.Expr e pos) (tDrop te):=by
 intro pins s σ H D I h
 exact wpAny_Expr_any (cZ (he pins s σ H _ I h) λv s1 ⟨x,H1,I1,r1,q1⟩=>⟨σ,H1,I1,q1⟩) I.quiet hs
def tRet(te:TE):TS:=λD σ H=>te σ H D.rt
def Mj(he:PE X e te):PS X (.Return (U e) pos) (tRet te):=by
 intro pins s σ H D I h
 exact wpAny_Return_some (cZ (he pins s σ H _ I h) λv s1 ⟨x,H1,I1,r1,q1⟩=>⟨x,σ,H1,I1,r1,q1⟩)
def tRetN:TS:=λD _ H=>D.rt .non H
def QW:PS X (.Return Y pos) tRetN:=λ_ _ σ H _ I h=>wpAny_Return_none ⟨.non,σ,H,I,rfl,h⟩
def tIfS(c:TT)(t u:TS):TS:=λD σ H=>c σ H λb H1=>if b=true then t D σ H1 else u D σ H1
def Ur(hc:PT X c tc)(ha:PSs X a t)(hb:PSs X b u):PS X (.If c a b pos) (tIfS tc t u):=by
 intro pins s σ H D I h
 refine wpAny_If (cZ (hc pins s σ H _ I h) λd s1 ⟨H1,I1,q1⟩=>?_)
 cases d with
 | true=>exact ha pins s1 σ H1 D I1 q1
 | false=>exact hb pins s1 σ H1 D I1 q1
end
abbrev TG:=V->St->Hp->(St->Hp->Prop)->Prop
abbrev UY:=List V->St->Hp->(St->Hp->Prop)->Prop
def PG(X:Cx)(target:Nl)(t:TG):Prop:=
 ∀ (pins:List (tx×Obj)) (s:td) (σ:St) (H:Hp) (v:V) (u:gV) (Q:St->Hp->Prop),Inv X pins σ H s->RelV v u->t v σ H Q ->
  ade (model X.prog X.w) X.A (assign target X.env u) (λ_ s'=>∃ σ' H',Inv X pins σ' H' s'/\Q σ' H') X.xe s
def PGs(X:Cx)(ts:List Nl)(t:UY):Prop:=
 ∀ (pins:List (tx×Obj)) (s:td) (σ:St) (H:Hp) (vs:List V) (us:List gV) (Q:St->Hp->Prop),Inv X pins σ H s->Vals vs us->t vs σ H Q ->
  ade (model X.prog X.w) X.A (assignInOrder ((assignEach ts X.env).map (·.2)) us) (λ_ s'=>∃ σ' H',Inv X pins σ' H' s'/\Q σ' H') X.xe s
abbrev Yp:=V->V->V->Hp->(Hp->Prop)->Prop
def PSet(X:Cx)(t:Yp):Prop:=
 ∀ (pins:List (tx×Obj)) (s:td) (σ:St) (H:Hp) (o i v:V) (ov iv u:gV) (Q:Hp->Prop),Inv X pins σ H s->RelV o ov->RelV i iv->RelV v u->t o i v H Q ->
  ade (model X.prog X.w) X.A (setItem ov iv u) (λ_ s'=>∃ H',Inv X pins σ H' s'/\Q H') X.xe s
section
variable{X:Cx}{pos:Pos}
def HM(i:Nat):TG:=λv σ H Q=>Q (σ.set i (U v)) H
noncomputable def Rh{i:Nat}{x:Str}(hN:X.N.Nodup)(hi:X.N[i]?=U x)(hx:Qm X.env.scope x)(hf:X.fn x=true\/X.env.scope.names.lookup x=U .local):PG X (.Name x pos) (HM i):=by
 intro pins s σ H v u Q I r h
 exact wpAny_assign_Name (pH I hN hi hx r (λs' I'=>⟨_,H,I',h⟩) hf)
noncomputable def gNil:UY:=λvs σ H Q=>vs=[]/\Q σ H
noncomputable def gCons(t:TG)(u:UY):UY:=λvs σ H Q=>∃ v r,vs=v::r/\t v σ H λσ' H'=>u r σ' H' Q
def Rg:PGs X [] gNil:=by
 intro pins s σ H vs us Q I r h
 obtain⟨e,h⟩:=h
 subst e
 cases r
 exact assignInOrder_nil ⟨σ,H,I,h⟩
noncomputable def Mp{e:Nl}(h1:PG X e t)(h2:PGs X es u)
  (hs:(assignEach (e::es) X.env).map (·.2)=assign e X.env::(assignEach es X.env).map (·.2)):PGs X (e::es) (gCons t u):=by
 intro pins s σ H vs us Q I r h
 obtain⟨v,vr,e1,h⟩:=h
 subst e1
 cases r with
 | cons r rr=>
  rw[hs]
  refine assignInOrder_cons (cZ (h1 pins s σ H _ _ _ I r h) λ_ s1 ⟨σ1,H1,I1,q1⟩=>?_)
  exact h2 pins s1 σ1 H1 _ _ Q I1 rr q1
def gTup(K:adf)(n:Nat)(t:UY):TG:=λv σ H Q=>∃ a xs,v=.ref a/\lZ K H a xs/\xs.length=n/\t xs σ H Q
noncomputable def VG{k:Nat}{n:Nat}(hc:X.calm=true)(h:PGs X es t)
  (hn:(assignEach es X.env).length=n) (hst:(assignEach es X.env).findIdx? (·.1)=Y):PG X (.Tuple es k pos) (gTup X.K n t):=by
 intro pins s σ H v u Q I r hw
 obtain⟨a,xs,e1,hq,hl,hw⟩:=hw
 subst e1
 cases r
 obtain⟨its,rv,ht,hz⟩:=I.tuple hq
 refine assign_Tuple_tuple (I.ok.hd hc) ht (by simp[hn,<- hl,rv.length]) hst λh' hx=>?_
 have I1:Inv X pins σ H { s with heap:=h' }:=I.kept (t':=s.toks) λb o e=>hx b o (Zi (YI e)) e
 exact h pins _ σ H xs _ Q I1 (by simpa using rv) hw
def gSub(to ti:TE)(t:Yp):TG:=λv σ H Q=>to σ H λo H1=>ti σ H1 λi H2=>t o i v H2 λH3=>Q σ H3
noncomputable def VH{to:TE}(ho:PE X o to)(hi:PE X i ti)(hs:PSet X t)
  (ha:∀ v,assign (.Subscript o i pos) X.env v=(do
   let ov <- holding [v] (eval o X.env)
   let iv <- holding [v,ov] (eval i X.env)
   standAt pos
   holding [v,ov,iv] (setItem ov iv v)
   release [v,ov,iv] [])):PG X (.Subscript o i pos) (gSub to ti t):=by
 intro pins s σ H v u Q I r h
 rw[ha]
 refine Yy (ZL (cZ (ho pins s σ H _ I h) λov s1 ⟨x,H1,I1,r1,q1⟩=>?_))
 refine Yy (ZL (cZ (hi pins s1 σ H1 _ I1 q1) λiv s2 ⟨y,H2,I2,r2,q2⟩=>?_))
 refine Yy (aaQ (Yy (ZL (cZ (hs pins s2 σ H2 x y v ov iv u _ I2 r1 r2 r q2) λ_ s3 ⟨H3,I3,q3⟩=>?_))))
 exact wpAny_release ⟨σ,H3,I3,q3⟩
def Lz(te:TE)(g:TG):TS:=λD σ H=>te σ H λx H1=>g x σ H1 D.nx
noncomputable def VC(he:PE X e te)(hg:PG X tg g)(hs:swapsWithSole [tg] e pos.line X.env=pure false)(hw:swappedStores [tg] e X.env=pure Y)
  (h1:(assignEach [tg] X.env).map (·.2)=[assign tg X.env]):PS X (.Assign [tg] e pos) (Lz te g):=by
 intro pins s σ H D I h
 refine wpAny_Assign_stores (cZ (he pins s σ H _ I h) λv s1 ⟨x,H1,I1,r1,q1⟩=>?_) hs hw
 rw[h1]
 exact cZ (hg pins s1 σ H1 x v _ I1 r1 q1) λ_ s2 q=>q
noncomputable def Mi{i:Nat}{x:Str}(hN:X.N.Nodup)(hi:X.N[i]?=U x)(hx:Qm X.env.scope x)(he:PE X e te)(hs:swapsWith e (U (.Name x pos')) pos.line X.env=pure false)(hf:X.fn x=true\/X.env.scope.names.lookup x=U .local) :
  PS X (.Assign [.Name x pos'] e pos) (Lz te (HM i)):=by
 intro pins s σ H D I h
 refine wpAny_Assign_Name (cZ (he pins s σ H _ I h) λv s1 ⟨y,H1,I1,r1,q1⟩=>?_) hs
 exact pH I1 hN hi hx r1 (λs2 I2=>⟨_,H1,I2,q1⟩) hf
end
section
variable{X:Cx}{pos:Pos}
def Vk(c:TT)(tb:TS):TS:=λD σ H=>∃ W:Nat->St->Hp->Prop,(∃ m,W m σ H)/\∀ m σ H,W m σ H ->
 c σ H λb H1=>if b=true then ∃ N:St->Hp->Prop,(∀ σ' H',N σ' H'->∃ m',m'<m/\W m' σ' H')/\tb { D with nx:=N,ct:=N,bk:=D.nx } σ H1 else D.nx σ H1
def Mg(hp:PassesOwn (model X.prog X.w) X.A X.env X.xe)(hc:PT X c tc)(hb:PSs X body tb):PS X (.While c body [] pos) (Vk tc tb):=by
 intro pins s σ H D I h
 obtain⟨W,⟨m0,w0⟩,turn⟩:=h
 refine wpAny_While (codeAny_whileLoop (λn s'=>∃ σ' H',Inv X pins σ' H' s'/\W n σ' H') ?_ m0 ⟨σ,H,I,w0⟩)
 rintro n s1 ⟨σ1,H1,I1,w1⟩
 refine aaq hp (cZ (hc pins s1 σ1 H1 _ I1 (turn n σ1 H1 w1)) λb s2 ⟨H2,I2,q2⟩=>?_)
 cases b with
 | true=>
  obtain⟨N,hN,q2⟩:=q2
  rw[YR rfl]
  refine aaq hp (cZ (hb pins s2 σ1 H2 _ I2 q2) λf s3 q3=>?_)
  cases f with
  | next=>
   obtain⟨σ3,H3,I3,n3⟩:=q3
   obtain⟨m',hm,w3⟩:=hN σ3 H3 n3
   exact⟨m',hm,σ3,H3,I3,w3⟩
  | cont=>
   obtain⟨σ3,H3,I3,n3⟩:=q3
   obtain⟨m',hm,w3⟩:=hN σ3 H3 n3
   exact⟨m',hm,σ3,H3,I3,w3⟩
  | brk=>exact q3
  | ret v=>exact q3
 | false=>
  rw[if_neg adh]
  exact aaF ⟨σ1,H2,I2,q2⟩
end
structure It where
 go:Nat->Hp->Prop
 yld:Nat->Hp->V->Hp->Prop
 stop:Nat->Hp->Prop
def rP(X:Cx)(pins:List (tx×Obj))(H:Hp)(b:tx):Prop:=
 H b=Y/\b≠X.env.locals/\b∉X.fs/\(b∈X.ex\/X.s₀.heap.objs.size<=b)/\(∀ x c,X.env.cells.lookup x=U c->c≠b)/\∀ p∈X.pn++pins,p.1≠b
def Inv.fpOk{H':Hp}{s:td}{b:tx}(I:Inv X pins σ H s)(hb:s.heap.objs.size<=b)(hn:H' b=Y):rP X pins H' b:=by
 refine⟨hn,ZJ (YV I.lt hb),I.nofs hb,.inr (YW I.sz hb),λx c e z=>?_,λp hp z=>?_⟩
 ·obtain⟨v,q⟩:=I.cell x c e
  exact absurd (YV q.lt (by rw[z];exact hb)) (aaj _)
 ·exact absurd (YV (YI (I.pin p hp).1) (by rw[z];exact hb)) (aaj _)
structure GL(P:Of)(w:RG)(K:adf)(tg:Nl)(J:It)(fp:List tx)(it:tx)(tn:Nat->Ws->Prop):Prop where
 mem:it∈fp
 obj:∀ i h,tn i h->∀ b∈fp,∃ o,h.get? b=U o/\∀ v,o.data≠.cell v
 keep:∀ i h h',tn i h->(∀ b∈fp,∀ o,h.get? b=U o->h'.get? b=U o)->tn i h'
 item:∀ (X:Cx),X.prog=P->X.w=w->X.K=K->X.calm=true->∀ (i:Nat) (pins:List (tx×Obj)) (s:td) (σ:St) (H:Hp) (E:gV->td->Prop),Inv X pins σ H s->(∀ b∈fp,rP X pins H b)->tn i s.heap->J.go i H ->
  ade (model P w) X.A (pyNext (.ref it)) (λr s1=>∃ u,r=U u /\
   ade (model P w) X.A (letOwnedTupleGo tg (.ref it) u) (λ_ s2=>∃ x H',Inv X pins σ H' s2/\RelV x u/\J.yld i H x H'/\tn (i+1) s2.heap/\∀ b∈fp,H' b=Y) E s1) E s
 done:∀ (X:Cx),X.prog=P->X.w=w->X.K=K->X.calm=true->∀ (i:Nat) (pins:List (tx×Obj)) (s:td) (σ:St) (H:Hp) (E:gV->td->Prop),Inv X pins σ H s->(∀ b∈fp,rP X pins H b)->tn i s.heap->J.stop i H ->
  ade (model P w) X.A (pyNext (.ref it)) (λr s1=>r=Y/\Inv X pins σ H s1) E s
 self:∀ (A:Wr) (i:Nat) (s:td) (Q:gV->td->Prop) (E:gV->td->Prop),tn i s.heap->Q (.ref it) s->ade (model P w) A (pyIter (.ref it)) Q E s
abbrev TI:=St->Hp->(It->Hp->Prop)->Prop
def PIE(X:Cx)(pins:List (tx×Obj))(σ:St)(tg:Nl)(R:It->Hp->Prop)(itv:gV)(s2:td):Prop:=
 ∃ (it:tx) (fp:List tx) (tn:Nat->Ws->Prop) (J:It) (H':Hp),itv=.ref it/\Inv X pins σ H' s2/\GL X.prog X.w X.K tg J fp it tn/\tn 0 s2.heap/\(∀ b∈fp,rP X pins H' b)/\R J H'
def PI(X:Cx)(tg iter:Nl)(wi:TI):Prop:=
 ∀ (pins:List (tx×Obj)) (s:td) (σ:St) (H:Hp) (R:It->Hp->Prop),Inv X pins σ H s->wi σ H R ->
  ade (model X.prog X.w) X.A (eval iter X.env) (λv s1=>ade (model X.prog X.w) X.A (pyIter v) (PIE X pins σ tg R) X.xe s1) X.xe s
def NU{s:td}{o:Obj}{Q:Unit->td->Prop}(ho:s.heap.get? it=U o)(hc:o.cls=.type n)(hd:o.data=.fields vs)
  (hn:["enumerate","zip","dict_itemiterator","dict_reverseitemiterator","odict_iterator","itertools.zip_longest","itertools.pairwise"].contains n=false) (hQ:Q () s):ade M A (letOwnedTupleGo tg (.ref it) u) Q E s:=by
 unfold letOwnedTupleGo
 cases tg<;>first
  | exact YH hQ
  | (cases u<;>first
    | exact YH hQ
    | (refine Yy (wpAny_load ho ?_); rw[hc,hd]; show ade M A (if (["enumerate","zip","dict_itemiterator","dict_reverseitemiterator","odict_iterator","itertools.zip_longest","itertools.pairwise"].contains n&&vs[0]?==U (rawInt _))=true then _ else _) Q E s; rw[if_neg (by intro h;rw[hn,aaA] at h;cases h)]; exact YH hQ))
noncomputable def Itl(K:adf)(a:tx):It:=
 ⟨λi H=>∃ xs x,pz K H a xs/\xs[i]?=U x,λi H x H'=>H'=H/\∀ xs,pz K H a xs->xs[i]?=U x,λi H=>∃ xs,pz K H a xs/\xs.length<=i⟩
noncomputable def Itt(K:adf)(a:tx):It:=
 ⟨λi H=>∃ xs x,lZ K H a xs/\xs[i]?=U x,λi H x H'=>H'=H/\∀ xs,lZ K H a xs->xs[i]?=U x,λi H=>∃ xs,lZ K H a xs/\xs.length<=i⟩
noncomputable def Itr(lo:Int)(n:Nat):It:=⟨λi _=>i<n,λi H x H'=>H'=H/\x=.int (lo+i),λi _=>n<=i⟩
theorem xy{K:adf}(a it:tx):GL P w K tg (Itl K a) [it] it (λi h=>h.IsListIter it a i) where
 mem:=by simp
 obj:=λi h st b hb=>by
  have e:b=it:=by simpa using hb
  subst e
  obtain⟨o,e,c,d⟩:=st
  exact⟨o,e,λv z=>by rw[d] at z;cases z⟩
 keep:=λi h h' st k=>st.at λo e=>k it (by simp) o e
 item:=by
  intro X hP hw hK hc i pins s σ H E I hf st hg
  subst hP hw hK
  obtain⟨xs,x,hq,hx⟩:=hg
  obtain⟨its,rv,p,hz⟩:=I.list hq
  obtain⟨u,hu,ru⟩:=rv.get hx
  obtain⟨f0,f1,f2,f3,f4,f5⟩:=hf it (by simp)
  refine wpAny_pyNext_list_item st p.isList (x:=u) (by simpa using hu) λh' st' sb=>?_
  have I1:Inv X pins σ H { s with heap:=h' }:=I.turned (t':=s.toks) (λb o hb e=>(sb.2 b hb).trans e) f0 f1 f3 f4 f5
  obtain⟨o,e,c,d⟩:=id st'
  exact⟨u,rfl,NU (s:={ s with heap:=h' }) e c d (by decide) ⟨x,H,I1,ru,⟨rfl,λys hy=>by rw[I.list_inj hy hq];exact hx⟩,st',λb hb=>(hf b hb).1⟩⟩
 done:=by
  intro X hP hw hK hc i pins s σ H E I hf st hg
  subst hP hw hK
  obtain⟨xs,hq,hx⟩:=hg
  obtain⟨its,rv,p,hz⟩:=I.list hq
  obtain⟨f0,f1,f2,f3,f4,f5⟩:=hf it (by simp)
  have hl:=rv.length
  exact wpAny_pyNext_list_end (I.ok.hd hc) st p.isList (by simp;omega) λh' eb=>⟨rfl,I.turned (t':=s.toks) (λb o hb e=>eb b o hb e) f0 f1 f3 f4 f5⟩
 self:=λ_ _ _ _ _ st h=>wpAny_pyIter_listiter st h
def Ei{K:adf}(a it:tx):GL P w K tg (Itt K a) [it] it (λi h=>h.IsTupleIter it a i) where
 mem:=by simp
 obj:=λi h st b hb=>by
  have e:b=it:=by simpa using hb
  subst e
  obtain⟨o,e,c,d⟩:=st
  exact⟨o,e,λv z=>by rw[d] at z;cases z⟩
 keep:=λi h h' st k=>st.at λo e=>k it (by simp) o e
 item:=by
  intro X hP hw hK hc i pins s σ H E I hf st hg
  subst hP hw hK
  obtain⟨xs,x,hq,hx⟩:=hg
  obtain⟨its,rv,p,hz⟩:=I.tuple hq
  obtain⟨u,hu,ru⟩:=rv.get hx
  obtain⟨f0,f1,f2,f3,f4,f5⟩:=hf it (by simp)
  refine wpAny_pyNext_tuple_item st (show s.heap.IsTuple a its.toArray from p) (x:=u) (by simpa using hu) λh' st' sb=>?_
  have I1:Inv X pins σ H { s with heap:=h' }:=I.turned (t':=s.toks) (λb o hb e=>(sb.2 b hb).trans e) f0 f1 f3 f4 f5
  obtain⟨o,e,c,d⟩:=id st'
  exact⟨u,rfl,NU (s:={ s with heap:=h' }) e c d (by decide) ⟨x,H,I1,ru,⟨rfl,λys hy=>by rw[I.tuple_inj hy hq];exact hx⟩,st',λb hb=>(hf b hb).1⟩⟩
 done:=by
  intro X hP hw hK hc i pins s σ H E I hf st hg
  subst hP hw hK
  obtain⟨xs,hq,hx⟩:=hg
  obtain⟨its,rv,p,hz⟩:=I.tuple hq
  obtain⟨f0,f1,f2,f3,f4,f5⟩:=hf it (by simp)
  have hl:=rv.length
  exact wpAny_pyNext_tuple_end (I.ok.hd hc) st (show s.heap.IsTuple a its.toArray from p) (by simp;omega) λh' eb=>⟨rfl,I.turned (t':=s.toks) (λb o hb e=>eb b o hb e) f0 f1 f3 f4 f5⟩
 self:=λ_ _ _ _ _ st h=>wpAny_pyIter_tupleiter st h
theorem Ej{K:adf}(it:tx)(lo:Int)(n:Nat):GL P w K tg (Itr lo n) [it] it (λi h=>IsRangeIter h it (lo+(i:Nat)*1) ((n:Int) - (i:Nat)) 1) where
 mem:=by simp
 obj:=λi h st b hb=>by
  have e:b=it:=by simpa using hb
  subst e
  exact⟨_,st,λv z=>by
   have z':Data.fields _=Data.cell v:=z
   cases z'⟩
 keep:=λi h h' st k=>k it (by simp) _ st
 item:=by
  intro X hP hw hK hc i pins s σ H E I hf st hg
  subst hP hw hK
  obtain⟨f0,f1,f2,f3,f4,f5⟩:=hf it (by simp)
  have W:=Walks.range (prog:=X.prog) (w:=X.w) (I.ok.hd hc) it lo 1 n
  refine W.item i s _ _ hg st λv h' tk hv st' kk=>?_
  obtain⟨t,rfl⟩:=hv
  have I1:Inv X pins σ H { s with heap:=h',toks:=tk }:=I.turned (λb o hb e=>kk b o (by simpa using hb) e) f0 f1 f3 f4 f5
  refine⟨_,rfl,NU (s:={ s with heap:=h',toks:=tk }) (n:="range_iterator") st' rfl rfl (by decide) ⟨.int (lo+i),H,I1,⟨t,?_⟩,⟨rfl,rfl⟩,st',λb hb=>(hf b hb).1⟩⟩
  rw[Int.mul_one]
 done:=by
  intro X hP hw hK hc i pins s σ H E I hf st hg
  subst hP hw hK
  obtain⟨f0,f1,f2,f3,f4,f5⟩:=hf it (by simp)
  exact wpAny_pyNext_range_end (I.ok.hd hc) st (by have:n<=i:=hg;omega) λh' eb=>⟨rfl,I.turned (t':=s.toks) (λb o hb e=>eb b o hb e) f0 f1 f3 f4 f5⟩
 self:=λ_ _ _ _ _ st h=>wpAny_pyIter_rangeiter st h
section
variable{X:Cx}{tg:Nl}
def iList(K:adf)(tl:TE):TI:=λσ H R=>tl σ H λx H1=>∃ a,x=.ref a/\(∃ xs,pz K H1 a xs)/\R (Itl K a) H1
def Re(hl:PE X l tl):PI X tg l (iList X.K tl):=by
 intro pins s σ H R I h
 refine cZ (hl pins s σ H _ I h) λv s1 ⟨x,H1,I1,r1,q1⟩=>?_
 obtain⟨a,e,⟨xs,hq⟩,q⟩:=q1
 subst e
 cases r1
 obtain⟨its,rv,p,hz⟩:=I1.list hq
 refine aaZ p.isList ?_
 refine⟨s1.heap.objs.size,[s1.heap.objs.size],_,_,H1,rfl,I1.kept (t':=s1.toks) λb o e=>YA _ e,xy a _,⟨_,YN _ rfl,rfl,rfl⟩,λb hb=>?_,q⟩
 have e:b=s1.heap.objs.size:=by simpa using hb
 subst e
 exact I1.fpOk (YL _) (I1.hok.fresh (YL _))
theorem Bz{s:td}{R:It->Hp->Prop}{lo hi:Int}{tk:Nat}(I:Inv X pins σ H s)(h1:-(2^62)<=lo)(h2:lo<2^62)(h3:-(2^62)<=hi)(h4:hi<2^62)
  (q:R (Itr lo (hi - lo).toNat) H):ade (model X.prog X.w) X.A (pyIter (.ref s.heap.objs.size)) (PIE X pins σ tg R) E { s with heap:=s.heap.push { cls:=.type "range",data:=.fields #[.int lo t,.int hi u,.int 1 v] },toks:=tk }:=by
 refine wpAny_pyIter_range (IsRange.new ..) (small_one h1 h2 h3 h4) ?_
 have I1:Inv X pins σ H { s with heap:=s.heap.push { cls:=.type "range",data:=.fields #[.int lo t,.int hi u,.int 1 v] },toks:=tk }:=I.kept λb o e=>YA _ e
 refine⟨(s.heap.push { cls:=.type "range",data:=.fields #[.int lo t,.int hi u,.int 1 v] }).objs.size,[(s.heap.push { cls:=.type "range",data:=.fields #[.int lo t,.int hi u,.int 1 v] }).objs.size],_,_,H,rfl,
  I1.kept (t':=tk) λb o e=>YA _ e,Ej _ lo (hi - lo).toNat,?_,λb hb=>?_,q⟩
 ·have e1:lo+((0:Nat):Int)*1=lo:=by simp
  have e2:(((hi - lo).toNat:Nat):Int) - ((0:Nat):Int)=Builtin.Range.rangeSize lo hi 1:=by rw[rangeSize_one];split<;>omega
  show IsRangeIter _ _ (lo+((0:Nat):Int)*1) ((((hi - lo).toNat:Nat):Int) - ((0:Nat):Int)) 1
  rw[e1,e2]
  exact YN _ rfl
 ·have e:b=(s.heap.push { cls:=.type "range",data:=.fields #[.int lo t,.int hi u,.int 1 v] }).objs.size:=by simpa using hb
  subst e
  exact I1.fpOk (YL _) (I1.hok.fresh (YL _))
def iRng1(ta:TA):TI:=λσ H R=>ta σ H λvs H1=>∃ j:Int,vs=[.int j]/\-(2^62)<=j/\j<2^62/\R (Itr 0 j.toNat) H1
def iRng2(ta:TA):TI:=λσ H R=>ta σ H λvs H1=>∃ i j:Int,vs=[.int i,.int j]/\(-(2^62)<=i/\i<2^62/\-(2^62)<=j/\j<2^62)/\R (Itr i (j - i).toNat) H1
theorem Ja{a:Nl}{p:Pos}(hg:Gl X "range")(hm:X.mg "range" = Y)(ha:PA X [a] ta)(hs:acZ [a] X.env=[(false,eval a X.env)]):PI X tg (.Call (.Name "range" p) [a] [] pos) (iRng1 ta):=by
 intro pins s σ H R I h
 refine Call_ (lN I hg hm boot_range (Zw (cZ (ha pos pins s σ H _ I h) λus s1 ⟨vs,H1,I1,r1,q1⟩=>?_) hs rfl))
 obtain⟨j,e,q1,q2,q⟩:=q1
 subst e
 cases r1 with
 | cons r rr=>
  cases rr
  obtain⟨t,rfl⟩:=r
  exact call_range_1 (Bz I1 (by omega) (by omega) q1 q2 (by simpa using q))
noncomputable def IZ{a b:Nl}{p:Pos}(hg:Gl X "range")(hm:X.mg "range" = Y)(ha:PA X [a,b] ta)(hs:acZ [a,b] X.env=[(false,eval a X.env),(false,eval b X.env)])(hs2:acZ [b] X.env=[(false,eval b X.env)]) :
  PI X tg (.Call (.Name "range" p) [a,b] [] pos) (iRng2 ta):=by
 intro pins s σ H R I h
 refine Call_ (lN I hg hm boot_range (Zw (cZ (ha pos pins s σ H _ I h) λus s1 ⟨vs,H1,I1,r1,q1⟩=>?_) (by rw[hs,hs2]) (by rw[hs2];rfl)))
 obtain⟨i,j,e,⟨q1,q2,q3,q4⟩,q⟩:=q1
 subst e
 cases r1 with
 | cons r rr=>
  cases rr with
  | cons r' rr=>
   cases rr
   obtain⟨t,rfl⟩:=r
   obtain⟨t',rfl⟩:=r'
   exact call_range_2 (Bz I1 q1 q2 q3 q4 q)
def tFor(wi:TI)(g:TG)(tb:TS):TS:=λD σ H=>wi σ H λJ H1=>∃ W:Nat->Nat->St->Hp->Prop,(∃ m,W 0 m σ H1)/\∀ i m σ H,W i m σ H ->
 (J.stop i H/\D.nx σ H)\/(J.go i H/\∃ N:St->Hp->Prop,(∀ σ' H',N σ' H'->∃ m',m'<m/\W (i+1) m' σ' H')/\∀ x H',J.yld i H x H'->g x σ H' λσ2 H2=>tb { D with nx:=N,ct:=N,bk:=D.nx } σ2 H2)
noncomputable def ug(fp:List tx)(h:Ws):List (tx×Obj):=fp.filterMap λb=>(h.get? b).map λo=>(b,o)
def lL{fp:List tx}{h:Ws}{b:tx}{o:Obj}(hb:b∈fp)(e:h.get? b=U o):(b,o)∈ug fp h:=acQ.mpr ⟨b,hb,by rw[e];rfl⟩
def Jg{p:tx×Obj}(hp:p∈ug fp h):p.1∈fp/\h.get? p.1=U p.2:=by
 obtain⟨b,hb,e⟩:=acQ.mp hp
 cases q:h.get? b with
 | none=>rw[q] at e;cases e
 | some o=>
  rw[q] at e
  have e':(b,o)=p:=YU e
  subst e'
  exact⟨hb,q⟩
def Inv.pinned{s:td}{fp:List tx}(I:Inv X pins σ H s)(hf:∀ b∈fp,rP X pins H b)(ho:∀ b∈fp,∃ o,s.heap.get? b=U o/\∀ v,o.data≠.cell v):Inv X (pins++ug fp s.heap) σ H s:=
 I.pins_of λp hp=>(YX.mp hp).elim (λz=>I.pin p (Zs _ z)) λz=>by
  obtain⟨hb,e⟩:=Jg z
  obtain⟨f0,f1,f2,_⟩:=hf p.1 hb
  obtain⟨o,e',d⟩:=ho p.1 hb
  rw[e] at e';cases e'
  exact⟨e,f0,f1,f2,d⟩
def Inv.unpinned{pins pl:List (tx×Obj)}{s:td}(I:Inv X (pins++pl) σ H s):Inv X pins σ H s:=I.pins_of λp hp=>I.pin p (Zs _ (Zz _ hp))
noncomputable def Ml{iter:Nl}(hp:PassesOwn (model X.prog X.w) X.A X.env X.xe)(hc:X.calm=true)(hi:PI X tg iter wi)(hg:PG X tg g)(hb:PSs X body tb)
  (hs:∀ x,ada iter X.env x=pure x):PS X (.For tg iter body [] pos) (tFor wi g tb):=by
 intro pins s σ H D I h
 refine wpAny_For (cZ (hi pins s σ H _ I h) λv s1 h1=>cZ h1 λitv s2 h2=>?_) hs
 obtain⟨it,fp,tn,J,H2,e,I2,T,st2,f2,W,⟨m0,w0⟩,turn⟩:=h2
 subst e
 have stat:∀ {H':Hp},(∀ b∈fp,H' b=Y)->∀ b∈fp,rP X pins H' b:=λhn b hb=>⟨hn b hb,(f2 b hb).2⟩
 refine codeAny_forLoop_any (λn s'=>∃ i σ' H',Inv X pins σ' H' s'/\tn i s'.heap/\(∀ b∈fp,H' b=Y)/\W i n σ' H') ?_ m0 ⟨0,σ,H2,I2,st2,λb hb=>(f2 b hb).1,w0⟩
 rintro n s3 ⟨i,σ3,H3,I3,st3,fr3,w3⟩
 rcases turn i n σ3 H3 w3 with ⟨stop,qn⟩ | ⟨go,N,hN,step⟩
 ·refine aaq hp (cZ (T.done X rfl rfl rfl hc i pins s3 σ3 H3 X.xe I3 (stat fr3) st3 stop) λr s4 ⟨hr,I4⟩=>?_)
  subst hr
  exact aaF ⟨σ3,H3,I4,qn⟩
 ·refine aaq hp (cZ (T.item X rfl rfl rfl hc i pins s3 σ3 H3 X.xe I3 (stat fr3) st3 go) λr s4 ⟨u,hr,h4⟩=>?_)
  subst hr
  refine aaq hp (cZ h4 λ_ s5 ⟨x,H5,I5,r5,y5,st5,fr5⟩=>?_)
  have I5':=I5.pinned (stat fr5) (T.obj _ _ st5)
  refine aaq hp (cZ (hg _ s5 σ3 H5 x u _ I5' r5 (step x H5 y5)) λ_ s6 ⟨σ6,H6,I6,q6⟩=>?_)
  refine aaq hp (cZ (hb _ s6 σ6 H6 _ I6 q6) λf s7 q7=>?_)
  have again:∀ {σ7:St} {H7:Hp},Inv X (pins++ug fp s5.heap) σ7 H7 s7->N σ7 H7->∃ m,m<n/\∃ i σ' H',Inv X pins σ' H' s7/\tn i s7.heap/\(∀ b∈fp,H' b=Y)/\W i m σ' H':=λ{σ7 H7} I7 n7=>by
   obtain⟨m',hm,w7⟩:=hN σ7 H7 n7
   refine⟨m',hm,i+1,σ7,H7,I7.unpinned,T.keep _ _ _ st5 λb hb o e=>(I7.pin (b,o) (Zs _ (Zs _ (lL hb e)))).1,λb hb=>?_,w7⟩
   obtain⟨o,e,d⟩:=T.obj _ _ st5 b hb
   exact(I7.pin (b,o) (Zs _ (Zs _ (lL hb e)))).2.1
  cases f with
  | next=>obtain⟨σ7,H7,I7,n7⟩:=q7;exact again I7 n7
  | cont=>obtain⟨σ7,H7,I7,n7⟩:=q7;exact again I7 n7
  | brk=>obtain⟨σ7,H7,I7,q7⟩:=q7;exact⟨σ7,H7,I7.unpinned,q7⟩
  | ret v=>obtain⟨x7,σ7,H7,I7,r7,q7⟩:=q7;exact⟨x7,σ7,H7,I7.unpinned,r7,q7⟩
end
abbrev R2:=V->V->Hp->VK->Prop
def OpR(X:Cx)(f:gV->gV->Sem gV)(r:R2):Prop:=
 ∀ (pins:List (tx×Obj)) (s:td) (σ:St) (H:Hp) (x y:V) (v u:gV) (Q:VK),Inv X pins σ H s->RelV x v->RelV y u->r x y H Q ->
  ade (model X.prog X.w) X.A (f v u) (EP X pins σ Q) X.xe s
def UnR(X:Cx)(f:gV->Sem gV)(r:V->Hp->VK->Prop):Prop:=
 ∀ (pins:List (tx×Obj)) (s:td) (σ:St) (H:Hp) (x:V) (v:gV) (Q:VK),Inv X pins σ H s->RelV x v->r x H Q ->
  ade (model X.prog X.w) X.A (f v) (EP X pins σ Q) X.xe s
def CallR(X:Cx)(f:gV)(r:List V->Hp->VK->Prop):Prop:=
 ∀ (pins:List (tx×Obj)) (s:td) (σ:St) (H:Hp) (xs:List V) (us:List gV) (Q:VK),Inv X pins σ H s->Vals xs us->r xs H Q ->
  ade (model X.prog X.w) X.A (call f us) (EP X pins σ Q) X.xe s
def TruR(X:Cx)(r:V->Hp->(Bool->Hp->Prop)->Prop):Prop:=
 ∀ (pins:List (tx×Obj)) (s:td) (σ:St) (H:Hp) (x:V) (v:gV) (Q:Bool->Hp->Prop),Inv X pins σ H s->RelV x v->r x H Q ->
  ade (model X.prog X.w) X.A (truthy v) (TP X pins σ Q) X.xe s
def tOp(r:R2)(ta tb:TE):TE:=λσ H Q=>ta σ H λx H1=>tb σ H1 λy H2=>r x y H2 Q
def tUn(r:V->Hp->VK->Prop)(ta:TE):TE:=λσ H Q=>ta σ H λx H1=>r x H1 Q
def rI(C:Int->Int->Prop)(g:Int->Int->V):R2:=λx y H Q=>∃ i j,x=.int i/\y=.int j/\C i j/\Q (g i j) H
def QN(g:Int->Int->V):R2:=λx y H Q=>∃ i j,x=.int i/\y=.int j/\Q (g i j) H
def rU(g:Int->V):V->Hp->VK->Prop:=λx H Q=>∃ i,x=.int i/\Q (g i) H
section
variable{X:Cx}{a b c:Nl}{ta tb tc:TE}{pos:Pos}
def Yg(ha:PE X a ta)(hb:PE X b tb){s:td}{R:V->V->Hp->Prop}(I:Inv X pins σ H s)
  (h:ta σ H λx H1=>tb σ H1 λy H2=>R x y H2) {f:gV->gV->Sem gV}
  (hf:∀ v u s2 x y H2,Inv X pins σ H2 s2->RelV x v->RelV y u->R x y H2->ade (model X.prog X.w) X.A (f v u) Q X.xe s2) :
  ade (model X.prog X.w) X.A (eval a X.env) (λv s₁=>ade (model X.prog X.w) X.A (eval b X.env) (λu s₂=>ade (model X.prog X.w) X.A (f v u) Q X.xe s₂) X.xe s₁) X.xe s:=by
 refine cZ (ha pins s σ H _ I h) λv s1 ⟨x,H1,I1,r1,q1⟩=>?_
 refine cZ (hb pins s1 σ H1 _ I1 q1) λu s2 ⟨y,H2,I2,r2,q2⟩=>?_
 exact hf v u s2 x y H2 I2 r1 r2 q2
def Us(ho:OpR X (add op) r)(ha:PE X a ta)(hb:PE X b tb):PE X (.BinOp a op b pos) (tOp r ta tb):=by
 intro pins s σ H Q I h
 exact wpAny_BinOp (Yg ha hb I h λv u s2 x y H2 I2 rx ry q=>ho pins s2 σ H2 x y v u Q I2 rx ry q)
def pe_un(ho:UnR X (unaryOp op) r)(ha:PE X a ta):PE X (.UnaryOp op a pos) (tUn r ta):=by
 intro pins s σ H Q I h
 exact UnaryOp_ (cZ (ha pins s σ H _ I h) λv s1 ⟨x,H1,I1,r1,q1⟩=>ho pins s1 σ H1 x v Q I1 r1 q1)
def opI{f:gV->gV->Sem gV}{C:Int->Int->Prop}{g:Int->Int->Int}
  (rule:∀ (i j:Int) (t u:Tok) (s:td) (Q:gV->td->Prop) (E:gV->td->Prop),C i j->Q (.int (g i j) s.toks) { s with toks:=s.toks+1 }->ade (model X.prog X.w) X.A (f (.int i t) (.int j u)) Q E s) :
  OpR X f (rI C λi j=>.int (g i j)):=by
 intro pins s σ H x y v u Q I rx ry h
 obtain⟨i,j,rfl,rfl,hc,q⟩:=h
 obtain⟨t,rfl⟩:=rx
 obtain⟨t',rfl⟩:=ry
 exact rule i j t t' s _ _ hc ⟨.int (g i j),H,I.tok _,⟨_,rfl⟩,q⟩
def opI0{f:gV->gV->Sem gV}{g:Int->Int->Int}
  (rule:∀ (i j:Int) (t u:Tok) (s:td) (Q:gV->td->Prop) (E:gV->td->Prop),Q (.int (g i j) s.toks) { s with toks:=s.toks+1 }->ade (model X.prog X.w) X.A (f (.int i t) (.int j u)) Q E s) :
  OpR X f (QN λi j=>.int (g i j)):=by
 intro pins s σ H x y v u Q I rx ry h
 obtain⟨i,j,rfl,rfl,q⟩:=h
 obtain⟨t,rfl⟩:=rx
 obtain⟨t',rfl⟩:=ry
 exact rule i j t t' s _ _ ⟨.int (g i j),H,I.tok _,⟨_,rfl⟩,q⟩
def RD{f:gV->gV->Sem gV}{g:Int->Int->Bool}
  (rule:∀ (i j:Int) (t u:Tok) (s:td) (Q:gV->td->Prop) (E:gV->td->Prop),Q (.bool (g i j)) s->ade (model X.prog X.w) X.A (f (.int i t) (.int j u)) Q E s) :
  OpR X f (QN λi j=>.bl (g i j)):=by
 intro pins s σ H x y v u Q I rx ry h
 obtain⟨i,j,rfl,rfl,q⟩:=h
 obtain⟨t,rfl⟩:=rx
 obtain⟨t',rfl⟩:=ry
 exact rule i j t t' s _ _ ⟨.bl (g i j),H,I,rfl,q⟩
def CDiv(i j:Int):Prop:=0<j/\j<1073741824
def CPow(i j:Int):Prop:=0<=j/\j<=1000000/\i.natAbs<2^64
def VX:OpR X (add .Add) (QN λi j=>.int (i+j)):=opI0 λ_ _ _ _ _ _ _ q=>add_int q
def VS:OpR X (add .Sub) (QN λi j=>.int (i - j)):=opI0 λ_ _ _ _ _ _ _ q=>sub_int q
theorem Rz:OpR X (add .FloorDiv) (rI CDiv λi j=>.int (i / j)):=opI λi j _ _ _ _ _ hc q=>by
 have h1:(0:Int)<j:=hc.1
 have h2:j<1073741824:=hc.2
 exact floordiv_int (by omega) (by rw[Int.fdiv_eq_ediv_of_nonneg i (by omega)];exact q) (.inl (PyProof.noPylong_small (by omega)))
theorem VW:OpR X (add .Mod) (rI (λ_ j=>0<j) λi j=>.int (i%j)):=opI λi j _ _ _ _ _ hc q=>by
 have h1:(0:Int)<j:=hc
 exact mod_int' (by omega) (by rw[Int.fmod_eq_emod_of_nonneg i (by omega)];exact q)
def VU:OpR X (add .Pow) (rI CPow λi j=>.int (i^j.toNat)):=opI λ_ _ _ _ _ _ _ hc q=>pow_int_small hc.1 hc.2.1 hc.2.2 q
def unI{f:gV->Sem gV}{g:Int->Int}
  (rule:∀ (i:Int) (t:Tok) (s:td) (Q:gV->td->Prop) (E:gV->td->Prop),Q (.int (g i) s.toks) { s with toks:=s.toks+1 }->ade (model X.prog X.w) X.A (f (.int i t)) Q E s) :
  UnR X f (rU λi=>.int (g i)):=by
 intro pins s σ H x v Q I rx h
 obtain⟨i,rfl,q⟩:=h
 obtain⟨t,rfl⟩:=rx
 exact rule i t s _ _ ⟨.int (g i),H,I.tok _,⟨_,rfl⟩,q⟩
def Ve:UnR X (unaryOp .USub) (rU λi=>.int (-i)):=unI λ_ _ _ _ _ q=>neg_int q
end
section
variable{X:Cx}{a b c:Nl}{ta tb tc:TE}{pos:Pos}
def op_lt:OpR X (adc .Lt) (QN λi j=>.bl (decide (i<j))):=RD λ_ _ _ _ _ _ _ q=>lt_int q
def op_le:OpR X (adc .LtE) (QN λi j=>.bl (decide (i<=j))):=RD λ_ _ _ _ _ _ _ q=>le_int q
def op_gt:OpR X (adc .Gt) (QN λi j=>.bl (decide (j<i))):=RD λ_ _ _ _ _ _ _ q=>gt_int q
def op_ge:OpR X (adc .GtE) (QN λi j=>.bl (decide (j<=i))):=RD λ_ _ _ _ _ _ _ q=>ge_int q
def OpR.or(h:OpR X f r)(h':OpR X f r'):OpR X f (λx y H Q=>r x y H Q\/r' x y H Q):=by
 intro pins s σ H x y v u Q I rx ry q
 rcases q with q | q
 ·exact h pins s σ H x y v u Q I rx ry q
 ·exact h' pins s σ H x y v u Q I rx ry q
def Ro(ho:OpR X (adc op) r)(ha:PE X a ta)(hb:PE X b tb)(hm:behindInMarks op b=false):PE X (.Compare a [op] [b] pos) (tOp r ta tb):=by
 intro pins s σ H Q I h
 exact wpAny_Compare1 (Yg ha hb I h λv u s2 x y H2 I2 rx ry q=>ho pins s2 σ H2 x y v u Q I2 rx ry q) hm
def Ui(t:TE):TT:=λσ H Q=>t σ H λx H'=>∃ k,x=.bl k/\Q k H'
def QU(ho:OpR X (adc op) r)(ha:PE X a ta)(hb:PE X b tb)(hm:behindInMarks op b=false):PT X (.Compare a [op] [b] pos) (Ui (tOp r ta tb)):=by
 intro pins s σ H Q I h
 refine wpAny_isTrue_Compare1 (cZ (ha pins s σ H _ I h) λv s1 ⟨x,H1,I1,r1,q1⟩=>cZ (hb pins s1 σ H1 _ I1 q1) λu s2 ⟨y,H2,I2,r2,q2⟩=>
  cZ (ho pins s2 σ H2 x y v u _ I2 r1 r2 q2) λc s3 ⟨z,H3,I3,r3,k,e,q3⟩=>?_) hm
 subst e
 cases r3
 exact aab ⟨H3,I3,q3⟩
def Eo(r r':R2)(ta tb tc:TE):TE:=λσ H Q=>ta σ H λx H1=>tb σ H1 λy H2=>r x y H2 λz H3=>∃ k,z=.bl k /\
 (if k=true then tc σ H3 λw' H4=>r' y w' H4 Q else Q (.bl false) H3)
noncomputable def Mx(ho:OpR X (adc op) r)(ho':OpR X (adc op') r')(ha:PE X a ta)(hb:PE X b tb)(hc:PE X c tc)
  (hm:lastMarks [op,op'] [b,c]=false:=by with_unfolding_all rfl):PE X (.Compare a [op,op'] [b,c] pos) (Eo r r' ta tb tc):=by
 intro pins s σ H Q I h
 refine Compare_chain (cZ (ha pins s σ H _ I h) λv s1 ⟨x,H1,I1,r1,q1⟩=>chain_link (cZ (hb pins s1 σ H1 _ I1 q1) λu s2 ⟨y,H2,I2,r2,q2⟩=>
  cZ (ho pins s2 σ H2 x y v u _ I2 r1 r2 q2) λd s3 ⟨z,H3,I3,r3,k,e,q3⟩=>?_)) hm
 subst e
 cases r3
 refine aab ?_
 cases k with
 | false=>exact ite_ff ⟨.bl false,H3,I3,rfl,q3⟩
 | true=>exact ite_tt (chain_last (cZ (hc pins s3 σ H3 _ I3 q3) λw' s4 ⟨z',H4,I4,r4,q4⟩=>ho' pins s4 σ H4 y z' u w' Q I4 r2 r4 q4))
noncomputable def Me(ho:OpR X (adc op) r)(ho':OpR X (adc op') r')(ha:PE X a ta)(hb:PE X b tb)(hc:PE X c tc)
  (hm:lastMarks [op,op'] [b,c]=false:=by with_unfolding_all rfl):PT X (.Compare a [op,op'] [b,c] pos) (Ui (Eo r r' ta tb tc)):=by
 intro pins s σ H Q I h
 refine isTrue_chain (cZ (ha pins s σ H _ I h) λv s1 ⟨x,H1,I1,r1,q1⟩=>test_link (cZ (hb pins s1 σ H1 _ I1 q1) λu s2 ⟨y,H2,I2,r2,q2⟩=>
  cZ (ho pins s2 σ H2 x y v u _ I2 r1 r2 q2) λd s3 ⟨z,H3,I3,r3,k,e,q3⟩=>?_)) hm
 subst e
 cases r3
 refine aab ?_
 cases k with
 | false=>
  obtain⟨k',e',q'⟩:=q3
  cases e'
  exact ite_ff ⟨H3,I3,q'⟩
 | true=>
  refine ite_tt (test_last (cZ (hc pins s3 σ H3 _ I3 q3) λw' s4 ⟨z',H4,I4,r4,q4⟩=>cZ (ho' pins s4 σ H4 y z' u w' _ I4 r2 r4 q4) λd' s5 ⟨z2,H5,I5,r5,k2,e2,q5⟩=>?_))
  subst e2
  cases r5
  exact aab ⟨H5,I5,q5⟩
def KU(K:adf)(x:V)(H:Hp)(k:Bool):Prop:=
 match x with
 | .non=>k=false
 | .bl b=>k=b
 | .int i=>k=(i != 0)
 | .str y=>y.length<=acY/\k=((y.length:Int) != 0)
 | .byt y=>y.size<=acY/\k=((y.size:Int) != 0)
 | .ref p=>(∃ xs,pz K H p xs/\k = !xs.isEmpty)\/(∃ xs,lZ K H p xs/\k = !xs.isEmpty)\/∃ kvs,H p=U (.dK kvs)/\k = !kvs.isEmpty
 | _=>False
def FV{κ:Type}{kvs:List (κ×V)}{vs:List (κ×gV)}(r:KV kvs vs):(!vs.isEmpty) = !kvs.isEmpty:=by
 cases r<;>rfl
def vp{xs:List V}{its:List gV}(r:Vals xs its):(!its.toArray.isEmpty) = !xs.isEmpty:=by
 cases r<;>simp
def qW:(acY:Nat)<2^63:=by rw[abd];decide
theorem yR:TruR X (λx H Q=>∃ k,KU X.K x H k/\Q k H):=by
 intro pins s σ H x v Q I rx h
 obtain⟨k,e,q⟩:=h
 have hl:=qW
 have hs:acY=16777216:=abd
 cases x with
 | non=>
  cases rx
  have e':k=false:=e
  subst e'
  exact truthy_none ⟨H,I,q⟩
 | bl b=>
  cases rx
  have e':k=b:=e
  subst e'
  exact aab ⟨H,I,q⟩
 | int i=>
  obtain⟨t,rfl⟩:=rx
  have e':k=(i != 0):=e
  subst e'
  exact PySem.P.truthy_int ⟨H,I,q⟩
 | str y=>
  obtain⟨t,rfl⟩:=rx
  obtain⟨hy,e'⟩:y.length<=acY/\k=((y.length:Int) != 0):=e
  subst e'
  exact PySem.P.truthy_str (by omega) ⟨H,I.tok _,q⟩
 | byt y=>
  obtain⟨t,rfl⟩:=rx
  obtain⟨hy,e'⟩:y.size<=acY/\k=((y.size:Int) != 0):=e
  subst e'
  exact W.truthy_bytes (by omega) ⟨H,I.tok _,q⟩
 | ref p=>
  cases rx
  have e':(∃ xs,pz X.K H p xs/\k = !xs.isEmpty)\/(∃ xs,lZ X.K H p xs/\k = !xs.isEmpty)\/∃ kvs,H p=U (.dK kvs)/\k = !kvs.isEmpty:=e
  rcases e' with ⟨xs,hx,e'⟩ | ⟨xs,hx,e'⟩ | ⟨kvs,hx,e'⟩
  ·subst e'
   obtain⟨its,r,pl,hz⟩:=I.list hx
   have hlen:=r.length
   exact wpAny_truthy_list pl.isList (by simp only[YC];omega) ⟨H,I.tok _,by rw[vp r];exact q⟩
  ·subst e'
   obtain⟨its,r,pl,hz⟩:=I.tuple hx
   have hlen:=r.length
   exact truthy_tuple pl (by simp only[YC];omega) ⟨H,I.tok _,by rw[vp r];exact q⟩
  ·subst e'
   obtain⟨hz,hS,vs,r,m⟩:kvs.length<=acY/\(p==sysModules)=false/\∃ vs,KV kvs vs/\s.heap.DictOf (cq X.prog X.w) p vs:=I.hok p _ hx
   have hlen:kvs.length=vs.length:=acl r
   exact wpAny_truthy_dict hS m (by omega) ⟨H,I.tok _,by rw[FV r];exact q⟩
 | _=>exact(show False from e).elim
def Md(ha:PE X a ta)(he:∀ whole,isTrue a X.env whole=(do let v <- whole;standAt a.pos;holding [v] (truthy v))) :
  PT X a (λσ H Q=>ta σ H λx H'=>∃ k,KU X.K x H' k/\Q k H'):=by
 intro pins s σ H Q I h
 exact isTrue_plain (cZ (ha pins s σ H _ I h) λv s1 ⟨x,H1,I1,r1,q1⟩=>yR pins s1 σ H1 x v Q I1 r1 q1) (he _)
def ES:OpR X (add .Add) (λx y H Q=>∃ i j,x=.str i/\y=.str j/\i.length+j.length<=acY/\Q (.str (i++j)) H):=by
 intro pins s σ H x y v u Q I rx ry h
 obtain⟨i,j,rfl,rfl,hz,q⟩:=h
 obtain⟨t,rfl⟩:=rx
 obtain⟨t',rfl⟩:=ry
 exact add_str (λt' tk=>⟨.str (i++j),H,I.tok _,⟨_,rfl⟩,q⟩) hz
def pF{x:V}(r:Vals [x] us):∃ u,us=[u]/\RelV x u:=by
 cases r with
 | cons r1 r2=>cases r2;exact⟨_,rfl,r1⟩
def Bc{x y:V}(r:Vals [x,y] us):∃ u w',us=[u,w']/\RelV x u/\RelV y w':=by
 cases r with
 | cons r1 r2=>
  cases r2 with
  | cons r3 r4=>cases r4;exact⟨_,_,rfl,r1,r3⟩
def KL(hc:X.calm=true):CallR X (.builtin "max") (λxs H Q=>∃ i j,xs=[.int i,.int j]/\Q (.int (if j>i then j else i)) H):=by
 intro pins s σ H xs us Q I r h
 obtain⟨i,j,rfl,q⟩:=h
 obtain⟨u,w',rfl,⟨t,rfl⟩,⟨t',rfl⟩⟩:=Bc r
 refine max_two_ints (I.ok.hd hc) λh' tk k=>⟨_,H,I.kept k,?_,q⟩
 by_cases hj:j>i
 ·rw[YR hj,YR hj];exact⟨_,rfl⟩
 ·rw[if_neg hj,if_neg hj];exact⟨_,rfl⟩
def KI(hc:X.calm=true):CallR X (.builtin "min") (λxs H Q=>∃ i j,xs=[.int i,.int j]/\Q (.int (if j<i then j else i)) H):=by
 intro pins s σ H xs us Q I r h
 obtain⟨i,j,rfl,q⟩:=h
 obtain⟨u,w',rfl,⟨t,rfl⟩,⟨t',rfl⟩⟩:=Bc r
 refine min_two_ints (I.ok.hd hc) λh' tk k=>⟨_,H,I.kept k,?_,q⟩
 by_cases hj:j<i
 ·rw[YR hj,YR hj];exact⟨_,rfl⟩
 ·rw[if_neg hj,if_neg hj];exact⟨_,rfl⟩
def KM:CallR X (.type "int") (λxs H Q=>(∃ i,xs=[.int i]/\Q (.int i) H)\/∃ k,xs=[.bl k]/\Q (.int (if k then 1 else 0)) H):=by
 intro pins s σ H xs us Q I r h
 rcases h with ⟨i,rfl,q⟩ | ⟨k,rfl,q⟩
 ·obtain⟨u,rfl,t,rfl⟩:=pF r
  exact call_int_int ⟨.int i,H,I,⟨_,rfl⟩,q⟩
 ·obtain⟨u,rfl,r1⟩:=pF r
  cases r1
  exact call_int_bool ⟨.int (if k then 1 else 0),H,I.tok _,⟨_,rfl⟩,q⟩
end
def yc{h:Ws}(n:h.Ns1 dx mA):∃ od,h.get? dx=U od/\∀ name,W.lookIn name od=U (mA name):=by
 obtain⟨o,es,ep,ho,hd,hk,_,hm⟩:=n
 refine⟨o,ho,λname=>?_⟩
 have e:=hm name
 unfold nsFind findBy at e
 rw[<- acX] at e
 unfold W.lookIn
 rw[hd]
 dsimp only
 split
 ·rename_i y q
  rw[q] at e
  exact congrArg U e
 ·rename_i q
  rw[q] at e
  have a:es.toList.any (·.refKey)=false:=by
   rw[List.any_eq_false]
   intro y hy
   obtain⟨z,t,hkey⟩:=hk y (Array.mem_toList_iff.mp hy)
   simp[DictEntry.refKey,hkey]
  have a':¬ es.toList.any (·.refKey)=true:=by rw[a];exact adh
  rw[if_neg a']
  exact congrArg U e
def RelO.some_of{v:V}(r:RelO (U v) o):∃ u,o=U u/\RelV v u:=by
 cases o with
 | none=>exact(show False from r).elim
 | some u=>exact⟨u,rfl,r⟩
def JR(r:RelV v u):W.handedIn u=true:=by
 cases v with
 | non=>cases(show u=Value.none from r);rfl
 | bl b=>cases(show u=Value.bool b from r);rfl
 | int i=>obtain⟨t,e⟩:=(show ∃ t,u=Value.int i t from r);cases e;rfl
 | str x=>obtain⟨t,e⟩:=(show ∃ t,u=Value.str x t from r);cases e;rfl
 | byt b=>obtain⟨t,e⟩:=(show ∃ t,u=Value.bytes b t from r);cases e;rfl
 | flt b=>obtain⟨t,e⟩:=(show ∃ t,u=Value.float b t from r);cases e;rfl
 | ref a=>cases(show u=Value.ref a from r);rfl
 | ty n=>cases(show u=Value.type n from r);rfl
section
variable{X:Cx}{pins:List (tx×Obj)}{σ:St}{H:Hp}{s:td}{a C dx:tx}{fs:List (Str×V)}{f:Str}{v:V}{A:Wr}{E:gV->td->Prop}
def TN{f:Str}{s:td}(hb:attributeBase e f env (eval e env)=eval e env)
  (h:ade (model prog w) A (eval e env) (λo s₁=>ade (model prog w) A (getAttr o f true) Q E s₁) E s):ade (model prog w) A (eval (.Attribute e f pos) env) Q E s:=
 Attribute_any_ h (by rw[arm_eval_Attribute,hb])
end
structure Room(k:Nat)(A:Wr):Prop where
 hd:A.handled=Y
 dp:A.depth+3*k+5<recursionLimit
 un:A.units+16*k+200<cLine
theorem Room.mono{j k:Nat}(r:Room k A)(h:j<=k):Room j A:=⟨r.hd,by have:=r.dp;omega,by have:=r.un;omega⟩
theorem Room.deeper{k:Nat}(r:Room (k+1) A)(env:Env):Room k (A.deeper env):=
 ⟨r.hd,by have:=r.dp;show A.depth+1+3*k+5<_;omega,by have:=r.un;show A.units+3+16*k+200<_;omega⟩
def Fq{A:Wr}{us:List gV}{kw:List (Str×gV)}:(A.under (.builtin "type.__call__" ⟨.ref C::us,kw⟩)).depth=A.depth+1:=by
 first | rfl | simp[Around.under,Code.weight,Code.isCreation,Code.isGuard,Code.isCaller,Code.frames,Code.isFrame,guardIds]
def Fo{A:Wr}{us:List gV}{kw:List (Str×gV)}:(A.under (.builtin "type.__call__" ⟨.ref C::us,kw⟩)).units=A.units+1:=by
 first | rfl | simp[Around.under,Code.cUnits,Code.frames,Code.isFrame]
theorem Room.make{k:Nat}(r:Room (k+1) A)(C:tx)(us:List gV)(kw:List (Str×gV)):Room k (A.under (.builtin "type.__call__" ⟨.ref C::us,kw⟩)):=
 ⟨r.hd,by have:=r.dp;rw[Fq];omega,by have:=r.un;rw[Fo];omega⟩
theorem Room.depth{k:Nat}(r:Room k A):A.depth<recursionLimit:=by have:=r.dp;omega
theorem Room.units{k:Nat}(r:Room k A):A.units+64<cLine:=by have:=r.un;omega
def tNil:TA:=λ_ H Q=>Q [] H
def tCons(ta:TE)(tr:TA):TA:=λσ H Q=>ta σ H λx H1=>tr σ H1 λxs H2=>Q (x::xs) H2
section
variable{X:Cx}{e:Nl}{es:List Nl}{te:TE}{t:TA}{pos:Pos}
def uh:PA X [] tNil:=λ_ _ _ _ H Q I h=>Calls.spliced_nil ⟨[],H,I,.nil,h⟩
noncomputable def ko(ha:PE X e te)(hr:PA X es t)(hs:acZ (e::es) X.env=(false,eval e X.env)::acZ es X.env):PA X (e::es) (tCons te t):=by
 intro pos pins s σ H Q I h
 rw[hs]
 show ade _ _ (spliced ((false,eval e X.env)::backTo pos (acZ es X.env))) _ _ s
 refine acV (cZ (ha pins s σ H _ I h) λu s1 ⟨x,H1,I1,r1,q1⟩=>?_)
 exact cZ (hr pos pins s1 σ H1 _ I1 q1) λus s2 ⟨xs,H2,I2,r2,q2⟩=>⟨x::xs,H2,I2,.cons r1 r2,q2⟩
def tTup(t:TA):TE:=λσ H Q=>t σ H λxs H1=>xs.length<=acY/\∀ p,H1 p=Y->Q (.ref p) (upd H1 p (.tup xs))
def tLst(t:TA):TE:=λσ H Q=>t σ H λxs H1=>xs.length<=acY/\∀ p,H1 p=Y->Q (.ref p) (upd H1 p (.lst xs))
def Mq{x1}(h:PA X es t):PE X (.Tuple es x1 pos) (tTup t):=by
 intro pins s σ H Q I hq
 refine wpAny_Tuple_spliced (cZ (h pos pins s σ H _ I hq) λus s1 ⟨xs,H1,I1,r,z,q⟩=>⟨by rw[<- r.length];exact z,?_⟩)
 have hf:H1 s1.heap.objs.size=Y:=I1.hok.fresh (YL _)
 refine⟨.ref s1.heap.objs.size,upd H1 s1.heap.objs.size (.tup xs),I1.laid (t':=s1.toks) (λb u e=>YA _ e) (YL _) ?_,rfl,q _ hf⟩
 exact⟨z,us,r,⟨_,YN _ rfl,rfl,⟨_,rfl⟩,rfl⟩⟩
def Ms(h:PA X es t):PE X (.List es pos) (tLst t):=by
 intro pins s σ H Q I hq
 refine wpAny_List_spliced (cZ (h pos pins s σ H _ I hq) λus s1 ⟨xs,H1,I1,r,z,q⟩=>⟨by rw[<- r.length];exact z,?_⟩)
 have hf:H1 s1.heap.objs.size=Y:=I1.hok.fresh (YL _)
 refine⟨.ref s1.heap.objs.size,upd H1 s1.heap.objs.size (.lst xs),I1.laid (t':=s1.toks) (λb u e=>YA _ e) (YL _) ?_,rfl,q _ hf⟩
 exact⟨z,us,0,r,YN _ rfl⟩
end
abbrev Sp:=List V->Hp->VK->XK->Prop
abbrev KZ:=List Env->Hp->td->XK->gV->td->Prop
structure Env0(P:Of)(w:RG)(K:adf)(mg:Str->Option gV)(base:Ws)(A:Wr)(outer:List Env)(s:td)(H:Hp):Prop where
 frames:A.frames=U outer
 mod:Mod K mg base
 bs:∀ b o,base.get? b=U o->s.heap.get? b=U o/\H b=Y
 bsz:base.objs.size<=s.heap.objs.size
 funs:s.heap.FunFrames base outer
 frf:∀ b∈yt outer,H b=Y
 hok:HOk P w H s.heap
 bare:AllBare s.gens
def CE(outer:List Env)(P:Of)(w:RG)(H:Hp)(s:td)(Q:VK)(u:gV)(s':td):Prop:=
 ∃ v H',s'.os=s.os/\AllBare s'.gens/\Un (yt outer) [] H H' s.heap s'.heap/\HOk P w H' s'.heap/\RelV v u/\Q v H'
def CR(CX:KZ)(outer:List Env)(P:Of)(w:RG)(H:Hp)(s:td)(Q:VK)(E:XK)(r:Result)(s':td):Prop:=
 match r with
 | .ok (.ret u)=>CE outer P w H s Q u s'
 | .ok _=>False
 | .error e=>CX outer H s E e s'
structure FnOk(P:Of)(w:RG)(K:adf)(mg:Str->Option gV)(base:Ws)(CX:KZ)(k:Nat)(f:tx)(fd:FuncData)(ps:List Str)(sp:Sp):Prop where
 len:∀ vs H Q E,sp vs H Q E->vs.length=ps.length
 run:∀ (A:Wr) (outer:List Env) (s:td) (H:Hp) (args:Args) (us:List gV) (vs:List V) (Q:VK) (E:XK),Room k A->Env0 P w K mg base A outer s H->BindsTo s fd args (ps.zip us)->Vals vs us->sp vs H Q E ->
  codeAny (model P w) A (.call (.ref f) args) (CR CX outer P w H s Q E) s
theorem FnOk.mono{K:adf}{k:Nat}(F:FnOk P w K mg base CX j f fd ps sp)(h:j<=k) :
  FnOk P w K mg base CX k f fd ps sp:=⟨F.len,λA outer s H args us vs Q E hr=>F.run A outer s H args us vs Q E (hr.mono h)⟩
def Env0.make{K:adf}{s:td}(e:Env0 P w K mg base A outer s H)(C:tx)(us:List gV)(kw:List (Str×gV)) :
  Env0 P w K mg base (A.under (.builtin "type.__call__" ⟨.ref C::us,kw⟩)) outer s H:=⟨by first | exact e.frames | (simpa[Around.under,Code.envs,Code.isFrame,pushEnvs] using e.frames),e.mod,e.bs,e.bsz,e.funs,e.frf,e.hok,e.bare⟩
section
variable{X:Cx}{pins:List (tx×Obj)}{σ:St}{H:Hp}{s s':td}
def Inv.env0(I:Inv X pins σ H s):Env0 X.prog X.w X.K X.mg X.base X.A X.stack s H:=
 ⟨I.ok.frames,I.ok.mod,I.bs,YW I.ok.bsz I.sz,I.stack,I.stkFree,I.hok,I.bare⟩
def Inv.after(I:Inv X pins σ H s)(h:CE X.stack X.prog X.w H s Q u s'):EP X pins σ Q u s':=by
 obtain⟨v,H',os,bare,un,hok,r,q⟩:=h
 obtain⟨hh,g,d,t,os'⟩:=s'
 obtain rfl:os'=s.os:=os
 exact⟨v,H',I.call (h':=hh) (g':=g) (d':=d) (t':=t) (ch:=[]) un hok bare (λb z=>absurd z (by simp)),r,q⟩
end
def xB(sp:Sp)(dvs:List V)(E:XK)(t:TA):TE:=λσ H Q=>t σ H λvs H1=>sp (vs++dvs) H1 Q E
def Binds(K:adf)(fd:FuncData)(ps:List Str)(ds:List gV):Prop:=
 ∀ (s:td) (us:List gV),K.In s.heap->(us++ds).length=ps.length->BindsTo s fd ⟨us,[]⟩ (ps.zip (us++ds))
def Binds.all{K:adf}{ps:List Str}(h:∀ us:List gV,us.length=ps.length->bindArgs fd ⟨us,[]⟩=pure (ps.zip us)):Binds K fd ps []:=λs us _ hl=>by
 rw[Zn] at hl ⊢
 exact .of_eq (h us hl)
def AV(CX:KZ)(X:Cx)(E:XK):Prop:=∀ (pins:List (tx×Obj)) (σ:St) (H:Hp) (s:td) (e:gV) (s':td),Inv X pins σ H s->CX X.stack H s E e s'->X.xe e s'
section
variable{X:Cx}{CX:KZ}{k:Nat}{f C:tx}{fd:FuncData}{ps:List Str}{sp:Sp}{dvs:List V}{ds:List gV}{E:XK}{x m:Str}{p pos apos:Pos}{e o:Nl}{es:List Nl}{ta:TE}{t:TA}
def EF{s:td}(F:FnOk X.prog X.w X.K X.mg X.base CX k f fd ps sp)(hr:Room k X.A)(hb:Binds X.K fd ps ds)(hd:Vals dvs ds)(hx:AV CX X E)
  (I:Inv X pins σ H s) (r:Vals vs us) (h:sp (vs++dvs) H Q E):ade (model X.prog X.w) X.A (call (.ref f) us) (EP X pins σ Q) X.xe s:=by
 have r2:Vals (vs++dvs) (us++ds):=r.append hd
 have hl:(us++ds).length=ps.length:=by rw[<- r2.length];exact F.len _ _ _ _ h
 refine abq (aas (F.run X.A X.stack s H ⟨us,[]⟩ (us++ds) (vs++dvs) Q E hr I.env0 (hb s us I.kIn hl) r2 h) λr s' hq=>?_)
 cases r with
 | error e=>exact hx pins σ H s e s' I hq
 | ok fl=>
  cases fl with
  | ret u=>exact I.after hq
  | next=>exact False.elim hq
  | brk=>exact False.elim hq
  | cont=>exact False.elim hq
noncomputable def Rp(F:FnOk X.prog X.w X.K X.mg X.base CX k f fd ps sp)(hr:Room k X.A)(hg:Gl X x)(hm:X.mg x=U (.ref f))(hk:W.keepIn X.K (.ref f)=true)(hb:Binds X.K fd ps ds)(hd:Vals dvs ds)(hx:AV CX X E)
  (ha:PA X (e::es) t) (hdb:(x==("__debug__":Str))=false) (he:acZ (e::es) X.env=(false,eval e X.env)::acZ es X.env) (hpl:(backTo pos (acZ es X.env)).any (·.1)=false) :
  PE X (.Call (.Name x p) (e::es) [] pos) (xB sp dvs E t):=by
 intro pins s σ H Q I h
 refine aan (qd I hg hm ?_ hdb)
 refine acv (h₀:=X.base) I.ok.mod.kin hk (cZ (ha pos pins s σ H _ I h) λus s1 ⟨vs,H1,I1,r,q⟩=>⟨I1.kIn,?_⟩) he hpl
 exact EF F hr hb hd hx I1 r q
noncomputable def Mz(F:FnOk X.prog X.w X.K X.mg X.base CX k f fd ps sp)(hr:Room k X.A)(hg:Gl X x)(hm:X.mg x=U (.ref f))(hk:W.keepIn X.K (.ref f)=true)(hb:Binds X.K fd ps ds)(hd:Vals dvs ds)(hx:AV CX X E)
  (hdb:(x==("__debug__":Str))=false):PE X (.Call (.Name x p) [] [] pos) (xB sp dvs E tNil):=by
 intro pins s σ H Q I h
 refine aan (qd I hg hm ?_ hdb)
 exact W.callWith_K0 I.kIn hk (EF (us:=[]) F hr hb hd hx I .nil h)
end
structure aN(N P:List Str)(sc:Scope):Prop where
 kind:sc.kind=.function
 co:sc.isCoroutine=false
 gen:sc.isGenerator=false
 nd:N.Nodup
 pre:N.take P.length=P
 par:∀ x∈P,sc.names.lookup x=U .local\/sc.names.lookup x=U .cell
 nofree:∀ y∈sc.names,y.2≠.free
theorem yJ{kindOf:Str->Option NameKind}{x:Str}:∀ {binds:List (Str×gV)} {m:Str->Option gV},(∀ v,(x,v)∉binds)->bindL kindOf binds m x=m x
 | [],_,_=>rfl
 | (n,v)::r,m,h=>by
  unfold bindL
  rw[yJ λw hw=>h w (YB _ hw)]
  split
  ·have:x≠n:=by rintro rfl;exact h v YF
   simp[this]
  ·rfl
theorem yL{kindOf:Str->Option NameKind}{x:Str}:∀ {binds:List (Str×gV)} {m:Str->Option gV},(∀ v,(x,v)∉binds)->bindC kindOf binds m x=m x
 | [],_,_=>rfl
 | (n,v)::r,m,h=>by
  unfold bindC
  rw[yL λw hw=>h w (YB _ hw)]
  split
  ·rfl
  ·have:x≠n:=by rintro rfl;exact h v YF
   simp[this]
theorem yK{kindOf:Str->Option NameKind}{x:Str}{v:gV}:∀ {P:List Str} {vs:List gV} {i:Nat} {m:Str->Option gV},P.Nodup->P[i]?=U x->vs[i]?=U v->kindOf x=U .local ->
  bindL kindOf (P.zip vs) m x=U v
 | [],_,_,_,_,h,_,_=>by simp at h
 | _::_,[],_,_,_,_,h,_=>by simp at h
 | p::P,w::vs,0,m,nd,h1,h2,hk=>by
  simp at h1 h2;subst h1;subst h2
  show bindL kindOf ((p,w)::P.zip vs) m p=_
  unfold bindL
  rw[yJ λv hv=>(aau.mp nd).1 (abY hv).1,YR hk]
  simp
 | p::P,w::vs,i+1,m,nd,h1,h2,hk=>by
  show bindL kindOf ((p,w)::P.zip vs) m x=_
  unfold bindL
  exact yK (i:=i) (aau.mp nd).2 (by simpa using h1) (by simpa using h2) hk
theorem yM{kindOf:Str->Option NameKind}{x:Str}{v:gV}:∀ {P:List Str} {vs:List gV} {i:Nat} {m:Str->Option gV},P.Nodup->P[i]?=U x->vs[i]?=U v->kindOf x≠U .local ->
  bindC kindOf (P.zip vs) m x=U v
 | [],_,_,_,_,h,_,_=>by simp at h
 | _::_,[],_,_,_,_,h,_=>by simp at h
 | p::P,w::vs,0,m,nd,h1,h2,hk=>by
  simp at h1 h2;subst h1;subst h2
  show bindC kindOf ((p,w)::P.zip vs) m p=_
  unfold bindC
  rw[yL λv hv=>(aau.mp nd).1 (abY hv).1,if_neg hk]
  simp
 | p::P,w::vs,i+1,m,nd,h1,h2,hk=>by
  show bindC kindOf ((p,w)::P.zip vs) m x=_
  unfold bindC
  exact yM (i:=i) (aau.mp nd).2 (by simpa using h1) (by simpa using h2) hk
noncomputable def start(N:List Str)(vs:List V):St:=vs.map U++adg (N.length - vs.length) Y
noncomputable def sT(CX:KZ)(P:Of)(w:RG)(K:adf)(mg:Str->Option gV)(base:Ws)(N:List Str)(qual:Str)(scope:Scope)(f:tx)(cd:gV)(A:Wr)(outer:List Env)(s:td)(H:Hp)(E:XK):Cx where
 prog:=P
 w:=w
 K:=K
 mg:=mg
 base:=base
 A:=A.deeper (envOfC qual scope s.heap.objs.size f cd)
 N:=N
 s₀:=s
 H₀:=H
 env:=envOfC qual scope s.heap.objs.size f cd
 outer:=outer
 stack:=envOfC qual scope s.heap.objs.size f cd::outer
 ex:=[]
 calm:=true
 fn:=λ_=>true
 pn:=[]
 xe:=λe s'=>ade (model P w) (A.deeper (envOfC qual scope s.heap.objs.size f cd)) (leaving (envOfC qual scope s.heap.objs.size f cd) e) (λ_ s''=>CX outer H s E e s'') (λe' s''=>CX outer H s E e' s'') s'
def DJ{sc:Scope}(h:sc.names.lookup x=U .cell):∃ c,(cellsFrom n sc.names []).lookup x=U c:=by
 have q:=W.cellsFrom_some sc.names n [] (.inl h)
 exact aaf.mp q
theorem JL{K:adf}{A:Wr}{s:td}{vs:List V}
  (S:aN N ps scope) (hd:A.handled=Y) (e0:Env0 P w K mg base A outer s H) (hl:vs.length=ps.length) (r:Vals vs us)
  (x:InCallC s s.heap.objs.size (bindL (envOfC qual scope s.heap.objs.size f cd).kindOf (ps.zip us) λ_=>Y) (cellsFrom (s.heap.objs.size+1) scope.names []) (bindC (envOfC qual scope s.heap.objs.size f cd).kindOf (ps.zip us) λ_=>Y) s1) :
  Inv (sT CX P w K mg base N qual scope f cd A outer s H E) [] (start N vs) H s1:=by
 have hpl:ps.length<=N.length:=by have:=congrArg List.length S.pre;rw[aaB] at this;omega
 obtain⟨h1,tk,rfl,hk⟩:=x.done
 have noA:∀ b:tx,b∉(sT CX P w K mg base N qual scope f cd A outer s H E).ex:=λb z=>absurd (show b∈([]:List tx) from z) (by simp)
 refine⟨⟨e0.mod,S.kind,rfl,rfl,YL _,λy z c h1 h2=>?_,λy hy=>?_,λy c _ h=>?_,λ_=>hd,Around.frames_deeper e0.frames,.inr ⟨rfl,rfl⟩,λb z=>absurd z (noA b),e0.bs,e0.bsz,λb _ _=>noA b,λb z=>absurd z (noA b),e0.funs,e0.frf⟩,
  rfl,e0.bare,Un.kept hk,⟨_,x.toInCall.ns,λi y v h1 h2 h3=>?_⟩,λy c h=>⟨_,x.cell y c h⟩,e0.hok.fresh (YL _),λy c h=>?_,λp hp=>absurd (show p∈([]:List (tx×Obj)) from hp) (by simp),e0.hok.kept hk,?_⟩
 ·exact name_of_addr x.apart (ZP h1) (ZP h2)
 ·have hy:scope.names.lookup y=U .cell\/scope.names.lookup y=U .free:=hy
  rcases hy with hy | hy
  ·exact DJ hy
  ·exact absurd rfl (S.nofree _ (ZP hy))
 ·exact abI (x.above y c (ZP h))
 ·have hi:i<vs.length:=by
   unfold start at h2
   by_cases hi:i<vs.length
   ·exact hi
   ·rw[ZN (by simpa using hi)] at h2
    rw[List.getElem?_replicate] at h2
    split at h2<;>cases h2
  have ha:vs[i]?=U v:=by
   unfold start at h2
   rw[Za (by simpa using hi),aah] at h2
   cases e:vs[i]? with
   | none=>rw[e] at h2;cases h2
   | some a=>rw[e] at h2;cases h2;rfl
  obtain⟨u,hu,rv⟩:=r.get ha
  have hp:ps[i]?=U y:=by
   rw[<- S.pre,acj (by omega)];exact h1
  have ndP:ps.Nodup:=by rw[<- S.pre];exact S.nd.sublist (List.take_sublist _ _)
  refine⟨u,rv,?_⟩
  rcases S.par y (YY hp) with k | k
  ·exact .inl ⟨k,yK ndP hp hu k⟩
  ·obtain⟨c,e⟩:=DJ (n:=s.heap.objs.size+1) k
   refine .inr ⟨.inl k,c,e,?_⟩
   have q:=x.cell y c e
   rw[yM ndP hp hu (by show scope.names.lookup y≠_;rw[k];decide)] at q
   exact q
 ·exact e0.hok.fresh (abI (x.above y c (ZP h)))
 ·unfold start
  show _=N.length
  rw[YQ,YE,List.length_replicate]
  omega
def Oe{K:adf}{k:Nat}{kV oc:gV}{od:Option tx}
  {osl:Array (Option gV)} {sp:Sp} (lk:K.lookup f=U ⟨oc,od,.func (W.fnOf name qual params body scope dV kV doc pm an cdv ct),osl⟩) (hcd:W.codeIn K cdv qual=true) (S:aN N ps scope)
  (len:∀ vs H Q E,sp vs H Q E->vs.length=ps.length)
  (hbody:∀ (A:Wr) (outer:List Env) (s:td) (H:Hp) (vs:List V) (Q:VK) (E:XK),Room k (A.deeper (envOfC qual scope s.heap.objs.size f cdv))->sp vs H Q E ->
   ∃ t,PSs (sT CX P w K mg base N qual scope f cdv A outer s H E) body t/\t { nx:=λ_ H'=>Q .non H',rt:=Q } (start N vs) H) :
  FnOk P w K mg base CX (k+1) f (W.fnOf name qual params body scope dV kV doc pm an cdv ct) ps sp:=by
 refine⟨len,λA outer s H args us vs Q E hr e0 hb r hsp=>?_⟩
 have hl:=len _ _ _ _ hsp
 have KX:K.In s.heap:=e0.mod.kin.keeps λb o e=>(e0.bs b o e).1
 have lim:s.heap.NoLimit:=e0.mod.nolimit.keeps λb o e=>(e0.bs b o e).1
 have hkind:∀ y∈ps.zip us,scope.names.lookup y.1=U .local\/(scope.names.lookup y.1=U .cell/\((cellsFrom (s.heap.objs.size+1) scope.names []).lookup y.1).isSome=true):=λ⟨n,v⟩ hy=>by
  rcases S.par n (abY hy).1 with q | q
  ·exact .inl q
  ·exact .inr ⟨q,W.cellsFrom_some _ _ _ (.inl q)⟩
 refine codeAny_call_function hr.depth (KX _ _ lk) rfl S.co S.gen rfl (W.codeRec_of KX hcd) (hb _ _ _ _ ?_)
 refine wpAny_newFunctionEnv_cells S.kind hkind λenv he s1 x=>?_
 subst he
 refine⟨lim.keeps x.toInCall.keep,codeAny_func ?_⟩
 obtain⟨t,ht,hq⟩:=hbody A outer s H vs Q E (hr.deeper _) hsp
 have I:Inv (sT CX P w K mg base N qual scope f cdv A outer s H E) [] (start N vs) H s1:=JL S hr.hd e0 hl r x
 refine Zj (ht [] s1 (start N vs) H _ I hq) (λfl s' hs=>?_) λe s' hs=>hs
 have fin:∀ {σ':St} {H':Hp} {v:V} {u:gV},Inv (sT CX P w K mg base N qual scope f cdv A outer s H E) [] σ' H' s'->RelV v u->Q v H'->CE outer P w H s Q u s':=
  λ{σ' H' v u} J rv q=>⟨v,H',J.os,J.bare,J.base,J.hok,rv,q⟩
 cases fl with
 | ret u=>
  obtain⟨v,σ',H',J,rv,q⟩:=hs
  exact fin J rv q
 | next=>
  obtain⟨σ',H',J,q⟩:=hs
  exact fin (v:=V.non) (u:=Value.none) J rfl q
 | brk=>
  obtain⟨_,_,_,q⟩:=hs
  exact False.elim q
 | cont=>
  obtain⟨_,_,_,q⟩:=hs
  exact False.elim q
section
variable{X:Cx}{x:Str}{p pos:Pos}{e:Nl}{es:List Nl}{t:TA}{id T:String}{r:List V->Hp->VK->Prop}
def tCB(r:List V->Hp->VK->Prop)(t:TA):TE:=λσ H Q=>t σ H λvs H1=>r vs H1 Q
noncomputable def pO(hc:CallR X (.builtin id) r)(hg:Gl X x)(hm:X.mg x=Y)(hv:bootBuiltins x=U (.builtin id))(ha:PA X (e::es) t)(hn:x≠"__name__")(hdb:(x==("__debug__":Str))=false)
  (he:acZ (e::es) X.env=(false,eval e X.env)::acZ es X.env) (hpl:(backTo pos (acZ es X.env)).any (·.1)=false):PE X (.Call (.Name x p) (e::es) [] pos) (tCB r t):=by
 intro pins s σ H Q I h
 refine aan (lN I hg hm hv ?_ hn hdb)
 exact PyProof.Rows.callWith_builtin1 (cZ (ha pos pins s σ H _ I h) λus s1 ⟨vs,H1,I1,r1,q1⟩=>hc pins s1 σ H1 vs us Q I1 r1 q1) he hpl
noncomputable def Jb(hc:CallR X (.type T) r)(hg:Gl X x)(hm:X.mg x=Y)(hv:bootBuiltins x=U (.type T))(ha:PA X (e::es) t)(hn:x≠"__name__")(hdb:(x==("__debug__":Str))=false)
  (he:acZ (e::es) X.env=(false,eval e X.env)::acZ es X.env) (hpl:(backTo pos (acZ es X.env)).any (·.1)=false):PE X (.Call (.Name x p) (e::es) [] pos) (tCB r t):=by
 intro pins s σ H Q I h
 refine aan (lN I hg hm hv ?_ hn hdb)
 exact Zw (cZ (ha pos pins s σ H _ I h) λus s1 ⟨vs,H1,I1,r1,q1⟩=>hc pins s1 σ H1 vs us Q I1 r1 q1) he hpl
end
end L2
namespace HT
section
variable{prog:Of}{w:RG}{A:Wr}{E:gV->td->Prop}{s:td}
def TD{vs ws:List gV}{Q:gV->td->Prop}(ht:IsTup s.heap t vs.toArray)(hb:IsTup s.heap b ws.toArray)(hv:vs≠[])
  (h1:ws=[]->Q (.ref t) s) (h2:ws≠[]->Q (.ref s.heap.objs.size) { s with heap:=s.heap.push { cls:=.type "tuple",data:=.seq (vs++ws).toArray } })
  (hsz:vs.length+ws.length<=acY):ade (model prog w) A (add .Add (.ref t) (.ref b)) Q E s:=by
 obtain⟨⟨cls,dd,data,sl⟩,ho,hc,n,hd⟩:=id ht
 obtain⟨⟨cls2,dd2,data2,sl2⟩,ho2,hc2,n2,hd2⟩:=id hb
 simp only at hc hd hc2 hd2
 subst hc hd hc2 hd2
 have e:vs.toArray++ws.toArray=(vs++ws).toArray:=by simp
 by_cases hw:ws=[]
 ·exact acu ⟨_,ho,rfl⟩ ⟨_,ho2,rfl⟩ abM ack abP abF (abz _ _)
   (tuple_addW1 t b vs.toArray ws.toArray n n2 dd dd2 sl sl2 (by simpa using hv) (by simp[hw])) ⟨ho,ho2,h1 hw⟩
 ·refine acu ⟨_,ho,rfl⟩ ⟨_,ho2,rfl⟩ abM ack abP abF (abz _ _)
   (tuple_addW2 t b vs.toArray ws.toArray n n2 dd dd2 sl sl2 (by simpa using hv) (by simpa using hw) (by rw[YC,YC];exact hsz)) ⟨ho,ho2,?_⟩
  rw[e]
  exact h2 hw
noncomputable def eY(n d:Nat):Option Int->Nat
 | none=>d
 | some v=>if v<0 then(v+(n:Int)).toNat else min v.toNat n
theorem Vv(n d:Nat)(hd:d<=n)(o:Option Int):eY n d o<=n:=by
 cases o with
 | none=>exact hd
 | some v=>
  show(if v<0 then(v+(n:Int)).toNat else min v.toNat n)<=n
  by_cases hv:v<0
  ·rw[YR hv];omega
  ·rw[if_neg hv];exact Nat.min_le_right _ _
theorem Ip(v:Int)(n d:Nat):(if v<0 then max (v+(n:Int)) 0 else min v (n:Int))=((eY n d (U v):Nat):Int):=by
 show(if v<0 then max (v+(n:Int)) 0 else min v (n:Int))=(((if v<0 then(v+(n:Int)).toNat else min v.toNat n):Nat):Int)
 by_cases hv:v<0
 ·simp only[YR hv];omega
 ·simp only[if_neg hv];omega
theorem GH(lo hi:Option Int)(n:Nat):Builtin.Slice.sliceAdjust lo hi 1 (n:Int)=(((eY n 0 lo:Nat):Int),((eY n n hi:Nat):Int)):=by
 have h1:¬ ((1:Int)<0):=by omega
 unfold Builtin.Slice.sliceAdjust
 simp only[h1,aaG]
 refine Prod.ext ?_ ?_
 ·cases lo with
  | none=>rfl
  | some v=>exact Ip v n 0
 ·cases hi with
  | none=>rfl
  | some v=>exact Ip v n n
theorem EO(i j:Nat):Builtin.Slice.slicePlaces (i:Int) (j:Int) 1=j - i:=by
 unfold Builtin.Slice.slicePlaces
 have h1:(1:Int)>0:=by omega
 simp only[h1,abe,Int.ediv_one]
 split<;>omega
def tR{Q:Option Int->td->Prop}(p:IsPart v o)(h:Q o s):ade (model prog w) A (Builtin.Slice.slicePartIndex v) Q E s:=by
 cases p with
 | none=>exact slicePart_none h
 | int i t=>exact slicePart_int h
def kY{lo:Option Int}{n:Nat}{Q:Int×Int×Nat->td->Prop}(hs:s.heap.IsSliceOf sl vl vu .none)(pl:IsPart vl lo)(pu:IsPart vu hi)
  (h:Q (((eY n 0 lo:Nat):Int),1,eY n n hi - eY n 0 lo) s):ade (model prog w) A (Builtin.Slice.sliceApplied (.ref sl) (pure (n:Int))) Q E s:=by
 obtain⟨os,hos,hcs,hds⟩:=id hs
 unfold Builtin.Slice.sliceApplied Builtin.Slice.sliceFields
 refine Yy (Yy (Zl hos hds (x:=vl) rfl (Yy (Zl hos hds (x:=vu) rfl (Yy (Zl hos hds (x:=.none) rfl (YH ?_)))))))
 refine Yy (slicePart_none ?_)
 show ade _ _ (if ((1:Int)==0)=true then _ else _) _ _ s
 rw[if_neg (by decide)]
 refine Yy (tR pl (Yy (tR pu (Yy (YH ?_)))))
 show ade _ _ (match Builtin.Slice.sliceAdjust lo hi 1 (n:Int) with | (lo,hi)=>pure (lo,(1:Int),Builtin.Slice.slicePlaces lo hi 1)) _ _ s
 rw[GH lo hi n]
 show ade _ _ (pure (((eY n 0 lo:Nat):Int),(1:Int),Builtin.Slice.slicePlaces ((eY n 0 lo:Nat):Int) ((eY n n hi:Nat):Int) 1)) _ _ s
 rw[EO]
 exact YH h
theorem Mo(xs:Array gV)(i k:Nat):((List.range k).filterMap λ(m:Nat)=>xs[((i:Int)+(m:Int)*1).toNat]?).toArray=((xs.toList.drop i).take k).toArray:=by
 have e:(λ(m:Nat)=>xs[((i:Int)+(m:Int)*1).toNat]?)=λm=>xs[i+m]?:=by
  funext m
  have:((i:Int)+(m:Int)*1).toNat=i+m:=by omega
  rw[this]
 rw[e]
 have:=pick_run xs i k
 rw[List.filterMap_map] at this
 have e2:((λx=>xs[x]?) ∘ λx=>i+x)=λm=>xs[i+m]?:=rfl
 rw[e2] at this
 rw[this]
theorem qk{lo:Option Int}{Q:gV->td->Prop}(ht:IsTup s.heap t items)(hs:s.heap.IsSliceOf sl vl vu .none)(pl:IsPart vl lo)(pu:IsPart vu hi)
  (hw:¬ (eY items.size 0 lo=0/\eY items.size items.size hi=items.size))
  (h:Q (.ref s.heap.objs.size) { s with heap:=s.heap.push { cls:=.type "tuple",data:=.seq ((items.toList.drop (eY items.size 0 lo)).take (eY items.size items.size hi - eY items.size 0 lo)).toArray } })
  (hsz:items.size<=acY):ade (model prog w) A (getItem (.ref t) (.ref sl)) Q E s:=by
 have htake:sizeOk (.seq ((items.toList.drop (eY items.size 0 lo)).take (eY items.size items.size hi - eY items.size 0 lo)).toArray):=by
  show((items.toList.drop (eY items.size 0 lo)).take (eY items.size items.size hi - eY items.size 0 lo)).toArray.size<=acY
  rw[YC,aaB,abO,aaX]
  omega
 have hj:eY items.size items.size hi<=items.size:=Vv _ _ (YL _) hi
 obtain⟨os,hos,hcs,hds⟩:=id hs
 have hTs:s.TypeIs (.ref sl) "slice":=⟨os,hos,hcs⟩
 unfold getItem
 try with_reducible refine ZL ?_
 first | refine Yy (YH ?_) | skip
 refine Yy (wpAny_sequenceKey ht.typeIs (by decide) ?_)
 refine Yy (ZM (name:=Str.ofString "__getitem__") ht.typeIs aae
  (aak aae ht.typeIs acJ ?_ (acO _ _)))
 show ade _ _ (Builtin.Tuple.tupleItemsOf (.ref t) >>= _) _ _ s
 refine Yy (tupleItemsOf_ ht ?_)
 refine Yy (acr hTs ?_)
 rw[YR (by decide)]
 refine Yy (kY hs pl pu ?_)
 have hno:¬ ((((eY items.size 0 lo:Nat):Int)==0&&(1:Int)==1&&(eY items.size items.size hi - eY items.size 0 lo)==items.size)=true):=by
  intro q
  rw[YD,YD] at q
  have q1:((eY items.size 0 lo:Nat):Int)=0:=eq_of_beq q.1.1
  have q2:eY items.size items.size hi - eY items.size 0 lo=items.size:=eq_of_beq q.2
  exact hw ⟨by omega,by omega⟩
 show ade _ _ (if (((eY items.size 0 lo:Nat):Int)==0&&(1:Int)==1&&(eY items.size items.size hi - eY items.size 0 lo)==items.size)=true then _ else _) _ _ s
 rw[if_neg hno,Mo]
 first
  | exact Yy (m:=Builtin.Tuple.tupleExact _) (Zp (YH ⟨_,rfl,YH h⟩) htake)
  | exact Yy (m:=Builtin.Tuple.tupleExact _) (Zp (Yy (YH (YH ⟨_,rfl,YH h⟩))) htake)
  | exact Yy (Yy (m:=Builtin.Tuple.tupleExact _) (Zp (YH (YH ⟨_,rfl,YH h⟩)) htake))
  | exact Yy (Yy (m:=Builtin.Tuple.tupleExact _) (Zp (YH ⟨_,rfl,YH h⟩) htake))
end
end HT
namespace L2
abbrev TO:=St->Hp->(Option Int->Hp->Prop)->Prop
def PO(X:Cx)(e:Option Nl)(t:TO):Prop:=
 ∀ (pins:List (tx×Obj)) (s:td) (σ:St) (H:Hp) (Q:Option Int->Hp->Prop),Inv X pins σ H s->t σ H Q ->
  ade (model X.prog X.w) X.A (evalPart e X.env) (λu s'=>∃ o H',Inv X pins σ H' s'/\IsPart u o/\Q o H') X.xe s
def Qy:TO:=λ_ H Q=>Q Y H
def tPart(t:TE):TO:=λσ H Q=>t σ H λx H1=>∃ i,x=.int i/\Q (U i) H1
section
variable{X:Cx}{e:Nl}{te:TE}{lo hi:Option Nl}{tl th:TO}{pos p2:Pos}
def Rc:PO X Y Qy:=by
 intro pins s σ H Q I h
 rw[evalPart_none]
 exact YH ⟨Y,H,I,.none,h⟩
def Rb(h:PE X e te):PO X (U e) (tPart te):=by
 intro pins s σ H Q I hw
 rw[evalPart_some]
 refine cZ (h pins s σ H _ I hw) λu s1 ⟨x,H1,I1,r1,q1⟩=>?_
 obtain⟨i,rfl,q⟩:=q1
 obtain⟨t,rfl⟩:=r1
 exact⟨U i,H1,I1,.int i t,q⟩
def SlR(X:Cx)(r:V->Option Int->Option Int->Hp->VK->Prop):Prop:=
 ∀ (pins:List (tx×Obj)) (s:td) (σ:St) (H:Hp) (x:V) (v vl vu:gV) (lo hi:Option Int) (sl:tx) (Q:VK),Inv X pins σ H s->RelV x v->s.heap.IsSliceOf sl vl vu .none->IsPart vl lo->IsPart vu hi->r x lo hi H Q ->
  ∃ T id,typeLookup (.type T) "__getitem__" = pure (U (.builtin id))/\s.TypeIs v T/\ade (model X.prog X.w) X.A (getItem v (.ref sl)) (EP X pins σ Q) X.xe s
def SlR.or(h:SlR X r)(h':SlR X r'):SlR X (λx lo hi H Q=>r x lo hi H Q\/r' x lo hi H Q):=by
 intro pins s σ H x v vl vu lo hi sl Q I rx hs pl pu q
 rcases q with q | q
 ·exact h pins s σ H x v vl vu lo hi sl Q I rx hs pl pu q
 ·exact h' pins s σ H x v vl vu lo hi sl Q I rx hs pl pu q
def tSl(r:V->Option Int->Option Int->Hp->VK->Prop)(te:TE)(tl th:TO):TE:=λσ H Q=>te σ H λx H1=>tl σ H1 λl H2=>th σ H2 λu H3=>r x l u H3 Q
def Mr(hr:SlR X r)(he:PE X e te)(hl:PO X lo tl)(hu:PO X hi th):PE X (.Subscript e (.Slice lo hi Y p2) pos) (tSl r te tl th):=by
 intro pins s σ H Q I h
 refine Subscript_ (cZ (he pins s σ H _ I h) λv s1 ⟨x,H1,I1,r1,q1⟩=>?_)
 refine wpAny_Slice (cZ (hl pins s1 σ H1 _ I1 q1) λvl s2 ⟨l,H2,I2,pl,q2⟩=>cZ (hu pins s2 σ H2 _ I2 q2) λvu s3 ⟨u,H3,I3,pu,q3⟩=>?_)
 rw[evalPart_none]
 refine YH ?_
 have I4:Inv X pins σ H3 { s3 with heap:=s3.heap.push { cls:=.type "slice",data:=.fields #[vl,vu,.none] } }:=I3.kept (t':=s3.toks) λb ob q=>YA _ q
 obtain⟨T,id,hT,ht,hg⟩:=hr pins { s3 with heap:=s3.heap.push { cls:=.type "slice",data:=.fields #[vl,vu,.none] } } σ H3 x v vl vu l u s3.heap.objs.size Q I4 r1 (Heap.IsSliceOf.new ..) pl pu q3
 show ade (model X.prog X.w) X.A (subscriptTail e (.Slice lo hi Y p2) v (.ref s3.heap.objs.size)) (EP X pins σ Q) X.xe { s3 with heap:=s3.heap.push { cls:=.type "slice",data:=.fields #[vl,vu,.none] } }
 exact tail_any (ops:=[.ref s3.heap.objs.size,v]) ht hT hg (by with_unfolding_all rfl)
noncomputable def DH(xs:List V)(lo hi:Option Int):List V:=(xs.drop (HT.eY xs.length 0 lo)).take (HT.eY xs.length xs.length hi - HT.eY xs.length 0 lo)
theorem sB(xs:List V)(lo hi:Option Int):(DH xs lo hi).length<=xs.length:=by
 unfold DH
 rw[aaB,abO]
 omega
def rSlT(K:adf):V->Option Int->Option Int->Hp->VK->Prop:=λx lo hi H Q=>∃ a xs,x=.ref a/\lZ K H a xs /\
 ¬ (HT.eY xs.length 0 lo=0/\HT.eY xs.length xs.length hi=xs.length)/\∀ p,H p=Y->Q (.ref p) (upd H p (.tup (DH xs lo hi)))
def Vp:SlR X (rSlT X.K):=by
 intro pins s σ H x v vl vu lo hi sl Q I rx hs pl pu h
 obtain⟨a,xs,rfl,hx,hw,q⟩:=h
 cases rx
 obtain⟨its,r,ht,hz⟩:=I.tuple hx
 have hlen:its.toArray.size=xs.length:=by rw[YC];exact r.length.symm
 refine⟨"tuple",_,PyProof.Rows.slot_tuple_getitem.lookup,ht.typeIs,?_⟩
 refine HT.qk ht hs pl pu (by rw[hlen];exact hw) ?_ (by rw[hlen];exact hz)
 rw[hlen]
 refine⟨.ref s.heap.objs.size,_,I.laid (t':=s.toks) (o:=.tup (DH xs lo hi)) (λb ob q=>YA _ q) (YL _) ?_,rfl,q _ (I.hok.fresh (YL _))⟩
 exact⟨YW (sB xs lo hi) hz,_,(r.drop (HT.eY xs.length 0 lo)).take (HT.eY xs.length xs.length hi - HT.eY xs.length 0 lo),IsTupN.new _ _⟩
def rCatT(K:adf):R2:=λx y H Q=>∃ a b xs ys,x=.ref a/\y=.ref b/\lZ K H a xs/\lZ K H b ys/\xs≠[]/\xs.length+ys.length<=acY /\
 (ys=[]->Q (.ref a) H)/\(ys≠[]->∀ p,H p=Y->Q (.ref p) (upd H p (.tup (xs++ys))))
def Vals.nil_iff(r:Vals xs us):us=[]↔xs=[]:=by
 cases r with
 | nil=>simp
 | cons _ _=>simp
def RA:OpR X (add .Add) (rCatT X.K):=by
 intro pins s σ H x y v u Q I rx ry h
 obtain⟨a,b,xs,ys,rfl,rfl,ha,hb,hx,hz,q1,q2⟩:=h
 cases rx
 cases ry
 obtain⟨its,r1,p1,_⟩:=I.tuple ha
 obtain⟨its2,r2,p2,_⟩:=I.tuple hb
 refine HT.TD p1 p2 (λz=>hx (r1.nil_iff.mp z)) (λz=>⟨.ref a,H,I,rfl,q1 (r2.nil_iff.mp z)⟩) (λz=>?_) (by rw[<- r1.length,<- r2.length];exact hz)
 refine⟨.ref s.heap.objs.size,_,I.laid (t':=s.toks) (o:=.tup (xs++ys)) (λb ob q=>YA _ q) (YL _) ?_,rfl,q2 (λw=>z (r2.nil_iff.mpr w)) _ (I.hok.fresh (YL _))⟩
 exact⟨by rw[YQ];exact hz,_,r1.append r2,IsTupN.new _ _⟩
end
noncomputable def JH(n:Nat)(i:Int):Option Nat:=if 0<=i then(if i<n then U i.toNat else Y) else if -(n:Int)<=i then U (i+n).toNat else Y
noncomputable def mx{α:Type}(xs:List α)(i:Int):Option α:=(JH xs.length i).bind λj=>xs[j]?
theorem HI{j:Nat}(h:JH n i=U j):seqIndex? i n=U j/\j<n/\-(n:Int)<=i/\i<n:=by
 unfold JH at h
 by_cases h0:0<=i
 ·rw[YR h0] at h
  by_cases h1:i<n
  ·rw[YR h1] at h
   have e:i.toNat=j:=YU h
   exact⟨by rw[acI h0 h1,e],by omega,by omega,h1⟩
  ·rw[if_neg h1] at h;cases h
 ·rw[if_neg h0] at h
  by_cases h1:-(n:Int)<=i
  ·rw[YR h1] at h
   have e:(i+n).toNat=j:=YU h
   exact⟨by rw[acs (by omega) h1,e],by omega,h1,by omega⟩
  ·rw[if_neg h1] at h;cases h
def Iw{α:Type}{xs:List α}{i:Int}{v:α}(h:mx xs i=U v):∃ j,seqIndex? i xs.length=U j/\xs[j]?=U v/\j<xs.length/\-(xs.length:Int)<=i/\i<xs.length:=by
 unfold mx at h
 cases e:JH xs.length i with
 | none=>rw[e] at h;cases h
 | some j=>
  rw[e] at h
  obtain⟨h1,h2,h3,h4⟩:=HI e
  exact⟨j,h1,h,h2,h3,h4⟩
def nZ(b:Nl):Prop:=∀ o i,subscripted b false o i=operate [o,i] (getItem o i)
def IxR(X:Cx)(r:R2):Prop:=
 ∀ (value slice:Nl) (pins:List (tx×Obj)) (s:td) (σ:St) (H:Hp) (x y:V) (v u:gV) (Q:VK),Inv X pins σ H s->RelV x v->RelV y u->r x y H Q ->
  subscripted slice false v u=operate [v,u] (getItem v u)->ade (model X.prog X.w) X.A (subscriptTail value slice v u) (EP X pins σ Q) X.xe s
def MtR(X:Cx)(id:String)(r:V->List V->Hp->VK->Prop):Prop:=
 ∀ (pins:List (tx×Obj)) (s:td) (σ:St) (H:Hp) (x:V) (xs:List V) (v:gV) (us:List gV) (Q:VK),Inv X pins σ H s->RelV x v->Vals xs us->r x xs H Q ->
  ade (model X.prog X.w) X.A (call (.builtin id) (v::us)) (EP X pins σ Q) X.xe s
section
variable{X:Cx}{a b:Nl}{ta tb:TE}{pos:Pos}
def IxR.or(h:IxR X r)(h':IxR X r'):IxR X (λx y H Q=>r x y H Q\/r' x y H Q):=by
 intro value slice pins s σ H x y v u Q I rx ry q hs
 rcases q with q | q
 ·exact h value slice pins s σ H x y v u Q I rx ry q hs
 ·exact h' value slice pins s σ H x y v u Q I rx ry q hs
def Mt(hr:IxR X r)(ha:PE X a ta)(hb:PE X b tb)(hs:nZ b):PE X (.Subscript a b pos) (tOp r ta tb):=by
 intro pins s σ H Q I h
 exact Subscript_ (Yg ha hb I h λv u s2 x y H2 I2 rx ry q=>hr a b pins s2 σ H2 x y v u Q I2 rx ry q (hs _ _))
def rIxL(K:adf):R2:=λx y H Q=>∃ p xs i v,x=.ref p/\y=.int i/\pz K H p xs/\mx xs i=U v/\Q v H
def rIxT(K:adf):R2:=λx y H Q=>∃ p xs i v,x=.ref p/\y=.int i/\lZ K H p xs/\mx xs i=U v/\Q v H
theorem ix_list:IxR X (rIxL X.K):=by
 intro value slice pins s σ H x y v u Q I rx ry h hs
 obtain⟨p,xs,i,z,rfl,rfl,hq,he,q⟩:=h
 cases rx
 obtain⟨t,rfl⟩:=ry
 obtain⟨its,r,pl,hz⟩:=I.list hq
 obtain⟨j,h1,h2,h3,h4,h5⟩:=Iw he
 obtain⟨w,ew,rw'⟩:=r.get h2
 have hl:=r.length
 have hn:=qW
 have fin:EP X pins σ Q w s:=⟨z,H,I,rw',q⟩
 by_cases h0:0<=i
 ·have hj:i.toNat=j:=by
   rw[acI h0 h5] at h1
   exact YU h1
  exact item_listR pl.isList h0 (by omega) (by rw[hj];simpa using ew) fin hs
 ·have hj:(i+(its.toArray.size:Int)).toNat=j:=by
   rw[acs (by omega) h4] at h1
   rw[YC,<- hl]
   exact YU h1
  exact aco (x:=w) pl.isList.typeIs slot_list_getitem.lookup
   (wpAny_getItem_list_neg (Q:=λr s'=>r=w/\EP X pins σ Q r s') pl.isList (by omega) (by rw[YC]<;>omega) (by omega) (by rw[hj];simpa using ew) ⟨rfl,fin⟩) hs
theorem WU:IxR X (rIxT X.K):=by
 intro value slice pins s σ H x y v u Q I rx ry h hs
 obtain⟨p,xs,i,z,rfl,rfl,hq,he,q⟩:=h
 cases rx
 obtain⟨t,rfl⟩:=ry
 obtain⟨its,r,pl,hz⟩:=I.tuple hq
 obtain⟨j,h1,h2,h3,h4,h5⟩:=Iw he
 obtain⟨w,ew,rw'⟩:=r.get h2
 have hl:=r.length
 have hn:=qW
 have fin:EP X pins σ Q w s:=⟨z,H,I,rw',q⟩
 exact aco (x:=w) pl.typeIs slot_tuple_getitem.lookup
  (getItem_tuple (j:=j) (Q:=λr s'=>r=w/\EP X pins σ Q r s') pl (by omega) (by omega) (by rw[YC,<- hl];exact h1) (by simpa using ew) ⟨rfl,fin⟩) hs
def Fl(its:List gV)(n j:Nat)(u:gV):Obj.mapSeq (·.setIfInBounds j u) { cls:=.type "list",data:=.seq its.toArray n } = { cls:=.type "list",data:=.seq (its.set j u).toArray n }:=by
 simp[Obj.mapSeq]
theorem Inv.lst{s:td}(I:Inv X pins σ H s)(h:H p=U (.lst xs)) :
  ∃ (its:List gV) (n:Nat),Vals xs its/\s.heap.get? p=U { cls:=.type "list",data:=.seq its.toArray n }/\xs.length<=acY:=by
 obtain⟨z,its,n,r,e⟩:=I.hok p _ h
 exact⟨its,n,r,e,z⟩
def Inv.lstUpd{s:td}{its its':List gV}{f:Obj->Obj}(I:Inv X pins σ H s)(h:H p=U (.lst xs))
  (ho:s.heap.get? p=U { cls:=.type "list",data:=.seq its.toArray n }) (hf:f { cls:=.type "list",data:=.seq its.toArray n } = { cls:=.type "list",data:=.seq its'.toArray n' }) (r:Vals ys its') (hz:ys.length<=acY) (t:Nat) :
  Inv X pins σ (upd H p (.lst ys)) { s with heap:=s.heap.update p f,toks:=t }:=by
 have e:(s.heap.update p f).get? p=U { cls:=.type "list",data:=.seq its'.toArray n' }:=by
  rw[YZ f ho (by rw[hf]<;>rfl),hf]
 refine I.write (x:=p) (e:=p) (by rw[h];trivial) (.inl rfl) (λb u hb q=>(YS _ _ (Ne.symm hb)).trans q) ⟨_,e⟩ ?_
 exact⟨hz,its',n',r,e⟩
def rSetL:V->V->V->Hp->(Hp->Prop)->Prop:=λo i v H Q=>∃ p xs k j,o=.ref p/\i=.int k/\H p=U (.lst xs)/\JH xs.length k=U j/\Q (upd H p (.lst (xs.set j v)))
theorem LM:PSet X rSetL:=by
 intro pins s σ H o i v ov iv u Q I ro ri rv h
 obtain⟨p,xs,k,j,rfl,rfl,hp,hj,q⟩:=h
 cases ro
 obtain⟨t,rfl⟩:=ri
 obtain⟨its,n,r,ho,hz⟩:=I.lst hp
 obtain⟨h1,h2,h3,h4⟩:=HI hj
 have hl:=r.length
 have hn:=qW
 have I':Inv X pins σ (upd H p (.lst (xs.set j v))) { s with heap:=s.heap.update p (Obj.mapSeq (·.setIfInBounds j u)) }:=
  I.lstUpd hp ho (Fl its n j u) (r.set rv j) (by rw[abn];exact hz) s.toks
 by_cases h0:0<=k
 ·have hk:k.toNat=j:=by
   rw[acI h0 h4] at h1
   exact YU h1
  exact W.ki_setAt ho h0 (by omega) (by rw[YC,<- hl];exact h4) (by rw[hk];exact⟨_,I',q⟩)
 ·have hk:(k+(its.toArray.size:Int)).toNat=j:=by
   rw[acs (by omega) h3] at h1
   rw[YC,<- hl]
   exact YU h1
  exact W.ki_setBack ho (by omega) (by rw[YC,<- hl];exact h3) (by omega) (by rw[hk];exact⟨_,I',q⟩)
theorem yW(lo hi:Option Int)(n:Nat):(sliceBounds lo hi Y n).1=((HT.eY n 0 lo:Nat):Int)/\(sliceBounds lo hi Y n).2.1=((HT.eY n n hi:Nat):Int)/\(sliceBounds lo hi Y n).2.2=1:=by
 refine⟨?_,?_,rfl⟩
 ·cases lo with
  | none=>simp[sliceBounds,HT.eY]
  | some i=>
   simp only[sliceBounds,HT.eY,Option.getD_none,show(1:Int)>0 by decide,abe]
   by_cases h:i<0
   ·simp only[h,abe]<;>omega
   ·simp only[h,aaG]<;>omega
 ·cases hi with
  | none=>simp[sliceBounds,HT.eY]
  | some i=>
   simp only[sliceBounds,HT.eY,Option.getD_none,show(1:Int)>0 by decide,abe]
   by_cases h:i<0
   ·simp only[h,abe]<;>omega
   ·simp only[h,aaG]<;>omega
def wv(its:List gV)(lo hi:Option Int):slicePick its.toArray lo hi Y=((its.drop (HT.eY its.length 0 lo)).take (HT.eY its.length its.length hi - HT.eY its.length 0 lo)).toArray:=by
 obtain⟨h1,h2,h3⟩:=yW lo hi its.toArray.size
 unfold slicePick
 rw[h1,h2,h3]
 simp only[sliceRange_one,pick_run,YC]<;>rfl
def rSlL(K:adf):V->Option Int->Option Int->Hp->VK->Prop:=λx lo hi H Q=>∃ a xs,x=.ref a/\pz K H a xs/\∀ p,H p=Y->Q (.ref p) (upd H p (.lst (DH xs lo hi)))
theorem QE:SlR X (rSlL X.K):=by
 intro pins s σ H x v vl vu lo hi sl Q I rx hs pl pu h
 obtain⟨a,xs,rfl,hx,q⟩:=h
 cases rx
 obtain⟨its,r,ht,hz⟩:=I.list hx
 have hlen:=r.length
 refine⟨"list",_,slot_list_getitem.lookup,ht.isList.typeIs,?_⟩
 refine wpAny_getItem_list_slice ht.isList hs pl pu .none (by simp) ?_ (by rw[YC]<;>omega)
 rw[wv,<- hlen]
 refine⟨.ref s.heap.objs.size,_,I.laid (t':=s.toks) (o:=.lst (DH xs lo hi)) (λb ob q=>YA _ q) (YL _) ?_,rfl,q _ (I.hok.fresh (YL _))⟩
 exact⟨YW (sB xs lo hi) hz,_,0,(r.drop (HT.eY xs.length 0 lo)).take (HT.eY xs.length xs.length hi - HT.eY xs.length 0 lo),YN _ rfl⟩
theorem call_len_seq:CallR X (.builtin "len") (λxs H Q=>∃ p ys,xs=[.ref p]/\(pz X.K H p ys\/lZ X.K H p ys)/\Q (.int ys.length) H):=by
 intro pins s σ H xs us Q I r h
 obtain⟨p,ys,rfl,hq,q⟩:=h
 obtain⟨u,rfl,rx⟩:=pF r
 cases rx
 have hn:=qW
 rcases hq with hq | hq
 ·obtain⟨its,r',pl,hz⟩:=I.list hq
  have hlen:=r'.length
  exact Calls.call_len_list pl.isList (by simp only[YC]<;>omega) ⟨.int ys.length,H,I.tok _,⟨s.toks+1,by rw[YC,hlen]⟩,q⟩
 ·obtain⟨its,r',pl,hz⟩:=I.tuple hq
  have hlen:=r'.length
  exact len_tuple pl (by simp only[YC]<;>omega) ⟨.int ys.length,H,I.tok _,⟨s.toks+1,by rw[YC,hlen]⟩,q⟩
theorem AI:CallR X (.builtin "len") (λxs H Q=>∃ z,xs=[.str z]/\z.length<=acY/\Q (.int z.length) H):=by
 intro pins s σ H xs us Q I r h
 obtain⟨z,rfl,hz,q⟩:=h
 obtain⟨u,rfl,t,rfl⟩:=pF r
 have hn:=qW
 exact len_str (by omega) ⟨.int z.length,H,I.tok _,⟨_,rfl⟩,q⟩
def CallR.or(h:CallR X f r)(h':CallR X f r'):CallR X f (λxs H Q=>r xs H Q\/r' xs H Q):=by
 intro pins s σ H xs us Q I rs q
 rcases q with q | q
 ·exact h pins s σ H xs us Q I rs q
 ·exact h' pins s σ H xs us Q I rs q
def AH:CallR X (.type "list") (λxs H Q=>∃ p ys,xs=[.ref p]/\(pz X.K H p ys\/lZ X.K H p ys)/\∀ l,H l=Y->Q (.ref l) (upd H l (.lst ys))):=by
 intro pins s σ H xs us Q I r h
 obtain⟨p,ys,rfl,hq,q⟩:=h
 obtain⟨u,rfl,rx⟩:=pF r
 cases rx
 have fin:∀ (its:List gV),Vals ys its->ys.length<=acY->∀ (h':Ws) (c':Nat),(∀ b o',s.heap.get? b=U o'->h'.get? b=U o') ->
   h'.get? s.heap.objs.size=U { cls:=.type "list",dict:=Y,data:=.seq its.toArray c',slots:=#[] }->EP X pins σ Q (.ref s.heap.objs.size) { s with heap:=h' }:=λits r' hz h' c' kp e=>
  ⟨.ref s.heap.objs.size,_,I.laid (t':=s.toks) kp (YL _) (show ObjOk X.prog X.w _ h' _ (.lst ys) from ⟨hz,its,c',r',e⟩),rfl,q _ (I.hok.fresh (YL _))⟩
 rcases hq with hq | hq
 ·obtain⟨its,r',pl,hz⟩:=I.list hq
  have hlen:=r'.length
  obtain⟨o,ho,hc,n,hd⟩:=pl.isList
  exact call_list_seq p (.inl rfl) ho hc hd (λh' c' kp e=>fin its r' hz h' c' kp e) (by simp only[YC]<;>omega)
 ·obtain⟨its,r',pl,hz⟩:=I.tuple hq
  have hlen:=r'.length
  obtain⟨o,ho,hc,n,hd⟩:=pl
  exact call_list_seq p (.inr rfl) ho hc hd (λh' c' kp e=>fin its r' hz h' c' kp e) (by simp only[YC]<;>omega)
def xp:CallR X (.type "tuple") (λxs H Q=>∃ p ys,xs=[.ref p]/\((pz X.K H p ys/\∀ l,H l=Y->Q (.ref l) (upd H l (.tup ys)))\/(lZ X.K H p ys/\Q (.ref p) H))):=by
 intro pins s σ H xs us Q I r h
 obtain⟨p,ys,rfl,h⟩:=h
 obtain⟨u,rfl,rx⟩:=pF r
 cases rx
 rcases h with ⟨hq,q⟩ | ⟨hq,q⟩
 ·obtain⟨its,r',pl,hz⟩:=I.list hq
  have hlen:=r'.length
  refine call_tuple_list pl.isList (λh' kp=>?_) (by simp only[YC]<;>omega)
  have I1:Inv X pins σ H { s with heap:=h' }:=I.kept (t':=s.toks) kp
  have I2:Inv X pins σ (upd H h'.objs.size (.tup ys)) { s with heap:=h'.push { cls:=.type "tuple",data:=.seq its.toArray } }:=
   I1.laid (t':=s.toks) (λb o e=>YA _ e) (YL _) (show ObjOk X.prog X.w _ _ _ (.tup ys) from ⟨hz,its,r',IsTupN.new _ _⟩)
  exact⟨.ref h'.objs.size,_,I2,rfl,q _ (I1.hok.fresh (YL _))⟩
 ·obtain⟨its,r',pl,hz⟩:=I.tuple hq
  exact call_tuple_same pl ⟨.ref p,H,I,rfl,q⟩
def tyV(K:adf)(T:String)(x:V)(H:Hp):Prop:=match x with
 | .str _=>T = "str"
 | .int _=>T = "int"
 | .ref p=>(T = "list"/\∃ xs,pz K H p xs)\/(T = "tuple"/\∃ o,K.lookup p=U o/\o.cls=.type "tuple"/\o.dict=Y) \/
   (T = "dict"/\((∃ kvs,H p=U (.dK kvs))\/∃ kvs,H p=U (.dT kvs)))\/(T = "set"/\∃ S n,H p=U (.set S n))
 | _=>False
def Vg{s:td}(I:Inv X pins σ H s)(r:RelV x v)(ty:tyV X.K T x H) :
  s.TypeIs v T/\∀ a,v=.ref a->∃ ob,s.heap.get? a=U ob/\ob.dict=Y:=by
 cases x with
 | str z=>
  obtain⟨t,rfl⟩:=r
  cases(show T = "str" from ty)
  exact⟨typeIs_str s z t,λ_ e=>nomatch e⟩
 | int i=>
  obtain⟨t,rfl⟩:=r
  cases(show T = "int" from ty)
  exact⟨abD s i t,λ_ e=>nomatch e⟩
 | ref p=>
  cases r
  rcases ty with ⟨rfl,xs,hq⟩ | ⟨rfl,o,hk,hc,hd⟩ | ⟨rfl,hk⟩ | ⟨rfl,S,n,hk⟩
  ·obtain⟨its,_,pl,_⟩:=I.list hq
   refine⟨pl.isList.typeIs,λa e=>?_⟩
   cases e
   obtain⟨o,n,e,c,hd,_⟩:=pl
   exact⟨o,e,hd⟩
  ·refine⟨⟨o,I.kIn p o hk,hc⟩,λa e=>?_⟩
   cases e
   exact⟨o,I.kIn _ o hk,hd⟩
  ·have z:∃ o,s.heap.get? p=U o/\o.ExactDict:=by
    rcases hk with ⟨kvs,hk⟩ | ⟨kvs,hk⟩
    ·obtain⟨_,_,_,_,o,_,_,e,ex,_⟩:=I.hok p _ hk
     exact⟨o,e,ex⟩
    ·obtain⟨_,_,_,_,o,_,_,e,ex,_⟩:=I.hok p _ hk
     exact⟨o,e,ex⟩
   obtain⟨o,e,ex⟩:=z
   refine⟨⟨o,e,ex.1⟩,λa e2=>?_⟩
   cases e2
   exact⟨o,e,ex.2.1⟩
  ·obtain⟨o,_,_,_,e,ex,_⟩:=I.hok p _ hk
   refine⟨⟨o,e,ex.1⟩,λa e2=>?_⟩
   cases e2
   exact⟨o,e,ex.2.1⟩
 | _=>exact False.elim ty
def tBM(K:adf)(T:String)(r:V->List V->Hp->VK->Prop)(to:TE)(t:TA):TE:=λσ H Q=>to σ H λx H1=>tyV K T x H1/\t σ H1 λxs H2=>r x xs H2 Q
variable{o e:Nl}{es:List Nl}{to:TE}{t:TA}{name:Str}{apos cpos:Pos}{T id:String}{r:V->List V->Hp->VK->Prop}
noncomputable def pe_bm(pa:PlainAttrs T)(slot:Slot T name id)(hty:typeOf (.builtin id)=pure (.type "method_descriptor"))(hm:MtR X id r)(ho:PE X o to)(ha:PA X (e::es) t)
  (hbase:attributeBase o name X.env (eval o X.env)=eval o X.env)
  (hfew:((backTo cpos (acZ (e::es) X.env)).all (λx=>!x.1)&&(backToKw cpos (keywordEach [] X.env)).all (λx=>x.1.isSome)
  &&decide ((e::es).length+([]:List Keyword).length+(if ([]:List Keyword).isEmpty then 0 else 1)<30))=true)
  (hline:(apos.endLine==cpos.line)=true) (hs:acZ (e::es) X.env=(false,eval e X.env)::acZ es X.env) (hplain:(backTo cpos (acZ es X.env)).any (·.1)=false) :
  PE X (.Call (.Attribute o name apos) (e::es) [] cpos) (tBM X.K T r to t):=by
 intro pins s σ H Q I h
 refine abi hbase hfew hline rfl (cZ (ho pins s σ H _ I h) λv s1 ⟨x,H1,I1,r1,ty,q1⟩=>?_)
 obtain⟨h1,h2⟩:=Vg I1 r1 ty
 refine⟨T,id,pa,slot,hty,h1,h2,?_⟩
 have hA:=ha cpos pins s1 σ H1 _ I1 q1
 rw[hs] at hA ⊢
 refine abk (by show(false||(backTo cpos (acZ es X.env)).any (·.1))=false;rw[hplain]<;>rfl) (aaP ?_)
 exact cZ hA λus s2 ⟨vs,H2,I2,r2,q2⟩=>hm pins s2 σ H2 x vs v us Q I2 r1 r2 q2
end
def MtM(X:Cx)(id:String)(r:V->List V->Hp->VK->Prop):Prop:=
 ∀ (pins:List (tx×Obj)) (s:td) (σ:St) (H:Hp) (x:V) (xs:List V) (v:gV) (us:List gV) (Q:VK),Inv X pins σ H s->RelV x v->Vals xs us->r x xs H Q ->
  ade (model X.prog X.w) X.A (call (.builtin id) (v::us)) (EP X pins σ Q) X.xe s
def Vals.one:∀ {x:V} {us:List gV},Vals [x] us->∃ u,us=[u]/\RelV x u
 | _,_,.cons r .nil=>⟨_,rfl,r⟩
def Vals.two:∀ {x y:V} {us:List gV},Vals [x,y] us->∃ u v,us=[u,v]/\RelV x u/\RelV y v
 | _,_,_,.cons r (.cons q .nil)=>⟨_,_,rfl,r,q⟩
theorem Vals.rep(h:Vals xs us):∀ k:Nat,Vals (adg k xs).flatten (adg k us).flatten
 | 0=>.nil
 | k+1=>by
  rw[Zc,Zc,ZK,ZK]
  exact Vals.append h (Vals.rep h k)
theorem yu(its:List gV):∀ (k:Nat) (acc:List gV),
  List.foldl (λx1 x2=>x1++x2) acc.toArray (adg k its.toArray)=(acc++(adg k its).flatten).toArray
 | 0,acc=>by simp
 | k+1,acc=>by
  have e:acc.toArray++its.toArray=(acc++its).toArray:=by simp
  have e2:(acc++its)++(adg k its).flatten=acc++(adg (k+1) its).flatten:=by
   rw[Zc,ZK,Ze]
  rw[<- e2,<- yu its k (acc++its),<- e,Zc,List.foldl_cons]
section
variable{X:Cx}{pins:List (tx×Obj)}{σ:St}{H:Hp}{s:td}{l b:tx}{xs ys zs:List V}
def Inv.lset{its its':List gV}{f:Array gV->Array gV}{t':Nat}(I:Inv X pins σ H s)(hH:H l=U (.lst xs))
  (e:s.heap.get? l=U { cls:=.type "list",data:=.seq its.toArray n }) (hf:f its.toArray=its'.toArray) (hv:Vals ys its') (hz:ys.length<=acY) :
  Inv X pins σ (upd H l (.lst ys)) { s with heap:=s.heap.update l (Obj.mapSeq f),toks:=t' }:=by
 have q:=PySem.IsL.update e f
 rw[hf] at q
 refine I.write (x:=l) (e:=l) (by rw[hH];exact trivial) (.inl rfl) (λb' u hb hu=>(YS s.heap (Obj.mapSeq f) (Ne.symm hb)).trans hu) ⟨_,q⟩ ?_
 exact⟨hz,its',_,hv,q⟩
def Inv.lnew{t':Nat}(I:Inv X pins σ H s)(hv:Vals ys its)(hz:ys.length<=acY) :
  Inv X pins σ (upd H s.heap.objs.size (.lst ys)) { s with heap:=s.heap.push { cls:=.type "list",data:=.seq its.toArray },toks:=t' }:=
 I.laid (λ_ _ q=>YA _ q) (YL _) ⟨hz,its,0,hv,YN _ rfl⟩
theorem Inv.fresh(I:Inv X pins σ H s):H s.heap.objs.size=Y:=I.hok.fresh (YL _)
def Inv.lstM(I:Inv X pins σ H s)(hH:H l=U (.lst xs)):xs.length<=acY/\∃ (its:List gV) (n:Nat),Vals xs its/\xs.length=its.length/\s.heap.get? l=U { cls:=.type "list",data:=.seq its.toArray n }:=by
 obtain⟨z,its,n,r,e⟩:=I.hok l _ hH
 exact⟨z,its,n,r,r.length,e⟩
theorem uv{n:Nat}(h:n<=acY):Builtin.List.listTooLong n=false:=by
 unfold Builtin.List.listTooLong
 exact YK (by omega)
end
section
variable{X:Cx}
def QP:V->List V->Hp->VK->Prop:=λx vs H Q=>∃ l xs y,x=.ref l/\vs=[y]/\H l=U (.lst xs)/\xs.length<acY/\Q .non (upd H l (.lst (xs++[y])))
theorem xP:MtM X "list.append" QP:=by
 intro pins s σ H x vs v us Q I rx rv h
 obtain⟨l,xs,y,rfl,rfl,hH,hz,q⟩:=h
 cases rx
 obtain⟨u,rfl,ru⟩:=rv.one
 obtain⟨z,its,n,r,hl,e⟩:=I.lstM hH
 refine aaD acS ⟨_,e,rfl⟩ F.entry_list_append (F.args_list_append_2 _ _) (PySem.list_append l its.toArray n u (by rw[YC];omega)) ⟨e,?_⟩
 refine⟨.non,_,I.lset (its':=its++[u]) hH e (by simp) (r.append (.cons ru .nil)) ?_,rfl,q⟩
 rw[YQ,aav]
 omega
def QO:V->List V->Hp->VK->Prop:=λx vs H Q=>∃ l b xs zs,x=.ref l/\vs=[.ref b]/\H l=U (.lst xs)/\H b=U (.lst zs)/\xs.length+zs.length<=acY/\Q .non (upd H l (.lst (xs++zs)))
theorem Jj:MtM X "list.extend" QO:=by
 intro pins s σ H x vs v us Q I rx rv h
 obtain⟨l,b,xs,zs,rfl,rfl,hH,hB,hz,q⟩:=h
 cases rx
 obtain⟨u,rfl,ru⟩:=rv.one
 cases ru
 obtain⟨z,its,n,r,hl,e⟩:=I.lstM hH
 obtain⟨z2,its2,n2,r2,hl2,e2⟩:=I.lstM hB
 have hsz:its.toArray.size+its2.toArray.size<=acY:=by rw[YC,YC];omega
 have hlong:¬ (!its.toArray.isEmpty&&Builtin.List.listTooLong (its.toArray.size+its2.toArray.size))=true:=by
  rw[uv hsz,aam]
  exact adh
 refine aaD aby ⟨_,e,rfl⟩ acM (acF _ _)
  (AutoSeq1.list_extend_list_list_0 l its.toArray n b its2.toArray n2 hlong (by rw[YC];omega) (by omega)) ⟨e,e2,?_⟩
 refine⟨.non,_,I.lset (its':=its++its2) hH e (by simp) (r.append r2) ?_,rfl,q⟩
 rw[YQ]
 omega
def rCat:R2:=λx y H Q=>∃ l b xs zs,x=.ref l/\y=.ref b/\H l=U (.lst xs)/\H b=U (.lst zs)/\xs.length+zs.length<=acY/\∀ p,H p=Y->Q (.ref p) (upd H p (.lst (xs++zs)))
def ER:OpR X (add .Add) rCat:=by
 intro pins s σ H x y v u Q I rx ry h
 obtain⟨l,b,xs,zs,rfl,rfl,hH,hB,hz,q⟩:=h
 cases rx
 cases ry
 obtain⟨z,its,n,r,hl,e⟩:=I.lstM hH
 obtain⟨z2,its2,n2,r2,hl2,e2⟩:=I.lstM hB
 refine PySem.P.add_list e e2 ?_ (by rw[YC,YC];omega)
 have ea:its.toArray++its2.toArray=(its++its2).toArray:=by simp
 rw[ea]
 exact⟨.ref _,_,I.lnew (t':=s.toks) (r.append r2) (by rw[YQ];omega),rfl,q _ I.fresh⟩
def rRep:R2:=λx y H Q=>∃ l k xs,x=.ref l/\y=.int k/\H l=U (.lst xs)/\-(2^63)<=k/\k<2^63/\xs.length*k.toNat<=acY /\
 ∀ p,H p=Y->Q (.ref p) (upd H p (.lst (adg k.toNat xs).flatten))
def Ab{α:Type}(xs:List α)(k:Nat):(adg k xs).flatten.length=k*xs.length:=by
 induction k with
 | zero=>simp
 | succ k ih=>rw[Zc,ZK,YQ,ih,Nat.succ_mul,Nat.add_comm]
theorem VT:OpR X (add .Mult) rRep:=by
 intro pins s σ H x y v u Q I rx ry h
 obtain⟨l,k,xs,rfl,rfl,hH,h1,h2,hz,q⟩:=h
 cases rx
 obtain⟨t,rfl⟩:=ry
 obtain⟨z,its,n,r,hl,e⟩:=I.lstM hH
 have hlen:its.toArray.size*k.toNat<=acY:=by rw[YC,<- hl];exact hz
 have hcap:¬ its.toArray.size*k.toNat>(2^63 - 1) / 8:=by
  have:(acY:Nat)<=(2^63 - 1) / 8:=by decide
  omega
 have hfit:¬ (!Builtin.List.listFitsIndex k)=true:=by
  rw[fitsIndex_both h1 h2]
  exact adh
 have hlong:¬ Builtin.List.listTooLong (its.toArray.size*k.toNat)=true:=by
  rw[uv hlen]
  exact adh
 have hnew:List.foldl (λx1 x2=>x1++x2) #[] (adg (if its.toArray.isEmpty=true then 0 else k.toNat) its.toArray)=(adg k.toNat its).flatten.toArray:=by
  have f0:∀ m:Nat,List.foldl (λx1 x2=>x1++x2) #[] (adg m its.toArray)=(adg m its).flatten.toArray:=λm=>by
   have:=yu its m []
   rw[abZ] at this
   exact this
  rw[f0]
  cases its with
  | nil=>simp
  | cons a r'=>rw[if_neg (by simp)]
 refine acb (T:="list") (U:="int") (by decide) ⟨_,e,rfl⟩ (λs'=>abD s' k t) noFill_list_mul F.fills_int_mul abp repeat_list F.slot_int_index.lookup
  (aaD abp (abD s k t) F.entry_int_rmul (F.args_int_rmul_2 _ _) (int___rmul___int_list k t l its.toArray n)
   ⟨e,rfl,⟨_,e,rfl⟩,aaD F.slot_list_mul ⟨_,e,rfl⟩ F.entry_list_mul (F.args_list_mul_2 _ _) (AutoListH.list___mul___list_int_3 l its.toArray n k t hfit hcap hlong) ⟨e,?_⟩⟩)
 rw[hnew]
 exact⟨.ref _,_,I.lnew (t':=s.toks) (r.rep k.toNat) (by rw[Ab,abH];exact hz),rfl,q _ I.fresh⟩
end
section
variable{κ:Type}[DecidableEq κ]
noncomputable def tN(kvs:List (κ×V))(k:κ):Option V:=(kvs.find? λkv=>decide (kv.1=k)).map (·.2)
noncomputable def wI(kvs:List (κ×V))(k:κ)(v:V):List (κ×V):=
 if (kvs.any λkv=>decide (kv.1=k))=true then kvs.map (λkv=>if kv.1=k then(kv.1,v) else kv) else kvs++[(k,v)]
def tK{p:κ×V}{r:List (κ×V)}{k:κ}(e:p.1=k):tN (p::r) k=U p.2:=by simp[tN,ZC,e]
def tL{p:κ×V}{r:List (κ×V)}{k:κ}(e:¬ p.1=k):tN (p::r) k=tN r k:=by simp[tN,ZC,e]
theorem CK(kvs:List (κ×V))(k:κ)(v:V):(wI kvs k v).length<=kvs.length+1:=by
 unfold wI
 split
 ·rw[YE];omega
 ·rw[YQ,YT,aag];omega
def KV.val(r:KV kvs vs)(k:κ):RelO (tN kvs k) (valueAt vs k):=by
 unfold KV at r
 induction r with
 | nil=>exact True.intro
 | @cons p q ps qs h t ih=>
  obtain⟨h1,h2⟩:=h
  by_cases e:p.1=k
  ·have e':q.1=k:=h1.symm.trans e
   have b:valueAt (q::qs) k=U q.2:=by simp[valueAt,ZC,e']
   rw[tK e,b];exact h2
  ·have e':¬ q.1=k:=λz=>e (h1.trans z)
   have b:valueAt (q::qs) k=valueAt qs k:=by simp[valueAt,ZC,e']
   rw[tL e,b];exact ih
theorem KV.any(r:KV kvs vs)(k:κ):(kvs.any λkv=>decide (kv.1=k))=vs.any λkv=>decide (kv.1=k):=by
 unfold KV at r
 induction r with
 | nil=>rfl
 | cons h t ih=>rw[ZZ,ZZ,ih,h.1]
def KV.repl(r:KV kvs vs)(k:κ)(ry:RelV y u) :
  KV (kvs.map λkv=>if kv.1=k then(kv.1,y) else kv) (vs.map λkv=>if kv.1=k then(kv.1,u) else kv):=by
 unfold KV at r ⊢
 induction r with
 | nil=>exact .nil
 | @cons p q ps qs h t ih=>
  rw[YJ,YJ]
  refine .cons ?_ ih
  obtain⟨h1,h2⟩:=h
  by_cases e:p.1=k
  ·rw[YR e,YR (h1.symm.trans e)];exact⟨h1,ry⟩
  ·rw[if_neg e,if_neg (λz=>e (h1.trans z))];exact⟨h1,h2⟩
def KV.put(r:KV kvs vs)(k:κ)(ry:RelV y u):KV (wI kvs k y) (stored vs k u):=by
 unfold wI stored
 rw[r.any k]
 by_cases e:(vs.any λkv=>decide (kv.1=k))=true
 ·rw[YR e,YR e];exact r.repl k ry
 ·rw[if_neg e,if_neg e];exact Paired.snoc r ⟨rfl,ry⟩
theorem KV.length{kvs:List (κ×V)}{vs:List (κ×gV)}(r:KV kvs vs):kvs.length=vs.length:=acl r
end
def ye{k:bD}(r:RelV (kV k) u):(cq P w).is k u=true:=by
 cases k with
 | inl i=>obtain⟨t,e⟩:=(show ∃ t,u=Value.int i t from r);subst e;exact BU P w i t
 | inr x=>obtain⟨t,e⟩:=(show ∃ t,u=Value.str x t from r);subst e;exact BS P w x t
theorem yh:∀ {ks:List bD} {us:List gV},Vals (ks.map kV) us->ItemsAre (cq P w) ks us
 | [],_,r=>by rw[abK] at r;cases r;exact .nil
 | k::ks,_,r=>by
  rw[YJ] at r
  cases r with
  | cons h t=>exact .cons (ye h) (yh t)
abbrev KT(H:Hp):List (List bD×V)->List (List bD×tx×gV)->Prop:=Paired λp q=>p.1=q.1/\H q.2.1=U (.tup (p.1.map kV))/\RelV p.2 q.2.2
def KT.val(r:KT H kvs xs)(k:List bD):RelO (tN kvs k) ((atKey xs k).map (·.2)):=by
 induction r with
 | nil=>exact True.intro
 | @cons p q ps qs h t ih=>
  obtain⟨h1,_,h2⟩:=h
  by_cases e:p.1=k
  ·have e':q.1=k:=h1.symm.trans e
   have b:atKey (q::qs) k=U q.2:=by simp[atKey,ZC,e']
   rw[tK e,b];exact h2
  ·have e':¬ q.1=k:=λz=>e (h1.trans z)
   have b:atKey (q::qs) k=atKey qs k:=by simp[atKey,ZC,e']
   rw[tL e,b];exact ih
section
variable{P:Of}{w:RG}{H:Hp}{h:Ws}{a:tx}
def Up(ok:HOk P w H h)(e:Rd H a u):ObjOk P w H h a u:=e.ok ok
def Ij(ok:HOk P w H h)(e:Rd H a (.dK kvs)):kvs.length<=acY/\(a==sysModules)=false/\∃ vs,KV kvs vs/\h.DictOf (cq P w) a vs:=
 show ObjOk P w H h a (.dK kvs) from Up ok e
def Pr(ok:HOk P w H h)(e:H a=U (.dK kvs)):kvs.length<=acY/\(a==sysModules)=false/\∃ vs,KV kvs vs/\h.DictOf (cq P w) a vs:=Ij ok (.inl e)
def Ny{ks:List bD}(ok:HOk P w H h)(e:H a=U (.tup (ks.map kV))):(tupleKind (cq P w)).is h ks a:=by
 obtain⟨_,its,r,o,h1,h2,⟨n,h3⟩,_⟩:=(show ObjOk P w H h a (.tup (ks.map kV)) from ok a _ e)
 exact⟨o,its.toArray,n,h1,h2,h3,by simpa using yh r⟩
def Pd(ok:HOk P w H h)(e:Rd H a (.dT kvs)):kvs.length<=acY/\(a==sysModules)=false /\
  ∃ xs,KT H kvs xs/\h.DictOfH (tupleKind (cq P w)) a xs:=by
 obtain⟨z,y,xs,r,o,es,ep,h1,h2,h3,h4,h5⟩:=(show ObjOk P w H h a (.dT kvs) from Up ok e)
 refine⟨z,y,xs,r,o,es,ep,h1,h2,h3,h4,λx hx=>?_,h5⟩
 have all:∀ {l:List (List bD×V)} {m:List (List bD×tx×gV)},KT H l m->∀ x∈m,(tupleKind (cq P w)).is h x.1 x.2.1:=by
  intro l m q
  induction q with
  | nil=>intro x hx;exact nomatch hx
  | @cons p q ps qs hq t ih=>
   intro x hx
   rcases Zd.mp hx with e | hx
   ·subst e
    exact Ny ok (by rw[<- hq.1];exact hq.2.1)
   ·exact ih x hx
 exact all r x hx
end
def DGet(H:Hp)(a:tx)(y:V)(r:Option V):Prop:=
 (∃ kvs k,Rd H a (.dK kvs)/\y=kV k/\r=tN kvs k)\/∃ kvs k b,Rd H a (.dT kvs)/\y=.ref b/\H b=U (.tup (k.map kV))/\r=tN kvs k
theorem DGet.k{H:Hp}{k:bD}(e:H a=U (.dK kvs)):DGet H a (kV k) (tN kvs k):=.inl ⟨kvs,k,.inl e,rfl,rfl⟩
section
variable{X:Cx}{pins:List (tx×Obj)}{σ:St}{H:Hp}{s:td}{a:tx}{y v:V}{u r:gV}{o:Option V}{A:Wr}{E:gV->td->Prop}
def Inv.big(I:Inv X pins σ H s):sysModules<s.heap.objs.size:=by
 have h:adb<s.heap.objs.size:=(I.mod.glob.keeps I.bk).lt
 exact Nat.lt_trans (by decide) h
def Ky{Q:gV->td->Prop}(hu:A.units+1<cLine)(I:Inv X pins σ H s)(g:DGet H a y (U v))(ry:RelV y u)(h:∀ w' s',Inv X pins σ H s'->RelV v w'->Q w' s') :
  ade (model X.prog X.w) A (getItem (.ref a) u) Q E s:=by
 rcases g with ⟨kvs,k,e,ey,l⟩ | ⟨kvs,k,b,e,ey,eb,l⟩
 ·subst ey
  obtain⟨z,hd,vs,rel,dd⟩:=Ij I.hok e
  obtain⟨w',hw,rw'⟩:=RelO.some_of (v:=v) (o:=valueAt vs k) (by rw[l];exact rel.val k)
  exact wpAny_getItem_of (ye ry) dd.mapOf hw (h w' _ (I.tok _) rw')
 ·subst ey
  cases(show u=Value.ref b from ry)
  obtain⟨z,hd,xs,rel,dd⟩:=Pd I.hok e
  obtain⟨w',hw,rw'⟩:=RelO.some_of (v:=v) (o:=(atKey xs k).map (·.2)) (by rw[l];exact rel.val k)
  obtain⟨p,hp,hp2⟩:=aaL.mp hw
  refine wpAny_getItem_heap (tupleKind_room_in1 hu) (Ny I.hok eb) dd hp ?_
  rw[hp2]
  exact h w' _ (I.tok _) rw'
def Im{t':Nat}{ob:HO}(I:Inv X pins σ H s)(mu:Mut (H a))(hs:Heap.SameBut a s.heap h')(he:∃ q,h'.get? a=U q)(new:ObjOk X.prog X.w (upd H a ob) h' a ob) :
  Inv X pins σ (upd H a ob) { s with heap:=h',toks:=t' }:=
 I.write (x:=a) (e:=a) mu (.inl rfl) (λb q hb z=>(hs.2 b hb).trans z) he new
def Ps{h':Ws}{kvs:List (bD×V)}(z:kvs.length<=acY)(hd:(a==sysModules)=false)(rel:KV kvs vs)(dd:h'.DictOf (cq P w) a vs) :
  ObjOk P w H' h' a (.dK kvs):=⟨z,hd,vs,rel,dd⟩
end
def DB{s:td}(I:Inv X pins σ H s)(g:DGet H a y o):s.TypeIs (.ref a) "dict":=by
 rcases g with ⟨kvs,k,e,_,_⟩ | ⟨kvs,k,b,e,_,_,_⟩
 ·obtain⟨_,_,vs,_,dd⟩:=Ij I.hok e
  exact dd.typeIs
 ·obtain⟨_,_,xs,_,dd⟩:=Pd I.hok e
  exact dd.typeIs
def Dz(h:Ws)(hb:sysModules<h.objs.size):ObjOk P w H (h.push { cls:=.type "dict",data:=.dict #[] }) h.objs.size (.dK []):=
 ⟨abf _,ZF.mpr (Ne.symm (Zi hb)),[],.nil,Heap.DictOf.new h⟩
def Vn:TE:=λ_ H Q=>∀ p,H p=Y->Q (.ref p) (upd H p (.dK []))
section
variable{X:Cx}{pos:Pos}
def Mv:PE X (.Dict [] [] pos) Vn:=λpins s σ H Q I h=>
 wpAny_Dict_empty ⟨.ref s.heap.objs.size,_,I.laid (a:=s.heap.objs.size) (o:=.dK []) (t':=s.toks) (λ_ _ q=>YA _ q) (YL _) (Dz s.heap I.big),rfl,h _ (I.hok.fresh (YL _))⟩
end
def yS:List (TE×TE)->St->Hp->(List (V×V)->Hp->Prop)->Prop
 | [],_,H,Q=>Q [] H
 | (tk,tv)::r,σ,H,Q=>tk σ H λx H1=>tv σ H1 λy H2=>yS r σ H2 λps H3=>Q ((x,y)::ps) H3
abbrev VV:List (V×V)->List (gV×gV)->Prop:=Paired λp q=>RelV p.1 q.1/\RelV p.2 q.2
def PPs(X:Cx)(pos:Pos)(keys:List (Option Nl))(values:List Nl)(trs:List (TE×TE)):Prop:=
 ∀ (pins:List (tx×Obj)) (s:td) (σ:St) (H:Hp) (Q:List (V×V)->Hp->Prop),Inv X pins σ H s->yS trs σ H Q ->
  ade (model X.prog X.w) X.A (evalPairs (pairTrees keys values X.env pos)) (λvs s'=>∃ ps H',Inv X pins σ H' s'/\VV ps vs/\Q ps H') X.xe s
def Ra:PPs X pos [] [] []:=λpins s σ H Q I h=>pairTrees_nil_walk ⟨[],H,I,.nil,h⟩
def Mn{k:Nl}(hk:PE X k tk)(hv:PE X v tv)(hr:PPs X pos ks vs trs) :
  PPs X pos (U k::ks) (v::vs) ((tk,tv)::trs):=λpins s σ H Q I h=>
 pairTrees_cons_walk (cZ (hk pins s σ H _ I h) λu s1 ⟨x,H1,I1,rx,q1⟩=>cZ (hv pins s1 σ H1 _ I1 q1) λw2 s2 ⟨y,H2,I2,ry,q2⟩=>
  cZ (hr pins s2 σ H2 _ I2 q2) λws s3 ⟨ps,H3,I3,rel,q3⟩=>⟨(x,y)::ps,H3,I3,.cons ⟨rx,ry⟩ rel,q3⟩)
noncomputable def jB(kvs more:List (bD×V)):List (bD×V):=more.foldl (λacc kv=>wI acc kv.1 kv.2) kvs
def KV.merge:∀ {more:List (bD×V)} {rs:List (bD×gV)} {kvs:List (bD×V)} {vs:List (bD×gV)},KV more rs->KV kvs vs->KV (jB kvs more) (merged vs rs):=by
 intro more rs kvs vs r
 unfold KV at r
 induction r generalizing kvs vs with
 | nil=>intro q;exact q
 | @cons p q ps qs h t ih=>
  intro r0
  have e:KV (wI kvs p.1 p.2) (stored vs q.1 q.2):=by
   have:=r0.put p.1 h.2
   rw[<- h.1];exact this
  exact ih e
theorem kQ:∀ (more kvs:List (bD×V)),(jB kvs more).length<=kvs.length+more.length
 | [],kvs=>by show kvs.length<=kvs.length+0;omega
 | p::r,kvs=>by
  have h1:=kQ r (wI kvs p.1 p.2)
  have h2:=CK kvs p.1 p.2
  show(jB (wI kvs p.1 p.2) r).length<=_
  rw[YT];omega
theorem vY:∀ {kvs:List (bD×V)} {ws:List (gV×gV)},VV (kvs.map λkv=>(kV kv.1,kv.2)) ws->∃ rs,Carries (cq P w) ws rs/\KV kvs rs
 | [],_,r=>by rw[abK] at r;cases r;exact⟨[],True.intro,.nil⟩
 | p::kvs,_,r=>by
  rw[YJ] at r
  cases r with
  | @cons a b as bs h t=>
   obtain⟨rs,c,q⟩:=vY (P:=P) (w:=w) t
   obtain⟨b1,b2⟩:=b
   exact⟨(p.1,b2)::rs,⟨ye h.1,rfl,c⟩,.cons ⟨rfl,h.2⟩ q⟩
def tDisp(trs:List (TE×TE)):TE:=λσ H Q=>∀ p,H p=Y->yS trs σ (upd H p (.dK [])) λps H2=>H2 p=U (.dK [])/\∃ kvs:List (bD×V),ps=kvs.map (λkv=>(kV kv.1,kv.2))/\kvs.length<=15/\Q (.ref p) (upd H2 p (.dK (jB [] kvs)))
theorem GX{keys:List (Option Nl)}(h:PPs X pos keys values trs)(hall:keys.all (·.isSome)=true)(hl:keys.length=values.length)(h0:keys≠[])
  (h15:keys.length<=15):PE X (.Dict keys values pos) (tDisp trs):=by
 intro pins s σ H Q I q
 have hn:=I.hok.fresh (YL s.heap.objs.size)
 have I1:=I.laid (a:=s.heap.objs.size) (o:=.dK []) (h':=s.heap.push { cls:=.type "dict",data:=.dict #[] }) (t':=s.toks) (λ_ _ q=>YA _ q) (YL _) (Dz s.heap I.big)
 refine wpAny_Dict_walk (knd:=cq X.prog X.w) hall hl h0 h15 (cZ (h pins _ σ _ _ I1 (q _ hn)) λws s2 ⟨ps,H2,I2,rel,e,kvs,ep,lk,q2⟩=>?_)
 subst ep
 obtain⟨rs,c,rk⟩:=vY (P:=X.prog) (w:=X.w) rel
 obtain⟨z,hd,vs0,r0,dd⟩:=Pr I2.hok e
 cases r0
 refine⟨rs,c,dd,λh' dd' hs=>⟨.ref s.heap.objs.size,_,?_,rfl,q2⟩⟩
 have hz:(jB [] kvs).length<=acY:=by
  have h1:=kQ kvs []
  rw[aag] at h1
  rw[abd];omega
 have he:∃ q,h'.get? s.heap.objs.size=U q:=let ⟨q,_,_,hq,_⟩:=dd';⟨q,hq⟩
 exact Im I2 (by rw[e];exact True.intro) hs he (Ps hz hd (rk.merge .nil) dd')
def IsD(H:Hp)(a:tx):Prop:=(∃ kvs,Rd H a (.dK kvs))\/∃ kvs,Rd H a (.dT kvs)
def WX{s:td}(I:Inv X pins σ H s)(d:IsD H a) :
  s.TypeIs (.ref a) "dict"/\(∀ b,Value.ref a=.ref b->∃ ob,s.heap.get? b=U ob/\ob.dict=Y)/\(a==sysModules)=false:=by
 rcases d with ⟨kvs,e⟩ | ⟨kvs,e⟩
 ·obtain⟨_,hd,vs,_,dd⟩:=Ij I.hok e
  refine⟨dd.typeIs,λb q=>?_,hd⟩
  cases q
  obtain⟨ob,_,_,h1,h2,_⟩:=dd
  exact⟨ob,h1,h2.2.1⟩
 ·obtain⟨_,hd,xs,_,dd⟩:=Pd I.hok e
  refine⟨dd.typeIs,λb q=>?_,hd⟩
  cases q
  obtain⟨ob,_,_,h1,h2,_⟩:=dd
  exact⟨ob,h1,h2.2.1⟩
end L2
namespace Att
open PySem.W PySem.Calls
def sO:∀ (ns:List Int) (vs:List gV),WellAll P h vs (ns.map WData.int)->IntsAre vs ns:=by
 intro ns
 induction ns with
 | nil=>
  intro vs w
  rw[abK] at w
  cases w
  exact .nil
 | cons n ns ih=>
  intro vs w
  rw[YJ] at w
  cases w with
  | cons a b=>
   cases a
   exact .cons _ _ (ih _ b)
theorem IK{l:OpenLaw}{n:Nat}(hn:l.most=U n)
  (hpre:l.row.toRowW.claim.pre args=true) (hwl:WellAll P h vals args) :
  ∃ a vs ns,vals=[Value.ref a]/\args=[WData.list (ns.map WData.int)]/\h.get? a=U { cls:=.type "list",data:=.seq vs.toArray }/\IntsAre vs ns/\ns.length<=n:=by
 have hsh:WShape.hasAll [] args [.list .int]=true:=(pre_splitW hpre).1
 have hc:l.pre.holds [] { args:=args } = true:=(pre_splitW hpre).2
 obtain⟨d,r,rfl,h1,h2⟩:=hasAllW_cons hsh
 obtain rfl:=hasAllW_nil h2
 obtain⟨xs,rfl,h3⟩:=hasW_list h1
 obtain⟨ns,rfl⟩:=items_int h3
 have hlen:ns.length<=n:=by
  unfold OpenLaw.pre at hc
  have h4:(WTm.not (.lt (.lit (.int (n:Int))) (.len (.arg 0)))).holds [] { args:=[.list (ns.map .int)] } = true:=by
   have h4:=(holds_andW hc).1
   rw[hn] at h4
   exact h4
  have h5:=condW_of h4 (w_not (w_lt w_lit (w_len_list (w_arg rfl))))
  rw[YE] at h5
  refine Nat.le_of_not_lt λq=>?_
  have q':(n:Int)<((ns.length:Nat):Int):=by omega
  first
   | (rw[YM q'] at h5;exact absurd h5 (by decide))
   | (simp at h5;omega)
 cases hwl with
 | cons w1 w2=>
  cases w2
  cases w1 with
  | list ho hall=>exact⟨_,_,ns,rfl,rfl,ho,sO ns _ hall,hlen⟩
def IW(l:OpenLaw)(args:List WData):l.row.toRowW.claim.post args (.bool true) args=true:=
 postW_of (r:=l.row.toRowW) (X:=(true==true))
  (show WShape.has [] (.bool true) .bool=true by first | rfl | decide | simp[WShape.has,WShape.arms,WShape.armsAll])
  (show(WTm.eq .res (.lit (.bool true))).value [] { args:=args,res:=U (.bool true),after:=args } = U (.bool (true==true)) from w_eq_bool (w_res rfl) w_lit) rfl
def DR{l:OpenLaw}{n:Nat}{YP:RG->Ws->Prop}{d:DefRec}
  (hn:l.most=U n) (hdf:d.params.defaults=[])
  (call:∀ (w:RG) (s₀ s₁:td) (mg mb:Str->Option gV) (fa:tx) (o:Obj) (pm cd doc:gV) (a:tx) (vs:List gV) (ns:List Int),
   Ground q loose [] XP w s₀ mg mb s₁.heap->YP w s₁.heap ->
   s₁.heap.get? fa=U o->o.data=.func (docDef d.name d.params d.body d.scope pm cd doc)->s₁.heap.CodeRec cd d.name->mg d.name=U (.ref fa) ->
   s₁.heap.get? a=U { cls:=.type "list",data:=.seq vs.toArray }->IntsAre vs ns->ns.length<=n->s₁.gens = #[] ->
   codeAny (model l.prog w) callerA (.call (.ref fa) ⟨[.ref a],[]⟩) (λr s'=>r=.ok (.ret (.bool true))/\OldK s₁.heap s'.heap/\s'.os=s₁.os/\AllBare s'.gens) s₁) :
  WalkO q loose XP YP l.row.toRowW d [] (λf vs=>PySem.call f vs):=by
 intro w s₀ s₁ mg mb G Y0 fa o pm cd doc dV kV ho hd hcd hD hmg hg args vals as hpre hlay hrd hwl hlo
 obtain rfl:dV=.none:=Dflts.none hD hdf
 obtain rfl:kV=.none:=Dflts.noKw hD
 obtain⟨a,vs,ns,rfl,rfl,hobj,hints,hlen⟩:=IK hn hpre hwl
 refine enter_call (aas (call w s₀ s₁ mg mb fa o pm cd doc a vs ns G Y0 ho (fd_plain hd) hcd hmg hobj hints hlen hg) λr s' hq=>?_)
 obtain⟨rfl,h2,h3,h4⟩:=hq
 exact⟨.inl ⟨.bool true,.bool true,[],rfl,λ_=>rfl,.bool true,IW l _,λ_=>⟨List.Pairwise.nil,λ_ hm=>(nomatch hm)⟩⟩,h2,h3,h4⟩
end Att
namespace L2
theorem xx:∀ {vs:List gV} {ns:List Int},IntsAre vs ns->Vals (ns.map V.int) vs
 | _,_,.nil=>.nil
 | _,_,.cons n t h=>.cons ⟨t,rfl⟩ (xx h)
def Yt(H:Hp):Prop:=∀ b,H b=Y\/∃ o xs,H b=U (.frz o (.lst xs))
def Nu{K:adf}{k:Nat}{x:Str}{s₁:td}{vs:List gV}
  (KX:K.In s₁.heap) (hns:s₁.heap.Ns adb mg) (hb:s₁.heap.Ns builtinsNs mb) (hbb:∀ x:Str,x≠"__name__"->mb x=bootBuiltins x) (hlim:s₁.heap.NoLimit) (hg:s₁.gens = #[])
  (ha:s₁.heap.get? a=U { cls:=.type "list",data:=.seq vs.toArray }) (hi:IntsAre vs ns) (hl:ns.length<=acY) (hr:Room k callerA)
  (F:∀ base:Ws,K.In base->base.Ns adb mg->FnOk P w K mg base CX k fa fd [x] sp) (hbind:∀ (s:td) (u:gV),BindsTo s fd ⟨[u],[]⟩ [(x,u)])
  (hsp:∀ H:Hp,Yt H->pz K H a (ns.map V.int)->sp [.ref a] H (λv _=>v=.bl true) λ_ _ _=>False)
  (hCX:∀ H e s',CX [] H s₁ (λ_ _ _=>False) e s'->False) :
  codeAny (model P w) callerA (.call (.ref fa) ⟨[.ref a],[]⟩) (λr s'=>r=.ok (.ret (.bool true))/\OldK s₁.heap s'.heap/\s'.os=s₁.os/\AllBare s'.gens) s₁:=by
 have rv:=xx hi
 have lenV:=hi.length
 have core:∀ H:Hp,Yt H->pz K H a (ns.map V.int)->HOk P w H s₁.heap->(∀ b,H b≠Y->b=a)->(H a≠Y->K.lookup a=Y) ->
   codeAny (model P w) callerA (.call (.ref fa) ⟨[.ref a],[]⟩) (λr s'=>r=.ok (.ret (.bool true))/\OldK s₁.heap s'.heap/\s'.os=s₁.os/\AllBare s'.gens) s₁:=by
  intro H hO hS hok hA hK
  have base_of:∀ {b:tx} {o:Obj},s₁.heap.get? b=U o->H b=Y->(Ap s₁.heap H).get? b=U o:=λe n=>NT e n
  have noA:∀ {b:tx} {o:Obj} {es:Array DictEntry} {ep:Nat},s₁.heap.get? b=U o->o.data=.dict es ep->H b=Y:=λ{b o es ep} e d=>by
   cases q:H b with
   | none=>rfl
   | some u=>
    have e':b=a:=hA b (by rw[q];simp)
    subst e'
    rw[ha] at e;cases e
    have d':Data.seq vs.toArray _=Data.dict es ep:=d
    cases d'
  have nsK:∀ {b:tx} {m:Str->Option gV},s₁.heap.Ns b m->(Ap s₁.heap H).Ns b m:=λ{b m} ⟨o,es,ep,e,d,r⟩=>⟨o,es,ep,base_of e (noA e d),d,r⟩
  have hKb:K.In (Ap s₁.heap H):=λb o e=>base_of (KX b o e) (by
   cases q:H b with
   | none=>rfl
   | some u=>
    have e':b=a:=hA b (by rw[q];simp)
    subst e'
    rw[hK (by rw[q];simp)] at e;cases e)
  have hM:Mod K mg (Ap s₁.heap H):=⟨hKb,nsK hns,⟨mb,nsK hb,hbb⟩,let ⟨mc,h1,h2⟩:=hlim;⟨mc,nsK h1,h2⟩⟩
  have e0:Env0 P w K mg (Ap s₁.heap H) callerA [] s₁ H:=⟨rfl,hM,λb o e=>RE e,abJ (JN _ _),trivial,λb hb=>absurd (show b∈([]:List tx) from hb) (by simp),hok,.of_eq hg⟩
  refine aas ((F _ hKb (nsK hns)).run callerA [] s₁ H ⟨[.ref a],[]⟩ [.ref a] [.ref a] _ _ hr e0 (hbind s₁ (.ref a)) (.cons rfl .nil) (hsp H hO hS)) λr s' h=>?_
  cases r with
  | error e=>exact(hCX H e s' h).elim
  | ok fl=>
   cases fl with
   | next=>exact False.elim h
   | brk=>exact False.elim h
   | cont=>exact False.elim h
   | ret u=>
    obtain⟨v,H',os,bare,un,hok',r',q⟩:=h
    have q':v=.bl true:=q
    subst q'
    obtain rfl:u=Value.bool true:=r'
    refine⟨rfl,OldK.of_keep λb o e=>?_,os,bare⟩
    cases q:H b with
    | none=>exact un.keep b o e q (by intro z;exact absurd (show b∈([]:List tx) from z) (by simp)) (by simp)
    | some u=>
     rcases hO b with z | ⟨ob,xs,z⟩
     ·rw[q] at z;cases z
     ·have z2:=un.frzs b ob _ z
      obtain⟨e1,_⟩:=hok b _ z
      obtain⟨e2,_⟩:=hok' b _ z2
      rw[e] at e1;cases e1
      exact e2
 cases hk:K.lookup a with
 | some o=>
  have e:=KX a o hk
  rw[ha] at e
  cases e
  refine core (λ_=>Y) (λ_=>.inl rfl) (.inr ⟨_,vs.toArray,_,hk,rfl,rfl,rfl,by rw[YC,lenV];exact hl,by simpa using rv⟩) (λb u z=>by have z':(Y:Option HO)=U u:=z;cases z') (λb z=>absurd rfl z) λz=>absurd rfl z
 | none=>
  refine core (λb=>if b=a then U (.frz { cls:=.type "list",data:=.seq vs.toArray } (.lst (ns.map V.int))) else Y) (λb=>?_) (.inl (.inr ⟨{ cls:=.type "list",data:=.seq vs.toArray },YR rfl⟩)) (λb u z=>?_) (λb z=>?_) λ_=>hk
  ·by_cases hb:b=a
   ·exact .inr ⟨_,_,YR hb⟩
   ·exact .inl (if_neg hb)
  ·by_cases hb:b=a
   ·have z':=(YR hb).symm.trans z
    cases z'
    subst hb
    exact⟨ha,by rw[YE];exact hl,vs,_,rv,ha⟩
   ·have z':=(if_neg hb).symm.trans z
    cases z'
  ·by_cases hb:b=a
   ·exact hb
   ·exact absurd (if_neg hb) z
def Qq{l:W.OpenLaw}{n k:Nat}{YP:RG->Ws->Prop}{d:DefRec}{K:Params->adf}{CX:RG->KZ}{sp:RG->Sp}{x:Str}
  (hn:l.most=U n) (hn2:n<=acY) (hdf:d.params.defaults=[]) (hr:Room k callerA)
  (hY:∀ (w:RG) (h:Ws),YP w h->(K w.params).In h)
  (F:∀ (w:RG) (mg:Str->Option gV) (fa:tx) (h:Ws),(K w.params).In h->h.Ns adb mg->mg d.name=U (.ref fa) ->
   ∃ fd:FuncData,(∀ (s:td) (u:gV),BindsTo s fd ⟨[u],[]⟩ [(x,u)]) /\
    ∀ base:Ws,(K w.params).In base->base.Ns adb mg->FnOk l.prog w (K w.params) mg base (CX w) k fa fd [x] (sp w))
  (hsp:∀ (w:RG) (H:Hp) (a:tx) (ns:List Int),ns.length<=n->Yt H->pz (K w.params) H a (ns.map V.int)->sp w [.ref a] H (λv _=>v=.bl true) λ_ _ _=>False)
  (hCX:∀ (w:RG) (H:Hp) (s:td) (e:gV) (s':td),CX w [] H s (λ_ _ _=>False) e s'->False) :
  W.WalkO q loose XP YP l.row.toRowW d [] (λf vs=>PySem.call f vs):=by
 refine Att.DR hn hdf λw s₀ s₁ mg mb fa o pm cd doc a vs ns G Y0 ho hd hcd hmg hobj hints hlen hg=>?_
 have KX:=hY w _ Y0
 obtain⟨fd,hb,hF⟩:=F w mg fa _ KX G.T.g hmg
 exact Nu KX G.T.g G.T.b G.T.builtins G.T.nolimit hg hobj hints (YW hlen hn2) hr hF hb (λH hO hS=>hsp w H a ns hlen hO hS) λH e s'=>hCX w H s₁ e s'
noncomputable def fP(s:Uo):Arguments:=match s with
 | .FunctionDef _ a _ _ _ _ _ _ _ _=>a
 | _=>{ posonlyargs:=[],args:=[],vararg:=Y,kwonlyargs:=[],kw_defaults:=[],kwarg:=Y,defaults:=[] }
noncomputable def aD(s:Uo):List Uo:=match s with
 | .FunctionDef _ _ b _ _ _ _ _ _ _=>b
 | _=>[]
noncomputable def ar(s:Uo):Scope:=match s with
 | .FunctionDef _ _ _ _ _ _ sc _ _ _=>sc
 | _=>{ kind:=.function,names:=[],isGenerator:=false,isCoroutine:=false }
noncomputable abbrev Eb:KZ:=λ_ _ _ _ _ _=>False
abbrev E0:XK:=λ_ _ _=>False
def MB:AV Eb X E0:=λ_ _ _ _ _ _ _ h=>h.elim
structure Fun(K:adf)(x qual:Str)(st:Uo)(f:tx)(fd:FuncData):Prop where
 ex:∃ (oc:gV) (od:Option tx) (kV doc pm:gV) (an:Option tx) (cdv ct:gV) (osl:Array (Option gV)),
  fd=W.fnOf x qual (fP st) (aD st) (ar st) .none kV doc pm an cdv ct/\K.lookup f=U ⟨oc,od,.func fd,osl⟩/\W.codeIn K cdv qual=true
 kp:W.keepIn K (.ref f)=true
section
variable{P:Of}{w:RG}{K:adf}{mg:Str->Option gV}{base:Ws}
def Fun.ok{st:Uo}{k:Nat}{sp:Sp}(F:Fun K x qual st f fd)(S:aN N ps (ar st))(len:∀ vs H Q E,sp vs H Q E->vs.length=ps.length)
  (hbody:∀ (cdv:gV) (A:Wr) (outer:List Env) (s:td) (H:Hp) (vs:List V) (Q:VK) (E:XK),Room k (A.deeper (envOfC qual (ar st) s.heap.objs.size f cdv))->sp vs H Q E ->
   ∃ t,PSs (sT Eb P w K mg base N qual (ar st) f cdv A outer s H E).nox (aD st) t/\t { nx:=λ_ H'=>Q .non H',rt:=Q } (start N vs) H):FnOk P w K mg base Eb (k+1) f fd ps sp:=by
 obtain⟨oc,od,kV,doc,pm,an,cdv,ct,osl,rfl,lk,hcd⟩:=F.ex
 refine Oe lk hcd S len λA outer s H vs Q E hr hsp=>?_
 obtain⟨t,h,q⟩:=hbody cdv A outer s H vs Q E hr hsp
 exact⟨t,h.nox,q⟩
def Fun.binds{st:Uo}{ps:List Str}(F:Fun K x qual st f fd)
  (h:∀ (kV doc pm:gV) (an:Option tx) (cdv ct:gV) (us:List gV),us.length=ps.length->bindArgs (W.fnOf x qual (fP st) (aD st) (ar st) .none kV doc pm an cdv ct) ⟨us,[]⟩=pure (ps.zip us)):Binds K fd ps []:=by
 obtain⟨oc,od,kV,doc,pm,an,cdv,ct,osl,rfl,lk,hcd⟩:=F.ex
 exact .all (h kV doc pm an cdv ct)
def Xa{st:Uo}{oc:gV}{od:Option tx}{osl:Array (Option gV)}{kV:gV}(l:K.lookup f=U ⟨oc,od,.func (W.fnOf x qual (fP st) (aD st) (ar st) .none kV doc pm an cdv ct),osl⟩)
  (c:W.codeIn K cdv qual=true) (k:W.keepIn K (.ref f)=true):Fun K x qual st f (W.fnOf x qual (fP st) (aD st) (ar st) .none kV doc pm an cdv ct):=⟨⟨oc,od,kV,doc,pm,an,cdv,ct,osl,rfl,l,c⟩,k⟩
end
section
variable{X:Cx}
noncomputable def pv(i:Nat){x:Str}(hN:X.N[i]?=U x:=by rfl)(hv:Ua X.env.scope x:=by first | exact Or.inl rfl | exact Or.inr (Or.inl rfl) | exact Or.inr (Or.inr rfl))(hd:(x==("__debug__":Str))=false:=by decide)
  (hcd:(x==("__classdict__":Str))=false:=by decide):PE X (.Name x pos) (tVar i):=EQ hN hv hd hcd
end
noncomputable def nw(cells:List (Str×tx)):List (Str×NameKind)->List (Str×tx)->List (Str×tx)
 | [],acc=>acc
 | (n,k)::r,acc=>if k==.free then nw cells r ((n,(cells.lookup n).getD 0)::acc) else nw cells r acc
theorem jf{env:Env}:∀ (names:List (Str×NameKind)) (acc:List (Str×tx)),(∀ x∈names,x.2=.free->(env.cells.lookup x.1).isSome=true) ->
  (forIn names acc λ(x:Str×NameKind) (r:List (Str×tx))=>(do
   if x.2==.free then do let c <- cellOf env x.1;pure (ForInStep.yield ((x.1,c)::r)) else pure (ForInStep.yield r):Sem (ForInStep (List (Str×tx)))))=pure (nw env.cells names acc)
 | [],acc,_=>rfl
 | (n,k)::r,acc,h=>by
  rw[aai]
  cases hk:k==NameKind.free with
  | true=>
   have e:k=.free:=by simpa using hk
   have hs:=h (n,k) YF e
   obtain⟨c,hc⟩:=aaf.mp hs
   have hc':env.cells.lookup n=U c:=hc
   have hce:cellOf env n=pure c:=by unfold cellOf;rw[hc']
   simp only[abe,hce,hc',abN,pure_bind,nw,hk]
   rw[jf r _ λx hx=>h x (YB _ hx)]
  | false=>
   simp only[ZB,aaG,pure_bind,nw,hk]
   exact jf r _ λx hx=>h x (YB _ hx)
def oI{scope:Scope}{env:Env}(h:∀ x∈scope.names,x.2=.free->(env.cells.lookup x.1).isSome=true):closureFor scope env=pure (nw env.cells scope.names []):=by
 have q:=jf (env:=env) scope.names [] h
 unfold closureFor
 refine Eq.trans ?_ (Eq.trans (congrArg (λ(m:Sem (List (Str×tx)))=>m >>= λcs=>pure cs) q) ?_)
 ·rfl
 ·rfl
theorem rH(cells:List (Str×tx)):∀ (names:List (Str×NameKind)) (acc:List (Str×tx)),(∀ x∈names,x.2=.free->(cells.lookup x.1).isSome=true)->(∀ y c,acc.lookup y=U c->cells.lookup y=U c) ->
  ∀ y c,(nw cells names acc).lookup y=U c->cells.lookup y=U c
 | [],_,_,ha=>ha
 | (n,k)::r,acc,h,ha=>by
  unfold nw
  split
  ·rename_i hk
   refine rH cells r _ (λx hx=>h x (YB _ hx)) λy c e=>?_
   rw[aaO] at e
   split at e
   ·rename_i hy
    have hy':y=n:=by simpa using hy
    subst hy'
    obtain⟨c',hc'⟩:=aaf.mp (h (y,k) YF (by simpa using hk))
    have hc'':cells.lookup y=U c':=hc'
    rw[hc''] at e ⊢
    exact e
   ·exact ha y c e
  ·exact rH cells r _ (λx hx=>h x (YB _ hx)) ha
theorem po(cells:List (Str×tx)):∀ (names:List (Str×NameKind)) (acc:List (Str×tx)) (y:Str),(acc.lookup y).isSome=true->((nw cells names acc).lookup y).isSome=true
 | [],_,_,h=>h
 | (n,k)::r,acc,y,h=>by
  unfold nw
  split
  ·refine po cells r _ y ?_
   rw[aaO]
   split
   ·rfl
   ·exact h
  ·exact po cells r _ y h
theorem qD(cells:List (Str×tx)):∀ (names:List (Str×NameKind)) (acc:List (Str×tx)) (y:Str),(y,NameKind.free)∈names->((nw cells names acc).lookup y).isSome=true
 | [],_,_,h=>by simp at h
 | (n,k)::r,acc,y,h=>by
  unfold nw
  rcases Zd.mp h with e | h
  ·cases e
   rw[YR (by rfl)]
   exact po cells r _ _ (by rw[aaO];simp)
  ·split
   ·exact qD cells r _ y h
   ·exact qD cells r _ y h
theorem lG{scope:Scope}{env:Env}{y:Str}:∀ {names:List (Str×NameKind)},
  ((names.map λ(n,k)=>if (k==NameKind.free&&env.scope.kind==.function&&env.kindOf n==U .cell) then(n,NameKind.cell) else(n,k)).lookup y=U .cell \/
  (names.map λ(n,k)=>if (k==NameKind.free&&env.scope.kind==.function&&env.kindOf n==U .cell) then(n,NameKind.cell) else(n,k)).lookup y=U .free) ->
  (∀ x∈names,x.2≠.cell)->(y,NameKind.free)∈names
 | [],h,_=>by simp at h
 | (n,k)::r,h,hc=>by
  have ih:=@lG scope env y r
  have hr:∀ x∈r,x.2≠.cell:=λx hx=>hc x (YB _ hx)
  rw[YJ] at h
  by_cases hq:(k==NameKind.free&&env.scope.kind==.function&&env.kindOf n==U .cell)=true
  ·have hk:k=.free:=by
    have:=hq
    simp only[YD] at this
    simpa using this.1.1
   simp only[hq,abe] at h
   simp only[aaO] at h
   cases hy:y==n with
   | true=>
    have e:y=n:=by simpa using hy
    rw[e,hk]
    exact YF
   | false=>
    simp only[hy] at h
    exact YB _ (ih h hr)
  ·simp only[hq,ZB,aaG] at h
   simp only[aaO] at h
   cases hy:y==n with
   | true=>
    simp only[hy] at h
    have e:y=n:=by simpa using hy
    rcases h with h | h
    ·exact absurd (YU h) (hc (n,k) YF)
    ·rw[e,<- YU h]
     exact YF
   | false=>
    simp only[hy] at h
    exact YB _ (ih h hr)
noncomputable def qG(X:Cx)(N':List Str)(scope:Scope)(C:tx)(s:td)(H:Hp)(fp:List tx):Cx:=
 {X with N:=N',s₀:=s,H₀:=H,env:=compEnvC scope (nw X.env.cells scope.names []) C X.env,outer:=X.stack,ex:=fp,fn:=λ_=>false,pn:=[],xe:=λ_ _=>False }
def Uc(X:Cx)(ifs:List Nl)(t:TT):Prop:=
 ∀ (pins:List (tx×Obj)) (s:td) (σ:St) (H:Hp) (Q:Bool->Hp->Prop),Inv X pins σ H s->t σ H Q->ade (model X.prog X.w) X.A (forIn ifs true λc r=>if r=true then do let ok <- isTrue c X.env (eval c X.env);pure (ForInStep.yield ok) else pure (ForInStep.yield r)) (TP X pins σ Q) X.xe s
def QT:Uc X [] (λ_ H Q=>Q true H):=λ_ _ _ H _ I h=>wpAny_tests_nil ⟨H,I,h⟩
def QS(h:PT X c t):Uc X [c] t:=λpins s σ H Q I q=>wpAny_tests_one (h pins s σ H Q I q)
noncomputable def tO(e tg:Nl)(p0:Pos)(ifs:List Nl)(d:Nat)(it acc:gV)(env:Env)(bc:Sem Unit):Sem Fin:=do
 standAt p0
 let r <- pyNext it
 match r with
 | none=>pure (Fin.done Flow.next)
 | some v=>do
  letOwnedTupleGo tg it v
  assign tg env v
  let ok <- forIn ifs true λc r=>if r=true then do let ok <- isTrue c env (eval c env);pure (ForInStep.yield ok) else pure (ForInStep.yield r)
  if ok=true then do bc;again (.compLoop e d it acc env) else again (.compLoop e d it acc env)
noncomputable def Xx(elt:Nl)(acc:gV)(env:Env):Sem Unit:=do
 let x <- eval elt env
 let _ <- call (.builtin "list.append") [acc,x]
 pure ()
section
variable{prog:Of}{w:RG}{A:Wr}{R:Result->td->Prop}{s:td}
def nv{e:Nl}{d:Nat}(he:e=.ListComp elt gens scope pos)(htn:compTurn e d it acc env=tO e tg p0 ifs d it acc env bc)(I:Nat->td->Prop)
  (turn:∀ n s,I n s->ade (model prog w) A (pyNext it) (λr s₁=>match r with
   | none=>R (.ok .next) s₁
   | some v=>ade (model prog w) A (letOwnedTupleGo tg it v) (λ_ s₁'=>ade (model prog w) A (assign tg env v) (λ_ s₂=>
     ade (model prog w) A (forIn ifs true λc r=>if r=true then do let ok <- isTrue c env (eval c env);pure (ForInStep.yield ok) else pure (ForInStep.yield r)) (λok s₃=>
      if ok=true then ade (model prog w) A bc (λ_ s₅=>∃ m,m<n/\I m s₅) (λ_ _=>False) s₃
      else ∃ m,m<n/\I m s₃) (λ_ _=>False) s₂) (λ_ _=>False) s₁') (λ_ _=>False) s₁) (λ_ _=>False) s)
  (n:Nat) (h:I n s) :
  codeAny (model prog w) A (.compLoop e d it acc env) R s:=by
 refine codeAny_loop rfl I (λn s hI=>?_) n h
 subst he
 show ade _ A ((compTurn (.ListComp elt gens scope pos) d it acc env).onRaise (λx=>do noteFrame x env;theTreesLotGoes x)) _ _ s
 refine wpAny_noted ?_
 rw[htn]
 refine Yy (aaQ (Yy (Zj (turn n s hI) (λr s₁ h₁=>?_) λ_ _ h'=>h'.elim)))
 cases r with
 | none=>exact YH h₁
 | some v=>
  refine Yy (Zj h₁ (λ_ s₁' h₁'=>?_) λ_ _ h'=>h'.elim)
  refine Yy (Zj h₁' (λ_ s₂ h₂=>Yy (Zj h₂ (λok s₃ h₃=>?_) λ_ _ h'=>h'.elim)) λ_ _ h'=>h'.elim)
  cases ok with
  | false=>exact YH ⟨rfl,h₃⟩
  | true=>exact Yy (Zj h₃ (λ_ s₅ h₅=>YH ⟨rfl,h₅⟩) λ_ _ h'=>h'.elim)
end
abbrev TB:=St->Hp->(St->Hp->Prop)->Prop
def PB(X:Cx)(m:Sem Unit)(tb:TB):Prop:=
 ∀ (pins:List (tx×Obj)) (s:td) (σ:St) (H:Hp) (Q:St->Hp->Prop),Inv X pins σ H s->tb σ H Q->ade (model X.prog X.w) X.A m (λ_ s'=>∃ σ' H',Inv X pins σ' H' s'/\Q σ' H') X.xe s
def tEm(te:TE)(p:tx):TB:=λσ H Q=>te σ H λy H5=>∃ ys,H5 p=U (.lst ys)/\ys.length<acY/\Q σ (upd H5 p (.lst (ys++[y])))
def GZ(he:PE X elt te):PB X (Xx elt (.ref p) X.env) (tEm te p):=λpins s σ H Q I h=>by
 refine Yy (cZ (he pins s σ H _ I h) λxv s8 ⟨y,H8,J8,r8,q8⟩=>?_)
 obtain⟨ys,hy,hz,q9⟩:=q8
 refine Yy (cZ (xP _ s8 σ H8 (.ref p) [y] (.ref p) [xv] (λ_ H9=>H9=upd H8 p (.lst (ys++[y]))) J8 rfl (.cons r8 .nil) ⟨_,ys,y,rfl,rfl,hy,hz,rfl⟩) λ_ s9 ⟨_,H9,J9,_,e9⟩=>?_)
 subst e9
 exact YH ⟨_,_,J9,q9⟩
def Lw(J:It)(g:TG)(tt:TT)(tb:TB)(σ:St)(H:Hp)(Q:St->Hp->Prop):Prop:=∃ W:Nat->Nat->St->Hp->Prop,(∃ m,W 0 m σ H)/\∀ i m σ' H',W i m σ' H' ->
 (J.stop i H'/\Q σ' H')\/(J.go i H'/\∀ x H2,J.yld i H' x H2->g x σ' H2 λσ2 H3=>tt σ2 H3 λok H4=>
  if ok=true then tb σ2 H4 λσ3 H5=>∃ m',m'<m/\W (i+1) m' σ3 H5 else ∃ m',m'<m/\W (i+1) m' σ2 H4)
def KC{X:Cx}{e:Nl}{d:Nat}
  (hc:X.calm=true) (hx:∀ e s,X.xe e s->False) (hl:e=.ListComp elt gens scope pos) (htn:compTurn e d (.ref it) acc X.env=tO e tg p0 ifs d (.ref it) acc X.env bc) (hg:PG X tg g) (ht:Uc X ifs tt) (hb:PB X bc tb) (T:GL X.prog X.w X.K tg J fp it tn) {s:td} (I:Inv X pins σ H s) (st:tn 0 s.heap) (f2:∀ b∈fp,rP X pins H b) (h:Lw J g tt tb σ H Q) :
  codeAny (model X.prog X.w) X.A (.compLoop e d (.ref it) acc X.env) (λr s'=>∃ σ' H',r=.ok .next/\Inv X pins σ' H' s'/\Q σ' H') s:=by
 obtain⟨W,⟨m0,w0⟩,turn⟩:=h
 have no:∀ e s,X.xe e s->(λ(_:gV) (_:td)=>False) e s:=hx
 have stat:∀ {H':Hp},(∀ b∈fp,H' b=Y)->∀ b∈fp,rP X pins H' b:=λhn b hb=>⟨hn b hb,(f2 b hb).2⟩
 refine nv hl htn (λn s'=>∃ i σ' H',Inv X pins σ' H' s'/\tn i s'.heap/\(∀ b∈fp,H' b=Y)/\W i n σ' H') ?_ m0 ⟨0,_,_,I,st,λb hb=>(f2 b hb).1,w0⟩
 rintro n s3 ⟨i,σ3,H3,J3,st3,fr3,w3⟩
 rcases turn i n σ3 H3 w3 with ⟨stop,qn⟩ | ⟨go,step⟩
 ·refine cZ (T.done X rfl rfl rfl hc i pins s3 σ3 H3 _ J3 (stat fr3) st3 stop) λr s4 ⟨hr,J4⟩=>?_
  subst hr
  exact⟨σ3,H3,rfl,J4,qn⟩
 ·refine cZ (T.item X rfl rfl rfl hc i pins s3 σ3 H3 _ J3 (stat fr3) st3 go) λr s4 ⟨u,hr,h4⟩=>?_
  subst hr
  refine cZ h4 λ_ s5 ⟨x,H5,J5,r5,y5,st5,fr5⟩=>?_
  have J5':=J5.pinned (stat fr5) (T.obj _ _ st5)
  refine Zj (hg _ s5 σ3 H5 x u _ J5' r5 (step x H5 y5)) (λ_ s6 ⟨σ6,H6,J6,q6⟩=>?_) no
  refine Zj (ht _ s6 σ6 H6 _ J6 q6) (λok s7 ⟨H7,J7,q7⟩=>?_) no
  have again:∀ {s':td} {σ7:St} {H7:Hp},Inv X (pins++ug fp s5.heap) σ7 H7 s'->(∃ m',m'<n/\W (i+1) m' σ7 H7)->∃ m,m<n/\∃ i σ' H',Inv X pins σ' H' s'/\tn i s'.heap/\(∀ b∈fp,H' b=Y)/\W i m σ' H':=λ{s' σ7 H7} J7 n7=>by
   obtain⟨m',hm,w7⟩:=n7
   refine⟨m',hm,i+1,σ7,H7,J7.unpinned,T.keep _ _ _ st5 λb hb o e=>(J7.pin (b,o) (Zs _ (Zs _ (lL hb e)))).1,λb hb=>?_,w7⟩
   obtain⟨o,e,d⟩:=T.obj _ _ st5 b hb
   exact(J7.pin (b,o) (Zs _ (Zs _ (lL hb e)))).2.1
  cases ok with
  | false=>
   rw[if_neg adh] at q7 ⊢
   exact again J7 q7
  | true=>
   rw[YR rfl] at q7 ⊢
   exact Zj (hb _ s7 σ6 H7 _ J7 q7) (λ_ s9 ⟨σ9,H9,J9,q9⟩=>again J9 q9) no
structure BlockOk(X:Cx)(N':List Str)(scope:Scope)(cap:List (Option Nat)):Prop where
 kind:scope.kind=.function
 nocell:∀ x∈scope.names,x.2≠.cell
 names:∀ x∈scope.names,x.2=.local->scope.names.lookup x.1=U .local
 free:∀ x∈scope.names,x.2=.free->(X.env.kindOf x.1=U .cell\/X.env.kindOf x.1=U .free)
 nd:N'.Nodup
 len:cap.length=N'.length
 cap:∀ (j i:Nat),cap[j]?=U (U i)->∃ y,N'[j]?=U y/\X.N[i]?=U y/\Ua X.env.scope y/\(X.env.kindOf y=U .cell\/X.env.kindOf y=U .free)/\((relabel scope X.env).names.lookup y=U .cell\/(relabel scope X.env).names.lookup y=U .free)
noncomputable def σB(cap:List (Option Nat))(σ:St):St:=cap.map λo=>o.bind λi=>(σ[i]?).join
section
variable{X:Cx}{pins:List (tx×Obj)}{σ:St}{H:Hp}{s:td}{N':List Str}{scope:Scope}{cap:List (Option Nat)}{C:tx}{fp:List tx}
theorem BlockOk.cells(B:BlockOk X N' scope cap)(ok:X.Ok):∀ x∈scope.names,x.2=.free->(X.env.cells.lookup x.1).isSome=true:=λx hx hf=>by
 obtain⟨c,e⟩:=ok.has x.1 (B.free x hx hf)
 rw[e];rfl
def BlockOk.cl(B:BlockOk X N' scope cap)(ok:X.Ok):∀ y c,(nw X.env.cells scope.names []).lookup y=U c->X.env.cells.lookup y=U c:=
 rH _ _ _ (B.cells ok) λy c e=>by simp at e
def Inv.notStk(I:Inv X pins σ H s){b:tx}(h1:b≠X.env.locals)(h2:b∉X.fs):b∉yt X.stack:=λz=>(Zd.mp (I.stkSub b z)).elim h1 h2
def Inv.block{h4:Ws}{tk:Nat}(I:Inv X pins σ H s)(B:BlockOk X N' scope cap)(hfp:∀ b∈fp,rP X pins H b/\b<s.heap.objs.size)(hC:s.heap.objs.size<=C)
  (hk:∀ b o,s.heap.get? b=U o->h4.get? b=U o) (hn:h4.Ns C m0):Inv (qG X N' scope C s H fp) [] (σB cap σ) H { s with heap:=h4,toks:=tk }:=by
 have okX:=I.ok
 have hcl:=B.cl okX
 have cellC:∀ x c,(nw X.env.cells scope.names []).lookup x=U c->∃ v,s.heap.IsCell c v:=λx c e=>I.cell x c (hcl x c e)
 have neC:∀ b o,s.heap.get? b=U o->b≠C:=λb o e=>Zi (YV (YI e) hC)
 refine⟨⟨okX.mod,B.kind,okX.glob,okX.blt,hC,λx y c e1 e2=>okX.inj x y c (hcl x c e1) (hcl y c e2),λx hx=>?_,λx c e _=>(by cases e),okX.hd,okX.frames,.inl rfl,λb hb=>⟨λz=>?_,λx c e z=>?_⟩,λb o e=>I.bs b o e,YW okX.bsz I.sz,λb o e hb=>?_,λb hb z=>?_,I.stack,I.stkFree⟩,
  rfl,I.bare,Un.kept hk,⟨m0,hn,λj y v e1 e2 e3=>?_⟩,λx c e=>?_,I.hok.fresh hC,λx c e=>I.freeC x c (hcl x c e),λp hp=>absurd (show p∈([]:List (tx×Obj)) from hp) (by simp),I.hok.kept hk,?_⟩
 ·have q:=lG (scope:=scope) (env:=X.env) (y:=x) (names:=scope.names) hx B.nocell
  exact aaf.mp (qD _ _ _ _ q)
 ·have z':b=C:=z
  exact absurd (hfp b hb).2 (by rw[z'];exact aci.mpr hC)
 ·exact(hfp b hb).1.2.2.2.2.1 x c (hcl x c e) z
 ·obtain⟨h0,h1,h2,h3,h4',h5⟩:=(hfp b hb).1
  rcases h3 with h3 | h3
  ·exact okX.noex b o e h3
  ·have:=(okX.bs b o e).1
   exact absurd (YV (YI this) h3) (aaj _)
 ·obtain⟨h0,h1,h2,h3,h4',h5⟩:=(hfp b hb).1
  exact I.notStk h1 h2 z
 ·have e1':N'[j]?=U y:=e1
  unfold σB at e2
  rw[aah] at e2
  cases ec:cap[j]? with
  | none=>rw[ec] at e2;cases e2
  | some o=>
   rw[ec] at e2
   cases o with
   | none=>cases e2
   | some i=>
    obtain⟨y',n1,n2,vis,kx,kb⟩:=B.cap j i ec
    rw[e1'] at n1;cases n1
    have e2':(σ[i]?).join=U v:=YU e2
    have e2'':σ[i]?=U (U v):=by
     cases q:σ[i]? with
     | none=>rw[q] at e2';cases e2'
     | some z=>rw[q] at e2';exact congrArg U e2'
    obtain⟨m,hm,hl⟩:=I.loc
    obtain⟨u,ru,lk⟩:=hl i y v n2 e2'' vis
    refine⟨u,ru,.inr ⟨kb,?_⟩⟩
    rcases lk with ⟨k,_⟩ | ⟨k,c,ec',z⟩
    ·rcases kx with kx | kx
     ·rw[kx] at k;cases k
     ·rw[kx] at k;cases k
    ·have q:=lG (scope:=scope) (env:=X.env) (y:=y) (names:=scope.names) kb B.nocell
     obtain⟨c',hc'⟩:=aaf.mp (qD X.env.cells scope.names [] y q)
     have:=hcl y c' hc'
     rw[ec'] at this;cases this
     exact⟨c,hc',z.keeps hk⟩
 ·obtain⟨v,z⟩:=cellC x c e
  exact⟨v,z.keeps hk⟩
 ·show(σB cap σ).length=N'.length
  unfold σB
  rw[YE,B.len]
def Inv.unblock(I:Inv X pins σ H s)(hfp:∀ b∈fp,rP X pins H b)(J:Inv (qG X N' scope C s H fp) pins' σ' Hf s'):Inv X pins σ Hf s':=
 I.call' (ch:=fp) J.os J.base J.hok J.bare λb hb=>by
  obtain⟨h0,h1,h2,h3,h4,h5⟩:=hfp b hb
  exact⟨h3,h1,h4,h5⟩
end
def yU(wi:TI)(g:TG)(tt:TT)(tb:tx->TB)(cap:List (Option Nat)):TE:=λσ H Q=>wi σ H λJ H1=>∀ p,H1 p=Y->Lw J g tt (tb p) (σB cap σ) (upd H1 p (.lst [])) λ_ H'=>Q (.ref p) H'
def Lx(wi:TI)(g:TG)(tt:TT)(te:TE)(cap:List (Option Nat)):TE:=yU wi g tt (tEm te) cap
def Behind(X:Cx)(pins:List (tx×Obj))(σ:St)(Q:VK)(acc:gV)(C:tx)(r:Result)(s':td):Prop:=
 ∃ p Hf m,r=.ok .next/\acc=.ref p/\Inv X pins σ Hf s'/\Q (.ref p) Hf/\s'.heap.Ns C m/\Hf C=Y/\C≠X.env.locals/\X.s₀.heap.objs.size<=C/\(∀ x c,X.env.cells.lookup x=U c->c≠C)/\(∀ q∈X.pn++pins,q.1≠C)
theorem vV{X:Cx}{rest:List Comprehension}{tb:tx->TB}{bc:gV->Env->Sem Unit}
  (hc:X.calm=true) (B:BlockOk X N' scope cap) (hi:PI X tg iter wi) (hg:∀ C s H fp,PG (qG X N' scope C s H fp) tg g) (ht:∀ C s H fp,Uc (qG X N' scope C s H fp) ifs tt)
  (htn:∀ it acc env,compTurn (.ListComp elt (⟨tg,iter,ifs,0⟩::rest) scope pos) 0 it acc env=tO (.ListComp elt (⟨tg,iter,ifs,0⟩::rest) scope pos) tg iter.pos ifs 0 it acc env (bc acc env))
  (hb:∀ C s H fp p,PB (qG X N' scope C s H fp) (bc (.ref p) (qG X N' scope C s H fp).env) (tb p)) {s:td} (I:Inv X pins σ H s) (h:yU wi g tt tb cap σ H Q) {E:gV->td->Prop} (hE:∀ e s,X.xe e s->E e s) :
  ade (model X.prog X.w) X.A (eval iter X.env) (λx s₁=>ade (model X.prog X.w) X.A (pyIter x) (λit s₂=>ade (model X.prog X.w) X.A (newList []) (λacc s₃=>
   ade (model X.prog X.w) X.A (newFunctionEnv scope X.env.globals (nw X.env.cells scope.names []) [] X.env.qual Y .none (U X.env)) (λcenv s₄=>
    codeAny (model X.prog X.w) X.A (.compStart (.ListComp elt (⟨tg,iter,ifs,0⟩::rest) scope pos) 0 it acc { cenv with scope:=relabel scope X.env }) (Behind X pins σ Q acc cenv.locals) s₄) E s₃) E s₂) E s₁) E s:=by
 refine Zj (hi pins s σ H _ I h) (λv s1 h1=>Zj h1 (λitv s2 h2=>?_) hE) hE
 obtain⟨it,fp,tn,J,H1,e,I2,T,st2,f2,hW⟩:=h2
 subst e
 refine Zp (wpAny_newFunctionEnv B.nocell (by intro y hy;simp at hy) (λh₁ hns₁ hsb₁=>?_) B.kind)
 dsimp only at hns₁ hsb₁ ⊢
 have hp1:H1 s2.heap.objs.size=Y:=I2.hok.fresh (YL _)
 have hL:=hW s2.heap.objs.size hp1
 have I3:Inv X pins σ (upd H1 s2.heap.objs.size (.lst [])) { s2 with heap:=s2.heap.push { cls:=.type "list",dict:=Y,data:=.seq ([]:List gV).toArray },toks:=s2.toks }:=
  I2.laid (λb o e=>YA _ e) (YL _) ⟨abf _,[],_,.nil,YN _ rfl⟩
 generalize hH2:s2.heap.push { cls:=.type "list",dict:=Y,data:=.seq ([]:List gV).toArray } = H2 at hns₁ hsb₁ I3 ⊢
 have hC:H2.objs.size=s2.heap.objs.size+1:=by rw[<- hH2,ZV]
 have ltfp:∀ b∈fp,b<s2.heap.objs.size:=λb hb=>by
  obtain⟨o,e,_⟩:=T.obj _ _ st2 b hb
  exact YI e
 have hf3:∀ b∈fp,rP X pins (upd H1 s2.heap.objs.size (.lst [])) b/\b<H2.objs.size:=λb hb=>by
  obtain⟨a0,a⟩:=f2 b hb
  refine⟨⟨?_,a⟩,by rw[hC];exact Nat.lt_succ_of_lt (ltfp b hb)⟩
  rw[aR (Zi (ltfp b hb))];exact a0
 have up:∀ b o,H2.get? b=U o->h₁.get? b=U o:=λb o e=>hsb₁.extBut b o (Zi (YI e)) (YA _ e)
 have I4:=I3.block (C:=H2.objs.size) (fp:=fp) (h4:=h₁) (tk:=s2.toks+([]:List (Str×gV)).length) B hf3 (YL _) up hns₁
 have st4:tn 0 h₁:=T.keep _ _ _ st2 λb hb o e=>up b o (by rw[<- hH2];exact YA _ e)
 have loop:codeAny (model X.prog X.w) X.A (.compLoop (.ListComp elt (⟨tg,iter,ifs,0⟩::rest) scope pos) 0 (.ref it) (.ref s2.heap.objs.size) (compEnvC scope (nw X.env.cells scope.names []) H2.objs.size X.env))
    (Behind X pins σ Q (.ref s2.heap.objs.size) H2.objs.size) { s2 with heap:=h₁,toks:=s2.toks+([]:List (Str×gV)).length }:=by
  refine aas (KC (X:=qG X N' scope H2.objs.size { s2 with heap:=H2,toks:=s2.toks } (upd H1 s2.heap.objs.size (.lst [])) fp) hc (λ_ _ z=>z) rfl (htn _ _ _) (hg _ _ _ _) (ht _ _ _ _) (hb _ _ _ _ _) T I4 st4 (λb hb=>?_) hL) λr s4 ⟨σ4,H4,hr,J4,qn⟩=>?_
  ·obtain⟨h0,h1,h2,h3,h4',h5⟩:=(hf3 b hb).1
   exact⟨h0,Zi (hf3 b hb).2,I3.notStk h1 h2,.inl hb,λx c e=>h4' x c (B.cl I3.ok x c e),λp hp=>absurd (show p∈([]:List (tx×Obj)) from hp) (by simp)⟩
  ·obtain⟨m,hm,_⟩:=J4.loc
   have IX:=I3.unblock (λb hb=>(hf3 b hb).1) J4
   refine⟨_,H4,m,hr,rfl,IX,qn,hm,J4.free,?_,?_,λx c e z=>?_,λq hq z=>?_⟩
   ·exact Ne.symm (Zi I3.lt)
   ·exact I3.sz
   ·obtain⟨v,q⟩:=I3.cell x c e
    exact absurd q.lt (by rw[z];exact aaj _)
   ·exact absurd (YI (I3.pin q hq).1) (by rw[z];exact aaj _)
 exact codeAny_compStart_list loop (T.self _ 0 _ _ _ st4 loop)
noncomputable def Mw{X:Cx}{iter:Nl}{rest:List Comprehension}{tb:tx->TB}{bc:gV->Env->Sem Unit}
  (hc:X.calm=true) (B:BlockOk X N' scope cap) (hi:PI X tg iter wi) (hg:∀ C s H fp,PG (qG X N' scope C s H fp) tg g) (ht:∀ C s H fp,Uc (qG X N' scope C s H fp) ifs tt) (htn:∀ it acc env,compTurn (.ListComp elt (⟨tg,iter,ifs,0⟩::rest) scope pos) 0 it acc env=tO (.ListComp elt (⟨tg,iter,ifs,0⟩::rest) scope pos) tg iter.pos ifs 0 it acc env (bc acc env))
  (hb:∀ C s H fp p,PB (qG X N' scope C s H fp) (bc (.ref p) (qG X N' scope C s H fp).env) (tb p))
  (hs:∀ x,ada iter X.env x=pure x):PE X (.ListComp elt (⟨tg,iter,ifs,0⟩::rest) scope pos) (yU wi g tt tb cap):=by
 intro pins s σ H Q I h
 rw[eval_ListComp]
 refine acg (use:=Y) rfl hs (oI (B.cells I.ok)) B.kind B.names ?_
 refine Zj (vV hc B hi hg ht htn hb I h λ_ _ x=>x) (λx s1 h1=>Zj h1 (λit s2 h2=>Zj h2 (λacc s3 h3=>Zj h3 (λcenv s4 h4=>aas h4 λr s' hr=>?_) λ_ _ x=>x) λ_ _ x=>x) λ_ _ x=>x) λ_ _ x=>x
 obtain⟨p,Hf,m,rfl,rfl,J,q,hn,c1,c2,c3,c4,c5⟩:=hr
 exact⟨m,hn,λh' sb=>⟨_,Hf,J.turned (t':=s'.toks) (λb o hb e=>(sb.2 b hb).trans e) c1 c2 (.inr c3) c4 c5,(show RelV (.ref p) (.ref p) from rfl),q⟩⟩
noncomputable def BB{X:Cx}{iter:Nl}{rest:List Comprehension}{spos:Pos}{tb:tx->TB}{bc:gV->Env->Sem Unit}{y:Str}{i:Nat}
  (hN:X.N.Nodup) (hy:X.N[i]?=U y) (hx:Qm X.env.scope y)
  (hc:X.calm=true) (B:BlockOk X N' scope cap) (hi:PI X tg iter wi) (hg:∀ C s H fp,PG (qG X N' scope C s H fp) tg g) (ht:∀ C s H fp,Uc (qG X N' scope C s H fp) ifs tt) (htn:∀ it acc env,compTurn (.ListComp elt (⟨tg,iter,ifs,0⟩::rest) scope pos) 0 it acc env=tO (.ListComp elt (⟨tg,iter,ifs,0⟩::rest) scope pos) tg iter.pos ifs 0 it acc env (bc acc env))
  (hb:∀ C s H fp p,PB (qG X N' scope C s H fp) (bc (.ref p) (qG X N' scope C s H fp).env) (tb p))
  (hsw:swapsWith (.ListComp elt (⟨tg,iter,ifs,0⟩::rest) scope pos) (U (.Name y py)) spos.line X.env=pure true)
  (hs:∀ x,ada iter X.env x=pure x) (hf:X.fn y=true\/X.env.scope.names.lookup y=U .local) :
  PS X (.Assign [.Name y py] (.ListComp elt (⟨tg,iter,ifs,0⟩::rest) scope pos) spos) (Lz (yU wi g tt tb cap) (HM i)):=by
 intro pins s σ H D I h
 rw[exec_Assign_Name_used _ _ _ _ hsw]
 refine Yy (aaQ (Yy ?_))
 show ade _ _ (do let _ <- comprehension (.ListComp elt (⟨tg,iter,ifs,0⟩::rest) scope pos) scope X.env _ (newList []) false (eval iter X.env) (U (assign (.Name y py) X.env))) _ _ s
 refine Yy (Zj (acg (use:=U (assign (.Name y py) X.env)) (Q:=λ_ s'=>SP X pins D .next s') rfl hs (oI (B.cells I.ok)) B.kind B.names
  (Zj (vV hc B hi hg ht htn hb I h λ_ _ x=>x) (λx s1 h1=>Zj h1 (λit s2 h2=>Zj h2 (λacc s3 h3=>Zj h3 (λcenv s4 h4=>aas h4 λr s' hr=>?_) λ_ _ x=>x) λ_ _ x=>x) λ_ _ x=>x) λ_ _ x=>x))
  (λ_ s' hq=>YH (YH hq)) λ_ _ e=>e)
 obtain⟨p,Hf,m,rfl,rfl,J,q,hn,c1,c2,c3,c4,c5⟩:=hr
 refine wpAny_assign_Name (xC J hN hy hx (v:=.ref p) rfl (λs2 J2 ⟨a,sb,ha⟩=>?_) hf)
 refine⟨m,hn.sameBut sb ?_,λh' sb2=>⟨_,Hf,J2.turned (t':=s2.toks) (λb o hb e=>(sb2.2 b hb).trans e) c1 c2 (.inr c3) c4 c5,q⟩⟩
 rcases ha with rfl | ha
 ·exact c2
 ·exact Ne.symm (c4 _ _ ha)
noncomputable def Rn{X:Cx}{iter:Nl}
  (hc:X.calm=true) (B:BlockOk X N' scope cap) (hi:PI X tg iter wi) (hg:∀ C s H fp,PG (qG X N' scope C s H fp) tg g) (ht:∀ C s H fp,Uc (qG X N' scope C s H fp) ifs tt) (he:∀ C s H fp,PE (qG X N' scope C s H fp) elt te)
  (hs:∀ x,ada iter X.env x=pure x):PE X (.ListComp elt [⟨tg,iter,ifs,0⟩] scope pos) (Lx wi g tt te cap):=
 Mw hc B hi hg ht (λ_ _ _=>compTurn_list ..) (λC s H fp p=>GZ (he C s H fp)) hs
noncomputable def EJ{X:Cx}{iter:Nl}{spos:Pos}{y:Str}{i:Nat}
  (hN:X.N.Nodup) (hy:X.N[i]?=U y) (hx:Qm X.env.scope y)
  (hc:X.calm=true) (B:BlockOk X N' scope cap) (hi:PI X tg iter wi) (hg:∀ C s H fp,PG (qG X N' scope C s H fp) tg g) (ht:∀ C s H fp,Uc (qG X N' scope C s H fp) ifs tt) (he:∀ C s H fp,PE (qG X N' scope C s H fp) elt te)
  (hsw:swapsWith (.ListComp elt [⟨tg,iter,ifs,0⟩] scope pos) (U (.Name y py)) spos.line X.env=pure true)
  (hs:∀ x,ada iter X.env x=pure x) (hf:X.fn y=true\/X.env.scope.names.lookup y=U .local) :
  PS X (.Assign [.Name y py] (.ListComp elt [⟨tg,iter,ifs,0⟩] scope pos) spos) (Lz (Lx wi g tt te cap) (HM i)):=
 BB hN hy hx hc B hi hg ht (λ_ _ _=>compTurn_list ..) (λC s H fp p=>GZ (he C s H fp)) hsw hs hf
def nh(x C dx:tx)(h:Ws):Prop:=∃ oe vs,h.get? x=U oe/\oe.cls=.ref C/\oe.dict=U dx/\oe.data=.fields vs
end L2
namespace M
open L2
noncomputable def vI:Option Int->V
 | none=>.non
 | some i=>.int i
def UH(a:tx)(h:Ws):Prop:=∃ o,h.get? a=U o/\o.cls=.type "dict"
inductive D where
 | non
 | bl (b:Bool)
 | int (i:Int)
 | str (x:Str)
 | tup (xs:List D)
 | lst (xs:List D)
 | rol (xs:List D)
 | dct (ks:List bD) (vs:List D)
 | ref (r:Nat)
 | txt
 | obj
 | exc (C:tx) (fl:Str) (i:Option Int)
inductive Cell where
 | lst (xs:List D)
 | dct (ks:List bD) (vs:List D)
abbrev ac:=List Cell
structure Fp where
 cs:List tx
 fb:List tx
def Fp.no(μ:Fp)(a:tx):Prop:=a∉μ.cs/\a∉μ.fb
abbrev bh:=List (Option D)
def Hj{α:Type}{N:List α}(hN:N.Nodup){i j:Nat}{x:α}(a:N[i]?=U x)(b:N[j]?=U x):i=j:=by
 obtain⟨h1,e1⟩:=Yz.mp a
 obtain⟨h2,e2⟩:=Yz.mp b
 exact(List.getElem_inj hN).mp (e1.trans e2.symm)
def KList(K:adf)(a:tx)(xs:List V):Prop:=∃ (o:Obj) (its:Array gV) (n:Nat),K.lookup a=U o/\o.cls=.type "list"/\o.dict=Y/\o.data=.seq its n/\its.size<=acY/\Vals xs its.toList
def KTup(K:adf)(a:tx)(xs:List V):Prop:=∃ (o:Obj) (its:Array gV) (n:Nat),K.lookup a=U o/\o.cls=.type "tuple"/\o.dict=Y/\o.data=.seq its n/\its.size<=acY/\Vals xs its.toList
mutual
inductive Rep(K:adf)(μ:Fp)(H:Hp):V->D->Prop
 | non:Rep K μ H .non .non
 | bl (b:Bool):Rep K μ H (.bl b) (.bl b)
 | int (i:Int):Rep K μ H (.int i) (.int i)
 | str (x:Str):Rep K μ H (.str x) (.str x)
 | tup {a:tx} {vs:List V} {ds:List D} (h:H a=U (.tup vs)) (n:μ.no a) (r:Reps K μ H vs ds):Rep K μ H (.ref a) (.tup ds)
 | ktup {a:tx} {vs:List V} {ds:List D} (h:KTup K a vs) (r:Reps K μ H vs ds):Rep K μ H (.ref a) (.tup ds)
 | lst {a:tx} {vs:List V} {ds:List D} (h:H a=U (.lst vs)) (n:μ.no a) (r:Reps K μ H vs ds):Rep K μ H (.ref a) (.lst ds)
 | rol {a:tx} {vs:List V} {ds:List D} (h:Rd H a (.lst vs)) (n:μ.no a) (r:Reps K μ H vs ds):Rep K μ H (.ref a) (.rol ds)
 | krol {a:tx} {vs:List V} {ds:List D} (h:KList K a vs) (r:Reps K μ H vs ds):Rep K μ H (.ref a) (.rol ds)
 | dct {a:tx} {kvs:List (bD×V)} {ds:List D} (h:H a=U (.dK kvs)) (n:μ.no a) (r:Reps K μ H (kvs.map (·.2)) ds):Rep K μ H (.ref a) (.dct (kvs.map (·.1)) ds)
 | ref {a:tx} {r:Nat} (h:μ.cs[r]?=U a):Rep K μ H (.ref a) (.ref r)
 | txt (x:Str):Rep K μ H (.str x) .txt
 | obj {a:tx} (h:H a=U (.ext (UH a))) (n:μ.no a):Rep K μ H (.ref a) .obj
 | exc {a dx C:tx} {fl:Str} {i:Option Int} (h:H a=U (.ext (nh a C dx))) (n:μ.no a) (h2:H dx=U (.xd [(fl,vI i)])) (n2:μ.no dx):Rep K μ H (.ref a) (.exc C fl i)
inductive Reps(K:adf)(μ:Fp)(H:Hp):List V->List D->Prop
 | nil:Reps K μ H [] []
 | cons {v:V} {d:D} {vs:List V} {ds:List D} (h:Rep K μ H v d) (t:Reps K μ H vs ds):Reps K μ H (v::vs) (d::ds)
end
structure Ext(μ:Fp)(H:Hp)(μ':Fp)(H':Hp):Prop where
 fb:μ'.fb = μ.fb
 pre:∃ l,μ'.cs = μ.cs++l/\∀ a∈l,H a=Y
 keep:∀ a o,a∉μ.cs->H a=U o->H' a=U o
 dom:∀ a∈μ'.cs,H' a≠Y
section
variable{K:adf}{μ μ' μ'':Fp}{H H' H'':Hp}
def Ext.stays(e:Ext μ H μ' H'){o:HO}(h:H a=U o)(n:μ.no a):H' a=U o/\μ'.no a:=by
 refine⟨e.keep a o n.1 h,λz=>?_,by rw[e.fb];exact n.2⟩
 obtain⟨l,q,hl⟩:=e.pre
 rw[q] at z
 rcases YX.mp z with z | z
 ·exact n.1 z
 ·rw[hl a z] at h;cases h
def Ext.keeps(e:Ext μ H μ' H'){o:HO}(h:H a=U o)(n:a∉μ.cs):H' a=U o/\a∉μ'.cs:=by
 refine⟨e.keep a o n h,λz=>?_⟩
 obtain⟨l,q,hl⟩:=e.pre
 rw[q] at z
 rcases YX.mp z with z | z
 ·exact n z
 ·rw[hl a z] at h;cases h
theorem Ext.trans(e:Ext μ H μ' H')(f:Ext μ' H' μ'' H''):Ext μ H μ'' H'':=by
 obtain⟨l,q,hl⟩:=e.pre
 obtain⟨l',q',hl'⟩:=f.pre
 refine⟨f.fb.trans e.fb,⟨l++l',by rw[q',q,Ze],λa ha=>?_⟩,λa o n h=>?_,f.dom⟩
 ·rcases YX.mp ha with ha | ha
  ·exact hl a ha
  ·have h1:=hl' a ha
   cases q2:H a with
   | none=>rfl
   | some o=>
    by_cases hm:a∈μ.cs
    ·exact absurd h1 (e.dom a (by rw[q];exact Zz _ hm))
    ·rw[e.keep a o hm q2] at h1;cases h1
 ·have:=e.keeps h n
  exact f.keep a o this.2 this.1
def Ext.refl(h:∀ a∈μ.cs,H a≠Y):Ext μ H μ H:=⟨rfl,⟨[],by simp,λ_ z=>by simp at z⟩,λ_ _ _ h=>h,h⟩
noncomputable def kids:D->List D
 | .tup xs=>xs
 | .lst xs=>xs
 | .rol xs=>xs
 | .dct _ xs=>xs
 | _=>[]
def Rep.to{P:D->Prop}(hc:∀ d,P d->∀ x∈kids d,P x)(hk:∀ {a:tx} {o:HO},H a=U o->μ.no a->H' a=U o/\μ'.no a)(hr:∀ {r:Nat} {a:tx},P (.ref r)->μ.cs[r]?=U a->μ'.cs[r]?=U a){d:D}(r:Rep K μ H v d):P d->Rep K μ' H' v d:=
 Rep.rec (motive_1:=λv d _=>P d->Rep K μ' H' v d) (motive_2:=λvs ds _=>(∀ d∈ds,P d)->Reps K μ' H' vs ds)
  (λ_=>.non) (λb _=>.bl b) (λi _=>.int i) (λx _=>.str x) (λh n _ ih p=>.tup (hk h n).1 (hk h n).2 (ih (hc _ p))) (λh _ ih p=>.ktup h (ih (hc _ p)))
  (λh n _ ih p=>.lst (hk h n).1 (hk h n).2 (ih (hc _ p))) (λh n _ ih p=>.rol (h.imp (λh=>(hk h n).1) λ⟨o,h⟩=>⟨o,(hk h n).1⟩) (h.elim (λh=>(hk h n).2) λ⟨_,h⟩=>(hk h n).2) (ih (hc _ p))) (λh _ ih p=>.krol h (ih (hc _ p)))
  (λh n _ ih p=>.dct (hk h n).1 (hk h n).2 (ih (hc _ p))) (λh p=>.ref (hr p h)) (λx _=>.txt x) (λh n _=>.obj (hk h n).1 (hk h n).2) (λh n h2 n2 _=>.exc (hk h n).1 (hk h n).2 (hk h2 n2).1 (hk h2 n2).2)
  (λ_=>.nil) (λ_ _ i1 i2 p=>.cons (i1 (p _ YF)) (i2 λx hx=>p x (YB _ hx))) r
theorem Reps.to{P:D->Prop}(hR:∀ {v:V} {d:D},Rep K μ H v d->P d->Rep K μ' H' v d):∀ {vs:List V} {ds:List D},Reps K μ H vs ds->(∀ d∈ds,P d)->Reps K μ' H' vs ds
 | _,_,.nil,_=>.nil
 | _,_,.cons h t,p=>.cons (hR h (p _ YF)) (Reps.to hR t λx hx=>p x (YB _ hx))
def Rep.imp(hk:∀ {a:tx} {o:HO},H a=U o->μ.no a->H' a=U o/\μ'.no a)(hr:∀ {r:Nat} {a:tx},μ.cs[r]?=U a->μ'.cs[r]?=U a){d:D}(r:Rep K μ H v d):Rep K μ' H' v d:=Rep.to (P:=λ_=>True) (λ_ _ _ _=>trivial) hk (λ_=>hr) r trivial
theorem Reps.imp(hk:∀ {a:tx} {o:HO},H a=U o->μ.no a->H' a=U o/\μ'.no a)(hr:∀ {r:Nat} {a:tx},μ.cs[r]?=U a->μ'.cs[r]?=U a)(r:Reps K μ H vs ds):Reps K μ' H' vs ds:=Reps.to (P:=λ_=>True) (λr _=>r.imp hk hr) r λ_ _=>trivial
def AR{l m:List tx}{k:List tx}(q:k=l++m){r:Nat}{a:tx}(h:l[r]?=U a):k[r]?=U a:=by
 rw[q,Za (Yz.mp h).1];exact h
def Ext.ix(e:Ext μ H μ' H'){r:Nat}{a:tx}(h:μ.cs[r]?=U a):μ'.cs[r]?=U a:=by
 obtain⟨l,q,_⟩:=e.pre
 exact AR q h
def Rep.mono(e:Ext μ H μ' H'){d:D}(r:Rep K μ H v d):Rep K μ' H' v d:=r.imp e.stays e.ix
def Reps.mono(e:Ext μ H μ' H')(r:Reps K μ H vs ds):Reps K μ' H' vs ds:=r.imp e.stays e.ix
theorem Reps.length:∀ {vs:List V} {ds:List D},Reps K μ H vs ds->vs.length=ds.length
 | _,_,.nil=>rfl
 | _,_,.cons _ t=>by simp[Reps.length t]
theorem Reps.get:∀ {vs:List V} {ds:List D} {i:Nat} {d:D},Reps K μ H vs ds->ds[i]?=U d->∃ v,vs[i]?=U v/\Rep K μ H v d
 | _,_,_,_,.nil,e=>by simp at e
 | _,_,0,_,.cons h _,e=>by simp at e;subst e;exact⟨_,rfl,h⟩
 | _,_,i+1,d,.cons _ t,e=>by
  obtain⟨u,h1,h2⟩:=Reps.get (i:=i) (d:=d) t (by simpa using e)
  exact⟨u,by simpa using h1,h2⟩
theorem Reps.append:∀ {vs ws:List V} {ds es:List D},Reps K μ H vs ds->Reps K μ H ws es->Reps K μ H (vs++ws) (ds++es)
 | _,_,_,_,.nil,s=>s
 | _,_,_,_,.cons r t,s=>.cons r (Reps.append t s)
theorem Reps.take:∀ {vs:List V} {ds:List D} (n:Nat),Reps K μ H vs ds->Reps K μ H (vs.take n) (ds.take n)
 | _,_,0,_=>.nil
 | _,_,_+1,.nil=>.nil
 | _,_,n+1,.cons r t=>.cons r (Reps.take n t)
theorem Reps.drop:∀ {vs:List V} {ds:List D} (n:Nat),Reps K μ H vs ds->Reps K μ H (vs.drop n) (ds.drop n)
 | _,_,0,r=>r
 | _,_,_+1,.nil=>.nil
 | _,_,n+1,.cons _ t=>Reps.drop n t
theorem Reps.set{d:D}(r:Rep K μ H x d):∀ {vs:List V} {ds:List D} (i:Nat),Reps K μ H vs ds->Reps K μ H (vs.set i x) (ds.set i d)
 | _,_,_,.nil=>.nil
 | _,_,0,.cons _ t=>.cons r t
 | _,_,i+1,.cons q t=>.cons q (Reps.set r i t)
theorem Reps.flat:∀ (k:Nat) {ds:List D},Reps K μ H xs ds->Reps K μ H (adg k xs).flatten (adg k ds).flatten
 | 0,_,_=>.nil
 | k+1,_,r=>by rw[Zc,Zc,ZK,ZK];exact r.append (Reps.flat k r)
def CellOk(K:adf)(μ:Fp)(H:Hp)(a:tx):Cell->Prop
 | .lst ds=>∃ vs,H a=U (.lst vs)/\Reps K μ H vs ds
 | .dct ks ds=>∃ kvs,H a=U (.dK kvs)/\ks=kvs.map (·.1)/\Reps K μ H (kvs.map (·.2)) ds
structure SOk(K:adf)(μ:Fp)(S:ac)(H:Hp):Prop where
 nd:μ.cs.Nodup
 len:μ.cs.length=S.length
 cell:∀ (r:Nat) (a:tx) (c:Cell),μ.cs[r]?=U a->S[r]?=U c->CellOk K μ H a c
 fdom:∀ a∈μ.fb,H a≠Y
 disj:∀ a∈μ.fb,a∉μ.cs
def CellOk.ne_none(h:CellOk K μ H a c):H a≠Y:=by
 cases c with
 | lst ds=>obtain⟨vs,h,_⟩:=h;rw[h];simp
 | dct ks ds=>obtain⟨vs,h,_⟩:=h;rw[h];simp
theorem CellOk.mono(e:Ext μ H μ' H')(he:H' a=H a)(h:CellOk K μ H a c):CellOk K μ' H' a c:=by
 cases c with
 | lst ds=>obtain⟨vs,h,r⟩:=h;exact⟨vs,he.trans h,r.mono e⟩
 | dct ks ds=>obtain⟨vs,h,q,r⟩:=h;exact⟨vs,he.trans h,q,r.mono e⟩
def SOk.dom(s:SOk K μ S H):∀ a∈μ.cs,H a≠Y:=λa ha=>by
 obtain⟨r,hr⟩:=aaN.mp ha
 have hl:=(Yz.mp hr).1
 rw[s.len] at hl
 exact(s.cell r a S[r] hr (by simp[hl])).ne_none
def SOk.ext(s:SOk K μ S H):Ext μ H μ H:=.refl s.dom
def SOk.notMem(s:SOk K μ S H)(h:H p=Y):μ.no p:=⟨λz=>s.dom p z h,λz=>s.fdom p z h⟩
def SOk.laid(s:SOk K μ S H)(h:H p=Y):Ext μ H μ (upd H p o)/\SOk K μ S (upd H p o):=by
 have e:Ext μ H μ (upd H p o):=⟨rfl,⟨[],by simp,λ_ z=>by simp at z⟩,λa o' _ q=>by rw[aR (cD q h)];exact q,λa ha=>by
  by_cases z:a=p
  ·subst z;rw[bf];simp
  ·rw[aR z];exact s.dom a ha⟩
 refine⟨e,s.nd,s.len,λr a c h1 h2=>(s.cell r a c h1 h2).mono e ?_,λa ha=>?_,s.disj⟩
 case refine_2=>
  by_cases z:a=p
  ·subst z;rw[bf];simp
  ·rw[aR z];exact s.fdom a ha
 have:=(s.cell r a c h1 h2).ne_none
 refine aR λz=>?_
 rw[z] at this
 exact this h
theorem SOk.alloc(s:SOk K μ S H)(h:H p=Y)(r:Reps K μ H vs ds):Ext μ H ⟨μ.cs++[p],μ.fb⟩ (upd H p (.lst vs))/\SOk K ⟨μ.cs++[p],μ.fb⟩ (S++[.lst ds]) (upd H p (.lst vs)):=by
 have hp:=s.notMem h
 have e:Ext μ H ⟨μ.cs++[p],μ.fb⟩ (upd H p (.lst vs)):=⟨rfl,⟨[p],rfl,λa z=>by rw[Zr.mp z];exact h⟩,λa o' _ q=>by rw[aR (cD q h)];exact q,λa ha=>by
  by_cases z:a=p
  ·subst z;rw[bf];simp
  ·rw[aR z]
   rcases YX.mp ha with q | q
   ·exact s.dom a q
   ·exact absurd (Zr.mp q) z⟩
 refine⟨e,?_,by simp[s.len],λi a c h1 h2=>?_,λa ha=>?_,λa ha z=>?_⟩
 case refine_3=>
  by_cases z:a=p
  ·subst z;rw[bf];simp
  ·rw[aR z];exact s.fdom a ha
 case refine_4=>
  rcases YX.mp z with q | q
  ·exact s.disj a ha q
  ·rw[Zr.mp q] at ha;exact hp.2 ha
 ·show(μ.cs++[p]).Nodup
  rw[aaw]
  exact⟨s.nd,by simp,λa ha b hb=>by rw[Zr.mp hb];rintro rfl;exact hp.1 ha⟩
 ·have h1:(μ.cs++[p])[i]?=U a:=h1
  by_cases hi:i < μ.cs.length
  ·rw[Za hi] at h1
   rw[Za (by rw[<- s.len];exact hi)] at h2
   have q:=s.cell i a c h1 h2
   refine q.mono e (aR λz=>?_)
   exact hp.1 (z ▸ YY h1)
  ·have hl:i = μ.cs.length:=by
    have:=(Yz.mp h1).1
    simp at this;omega
   subst hl
   rw[ZN (YL _)] at h1
   rw[s.len,ZN (YL _)] at h2
   simp at h1 h2
   subst h1 h2
   exact⟨vs,bf,r.mono e⟩
def SOk.write(s:SOk K μ S H){i:Nat}{a:tx}(hi:μ.cs[i]?=U a)(h:H a=U (.lst vs))(r:Reps K μ H vs' ds):Ext μ H μ (upd H a (.lst vs'))/\SOk K μ (S.set i (.lst ds)) (upd H a (.lst vs')):=by
 have ha:=YY hi
 have e:Ext μ H μ (upd H a (.lst vs')):=⟨rfl,⟨[],by simp,λ_ z=>by simp at z⟩,λb o' n q=>by rw[aR (by rintro rfl;exact n ha)];exact q,λb hb=>by
  by_cases z:b=a
  ·subst z;rw[bf];simp
  ·rw[aR z];exact s.dom b hb⟩
 refine⟨e,s.nd,by simp[s.len],λj b c h1 h2=>?_,λb hb=>?_,s.disj⟩
 case refine_2=>
  by_cases z:b=a
  ·subst z;rw[bf];simp
  ·rw[aR z];exact s.fdom b hb
 by_cases hj:j=i
 ·subst hj
  rw[hi] at h1;cases h1
  have hl:j<S.length:=by rw[<- s.len];exact(Yz.mp hi).1
  rw[Zg hl] at h2
  cases h2
  exact⟨vs',bf,r.mono e⟩
 ·rw[Zf (Ne.symm hj)] at h2
  refine(s.cell j b c h1 h2).mono e (aR λz=>hj ?_)
  subst z
  exact Hj s.nd h1 hi
inductive EOk(K:adf)(μ:Fp)(H:Hp):L2.St->bh->Prop
 | nil:EOk K μ H [] []
 | no {x:Option V} {σ:L2.St} {env:bh} (t:EOk K μ H σ env):EOk K μ H (x::σ) (Y::env)
 | yes {v:V} {d:D} {σ:L2.St} {env:bh} (h:Rep K μ H v d) (t:EOk K μ H σ env):EOk K μ H (U v::σ) (U d::env)
theorem EOk.mono(e:Ext μ H μ' H'):∀ {σ:L2.St} {env:bh},EOk K μ H σ env->EOk K μ' H' σ env
 | _,_,.nil=>.nil
 | _,_,.no t=>.no (EOk.mono e t)
 | _,_,.yes h t=>.yes (h.mono e) (EOk.mono e t)
theorem EOk.get:∀ {σ:L2.St} {env:bh} {i:Nat} {d:D},EOk K μ H σ env->env[i]?=U (U d)->∃ v,σ[i]?=U (U v)/\Rep K μ H v d
 | _,_,_,_,.nil,h=>by simp at h
 | _,_,0,_,.no _,h=>by simp at h
 | _,_,0,_,.yes h _,q=>by simp at q;subst q;exact⟨_,rfl,h⟩
 | _,_,i+1,d,.no t,h=>by
  obtain⟨v,h1,h2⟩:=EOk.get (i:=i) (d:=d) t (by simpa using h)
  exact⟨v,by simpa using h1,h2⟩
 | _,_,i+1,d,.yes _ t,h=>by
  obtain⟨v,h1,h2⟩:=EOk.get (i:=i) (d:=d) t (by simpa using h)
  exact⟨v,by simpa using h1,h2⟩
theorem EOk.set{d:D}(r:Rep K μ H v d):∀ {σ:L2.St} {env:bh} (i:Nat),EOk K μ H σ env->EOk K μ H (σ.set i (Option.some v)) (env.set i (Option.some d))
 | _,_,_,.nil=>.nil
 | _,_,0,.no t=>.yes r t
 | _,_,0,.yes _ t=>.yes r t
 | _,_,i+1,.no t=>.no (EOk.set r i t)
 | _,_,i+1,.yes h t=>.yes h (EOk.set r i t)
theorem EOk.length:∀ {σ:L2.St} {env:bh},EOk K μ H σ env->σ.length=env.length
 | _,_,.nil=>rfl
 | _,_,.no t=>by simp[EOk.length t]
 | _,_,.yes _ t=>by simp[EOk.length t]
theorem EOk.start{N:Nat}:∀ {vs:List V} {ds:List D},Reps K μ H vs ds->EOk K μ H (vs.map Option.some++adg N Option.none) (ds.map Option.some++adg N Option.none)
 | _,_,.nil=>by
  induction N with
  | zero=>exact .nil
  | succ n ih=>exact .no ih
 | _,_,.cons h t=>.yes h (EOk.start t)
theorem EOk.block(h:EOk K μ H σ env):∀ (cap:List (Option Nat)),EOk K μ H (σB cap σ) (cap.map λo=>o.bind λi=>(env[i]?).join)
 | []=>.nil
 | Option.none::r=>.no (EOk.block h r)
 | Option.some i::r=>by
  show EOk K μ H ((σ[i]?).join::σB r σ) ((env[i]?).join::_)
  cases q:(env[i]?).join with
  | none=>exact .no (EOk.block h r)
  | some d=>
   have q':env[i]?=Option.some (Option.some d):=by
    cases z:env[i]? with
    | none=>rw[z] at q;cases q
    | some y=>rw[z] at q;exact congrArg Option.some q
   obtain⟨v,h1,h2⟩:=h.get q'
   rw[h1]
   exact .yes h2 (EOk.block h r)
def Hl{p:tx}{cs fb:List tx}(n:(⟨cs,p::fb⟩:Fp).no a):(⟨cs,fb⟩:Fp).no a:=⟨n.1,λz=>n.2 (YB _ z)⟩
def Rep.less{p:tx}{cs fb:List tx}{d:D}(r:Rep K ⟨cs,p::fb⟩ H v d):Rep K ⟨cs,fb⟩ H v d:=r.imp (λh n=>⟨h,Hl n⟩) λh=>h
def Reps.less{p:tx}{cs fb:List tx}{d:List D}(r:Reps K ⟨cs,p::fb⟩ H v d):Reps K ⟨cs,fb⟩ H v d:=r.imp (λh n=>⟨h,Hl n⟩) λh=>h
def Hk{cs fb:List tx}(hp:H p=Y){o':HO}(h:H a=U o')(n:(⟨cs,fb⟩:Fp).no a):upd H p o a=U o'/\(⟨cs,p::fb⟩:Fp).no a:=⟨(aR (cD h hp)).trans h,n.1,λz=>(Zd.mp z).elim (cD h hp) n.2⟩
def Rep.more{cs fb:List tx}(hp:H p=Y){d:D}(r:Rep K ⟨cs,fb⟩ H v d):Rep K ⟨cs,p::fb⟩ (upd H p o) v d:=r.imp (Hk hp) λh=>h
def Reps.more{cs fb:List tx}(hp:H p=Y){d:List D}(r:Reps K ⟨cs,fb⟩ H v d):Reps K ⟨cs,p::fb⟩ (upd H p o) v d:=r.imp (Hk hp) λh=>h
def Fp.no.ne{μ:Fp}{p:tx}(n:μ.no a)(hp:p∈μ.fb):a≠p:=λz=>n.2 (by rw[z];exact hp)
def Rep.chg{p:tx}(hp:p∈μ.fb){d:D}(r:Rep K μ H v d):Rep K μ (upd H p o) v d:=r.imp (λh n=>⟨(aR (n.ne hp)).trans h,n⟩) λh=>h
def Reps.chg{p:tx}(hp:p∈μ.fb){d:List D}(r:Reps K μ H v d):Reps K μ (upd H p o) v d:=r.imp (λh n=>⟨(aR (n.ne hp)).trans h,n⟩) λh=>h
theorem EOk.more{cs fb:List tx}(hp:H p=Y):∀ {σ:L2.St} {env:bh},EOk K ⟨cs,fb⟩ H σ env->EOk K ⟨cs,p::fb⟩ (upd H p o) σ env
 | _,_,.nil=>.nil
 | _,_,.no t=>.no (EOk.more hp t)
 | _,_,.yes h t=>.yes (h.more hp) (EOk.more hp t)
theorem EOk.chg{p:tx}(hp:p∈μ.fb):∀ {σ:L2.St} {env:bh},EOk K μ H σ env->EOk K μ (upd H p o) σ env
 | _,_,.nil=>.nil
 | _,_,.no t=>.no (EOk.chg hp t)
 | _,_,.yes h t=>.yes (h.chg hp) (EOk.chg hp t)
theorem CellOk.upd{p a:tx}(μ':Fp)(hpa:a≠p)(h:CellOk K μ H a c)(f:∀ vs ds,Reps K μ H vs ds->Reps K μ' (upd H p o) vs ds):CellOk K μ' (upd H p o) a c:=by
 cases c with
 | lst ds=>obtain⟨vs,h,r⟩:=h;exact⟨vs,(aR hpa).trans h,f _ _ r⟩
 | dct ks ds=>obtain⟨vs,h,q,r⟩:=h;exact⟨vs,(aR hpa).trans h,q,f _ _ r⟩
theorem SOk.less{p:tx}{cs fb:List tx}(s:SOk K ⟨cs,p::fb⟩ S H):SOk K ⟨cs,fb⟩ S H:=
 ⟨s.nd,s.len,λr a c h1 h2=>by
  have:=s.cell r a c h1 h2
  cases c with
  | lst ds=>obtain⟨vs,h,r⟩:=this;exact⟨vs,h,r.less⟩
  | dct ks ds=>obtain⟨vs,h,q,r⟩:=this;exact⟨vs,h,q,r.less⟩,λa ha=>s.fdom a (YB _ ha),λa ha=>s.disj a (YB _ ha)⟩
theorem SOk.more{cs fb:List tx}(s:SOk K ⟨cs,fb⟩ S H)(hp:H p=Y):SOk K ⟨cs,p::fb⟩ S (upd H p o):=by
 have hn:=s.notMem hp
 refine⟨s.nd,s.len,λr a c h1 h2=>(s.cell r a c h1 h2).upd _ (λz=>?_) λvs ds r=>r.more hp,λa ha=>?_,λa ha z=>?_⟩
 ·exact hn.1 (z ▸ YY h1)
 ·by_cases z:a=p
  ·subst z;rw[bf];simp
  ·rw[aR z];exact s.fdom a ((Zd.mp ha).resolve_left z)
 ·rcases Zd.mp ha with rfl | ha
  ·exact hn.1 z
  ·exact s.disj a ha z
theorem SOk.chg{p:tx}(s:SOk K μ S H)(hp:p∈μ.fb):SOk K μ S (upd H p o):=by
 refine⟨s.nd,s.len,λr a c h1 h2=>(s.cell r a c h1 h2).upd _ (λz=>?_) λvs ds r=>r.chg hp,λa ha=>?_,s.disj⟩
 ·exact s.disj p hp (z ▸ YY h1)
 ·by_cases z:a=p
  ·subst z;rw[bf];simp
  ·rw[aR z];exact s.fdom a ha
end
abbrev ME:=bh->ac->Option (D×ac)
abbrev MT:=bh->ac->Option (Bool×ac)
abbrev MA:=bh->ac->Option (List D×ac)
inductive pA where
 | nx (env:bh) (S:ac)
 | rt (d:D) (S:ac)
 | bk (env:bh) (S:ac)
 | ct (env:bh) (S:ac)
abbrev MS:=bh->ac->Option pA
def Post(K:adf)(μ:Fp)(H:Hp)(S':ac)(d:D)(Q:VK):Prop:=∀ v H' μ',Ext μ H μ' H'->SOk K μ' S' H'->Rep K μ' H' v d->Q v H'
def PostT(K:adf)(μ:Fp)(H:Hp)(S':ac)(b:Bool)(Q:Bool->Hp->Prop):Prop:=∀ H' μ',Ext μ H μ' H'->SOk K μ' S' H'->Q b H'
def PostA(K:adf)(μ:Fp)(H:Hp)(S':ac)(ds:List D)(Q:List V->Hp->Prop):Prop:=∀ vs H' μ',Ext μ H μ' H'->SOk K μ' S' H'->Reps K μ' H' vs ds->Q vs H'
def PostN(K:adf)(μ:Fp)(H:Hp)(S':ac)(env':bh)(Q:L2.St->Hp->Prop):Prop:=∀ σ' H' μ',Ext μ H μ' H'->SOk K μ' S' H'->EOk K μ' H' σ' env'->Q σ' H'
def PostS(K:adf)(μ:Fp)(H:Hp)(o:pA)(E:pB):Prop:=match o with
 | .nx env' S'=>PostN K μ H S' env' E.nx
 | .rt d S'=>Post K μ H S' d E.rt
 | .bk env' S'=>PostN K μ H S' env' E.bk
 | .ct env' S'=>PostN K μ H S' env' E.ct
inductive tM(K:adf)(m:ME)(σ:L2.St)(H:Hp)(Q:VK):Prop
 | mk (μ:Fp) (S:ac) (env:bh) (d:D) (S':ac) (hS:SOk K μ S H) (hE:EOk K μ H σ env) (h:m env S=U (d,S')) (post:Post K μ H S' d Q)
inductive La(K:adf)(m:MT)(σ:L2.St)(H:Hp)(Q:Bool->Hp->Prop):Prop
 | mk (μ:Fp) (S:ac) (env:bh) (b:Bool) (S':ac) (hS:SOk K μ S H) (hE:EOk K μ H σ env) (h:m env S=U (b,S')) (post:PostT K μ H S' b Q)
inductive tMA(K:adf)(m:MA)(σ:L2.St)(H:Hp)(Q:List V->Hp->Prop):Prop
 | mk (μ:Fp) (S:ac) (env:bh) (ds:List D) (S':ac) (hS:SOk K μ S H) (hE:EOk K μ H σ env) (h:m env S=U (ds,S')) (post:PostA K μ H S' ds Q)
inductive Vm(K:adf)(m:MS)(E:pB)(σ:L2.St)(H:Hp):Prop
 | mk (μ:Fp) (S:ac) (env:bh) (o:pA) (hS:SOk K μ S H) (hE:EOk K μ H σ env) (h:m env S=U o) (post:PostS K μ H o E)
inductive og(K:adf)(f:ac->D->D->Option D)(x y:V)(H:Hp)(Q:VK):Prop
 | mk (μ:Fp) (S:ac) (dx dy dz:D) (hS:SOk K μ S H) (h1:Rep K μ H x dx) (h2:Rep K μ H y dy) (h3:f S dx dy=U dz) (post:Post K μ H S dz Q)
inductive rM1(K:adf)(f:ac->D->Option D)(x:V)(H:Hp)(Q:VK):Prop
 | mk (μ:Fp) (S:ac) (dx dz:D) (hS:SOk K μ S H) (h1:Rep K μ H x dx) (h3:f S dx=U dz) (post:Post K μ H S dz Q)
inductive Lb(K:adf)(f:List D->ac->Option (D×ac))(vs:List V)(H:Hp)(Q:VK):Prop
 | mk (μ:Fp) (S:ac) (ds:List D) (d:D) (S':ac) (hS:SOk K μ S H) (h1:Reps K μ H vs ds) (h3:f ds S=U (d,S')) (post:Post K μ H S' d Q)
def DE(X:Cx)(e:Nl)(m:ME):Prop:=PE X e (tM X.K m)
def DT(X:Cx)(e:Nl)(m:MT):Prop:=PT X e (La X.K m)
def DW(X:Cx)(e:Nl)(m:MT):Prop:=PW X e (La X.K m)
def DA(X:Cx)(es:List Nl)(m:MA):Prop:=PA X es (tMA X.K m)
def DS(X:Cx)(st:Uo)(m:MS):Prop:=PS X st (Vm X.K m)
def xq(X:Cx)(st:List Uo)(m:MS):Prop:=PSs X st (Vm X.K m)
section
variable{X:Cx}{K:adf}{μ μ':Fp}{H H':Hp}{S S':ac}
def Post.ext{d:D}(e:Ext μ H μ' H')(p:Post K μ H S' d Q):Post K μ' H' S' d Q:=λv H2 μ2 e2 s r=>p v H2 μ2 (e.trans e2) s r
def Post.here{d:D}(p:Post K μ H S d Q)(s:SOk K μ S H)(r:Rep K μ H v d):Q v H:=p v H μ s.ext s r
def PE.imp{t':TE}(h:PE X e t)(i:∀ σ H Q,t' σ H Q->t σ H Q):PE X e t':=λpins s σ H Q I q=>h pins s σ H Q I (i σ H Q q)
def PT.imp{t':TT}(h:PT X e t)(i:∀ σ H Q,t' σ H Q->t σ H Q):PT X e t':=λpins s σ H Q I q=>h pins s σ H Q I (i σ H Q q)
def PW.imp{t':TT}(h:PW X e t)(i:∀ σ H Q,t' σ H Q->t σ H Q):PW X e t':=λw pins s σ H Q I q=>h w pins s σ H Q I (i σ H Q q)
def PA.imp{t':TA}(h:PA X e t)(i:∀ σ H Q,t' σ H Q->t σ H Q):PA X e t':=λpos pins s σ H Q I q=>h pos pins s σ H Q I (i σ H Q q)
def PS.imp{t':TS}(h:PS X e t)(i:∀ E σ H,t' E σ H->t E σ H):PS X e t':=λpins s σ H E I q=>h pins s σ H E I (i E σ H q)
def PSs.imp{t':TS}(h:PSs X e t)(i:∀ E σ H,t' E σ H->t E σ H):PSs X e t':=λpins s σ H E I q=>h pins s σ H E I (i E σ H q)
def OpR.imp{r':R2}(h:OpR X f r)(i:∀ x y H Q,r' x y H Q->r x y H Q):OpR X f r':=λpins s σ H x y v u Q I rx ry q=>h pins s σ H x y v u Q I rx ry (i x y H Q q)
def UnR.imp{r':V->Hp->VK->Prop}(h:UnR X f r)(i:∀ x H Q,r' x H Q->r x H Q):UnR X f r':=λpins s σ H x v Q I rx q=>h pins s σ H x v Q I rx (i x H Q q)
def CallR.imp{r':List V->Hp->VK->Prop}(h:CallR X f r)(i:∀ x H Q,r' x H Q->r x H Q):CallR X f r':=λpins s σ H x v Q I rx q=>h pins s σ H x v Q I rx (i x H Q q)
def IxR.imp{r':R2}(h:IxR X r)(i:∀ x y H Q,r' x y H Q->r x y H Q):IxR X r':=λva sl pins s σ H x y v u Q I rx ry q=>h va sl pins s σ H x y v u Q I rx ry (i x y H Q q)
noncomputable def af(i:Nat):ME:=λenv S=>(env[i]?).join.bind λd=>U (d,S)
noncomputable def mC(d:D):ME:=λ_ S=>U (d,S)
def JG{α:Type}{o:Option (Option α)}{a:α}(h:o.join=U a):o=U (U a):=by
 cases o with
 | none=>cases h
 | some o=>exact congrArg U h
noncomputable def Pw{i:Nat}{x:Str}(hN:X.N[i]?=U x)(hv:Ua X.env.scope x)(hd:(x==("__debug__":Str))=false)(hcd:(x==("__classdict__":Str))=false):DE X (.Name x pos) (af i):=
 PE.imp (EQ hN hv hd hcd) λσ H Q ⟨μ,S,env,d,S',hS,hE,hm,post⟩=>by
  obtain⟨d',h1,h2⟩:=Yx.mp hm
  cases h2
  obtain⟨v,e,r⟩:=hE.get (JG h1)
  exact⟨v,e,post.here hS r⟩
def nk{d:D}(h:PE X e (tC v))(r:∀ μ H,Rep X.K μ H v d):DE X e (mC d):=
 PE.imp h λσ H Q ⟨μ,S,env,d',S',hS,hE,hm,post⟩=>by cases hm;exact post.here hS (r μ H)
def XT{j pos}:DE X (.Constant (.int i) j pos) (mC (.int i)):=nk VN λ_ _=>.int i
def de_bl{b j pos}:DE X (.Constant (.bool b) j pos) (mC (.bl b)):=nk pe_bl λ_ _=>.bl b
def XO{j pos}:DE X (.Constant .none j pos) (mC .non):=nk VM λ_ _=>.non
def XM{x j pos}:DE X (.Constant (.str x) j pos) (mC (.str x)):=nk VI λ_ _=>.str x
structure GC(K:adf)(mg:Str->Option gV)(x:Str)(d:D):Prop where
 ex:∃ u v,mg x=U u/\RelV v u/\∀ μ H,Rep K μ H v d
noncomputable def Tl{d:D}(g:GC X.K X.mg x d)(hg:Gl X x)(hd:(x==("__debug__":Str))=false):DE X (.Name x pos) (mC d):=by
 obtain⟨u,v,h1,h2,h3⟩:=g.ex
 exact nk (tf hg h1 h2 hd) h3
noncomputable def ay(f:ac->D->D->Option D)(a b:ME):ME:=λenv S=>(a env S).bind λp=>(b env p.2).bind λq=>(f q.2 p.1 q.1).bind λz=>U (z,q.2)
def Nd{S S':ac}{d:D}(h:ay f a b env S=U (d,S')):∃ x S1 y,a env S=U (x,S1)/\b env S1=U (y,S')/\f S' x y=U d:=by
 obtain⟨⟨x,S1⟩,h1,h⟩:=Yx.mp h
 obtain⟨⟨y,S2⟩,h2,h⟩:=Yx.mp h
 obtain⟨z,h3,h⟩:=Yx.mp h
 cases h
 exact⟨x,S1,y,h1,h2,h3⟩
def yT(h:tM K (ay f ma mb) σ H Q):tOp (og K f) (tM K ma) (tM K mb) σ H Q:=by
 obtain⟨μ,S,env,d,S',hS,hE,hm,post⟩:=h
 obtain⟨x,S1,y,h1,h2,h3⟩:=Nd hm
 exact⟨μ,S,env,x,S1,hS,hE,h1,λv H1 μ1 e1 s1 r1=>⟨μ1,S1,env,y,S',s1,hE.mono e1,h2,λw H2 μ2 e2 s2 r2=>⟨μ2,S',x,y,d,s2,r1.mono e2,r2,h3,(post.ext e1).ext e2⟩⟩⟩
section
variable{a b c:Nl}{ma mb mc:ME}{pos:Pos}
def yD(ho:OpR X (add op) (og X.K f))(ha:DE X a ma)(hb:DE X b mb):DE X (.BinOp a op b pos) (ay f ma mb):=
 PE.imp (Us ho ha hb) λ_ _ _ h=>yT h
def XV(ho:OpR X (adc op) (og X.K f))(ha:DE X a ma)(hb:DE X b mb)(hm:behindInMarks op b=false):DE X (.Compare a [op] [b] pos) (ay f ma mb):=
 PE.imp (Ro ho ha hb hm) λ_ _ _ h=>yT h
noncomputable def aB(m:ME):MT:=λenv S=>(m env S).bind λp=>match p.1 with | .bl k=>U (k,p.2) | _=>Y
def uO{S S':ac}{k:Bool}(h:aB m env S=U (k,S')):m env S=U (.bl k,S'):=by
 obtain⟨⟨x,S1⟩,h1,h⟩:=Yx.mp h
 cases x<;>first | (cases h;exact h1) | cases h
def Rep.bl_inv{k:Bool}(h:Rep K μ H v (.bl k)):v=.bl k:=by cases h;rfl
def Rep.int_inv{k:Int}(h:Rep K μ H v (.int k)):v=.int k:=by cases h;rfl
def Rep.str_inv{k:Str}(h:Rep K μ H v (.str k)):v=.str k:=by cases h;rfl
def Xz(ho:OpR X (adc op) (og X.K f))(ha:DE X a ma)(hb:DE X b mb)(hm:behindInMarks op b=false):DT X (.Compare a [op] [b] pos) (aB (ay f ma mb)):=
 PT.imp (QU ho ha hb hm) λσ H Q ⟨μ,S,env,k,S',hS,hE,hm,post⟩=>by
  have h:=uO hm
  refine yT ⟨μ,S,env,_,S',hS,hE,h,λv H' μ' e s r=>?_⟩
  exact⟨k,r.bl_inv,post H' μ' e s⟩
noncomputable def dg(f g:ac->D->D->Option D)(a b c:ME):ME:=λenv S=>(a env S).bind λp=>(b env p.2).bind λq=>(f q.2 p.1 q.1).bind λz=>match z with
 | .bl true=>(c env q.2).bind λr=>(g r.2 q.1 r.1).bind λz=>U (z,r.2)
 | .bl false=>U (.bl false,q.2)
 | _=>Y
def xA(h:tM K (dg f g ma mb mc) σ H Q):Eo (og K f) (og K g) (tM K ma) (tM K mb) (tM K mc) σ H Q:=by
 obtain⟨μ,S,env,d,S',hS,hE,hm,post⟩:=h
 obtain⟨⟨x,S1⟩,h1,hm⟩:=Yx.mp hm
 obtain⟨⟨y,S2⟩,h2,hm⟩:=Yx.mp hm
 obtain⟨z,h3,hm⟩:=Yx.mp hm
 refine⟨μ,S,env,x,S1,hS,hE,h1,λv H1 μ1 e1 s1 r1=>⟨μ1,S1,env,y,S2,s1,hE.mono e1,h2,λw H2 μ2 e2 s2 r2=>⟨μ2,S2,x,y,z,s2,r1.mono e2,r2,h3,λu H3 μ3 e3 s3 r3=>?_⟩⟩⟩
 cases z with
 | bl k=>
  refine⟨k,r3.bl_inv,?_⟩
  cases k with
  | false=>cases hm;rw[if_neg adh];exact post _ H3 μ3 ((e1.trans e2).trans e3) s3 (.bl false)
  | true=>
   obtain⟨⟨t,S4⟩,h4,hm⟩:=Yx.mp hm
   obtain⟨z,h5,hm⟩:=Yx.mp hm
   cases hm
   rw[YR rfl]
   exact⟨μ3,S2,env,t,S4,s3,hE.mono ((e1.trans e2).trans e3),h4,λu' H4 μ4 e4 s4 r4=>⟨μ4,_,y,t,_,s4,(r2.mono e3).mono e4,r4,h5,post.ext (((e1.trans e2).trans e3).trans e4)⟩⟩
 | _=>cases hm
noncomputable def PJ(ho:OpR X (adc op) (og X.K f))(ho':OpR X (adc op') (og X.K g))(ha:DE X a ma)(hb:DE X b mb)(hc:DE X c mc)
  (hm:lastMarks [op,op'] [b,c]=false:=by with_unfolding_all rfl):DE X (.Compare a [op,op'] [b,c] pos) (dg f g ma mb mc):=
 PE.imp (Mx ho ho' ha hb hc hm) λ_ _ _ h=>xA h
noncomputable def Pe(ho:OpR X (adc op) (og X.K f))(ho':OpR X (adc op') (og X.K g))(ha:DE X a ma)(hb:DE X b mb)(hc:DE X c mc)
  (hm:lastMarks [op,op'] [b,c]=false:=by with_unfolding_all rfl):DT X (.Compare a [op,op'] [b,c] pos) (aB (dg f g ma mb mc)):=
 PT.imp (Me ho ho' ha hb hc hm) λσ H Q ⟨μ,S,env,k,S',hS,hE,hm,post⟩=>by
  have h:=uO hm
  refine xA ⟨μ,S,env,_,S',hS,hE,h,λv H' μ' e s r=>?_⟩
  exact⟨k,r.bl_inv,post H' μ' e s⟩
noncomputable def tP(S:ac):D->Option Bool
 | .non=>U false
 | .bl b=>U b
 | .int i=>U (i != 0)
 | .str y=>if y.length<=acY then U ((y.length:Int) != 0) else Y
 | .tup xs=>U (!xs.isEmpty)
 | .lst xs=>U (!xs.isEmpty)
 | .rol xs=>U (!xs.isEmpty)
 | .dct ks _=>U (!ks.isEmpty)
 | .ref r=>match S[r]? with
  | some (.lst xs)=>U (!xs.isEmpty)
  | some (.dct ks _)=>U (!ks.isEmpty)
  | none=>Y
 | .txt=>Y
 | .obj=>Y
 | .exc _ _ _=>Y
theorem Reps.isEmpty{vs:List V}{ds:List D}(r:Reps K μ H vs ds):(!ds.isEmpty) = !vs.isEmpty:=by cases r<;>rfl
def rZ{α β:Type}(f:α->β)(l:List α):(!(l.map f).isEmpty) = !l.isEmpty:=by cases l<;>rfl
def sV{d:D}{k:Bool}(s:SOk K μ S H)(r:Rep K μ H x d)(h:tP S d=U k):KU K x H k:=by
 cases r with
 | non=>cases h;rfl
 | bl b=>cases h;rfl
 | int i=>cases h;rfl
 | str y=>
  simp only[tP] at h
  split at h
  ·rename_i hy;cases h;exact⟨hy,rfl⟩
  ·cases h
 | @tup a vs ds h' n r=>cases h;exact .inr (.inl ⟨vs,.inl (.inl h'),r.isEmpty⟩)
 | @ktup a vs ds h' r=>cases h;exact .inr (.inl ⟨vs,.inr h',r.isEmpty⟩)
 | @lst a vs ds h' n r=>cases h;exact .inl ⟨vs,.inl (.inl h'),r.isEmpty⟩
 | @rol a vs ds h' n r=>cases h;exact .inl ⟨vs,.inl h',r.isEmpty⟩
 | @krol a vs ds h' r=>cases h;exact .inl ⟨vs,.inr h',r.isEmpty⟩
 | @dct a kvs ds h' n r=>cases h;exact .inr (.inr ⟨kvs,h',rZ _ _⟩)
 | txt x=>cases h
 | obj h' n=>cases h
 | exc h' n h2 n2=>cases h
 | @ref a i h'=>
  simp only[tP] at h
  cases q:S[i]? with
  | none=>rw[q] at h;cases h
  | some c=>
   rw[q] at h
   have ck:=s.cell i a c h' q
   cases c with
   | lst xs=>cases h;obtain⟨vs,e,r⟩:=ck;exact .inl ⟨vs,.inl (.inl e),r.isEmpty⟩
   | dct ks xs=>cases h;obtain⟨kvs,e,rfl,r⟩:=ck;exact .inr (.inr ⟨kvs,e,rZ _ _⟩)
noncomputable def da(m:ME):MT:=λenv S=>(m env S).bind λp=>(tP p.2 p.1).bind λk=>U (k,p.2)
noncomputable def Du(ha:DE X a ma)(he:∀ whole,isTrue a X.env whole=(do let v <- whole;standAt a.pos;holding [v] (truthy v)):=by intro _;rfl):DT X a (da ma):=
 PT.imp (Md ha he) λσ H Q ⟨μ,S,env,k,S',hS,hE,hm,post⟩=>by
  obtain⟨⟨x,S1⟩,h1,hm⟩:=Yx.mp hm
  obtain⟨k',h2,hm⟩:=Yx.mp hm
  cases hm
  exact⟨μ,S,env,x,S1,hS,hE,h1,λv H' μ' e s r=>⟨k,sV s r h2,post H' μ' e s⟩⟩
variable{ta tb tc:MT}{rest:List Nl}
noncomputable def du(a b:MT):MT:=λenv S=>(a env S).bind λp=>if p.1=true then b env p.2 else U (false,p.2)
noncomputable def gH(a b:MT):MT:=λenv S=>(a env S).bind λp=>if p.1=true then U (true,p.2) else b env p.2
noncomputable def dm(a:MT):MT:=λenv S=>(a env S).bind λp=>U (!p.1,p.2)
def QA(h:La K (du ta tb) σ H Q):tAnd (La K ta) (La K tb) σ H Q:=by
 obtain⟨μ,S,env,k,S',hS,hE,hm,post⟩:=h
 obtain⟨⟨x,S1⟩,h1,hm⟩:=Yx.mp hm
 refine⟨μ,S,env,x,S1,hS,hE,h1,λH1 μ1 e1 s1=>?_⟩
 cases x with
 | true=>rw[YR rfl] at hm ⊢;exact⟨μ1,S1,env,k,S',s1,hE.mono e1,hm,λH2 μ2 e2 s2=>post H2 μ2 (e1.trans e2) s2⟩
 | false=>rw[if_neg adh] at hm ⊢;cases hm;exact post H1 μ1 e1 s1
def Vl(h:La K (gH ta tb) σ H Q):tOr (La K ta) (La K tb) σ H Q:=by
 obtain⟨μ,S,env,k,S',hS,hE,hm,post⟩:=h
 obtain⟨⟨x,S1⟩,h1,hm⟩:=Yx.mp hm
 refine⟨μ,S,env,x,S1,hS,hE,h1,λH1 μ1 e1 s1=>?_⟩
 cases x with
 | false=>rw[if_neg adh] at hm ⊢;exact⟨μ1,S1,env,k,S',s1,hE.mono e1,hm,λH2 μ2 e2 s2=>post H2 μ2 (e1.trans e2) s2⟩
 | true=>rw[YR rfl] at hm ⊢;cases hm;exact post H1 μ1 e1 s1
def Ie(ha:DT X a ta):DW X (.BoolOp .And [a] pos) ta:=QQ ha
def Pa(ha:DT X a ta):DW X (.BoolOp .Or [a] pos) ta:=Vy ha
def Pb(ha:DT X a ta)(hb:DW X (.BoolOp .And (b::rest) pos) tb):DW X (.BoolOp .And (a::b::rest) pos) (du ta tb):=PW.imp (Vz ha hb) λ_ _ _ h=>QA h
def US(ha:DT X a ta)(hb:DW X (.BoolOp .Or (b::rest) pos) tb):DW X (.BoolOp .Or (a::b::rest) pos) (gH ta tb):=PW.imp (pw_or ha hb) λ_ _ _ h=>Vl h
def SU(h:DW X a ta):DT X a ta:=PW.pt h
def Xy(ha:DT X a ta):DT X (.UnaryOp .Not a pos) (dm ta):=PT.imp (VA ha) λσ H Q ⟨μ,S,env,k,S',hS,hE,hm,post⟩=>by
 obtain⟨⟨x,S1⟩,h1,hm⟩:=Yx.mp hm
 cases hm
 exact⟨μ,S,env,x,S1,hS,hE,h1,λH1 μ1 e1 s1=>post H1 μ1 e1 s1⟩
noncomputable def ft(a b:ME):ME:=λenv S=>(a env S).bind λp=>match p.1 with | .bl true=>b env p.2 | .bl false=>U (.bl false,p.2) | _=>Y
noncomputable def zV(a b:ME):ME:=λenv S=>(a env S).bind λp=>match p.1 with | .bl false=>b env p.2 | .bl true=>U (.bl true,p.2) | _=>Y
def Pz{op}(h:DE X a ma):DE X (.BoolOp op [a] pos) ma:=VL h
noncomputable def iK(a:ME):ME:=λenv S=>(a env S).bind λp=>match p.1 with | .bl k=>U (.bl (!k),p.2) | _=>Y
noncomputable def oV(t:MT)(a b:ME):ME:=λenv S=>(t env S).bind λp=>if p.1=true then a env p.2 else b env p.2
def de_if(hc:DT X c tc)(ha:DE X a ma)(hb:DE X b mb):DE X (.IfExp c a b pos) (oV tc ma mb):=PE.imp (Mu hc ha hb) λσ H Q ⟨μ,S,env,d,S',hS,hE,hm,post⟩=>by
 obtain⟨⟨x,S1⟩,h1,hm⟩:=Yx.mp hm
 refine⟨μ,S,env,x,S1,hS,hE,h1,λH1 μ1 e1 s1=>?_⟩
 cases x with
 | true=>rw[YR rfl] at hm ⊢;exact⟨μ1,S1,env,d,S',s1,hE.mono e1,hm,post.ext e1⟩
 | false=>rw[if_neg adh] at hm ⊢;exact⟨μ1,S1,env,d,S',s1,hE.mono e1,hm,post.ext e1⟩
variable{es:List Nl}{ms:MA}
noncomputable def ai:MA:=λ_ S=>U ([],S)
noncomputable def aa(a:ME)(r:MA):MA:=λenv S=>(a env S).bind λp=>(r env p.2).bind λq=>U (p.1::q.1,q.2)
def XW:DA X [] ai:=PA.imp uh λσ H Q ⟨μ,S,env,d,S',hS,hE,hm,post⟩=>by cases hm;exact post [] H μ hS.ext hS .nil
noncomputable def Tw(ha:DE X a ma)(hr:DA X es ms)(hs:acZ (a::es) X.env=(false,eval a X.env)::acZ es X.env):DA X (a::es) (aa ma ms):=PA.imp (ko ha hr hs) λσ H Q ⟨μ,S,env,ds,S',hS,hE,hm,post⟩=>by
 obtain⟨⟨x,S1⟩,h1,hm⟩:=Yx.mp hm
 obtain⟨⟨xs,S2⟩,h2,hm⟩:=Yx.mp hm
 cases hm
 exact⟨μ,S,env,x,S1,hS,hE,h1,λv H1 μ1 e1 s1 r1=>⟨μ1,S1,env,xs,S2,s1,hE.mono e1,h2,λvs H2 μ2 e2 s2 r2=>post (v::vs) H2 μ2 (e1.trans e2) s2 (.cons (r1.mono e2) r2)⟩⟩
noncomputable def be(ms:MA):ME:=λenv S=>(ms env S).bind λp=>if p.1.length<=acY then U (.tup p.1,p.2) else Y
noncomputable def dG(ms:MA):ME:=λenv S=>(ms env S).bind λp=>if p.1.length<=acY then U (.lst p.1,p.2) else Y
noncomputable def gR(ms:MA):ME:=λenv S=>(ms env S).bind λp=>if p.1.length<=acY then U (.ref p.2.length,p.2++[.lst p.1]) else Y
theorem Post.tup(post:Post K μ H S (.tup ds) Q)(s:SOk K μ S H)(hp:H p=Y)(r:Reps K μ H vs ds):Q (.ref p) (upd H p (.tup vs)):=by
 obtain⟨e,s'⟩:=s.laid (o:=.tup vs) hp
 exact post _ _ _ e s' (.tup bf (s.notMem hp) (r.mono e))
theorem Post.lst(post:Post K μ H S (.lst ds) Q)(s:SOk K μ S H)(hp:H p=Y)(r:Reps K μ H vs ds):Q (.ref p) (upd H p (.lst vs)):=by
 obtain⟨e,s'⟩:=s.laid (o:=.lst vs) hp
 exact post _ _ _ e s' (.lst bf (s.notMem hp) (r.mono e))
def Post.lstR(post:Post K μ H (S++[.lst ds]) (.ref S.length) Q)(s:SOk K μ S H)(hp:H p=Y)(r:Reps K μ H vs ds):Q (.ref p) (upd H p (.lst vs)):=by
 obtain⟨e,s'⟩:=s.alloc hp r
 exact post _ _ _ e s' (.ref (by rw[<- s.len,ZN (YL _)];simp))
def XJ{k}(h:DA X es ms):DE X (.Tuple es k pos) (be ms):=PE.imp (Mq h) λσ H Q ⟨μ,S,env,d,S',hS,hE,hm,post⟩=>by
 obtain⟨⟨xs,S1⟩,h1,hm⟩:=Yx.mp hm
 dsimp only at hm
 split at hm
 ·rename_i hl
  cases hm
  exact⟨μ,S,env,_,_,hS,hE,h1,λvs H1 μ1 e1 s1 r1=>⟨by rw[r1.length];exact hl,λp hp=>(post.ext e1).tup s1 hp r1⟩⟩
 ·cases hm
def XQ(h:DA X es ms):DE X (.List es pos) (dG ms):=PE.imp (Ms h) λσ H Q ⟨μ,S,env,d,S',hS,hE,hm,post⟩=>by
 obtain⟨⟨xs,S1⟩,h1,hm⟩:=Yx.mp hm
 dsimp only at hm
 split at hm
 ·rename_i hl
  cases hm
  exact⟨μ,S,env,_,_,hS,hE,h1,λvs H1 μ1 e1 s1 r1=>⟨by rw[r1.length];exact hl,λp hp=>(post.ext e1).lst s1 hp r1⟩⟩
 ·cases hm
def Tj(h:DA X es ms):DE X (.List es pos) (gR ms):=PE.imp (Ms h) λσ H Q ⟨μ,S,env,d,S',hS,hE,hm,post⟩=>by
 obtain⟨⟨xs,S1⟩,h1,hm⟩:=Yx.mp hm
 dsimp only at hm
 split at hm
 ·rename_i hl
  cases hm
  exact⟨μ,S,env,_,_,hS,hE,h1,λvs H1 μ1 e1 s1 r1=>⟨by rw[r1.length];exact hl,λp hp=>(post.ext e1).lstR s1 hp r1⟩⟩
 ·cases hm
def Tp:DE X (.Dict [] [] pos) (mC (.dct [] [])):=PE.imp Mv λσ H Q ⟨μ,S,env,d,S',hS,hE,hm,post⟩=>by
 cases hm
 intro p hp
 obtain⟨e,s'⟩:=hS.laid (o:=.dK []) hp
 exact post _ _ _ e s' (.dct (kvs:=[]) bf (hS.notMem hp) .nil)
end
end
mutual
noncomputable def jd:D->D->Bool
 | .non,.non=>true
 | .bl a,.bl b=>a==b
 | .bl a,.int b=>(if a then 1 else 0)==b
 | .int a,.bl b=>a==(if b then 1 else 0)
 | .int a,.int b=>a==b
 | .str a,.str b=>a==b
 | .tup xs,.tup ys=>eqDs xs ys
 | .lst xs,.lst ys=>eqDs xs ys
 | _,_=>false
noncomputable def eqDs:List D->List D->Bool
 | [],[]=>true
 | x::xs,y::ys=>jd x y&&eqDs xs ys
 | _,_=>false
end
noncomputable def cB:Nat->D->Bool
 | _,.non=>true
 | _,.bl _=>true
 | _,.int _=>true
 | _,.str _=>true
 | n+1,.tup xs=>xs.all (cB n)
 | n+1,.lst xs=>xs.all (cB n)
 | _,_=>false
theorem ur:∀ {n m:Nat} {d:D},n<=m->cB n d=true->cB m d=true
 | n,m,.non,_,_=>by simp[cB]
 | n,m,.bl _,_,_=>by simp[cB]
 | n,m,.int _,_,_=>by simp[cB]
 | n,m,.str _,_,_=>by simp[cB]
 | 0,m,.tup _,_,h=>by simp[cB] at h
 | 0,m,.lst _,_,h=>by simp[cB] at h
 | n+1,m+1,.tup xs,hl,h=>by
  simp only[cB,YO] at h ⊢
  exact λd hd=>ur (acp hl) (h d hd)
 | n+1,m+1,.lst xs,hl,h=>by
  simp only[cB,YO] at h ⊢
  exact λd hd=>ur (acp hl) (h d hd)
 | n+1,0,.tup _,hl,_=>absurd hl (by omega)
 | n+1,0,.lst _,hl,_=>absurd hl (by omega)
 | n,m,.rol _,_,h=>by cases n<;>simp[cB] at h
 | n,m,.txt,_,h=>by cases n<;>simp[cB] at h
 | n,m,.obj,_,h=>by cases n<;>simp[cB] at h
 | n,m,.exc _ _ _,_,h=>by cases n<;>simp[cB] at h
 | n,m,.dct _ _,_,h=>by cases n<;>simp[cB] at h
 | n,m,.ref _,_,h=>by cases n<;>simp[cB] at h
theorem Ay:∀ (xs ys:List D),eqDs xs ys=((List.range (min xs.length ys.length)).all (λj=>match xs[j]?,ys[j]? with | some a,U b=>jd a b | _,_=>true)&&xs.length==ys.length)
 | [],[]=>rfl
 | [],y::ys=>by simp[eqDs]
 | x::xs,[]=>by simp[eqDs]
 | x::xs,y::ys=>by
  have ih:=Ay xs ys
  rw[eqDs,ih]
  have hm:min (x::xs).length (y::ys).length=min xs.length ys.length+1:=by simp only[YT];omega
  rw[hm,acq,ZT,List.all_map]
  simp only[acm,YT,Bool.and_assoc]
  congr 1
  congr 1
  rw[Zm];simp
section
variable{X:Cx}{pins:List (tx×Obj)}{σ:L2.St}{H:Hp}{s:td}{μ:Fp}{A:Wr}
def Rep.sqT{K:adf}(r:Rep K μ H v (.tup ds)):∃ a vs,v=.ref a/\lZ K H a vs/\Reps K μ H vs ds:=by
 cases r with
 | tup h n r=>exact⟨_,_,rfl,.inl (.inl h),r⟩
 | ktup h r=>exact⟨_,_,rfl,.inr h,r⟩
def Rep.sqL{K:adf}(r:Rep K μ H v (.lst ds)):∃ a vs,v=.ref a/\H a=U (.lst vs)/\μ.no a/\Reps K μ H vs ds:=by
 cases r with
 | lst h n r=>exact⟨_,_,rfl,h,n,r⟩
def Rep.sqR{K:adf}(r:Rep K μ H v (.rol ds)):∃ a vs,v=.ref a/\pz K H a vs/\Reps K μ H vs ds:=by
 cases r with
 | rol h n r=>exact⟨_,_,rfl,.inl h,r⟩
 | krol h r=>exact⟨_,_,rfl,.inr h,r⟩
def ntl(I:Inv X pins σ H s)(h:lZ X.K H a xs)(h':pz X.K H a ys):False:=by
 obtain⟨its,_,⟨o,e,c,_⟩,_⟩:=I.tuple h
 obtain⟨its',_,⟨o',n',e',c',_⟩,_⟩:=I.list h'
 rw[e] at e';cases e'
 rw[c] at c'
 exact absurd c' (by simp)
def Rep.non_inv{K:adf}(h:Rep K μ H v .non):v=.non:=by cases h;rfl
def Hc:cB n (.rol xs)=false:=by cases n<;>rfl
def Hh:cB n (.dct ks xs)=false:=by cases n<;>rfl
def Hd:cB n (.ref r)=false:=by cases n<;>rfl
def Hb:cB n .txt=false:=by cases n<;>rfl
def He:cB n .obj=false:=by cases n<;>rfl
def Hg:cB n (.exc C fl i)=false:=by cases n<;>rfl
def tj(h:cB n (.tup xs)=true):∃ m,m+1=n/\∀ x∈xs,cB m x=true:=by
 cases n with
 | zero=>cases h
 | succ n=>exact⟨n,rfl,YO.mp h⟩
def tm(h:cB n (.lst xs)=true):∃ m,m+1=n/\∀ x∈xs,cB m x=true:=by
 cases n with
 | zero=>cases h
 | succ n=>exact⟨n,rfl,YO.mp h⟩
inductive Fm(K:adf)(μ:Fp)(H:Hp):D->V->Prop
 | non:Fm K μ H .non .non
 | bl (b:Bool):Fm K μ H (.bl b) (.bl b)
 | int (i:Int):Fm K μ H (.int i) (.int i)
 | str (x:Str):Fm K μ H (.str x) (.str x)
 | tup {xs:List D} {l:tx} {vs:List V} (q:lZ K H l vs) (r:Reps K μ H vs xs):Fm K μ H (.tup xs) (.ref l)
 | lst {xs:List D} {l:tx} {vs:List V} (q:pz K H l vs) (r:Reps K μ H vs xs):Fm K μ H (.lst xs) (.ref l)
def sA{K:adf}(hx:cB n x=true)(r:Rep K μ H a x):Fm K μ H x a:=by
 cases x with
 | non=>rw[r.non_inv];exact .non
 | bl b=>rw[r.bl_inv];exact .bl b
 | int b=>rw[r.int_inv];exact .int b
 | str b=>rw[r.str_inv];exact .str b
 | tup xs=>obtain⟨l,vs,rfl,q,r⟩:=r.sqT;exact .tup q r
 | lst xs=>obtain⟨l,vs,rfl,q,_,r⟩:=r.sqL;exact .lst (.inl (.inl q)) r
 | rol _=>rw[Hc] at hx;cases hx
 | dct _ _=>rw[Hh] at hx;cases hx
 | ref _=>rw[Hd] at hx;cases hx
 | txt=>rw[Hb] at hx;cases hx
 | obj=>rw[He] at hx;cases hx
 | exc C fl i=>rw[Hg] at hx;cases hx
theorem Reps.injN{K:adf}(ih:∀ {v:V} {x y:D},cB n x=true->cB n y=true->Rep K μ H v x->Rep K μ H v y->x=y):∀ {vs:List V} {xs ys:List D},(∀ x∈xs,cB n x=true)->(∀ y∈ys,cB n y=true)->Reps K μ H vs xs->Reps K μ H vs ys->xs=ys
 | _,_,_,_,_,.nil,.nil=>rfl
 | _,_,_,hx,hy,.cons h t,.cons h' t'=>by
  rw[ih (hx _ YF) (hy _ YF) h h',Reps.injN ih (λx m=>hx x (YB _ m)) (λx m=>hy x (YB _ m)) t t']
theorem CW(I:Inv X pins σ H s)(n:Nat)(ih:∀ m,m+1=n->∀ {v:V} {x y:D},cB m x=true->cB m y=true->Rep X.K μ H v x->Rep X.K μ H v y->x=y)(hx:cB n x=true)(hy:cB n y=true)(rx:Rep X.K μ H v x)(ry:Rep X.K μ H v y):x=y:=by
 have fy:=sA hy ry
 cases x with
 | tup xs=>
  obtain⟨a,vs,rfl,q,r⟩:=rx.sqT
  obtain⟨m,hm,ox⟩:=tj hx
  cases fy with
  | tup q' r'=>
   cases I.tuple_inj q' q
   obtain⟨m',hm',oy⟩:=tj hy
   have:m'=m:=by omega
   subst this
   rw[Reps.injN (ih m' hm) ox oy r r']
  | lst q' _=>exact(ntl I q q').elim
 | lst xs=>
  obtain⟨a,vs,rfl,q,_,r⟩:=rx.sqL
  obtain⟨m,hm,ox⟩:=tm hx
  cases y with
  | lst ys=>
   obtain⟨m',hm',oy⟩:=tm hy
   have:m'=m:=by omega
   subst this
   obtain⟨a',vs',e,q',_,r'⟩:=ry.sqL
   cases e
   rw[q] at q';cases q'
   rw[Reps.injN (ih m' hm) ox oy r r']
  | _=>cases fy<;>exact(ntl I (by assumption) (.inl (.inl q))).elim
 | non=>rw[rx.non_inv] at fy;cases fy;rfl
 | bl b=>rw[rx.bl_inv] at fy;cases fy;rfl
 | int b=>rw[rx.int_inv] at fy;cases fy;rfl
 | str b=>rw[rx.str_inv] at fy;cases fy;rfl
 | rol _=>rw[Hc] at hx;cases hx
 | dct _ _=>rw[Hh] at hx;cases hx
 | ref _=>rw[Hd] at hx;cases hx
 | txt=>rw[Hb] at hx;cases hx
 | obj=>rw[He] at hx;cases hx
 | exc C fl i=>rw[Hg] at hx;cases hx
def Rep.inj(I:Inv X pins σ H s)(n:Nat):∀ {v:V} {x y:D},cB n x=true->cB n y=true->Rep X.K μ H v x->Rep X.K μ H v y->x=y:=by
 induction n with
 | zero=>exact λhx hy rx ry=>CW I 0 (λm h=>absurd h (Nat.succ_ne_zero m)) hx hy rx ry
 | succ n ih=>exact λhx hy rx ry=>CW I (n+1) (λm h=>by cases h;exact ih) hx hy rx ry
theorem qz:∀ (n:Nat) (x:D),cB n x=true->jd x x=true
 | n,.non,_=>rfl
 | n,.bl _,_=>by simp[jd]
 | n,.int _,_=>by simp[jd]
 | n,.str _,_=>by simp[jd]
 | 0,.tup _,h=>by simp[cB] at h
 | 0,.lst _,h=>by simp[cB] at h
 | n+1,.tup xs,h=>by
  simp only[cB,YO] at h
  rw[jd]
  induction xs with
  | nil=>rfl
  | cons x xs ih=>rw[eqDs,qz n x (h x YF),ih λy m=>h y (YB _ m)];rfl
 | n+1,.lst xs,h=>by
  simp only[cB,YO] at h
  rw[jd]
  induction xs with
  | nil=>rfl
  | cons x xs ih=>rw[eqDs,qz n x (h x YF),ih λy m=>h y (YB _ m)];rfl
 | n,.rol _,h=>by cases n<;>simp[cB] at h
 | n,.txt,h=>by cases n<;>simp[cB] at h
 | n,.obj,h=>by cases n<;>simp[cB] at h
 | n,.exc _ _ _,h=>by cases n<;>simp[cB] at h
 | n,.dct _ _,h=>by cases n<;>simp[cB] at h
 | n,.ref _,h=>by cases n<;>simp[cB] at h
open PySem.SeqAt
def yl(A:Wr):A.in1.units=A.units+1:=rfl
theorem yi{P:gV->gV->Bool->Prop}(r1:Vals vs its)(q1:Reps X.K μ H vs xs)(r2:Vals ws its2)(q2:Reps X.K μ H ws ys)
  (h:∀ (j:Nat) (v w:V) (u u':gV) (x y:D),xs[j]?=U x->ys[j]?=U y->Rep X.K μ H v x->Rep X.K μ H w y->RelV v u->RelV w u'->P u u' (jd x y)) :
  ∀ j (h1:j<its.toArray.size) (h2:j<its2.toArray.size),P its.toArray[j] its2.toArray[j] (match xs[j]?,ys[j]? with | some a,U b=>jd a b | _,_=>true):=λj h1 h2=>by
 have l1:=r1.length
 have l2:=r2.length
 have m1:=q1.length
 have m2:=q2.length
 have h1':j<its.length:=by simpa using h1
 have h2':j<its2.length:=by simpa using h2
 have hx:xs[j]?=U xs[j]:=YG (by omega)
 have hy:ys[j]?=U ys[j]:=YG (by omega)
 obtain⟨v,e1,p1⟩:=q1.get hx
 obtain⟨w,e2,p2⟩:=q2.get hy
 obtain⟨u,f1,g1⟩:=r1.get e1
 obtain⟨u',f2,g2⟩:=r2.get e2
 rw[hx,hy]
 have:=h j v w u u' _ _ hx hy p1 p2 g1 g2
 have f1':its.toArray[j]=u:=by simpa[YG h1'] using f1
 have f2':its2.toArray[j]=u':=by simpa[YG h2'] using f2
 rw[f1',f2']
 exact this
structure Yw(A:Wr)(s:td)(u v:gV)(b:Bool):Prop where
 eq:EqAt A s u v b
 rc:RcAt A s u v b
 ne:RcNeAt A s u v (!b)
theorem Ib(I:Inv X pins σ H s)(n:Nat)(ih:∀ m,m+1=n->∀ (A:Wr) {a b:V} {u v:gV} {x y:D},A.units+m<cLine->cB m x=true->cB m y=true->Rep X.K μ H a x->Rep X.K μ H b y->RelV a u->RelV b v->Yw A s u v (jd x y))
  (A:Wr) (hn:A.units+n<cLine) (hx:cB n x=true) (hy:cB n y=true) (rx:Rep X.K μ H a x) (ry:Rep X.K μ H b y) (ra:RelV a u) (rb:RelV b v):Yw A s u v (jd x y):=by
 have hu:A.units<cLine:=by omega
 cases sA hx rx with
 | non=>
  cases ra
  cases sA hy ry with
  | non=>cases rb;exact⟨EqAt.same _,RcAt.none_none,RcNeAt.none_none⟩
  | bl b=>cases rb;exact⟨EqAt.none_bool b,RcAt.none_bool b,RcNeAt.none_bool b⟩
  | int b=>obtain⟨t,rfl⟩:=rb;exact⟨EqAt.none_int b t,RcAt.none_int b t,RcNeAt.none_int b t⟩
  | str b=>obtain⟨t,rfl⟩:=rb;exact⟨EqAt.none_str b t,RcAt.none_str b t,RcNeAt.none_str b t⟩
  | tup q r=>cases rb;obtain⟨its,rv,p,_⟩:=I.tuple q;exact⟨EqAt.none_tuple p hu,RcAt.none_tuple p hu,RcNeAt.none_tuple p hu⟩
  | lst q r=>cases rb;obtain⟨its,rv,p,_⟩:=I.list q;exact⟨EqAt.none_list p.isList hu,RcAt.none_list p.isList hu,RcNeAt.none_list p.isList hu⟩
 | bl a=>
  cases ra
  cases sA hy ry with
  | non=>cases rb;exact⟨EqAt.bool_none a,RcAt.bool_none a,RcNeAt.bool_none a⟩
  | bl b=>cases rb;exact⟨EqAt.bool_bool a b,RcAt.bool_bool a b,RcNeAt.bool_bool a b⟩
  | int b=>obtain⟨t,rfl⟩:=rb;exact⟨EqAt.bool_int a b t,RcAt.bool_int a b t,RcNeAt.bool_int a b t⟩
  | str b=>obtain⟨t,rfl⟩:=rb;exact⟨EqAt.bool_str a b t,RcAt.bool_str a b t,RcNeAt.bool_str a b t⟩
  | tup q r=>cases rb;obtain⟨its,rv,p,_⟩:=I.tuple q;exact⟨EqAt.bool_tuple a p hu,RcAt.bool_tuple a p hu,RcNeAt.bool_tuple a p hu⟩
  | lst q r=>cases rb;obtain⟨its,rv,p,_⟩:=I.list q;exact⟨EqAt.bool_list a p.isList hu,RcAt.bool_list a p.isList hu,RcNeAt.bool_list a p.isList hu⟩
 | int a=>
  obtain⟨t',rfl⟩:=ra
  cases sA hy ry with
  | non=>cases rb;exact⟨EqAt.int_none a t',RcAt.int_none a t',RcNeAt.int_none a t'⟩
  | bl b=>cases rb;exact⟨EqAt.int_bool a t' b,RcAt.int_bool a t' b,RcNeAt.int_bool a t' b⟩
  | int b=>obtain⟨t,rfl⟩:=rb;exact⟨EqAt.int_int a t' b t,RcAt.int_int a t' b t,RcNeAt.int_int a t' b t⟩
  | str b=>obtain⟨t,rfl⟩:=rb;exact⟨EqAt.int_str a t' b t,RcAt.int_str a t' b t,RcNeAt.int_str a t' b t⟩
  | tup q r=>cases rb;obtain⟨its,rv,p,_⟩:=I.tuple q;exact⟨EqAt.int_tuple a t' p hu,RcAt.int_tuple a t' p hu,RcNeAt.int_tuple a t' p hu⟩
  | lst q r=>cases rb;obtain⟨its,rv,p,_⟩:=I.list q;exact⟨EqAt.int_list a t' p.isList hu,RcAt.int_list a t' p.isList hu,RcNeAt.int_list a t' p.isList hu⟩
 | str a=>
  obtain⟨t',rfl⟩:=ra
  cases sA hy ry with
  | non=>cases rb;exact⟨EqAt.str_none a t',RcAt.str_none a t',RcNeAt.str_none a t'⟩
  | bl b=>cases rb;exact⟨EqAt.str_bool a t' b,RcAt.str_bool a t' b,RcNeAt.str_bool a t' b⟩
  | int b=>obtain⟨t,rfl⟩:=rb;exact⟨EqAt.str_int a t' b t,RcAt.str_int a t' b t,RcNeAt.str_int a t' b t⟩
  | str b=>obtain⟨t,rfl⟩:=rb;exact⟨EqAt.str_str a t' b t,RcAt.str_str a t' b t,RcNeAt.str_str a t' b t⟩
  | tup q r=>cases rb;obtain⟨its,rv,p,_⟩:=I.tuple q;exact⟨EqAt.str_tuple a t' p hu,RcAt.str_tuple a t' p hu,RcNeAt.str_tuple a t' p hu⟩
  | lst q r=>cases rb;obtain⟨its,rv,p,_⟩:=I.list q;exact⟨EqAt.str_list a t' p.isList hu,RcAt.str_list a t' p.isList hu,RcNeAt.str_list a t' p.isList hu⟩
 | @tup xs l vs q r=>
  cases ra
  obtain⟨its,rv,p,_⟩:=I.tuple q
  cases sA hy ry with
  | non=>cases rb;exact⟨EqAt.tuple_none p hu,RcAt.tuple_none p hu,RcNeAt.tuple_none p hu⟩
  | bl b=>cases rb;exact⟨EqAt.tuple_bool b p hu,RcAt.tuple_bool b p hu,RcNeAt.tuple_bool b p hu⟩
  | int b=>obtain⟨t,rfl⟩:=rb;exact⟨EqAt.tuple_int b t p hu,RcAt.tuple_int b t p hu,RcNeAt.tuple_int b t p hu⟩
  | str b=>obtain⟨t,rfl⟩:=rb;exact⟨EqAt.tuple_str b t p hu,RcAt.tuple_str b t p hu,RcNeAt.tuple_str b t p hu⟩
  | @tup ys l' vs' q' r'=>
   cases rb
   obtain⟨its',rv',p',_⟩:=I.tuple q'
   obtain⟨m,hm,ox⟩:=tj hx
   obtain⟨m',hm',oy⟩:=tj hy
   have:m'=m:=by omega
   subst this
   have all:=yi (P:=λu u' b=>EqAt A.in1 s u u' b) rv r rv' r' λj v w u u' x y hx' hy' q1 q2 g1 g2=>
    (ih m' hm A.in1 (by rw[yl];omega) (ox x (YY hx')) (oy y (YY hy')) q1 q2 g1 g2).eq
   have e0:its.toArray.size=xs.length:=by rw[YC,<- rv.length,r.length]
   have e1:its'.toArray.size=ys.length:=by rw[YC,<- rv'.length,r'.length]
   have key:=RcAt.tuples (A:=A) (s:=s) p p' hu all
   have kne:=RcNeAt.tuples (A:=A) (s:=s) p p' hu all
   rw[e0,e1,<- Ay] at key kne
   refine⟨?_,key,kne⟩
   by_cases hl:l=l'
   ·subst hl
    rw[<- Rep.inj I n hx hy rx ry,qz _ _ hx]
    exact EqAt.same _
   ·exact EqAt.of_refs hl key
  | lst q' r'=>cases rb;obtain⟨its',rv',p',_⟩:=I.list q';exact⟨EqAt.tuple_list p p'.isList hu,RcAt.tuple_list p p'.isList hu,RcNeAt.tuple_list p p'.isList hu⟩
 | @lst xs l vs q r=>
  cases ra
  obtain⟨its,rv,p0,_⟩:=I.list q
  have p:=p0.isList
  cases sA hy ry with
  | non=>cases rb;exact⟨EqAt.list_none p hu,RcAt.list_none p hu,RcNeAt.list_none p hu⟩
  | bl b=>cases rb;exact⟨EqAt.list_bool b p hu,RcAt.list_bool b p hu,RcNeAt.list_bool b p hu⟩
  | int b=>obtain⟨t,rfl⟩:=rb;exact⟨EqAt.list_int b t p hu,RcAt.list_int b t p hu,RcNeAt.list_int b t p hu⟩
  | str b=>obtain⟨t,rfl⟩:=rb;exact⟨EqAt.list_str b t p hu,RcAt.list_str b t p hu,RcNeAt.list_str b t p hu⟩
  | tup q' r'=>cases rb;obtain⟨its',rv',p',_⟩:=I.tuple q';exact⟨EqAt.list_tuple p p' hu,RcAt.list_tuple p p' hu,RcNeAt.list_tuple p p' hu⟩
  | @lst ys l' vs' q' r'=>
   cases rb
   obtain⟨its',rv',p0',_⟩:=I.list q'
   have p':=p0'.isList
   obtain⟨m,hm,ox⟩:=tm hx
   obtain⟨m',hm',oy⟩:=tm hy
   have:m'=m:=by omega
   subst this
   have all:=yi (P:=λu u' b=>EqAt A.in1 s u u' b) rv r rv' r' λj v w u u' x y hx' hy' q1 q2 g1 g2=>
    (ih m' hm A.in1 (by rw[yl];omega) (ox x (YY hx')) (oy y (YY hy')) q1 q2 g1 g2).eq
   have e0:its.toArray.size=xs.length:=by rw[YC,<- rv.length,r.length]
   have e1:its'.toArray.size=ys.length:=by rw[YC,<- rv'.length,r'.length]
   have key:RcAt A s (.ref l) (.ref l') (eqDs xs ys)/\RcNeAt A s (.ref l) (.ref l') (!eqDs xs ys):=by
    rw[Ay]
    by_cases hlen:xs.length=ys.length
    ·have k1:=RcAt.lists (A:=A) (s:=s) p p' (by rw[e0,e1,hlen]) hu all
     have k2:=RcNeAt.lists (A:=A) (s:=s) p p' (by rw[e0,e1,hlen]) hu all
     rw[e0] at k1 k2
     rw[<- hlen,Nat.min_self,beq_self_eq_true,abB]
     exact⟨k1,k2⟩
    ·rw[show(xs.length==ys.length)=false from ZF.mpr hlen,aam]
     exact⟨RcAt.lists_lengths (A:=A) (s:=s) p p' (by rw[e0,e1];exact bne_iff_ne.mpr hlen) hu,RcNeAt.lists_lengths (A:=A) (s:=s) p p' (by rw[e0,e1];exact bne_iff_ne.mpr hlen) hu⟩
   refine⟨?_,key.1,key.2⟩
   by_cases hl:l=l'
   ·subst hl
    rw[<- Rep.inj I n hx hy rx ry,qz _ _ hx]
    exact EqAt.same _
   ·exact EqAt.of_refs hl key.1
def XX(I:Inv X pins σ H s)(n:Nat):∀ (A:Wr) {a b:V} {u v:gV} {x y:D},A.units+n<cLine->cB n x=true->cB n y=true->Rep X.K μ H a x->Rep X.K μ H b y->RelV a u->RelV b v->Yw A s u v (jd x y):=by
 induction n with
 | zero=>exact λA _ _ _ _ _ _ hn hx hy rx ry ra rb=>Ib I 0 (λm h=>absurd h (Nat.succ_ne_zero m)) A hn hx hy rx ry ra rb
 | succ n ih=>exact λA _ _ _ _ _ _ hn hx hy rx ry ra rb=>Ib I (n+1) (λm h=>by cases h;exact ih) A hn hx hy rx ry ra rb
def eqRc(I:Inv X pins σ H s)(n:Nat)(A:Wr)(hn:A.units+n<cLine)(hx:cB n x=true)(hy:cB n y=true)(rx:Rep X.K μ H a x)(ry:Rep X.K μ H b y)(ra:RelV a u)(rb:RelV b v) :
  EqAt A s u v (jd x y)/\RcAt A s u v (jd x y):=⟨(XX I n A hn hx hy rx ry ra rb).eq,(XX I n A hn hx hy rx ry ra rb).rc⟩
def neRc(I:Inv X pins σ H s)(n:Nat)(A:Wr)(hn:A.units+n<cLine)(hx:cB n x=true)(hy:cB n y=true)(rx:Rep X.K μ H a x)(ry:Rep X.K μ H b y)(ra:RelV a u)(rb:RelV b v) :
  RcNeAt A s u v (!jd x y):=(XX I n A hn hx hy rx ry ra rb).ne
end
noncomputable def jb(S:ac):D->Option (List D)
 | .tup xs=>U xs
 | .lst xs=>U xs
 | .rol xs=>U xs
 | .ref r=>match S[r]? with | some (.lst xs)=>U xs | _=>Y
 | _=>Y
section
variable{X:Cx}{K:adf}{μ:Fp}{H:Hp}{S:ac}
def kn{d:D}{ds:List D}(s:SOk K μ S H)(r:Rep K μ H x d)(h:jb S d=U ds):∃ a vs,x=.ref a/\(pz K H a vs\/lZ K H a vs)/\Reps K μ H vs ds:=by
 cases r with
 | tup h' n r=>cases h;exact⟨_,_,rfl,.inr (.inl (.inl h')),r⟩
 | ktup h' r=>cases h;exact⟨_,_,rfl,.inr (.inr h'),r⟩
 | lst h' n r=>cases h;exact⟨_,_,rfl,.inl (.inl (.inl h')),r⟩
 | rol h' n r=>cases h;exact⟨_,_,rfl,.inl (.inl h'),r⟩
 | krol h' r=>cases h;exact⟨_,_,rfl,.inl (.inr h'),r⟩
 | @ref a i h'=>
  simp only[jb] at h
  cases q:S[i]? with
  | none=>rw[q] at h;cases h
  | some c=>
   rw[q] at h
   have ck:=s.cell i a c h' q
   cases c with
   | lst xs=>cases h;obtain⟨vs,e,r⟩:=ck;exact⟨_,vs,rfl,.inl (.inl (.inl e)),r⟩
   | dct ks xs=>cases h
 | _=>cases h
def Rep.free{d:D}(h:cB n d=true)(r:Rep K μ H v d):Rep K ⟨[],[]⟩ H v d:=
 Rep.to (P:=λd=>∃ n,cB n d=true) (λd ⟨n,h⟩ x hx=>by
  cases n with
  | zero=>cases d<;>first | (cases hx;done) | (simp[cB] at h;done)
  | succ n=>cases d<;>first | (cases hx;done) | exact⟨n,YO.mp h x hx⟩ | (simp[cB] at h;done)) (λh _=>⟨h,by simp,by simp⟩) (λ⟨n,h⟩=>by cases n<;>simp[cB] at h) r ⟨n,h⟩
theorem Reps.free{ds:List D}(h:ds.all (cB n)=true)(r:Reps K μ H vs ds):Reps K ⟨[],[]⟩ H vs ds:=Reps.to (P:=λd=>cB n d=true) (λr h=>Rep.free h r) r (YO.mp h)
noncomputable def on(S:ac):D->D
 | .ref r=>match S[r]? with | some (.lst xs)=>.lst xs | _=>.ref r
 | d=>d
def tF{d:D}(h:cB n d=true):on S d=d:=by
 cases d<;>first | rfl | (cases n<;>simp[cB] at h)
def qB{d:D}(s:SOk K μ S H)(r:Rep K μ H v d)(h:cB n (on S d)=true):Rep K ⟨[],[]⟩ H v (on S d):=by
 by_cases hd:on S d=d
 ·rw[hd] at h ⊢;exact Rep.free h r
 ·cases r with
  | @ref a i h'=>
   cases q:S[i]? with
   | none=>exact absurd (by simp only[on,q]) hd
   | some c=>
    cases c with
    | dct ks vs=>exact absurd (by simp only[on,q]) hd
    | lst xs=>
     have e:on S (.ref i)=.lst xs:=by simp only[on,q]
     rw[e] at h ⊢
     obtain⟨vs,e,r⟩:=s.cell i a _ h' q
     cases n with
     | zero=>simp[cB] at h
     | succ n=>exact .lst e ⟨by simp,by simp⟩ (Reps.free (n:=n) h r)
  | _=>exact absurd rfl hd
noncomputable def cy(S:ac)(x y:D):Option D:=if cB 40 (on S x)=true/\cB 40 (on S y)=true then U (.bl (jd (on S x) (on S y))) else Y
noncomputable def jo(S:ac)(x y:D):Option D:=if cB 40 (on S x)=true/\cB 40 (on S y)=true then U (.bl (!jd (on S x) (on S y))) else Y
theorem op_Eq(hu:X.A.units+64<cLine):OpR X (adc .Eq) (og X.K cy):=by
 intro pins s σ H x y v u Q I rx ry h
 obtain⟨μ,S,dx,dy,dz,hS,h1,h2,h3,post⟩:=h
 simp only[cy] at h3
 split at h3
 ·rename_i hk
  cases h3
  exact(eqRc I 40 X.A (by omega) hk.1 hk.2 (qB hS h1 hk.1) (qB hS h2 hk.2) rx ry).2 X.prog X.w X.xe _ ⟨.bl _,H,I,rfl,post.here hS (.bl _)⟩
 ·cases h3
def op_Ne(hu:X.A.units+64<cLine):OpR X (adc .NotEq) (og X.K jo):=by
 intro pins s σ H x y v u Q I rx ry h
 obtain⟨μ,S,dx,dy,dz,hS,h1,h2,h3,post⟩:=h
 simp only[jo] at h3
 split at h3
 ·rename_i hk
  cases h3
  exact neRc I 40 X.A (by omega) hk.1 hk.2 (qB hS h1 hk.1) (qB hS h2 hk.2) rx ry X.prog X.w X.xe _ ⟨.bl _,H,I,rfl,post.here hS (.bl _)⟩
 ·cases h3
open Classical in
def eL(K:adf)(μ:Fp)(H:Hp)(x:D)(u:gV):Bool:=decide (∃ v d,RelV v u/\Rep K μ H v d/\cB 39 d=true/\jd d x=true)
open Classical in
def qy{s:td}(I:Inv X pins σ H s){d:D}(rv:RelV v u)(r:Rep X.K μ H v d)(ok:cB 39 d=true):eL X.K μ H x u=jd d x:=by
 unfold eL
 cases e:jd d x with
 | true=>exact YM ⟨v,d,rv,r,ok,e⟩
 | false=>
  refine YK ?_
  rintro⟨v',d',rv',r',ok',e'⟩
  cases rv.inj rv'
  rw[Rep.inj I 39 ok ok' r r'] at e
  rw[e] at e';cases e'
theorem lx{s:td}(I:Inv X pins σ H s):∀ {vs:List V} {us:List gV} {ds:List D},Vals vs us->Reps X.K μ H vs ds->(∀ d∈ds,cB 39 d=true) ->
  us.any (eL X.K μ H x)=ds.any λd=>jd d x
 | _,_,_,.nil,.nil,_=>rfl
 | _,_,_,.cons rv tv,.cons r t,ok=>by
  rw[ZZ,ZZ,qy I rv r (ok _ YF),lx I tv t λd m=>ok d (YB _ m)]
theorem gz{s:td}(I:Inv X pins σ H s){A:Wr}(hu:A.units+40<cLine)(rx:RelV v u)(rD:Rep X.K μ H v x)(okx:cB 40 x=true) :
  ∀ {vs:List V} {us:List gV} {ds:List D},Vals vs us->Reps X.K μ H vs ds->(∀ d∈ds,cB 39 d=true)->∀ w∈us,SeqAt.EqAt A s w u (eL X.K μ H x w)
 | _,_,_,.nil,.nil,_=>λw hw=>by cases hw
 | _,_,_,.cons rv tv,.cons r t,ok=>λw hw=>by
  rcases Zd.mp hw with rfl | hw
  ·rw[qy I rv r (ok _ YF)]
   exact(eqRc I 40 A hu (ur (by decide) (ok _ YF)) okx r rD rv rx).1
  ·exact gz I hu rx rD okx tv t (λd m=>ok d (YB _ m)) w hw
noncomputable def pi(S:ac)(x y:D):Option D:=(jb S y).bind λds=>if cB 40 x=true/\ds.all (cB 39)=true then U (.bl (ds.any λd=>jd d x)) else Y
noncomputable def rq(S:ac)(x y:D):Option D:=(jb S y).bind λds=>if cB 40 x=true/\ds.all (cB 39)=true then U (.bl (!ds.any λd=>jd d x)) else Y
theorem op_In(hu:X.A.units+64<cLine):OpR X (adc .In) (og X.K pi):=by
 intro pins s σ H x y v u Q I rx ry h
 obtain⟨μ,S,dx,dy,dz,hS,h1,h2,h3,post⟩:=h
 obtain⟨ds,e,h3⟩:=Yx.mp h3
 split at h3
 ·rename_i hk
  cases h3
  obtain⟨a,vs,rfl,hq,r⟩:=kn hS h2 e
  cases ry
  have ok:=YO.mp hk.2
  rcases hq with hq | hq
  ·obtain⟨its,rv,pl,hz⟩:=I.list hq
   refine SeqAt.in_listAt (eL X.K μ H dx) pl.isList (λw hw=>gz I (by show X.A.units+1+40<cLine;omega) rx h1 hk.1 rv r ok w (by simpa using hw)) ⟨.bl _,H,I,rfl,?_⟩
   rw[show its.toArray.any (eL X.K μ H dx)=its.any (eL X.K μ H dx) by simp,lx I rv r ok]
   exact post.here hS (.bl _)
  ·obtain⟨its,rv,pl,hz⟩:=I.tuple hq
   refine SeqAt.in_tupleAt (eL X.K μ H dx) pl (λw hw=>gz I (by show X.A.units+1+40<cLine;omega) rx h1 hk.1 rv r ok w (by simpa using hw)) ⟨.bl _,H,I,rfl,?_⟩
   rw[show its.toArray.any (eL X.K μ H dx)=its.any (eL X.K μ H dx) by simp,lx I rv r ok]
   exact post.here hS (.bl _)
 ·cases h3
def MC(hu:X.A.units+64<cLine):OpR X (adc .NotIn) (og X.K rq):=by
 intro pins s σ H x y v u Q I rx ry h
 obtain⟨μ,S,dx,dy,dz,hS,h1,h2,h3,post⟩:=h
 obtain⟨ds,e,h3⟩:=Yx.mp h3
 split at h3
 ·rename_i hk
  cases h3
  obtain⟨a,vs,rfl,hq,r⟩:=kn hS h2 e
  cases ry
  have ok:=YO.mp hk.2
  rcases hq with hq | hq
  ·obtain⟨its,rv,pl,hz⟩:=I.list hq
   refine SeqAt.notIn_listAt (eL X.K μ H dx) pl.isList (λw hw=>gz I (by show X.A.units+1+40<cLine;omega) rx h1 hk.1 rv r ok w (by simpa using hw)) ⟨.bl _,H,I,rfl,?_⟩
   rw[show its.toArray.any (eL X.K μ H dx)=its.any (eL X.K μ H dx) by simp,lx I rv r ok]
   exact post.here hS (.bl _)
  ·obtain⟨its,rv,pl,hz⟩:=I.tuple hq
   refine SeqAt.notIn_tupleAt (eL X.K μ H dx) pl (λw hw=>gz I (by show X.A.units+1+40<cLine;omega) rx h1 hk.1 rv r ok w (by simpa using hw)) ⟨.bl _,H,I,rfl,?_⟩
   rw[show its.toArray.any (eL X.K μ H dx)=its.any (eL X.K μ H dx) by simp,lx I rv r ok]
   exact post.here hS (.bl _)
 ·cases h3
noncomputable def nQ:D->D->Bool
 | .non,.non=>true
 | .bl a,.bl b=>a==b
 | _,_=>false
noncomputable def Ee(S:ac)(x y:D):Option D:=match y with | .non=>U (.bl (nQ x y)) | .bl _=>U (.bl (nQ x y)) | _=>Y
noncomputable def ph(S:ac)(x y:D):Option D:=match y with | .non=>U (.bl (!nQ x y)) | .bl _=>U (.bl (!nQ x y)) | _=>Y
def NS(h1:Rep K μ H x dx)(h2:Rep K μ H y dy)(rx:RelV x v)(ry:RelV y u)(hy:dy=.non\/∃ b,dy=.bl b):plainIs v u=true/\(v==u)=nQ dx dy:=by
 rcases hy with rfl | ⟨b,rfl⟩
 ·cases h2;cases ry
  cases h1<;>first | (cases rx;exact⟨rfl,rfl⟩) | (obtain⟨t,rfl⟩:=rx;exact⟨rfl,rfl⟩)
 ·cases h2;cases ry
  cases h1<;>first | (cases rx;exact⟨rfl,rfl⟩) | (obtain⟨t,rfl⟩:=rx;exact⟨rfl,rfl⟩) | (cases rx;rename_i c;refine⟨rfl,?_⟩;cases b<;>cases c<;>rfl)
def op_Is:OpR X (adc .Is) (og X.K Ee):=by
 intro pins s σ H x y v u Q I rx ry h
 obtain⟨μ,S,dx,dy,dz,hS,h1,h2,h3,post⟩:=h
 have hy:(dy=.non\/∃ b,dy=.bl b)/\dz=.bl (nQ dx dy):=by
  cases dy<;>first | (cases h3;exact⟨.inl rfl,rfl⟩) | (cases h3;exact⟨.inr ⟨_,rfl⟩,rfl⟩) | cases h3
 obtain⟨p,e⟩:=NS h1 h2 rx ry hy.1
 cases hy.2
 exact wpAny_is_plain p ⟨.bl _,H,I,congrArg Value.bool e,post.here hS (.bl _)⟩
def MD:OpR X (adc .IsNot) (og X.K ph):=by
 intro pins s σ H x y v u Q I rx ry h
 obtain⟨μ,S,dx,dy,dz,hS,h1,h2,h3,post⟩:=h
 have hy:(dy=.non\/∃ b,dy=.bl b)/\dz=.bl (!nQ dx dy):=by
  cases dy<;>first | (cases h3;exact⟨.inl rfl,rfl⟩) | (cases h3;exact⟨.inr ⟨_,rfl⟩,rfl⟩) | cases h3
 obtain⟨p,e⟩:=NS h1 h2 rx ry hy.1
 cases hy.2
 exact wpAny_isNot_plain p ⟨.bl _,H,I,congrArg (λb=>Value.bool (!b)) e,post.here hS (.bl _)⟩
end
end M
namespace HT
section
variable{prog:Of}{w:RG}{A:Wr}{E:gV->td->Prop}{s:td}
def TF{ws:List gV}{Q:gV->td->Prop}(ht:IsTup s.heap t #[])(hb:IsTup s.heap b ws.toArray)(h:Q (.ref b) s):ade (model prog w) A (add .Add (.ref t) (.ref b)) Q E s:=by
 obtain⟨⟨cls,dd,data,sl⟩,ho,hc,n,hd⟩:=id ht
 obtain⟨⟨cls2,dd2,data2,sl2⟩,ho2,hc2,n2,hd2⟩:=id hb
 simp only at hc hd hc2 hd2
 subst hc hd hc2 hd2
 exact acu ⟨_,ho,rfl⟩ ⟨_,ho2,rfl⟩ abM ack abP abF (abz _ _)
   (tuple_addW0 t b #[] ws.toArray n n2 dd dd2 sl sl2 rfl) ⟨ho,ho2,h⟩
def om{lo:Option Int}{Q:gV->td->Prop}(ht:IsTup s.heap t items)(hs:s.heap.IsSliceOf sl vl vu .none)(pl:IsPart vl lo)(pu:IsPart vu hi)
  (hw:eY items.size 0 lo=0/\eY items.size items.size hi=items.size) (h:Q (.ref t) s):ade (model prog w) A (getItem (.ref t) (.ref sl)) Q E s:=by
 obtain⟨os,hos,hcs,hds⟩:=id hs
 have hTs:s.TypeIs (.ref sl) "slice":=⟨os,hos,hcs⟩
 unfold getItem
 try with_reducible refine ZL ?_
 first | refine Yy (YH ?_) | skip
 refine Yy (wpAny_sequenceKey ht.typeIs (by decide) ?_)
 refine Yy (ZM (name:=Str.ofString "__getitem__") ht.typeIs aae
  (aak aae ht.typeIs acJ ?_ (acO _ _)))
 show ade _ _ (Builtin.Tuple.tupleItemsOf (.ref t) >>= _) _ _ s
 refine Yy (tupleItemsOf_ ht ?_)
 refine Yy (acr hTs ?_)
 rw[YR (by decide)]
 refine Yy (kY hs pl pu ?_)
 have hyes:(((eY items.size 0 lo:Nat):Int)==0&&(1:Int)==1&&(eY items.size items.size hi - eY items.size 0 lo)==items.size)=true:=by
  rw[hw.1,hw.2];simp
 show ade _ _ (if (((eY items.size 0 lo:Nat):Int)==0&&(1:Int)==1&&(eY items.size items.size hi - eY items.size 0 lo)==items.size)=true then _ else _) _ _ s
 rw[YR hyes]
 unfold Builtin.Tuple.tupleIsExact
 refine Yy (Yy (acr ht.typeIs (YH ?_)))
 rw[YR (by decide)]
 exact Yy (abC (Yy (YH (YH ⟨_,rfl,YH h⟩))))
end
end HT
namespace M
open L2
section
variable{X:Cx}{K:adf}{μ μ':Fp}{H H':Hp}{S:ac}
noncomputable def JY(g:Int->Int->D)(S:ac)(x y:D):Option D:=match x,y with | .int i,.int j=>U (g i j) | _,_=>Y
noncomputable def Ds(C:Int->Int->Bool)(g:Int->Int->D)(S:ac)(x y:D):Option D:=match x,y with | .int i,.int j=>if C i j=true then U (g i j) else Y | _,_=>Y
def pP{g':Int->Int->D}(h:OpR X f (QN g))(hg:∀ i j μ H,Rep X.K μ H (g i j) (g' i j)):OpR X f (og X.K (JY g')):=
 OpR.imp h λx y H Q ⟨μ,S,dx,dy,dz,hS,h1,h2,h3,post⟩=>by
  cases dx<;>cases dy<;>first | cases h3 | skip
  exact⟨_,_,h1.int_inv,h2.int_inv,post.here hS (hg _ _ _ _)⟩
def zt{C':Int->Int->Bool}{g':Int->Int->D}(h:OpR X f (rI C g))(hC:∀ i j,C' i j=true->C i j)(hg:∀ i j μ H,Rep X.K μ H (g i j) (g' i j)):OpR X f (og X.K (Ds C' g')):=
 OpR.imp h λx y H Q ⟨μ,S,dx,dy,dz,hS,h1,h2,h3,post⟩=>by
  cases dx<;>cases dy<;>first | cases h3 | skip
  simp only[Ds] at h3
  split at h3
  ·rename_i hc
   cases h3
   exact⟨_,_,h1.int_inv,h2.int_inv,hC _ _ hc,post.here hS (hg _ _ _ _)⟩
  ·cases h3
noncomputable def rn:=JY λi j=>.int (i - j)
noncomputable def SC:=JY λi j=>.bl (decide (i<j))
noncomputable def Xo:=JY λi j=>.bl (decide (i<=j))
noncomputable def fGt:=JY λi j=>.bl (decide (j<i))
noncomputable def fGe:=JY λi j=>.bl (decide (j<=i))
def VY:OpR X (add .Sub) (og X.K rn):=pP VS λ_ _ _ _=>.int _
def op_Lt:OpR X (adc .Lt) (og X.K SC):=pP op_lt λ_ _ _ _=>.bl _
def op_Le:OpR X (adc .LtE) (og X.K Xo):=pP op_le λ_ _ _ _=>.bl _
def op_Gt:OpR X (adc .Gt) (og X.K fGt):=pP op_gt λ_ _ _ _=>.bl _
def op_Ge:OpR X (adc .GtE) (og X.K fGe):=pP op_ge λ_ _ _ _=>.bl _
noncomputable def lS:=Ds (λ_ j=>decide (0<j)) λi j=>.int (i%j)
noncomputable def JZ:=Ds (λ_ j=>decide (0<j)&&decide (j<1073741824)) λi j=>.int (i / j)
noncomputable def xj:=Ds (λi j=>decide (0<=j)&&decide (j<=1000000)&&decide (i.natAbs<2^64)) λi j=>.int (i^j.toNat)
def Wb:OpR X (add .Mod) (og X.K lS):=zt VW (λ_ _ h=>ZH h) λ_ _ _ _=>.int _
def Wc:OpR X (add .FloorDiv) (og X.K JZ):=zt Rz (λ_ _ h=>by simpa[CDiv] using h) λ_ _ _ _=>.int _
def VZ:OpR X (add .Pow) (og X.K xj):=zt VU (λi j h=>by
 simp only[YD,ZO] at h
 exact⟨h.1.1,h.1.2,h.2⟩) λ_ _ _ _=>.int _
noncomputable def pS(i j:Int):Bool:=decide (i.natAbs<18446744073709551616)||decide (j.natAbs<18446744073709551616)||(decide (i.natAbs<2^4000)&&decide (j.natAbs<2^4000))
def RJ(h:pS i j=true):IntMulOk i j:=by
 unfold pS at h
 simp only[aaW,YD,ZO] at h
 rcases h with (h | h) | h
 ·exact .of_left (ach (k:=64) (by omega))
 ·exact .of_right (ach (k:=64) (by omega))
 ·exact .of_bits (YW (ach (k:=4000) h.1) (by decide)) (YW (ach (k:=4000) h.2) (by decide))
def Ry:OpR X (add .Mult) (rI (λi j=>pS i j=true) λi j=>.int (i*j)):=opI λ_ _ _ _ _ _ _ hc q=>mul_int q (RJ hc)
noncomputable def Xm(S:ac)(x y:D):Option D:=match x,y with
 | .int i,.int j=>if pS i j=true then U (.int (i*j)) else Y
 | _,_=>Y
def Wa:OpR X (add .Mult) (og X.K Xm):=OpR.imp Ry λx y H Q ⟨μ,S,dx,dy,dz,hS,h1,h2,h3,post⟩=>by
 cases dx<;>cases dy<;>first | cases h3 | skip
 simp only[Xm] at h3
 split at h3
 ·rename_i hc
  cases h3
  exact⟨_,_,h1.int_inv,h2.int_inv,hc,post.here hS (.int _)⟩
 ·cases h3
noncomputable def OA(S:ac)(x y:D):Option D:=match x,y with
 | .int i,.int j=>U (.int (i+j))
 | .str i,.str j=>if i.length+j.length<=acY then U (.str (i++j)) else Y
 | .tup xs,.tup ys=>if xs.length+ys.length<=acY then U (.tup (xs++ys)) else Y
 | .lst xs,.lst ys=>if xs.length+ys.length<=acY then U (.lst (xs++ys)) else Y
 | _,_=>Y
theorem We:OpR X (add .Add) (og X.K OA):=by
 intro pins s σ H x y v u Q I rx ry h
 obtain⟨μ,S,dx,dy,dz,hS,h1,h2,h3,post⟩:=h
 cases dx<;>cases dy<;>first | cases h3 | skip
 case int.int i j=>exact VX pins s σ H x y v u Q I rx ry ⟨_,_,h1.int_inv,h2.int_inv,post.here hS (.int _)⟩
 case str.str i j=>
  simp only[OA] at h3
  split at h3
  ·rename_i hl;cases h3
   exact ES pins s σ H x y v u Q I rx ry ⟨_,_,h1.str_inv,h2.str_inv,hl,post.here hS (.str _)⟩
  ·cases h3
 case tup.tup xs ys=>
  simp only[OA] at h3
  split at h3
  ·rename_i hl;cases h3
   have h2':=h2
   have h1':=h1
   obtain⟨a,vs,rfl,q1,r1⟩:=h1.sqT
   obtain⟨b,ws,rfl,q2,r2⟩:=h2.sqT
   have e1:=r1.length
   have e2:=r2.length
   by_cases hv:vs=[]
   ·subst hv
    have hx:xs=[]:=ZR (by simpa using e1.symm)
    subst hx
    cases rx;cases ry
    obtain⟨its,rv,p1,_⟩:=I.tuple q1
    obtain⟨its2,rv2,p2,_⟩:=I.tuple q2
    have:its=[]:=rv.nil_iff.mpr rfl
    subst this
    exact HT.TF p1 p2 ⟨.ref b,H,I,rfl,post.here hS h2'⟩
   ·refine RA pins s σ H _ _ v u Q I rx ry ⟨a,b,vs,ws,rfl,rfl,q1,q2,hv,by omega,λhw=>?_,λhw p hp=>post.tup hS hp (r1.append r2)⟩
    subst hw
    have hy:ys=[]:=ZR (by simpa using e2.symm)
    subst hy
    rw[Zn] at post
    exact post.here hS h1'
  ·cases h3
 case lst.lst xs ys=>
  simp only[OA] at h3
  split at h3
  ·rename_i hl;cases h3
   obtain⟨a,vs,rfl,q1,n1,r1⟩:=h1.sqL
   obtain⟨b,ws,rfl,q2,n2,r2⟩:=h2.sqL
   have e1:=r1.length
   have e2:=r2.length
   exact ER pins s σ H _ _ v u Q I rx ry ⟨a,b,vs,ws,rfl,rfl,q1,q2,by omega,λp hp=>post.lst hS hp (r1.append r2)⟩
  ·cases h3
noncomputable def Vf:UnR X (unaryOp .USub) (rM1 X.K λ_ x=>match x with | .int i=>U (.int (-i)) | _=>Y):=UnR.imp Ve λx H Q ⟨μ,S,dx,dz,hS,h1,h3,post⟩=>by
 cases dx<;>first | cases h3 | skip
 exact⟨_,h1.int_inv,post.here hS (.int _)⟩
noncomputable def Ed(f:ac->D->Option D)(a:ME):ME:=λenv S=>(a env S).bind λp=>(f p.2 p.1).bind λz=>U (z,p.2)
def de_un(ho:UnR X (unaryOp op) (rM1 X.K f))(ha:DE X a ma):DE X (.UnaryOp op a pos) (Ed f ma):=
 PE.imp (pe_un ho ha) λσ H Q ⟨μ,S,env,d,S',hS,hE,hm,post⟩=>by
  obtain⟨⟨x,S1⟩,h1,hm⟩:=Yx.mp hm
  obtain⟨z,h2,hm⟩:=Yx.mp hm
  cases hm
  exact⟨μ,S,env,x,_,hS,hE,h1,λv H1 μ1 e1 s1 r1=>⟨μ1,_,x,_,s1,r1,h2,post.ext e1⟩⟩
def TW{d:D}(r:Reps K μ H vs ds)(h:mx ds i=U d):∃ v,mx vs i=U v/\Rep K μ H v d:=by
 unfold mx at h ⊢
 rw[r.length]
 obtain⟨j,h1,h2⟩:=Yx.mp h
 obtain⟨v,h3,h4⟩:=r.get h2
 exact⟨v,by rw[h1];exact h3,h4⟩
noncomputable def fIx(S:ac)(x y:D):Option D:=match y with | .int i=>(jb S x).bind λxs=>mx xs i | _=>Y
def ix_D:IxR X (og X.K fIx):=IxR.imp (ix_list.or WU) λx y H Q ⟨μ,S,dx,dy,dz,hS,h1,h2,h3,post⟩=>by
 cases dy<;>first | cases h3 | skip
 rename_i i
 obtain⟨xs,e,h3⟩:=Yx.mp h3
 obtain⟨a,vs,rfl,hq,r⟩:=kn hS h1 e
 obtain⟨v,h4,h5⟩:=TW r h3
 rcases hq with hq | hq
 ·exact .inl ⟨a,vs,i,v,rfl,h2.int_inv,hq,h4,post.here hS h5⟩
 ·exact .inr ⟨a,vs,i,v,rfl,h2.int_inv,hq,h4,post.here hS h5⟩
noncomputable def je{α:Type}(xs:List α)(lo hi:Option Int):List α:=(xs.drop (HT.eY xs.length 0 lo)).take (HT.eY xs.length xs.length hi - HT.eY xs.length 0 lo)
abbrev MO:=bh->ac->Option (Option Int×ac)
noncomputable def bJ:MO:=λ_ S=>U (Y,S)
noncomputable def cx(m:ME):MO:=λenv S=>(m env S).bind λp=>match p.1 with | .int i=>U (U i,p.2) | _=>Y
inductive tMO(K:adf)(m:MO)(σ:L2.St)(H:Hp)(Q:Option Int->Hp->Prop):Prop
 | mk (μ:Fp) (S:ac) (env:bh) (o:Option Int) (S':ac) (hS:SOk K μ S H) (hE:EOk K μ H σ env) (h:m env S=U (o,S')) (post:∀ H' μ',Ext μ H μ' H'->SOk K μ' S' H'->Q o H')
def DO(X:Cx)(e:Option Nl)(m:MO):Prop:=PO X e (tMO X.K m)
def PO.imp{t':TO}(h:PO X e t)(i:∀ σ H Q,t' σ H Q->t σ H Q):PO X e t':=λpins s σ H Q I q=>h pins s σ H Q I (i σ H Q q)
def Td:DO X Y bJ:=PO.imp Rc λσ H Q ⟨μ,S,env,d,S',hS,hE,hm,post⟩=>by cases hm;exact post H μ hS.ext hS
def Tc(h:DE X e m):DO X (U e) (cx m):=PO.imp (Rb h) λσ H Q ⟨μ,S,env,d,S',hS,hE,hm,post⟩=>by
 obtain⟨⟨x,S1⟩,h1,hm⟩:=Yx.mp hm
 cases x<;>first | cases hm | skip
 exact⟨μ,S,env,_,_,hS,hE,h1,λv H1 μ1 e1 s1 r1=>⟨_,r1.int_inv,post H1 μ1 e1 s1⟩⟩
noncomputable def bI(a:ME)(lo hi:MO):ME:=λenv S=>(a env S).bind λp=>(lo env p.2).bind λl=>(hi env l.2).bind λh=>match p.1 with
 | .tup xs=>U (.tup (je xs l.1 h.1),h.2)
 | .lst xs=>U (.lst (je xs l.1 h.1),h.2)
 | .rol xs=>U (.lst (je xs l.1 h.1),h.2)
 | .ref r=>match h.2[r]? with | some (.lst xs)=>U (.lst (je xs l.1 h.1),h.2) | _=>Y
 | _=>Y
def tH{lo:Option Int}(r:Reps K μ H vs ds):Reps K μ H (DH vs lo hi) (je ds lo hi):=by
 unfold DH je
 rw[r.length]
 exact(r.drop _).take _
def QD:SlR X (λx lo hi H Q=>∃ a xs,x=.ref a/\lZ X.K H a xs/\(HT.eY xs.length 0 lo=0/\HT.eY xs.length xs.length hi=xs.length)/\Q (.ref a) H):=by
 intro pins s σ H x v vl vu lo hi sl Q I rx hs pl pu h
 obtain⟨a,xs,rfl,hx,hw,q⟩:=h
 cases rx
 obtain⟨its,r,ht,hz⟩:=I.tuple hx
 have hlen:its.toArray.size=xs.length:=by rw[YC];exact r.length.symm
 refine⟨"tuple",_,PyProof.Rows.slot_tuple_getitem.lookup,ht.typeIs,?_⟩
 exact HT.om ht hs pl pu (by rw[hlen];exact hw) ⟨.ref a,H,I,rfl,q⟩
def Py{lo:Option Nl}(ha:DE X a ma)(hl:DO X lo ml)(hh:DO X hi mh):DE X (.Subscript a (.Slice lo hi Y p2) pos) (bI ma ml mh):=
 PE.imp (Mr (SlR.or QD (SlR.or Vp QE)) ha hl hh) λσ H Q ⟨μ,S,env,d,S',hS,hE,hm,post⟩=>by
  obtain⟨⟨x,S1⟩,h1,hm⟩:=Yx.mp hm
  obtain⟨⟨l,S2⟩,h2,hm⟩:=Yx.mp hm
  obtain⟨⟨h,S3⟩,h3,hm⟩:=Yx.mp hm
  refine⟨μ,S,env,x,S1,hS,hE,h1,λv H1 μ1 e1 s1 r1=>⟨μ1,S1,env,l,S2,s1,hE.mono e1,h2,λH2 μ2 e2 s2=>⟨μ2,S2,env,h,S3,s2,(hE.mono e1).mono e2,h3,λH3 μ3 e3 s3=>?_⟩⟩⟩
  have r3:=(r1.mono e2).mono e3
  have e:=(e1.trans e2).trans e3
  cases x with
  | tup xs=>
   cases hm
   have r3':=r3
   obtain⟨a,vs,rfl,q1,r⟩:=r3.sqT
   by_cases hw:HT.eY vs.length 0 l=0/\HT.eY vs.length vs.length h=vs.length
   ·refine .inl ⟨a,vs,rfl,q1,hw,?_⟩
    have:je xs l h=xs:=by unfold je;rw[<- r.length,hw.1,hw.2];simp[r.length]
    rw[this] at post
    exact post _ H3 μ3 e s3 r3'
   ·exact .inr (.inl ⟨a,vs,rfl,q1,hw,λp hp=>(post.ext e).tup s3 hp (tH r)⟩)
  | lst xs=>
   cases hm
   obtain⟨a,vs,rfl,q1,n1,r⟩:=r3.sqL
   exact .inr (.inr ⟨a,vs,rfl,.inl (.inl q1),λp hp=>(post.ext e).lst s3 hp (tH r)⟩)
  | rol xs=>
   cases hm
   obtain⟨a,vs,rfl,q1,r⟩:=r3.sqR
   exact .inr (.inr ⟨a,vs,rfl,q1,λp hp=>(post.ext e).lst s3 hp (tH r)⟩)
  | ref r=>
   dsimp only at hm
   split at hm
   ·rename_i xs q
    cases hm
    cases r3 with
    | @ref a _ ha=>
     obtain⟨vs,hv,rv⟩:=s3.cell r a _ ha q
     exact .inr (.inr ⟨a,vs,rfl,.inl (.inl hv),λp hp=>(post.ext e).lst s3 hp (tH rv)⟩)
   ·cases hm
  | _=>cases hm
end
section
variable{X:Cx}{K:adf}{μ μ':Fp}{H H':Hp}{S:ac}
noncomputable def bw(f:List D->ac->Option (D×ac))(ms:MA):ME:=λenv S=>(ms env S).bind λp=>f p.1 p.2
def Ly(h:tM K (bw f ms) σ H Q):tCB (Lb K f) (tMA K ms) σ H Q:=by
 obtain⟨μ,S,env,d,S',hS,hE,hm,post⟩:=h
 obtain⟨⟨xs,S1⟩,h1,hm⟩:=Yx.mp hm
 exact⟨μ,S,env,xs,S1,hS,hE,h1,λvs H1 μ1 e1 s1 r1=>⟨μ1,S1,xs,d,S',s1,r1,hm,post.ext e1⟩⟩
section
variable{x:Str}{p pos:Pos}{e:Nl}{es:List Nl}{ms:MA}{id T:String}{f:List D->ac->Option (D×ac)}
noncomputable def nq(hc:CallR X (.builtin id) (Lb X.K f))(hm:X.mg x=Y)(hv:bootBuiltins x=U (.builtin id))(ha:DA X (e::es) ms)(hg:Gl X x)(hn:x≠"__name__")(hdb:(x==("__debug__":Str))=false)
  (he:acZ (e::es) X.env=(false,eval e X.env)::acZ es X.env) (hpl:(backTo pos (acZ es X.env)).any (·.1)=false):DE X (.Call (.Name x p) (e::es) [] pos) (bw f ms):=
 PE.imp (pO hc hg hm hv ha hn hdb he hpl) λ_ _ _ h=>Ly h
noncomputable def rG(hc:CallR X (.type T) (Lb X.K f))(hm:X.mg x=Y)(hv:bootBuiltins x=U (.type T))(ha:DA X (e::es) ms)(hg:Gl X x)(hn:x≠"__name__")(hdb:(x==("__debug__":Str))=false)
  (he:acZ (e::es) X.env=(false,eval e X.env)::acZ es X.env) (hpl:(backTo pos (acZ es X.env)).any (·.1)=false):DE X (.Call (.Name x p) (e::es) [] pos) (bw f ms):=
 PE.imp (Jb hc hg hm hv ha hn hdb he hpl) λ_ _ _ h=>Ly h
end
def Reps.one{d:D}(r:Reps K μ H vs [d]):∃ v,vs=[v]/\Rep K μ H v d:=by
 cases r with
 | cons h t=>cases t;exact⟨_,rfl,h⟩
def Reps.two{d e:D}(r:Reps K μ H vs [d,e]):∃ v w,vs=[v,w]/\Rep K μ H v d/\Rep K μ H w e:=by
 cases r with
 | cons h t=>cases t with | cons h' t=>cases t;exact⟨_,_,rfl,h,h'⟩
noncomputable def aU(f:ac->List D->Option D):List D->ac->Option (D×ac):=λds S=>(f S ds).bind λd=>U (d,S)
def dN{S S':ac}{d:D}(h:aU f ds S=U (d,S')):S'=S/\f S ds=U d:=by
 obtain⟨z,h1,h⟩:=Yx.mp h
 cases h
 exact⟨rfl,h1⟩
noncomputable def iF(S:ac):List D->Option D
 | [.str z]=>if z.length<=acY then U (.int z.length) else Y
 | [d]=>(jb S d).bind λxs=>U (.int xs.length)
 | _=>Y
def PX:CallR X (.builtin "len") (Lb X.K (aU iF)):=CallR.imp (call_len_seq.or AI) λxs H Q ⟨μ,S,ds,d,S',hS,hr,hm,post⟩=>by
 obtain⟨rfl,hm⟩:=dN hm
 match ds,hr,hm with
 | [D.str z],hr,hm=>
  obtain⟨v,rfl,r⟩:=hr.one
  simp only[iF] at hm
  split at hm
  ·rename_i hl;cases hm;exact .inr ⟨z,by rw[r.str_inv],hl,post.here hS (.int _)⟩
  ·cases hm
 | [D.non],hr,hm=>cases hm
 | [D.bl _],hr,hm=>cases hm
 | [D.int _],hr,hm=>cases hm
 | [D.dct _ _],hr,hm=>cases hm
 | [D.tup xs],hr,hm=>
  obtain⟨v,rfl,r⟩:=hr.one
  cases hm
  obtain⟨a,vs,rfl,hq,r⟩:=kn hS r rfl
  exact .inl ⟨a,vs,rfl,hq,by rw[r.length];exact post.here hS (.int _)⟩
 | [D.lst xs],hr,hm=>
  obtain⟨v,rfl,r⟩:=hr.one
  cases hm
  obtain⟨a,vs,rfl,hq,r⟩:=kn hS r rfl
  exact .inl ⟨a,vs,rfl,hq,by rw[r.length];exact post.here hS (.int _)⟩
 | [D.rol xs],hr,hm=>
  obtain⟨v,rfl,r⟩:=hr.one
  cases hm
  obtain⟨a,vs,rfl,hq,r⟩:=kn hS r rfl
  exact .inl ⟨a,vs,rfl,hq,by rw[r.length];exact post.here hS (.int _)⟩
 | [D.ref i],hr,hm=>
  obtain⟨v,rfl,r⟩:=hr.one
  obtain⟨xs,h1,hm⟩:=Yx.mp hm
  cases hm
  obtain⟨a,vs,rfl,hq,r⟩:=kn hS r h1
  exact .inl ⟨a,vs,rfl,hq,by rw[r.length];exact post.here hS (.int _)⟩
 | [],hr,hm=>cases hm
 | a::b::c,hr,hm=>simp[iF] at hm
noncomputable def kD(S:ac):List D->Option D
 | [.int i]=>U (.int i)
 | [.bl k]=>U (.int (if k then 1 else 0))
 | _=>Y
def PY:CallR X (.type "int") (Lb X.K (aU kD)):=CallR.imp KM λxs H Q ⟨μ,S,ds,d,S',hS,hr,hm,post⟩=>by
 obtain⟨rfl,hm⟩:=dN hm
 match ds,hr,hm with
 | [D.int i],hr,hm=>obtain⟨v,rfl,r⟩:=hr.one;cases hm;exact .inl ⟨i,by rw[r.int_inv],post.here hS (.int _)⟩
 | [D.bl k],hr,hm=>obtain⟨v,rfl,r⟩:=hr.one;cases hm;exact .inr ⟨k,by rw[r.bl_inv],post.here hS (.int _)⟩
 | [D.non],hr,hm=>cases hm
 | [D.str _],hr,hm=>cases hm
 | [D.dct _ _],hr,hm=>cases hm
 | [D.tup _],hr,hm=>cases hm
 | [D.lst _],hr,hm=>cases hm
 | [D.rol _],hr,hm=>cases hm
 | [D.ref _],hr,hm=>cases hm
 | [],hr,hm=>cases hm
 | a::b::c,hr,hm=>simp[kD] at hm
noncomputable def UM(S:ac):List D->Option D
 | [.int i,.int j]=>U (.int (if j>i then j else i))
 | _=>Y
noncomputable def HS(S:ac):List D->Option D
 | [.int i,.int j]=>U (.int (if j<i then j else i))
 | _=>Y
def UI{ds:List D}{f:Int->Int->D}{d:D}(h:(match ds with | [.int i,.int j]=>U (f i j) | _=>Y)=U d):∃ i j,ds=[.int i,.int j]/\d=f i j:=by
 split at h
 ·cases h;exact⟨_,_,rfl,rfl⟩
 ·cases h
def KP(hc:X.calm=true):CallR X (.builtin "max") (Lb X.K (aU UM)):=CallR.imp (KL hc) λxs H Q ⟨μ,S,ds,d,S',hS,hr,hm,post⟩=>by
 obtain⟨rfl,hm⟩:=dN hm
 obtain⟨i,j,rfl,rfl⟩:=UI (f:=λi j=>.int (if j>i then j else i)) hm
 obtain⟨v,w,rfl,r1,r2⟩:=hr.two
 exact⟨i,j,by rw[r1.int_inv,r2.int_inv],post.here hS (.int _)⟩
def KN(hc:X.calm=true):CallR X (.builtin "min") (Lb X.K (aU HS)):=CallR.imp (KI hc) λxs H Q ⟨μ,S,ds,d,S',hS,hr,hm,post⟩=>by
 obtain⟨rfl,hm⟩:=dN hm
 obtain⟨i,j,rfl,rfl⟩:=UI (f:=λi j=>.int (if j<i then j else i)) hm
 obtain⟨v,w,rfl,r1,r2⟩:=hr.two
 exact⟨i,j,by rw[r1.int_inv,r2.int_inv],post.here hS (.int _)⟩
noncomputable def cR(c:List D->D)(S:ac):List D->Option D
 | [d]=>(jb S d).bind λxs=>U (c xs)
 | _=>Y
def vL{S:ac}{d:D}(h:cR c S ds=U d):∃ x xs,ds=[x]/\jb S x=U xs/\d=c xs:=by
 match ds,h with
 | [x],h=>
  obtain⟨xs,h1,h⟩:=Yx.mp h
  cases h
  exact⟨x,xs,rfl,h1,rfl⟩
 | [],h=>cases h
 | _::_::_,h=>cases h
def KQ:CallR X (.type "list") (Lb X.K (aU (cR .lst))):=CallR.imp AH λxs H Q ⟨μ,S,ds,d,S',hS,hr,hm,post⟩=>by
 obtain⟨rfl,hm⟩:=dN hm
 obtain⟨x,ys,rfl,h1,rfl⟩:=vL hm
 obtain⟨v,rfl,r⟩:=hr.one
 obtain⟨a,vs,rfl,hq,r⟩:=kn hS r h1
 exact⟨a,vs,rfl,hq,λl hl=>post.lst hS hl r⟩
def GD:CallR X (.type "tuple") (Lb X.K (aU (cR .tup))):=CallR.imp xp λxs H Q ⟨μ,S,ds,d,S',hS,hr,hm,post⟩=>by
 obtain⟨rfl,hm⟩:=dN hm
 obtain⟨x,ys,rfl,h1,rfl⟩:=vL hm
 obtain⟨v,rfl,r⟩:=hr.one
 cases x with
 | tup zs=>
  cases h1
  have r':=r
  obtain⟨a,vs,rfl,q,r⟩:=r.sqT
  exact⟨a,vs,rfl,.inr ⟨q,post.here hS r'⟩⟩
 | lst zs=>
  cases h1
  obtain⟨a,vs,rfl,q,n,r⟩:=r.sqL
  exact⟨a,vs,rfl,.inl ⟨.inl (.inl q),λl hl=>post.tup hS hl r⟩⟩
 | rol zs=>
  cases h1
  obtain⟨a,vs,rfl,q,r⟩:=r.sqR
  exact⟨a,vs,rfl,.inl ⟨q,λl hl=>post.tup hS hl r⟩⟩
 | ref i=>
  simp only[jb] at h1
  cases r with
  | @ref a _ h'=>
   cases q:S'[i]? with
   | none=>rw[q] at h1;cases h1
   | some c=>
    rw[q] at h1
    have ck:=hS.cell i a c h' q
    cases c with
    | lst xs=>cases h1;obtain⟨vs,e,r⟩:=ck;exact⟨a,vs,rfl,.inl ⟨.inl (.inl e),λl hl=>post.tup hS hl r⟩⟩
    | dct ks xs=>cases h1
 | _=>cases h1
noncomputable def iG:List D->Option (List Bool)
 | []=>U []
 | .bl b::r=>(iG r).bind λbs=>U (b::bs)
 | _=>Y
noncomputable def vP(S:ac):List D->Option D
 | [.lst xs]=>(iG xs).bind λbs=>U (.bl (bs.all id))
 | _=>Y
noncomputable def SG(S:ac):List D->Option D
 | [.lst xs]=>(iG xs).bind λbs=>U (.bl (bs.any id))
 | _=>Y
theorem nA:∀ {vs:List V} {ds:List D} {us:List gV} {bs:List Bool},Reps K μ H vs ds->Vals vs us->iG ds=U bs->LSm.BoolsAre us bs
 | _,_,_,_,.nil,.nil,h=>by cases h;exact .nil
 | _,_,_,_,.cons (d:=d) r t,.cons rv tv,h=>by
  cases d<;>first | cases h | skip
  obtain⟨cs,h1,h⟩:=Yx.mp h
  cases h
  cases r;cases rv
  exact .cons _ (nA t tv h1)
def Qa(hc:X.calm=true):CallR X (.builtin "all") (Lb X.K (aU vP)):=by
 intro pins s σ H xs us Q I rv h
 obtain⟨μ,S,ds,d,S',hS,hr,hm,post⟩:=h
 obtain⟨rfl,hm⟩:=dN hm
 match ds,hr,hm with
 | [D.lst zs],hr,hm=>
  obtain⟨v,rfl,r⟩:=hr.one
  obtain⟨bs,h1,hm⟩:=Yx.mp hm
  cases hm
  obtain⟨u,rfl,ru⟩:=pF rv
  obtain⟨a,vs,rfl,q,n,r⟩:=r.sqL
  cases ru
  obtain⟨its,rv',pl,hz⟩:=I.list (.inl (.inl q))
  have hl:=pl.isList
  have hb:=nA r rv' h1
  have hlt:a<s.heap.objs.size:=by obtain⟨_,e,_⟩:=hl;exact YI e
  refine call_all_walk (aaZ hl ?_)
  refine⟨s.heap.objs.size,[s.heap.objs.size,a],[s.heap.objs.size],its.toArray.size,_,_,λi=>(bs[i]?).getD true,rfl,Walks.list (A:=X.A.in1) (I.ok.hd hc) _ a (Zi hlt) its.toArray,
   ⟨⟨_,YN _ rfl,rfl,rfl⟩,hl.push _⟩,λi v s' Q' E' hP hQ=>?_,λh' tk hk=>?_⟩
  ·obtain⟨b,e,rfl⟩:=hb.get i v (by simpa using hP)
   simp only[e,abN] at hQ
   exact aab hQ
  ·have e:((List.range its.toArray.size).all λi=>(bs[i]?).getD true)=bs.all id:=by
    rw[YC,hb.length];exact LSm.range_all bs
   rw[e]
   exact⟨.bl _,H,I.kept (LSm.kept_iter hk),rfl,post.here hS (.bl _)⟩
 | [D.non],hr,hm=>cases hm
 | [D.bl _],hr,hm=>cases hm
 | [D.int _],hr,hm=>cases hm
 | [D.str _],hr,hm=>cases hm
 | [D.dct _ _],hr,hm=>cases hm
 | [D.tup _],hr,hm=>cases hm
 | [D.rol _],hr,hm=>cases hm
 | [D.ref _],hr,hm=>cases hm
 | [],hr,hm=>cases hm
 | a::b::c,hr,hm=>simp[vP] at hm
noncomputable def tyD(S:ac):D->Option String
 | .non=>U "NoneType"
 | .bl _=>U "bool"
 | .int _=>U "int"
 | .str _=>U "str"
 | .tup _=>U "tuple"
 | .lst _=>U "list"
 | .rol _=>U "list"
 | .dct _ _=>U "dict"
 | .ref r=>match S[r]? with | some (.lst _)=>U "list" | some (.dct _ _)=>U "dict" | none=>Y
 | .txt=>U "str"
 | .obj=>U "dict"
 | .exc _ _ _=>Y
noncomputable def NO(T:String)(t:String):Bool:=t==T||(t=="bool"&&T=="int")
noncomputable def kg(T:String)(S:ac)(d:D):Option D:=(tyD S d).bind λt=>U (.bl (NO T t))
noncomputable def eG(T:String)(m:ME):ME:=λenv S=>(m env S).bind λp=>(kg T p.2 p.1).bind λd=>U (d,p.2)
def IC{S:ac}{d:D}{t:String}(h:tyD S d=U t):t = "NoneType"\/t = "bool"\/t = "int"\/t = "str"\/t = "tuple"\/t = "list"\/t = "dict":=by
 cases d<;>simp only[tyD] at h<;>first | (cases h;simp) | (split at h<;>first | (cases h;simp) | cases h) | cases h
def RS(K:adf){T t:String}(hT:T = "int"\/T = "bool"\/T = "str"\/T = "tuple"\/T = "list"\/T = "dict")(ht:t = "NoneType"\/t = "bool"\/t = "int"\/t = "str"\/t = "tuple"\/t = "list"\/t = "dict") :
  W.kitOne K (.type t) (.type T)=U (NO T t):=by
 rcases hT with rfl | rfl | rfl | rfl | rfl | rfl<;>rcases ht with rfl | rfl | rfl | rfl | rfl | rfl | rfl<;>rfl
def kia_D{s:td}{d:D}{t:String}{b:Bool}{Q:gV->td->Prop}(I:Inv X pins σ H s)(hS:SOk X.K μ S H)(r:Rep X.K μ H v d)(ru:RelV v u)(ht:tyD S d=U t)
  (e:W.kitOne X.K (.type t) c=U b) (h:∀ tk,Q (.bool b) { s with toks:=tk }):ade (model X.prog X.w) X.A (call (.builtin "isinstance") [u,c]) Q E s:=by
 have tupK:∀ {a:tx} {vs:List V},lZ X.K H a vs->W.KitAt a "tuple" s.heap:=λ{a vs} q=>by
  obtain⟨its,_,⟨o,h1,h2,_⟩,_⟩:=I.tuple q;exact⟨o,h1,h2⟩
 have lstK:∀ {a:tx} {vs:List V},pz X.K H a vs->W.KitAt a "list" s.heap:=λ{a vs} q=>by
  obtain⟨its,_,⟨o,n,h1,h2,_⟩,_⟩:=I.list q;exact⟨o,h1,h2⟩
 have dK:∀ {a:tx} {kvs:List (bD×V)},H a=U (.dK kvs)->W.KitAt a "dict" s.heap:=λ{a kvs} q=>by
  obtain⟨_,_,vs,_,p⟩:=(show ObjOk X.prog X.w H s.heap a (.dK kvs) from I.hok a _ q)
  obtain⟨o,es,ep,h1,h2,_⟩:=p
  exact⟨o,h1,h2.1⟩
 cases r with
 | non=>cases ht;cases ru;exact aad W.kitx_none I.kIn True.intro e (λz=>nomatch z) h
 | bl y=>cases ht;cases ru;exact aad W.kitx_bool I.kIn True.intro e (λz=>nomatch z) h
 | int i=>cases ht;obtain⟨t,rfl⟩:=ru;exact aad W.kitx_int I.kIn True.intro e (λz=>nomatch z) h
 | str y=>cases ht;obtain⟨t,rfl⟩:=ru;exact aad W.kitx_str I.kIn True.intro e (λz=>nomatch z) h
 | tup q n r=>cases ht;cases ru;exact aad W.kitx_tuple I.kIn (tupK (.inl (.inl q))) e (λz=>nomatch z) h
 | ktup q r=>cases ht;cases ru;exact aad W.kitx_tuple I.kIn (tupK (.inr q)) e (λz=>nomatch z) h
 | lst q n r=>cases ht;cases ru;exact aad abV I.kIn (lstK (.inl (.inl q))) e (λz=>nomatch z) h
 | rol q n r=>cases ht;cases ru;exact aad abV I.kIn (lstK (.inl q)) e (λz=>nomatch z) h
 | krol q r=>cases ht;cases ru;exact aad abV I.kIn (lstK (.inr q)) e (λz=>nomatch z) h
 | dct q n r=>cases ht;cases ru;exact aad acK I.kIn (dK q) e (λz=>nomatch z) h
 | txt y=>cases ht;obtain⟨t,rfl⟩:=ru;exact aad W.kitx_str I.kIn True.intro e (λz=>nomatch z) h
 | obj q n=>cases ht;cases ru;exact aad acK I.kIn ((show ObjOk X.prog X.w H s.heap _ (.ext (UH _)) from I.hok _ _ q).1) e (λz=>nomatch z) h
 | exc q n q2 n2=>cases ht
 | @ref a i h'=>
  cases ru
  simp only[tyD] at ht
  cases q:S[i]? with
  | none=>rw[q] at ht;cases ht
  | some c'=>
   rw[q] at ht
   have ck:=hS.cell i a c' h' q
   cases c' with
   | lst xs=>cases ht;obtain⟨vs,q,r⟩:=ck;exact aad abV I.kIn (lstK (.inl (.inl q))) e (λz=>nomatch z) h
   | dct ks xs=>cases ht;obtain⟨kvs,q,r⟩:=ck;exact aad acK I.kIn (dK q) e (λz=>nomatch z) h
noncomputable def Kx{p:Pos}(hm:X.mg "isinstance" = Y)(hmT:X.mg x=Y)(hb:bootBuiltins x=U (.type T))(ha:DE X a ma)
  (hT:T = "int"\/T = "bool"\/T = "str"\/T = "tuple"\/T = "list"\/T = "dict":=by simp)
  (hg:Gl X "isinstance") (hgT:Gl X x) (hn:x≠"__name__") (hd:(x==("__debug__":Str))=false)
  (hs1:acZ [a,.Name x p2] X.env=(false,eval a X.env)::acZ [.Name x p2] X.env) (hs2:acZ [.Name x p2] X.env=(false,eval (.Name x p2) X.env)::acZ [] X.env) (hpl:(backTo pos (acZ [.Name x p2] X.env)).any (·.1)=false) :
  DE X (.Call (.Name "isinstance" p) [a,.Name x p2] [] pos) (eG T ma):=by
 have hc:CallR X (.builtin "isinstance") (λvs H Q=>∃ v μ S d t,vs=[v,.ty T]/\SOk X.K μ S H/\Rep X.K μ H v d/\tyD S d=U t/\Q (.bl (NO T t)) H):=by
  intro pins s σ H xs us Q I rv h
  obtain⟨v,μ,S,d,t,rfl,hS,r,ht,q⟩:=h
  obtain⟨u,w',rfl,r1,r2⟩:=Bc rv
  cases r2
  exact kia_D I hS r r1 ht (RS _ hT (IC ht)) λtk=>⟨.bl _,H,I.tok _,rfl,q⟩
 refine PE.imp (pO hc hg hm abU (ko ha (ko (GY (v:=.ty T) hgT hmT hb rfl hn hd) uh hs2) hs1) (by decide) (by decide) hs1 hpl) λσ H Q ⟨μ,S,env,d,S',hS,hE,hm,post⟩=>?_
 obtain⟨⟨x,S1⟩,h1,hm⟩:=Yx.mp hm
 obtain⟨z,h2,hm⟩:=Yx.mp hm
 cases hm
 obtain⟨t,h3,h2⟩:=Yx.mp h2
 cases h2
 exact⟨μ,S,env,x,S1,hS,hE,h1,λv H1 μ1 e1 s1 r1=>⟨v,μ1,S1,x,t,rfl,s1,r1,h3,post _ H1 μ1 e1 s1 (.bl _)⟩⟩
end
section
variable{X:Cx}{K:adf}{μ μ':Fp}{H H':Hp}{S:ac}
def LK(K:adf)(n:Nat)(f:List D->ac->Option (D×ac)):Sp:=λvs H Q _=>∃ μ S ds d S',SOk K μ S H/\Reps K μ H vs ds/\ds.length=n/\f ds S=U (d,S')/\Post K μ H S' d Q
structure Fn(P:Of)(w:RG)(K:adf)(mg:Str->Option gV)(base:Ws)(k:Nat)(x:Str)(n:Nat)(f:List D->ac->Option (D×ac)):Prop where
 ex:∃ (a:tx) (fd:FuncData) (ps:List Str),ps.length=n/\FnOk P w K mg base Eb k a fd ps (LK K n f)/\mg x=U (.ref a)/\W.keepIn K (.ref a)=true/\Binds K fd ps []
noncomputable def aw(n:Nat)(f:List D->ac->Option (D×ac))(ms:MA):ME:=λenv S=>(ms env S).bind λp=>if p.1.length=n then f p.1 p.2 else Y
def Bi(h:tM K (aw n f ms) σ H Q):xB (LK K n f) [] E0 (tMA K ms) σ H Q:=by
 obtain⟨μ,S,env,d,S',hS,hE,hm,post⟩:=h
 obtain⟨⟨xs,S1⟩,h1,hm⟩:=Yx.mp hm
 dsimp only at hm
 split at hm
 ·rename_i hn
  refine⟨μ,S,env,xs,S1,hS,hE,h1,λvs H1 μ1 e1 s1 r1=>?_⟩
  show LK K n f (vs++[]) H1 Q E0
  rw[Zn]
  exact⟨μ1,S1,xs,d,S',s1,r1,hn,hm,post.ext e1⟩
 ·cases hm
noncomputable def Tt{k:Nat}{e:Nl}{es:List Nl}(F:Fn X.prog X.w X.K X.mg X.base k x n f)(hr:Room k X.A)(ha:DA X (e::es) ms)(hg:Gl X x)
  (hdb:(x==("__debug__":Str))=false) (he:acZ (e::es) X.env=(false,eval e X.env)::acZ es X.env) (hpl:(backTo pos (acZ es X.env)).any (·.1)=false) :
  DE X (.Call (.Name x p) (e::es) [] pos) (aw n f ms):=by
 obtain⟨a,fd,ps,hn,F,hm,hk,hb⟩:=F.ex
 exact PE.imp (Rp F hr hg hm hk hb .nil MB ha hdb he hpl) λ_ _ _ h=>Bi h
noncomputable def PK{k:Nat}(F:Fn X.prog X.w X.K X.mg X.base k x 0 f)(hr:Room k X.A)(hg:Gl X x)
  (hdb:(x==("__debug__":Str))=false):DE X (.Call (.Name x p) [] [] pos) (aw 0 f ai):=by
 obtain⟨a,fd,ps,hn,F,hm,hk,hb⟩:=F.ex
 refine PE.imp (Mz F hr hg hm hk hb .nil MB hdb) λσ H Q h=>?_
 obtain⟨μ,S,env,d,S',hS,hE,hm,post⟩:=h
 exact⟨μ,S,[],d,S',hS,.nil,rfl,hm,post⟩
mutual
noncomputable def qC(n:Nat):D->Bool
 | .tup xs=>closDs n xs
 | .lst xs=>closDs n xs
 | .rol xs=>closDs n xs
 | .dct _ xs=>closDs n xs
 | .ref r=>decide (r<n)
 | _=>true
noncomputable def closDs(n:Nat):List D->Bool
 | []=>true
 | d::ds=>qC n d&&closDs n ds
end
noncomputable def yG(n:Nat):Cell->Bool
 | .lst xs=>closDs n xs
 | .dct _ xs=>closDs n xs
theorem pk:∀ {ds:List D},closDs n ds=true->∀ d∈ds,qC n d=true
 | _::_,c,_,.head _=>(YD _ _ |>.mp c).1
 | _::_,c,_,.tail _ h=>pk (YD _ _ |>.mp c).2 _ h
def Rep.trunc{cs l fb:List tx}{d:D}(r:Rep K ⟨cs++l,fb⟩ H v d)(c:qC cs.length d=true):Rep K ⟨cs,fb⟩ H v d:=
 Rep.to (μ:=⟨cs++l,fb⟩) (μ':=⟨cs,fb⟩) (P:=λd=>qC cs.length d=true) (λd c x hx=>by cases d<;>first | (cases hx;done) | exact pk c x hx) (λh n=>⟨h,λz=>n.1 (Zz _ z),n.2⟩) (λc (h:(cs++l)[_]?=U _)=>by rw[Za (ZH c)] at h;exact h) r c
theorem Reps.trunc{cs l fb:List tx}(r:Reps K ⟨cs++l,fb⟩ H vs ds)(c:closDs cs.length ds=true):Reps K ⟨cs,fb⟩ H vs ds:=Reps.to (μ:=⟨cs++l,fb⟩) (μ':=⟨cs,fb⟩) (P:=λd=>qC cs.length d=true) (λr c=>r.trunc c) r (pk c)
def Rep.closed{d:D}(r:Rep K μ H v d):qC μ.cs.length d=true:=
 Rep.rec (motive_1:=λ_ d _=>qC μ.cs.length d=true) (motive_2:=λ_ ds _=>closDs μ.cs.length ds=true) rfl (λ_=>rfl) (λ_=>rfl) (λ_=>rfl) (λ_ _ _ i=>i) (λ_ _ i=>i) (λ_ _ _ i=>i) (λ_ _ _ i=>i) (λ_ _ i=>i) (λ_ _ _ i=>i) (λh=>YM (Yz.mp h).1) (λ_=>rfl) (λ_ _=>rfl) (λ_ _ _ _=>rfl) rfl (λ_ _ i j=>by rw[closDs,i,j];rfl) r
theorem Reps.closed:∀ {vs:List V} {ds:List D},Reps K μ H vs ds->closDs μ.cs.length ds=true
 | _,_,.nil=>rfl
 | _,_,.cons h t=>by rw[closDs,Rep.closed h,Reps.closed t];rfl
theorem SOk.closed(s:SOk K μ S H):∀ c∈S,yG S.length c=true:=λc hc=>by
 obtain⟨r,hr⟩:=aaN.mp hc
 have hl:=(Yz.mp hr).1
 have hl':r < μ.cs.length:=by rw[s.len];exact hl
 have:=s.cell r _ c (YG hl') hr
 cases c with
 | lst ds=>obtain⟨vs,_,q⟩:=this;rw[<- s.len];exact q.closed
 | dct ks ds=>obtain⟨vs,_,_,q⟩:=this;rw[<- s.len];exact q.closed
theorem SOk.trunc{S' g:ac}(s:SOk K μ (S'++g) H)(hc:∀ c∈S',yG S'.length c=true):∃ cs l,μ.cs=cs++l/\cs.length=S'.length/\SOk K ⟨cs,μ.fb⟩ S' H:=by
 obtain⟨cs0,fb⟩:=μ
 have hlen:cs0.length=S'.length+g.length:=by have:=s.len;simpa using this
 have hcl:(cs0.take S'.length).length=S'.length:=by rw[aaB];omega
 refine⟨cs0.take S'.length,cs0.drop S'.length,(aaM _ _).symm,hcl,s.nd.sublist (List.take_sublist _ _),hcl,λr a c h1 h2=>?_,s.fdom,λa ha z=>s.disj a ha (ZS z)⟩
 have hr:=(Yz.mp h2).1
 have h1':cs0[r]?=U a:=by
  have h1:(cs0.take S'.length)[r]?=U a:=h1
  rwa[acj hr] at h1
 have ck:=s.cell r a c h1' (by rw[Za hr];exact h2)
 have cc:=hc c (YY h2)
 have e:cs0=cs0.take S'.length++cs0.drop S'.length:=(aaM _ _).symm
 cases c with
 | lst ds=>
  obtain⟨vs,q,r⟩:=ck
  have r':Reps K ⟨cs0.take S'.length++cs0.drop S'.length,fb⟩ H vs ds:=by rw[<- e];exact r
  exact⟨vs,q,r'.trunc (by rw[hcl];exact cc)⟩
 | dct ks ds=>
  obtain⟨vs,q,q2,r⟩:=ck
  have r':Reps K ⟨cs0.take S'.length++cs0.drop S'.length,fb⟩ H (vs.map (·.2)) ds:=by rw[<- e];exact r
  exact⟨vs,q,q2,r'.trunc (by rw[hcl];exact cc)⟩
theorem Post.trunc{g:ac}{d:D}(post:Post K μ H S' d Q)(hd:qC S'.length d=true)(hc:∀ c∈S',yG S'.length c=true)(hl:μ.cs.length<=S'.length):Post K μ H (S'++g) d Q:=λv H' μ' e s r=>by
 obtain⟨cs,l,q,hcl,s'⟩:=s.trunc hc
 obtain⟨cs',fb'⟩:=μ'
 have q':cs'=cs++l:=q
 subst q'
 refine post v H' ⟨cs,fb'⟩ ⟨e.fb,?_,e.keep,λa ha=>e.dom a (Zz _ ha)⟩ s' (r.trunc (by rw[hcl];exact hd))
 obtain⟨l0,q0,h0⟩:=e.pre
 have q0:cs++l = μ.cs++l0:=q0
 have hle:μ.cs.length<=cs.length:=by rw[hcl];exact hl
 refine⟨cs.drop μ.cs.length,?_,λa ha=>h0 a ?_⟩
 ·have t1:(cs++l).take μ.cs.length = μ.cs:=by rw[q0];simp
  rw[List.take_append_of_le_length hle] at t1
  show cs = μ.cs++cs.drop μ.cs.length
  conv=>lhs;rw[<- aaM μ.cs.length cs,t1]
 ·have t2:(cs++l).drop μ.cs.length=l0:=by rw[q0];simp
  rw[<- t2,List.drop_append_of_le_length hle]
  exact Zz _ ha
def Runs(m:MS)(env:bh)(S:ac)(d:D)(S':ac):Prop:=
 ∃ o g,m env S=U o/\(g=[]\/(qC S'.length d=true/\(∀ c∈S',yG S'.length c=true)/\S.length<=S'.length))/\(o=.rt d (S'++g)\/(d=.non/\∃ env',o=.nx env' (S'++g)))
def Runs.ret{m:MS}{d:D}(h:m env S=U (.rt d S')):Runs m env S d S':=⟨_,[],h,.inl rfl,.inl (by rw[Zn])⟩
noncomputable def az(N:List Str)(ds:List D):bh:=ds.map U++adg (N.length - ds.length) Y
def UK{k:Nat}{st:Uo}{f:List D->ac->Option (D×ac)}
  (F:L2.Fun K x qual st a fd) (Sc:aN N ps (ar st))
  (hbody:∀ (cdv:gV) (A:Wr) (outer:List PySem.Env) (s:td) (H:Hp) (E:XK),Room k (A.deeper (envOfC qual (ar st) s.heap.objs.size a cdv)) ->
   ∃ m,xq (sT Eb P w K mg base N qual (ar st) a cdv A outer s H E).nox (aD st) m/\∀ ds S d S',ds.length=ps.length->(∀ c∈S,yG S.length c=true)->closDs S.length ds=true->f ds S=U (d,S')->Runs m (az N ds) S d S') :
  FnOk P w K mg base Eb (k+1) a fd ps (LK K ps.length f):=by
 refine F.ok Sc (λvs H Q E h=>?_) (λcdv A outer s H vs Q E hr h=>?_)
 ·obtain⟨μ,S,ds,d,S',hS,hr,hn,hf,post⟩:=h
  rw[hr.length,hn]
 ·obtain⟨m,hm,run⟩:=hbody cdv A outer s H E hr
  refine⟨_,hm,?_⟩
  obtain⟨μ,S,ds,d,S',hS,hrp,hn,hf,post⟩:=h
  obtain⟨o,g,ho,hg,hend⟩:=run ds S d S' hn hS.closed (by rw[<- hS.len];exact hrp.closed) hf
  have post':Post K μ H (S'++g) d Q:=by
   rcases hg with rfl | ⟨c1,c2,c3⟩
   ·rw[Zn];exact post
   ·exact post.trunc c1 c2 (by rw[hS.len];exact c3)
  have hEnv:EOk K μ H (L2.start N vs) (az N ds):=by unfold L2.start az;rw[hrp.length];exact EOk.start hrp
  rcases hend with rfl | ⟨rfl,env',rfl⟩
  ·exact⟨μ,S,_,_,hS,hEnv,ho,post'⟩
  ·exact⟨μ,S,_,_,hS,hEnv,ho,λσ' H' μ' e s' _=>post' .non H' μ' e s' .non⟩
def UL{mg:Str->Option gV}{k:Nat}{st:Uo}{f:List D->ac->Option (D×ac)}
  (F:L2.Fun K x qual st a fd) (Sc:aN N ps (ar st)) (hmg:mg x=U (.ref a)) (hb:Binds K fd ps [])
  (hbody:∀ (cdv:gV) (A:Wr) (outer:List PySem.Env) (s:td) (H:Hp) (E:XK),Room k (A.deeper (envOfC qual (ar st) s.heap.objs.size a cdv)) ->
   ∃ m,xq (sT Eb P w K mg base N qual (ar st) a cdv A outer s H E).nox (aD st) m/\∀ ds S d S',ds.length=ps.length->(∀ c∈S,yG S.length c=true)->closDs S.length ds=true->f ds S=U (d,S')->Runs m (az N ds) S d S') :
  Fn P w K mg base (k+1) x ps.length f:=⟨a,fd,ps,rfl,UK F Sc hbody,hmg,F.kp,hb⟩
end
section
variable{X:Cx}{K:adf}{μ μ':Fp}{H H':Hp}{S:ac}
def PostN.ext(e:Ext μ H μ' H')(p:PostN K μ H S' env' Q):PostN K μ' H' S' env' Q:=λσ2 H2 μ2 e2 s r=>p σ2 H2 μ2 (e.trans e2) s r
theorem PostS.ext(e:Ext μ H μ' H')(p:PostS K μ H o E):PostS K μ' H' o E:=by
 cases o with
 | nx env S=>exact PostN.ext e p
 | rt d S=>exact Post.ext e p
 | bk env S=>exact PostN.ext e p
 | ct env S=>exact PostN.ext e p
noncomputable def bn:MS:=λenv S=>U (.nx env S)
noncomputable def aF(a b:MS):MS:=λenv S=>(a env S).bind λo=>match o with | .nx env' S'=>b env' S' | o=>U o
def Ih:xq X [] bn:=PSs.imp QV λE σ H ⟨μ,S,env,o,hS,hE,hm,post⟩=>by cases hm;exact post σ H μ hS.ext hS hE
def Qx(h:Vm K (aF a b) E σ H):tSeq (Vm K a) (Vm K b) E σ H:=by
 obtain⟨μ,S,env,o,hS,hE,hm,post⟩:=h
 obtain⟨o1,h1,hm⟩:=Yx.mp hm
 refine⟨μ,S,env,o1,hS,hE,h1,?_⟩
 cases o1 with
 | nx env' S'=>exact λσ' H' μ' e s r=>⟨μ',S',env',o,s,r,hm,post.ext e⟩
 | rt d S'=>cases hm;exact post
 | bk env' S'=>cases hm;exact post
 | ct env' S'=>cases hm;exact post
def Pg{st:Uo}(h1:DS X st a)(h2:xq X rest b):xq X (st::rest) (aF a b):=PSs.imp (ud h1 h2) λ_ _ _ h=>Qx h
def Ig{st:Uo}(h1:DS X st a):xq X [st] a:=sY h1
variable{pos:Pos}{e c:Nl}{m:ME}{mt:MT}{a b:List Uo}{ma mb:MS}
def SX:DS X (.Pass pos) bn:=PS.imp QX λE σ H ⟨μ,S,env,o,hS,hE,hm,post⟩=>by cases hm;exact post σ H μ hS.ext hS hE
def Pj:DS X (.Break pos) (λenv S=>U (.bk env S)):=PS.imp Mm λE σ H ⟨μ,S,env,o,hS,hE,hm,post⟩=>by cases hm;exact post σ H μ hS.ext hS hE
def Dv:DS X (.Continue pos) (λenv S=>U (.ct env S)):=PS.imp BC λE σ H ⟨μ,S,env,o,hS,hE,hm,post⟩=>by cases hm;exact post σ H μ hS.ext hS hE
def XC{x j p}:DS X (.Expr (.Constant (.str x) j p) pos) bn:=PS.imp VB λE σ H ⟨μ,S,env,o,hS,hE,hm,post⟩=>by cases hm;exact post σ H μ hS.ext hS hE
noncomputable def bq(m:ME):MS:=λenv S=>(m env S).bind λp=>U (.rt p.1 p.2)
def XB(he:DE X e m):DS X (.Return (U e) pos) (bq m):=PS.imp (Mj he) λE σ H ⟨μ,S,env,o,hS,hE,hm,post⟩=>by
 obtain⟨⟨d,S1⟩,h1,hm⟩:=Yx.mp hm
 cases hm
 exact⟨μ,S,env,d,S1,hS,hE,h1,post⟩
def SW:DS X (.Return Y pos) (λ_ S=>U (.rt .non S)):=PS.imp QW λE σ H ⟨μ,S,env,o,hS,hE,hm,post⟩=>by cases hm;exact Post.here post hS .non
noncomputable def fo(m:ME):MS:=λenv S=>(m env S).bind λp=>U (.nx env p.2)
noncomputable def Ta(he:DE X e m)(hs:swapsWith e Y pos.line X.env=pure false):DS X (.Expr e pos) (fo m):=PS.imp (QZ he hs) λE σ H ⟨μ,S,env,o,hS,hE,hm,post⟩=>by
 obtain⟨⟨d,S1⟩,h1,hm⟩:=Yx.mp hm
 cases hm
 exact⟨μ,S,env,d,S1,hS,hE,h1,λv H' μ' ex s r=>post σ H' μ' ex s (hE.mono ex)⟩
noncomputable def bY(t:MT)(a b:MS):MS:=λenv S=>(t env S).bind λp=>if p.1=true then a env p.2 else b env p.2
def ds_if(hc:DT X c mt)(ha:xq X a ma)(hb:xq X b mb):DS X (.If c a b pos) (bY mt ma mb):=PS.imp (Ur hc ha hb) λE σ H ⟨μ,S,env,o,hS,hE,hm,post⟩=>by
 obtain⟨⟨k,S1⟩,h1,hm⟩:=Yx.mp hm
 refine⟨μ,S,env,k,S1,hS,hE,h1,λH1 μ1 e1 s1=>?_⟩
 cases k with
 | true=>rw[YR rfl] at hm ⊢;exact⟨μ1,S1,env,o,s1,hE.mono e1,hm,post.ext e1⟩
 | false=>rw[if_neg adh] at hm ⊢;exact⟨μ1,S1,env,o,s1,hE.mono e1,hm,post.ext e1⟩
abbrev MG:=D->bh->ac->Option (bh×ac)
abbrev wm:=List D->bh->ac->Option (bh×ac)
inductive tMG(K:adf)(g:MG)(v:V)(σ:L2.St)(H:Hp)(Q:L2.St->Hp->Prop):Prop
 | mk (μ:Fp) (S:ac) (env:bh) (d:D) (env':bh) (S':ac) (hS:SOk K μ S H) (hE:EOk K μ H σ env) (h1:Rep K μ H v d) (h:g d env S=U (env',S')) (post:PostN K μ H S' env' Q)
inductive tMGs(K:adf)(g:wm)(vs:List V)(σ:L2.St)(H:Hp)(Q:L2.St->Hp->Prop):Prop
 | mk (μ:Fp) (S:ac) (env:bh) (ds:List D) (env':bh) (S':ac) (hS:SOk K μ S H) (hE:EOk K μ H σ env) (h1:Reps K μ H vs ds) (h:g ds env S=U (env',S')) (post:PostN K μ H S' env' Q)
def DG(X:Cx)(tg:Nl)(g:MG):Prop:=PG X tg (tMG X.K g)
def Yv(X:Cx)(tg:List Nl)(g:wm):Prop:=PGs X tg (tMGs X.K g)
def PG.imp{t':TG}(h:PG X tg t)(i:∀ v σ H Q,t' v σ H Q->t v σ H Q):PG X tg t':=λpins s σ H v u Q I r q=>h pins s σ H v u Q I r (i v σ H Q q)
def PGs.imp{t':UY}(h:PGs X tg t)(i:∀ v σ H Q,t' v σ H Q->t v σ H Q):PGs X tg t':=λpins s σ H v u Q I r q=>h pins s σ H v u Q I r (i v σ H Q q)
noncomputable def ah(i:Nat):MG:=λd env S=>U (env.set i (U d),S)
noncomputable def Ik{i:Nat}{x:Str}(hN:X.N.Nodup)(hi:X.N[i]?=U x)(hx:Qm X.env.scope x)(hf:X.fn x=true\/X.env.scope.names.lookup x=U .local):DG X (.Name x pos) (ah i):=
 PG.imp (Rh hN hi hx hf) λv σ H Q ⟨μ,S,env,d,env',S',hS,hE,hr,hm,post⟩=>by cases hm;exact post _ H μ hS.ext hS (hE.set hr i)
noncomputable def aW:wm:=λds env S=>match ds with | []=>U (env,S) | _=>Y
noncomputable def ag(g:MG)(gs:wm):wm:=λds env S=>match ds with | d::r=>(g d env S).bind λp=>gs r p.1 p.2 | []=>Y
def Tg:Yv X [] aW:=PGs.imp Rg λv σ H Q ⟨μ,S,env,ds,env',S',hS,hE,hr,hm,post⟩=>by
 cases hr with
 | nil=>cases hm;exact⟨rfl,post σ H μ hS.ext hS hE⟩
 | cons _ _=>cases hm
noncomputable def Pt{t:Nl}(h1:DG X t g)(h2:Yv X ts gs)(hs:(assignEach (t::ts) X.env).map (·.2)=assign t X.env::(assignEach ts X.env).map (·.2)):Yv X (t::ts) (ag g gs):=
 PGs.imp (Mp h1 h2 hs) λv σ H Q ⟨μ,S,env,ds,env',S',hS,hE,hr,hm,post⟩=>by
  cases hr with
  | nil=>cases hm
  | @cons v d vs ds h t=>
   obtain⟨⟨env1,S1⟩,h1,hm⟩:=Yx.mp hm
   exact⟨v,vs,rfl,μ,S,env,d,env1,S1,hS,hE,h,h1,λσ1 H1 μ1 e1 s1 r1=>⟨μ1,S1,env1,ds,env',S',s1,r1,t.mono e1,hm,post.ext e1⟩⟩
noncomputable def bi(n:Nat)(gs:wm):MG:=λd env S=>match d with | .tup xs=>if xs.length=n then gs xs env S else Y | _=>Y
noncomputable def XF{k n:Nat}(hc:X.calm=true)(h:Yv X es gs)(hn:(assignEach es X.env).length=n)(hst:(assignEach es X.env).findIdx? (·.1)=Y):DG X (.Tuple es k pos) (bi n gs):=
 PG.imp (VG hc h hn hst) λv σ H Q ⟨μ,S,env,d,env',S',hS,hE,hr,hm,post⟩=>by
  cases d with
  | tup xs=>
   simp only[bi] at hm
   split at hm
   ·rename_i hl
    obtain⟨a,vs,rfl,q,r⟩:=hr.sqT
    exact⟨a,vs,rfl,q,by rw[r.length];exact hl,μ,S,env,xs,env',S',hS,hE,r,hm,post⟩
   ·cases hm
  | _=>cases hm
noncomputable def gX(o i:ME):MG:=λd env S=>(o env S).bind λp=>(i env p.2).bind λq=>match p.1,q.1 with
 | .ref r,.int k=>match q.2[r]? with
  | some (.lst xs)=>(JH xs.length k).bind λj=>U (env,q.2.set r (.lst (xs.set j d)))
  | _=>Y
 | _,_=>Y
noncomputable def XG(ho:DE X o mo)(hi:DE X i mi)(ha:∀ v,assign (.Subscript o i pos) X.env v=(do
   let ov <- holding [v] (eval o X.env)
   let iv <- holding [v,ov] (eval i X.env)
   standAt pos
   holding [v,ov,iv] (setItem ov iv v)
   release [v,ov,iv] [])):DG X (.Subscript o i pos) (gX mo mi):=
 PG.imp (VH ho hi LM ha) λv σ H Q ⟨μ,S,env,d,env',S',hS,hE,hr,hm,post⟩=>by
  obtain⟨⟨x,S1⟩,h1,hm⟩:=Yx.mp hm
  obtain⟨⟨y,S2⟩,h2,hm⟩:=Yx.mp hm
  refine⟨μ,S,env,x,S1,hS,hE,h1,λv1 H1 μ1 e1 s1 r1=>⟨μ1,S1,env,y,S2,s1,hE.mono e1,h2,λv2 H2 μ2 e2 s2 r2=>?_⟩⟩
  cases x with
  | ref r=>
   cases y with
   | int k=>
    dsimp only at hm
    cases q:S2[r]? with
    | none=>rw[q] at hm;cases hm
    | some c=>
     rw[q] at hm
     cases c with
     | lst xs=>
      obtain⟨j,h3,hm⟩:=Yx.mp hm
      cases hm
      have r1':=r1.mono e2
      cases r1' with
      | @ref a _ h'=>
       obtain⟨vs,hv,rv⟩:=s2.cell r a _ h' q
       have rd:=(hr.mono e1).mono e2
       obtain⟨e3,s3⟩:=s2.write h' hv (rv.set rd j)
       exact⟨a,vs,k,j,rfl,r2.int_inv,hv,by rw[rv.length];exact h3,post σ _ μ2 ((e1.trans e2).trans e3) s3 (hE.mono ((e1.trans e2).trans e3))⟩
     | dct ks xs=>cases hm
   | _=>cases hm
  | _=>cases hm
noncomputable def aX(m:ME)(g:MG):MS:=λenv S=>(m env S).bind λp=>(g p.1 env p.2).bind λq=>U (.nx q.1 q.2)
def Qz(h:Vm K (aX m g) E σ H):Lz (tM K m) (tMG K g) E σ H:=by
 obtain⟨μ,S,env,o,hS,hE,hm,post⟩:=h
 obtain⟨⟨d,S1⟩,h1,hm⟩:=Yx.mp hm
 obtain⟨⟨env2,S2⟩,h2,hm⟩:=Yx.mp hm
 cases hm
 exact⟨μ,S,env,d,S1,hS,hE,h1,λv H1 μ1 e1 s1 r1=>⟨μ1,S1,env,d,env2,S2,s1,hE.mono e1,r1,h2,PostN.ext e1 post⟩⟩
noncomputable def Pm(he:DE X e m)(hg:DG X tg g)(hs:swapsWithSole [tg] e pos.line X.env=pure false)(hw:swappedStores [tg] e X.env=pure Y)
  (h1:(assignEach [tg] X.env).map (·.2)=[assign tg X.env]):DS X (.Assign [tg] e pos) (aX m g):=PS.imp (VC he hg hs hw h1) λ_ _ _ h=>Qz h
noncomputable def Az{i:Nat}{x:Str}(hN:X.N.Nodup)(hi:X.N[i]?=U x)(hx:Qm X.env.scope x)(he:DE X e m)(hs:swapsWith e (U (.Name x pos')) pos.line X.env=pure false)(hf:X.fn x=true\/X.env.scope.names.lookup x=U .local) :
  DS X (.Assign [.Name x pos'] e pos) (aX m (ah i)):=PS.imp (Mi hN hi hx he hs hf) λE σ H h=>by
 obtain⟨μ,S,env,o,hS,hE,hm,post⟩:=h
 obtain⟨⟨d,S1⟩,h1,hm⟩:=Yx.mp hm
 cases hm
 exact⟨μ,S,env,d,S1,hS,hE,h1,λv H1 μ1 e1 s1 r1=>post _ H1 μ1 e1 s1 ((hE.mono e1).set r1 i)⟩
structure ExtP(μ:Fp)(H:Hp)(μ':Fp)(H':Hp):Prop where
 fb:∃ l,μ'.fb=l++μ.fb/\∀ a∈l,H a=Y
 pre:∃ l,μ'.cs = μ.cs++l/\∀ a∈l,H a=Y
 keep:∀ a o,a∉μ.cs->H a=U o->H' a=U o
 dom:∀ a∈μ'.cs,H' a≠Y
def Ext.toP(e:Ext μ H μ' H'):ExtP μ H μ' H':=⟨⟨[],by rw[e.fb];rfl,λ_ z=>by simp at z⟩,e.pre,e.keep,e.dom⟩
def ExtP.stays(e:ExtP μ H μ' H'){a:tx}{o:HO}(h:H a=U o)(n:μ.no a):H' a=U o/\μ'.no a:=by
 refine⟨e.keep a o n.1 h,λz=>?_,λz=>?_⟩
 ·obtain⟨l,q,hl⟩:=e.pre
  rw[q] at z
  rcases YX.mp z with z | z
  ·exact n.1 z
  ·rw[hl a z] at h;cases h
 ·obtain⟨l,q,hl⟩:=e.fb
  rw[q] at z
  rcases YX.mp z with z | z
  ·rw[hl a z] at h;cases h
  ·exact n.2 z
def ExtP.then(e:ExtP μ H μ' H')(f:Ext μ' H' μ'' H''):ExtP μ H μ'' H'':=by
 obtain⟨l,q,hl⟩:=e.pre
 obtain⟨l',q',hl'⟩:=f.pre
 refine⟨by rw[f.fb];exact e.fb,⟨l++l',by rw[q',q,Ze],λa ha=>?_⟩,λa o n h=>?_,f.dom⟩
 ·rcases YX.mp ha with ha | ha
  ·exact hl a ha
  ·have h1:=hl' a ha
   cases q2:H a with
   | none=>rfl
   | some o=>
    by_cases hm:a∈μ.cs
    ·exact absurd h1 (e.dom a (by rw[q];exact Zz _ hm))
    ·rw[e.keep a o hm q2] at h1;cases h1
 ·have h1:=e.keep a o n h
  refine f.keep a o (λz=>?_) h1
  rw[q] at z
  rcases YX.mp z with z | z
  ·exact n z
  ·rw[hl a z] at h;cases h
def ExtP.chg(e:ExtP μ H μ' H')(hp:H p=Y):ExtP μ H μ' (upd H' p o):=
 ⟨e.fb,e.pre,λa o' n h=>by rw[aR (cD h hp)];exact e.keep a o' n h,λa ha=>by
  by_cases z:a=p
  ·subst z;rw[bf];simp
  ·rw[aR z];exact e.dom a ha⟩
def ExtP.ix(e:ExtP μ H μ' H'){r:Nat}{a:tx}(h:μ.cs[r]?=U a):μ'.cs[r]?=U a:=by
 obtain⟨l,q,_⟩:=e.pre
 exact AR q h
def Rep.monoP(e:ExtP μ H μ' H'){d:D}(r:Rep K μ H v d):Rep K μ' H' v d:=r.imp e.stays e.ix
def GO(K:adf)(μ:Fp)(H:Hp)(J:It)(xs:List D):Prop:=
 ∀ μ' H' S',ExtP μ H μ' H'->SOk K μ' S' H'->∀ i,(∀ d,xs[i]?=U d->J.go i H'/\∀ x H2,J.yld i H' x H2->Ext μ' H' μ' H2/\SOk K μ' S' H2/\Rep K μ' H2 x d)/\(xs.length<=i->J.stop i H')
inductive iM(K:adf)(m:MA)(σ:L2.St)(H:Hp)(R:It->Hp->Prop):Prop
 | mk (μ:Fp) (S:ac) (env:bh) (xs:List D) (S':ac) (hS:SOk K μ S H) (hE:EOk K μ H σ env) (h:m env S=U (xs,S')) (post:∀ J H' μ',Ext μ H μ' H'->SOk K μ' S' H'->GO K μ' H' J xs->R J H')
def DI(X:Cx)(tg iter:Nl)(m:MA):Prop:=PI X tg iter (iM X.K m)
def PI.imp{t':TI}(h:PI X tg iter t)(i:∀ σ H R,t' σ H R->t σ H R):PI X tg iter t':=λpins s σ H R I q=>h pins s σ H R I (i σ H R q)
def yj{v:V}{a:tx}{d:D}{xs:List D}(hd:d=.lst xs\/d=.rol xs)(r:Rep K μ H v d)(hv:v=.ref a):GO K μ H (Itl K a) xs:=λμ' H' S' e s i=>by
 have r':=r.monoP e
 obtain⟨vs,q,rs⟩:∃ vs,pz K H' a vs/\Reps K μ' H' vs xs:=by
  subst hv
  rcases hd with rfl | rfl
  ·obtain⟨a',vs,ea,q,_,rs⟩:=r'.sqL;cases ea;exact⟨vs,.inl (.inl q),rs⟩
  ·obtain⟨a',vs,ea,q,rs⟩:=r'.sqR;cases ea;exact⟨vs,q,rs⟩
 refine⟨λd hd=>?_,λhl=>⟨vs,q,by rw[rs.length];exact hl⟩⟩
 obtain⟨v,hv,rv⟩:=rs.get hd
 refine⟨⟨vs,v,q,hv⟩,λx H2 ⟨e2,hy⟩=>?_⟩
 subst e2
 have:=hy vs q
 rw[hv] at this;cases this
 exact⟨s.ext,s,rv⟩
def NN{a:tx}{xs:List D}(r:Rep K μ H (.ref a) (.tup xs)):GO K μ H (Itt K a) xs:=λμ' H' S' e s i=>by
 obtain⟨a',vs,ea,q,rs⟩:=(r.monoP e).sqT
 cases ea
 refine⟨λd hd=>?_,λhl=>⟨vs,q,by rw[rs.length];exact hl⟩⟩
 obtain⟨v,hv,rv⟩:=rs.get hd
 refine⟨⟨vs,v,q,hv⟩,λx H2 ⟨e2,hy⟩=>?_⟩
 subst e2
 have:=hy vs q
 rw[hv] at this;cases this
 exact⟨s.ext,s,rv⟩
variable{tg iter:Nl}
noncomputable def cw(lo:Int)(n:Nat):List D:=(List.range n).map λ(i:Nat)=>D.int (lo+(i:Int))
def ua(lo:Int)(n i:Nat)(d:D)(h:(cw lo n)[i]?=U d):i<n/\d=.int (lo+(i:Int)):=by
 unfold cw at h
 rw[aah] at h
 cases q:(List.range n)[i]? with
 | none=>rw[q] at h;cases h
 | some j=>
  rw[q] at h;cases h
  obtain⟨h1,h2⟩:=Yz.mp q
  simp at h1 h2
  exact⟨h1,by rw[h2]⟩
def vm(lo:Int)(n:Nat):GO K μ H (Itr lo n) (cw lo n):=λμ' H' S' e s i=>by
 refine⟨λd hd=>?_,λhl=>?_⟩
 ·obtain⟨h1,rfl⟩:=ua lo n i d hd
  refine⟨h1,λx H2 ⟨e2,hy⟩=>?_⟩
  subst e2 hy
  exact⟨s.ext,s,.int _⟩
 ·have:(cw lo n).length=n:=by simp[cw]
  rw[this] at hl;exact hl
noncomputable def bV(ms:MA):MA:=λenv S=>(ms env S).bind λp=>match p.1 with | [.int j]=>if -(2^62)<=j/\j<2^62 then U (cw 0 j.toNat,p.2) else Y | _=>Y
noncomputable def eg(ms:MA):MA:=λenv S=>(ms env S).bind λp=>match p.1 with | [.int i,.int j]=>if -(2^62)<=i/\i<2^62/\-(2^62)<=j/\j<2^62 then U (cw i (j - i).toNat,p.2) else Y | _=>Y
noncomputable def Kw{a:Nl}{p:Pos}(hm:X.mg "range" = Y)(ha:DA X [a] ms)(hg:Gl X "range")(hs:acZ [a] X.env=[(false,eval a X.env)]):DI X tg (.Call (.Name "range" p) [a] [] pos) (bV ms):=
 PI.imp (Ja hg hm ha hs) λσ H R ⟨μ,S,env,xs,S',hS,hE,hm,post⟩=>by
  obtain⟨⟨ds,S1⟩,h1,hm⟩:=Yx.mp hm
  refine⟨μ,S,env,ds,S1,hS,hE,h1,λvs H1 μ1 e1 s1 r1=>?_⟩
  dsimp only at hm
  split at hm
  ·split at hm
   ·rename_i hb
    cases hm
    obtain⟨v,rfl,r⟩:=r1.one
    exact⟨_,by rw[r.int_inv],hb.1,hb.2,post _ H1 μ1 e1 s1 (vm 0 _)⟩
   ·cases hm
  ·cases hm
noncomputable def Kv{a b:Nl}{p:Pos}(hm:X.mg "range" = Y)(ha:DA X [a,b] ms)(hg:Gl X "range")(hs:acZ [a,b] X.env=[(false,eval a X.env),(false,eval b X.env)])(hs2:acZ [b] X.env=[(false,eval b X.env)]):DI X tg (.Call (.Name "range" p) [a,b] [] pos) (eg ms):=
 PI.imp (IZ hg hm ha hs hs2) λσ H R ⟨μ,S,env,xs,S',hS,hE,hm,post⟩=>by
  obtain⟨⟨ds,S1⟩,h1,hm⟩:=Yx.mp hm
  refine⟨μ,S,env,ds,S1,hS,hE,h1,λvs H1 μ1 e1 s1 r1=>?_⟩
  dsimp only at hm
  split at hm
  ·split at hm
   ·rename_i hb
    cases hm
    obtain⟨v,w,rfl,r,r'⟩:=r1.two
    exact⟨_,_,by rw[r.int_inv,r'.int_inv],hb,post _ H1 μ1 e1 s1 (vm _ _)⟩
   ·cases hm
  ·cases hm
noncomputable def cK(g:MG)(body:MS):List D->bh->ac->Option pA
 | [],env,S=>U (.nx env S)
 | d::ds,env,S=>(g d env S).bind λp=>(body p.1 p.2).bind λo=>match o with
  | .nx e s=>cK g body ds e s
  | .ct e s=>cK g body ds e s
  | .bk e s=>U (.nx e s)
  | .rt d s=>U (.rt d s)
noncomputable def lg(mi:MA)(g:MG)(body:MS):MS:=λenv S=>(mi env S).bind λp=>cK g body p.1 env p.2
theorem Pi{mb:MS}(hp:PassesOwn (model X.prog X.w) X.A X.env X.xe)(hc:X.calm=true)(hi:DI X tg iter mi)(hg:DG X tg g)(hb:xq X body mb)
  (hs:∀ x,ada iter X.env x=pure x):DS X (.For tg iter body [] pos) (lg mi g mb):=PS.imp (Ml hp hc hi hg hb hs) λE σ H ⟨μ,S,env,o,hS,hE,hm,post⟩=>by
 obtain⟨⟨xs,S1⟩,h1,hm⟩:=Yx.mp hm
 refine⟨μ,S,env,xs,S1,hS,hE,h1,λJ H1 μ1 e1 s1 it=>?_⟩
 refine⟨λi n σ H=>n=xs.length - i/\i<=xs.length/\∃ μ' S' env' o',Ext μ1 H1 μ' H/\SOk X.K μ' S' H/\EOk X.K μ' H σ env'/\cK g mb (xs.drop i) env' S'=U o'/\PostS X.K μ' H o' E,
  ⟨xs.length,by simp,abf _,μ1,S1,env,o,s1.ext,s1,hE.mono e1,by rw[ace];exact hm,post.ext e1⟩,?_⟩
 rintro i n σ' H' ⟨rfl,hi,μ',S',env',o',e',s',r',hl,post'⟩
 have iti:=it μ' H' S' e'.toP s' i
 by_cases hlt:i<xs.length
 ·refine .inr ⟨(iti.1 xs[i] (YG hlt)).1,λσ2 H2=>∃ μ2 S2 env2 o2,Ext μ1 H1 μ2 H2/\SOk X.K μ2 S2 H2/\EOk X.K μ2 H2 σ2 env2/\cK g mb (xs.drop (i+1)) env2 S2=U o2/\PostS X.K μ2 H2 o2 E,
   λσ2 H2 ⟨μ2,S2,env2,o2,q1,q2,q3,q4,q5⟩=>⟨xs.length - (i+1),by omega,rfl,hlt,μ2,S2,env2,o2,q1,q2,q3,q4,q5⟩,λx H2 y=>?_⟩
  obtain⟨e2,s2,rx⟩:=(iti.1 xs[i] (YG hlt)).2 x H2 y
  rw[acf hlt] at hl
  obtain⟨⟨env3,S3⟩,h3,hl⟩:=Yx.mp hl
  obtain⟨o4,h4,hl⟩:=Yx.mp hl
  refine⟨μ',S',env',xs[i],env3,S3,s2,r'.mono e2,rx,h3,λσ3 H3 μ3 e3 s3 r3=>⟨μ3,S3,env3,o4,s3,r3,h4,?_⟩⟩
  have eT:Ext μ1 H1 μ3 H3:=(e'.trans e2).trans e3
  have pT:PostS X.K μ3 H3 o' E:=(post'.ext e2).ext e3
  cases o4 with
  | nx e5 s5=>exact λσ6 H6 μ6 e6 s6 r6=>⟨μ6,s5,e5,o',eT.trans e6,s6,r6,hl,pT.ext e6⟩
  | ct e5 s5=>exact λσ6 H6 μ6 e6 s6 r6=>⟨μ6,s5,e5,o',eT.trans e6,s6,r6,hl,pT.ext e6⟩
  | bk e5 s5=>cases hl;exact pT
  | rt d5 s5=>cases hl;exact pT
 ·have e:i=xs.length:=by omega
  subst e
  refine .inl ⟨iti.2 (YL _),?_⟩
  rw[List.drop_length] at hl
  cases hl
  exact post' σ' H' μ' s'.ext s' r'
noncomputable def vZ(cap:List (Option Nat))(env:bh):bh:=cap.map λo=>o.bind λi=>(env[i]?).join
def Va(X:Cx)(ifs:List Nl)(m:MT):Prop:=Uc X ifs (La X.K m)
def SS:Va X [] (λ_ S=>U (true,S)):=λpins s σ H Q I ⟨μ,S,env,b,S',hS,hE,hm,post⟩=>by cases hm;exact QT pins s σ H Q I (post H μ hS.ext hS)
def SR{c:Nl}(h:DT X c t):Va X [c] t:=QS h
noncomputable def dr(g:MG)(t:MT)(e:ME):List D->bh->ac->Option (List D×ac)
 | [],_,S=>U ([],S)
 | d::ds,env,S=>(g d env S).bind λp=>(t p.1 p.2).bind λb=>if b.1=true then(e p.1 b.2).bind λq=>(dr g t e ds p.1 q.2).bind λr=>U (q.1::r.1,r.2) else dr g t e ds p.1 b.2
noncomputable def bH(mi:MA)(g:MG)(t:MT)(e:ME)(cap:List (Option Nat)):ME:=λenv S=>(mi env S).bind λp=>if p.1.length<=acY then(dr g t e p.1 (vZ cap env) p.2).bind λq=>U (.lst q.1,q.2) else Y
theorem Bh{mi:MA}{g:MG}{t:MT}{e:ME}{cap:List (Option Nat)}{σ:L2.St}{Q:VK}(h:tM K (bH mi g t e cap) σ H Q):Lx (iM K mi) (tMG K g) (La K t) (tM K e) cap σ H Q:=by
 obtain⟨μ,S,env,d,S',hS,hE,hm,post⟩:=h
 obtain⟨⟨xs,S1⟩,h1,hm⟩:=Yx.mp hm
 dsimp only at hm
 split at hm
 case isFalse=>cases hm
 rename_i hsz
 obtain⟨⟨ys,S2⟩,h2,hm⟩:=Yx.mp hm
 cases hm
 refine⟨μ,S,env,xs,S1,hS,hE,h1,λJ H1 μ1 e1 s1 it p hp=>?_⟩
 have hpn:=s1.notMem hp
 refine⟨λi n σ' H'=>n=xs.length - i/\i<=xs.length/\∃ (cs:List tx) (S':ac) (env':bh) (vs:List V) (zs rest:List D),ExtP μ1 H1 ⟨cs,p::μ1.fb⟩ H'/\SOk K ⟨cs,p::μ1.fb⟩ S' H'/\EOk K ⟨cs,p::μ1.fb⟩ H' σ' env'/\H' p=U (.lst vs) /\
   Reps K ⟨cs,p::μ1.fb⟩ H' vs zs/\dr g t e (xs.drop i) env' S'=U (rest,S2)/\ys=zs++rest/\vs.length<=i,⟨xs.length,by simp,abf _,μ1.cs,S1,vZ cap env,[],[],ys,?_,s1.more hp,?_,bf,.nil,by rw[ace];exact h2,rfl,YL _⟩,?_⟩
 ·exact⟨⟨[p],rfl,λa z=>by rw[Zr.mp z];exact hp⟩,⟨[],by simp,λ_ z=>by simp at z⟩,λa o' n h=>by rw[aR (cD h hp)];exact h,λa ha=>by
   by_cases z:a=p
   ·subst z;rw[bf];simp
   ·rw[aR z];exact s1.dom a ha⟩
 ·exact((hE.mono e1).block cap).more hp
 rintro i n σ' H' ⟨rfl,hi,cs,S',env',vs,zs,rest,eP,s',r',hpv,rz,hl,rfl,hvl⟩
 have iti:=it _ H' S' eP s' i
 by_cases hlt:i<xs.length
 ·refine .inr ⟨(iti.1 xs[i] (YG hlt)).1,λx H2 y=>?_⟩
  obtain⟨e2,s2,rx⟩:=(iti.1 xs[i] (YG hlt)).2 x H2 y
  rw[acf hlt] at hl
  obtain⟨⟨env3,S3⟩,h3,hl⟩:=Yx.mp hl
  obtain⟨⟨b,S4⟩,h4,hl⟩:=Yx.mp hl
  refine⟨_,S',env',xs[i],env3,S3,s2,r'.mono e2,rx,h3,λσ3 H3 μ3 e3 s3 r3=>⟨μ3,S3,env3,b,S4,s3,r3,h4,λH4 μ4 e4 s4=>?_⟩⟩
  have eA:=(e2.trans e3).trans e4
  have pcs:p∉cs:=λz=>s'.disj p YF z
  cases b with
  | false=>
   rw[if_neg adh] at hl
   dsimp only
   rw[if_neg adh]
   obtain⟨cs4,fb4⟩:=μ4
   have hfb:fb4=p::μ1.fb:=eA.fb
   subst hfb
   exact⟨xs.length - (i+1),by omega,rfl,hlt,cs4,S4,env3,vs,zs,rest,eP.then eA,s4,r3.mono e4,(eA.keeps hpv pcs).1,rz.mono eA,hl,rfl,by omega⟩
  | true=>
   rw[YR rfl] at hl
   dsimp only
   rw[YR rfl]
   obtain⟨⟨dv,S5⟩,h5,hl⟩:=Yx.mp hl
   obtain⟨⟨rs,S6⟩,h6,hl⟩:=Yx.mp hl
   cases hl
   refine⟨μ4,S4,env3,dv,S5,s4,r3.mono e4,h5,λv H5 μ5 e5 s5 r5=>?_⟩
   have eB:=eA.trans e5
   obtain⟨cs5,fb5⟩:=μ5
   have hfb:fb5=p::μ1.fb:=eB.fb
   subst hfb
   refine⟨vs,(eB.keeps hpv pcs).1,by omega,xs.length - (i+1),by omega,rfl,hlt,cs5,S5,env3,vs++[v],zs++[dv],rs,(eP.then eB).chg hp,s5.chg YF,((r3.mono e4).mono e5).chg YF,bf,Reps.chg YF ((rz.mono eB).append (.cons r5 .nil)),h6,by simp,by rw[YQ,aav];omega⟩
 ·have e:i=xs.length:=by omega
  subst e
  refine .inl ⟨iti.2 (YL _),?_⟩
  rw[List.drop_length] at hl
  cases hl
  have eF:Ext μ1 H1 ⟨cs,μ1.fb⟩ H':=⟨rfl,eP.pre,eP.keep,eP.dom⟩
  dsimp only at post
  rw[Zn] at post
  exact post _ H' ⟨cs,μ1.fb⟩ (e1.trans eF) s'.less (.lst hpv ⟨λz=>s'.disj p YF z,hpn.2⟩ rz.less)
noncomputable def Tr
  (hc:X.calm=true) (B:BlockOk X N' scope cap) (hi:DI X tg iter mi) (hg:∀ C s H fp,DG (qG X N' scope C s H fp) tg g) (ht:∀ C s H fp,Va (qG X N' scope C s H fp) ifs t) (he:∀ C s H fp,DE (qG X N' scope C s H fp) elt me)
  (hs:∀ x,ada iter X.env x=pure x):DE X (.ListComp elt [⟨tg,iter,ifs,0⟩] scope pos) (bH mi g t me cap):=
 PE.imp (Rn (g:=tMG X.K g) (tt:=La X.K t) (te:=tM X.K me) hc B hi hg ht he hs) λ_ _ _ h=>Bh h
noncomputable def Gm{spos:Pos}{y:Str}{i:Nat}
  (hN:X.N.Nodup) (hy:X.N[i]?=U y) (hx:Qm X.env.scope y)
  (hc:X.calm=true) (B:BlockOk X N' scope cap) (hi:DI X tg iter mi) (hg:∀ C s H fp,DG (qG X N' scope C s H fp) tg g) (ht:∀ C s H fp,Va (qG X N' scope C s H fp) ifs t) (he:∀ C s H fp,DE (qG X N' scope C s H fp) elt me)
  (hsw:swapsWith (.ListComp elt [⟨tg,iter,ifs,0⟩] scope pos) (U (.Name y py)) spos.line X.env=pure true)
  (hs:∀ x,ada iter X.env x=pure x) (hf:X.fn y=true\/X.env.scope.names.lookup y=U .local) :
  DS X (.Assign [.Name y py] (.ListComp elt [⟨tg,iter,ifs,0⟩] scope pos) spos) (aX (bH mi g t me cap) (ah i)):=
 PS.imp (EJ (g:=tMG X.K g) (tt:=La X.K t) (te:=tM X.K me) hN hy hx hc B hi hg ht he hsw hs hf) λE σ H h=>by
  obtain⟨μ,S,env,o,hS,hE,hm,post⟩:=h
  obtain⟨⟨d,S1⟩,h1,hm⟩:=Yx.mp hm
  cases hm
  exact Bh ⟨μ,S,env,d,S1,hS,hE,h1,λv H1 μ1 e1 s1 r1=>post _ H1 μ1 e1 s1 ((hE.mono e1).set r1 i)⟩
end
section
variable{X:Cx}{K:adf}{μ μ':Fp}{H H':Hp}{S:ac}{pos p2:Pos}{tg iter:Nl}{m:ME}
noncomputable def xo(N N':List Str)(kX kB:Str->Option NameKind):List (Option Nat)->List Str->Bool
 | [],[]=>true
 | none::r,_::s=>xo N N' kX kB r s
 | some i::r,y::s=>N[i]?==U y&&(kX y==U .cell||kX y==U .free)&&(kB y==U .cell||kB y==U .free)&&xo N N' kX kB r s
 | _,_=>false
theorem AF{kX:Str->Option NameKind}:∀ {cap:List (Option Nat)} {ys:List Str},xo N N' kX kB cap ys=true->cap.length=ys.length/\∀ (j i:Nat),cap[j]?=U (U i)->∃ y,ys[j]?=U y/\N[i]?=U y/\(kX y=U .cell\/kX y=U .free)/\(kB y=U .cell\/kB y=U .free)
 | [],[],_=>⟨rfl,λj i e=>by simp at e⟩
 | none::r,y::s,h=>by
  obtain⟨h1,h2⟩:=AF (cap:=r) (ys:=s) h
  refine⟨by simp[h1],λj i e=>?_⟩
  cases j with
  | zero=>simp at e
  | succ j=>simpa using h2 j i (by simpa using e)
 | some k::r,y::s,h=>by
  rw[xo,YD,YD,YD,aaW,aaW] at h
  obtain⟨h1,h2⟩:=AF (cap:=r) (ys:=s) h.2
  refine⟨by simp[h1],λj i e=>?_⟩
  cases j with
  | zero=>
   simp at e;subst e
   refine⟨y,rfl,by simpa using h.1.1.1,?_,?_⟩
   ·exact h.1.1.2.imp (λz=>by simpa using z) λz=>by simpa using z
   ·exact h.1.2.imp (λz=>by simpa using z) λz=>by simpa using z
  | succ j=>simpa using h2 j i (by simpa using e)
 | [],_::_,h=>by simp[xo] at h
 | none::_,[],h=>by simp[xo] at h
 | some _::_,[],h=>by simp[xo] at h
noncomputable def blk{N':List Str}{scope:Scope}(nd:N'.Nodup)(k:scope.kind=.function)(nc:(scope.names.all λx=>x.2 != .cell)=true)(nm:(scope.names.all λx=>x.2 != .local||scope.names.lookup x.1==U .local)=true)
  (fr:(scope.names.all λx=>x.2 != .free||X.env.kindOf x.1==U .cell||X.env.kindOf x.1==U .free)=true)
  (cp:xo X.N N' X.env.kindOf (λy=>(relabel scope X.env).names.lookup y) cap N'=true):BlockOk X N' scope cap:=by
 obtain⟨h1,h2⟩:=AF cp
 refine⟨k,λx hx=>?_,λx hx hl=>?_,λx hx hf=>?_,nd,h1,λj i e=>?_⟩
 ·have:=YO.mp nc x hx
  simpa using this
 ·have:=YO.mp nm x hx
  simpa[hl] using this
 ·have:=YO.mp fr x hx
  simpa[hf] using this
 ·obtain⟨y,a,b,c,d⟩:=h2 j i e
  exact⟨y,a,b,.inr c,c,d⟩
def VF(hl:PE X l tl):PI X tg l (λσ H R=>tl σ H λx H1=>∃ a,x=.ref a/\(((∃ xs,pz X.K H1 a xs)/\R (Itl X.K a) H1)\/((∃ xs,lZ X.K H1 a xs)/\R (Itt X.K a) H1))):=by
 intro pins s σ H R I h
 refine cZ (hl pins s σ H _ I h) λv s1 ⟨x,H1,I1,r1,q1⟩=>?_
 obtain⟨a,e,⟨⟨xs,hq⟩,q⟩ | ⟨⟨xs,hq⟩,q⟩⟩:=q1
 ·subst e
  cases r1
  obtain⟨its,rv,p,hz⟩:=I1.list hq
  refine aaZ p.isList ?_
  refine⟨s1.heap.objs.size,[s1.heap.objs.size],_,_,H1,rfl,I1.kept (t':=s1.toks) λb o e=>YA _ e,xy a _,⟨_,YN _ rfl,rfl,rfl⟩,λb hb=>?_,q⟩
  have e:b=s1.heap.objs.size:=by simpa using hb
  subst e
  exact I1.fpOk (YL _) (I1.hok.fresh (YL _))
 ·subst e
  cases r1
  obtain⟨its,rv,p,hz⟩:=I1.tuple hq
  refine aaE (show s1.heap.IsTuple a its.toArray from p) ?_
  refine⟨s1.heap.objs.size,[s1.heap.objs.size],_,_,H1,rfl,I1.kept (t':=s1.toks) λb o e=>YA _ e,Ei a _,⟨_,YN _ rfl,rfl,rfl⟩,λb hb=>?_,q⟩
  have e:b=s1.heap.objs.size:=by simpa using hb
  subst e
  exact I1.fpOk (YL _) (I1.hok.fresh (YL _))
noncomputable def dq(m:ME):MA:=λenv S=>(m env S).bind λp=>match p.1 with | .lst xs=>U (xs,p.2) | .rol xs=>U (xs,p.2) | .tup xs=>U (xs,p.2) | _=>Y
def Gw(h:DE X iter m):DI X tg iter (dq m):=PI.imp (VF h) λσ H R ⟨μ,S,env,xs,S',hS,hE,hm,post⟩=>by
 obtain⟨⟨d,S1⟩,h1,hm⟩:=Yx.mp hm
 refine⟨μ,S,env,d,S1,hS,hE,h1,λv H1 μ1 e1 s1 r1=>?_⟩
 cases d with
 | lst ys=>
  cases hm
  have r1':=r1
  obtain⟨a,vs,rfl,q,_,rs⟩:=r1.sqL
  exact⟨a,rfl,.inl ⟨⟨vs,.inl (.inl q)⟩,post _ H1 μ1 e1 s1 (yj (.inl rfl) r1' rfl)⟩⟩
 | rol ys=>
  cases hm
  have r1':=r1
  obtain⟨a,vs,rfl,q,rs⟩:=r1.sqR
  exact⟨a,rfl,.inl ⟨⟨vs,q⟩,post _ H1 μ1 e1 s1 (yj (.inr rfl) r1' rfl)⟩⟩
 | tup ys=>
  cases hm
  have r1':=r1
  obtain⟨a,vs,rfl,q,rs⟩:=r1.sqT
  exact⟨a,rfl,.inr ⟨⟨vs,q⟩,post _ H1 μ1 e1 s1 (NN r1')⟩⟩
 | _=>cases hm
end
noncomputable def aQ(N:List Str)(m:MS)(n:Nat):List D->ac->Option (D×ac):=λds S=>if ds.length=n then(m (az N ds) S).bind λo=>match o with | .rt d S'=>U (d,S') | .nx _ S'=>U (.non,S') | _=>Y else Y
def xH{S':ac}{d:D}(h:aQ N m n ds S=U (d,S')):Runs m (az N ds) S d S':=by
 unfold aQ at h
 split at h
 ·obtain⟨o,h1,h⟩:=Yx.mp h
  cases o with
  | rt d' S2=>cases h;exact .ret h1
  | nx e S2=>cases h;exact⟨_,[],h1,.inl rfl,.inr ⟨rfl,e,by rw[Zn]⟩⟩
  | bk _ _=>cases h
  | ct _ _=>cases h
 ·cases h
structure bG(K:adf)(mg:Str->Option gV)(x:Str)(st:Uo):Prop where
 ex:∃ (a:tx) (fd:FuncData),L2.Fun K x x st a fd/\mg x=U (.ref a)
def pC(x:Str)(st:Uo)(ps:List Str):Prop:=∀ (kV doc pm:gV) (an:Option tx) (cdv ct:gV) (us:List gV),us.length=ps.length->bindArgs (W.fnOf x x (fP st) (aD st) (ar st) .none kV doc pm an cdv ct) ⟨us,[]⟩=pure (ps.zip us)
def XH{K:adf}{k:Nat}{st:Uo}
  (F:bG K mg x st) (Sc:aN N ps (ar st)) (hb:pC x st ps)
  (hbody:∀ (a:tx) (cdv:gV) (A:Wr) (outer:List PySem.Env) (s:td) (H:Hp) (E:XK),Room k (A.deeper (envOfC x (ar st) s.heap.objs.size a cdv)) ->
   xq (sT Eb P w K mg base N x (ar st) a cdv A outer s H E).nox (aD st) m) :
  Fn P w K mg base (k+1) x ps.length (aQ N m ps.length):=by
 obtain⟨a,fd,F,hmg⟩:=F.ex
 exact UL F Sc hmg (F.binds hb) λcdv A outer s H E hr=>⟨m,hbody a cdv A outer s H E hr,λds S d S' hn hS hd h=>xH h⟩
def Fn.up{K:adf}{k k':Nat}(F:Fn P w K mg base k x n f)(h:k<=k':=by decide):Fn P w K mg base k' x n f:=by
 obtain⟨a,fd,ps,h1,h2,h3⟩:=F.ex
 exact⟨a,fd,ps,h1,h2.mono h,h3⟩
def Wv{K:adf}{f:List D->ac->Option (D×ac)}(h:∀ ns:List Int,ns.length<=63->∃ S',f [.rol (ns.map .int)] []=U (.bl true,S')){ns:List Int}(hl:ns.length<=63)(hS:pz K H a (ns.map V.int)) :
  LK K 1 f [.ref a] H (λv _=>v=.bl true) E:=by
 obtain⟨S',hf⟩:=h ns hl
 have hr:∀ l:List Int,Reps K ⟨[],[]⟩ H (l.map V.int) (l.map D.int):=λl=>by
  induction l with
  | nil=>exact .nil
  | cons x l ih=>exact .cons (.int x) ih
 refine⟨⟨[],[]⟩,[],_,_,S',⟨List.nodup_nil,rfl,λr a c h=>by simp at h,λa h=>by simp at h,λa h=>by simp at h⟩,.cons ?_ .nil,rfl,hf,λv H' μ' e s r=>r.bl_inv⟩
 rcases hS with hS | hS
 ·exact .rol hS ⟨by simp,by simp⟩ (hr ns)
 ·exact .krol hS (hr ns)
noncomputable def Om(_:ac)(x:D):Option D:=match x with | .int i=>U (.int (-i)) | _=>Y
def Qr:UnR X (unaryOp .USub) (rM1 X.K Om):=Vf
noncomputable def bQ:MT:=λ_ S=>U (true,S)
def Pc:Va X [] bQ:=SS
def Ww{K:adf}{k:Nat}{st:Uo}(F:bG K mg "law" st)(hfa:mg "law" = U (.ref fa))(Sc:aN N ["_law_script"] (ar st))
  (hbt:∀ (kV doc pm:gV) (an:Option tx) (cdv ct v:gV),bindArgs (W.fnOf "law" "law" (fP st) (aD st) (ar st) .none kV doc pm an cdv ct) ⟨[v],[]⟩=pure [(("_law_script":Str),v)])
  (hbody:∀ (base:Ws) (a:tx) (cdv:gV) (A:Wr) (outer:List PySem.Env) (s:td) (H:Hp) (E:XK),Room k (A.deeper (envOfC "law" (ar st) s.heap.objs.size a cdv)) ->
   xq (sT Eb P w K mg base N "law" (ar st) a cdv A outer s H E).nox (aD st) m) :
  ∃ fd:FuncData,(∀ (s:td) (v:gV),BindsTo s fd ⟨[v],[]⟩ [("_law_script",v)])/\∀ base:Ws,K.In base->base.Ns adb mg->FnOk P w K mg base Eb (k+1) fa fd ["_law_script"] (LK K 1 (aQ N m 1)):=by
 obtain⟨a,fd,F,hmg⟩:=F.ex
 rw[hfa] at hmg
 have e:fa=a:=by cases hmg;rfl
 subst e
 refine⟨fd,λs v=>?_,λbase _ _=>UK F Sc λcdv A outer s H E hr=>⟨m,hbody base fa cdv A outer s H E hr,λds S d S' hn hS hd h=>xH h⟩⟩
 obtain⟨oc,od,kV,doc,pm,an,cdv,ct,osl,rfl,lk,hcd⟩:=F.ex
 exact .of_eq (hbt kV doc pm an cdv ct v)
end M
namespace HT
open AutoSeq1 (wpAny_loadPart')
theorem EY:fillsNumberSlot (.type "tuple") "mul" = pure false:=
 PySem.fillsNumberSlot_seq (id:="tuple.__mul__") (r:=U (.builtin "tuple.__rmul__"))
  F.slot_tuple_mul.lookup (by decide +kernel) F.slot_tuple_rmul.lookup (by decide +kernel)
theorem Vw:seqRepeat? (.type "tuple")=pure (U (.builtin "tuple.__mul__")):=by
 unfold seqRepeat?
 rw[PySem.seqSlot_of (T:="tuple") (name:="__mul__") (id:="tuple.__mul__") F.slot_tuple_mul.lookup (by decide +kernel)]
 rw[PySem.seqSlot_of (T:="tuple") (name:="__rmul__") (id:="tuple.__rmul__") F.slot_tuple_rmul.lookup (by decide +kernel)]
 rfl
def LX(a:Int)(t:Tok)(l:tx)(items:Array gV)(n:Nat)(dd:Option tx)(sl:Array (Option gV)) :
  Meets (Builtin.«int.__rmul__» ⟨[.int a t,.ref l],[]⟩) (λ_ R s=>s.heap.get? l=U ⟨.type "tuple",dd,.seq items n,sl⟩/\R (.ok (.ret Value.notImplemented)) s):=
 .of_wp λprog w A R s h=>by
  obtain⟨hp,g,d,tk,os⟩:=s
  obtain⟨hl,h⟩:=h
  wp_walk
  exact⟨_,rfl,h⟩
def mulT0(l:tx)(items:Array gV)(n:Nat)(k:Int)(t:Tok)(dd:Option tx)(sl:Array (Option gV))(h1:¬ (decide (k < -(2^63))||decide (k≥2^63))=true)(hc:(items.isEmpty||k==1)=true) :
  Meets (Builtin.«tuple.__mul__» ⟨[.ref l,.int k t],[]⟩) (λ_ R s=>s.heap.get? l=U ⟨.type "tuple",dd,.seq items n,sl⟩/\R (.ok (.ret (.ref l))) s):=
 .of_wp λprog w A R s h=>by
  obtain⟨hp,g,d,tk,os⟩:=s
  obtain⟨hl,h⟩:=h
  have f1:=abR
  have f2:=abb
  wp_walk using wpAny_loadPart' hl
  rw[if_neg h1]
  wp_walk using wpAny_loadPart' hl
  exact⟨_,rfl,h⟩
def mulT1(l:tx)(items:Array gV)(n:Nat)(k:Int)(t:Tok)(dd:Option tx)(sl:Array (Option gV))(h1:¬ (decide (k < -(2^63))||decide (k≥2^63))=true)(hc:¬ (items.isEmpty||k==1)=true)(hk:(decide (k<=0)||items.isEmpty)=true) :
  Meets (Builtin.«tuple.__mul__» ⟨[.ref l,.int k t],[]⟩) (λ_ R s=>s.heap.get? l=U ⟨.type "tuple",dd,.seq items n,sl⟩/\R (.ok (.ret (.ref s.heap.objs.size))) { s with heap:=s.heap.push { cls:=.type "tuple",data:=.seq #[] },toks:=s.toks }):=
 .of_wp λprog w A R s h=>by
  obtain⟨hp,g,d,tk,os⟩:=s
  obtain⟨hl,h⟩:=h
  have f1:=abR
  have f2:=abb
  wp_walk using wpAny_loadPart' hl
  rw[if_neg h1]
  wp_walk using wpAny_loadPart' hl
  exact⟨_,rfl,h⟩
def mulT2(l:tx)(items:Array gV)(n:Nat)(k:Int)(t:Tok)(dd:Option tx)(sl:Array (Option gV))(h1:¬ (decide (k < -(2^63))||decide (k≥2^63))=true)(hc:¬ (items.isEmpty||k==1)=true)(hk:¬ (decide (k<=0)||items.isEmpty)=true)
  (hb:¬ ((items.size:Int)*k>(2^63 - 1) / 8)) (hm:¬ Builtin.Tuple.tupleTooMany ((items.size:Int)*k)=true) (hz:(List.foldl (λx1 x2=>x1++x2) #[] (adg k.toNat items)).size<=acY) :
  Meets (Builtin.«tuple.__mul__» ⟨[.ref l,.int k t],[]⟩) (λ_ R s=>s.heap.get? l=U ⟨.type "tuple",dd,.seq items n,sl⟩/\R (.ok (.ret (.ref s.heap.objs.size))) { s with heap:=s.heap.push { cls:=.type "tuple",data:=.seq (List.foldl (λx1 x2=>x1++x2) #[] (adg k.toNat items)) },toks:=s.toks }):=
 .of_wp λprog w A R s h=>by
  obtain⟨hp,g,d,tk,os⟩:=s
  obtain⟨hl,h⟩:=h
  have f1:=abR
  have f2:=abb
  wp_walk using wpAny_loadPart' hl
  rw[if_neg h1]
  wp_walk using wpAny_loadPart' hl
  rw[if_neg hb]
  wp_walk using wpAny_loadPart' hl
  exact⟨_,rfl,h⟩
end HT
namespace L2
section
variable{X:Cx}
theorem vrep(h:Vals xs us):∀ k:Nat,Vals (adg k xs).flatten (adg k us).flatten
 | 0=>.nil
 | k+1=>by rw[Zc,Zc,ZK,ZK];exact h.append (vrep h k)
theorem frep(its:List gV):∀ (m:Nat) (acc:List gV),List.foldl (λx1 x2=>x1++x2) acc.toArray (adg m its.toArray)=(acc++(adg m its).flatten).toArray
 | 0,acc=>by simp
 | m+1,acc=>by
  rw[Zc,List.foldl_cons,List.append_toArray,frep its m (acc++its),Zc,ZK,Ze]
def rRepT(K:adf):R2:=λx y H Q=>∃ a k xs,x=.ref a/\y=.int k/\lZ K H a xs/\-(2^62)<=k/\k<2^62/\xs.length*k.toNat<=acY /\
 ((xs=[]\/k=1)->Q (.ref a) H)/\((xs≠[]/\k≠1)->∀ p,H p=Y->Q (.ref p) (upd H p (.tup (adg k.toNat xs).flatten)))
theorem Rx:OpR X (add .Mult) (rRepT X.K):=by
 intro pins s σ H x y v u Q I rx ry h
 obtain⟨l,k,xs,rfl,rfl,hq,h1,h2,hz,q1,q2⟩:=h
 cases rx
 obtain⟨t,rfl⟩:=ry
 obtain⟨its,r,hT,hzz⟩:=I.tuple hq
 obtain⟨⟨cls,dd,data,sl⟩,e,hc,n,hd⟩:=id hT
 simp only at hc hd
 subst hc hd
 have hlen:xs.length=its.length:=r.length
 have g1:¬ (decide (k < -(2^63))||decide (k≥2^63))=true:=by simp;omega
 have road:∀ {S:PySem.Spec},Meets (Builtin.«tuple.__mul__» ⟨[.ref l,.int k t],[]⟩) S->S X.A (wants (EP X pins σ Q) X.xe) s->ade (model X.prog X.w) X.A (add .Mult (.ref l) (.int k t)) (EP X pins σ Q) X.xe s:=λM hS=>
  acb (T:="tuple") (U:="int") (by decide) ⟨_,e,rfl⟩ (λs'=>abD s' k t) HT.EY F.fills_int_mul abp HT.Vw F.slot_int_index.lookup
   (aaD abp (abD s k t) F.entry_int_rmul (F.args_int_rmul_2 _ _) (HT.LX k t l its.toArray n dd sl)
    ⟨e,rfl,⟨_,e,rfl⟩,aaD F.slot_tuple_mul ⟨_,e,rfl⟩ F.entry_tuple_mul (F.args_tuple_mul_2 _ _) M hS⟩)
 by_cases hs:xs=[]\/k=1
 ·have hcc:(its.toArray.isEmpty||k==1)=true:=by
   rcases hs with rfl | rfl
   ·cases r;rfl
   ·simp
  exact road (HT.mulT0 l its.toArray n k t dd sl g1 hcc) ⟨e,.ref l,H,I,rfl,q1 hs⟩
 ·have hx:xs≠[]:=λz=>hs (.inl z)
  have hk1:k≠1:=λz=>hs (.inr z)
  have hi:its≠[]:=λz=>by subst z;cases r;exact hx rfl
  have hcc:¬ (its.toArray.isEmpty||k==1)=true:=by simp[hi,hk1]
  by_cases hk:k<=0
  ·have hk':(decide (k<=0)||its.toArray.isEmpty)=true:=by simp[hk]
   have k0:k.toNat=0:=by omega
   refine road (HT.mulT1 l its.toArray n k t dd sl g1 hcc hk') ⟨e,.ref _,_,I.laid (o:=.tup []) (λ_ _ q=>YA _ q) (YL _) ⟨by simp,[],.nil,⟨_,YN _ rfl,rfl,⟨0,rfl⟩,rfl⟩⟩,rfl,?_⟩
   have:=q2 ⟨hx,hk1⟩ s.heap.objs.size I.fresh
   rw[k0] at this
   exact this
  ·have hk':¬ (decide (k<=0)||its.toArray.isEmpty)=true:=by simp[hi];omega
   have km:(k.toNat:Int)=k:=by omega
   have hpr:((its.length:Int)*k)<=acY:=by rw[<- km,<- hlen];exact_mod_cast hz
   have hsl:((acY:Nat):Int)<=(2^63 - 1) / 8:=by decide
   have hf:=frep its k.toNat []
   rw[abZ] at hf
   have hf':List.foldl (λx1 x2=>x1++x2) #[] (adg k.toNat its.toArray)=(adg k.toNat its).flatten.toArray:=hf
   have hl2:(adg k.toNat its).flatten.length<=acY:=by rw[Ab,<- hlen,abH];exact hz
   refine road (HT.mulT2 l its.toArray n k t dd sl g1 hcc hk' (by rw[YC];omega) (by unfold Builtin.Tuple.tupleTooMany;rw[YC];simp;omega) (by rw[hf',YC];exact hl2)) ⟨e,?_⟩
   rw[hf']
   exact⟨.ref _,_,I.laid (o:=.tup (adg k.toNat xs).flatten) (λ_ _ q=>YA _ q) (YL _) ⟨by rw[Ab,abH];exact hz,(adg k.toNat its).flatten,vrep r _,⟨_,YN _ rfl,rfl,⟨0,rfl⟩,rfl⟩⟩,rfl,q2 ⟨hx,hk1⟩ _ I.fresh⟩
end
end L2
namespace M
open L2
section
variable{X:Cx}{K:adf}{μ μ':Fp}{H H':Hp}{S:ac}
noncomputable def cH(S:ac)(x y:D):Option D:=match x,y with
 | .tup xs,.int k=>if -(2^62)<=k/\k<2^62/\xs.length*k.toNat<=acY then U (.tup (adg k.toNat xs).flatten) else Y
 | .lst xs,.int k=>if -(2^62)<=k/\k<2^62/\xs.length*k.toNat<=acY then U (.lst (adg k.toNat xs).flatten) else Y
 | x,y=>Xm S x y
def flat1{α:Type}(xs:List α):(adg 1 xs).flatten=xs:=by simp
theorem RB:OpR X (add .Mult) (og X.K cH):=OpR.imp (OpR.or Wa (OpR.or Rx VT)) λx y H Q ⟨μ,S,dx,dy,dz,hS,h1,h2,h3,post⟩=>by
 unfold cH at h3
 split at h3
 ·rename_i xs k
  split at h3
  ·rename_i hk
   cases h3
   obtain⟨a,vs,rfl,q,r⟩:=h1.sqT
   have h1':=h1
   refine .inr (.inl ⟨a,k,vs,rfl,h2.int_inv,q,hk.1,hk.2.1,by rw[r.length];exact hk.2.2,λhs=>?_,λ_ p hp=>post.tup hS hp (Reps.flat _ r)⟩)
   have e:(adg k.toNat xs).flatten=xs:=by
    rcases hs with rfl | rfl
    ·cases r;simp
    ·exact flat1 xs
   rw[e] at post
   exact post.here hS h1'
  ·cases h3
 ·rename_i xs k
  split at h3
  ·rename_i hk
   cases h3
   obtain⟨a,vs,rfl,q,n,r⟩:=h1.sqL
   exact .inr (.inr ⟨a,k,vs,rfl,h2.int_inv,q,by omega,by omega,by rw[r.length];exact hk.2.2,λp hp=>post.lst hS hp (Reps.flat _ r)⟩)
  ·cases h3
 ·exact .inl ⟨μ,S,dx,dy,dz,hS,h1,h2,h3,post⟩
abbrev MF:=D->List D->ac->Option (D×ac)
inductive Ql(K:adf)(f:MF)(x:V)(vs:List V)(H:Hp)(Q:VK):Prop
 | mk (μ:Fp) (S:ac) (dx:D) (ds:List D) (d:D) (S':ac) (hS:SOk K μ S H) (h1:Rep K μ H x dx) (h2:Reps K μ H vs ds) (h3:f dx ds S=U (d,S')) (post:Post K μ H S' d Q)
def MtR.imp{id:String}{r':V->List V->Hp->VK->Prop}(h:MtR X id r)(i:∀ x xs H Q,r' x xs H Q->r x xs H Q):MtR X id r':=λpins s σ H x xs v us Q I rx rv q=>h pins s σ H x xs v us Q I rx rv (i x xs H Q q)
noncomputable def ej:MF:=λo ds S=>match o,ds with
 | .ref r,[y]=>match S[r]? with | some (.lst xs)=>if xs.length<acY then U (.non,S.set r (.lst (xs++[y]))) else Y | _=>Y
 | _,_=>Y
noncomputable def vO:MF:=λo ds S=>match ds with
 | [x]=>(jb S o).bind λys=>if cB 40 x=true/\ys.all (cB 39)=true then U (.int (ys.countP λd=>jd d x),S) else Y
 | _=>Y
def Jm:MtR X "list.append" (Ql X.K ej):=MtR.imp xP λx vs H Q ⟨μ,S,dx,ds,d,S',hS,r1,r2,h,post⟩=>by
 unfold ej at h
 split at h
 ·rename_i r y
  obtain⟨v,rfl,rv⟩:=r2.one
  cases q:S[r]? with
  | none=>rw[q] at h;cases h
  | some c=>
   rw[q] at h
   cases c with
   | dct _ _=>cases h
   | lst xs=>
    dsimp only at h
    split at h
    ·rename_i hz
     cases h
     cases r1 with
     | @ref a _ h'=>
      obtain⟨ws,hw,rw'⟩:=hS.cell r a _ h' q
      obtain⟨e,s'⟩:=hS.write h' hw (rw'.append (.cons rv .nil))
      exact⟨a,ws,v,rfl,rfl,hw,by rw[rw'.length];exact hz,post _ _ μ e s' .non⟩
    ·cases h
 ·cases h
theorem nu{s:td}(I:Inv X pins σ H s):∀ {vs:List V} {us:List gV} {ds:List D},Vals vs us->Reps X.K μ H vs ds->(∀ d∈ds,cB 39 d=true) ->
  us.countP (eL X.K μ H x)=ds.countP λd=>jd d x
 | _,_,_,.nil,.nil,_=>rfl
 | _,_,_,.cons rv tv,.cons r t,ok=>by
  rw[List.countP_cons,List.countP_cons,qy I rv r (ok _ YF),nu I tv t λd m=>ok d (YB _ m)]
noncomputable def qV(S:ac):D->Bool
 | .lst _=>true
 | .rol _=>true
 | .ref r=>match S[r]? with | some (.lst _)=>true | _=>false
 | _=>false
def qc{d:D}(hS:SOk K μ S H)(r:Rep K μ H v d)(h:qV S d=true):∃ a vs ds,v=.ref a/\pz K H a vs/\jb S d=U ds/\Reps K μ H vs ds:=by
 cases r with
 | lst h' n r=>exact⟨_,_,_,rfl,.inl (.inl h'),rfl,r⟩
 | rol h' n r=>exact⟨_,_,_,rfl,.inl h',rfl,r⟩
 | krol h' r=>exact⟨_,_,_,rfl,.inr h',rfl,r⟩
 | @ref a i h'=>
  simp only[qV] at h
  cases q:S[i]? with
  | none=>rw[q] at h;cases h
  | some c=>
   rw[q] at h
   cases c with
   | dct _ _=>cases h
   | lst xs=>
    obtain⟨vs,e,r⟩:=hS.cell i a _ h' q
    exact⟨a,vs,xs,rfl,.inl (.inl e),by simp only[jb,q],r⟩
 | _=>cases h
noncomputable def nU:MF:=λo ds S=>if qV S o=true then vO o ds S else Y
def BQ(hu:X.A.units+64<cLine):MtR X "list.count" (Ql X.K nU):=by
 intro pins s σ H x vs v us Q I rx rv h
 obtain⟨μ,S,dx,ds,d,S',hS,r1,r2,h,post⟩:=h
 unfold nU at h
 split at h
 ·rename_i hl
  unfold vO at h
  split at h
  ·rename_i y
   obtain⟨a,ws,es,rfl,hq,hse,re⟩:=qc hS r1 hl
   rw[hse] at h
   dsimp only[Option.bind_some] at h
   split at h
   ·rename_i hk
    cases h
    cases rx
    obtain⟨w,rfl,rw0⟩:=r2.one
    obtain⟨u,rfl,ru⟩:=rv.one
    obtain⟨its,rvs,⟨⟨cls,dd,data,sl⟩,n,e,hc,hdd,hd⟩,hz⟩:=I.list hq
    simp only at hc hdd hd
    subst hc hdd hd
    have ok:=YO.mp hk.2
    refine aaD abE ⟨_,e,rfl⟩ F.entry_list_count (F.args_list_count_2 _ _) (SeqAt.list_countAt a its.toArray n Y sl u (eL X.K μ H y)) ⟨e,λw' hw'=>?_,?_⟩
    ·exact gz I (by show X.A.units+1+40<cLine;omega) ru rw0 hk.1 rvs re ok w' (by simpa using hw')
    ·refine⟨.int _,H,I.tok _,⟨_,rfl⟩,?_⟩
     rw[nu I rvs re ok]
     exact post.here hS (.int _)
   ·cases h
  ·cases h
 ·cases h
noncomputable def fz(f:MF)(o:ME)(ms:MA):ME:=λenv S=>(o env S).bind λp=>if qV p.2 p.1=true then(ms env p.2).bind λq=>f p.1 q.1 q.2 else Y
def Il{e:Nl}{es:List Nl}{name:Str}{id:String}{apos:Pos}(slot:Slot "list" name id)(hty:typeOf (.builtin id)=pure (.type "method_descriptor"))(hm:MtR X id (Ql X.K f))(ho:DE X o mo)(ha:DA X (e::es) ms)
  (hbase:attributeBase o name X.env (eval o X.env)=eval o X.env)
  (hfew:((backTo cpos (acZ (e::es) X.env)).all (λx=>!x.1)&&(backToKw cpos (keywordEach [] X.env)).all (λx=>x.1.isSome)&&decide ((e::es).length+([]:List Keyword).length+(if ([]:List Keyword).isEmpty then 0 else 1)<30))=true)
  (hline:(apos.endLine==cpos.line)=true) (hs:acZ (e::es) X.env=(false,eval e X.env)::acZ es X.env) (hpl:(backTo cpos (acZ es X.env)).any (·.1)=false) :
  DE X (.Call (.Attribute o name apos) (e::es) [] cpos) (fz f mo ms):=
 PE.imp (pe_bm F.plainAttrs_list slot hty hm ho ha hbase hfew hline hs hpl) λσ H Q ⟨μ,S,env,d,S',hS,hE,h,post⟩=>by
  obtain⟨⟨x,S1⟩,h1,h⟩:=Yx.mp h
  dsimp only at h
  split at h
  ·rename_i hl
   obtain⟨⟨xs,S2⟩,h2,h⟩:=Yx.mp h
   refine⟨μ,S,env,x,S1,hS,hE,h1,λv H1 μ1 e1 s1 r1=>⟨?_,μ1,S1,env,xs,S2,s1,hE.mono e1,h2,λvs H2 μ2 e2 s2 r2=>⟨μ2,S2,x,xs,d,S',s2,r1.mono e2,r2,h,(post.ext e1).ext e2⟩⟩⟩
   obtain⟨a,ws,es,rfl,hq,_,_⟩:=qc s1 r1 hl
   exact .inl ⟨rfl,ws,hq⟩
  ·cases h
end
end M
namespace HT
open AutoSeq1 (wpAny_loadPart')
section
variable{prog:Of}{w:RG}{A:Wr}{E:gV->td->Prop}{s:td}
def Gn{x:gV}{Q:gV->td->Prop}(hit:s.heap.IsTupleIter it t i)(ht:s.heap.IsTuple t items)(hx:items[i]?=U x)
  (hQ:∀ h',h'.IsTupleIter it t (i+1)->Heap.SameBut it s.heap h'->Q x { s with heap:=h' }):ade (model prog w) A (Builtin.SmallTypes.nextOf (.ref it)) Q E s:=by
 obtain⟨o,ho,hc,hd⟩:=id hit;obtain⟨ol,hol,_,nl,hdl⟩:=ht
 unfold Builtin.SmallTypes.nextOf
 refine Yy (ZM (name:=Str.ofString "__next__") hit.typeIs aax (aak aax hit.typeIs aca ?_ (abT _)))
 show ade _ _ (field (.ref it) 0 >>= _) _ _ s;refine Yy (Zl ho hd (x:=.ref t) rfl ?_)
 show ade _ _ (if (Value.ref t==Value.none)=true then _ else _) _ _ s;rw[if_neg (show ¬ ((Value.ref t==Value.none)=true) from adh)]
 show ade _ _ (field (.ref it) 1 >>= _) _ _ s;refine Yy (Zl ho hd (x:=.int i 0) rfl ?_)
 show ade _ _ (seqItems? (.ref t) >>= _) _ _ s;refine Yy (aaa hol hdl ?_);simp only[ZQ,hx]
 refine Yy (Zv ho hd (by simp) (YH ⟨x,rfl,YH (hQ _ ⟨_,YZ _ ho (aat (aao hd _)),(Obj.cls_mapFields ..).trans hc,?_⟩ (ZX ..))⟩))
 rw[aao hd];simp[rawInt]
def rE(hh:A.handled=Y)(hit:s.heap.IsTupleIter it t i)(ht:s.heap.IsTuple t items)(hx:items[i]?=Y)
  (hE:∀ h' e,Heap.ExtBut it s.heap h'->(∃ o,h'.get? e=U o/\o.cls=.type "StopIteration")->E (.ref e) { s with heap:=h' }):ade (model prog w) A (Builtin.SmallTypes.nextOf (.ref it)) Q E s:=by
 obtain⟨o,ho,hc,hd⟩:=id hit;obtain⟨ol,hol,_,nl,hdl⟩:=ht
 unfold Builtin.SmallTypes.nextOf
 refine Yy (ZM (name:=Str.ofString "__next__") hit.typeIs aax (aak aax hit.typeIs aca ?_ (abT _)))
 show ade _ _ (field (.ref it) 0 >>= _) _ _ s;refine Yy (Zl ho hd (x:=.ref t) rfl ?_)
 show ade _ _ (if (Value.ref t==Value.none)=true then _ else _) _ _ s;rw[if_neg (show ¬ ((Value.ref t==Value.none)=true) from adh)]
 show ade _ _ (field (.ref it) 1 >>= _) _ _ s;refine Yy (Zl ho hd (x:=.int i 0) rfl ?_)
 show ade _ _ (seqItems? (.ref t) >>= _) _ _ s;refine Yy (aaa hol hdl ?_);simp only[ZQ,hx]
 refine Yy (abC (Yy (Zv ho hd (by simp) ?_)));show ade _ _ (newExc (.type "StopIteration") [] >>= _) _ _ _
 refine Yy ?_;simp only[newExc,newTuple];refine Yy (Zp ?_ (by size_fits))
 refine Yy (m:=firstArgMember _ _) (acG (a:=Value.none) (by first | rfl | (simp only[firstArgMember];rfl)) (Zp ?_ (by size_fits)))
 simp only[raiseNew];refine Yy (wpAny_handled ?_);(first | rw[show A.in1.handled=Y from hh] | rw[hh])
 refine Yy (YH (wpAny_throw (hE _ _ (((ZX ..).extBut.push _).push _) ⟨_,YN _ rfl,rfl⟩)))
end
def vS{A:Wr}(hh:A.handled=Y)(it t:tx)(hne:t≠it)(items:Array gV) :
  Draws prog w A it [it,t] items.size (λi v=>items[i]?=U v) (λi h=>h.IsTupleIter it t i/\h.IsTuple t items) where
 live:=λ_ _ st=>by obtain⟨o,ho,_⟩:=st.1;exact⟨o,ho⟩
 frame:=λ_ _ _ st hk=>by
  obtain⟨⟨o,ho,r⟩,⟨o2,ho2,r2⟩⟩:=st
  exact⟨⟨o,hk it (by simp) o ho,r⟩,⟨o2,hk t (by simp) o2 ho2,r2⟩⟩
 item:=λi s Q E hi st hQ=>Gn st.1 st.2 (x:=items[i]) (by simp[hi]) λh' hit' hs'=>hQ _ h' s.toks (by simp[hi]) ⟨hit',st.2.extBut hs'.extBut hne⟩ hs'
 done:=λs Q E st hE=>rE hh st.1 st.2 (by simp) hE
def Kn(l:tx)(items:Array gV)(n:Nat)(dct:Option tx)(sl:Array (Option gV)) :
  Meets (Builtin.«enumerate.__new__» ⟨[.type "enumerate",.ref l],[]⟩) (λ_ R s=>s.heap.get? l=U ⟨.type "tuple",dct,.seq items n,sl⟩ /\
   R (.ok (.ret (.ref (s.heap.push { cls:=.type "tuple_iterator",data:=.fields #[.ref l,.int 0 0] }).objs.size)))
    {s with heap:=(s.heap.push { cls:=.type "tuple_iterator",data:=.fields #[.ref l,.int 0 0] }).push { cls:=.type "enumerate",data:=.fields #[.none,.bool false,.ref s.heap.objs.size,rawInt 0,.none,.none] } }):=
 .of_wp λprog w A R s h=>by
  obtain⟨hp,g,d,tk,os⟩:=s
  obtain⟨hl,h⟩:=h
  have hsub:=sub_enumerate
  have hL:Heap.IsTuple (Shared.heap ⟨hp,g,d,tk,os⟩) l items:=⟨_,hl,rfl,n,rfl⟩
  wp_walk using wpAny_loadPart' hl
  refine wpAny_stack_any λst=>YH ?_
  split
  ·rename_i c _ _ _ _ _
   cases(c==Value.type "enumerate")<;>(wp_walk using wpAny_loadPart' hl,aaE hL;exact⟨_,rfl,h⟩)
  ·wp_walk using wpAny_loadPart' hl,aaE hL
   exact⟨_,rfl,h⟩
end HT
namespace HT
section
variable{prog:Of}{w:RG}{A:Wr}{E:gV->td->Prop}{s:td}
def GB{Q:gV->td->Prop}(hL:s.heap.IsTuple l items)
  (h:∀ h':Ws,IsEnum h' (s.heap.objs.size+1) s.heap.objs.size 0 .none->h'.IsTupleIter s.heap.objs.size l 0->h'.objs.size=s.heap.objs.size+2->(∀ b o,s.heap.get? b=U o->h'.get? b=U o)->Q (.ref (s.heap.objs.size+1)) { s with heap:=h' }) :
  ade (model prog w) A (call (.type "enumerate") [.ref l]) Q E s:=by
 obtain⟨⟨c,dct,dt,sl⟩,hl,hc,n,hd⟩:=hL
 simp only at hc hd
 subst hc hd
 refine callType_new F.called_enumerate (by decide) (F.typeCall_enumerate_1 _) (F.newCall_enumerate_1 _) (λobj=>F.args_object_init_2 obj _) F.entry_enumerate_new (Kn l items n dct sl) ⟨hl,?_⟩
 have hz:(s.heap.push { cls:=.type "tuple_iterator",data:=.fields #[.ref l,.int 0 0] }).objs.size=s.heap.objs.size+1:=ZV ..
 show _/\_
 rw[hz]
 have he:IsEnum ((s.heap.push { cls:=.type "tuple_iterator",data:=.fields #[.ref l,.int 0 0] }).push { cls:=.type "enumerate",data:=.fields #[.none,.bool false,.ref s.heap.objs.size,rawInt 0,.none,.none] }) (s.heap.objs.size+1) s.heap.objs.size 0 .none:=by
  have q:=YN (s.heap.push { cls:=.type "tuple_iterator",data:=.fields #[.ref l,.int 0 0] }) (o:={ cls:=.type "enumerate",data:=.fields #[.none,.bool false,.ref s.heap.objs.size,rawInt 0,.none,.none] }) rfl
  rw[hz] at q
  exact q
 exact⟨⟨_,he,rfl⟩,h _ he ⟨_,YA _ (YN _ rfl),rfl,rfl⟩ (by rw[ZV,hz]) λb o x=>YA _ (YA _ x)⟩
end
end HT
namespace L2
section
variable{X:Cx}{pins:List (tx×Obj)}{σ:St}{H:Hp}{s:td}{h':Ws}
def Inv.turnLaid{fp:List tx}{a:tx}{o:HO}{t':Nat}(I:Inv X pins σ H s)(k:∀ b o,b∉fp->s.heap.get? b=U o->h'.get? b=U o)(hf:∀ b∈fp,rP X pins H b)(hp:s.heap.objs.size<=a)
  (new:ObjOk X.prog X.w (upd H a o) h' a o):Inv X pins σ (upd H a o) { s with heap:=h',toks:=t' }:=by
 have hn:H a=Y:=I.hok.fresh hp
 have st:∀ b u,H b=U u->upd H a o b=U u:=λb u e=>(aR (cD e hn)).trans e
 have nfp:∀ b u,H b=U u->b∉fp:=λb u e z=>by rw[(hf b z).1] at e;cases e
 refine I.step (g':=s.gens) (d':=s.drawn) (ch:=fp) (λb hb=>?_) (λb o _ _ hc e _=>k b o hc e) (λb o _ _ hc e _=>⟨o.slots,k b o hc e⟩) (λb u _ e n=>?_) (λb o hc e=>⟨o,k b o hc e⟩) (λb xs e=>st b _ e) (λb o u e=>st b _ e) (λb ps e=>⟨#[],by rw[st b _ e];simp⟩) (λm hm=>?_) (λb u e=>?_) I.bare
 ·obtain⟨f0,f1,f2,f3,f4,f5⟩:=hf b hb
  exact⟨f3,f1,f4,f5⟩
 ·rw[aR (Zi (YV (YI e) hp))];exact n
 ·obtain⟨o',es,ep,ho,r⟩:=hm
  exact⟨o',es,ep,k _ o' (λz=>(hf _ z).2.1 rfl) ho,r⟩
 ·by_cases hb:b=a
  ·subst hb
   rw[bf] at e
   cases e
   exact new
  ·rw[aR hb] at e
   refine(I.hok b u e).stay (λc v hc q=>k c v ?_ q) (λ_ q=>st _ _ q) λ_ _ q=>st _ _ q
   rcases hc with z | z
   ·rw[z];exact nfp b u e
   ·exact nfp c _ z
def Inv.turnedL{fp:List tx}{t':Nat}(I:Inv X pins σ H s)(k:∀ b o,b∉fp->s.heap.get? b=U o->h'.get? b=U o)(hf:∀ b∈fp,rP X pins H b):Inv X pins σ H { s with heap:=h',toks:=t' }:=by
 have nfp:∀ b u,H b=U u->b∉fp:=λb u e z=>by rw[(hf b z).1] at e;cases e
 refine I.step (g':=s.gens) (d':=s.drawn) (ch:=fp) (λb hb=>?_) (λb o _ _ hc e _=>k b o hc e) (λb o _ _ hc e _=>⟨o.slots,k b o hc e⟩) (λb u _ e n=>n) (λb o hc e=>⟨o,k b o hc e⟩) (λb xs e=>e) (λb o u e=>e) (λb ps e=>⟨#[],by rw[e];simp⟩) (λm hm=>?_) (λb u e=>?_) I.bare
 ·obtain⟨f0,f1,f2,f3,f4,f5⟩:=hf b hb
  exact⟨f3,f1,f4,f5⟩
 ·obtain⟨o',es,ep,ho,r⟩:=hm
  exact⟨o',es,ep,k _ o' (λz=>(hf _ z).2.1 rfl) ho,r⟩
 ·refine(I.hok b u e).stay (λc v hc q=>k c v ?_ q) (λ_ q=>q) λ_ _ q=>q
  rcases hc with z | z
  ·rw[z];exact nfp b u e
  ·exact nfp c _ z
noncomputable def Ite(K:adf)(a:tx):It:=
 ⟨λi H=>∃ xs x,lZ K H a xs/\xs[i]?=U x,λi H x H'=>∃ p v,x=.ref p/\H p=Y/\H'=upd H p (.tup [.int (i:Nat),v])/\∀ xs,lZ K H a xs->xs[i]?=U v,λi H=>∃ xs,lZ K H a xs/\xs.length<=i⟩
theorem ID{K:adf}{k:Nat}(a e it:tx)(hei:e≠it):GL P w K (.Tuple es k pos) (Ite K a) [e,it] e (λi h=>(∃ old,IsEnum h e it i old)/\h.IsTupleIter it a i) where
 mem:=by simp
 obj:=λi h st b hb=>by
  obtain⟨⟨old,he⟩,⟨o,ho,hc,hd⟩⟩:=st
  simp only[Zd,ZY,abr] at hb
  rcases hb with rfl | rfl
  ·exact⟨_,he,λv z=>by cases z⟩
  ·exact⟨o,ho,λv z=>by rw[hd] at z;cases z⟩
 keep:=λi h h' st kk=>by
  obtain⟨⟨old,he⟩,⟨o,ho,r⟩⟩:=st
  exact⟨⟨old,kk e (by simp) _ he⟩,⟨o,kk it (by simp) _ ho,r⟩⟩
 item:=by
  intro X hP hw hK hc i pins s σ H E I hf st hg
  subst hP hw hK
  obtain⟨xs,x,hq,hx⟩:=hg
  obtain⟨its,rv,p,hz⟩:=I.tuple hq
  have hT:s.heap.IsTuple a its.toArray:=p
  have hh:=I.ok.hd hc
  have ne1:a≠e:=λz=>by
   obtain⟨⟨old,he⟩,_⟩:=st
   obtain⟨o,ho,hcl,_⟩:=hT
   rw[z,he] at ho;cases ho;exact absurd (show Value.type "enumerate" = Value.type "tuple" from hcl) (by decide)
  have ne2:a≠it:=λz=>by
   obtain⟨_,⟨o',ho',hc',_⟩⟩:=st
   obtain⟨o,ho,hcl,_⟩:=hT
   rw[z,ho'] at ho;cases ho;rw[hc'] at hcl;exact absurd hcl (by decide)
  have W:=WalksT.enumerateD (HT.vS (prog:=X.prog) (w:=X.w) (A:=X.A.in1) hh it a ne2 its.toArray) e hei (by simp;exact⟨hei,λz=>ne1 z.symm⟩) (by simp)
  have hi:i<its.toArray.size:=by rw[YC,<- rv.length];exact(Yz.mp hx).1
  obtain⟨⟨old,he⟩,hit⟩:=st
  have Te:s.heap.objs.size≠e:=ZJ (YI he)
  have Ti:s.heap.objs.size≠it:=by
   obtain⟨o,ho,_⟩:=hit
   exact ZJ (YI ho)
  refine wpAny_pyNext_enum_itemD (HT.vS (prog:=X.prog) (w:=X.w) (A:=X.A.in1) hh it a ne2 its.toArray) he ⟨hit,hT⟩ hi hei (by simp;exact⟨hei,λz=>ne1 z.symm⟩) λy h1 tk hy ho st1 hT1 hsz kk=>⟨_,rfl,?_⟩
  refine W.go es k pos i s.heap.objs.size _ _ _ ⟨⟨y,ho⟩,st1,Te,Ti⟩ λh2 st2 kk2=>?_
  generalize hTT:s.heap.objs.size=T at *
  obtain⟨u,hu,ru⟩:=rv.get hx
  have ey:y=u:=by
   rw[show its.toArray[i]?=its[i]? by simp,hu] at hy
   exact(YU hy).symm
  subst ey
  have apT:T∉[e,it]:=by simp;exact⟨Te,Ti⟩
  have kall:∀ b o,b∉[e,it]->s.heap.get? b=U o->h2.get? b=U o:=λb o hb q=>kk2 b o hb (kk b o (λz=>hb (by simp[z])) (λz=>hb (by simp[z])) q)
  have hT2:IsTupN h2 T #[.int i tk,y]:=⟨_,kk2 T _ apT hT1,rfl,⟨_,rfl⟩,rfl⟩
  have hTs:s.heap.objs.size<=T:=abJ hTT
  refine⟨.ref T,upd H T (.tup [.int (i:Nat),x]),I.turnLaid kall hf hTs ⟨by show 2<=acY;decide,[.int i tk,y],.cons ⟨_,rfl⟩ (.cons ru .nil),hT2⟩,rfl,⟨T,x,rfl,I.hok.fresh hTs,rfl,λys hy=>by rw[I.tuple_inj hy hq];exact hx⟩,⟨st2.1,st2.2.1⟩,λb hb=>?_⟩
  have nb:b≠T:=λz=>apT (by rw[<- z];exact hb)
  rw[aR nb]
  exact(hf b hb).1
 done:=by
  intro X hP hw hK hc i pins s σ H E I hf st hg
  subst hP hw hK
  obtain⟨xs,hq,hx⟩:=hg
  obtain⟨its,rv,p,hz⟩:=I.tuple hq
  have hT:s.heap.IsTuple a its.toArray:=p
  have hh:=I.ok.hd hc
  have ne1:a≠e:=λz=>by
   obtain⟨⟨old,he⟩,_⟩:=st
   obtain⟨o,ho,hcl,_⟩:=hT
   rw[z,he] at ho;cases ho;exact absurd (show Value.type "enumerate" = Value.type "tuple" from hcl) (by decide)
  have D':Draws X.prog X.w X.A.in1 it [it,a] i (λ_ _=>True) (λj h=>j=i/\h.IsTupleIter it a i/\h.IsTuple a its.toArray):=
   {live:=λ_ _ q=>by obtain⟨_,⟨o,ho,_⟩,_⟩:=q;exact⟨o,ho⟩
    frame:=λ_ _ _ q hk=>by
     obtain⟨q0,⟨o,ho,r⟩,⟨o2,ho2,r2⟩⟩:=q
     exact⟨q0,⟨o,hk it (by simp) o ho,r⟩,⟨o2,hk a (by simp) o2 ho2,r2⟩⟩
    item:=λj _ _ _ hj q _=>absurd q.1 (Zi hj)
    done:=λs Q E q hE=>HT.rE hh q.2.1 q.2.2 (by simp;have:=rv.length;omega) hE }
  have W:=WalksT.enumerateD D' e hei (by simp;exact⟨hei,λz=>ne1 z.symm⟩) (by simp)
  refine W.done s _ _ ⟨st.1,rfl,st.2,hT⟩ λh2 tk kk=>⟨rfl,I.turnedL kk hf⟩
 self:=λA i s Q E st h=>by
  obtain⟨⟨old,he⟩,_⟩:=st
  exact wpAny_pyIter_enum he h
def iEnum(K:adf)(t:TA):TI:=λσ H R=>t σ H λxs H1=>∃ a,xs=[.ref a]/\(∃ ys,lZ K H1 a ys)/\R (Ite K a) H1
end
section
variable{X:Cx}
def Rf{a:Nl}{k:Nat}{p:Pos}(hg:Gl X "enumerate")(hm:X.mg "enumerate" = Y)(ha:PA X [a] ta)(hs:acZ [a] X.env=[(false,eval a X.env)]) :
  PI X (.Tuple es k tp) (.Call (.Name "enumerate" p) [a] [] pos) (iEnum X.K ta):=by
 intro pins s σ H R I h
 refine Call_ (lN I hg hm boot_enumerate (Zw (cZ (ha pos pins s σ H _ I h) λus s1 ⟨vs,H1,I1,r1,q1⟩=>?_) hs rfl))
 obtain⟨t,rfl,⟨ys,hq⟩,q⟩:=q1
 obtain⟨u,rfl,ru⟩:=r1.one
 cases ru
 obtain⟨its,rv,pt,hz⟩:=I1.tuple hq
 refine HT.GB pt λh' he hi hsz kk=>wpAny_pyIter_enum he ?_
 refine⟨s1.heap.objs.size+1,[s1.heap.objs.size+1,s1.heap.objs.size],_,_,H1,rfl,I1.kept (t':=s1.toks) kk,ID t _ _ (Nat.succ_ne_self _),⟨⟨_,he⟩,hi⟩,λb hb=>?_,q⟩
 simp only[Zd,ZY,abr] at hb
 rcases hb with rfl | rfl
 ·exact I1.fpOk (abt _) (I1.hok.fresh (abt _))
 ·exact I1.fpOk (YL _) (I1.hok.fresh (YL _))
end
end L2
namespace M
open L2
section
variable{X:Cx}{K:adf}{μ μ':Fp}{H H':Hp}{S:ac}
noncomputable def fE:Nat->List D->List D
 | _,[]=>[]
 | i,x::r=>.tup [.int (i:Nat),x]::fE (i+1) r
theorem nV:∀ (i:Nat) (xs:List D),(fE i xs).length=xs.length
 | _,[]=>rfl
 | i,_::r=>by rw[fE,YT,YT,nV (i+1) r]
theorem yC:∀ (k:Nat) (xs:List D) (i:Nat) (d:D),(fE k xs)[i]?=U d->∃ x,xs[i]?=U x/\d=.tup [.int ((k+i:Nat):Int),x]
 | _,[],i,d,h=>by simp[fE] at h
 | k,x::r,0,d,h=>by simp[fE] at h;exact⟨x,rfl,h.symm⟩
 | k,x::r,i+1,d,h=>by
  rw[fE,abg] at h
  obtain⟨y,h1,h2⟩:=yC (k+1) r i d h
  refine⟨y,by simpa using h1,?_⟩
  rw[h2,show k+1+i=k+(i+1) by omega]
def JJ(r:Rep K μ H (.ref a) (.tup xs)):GO K μ H (Ite K a) (fE 0 xs):=λμ' H' S' e s i=>by
 have r':=r.monoP e
 obtain⟨b,vs,hb,hq,rs⟩:=r'.sqT
 cases hb
 refine⟨λd hd=>?_,λhl=>⟨vs,hq,by rw[rs.length];rw[nV] at hl;exact hl⟩⟩
 obtain⟨x,hx,rfl⟩:=yC 0 xs i d hd
 obtain⟨v,hv,rv⟩:=rs.get hx
 refine⟨⟨vs,v,hq,hv⟩,λy H2 hy=>?_⟩
 obtain⟨p,w,rfl,hp,rfl,hw⟩:=hy
 have ew:w=v:=by have:=hw vs hq;rw[hv] at this;exact(YU this).symm
 subst ew
 obtain⟨e2,s2⟩:=s.laid (o:=.tup [.int (i:Nat),w]) hp
 refine⟨e2,s2,?_⟩
 rw[abm]
 exact .tup bf (s.notMem hp) (.cons (.int _) (.cons (rv.mono e2) .nil))
noncomputable def gS(ms:MA):MA:=λenv S=>(ms env S).bind λp=>match p.1 with | [.tup xs]=>U (fE 0 xs,p.2) | _=>Y
def Tf{a:Nl}{k:Nat}{p:Pos}(hm:X.mg "enumerate" = Y)(ha:DA X [a] ms)(hg:Gl X "enumerate")(hs:acZ [a] X.env=[(false,eval a X.env)]) :
  DI X (.Tuple es k tp) (.Call (.Name "enumerate" p) [a] [] pos) (gS ms):=PI.imp (Rf hg hm ha hs) λσ H R ⟨μ,S,env,xs,S',hS,hE,h,post⟩=>by
 obtain⟨⟨ds,S1⟩,h1,h⟩:=Yx.mp h
 refine⟨μ,S,env,ds,S1,hS,hE,h1,λvs H1 μ1 e1 s1 r1=>?_⟩
 dsimp only at h
 split at h
 ·rename_i ys
  cases h
  obtain⟨v,rfl,rv⟩:=r1.one
  have rv':=rv
  obtain⟨b,ws,rfl,hq,rs⟩:=rv.sqT
  exact⟨b,rfl,⟨ws,hq⟩,post _ H1 μ1 e1 s1 (JJ rv')⟩
 ·cases h
end
end M
namespace M
open L2
noncomputable def pg:List D->Option (List Int)
 | []=>U []
 | .int i::r=>(pg r).bind λns=>U (i::ns)
 | _::_=>Y
theorem se:∀ {ds:List D} {ns:List Int},pg ds=U ns->ds=ns.map D.int
 | [],ns,h=>by cases h;rfl
 | .int i::r,ns,h=>by
  obtain⟨ms,h1,h2⟩:=Yx.mp h
  cases h2
  rw[YJ,<- se h1]
 | .non::_,ns,h=>by cases h
 | .bl _::_,ns,h=>by cases h
 | .str _::_,ns,h=>by cases h
 | .tup _::_,ns,h=>by cases h
 | .lst _::_,ns,h=>by cases h
 | .rol _::_,ns,h=>by cases h
 | .dct _ _::_,ns,h=>by cases h
 | .ref _::_,ns,h=>by cases h
theorem vt:∀ ns:List Int,pg (ns.map D.int)=U ns
 | []=>rfl
 | n::ns=>by rw[YJ,pg,vt ns];rfl
section
variable{X:Cx}{K:adf}{μ:Fp}{H:Hp}{S:ac}
theorem xJ:∀ {vs:List V} {ns:List Int},Reps K μ H vs (ns.map D.int)->vs=ns.map V.int
 | _,[],.nil=>rfl
 | _,n::ns,.cons h t=>by rw[h.int_inv,xJ t];rfl
noncomputable def sg(S:ac)(d:D):Option (List Int):=if qV S d=true then(jb S d).bind λds=>(pg ds).bind λns=>if ns.length<64 then U ns else Y else Y
def FW{d:D}{ns:List Int}(hS:SOk K μ S H)(r:Rep K μ H v d)(h:sg S d=U ns):∃ a,v=.ref a/\pz K H a (ns.map V.int)/\ns.length<64:=by
 unfold sg at h
 split at h
 ·rename_i hl
  obtain⟨a,vs,ds,rfl,hq,hs,rs⟩:=qc hS r hl
  rw[hs] at h
  have h:((pg ds).bind λns=>if ns.length<64 then U ns else Y)=U ns:=h
  obtain⟨ms,h1,h2⟩:=Yx.mp h
  split at h2
  ·rename_i h3
   cases h2
   have:=se h1
   subst this
   exact⟨a,rfl,by rw[<- xJ rs];exact hq,h3⟩
  ·cases h2
 ·cases h
end
end M
namespace L2
section
variable{X:Cx}{pins:List (tx×Obj)}{σ:St}{H:Hp}{s:td}{a:tx}{xs:List V}
def Inv.tupD(I:Inv X pins σ H s)(h:lZ X.K H a xs):∃ ob,s.heap.get? a=U ob/\ob.cls=.type "tuple"/\ob.dict=Y:=by
 rcases h with h | ⟨o,its,n,hk,hc,hdn,hs,hz,r⟩
 ·obtain⟨z,its,r,ob,e,c,d,dn⟩:=h.ok I.hok
  exact⟨ob,e,c,dn⟩
 ·exact⟨o,I.kIn a o hk,hc,hdn⟩
variable{o e:Nl}{es:List Nl}{to:TE}{t:TA}{name:Str}{apos cpos:Pos}{id:String}{r:V->List V->Hp->VK->Prop}
def tBT(K:adf)(r:V->List V->Hp->VK->Prop)(to:TE)(t:TA):TE:=λσ H Q=>to σ H λx H1=>(∃ p xs,x=.ref p/\lZ K H1 p xs)/\t σ H1 λxs H2=>r x xs H2 Q
def VO(slot:Slot "tuple" name id)(hty:typeOf (.builtin id)=pure (.type "method_descriptor"))(hm:MtR X id r)(ho:PE X o to)(ha:PA X (e::es) t)
  (hbase:attributeBase o name X.env (eval o X.env)=eval o X.env)
  (hfew:((backTo cpos (acZ (e::es) X.env)).all (λx=>!x.1)&&(backToKw cpos (keywordEach [] X.env)).all (λx=>x.1.isSome)&&decide ((e::es).length+([]:List Keyword).length+(if ([]:List Keyword).isEmpty then 0 else 1)<30))=true)
  (hline:(apos.endLine==cpos.line)=true) (hs:acZ (e::es) X.env=(false,eval e X.env)::acZ es X.env) (hplain:(backTo cpos (acZ es X.env)).any (·.1)=false) :
  PE X (.Call (.Attribute o name apos) (e::es) [] cpos) (tBT X.K r to t):=by
 intro pins s σ H Q I h
 refine abi hbase hfew hline rfl (cZ (ho pins s σ H _ I h) λv s1 ⟨x,H1,I1,r1,ty,q1⟩=>?_)
 obtain⟨p,ys,rfl,hq⟩:=ty
 cases r1
 obtain⟨ob,e1,e2,e3⟩:=I1.tupD hq
 refine⟨"tuple",id,F.plainAttrs_tuple,slot,hty,⟨ob,e1,e2⟩,λa z=>by cases z;exact⟨ob,e1,e3⟩,?_⟩
 have hA:=ha cpos pins s1 σ H1 _ I1 q1
 rw[hs] at hA ⊢
 refine abk (by show(false||(backTo cpos (acZ es X.env)).any (·.1))=false;rw[hplain]<;>rfl) (aaP ?_)
 exact cZ hA λus s2 ⟨vs,H2,I2,r2,q2⟩=>hm pins s2 σ H2 (V.ref p) vs _ us Q I2 (show RelV (V.ref p) (Value.ref p) from rfl) r2 q2
end
end L2
namespace M
open L2
section
variable{X:Cx}{K:adf}{μ:Fp}{H:Hp}{S:ac}
noncomputable def Lq:D->Bool
 | .tup _=>true
 | _=>false
noncomputable def fO:MF:=λo ds S=>if Lq o=true then vO o ds S else Y
def Jl(hu:X.A.units+64<cLine):MtR X "tuple.count" (Ql X.K fO):=by
 intro pins s σ H x vs v us Q I rx rv h
 obtain⟨μ,S,dx,ds,d,S',hS,r1,r2,h,post⟩:=h
 unfold fO at h
 split at h
 ·rename_i hl
  cases dx with
  | tup es=>
   unfold vO at h
   split at h
   ·rename_i y
    have h:(if cB 40 y=true/\es.all (cB 39)=true then U (D.int (es.countP λd=>jd d y),S) else Y)=U (d,S'):=h
    split at h
    ·rename_i hk
     cases h
     obtain⟨a,ws,rfl,hq,re⟩:=r1.sqT
     cases rx
     obtain⟨w,rfl,rw0⟩:=r2.one
     obtain⟨u,rfl,ru⟩:=rv.one
     obtain⟨its,rvs,pt,hz⟩:=I.tuple hq
     obtain⟨⟨cls,dd,data,sl⟩,e,hc,n,hd⟩:=id pt
     simp only at hc hd
     subst hc hd
     have ok:=YO.mp hk.2
     refine aaD acR ⟨_,e,rfl⟩ F.entry_tuple_count (F.args_tuple_count_2 _ _) (SeqAt.tuple_countAt a its.toArray n dd sl u (eL X.K μ H y)) ⟨e,λw' hw'=>?_,?_⟩
     ·exact gz I (by show X.A.units+1+40<cLine;omega) ru rw0 hk.1 rvs re ok w' (by simpa using hw')
     ·refine⟨.int _,H,I.tok _,⟨_,rfl⟩,?_⟩
      rw[nu I rvs re ok]
      exact post.here hS (.int _)
    ·cases h
   ·cases h
  | _=>cases hl
 ·cases h
noncomputable def lh(o:ME)(ms:MA):ME:=λenv S=>(o env S).bind λp=>if Lq p.1=true then(ms env p.2).bind λq=>fO p.1 q.1 q.2 else if qV p.2 p.1=true then(ms env p.2).bind λq=>nU p.1 q.1 q.2 else Y
def XU{e:Nl}{es:List Nl}{apos:Pos}(hu:X.A.units+64<cLine)(ho:DE X o mo)(ha:DA X (e::es) ms)
  (hbase:attributeBase o "count" X.env (eval o X.env)=eval o X.env)
  (hfew:((backTo cpos (acZ (e::es) X.env)).all (λx=>!x.1)&&(backToKw cpos (keywordEach [] X.env)).all (λx=>x.1.isSome)&&decide ((e::es).length+([]:List Keyword).length+(if ([]:List Keyword).isEmpty then 0 else 1)<30))=true)
  (hline:(apos.endLine==cpos.line)=true) (hs:acZ (e::es) X.env=(false,eval e X.env)::acZ es X.env) (hpl:(backTo cpos (acZ es X.env)).any (·.1)=false) :
  DE X (.Call (.Attribute o "count" apos) (e::es) [] cpos) (lh mo ms):=by
 have hT:=VO (X:=X) acR F.type_tuple_count (Jl hu) ho ha hbase hfew hline hs hpl
 have hL:=Il (X:=X) abE F.type_list_count (BQ hu) ho ha hbase hfew hline hs hpl
 intro pins s σ H Q I ⟨μ,S,env,d,S',hS,hE,h,post⟩
 obtain⟨⟨x,S1⟩,h1,h⟩:=Yx.mp h
 dsimp only at h
 split at h
 ·rename_i ht
  obtain⟨⟨xs,S2⟩,h2,h⟩:=Yx.mp h
  refine hT pins s σ H Q I ⟨μ,S,env,x,S1,hS,hE,h1,λv H1 μ1 e1 s1 r1=>⟨?_,μ1,S1,env,xs,S2,s1,hE.mono e1,h2,λvs H2 μ2 e2 s2 r2=>⟨μ2,S2,x,xs,d,S',s2,r1.mono e2,r2,h,(post.ext e1).ext e2⟩⟩⟩
  cases x<;>first | cases ht | skip
  obtain⟨a,ws,rfl,hq,_⟩:=r1.sqT
  exact⟨a,ws,rfl,hq⟩
 ·refine hL pins s σ H Q I ⟨μ,S,env,d,S',hS,hE,?_,post⟩
  show(mo env S).bind _=_
  rw[h1];exact h
end
end M
namespace HT
section
variable{prog:Of}{w:RG}{A:Wr}{E:gV->td->Prop}{s:td}
structure AU(z TI TO i1 i2:tx)(fp1 fp2:List tx):Prop where
 TIz:TI≠z
 TOz:TO≠z
 TITO:TI≠TO
 z1:z∉fp1
 z2:z∉fp2
 o1:TO∉fp1
 o2:TO∉fp2
 i12:i1∉fp2
 i21:i2∉fp1
 t1:TI≠i1
 t2:TI≠i2
 m1:i1∈fp1
 m2:i2∈fp2
theorem Iy{TI TO:tx}{Q:gV->td->Prop}
  (Z:AU z TI TO i1 i2 fp1 fp2) (D1:Draws prog w A i1 fp1 n1 P1 St1) (D2:Draws prog w A i2 fp2 n2 P2 St2) (hz:IsZip s.heap z TI TO .none) (hTI:IsPair s.heap TI (.ref i1) (.ref i2)) (hTO:IsPair s.heap TO a b)
  (s1:St1 k1 s.heap) (s2:St2 k2 s.heap) (l1:k1<n1) (l2:k2<n2)
  (hQ:∀ x y h' tk,P1 k1 x->P2 k2 y->IsZip h' z TI TO (rawInt s.heap.objs.size)->IsPair h' TO x y->St1 (k1+1) h'->St2 (k2+1) h'->IsPair h' s.heap.objs.size x y->h'.objs.size=s.heap.objs.size+1 ->
   (∀ c o,c≠z->c≠TO->c≠i1->c≠i2->s.heap.get? c=U o->h'.get? c=U o)->Q (.ref s.heap.objs.size) { s with heap:=h',toks:=tk }) :
  ade (model prog w) A (Builtin.«zip.__next__» ⟨[.ref z],[]⟩) (λfin s'=>∃ v,fin=.done (.ret v)/\Q v s') E s:=by
 unfold Builtin.«zip.__next__»
 show ade _ _ (field (.ref z) 2 >>= _) _ _ s
 refine Yy (Zl hz rfl (x:=.bool false) rfl ?_)
 refine Yy (Zl hz rfl (x:=.ref TI) rfl ?_)
 refine Yy (aaa hTI rfl ?_)
 show ade _ _ (Builtin.SmallTypes.ownedTupleIsFree (.ref z) >>= _) _ _ s
 refine Yy ?_
 unfold Builtin.SmallTypes.ownedTupleIsFree
 refine Yy (Zl hz rfl (x:=.none) rfl (YH ?_))
 show ade _ _ (rule "zip.__next__.owned-tuple-again" >>= _) _ _ s
 refine Yy (abC ?_)
 refine Yy (Zl hz rfl (x:=.ref TO) rfl ?_)
 refine Yy (Zv hz rfl (by simp) ?_)
 refine Yy ?_
 show ade _ _ (forIn [((Value.ref i1,0):gV×Nat),(Value.ref i2,1)] _ _) _ _ _
 rw[aai]
 refine Yy ?_
 refine Yy (aaR ?_)
 refine Yy ?_
 have ez:(s.heap.update z (Obj.mapFields λvs=>vs.setIfInBounds 0 .ellipsis)).get? z=U { cls:=.type "zip",data:=.fields #[.ellipsis,.bool false,.bool false,.ref TI,.ref TO] }:=YZ _ hz rfl
 have ne0:∀ c,c≠z->(s.heap.update z (Obj.mapFields λvs=>vs.setIfInBounds 0 .ellipsis)).get? c=s.heap.get? c:=λc hc=>Zh _ _ _ _ hc
 have sz0:(s.heap.update z (Obj.mapFields λvs=>vs.setIfInBounds 0 .ellipsis)).objs.size=s.heap.objs.size:=(ZX ..).1
 generalize (s.heap.update z (Obj.mapFields λvs=>vs.setIfInBounds 0 .ellipsis))=h0 at ez ne0 sz0 ⊢
 have zi1:z≠i1:=λe=>Z.z1 (e ▸ Z.m1)
 have zi2:z≠i2:=λe=>Z.z2 (e ▸ Z.m2)
 have oi1:TO≠i1:=λe=>Z.o1 (e ▸ Z.m1)
 have oi2:TO≠i2:=λe=>Z.o2 (e ▸ Z.m2)
 refine D1.item k1 { s with heap:=h0 } _ _ l1 (D1.frame _ _ _ s1 λc hc o ho=>(ne0 c (λe=>Z.z1 (e ▸ hc))).trans ho) λx h1 tk1 px st1 sb1=>YH ?_
 have o1:h1.get? TO=U { cls:=.type "tuple",data:=.seq #[a,b] }:=(sb1.2 TO oi1).trans ((ne0 TO Z.TOz).trans hTO)
 show ade _ _ (seqItems? (Value.ref TO) >>= _) _ _ _
 refine Yy (aaa o1 rfl ?_)
 refine Yy (abl o1 rfl ?_ (by show 2<=acY;decide) (by simp;decide))
 refine Yy (acH (YH ?_))
 have eo:(h1.update TO (Obj.mapSeq λvs=>vs.setIfInBounds 0 x)).get? TO=U { cls:=.type "tuple",data:=.seq #[x,b] }:=YZ _ o1 rfl
 have ne1:∀ c,c≠TO->(h1.update TO (Obj.mapSeq λvs=>vs.setIfInBounds 0 x)).get? c=h1.get? c:=λc hc=>Zh _ _ _ _ hc
 have sz1:(h1.update TO (Obj.mapSeq λvs=>vs.setIfInBounds 0 x)).objs.size=s.heap.objs.size:=(ZX ..).1.trans (sb1.1.trans sz0)
 generalize (h1.update TO (Obj.mapSeq λvs=>vs.setIfInBounds 0 x))=h2 at eo ne1 sz1 ⊢
 show ade _ _ (forIn [((Value.ref i2,1):gV×Nat)] _ _) _ _ _
 rw[aai]
 refine Yy ?_
 refine Yy (aaR ?_)
 refine Yy ?_
 refine D2.item k2 { s with heap:=h2,toks:=tk1 } _ _ l2 (D2.frame _ _ _ s2 λc hc o ho=>(ne1 c (λe=>Z.o2 (e ▸ hc))).trans ((sb1.2 c (λe=>Z.i12 (e ▸ hc))).trans ((ne0 c (λe=>Z.z2 (e ▸ hc))).trans ho))) λy h3 tk2 py st2 sb2=>YH ?_
 have o2:h3.get? TO=U { cls:=.type "tuple",data:=.seq #[x,b] }:=(sb2.2 TO oi2).trans eo
 show ade _ _ (seqItems? (Value.ref TO) >>= _) _ _ _
 refine Yy (aaa o2 rfl ?_)
 refine Yy (abl o2 rfl ?_ (by show 2<=acY;decide) (by simp;decide))
 refine Yy (acH (YH ?_))
 have eo2:(h3.update TO (Obj.mapSeq λvs=>vs.setIfInBounds 1 y)).get? TO=U { cls:=.type "tuple",data:=.seq #[x,y] }:=YZ _ o2 rfl
 have ne2:∀ c,c≠TO->(h3.update TO (Obj.mapSeq λvs=>vs.setIfInBounds 1 y)).get? c=h3.get? c:=λc hc=>Zh _ _ _ _ hc
 have sz2:(h3.update TO (Obj.mapSeq λvs=>vs.setIfInBounds 1 y)).objs.size=s.heap.objs.size:=(ZX ..).1.trans (sb2.1.trans sz1)
 generalize (h3.update TO (Obj.mapSeq λvs=>vs.setIfInBounds 1 y))=h4 at eo2 ne2 sz2 ⊢
 show ade _ _ (pure _) _ _ _
 refine YH ?_
 show ade _ _ (seqItems? (Value.ref TO) >>= _) _ _ _
 refine Yy (aaa eo2 rfl ?_)
 show ade _ _ (newTuple [x,y] >>= _) _ _ _
 refine Yy ?_
 simp only[newTuple]
 refine Zp ?_ (by size_fits)
 have ez4:h4.get? z=U { cls:=.type "zip",data:=.fields #[.ellipsis,.bool false,.bool false,.ref TI,.ref TO] }:=(ne2 z Z.TOz.symm).trans ((sb2.2 z zi2).trans ((ne1 z Z.TOz.symm).trans ((sb1.2 z zi1).trans ez)))
 have ez5:=YA { cls:=.type "tuple",data:=.seq #[x,y] } ez4
 have et5:=YN h4 (o:={ cls:=.type "tuple",data:=.seq #[x,y] }) rfl
 have kk5:∀ c o,h4.get? c=U o->(h4.push { cls:=.type "tuple",data:=.seq #[x,y] }).get? c=U o:=λc o=>YA _
 have sz5:(h4.push { cls:=.type "tuple",data:=.seq #[x,y] }).objs.size=s.heap.objs.size+1:=by rw[ZV,sz2]
 dsimp only
 show ade _ _ _ _ _ { s with heap:=h4.push { cls:=.type "tuple",data:=.seq #[x,y] },toks:=tk2 }
 generalize (h4.push { cls:=.type "tuple",data:=.seq #[x,y] })=h5 at ez5 et5 kk5 sz5 ⊢
 rw[sz2] at et5 ⊢
 show ade _ _ ((setField (.ref z) 0 (rawInt s.heap.objs.size) >>= λ_=>setField (.ref z) 1 (.bool false)) >>= _) _ _ _
 refine Yy (Yy (Zv ez5 rfl (by simp) ?_))
 have ez6:(h5.update z (Obj.mapFields λvs=>vs.setIfInBounds 0 (rawInt s.heap.objs.size))).get? z=U { cls:=.type "zip",data:=.fields #[rawInt s.heap.objs.size,.bool false,.bool false,.ref TI,.ref TO] }:=YZ _ ez5 rfl
 have ne6:∀ c,c≠z->(h5.update z (Obj.mapFields λvs=>vs.setIfInBounds 0 (rawInt s.heap.objs.size))).get? c=h5.get? c:=λc hc=>Zh _ _ _ _ hc
 have sz6:(h5.update z (Obj.mapFields λvs=>vs.setIfInBounds 0 (rawInt s.heap.objs.size))).objs.size=s.heap.objs.size+1:=(ZX ..).1.trans sz5
 generalize (h5.update z (Obj.mapFields λvs=>vs.setIfInBounds 0 (rawInt s.heap.objs.size)))=h6 at ez6 ne6 sz6 ⊢
 refine Zv ez6 rfl (by simp) ?_
 have ez7:(h6.update z (Obj.mapFields λvs=>vs.setIfInBounds 1 (.bool false))).get? z=U { cls:=.type "zip",data:=.fields #[rawInt s.heap.objs.size,.bool false,.bool false,.ref TI,.ref TO] }:=YZ _ ez6 rfl
 have ne7:∀ c,c≠z->(h6.update z (Obj.mapFields λvs=>vs.setIfInBounds 1 (.bool false))).get? c=h6.get? c:=λc hc=>Zh _ _ _ _ hc
 have sz7:(h6.update z (Obj.mapFields λvs=>vs.setIfInBounds 1 (.bool false))).objs.size=s.heap.objs.size+1:=(ZX ..).1.trans sz6
 generalize (h6.update z (Obj.mapFields λvs=>vs.setIfInBounds 1 (.bool false)))=h7 at ez7 ne7 sz7 ⊢
 have k57:∀ c o,c≠z->h4.get? c=U o->h7.get? c=U o:=λc o hc ho=>(ne7 c hc).trans ((ne6 c hc).trans (kk5 c o ho))
 have newz:s.heap.objs.size≠z:=ZJ (YI hz)
 refine YH ⟨_,rfl,hQ x y h7 tk2 px py ez7 (k57 TO _ Z.TOz eo2) ?_ ?_ ((ne7 _ newz).trans ((ne6 _ newz).trans et5)) sz7 λc o c1 c2 c3 c4 ho=>k57 c o c1 ((ne2 c c2).trans ((sb2.2 c c4).trans ((ne1 c c2).trans ((sb1.2 c c3).trans ((ne0 c c1).trans ho)))))⟩
 ·exact D1.frame _ _ _ st1 λc hc o ho=>k57 c o (λe=>Z.z1 (e ▸ hc)) ((ne2 c (λe=>Z.o1 (e ▸ hc))).trans ((sb2.2 c (λe=>Z.i21 (e ▸ hc))).trans ((ne1 c (λe=>Z.o1 (e ▸ hc))).trans ho)))
 ·exact D2.frame _ _ _ st2 λc hc o ho=>k57 c o (λe=>Z.z2 (e ▸ hc)) ((ne2 c (λe=>Z.o2 (e ▸ hc))).trans ho)
def IA{TI TO:tx}
  (Z:AU z TI TO i1 i2 fp1 fp2) (D1:Draws prog w A i1 fp1 n1 P1 St1) (hz:IsZip s.heap z TI TO .none) (hTI:IsPair s.heap TI (.ref i1) (.ref i2)) (hTO:IsPair s.heap TO a b)
  (s1:St1 n1 s.heap)
  (hE:∀ h' e tk,(∀ c o,c≠z->c≠TO->c≠i1->c≠i2->s.heap.get? c=U o->h'.get? c=U o)->(∃ o,h'.get? e=U o/\o.cls=.type "StopIteration")->E (.ref e) { s with heap:=h',toks:=tk }) :
  ade (model prog w) A (Builtin.«zip.__next__» ⟨[.ref z],[]⟩) Q E s:=by
 unfold Builtin.«zip.__next__»
 show ade _ _ (field (.ref z) 2 >>= _) _ _ s
 refine Yy (Zl hz rfl (x:=.bool false) rfl ?_)
 refine Yy (Zl hz rfl (x:=.ref TI) rfl ?_)
 refine Yy (aaa hTI rfl ?_)
 show ade _ _ (Builtin.SmallTypes.ownedTupleIsFree (.ref z) >>= _) _ _ s
 refine Yy ?_
 unfold Builtin.SmallTypes.ownedTupleIsFree
 refine Yy (Zl hz rfl (x:=.none) rfl (YH ?_))
 show ade _ _ (rule "zip.__next__.owned-tuple-again" >>= _) _ _ s
 refine Yy (abC ?_)
 refine Yy (Zl hz rfl (x:=.ref TO) rfl ?_)
 refine Yy (Zv hz rfl (by simp) ?_)
 refine Yy ?_
 show ade _ _ (forIn [((Value.ref i1,0):gV×Nat),(Value.ref i2,1)] _ _) _ _ _
 rw[aai]
 refine Yy ?_
 refine Yy (aaR ?_)
 refine Yy ?_
 have ez:(s.heap.update z (Obj.mapFields λvs=>vs.setIfInBounds 0 .ellipsis)).get? z=U { cls:=.type "zip",data:=.fields #[.ellipsis,.bool false,.bool false,.ref TI,.ref TO] }:=YZ _ hz rfl
 have ne0:∀ c,c≠z->(s.heap.update z (Obj.mapFields λvs=>vs.setIfInBounds 0 .ellipsis)).get? c=s.heap.get? c:=λc hc=>Zh _ _ _ _ hc
 generalize (s.heap.update z (Obj.mapFields λvs=>vs.setIfInBounds 0 .ellipsis))=h0 at ez ne0 ⊢
 have zi1:z≠i1:=λe=>Z.z1 (e ▸ Z.m1)
 have zi2:z≠i2:=λe=>Z.z2 (e ▸ Z.m2)
 have oi1:TO≠i1:=λe=>Z.o1 (e ▸ Z.m1)
 have oi2:TO≠i2:=λe=>Z.o2 (e ▸ Z.m2)
 refine D1.done { s with heap:=h0 } _ _ (D1.frame _ _ _ s1 λc hc o ho=>(ne0 c (λe=>Z.z1 (e ▸ hc))).trans ho) λh1 e xb ⟨o,ho,hc⟩=>?_
 have z1:=xb z _ zi1 ez
 refine Zv z1 rfl (by simp) (hE _ e s.toks (λc o c1 c2 c3 c4 ho=>(Zh _ _ _ _ c1).trans (xb c o c3 ((ne0 c c1).trans ho))) ?_)
 refine⟨o,(Zh _ _ _ _ λh=>?_).trans ho,hc⟩
 rw[h,z1] at ho;cases ho;exact absurd (show Value.type "zip" = Value.type "StopIteration" from hc) (by decide)
def Iz{TI TO:tx}
  (Z:AU z TI TO i1 i2 fp1 fp2) (D1:Draws prog w A i1 fp1 n1 P1 St1) (D2:Draws prog w A i2 fp2 n2 P2 St2) (hz:IsZip s.heap z TI TO .none) (hTI:IsPair s.heap TI (.ref i1) (.ref i2)) (hTO:IsPair s.heap TO a b)
  (s1:St1 k1 s.heap) (l1:k1<n1) (s2:St2 n2 s.heap)
  (hE:∀ h' e tk,(∀ c o,c≠z->c≠TO->c≠i1->c≠i2->s.heap.get? c=U o->h'.get? c=U o)->(∃ o,h'.get? e=U o/\o.cls=.type "StopIteration")->E (.ref e) { s with heap:=h',toks:=tk }) :
  ade (model prog w) A (Builtin.«zip.__next__» ⟨[.ref z],[]⟩) Q E s:=by
 unfold Builtin.«zip.__next__»
 show ade _ _ (field (.ref z) 2 >>= _) _ _ s
 refine Yy (Zl hz rfl (x:=.bool false) rfl ?_)
 refine Yy (Zl hz rfl (x:=.ref TI) rfl ?_)
 refine Yy (aaa hTI rfl ?_)
 show ade _ _ (Builtin.SmallTypes.ownedTupleIsFree (.ref z) >>= _) _ _ s
 refine Yy ?_
 unfold Builtin.SmallTypes.ownedTupleIsFree
 refine Yy (Zl hz rfl (x:=.none) rfl (YH ?_))
 show ade _ _ (rule "zip.__next__.owned-tuple-again" >>= _) _ _ s
 refine Yy (abC ?_)
 refine Yy (Zl hz rfl (x:=.ref TO) rfl ?_)
 refine Yy (Zv hz rfl (by simp) ?_)
 refine Yy ?_
 show ade _ _ (forIn [((Value.ref i1,0):gV×Nat),(Value.ref i2,1)] _ _) _ _ _
 rw[aai]
 refine Yy ?_
 refine Yy (aaR ?_)
 refine Yy ?_
 have ez:(s.heap.update z (Obj.mapFields λvs=>vs.setIfInBounds 0 .ellipsis)).get? z=U { cls:=.type "zip",data:=.fields #[.ellipsis,.bool false,.bool false,.ref TI,.ref TO] }:=YZ _ hz rfl
 have ne0:∀ c,c≠z->(s.heap.update z (Obj.mapFields λvs=>vs.setIfInBounds 0 .ellipsis)).get? c=s.heap.get? c:=λc hc=>Zh _ _ _ _ hc
 generalize (s.heap.update z (Obj.mapFields λvs=>vs.setIfInBounds 0 .ellipsis))=h0 at ez ne0 ⊢
 have zi1:z≠i1:=λe=>Z.z1 (e ▸ Z.m1)
 have zi2:z≠i2:=λe=>Z.z2 (e ▸ Z.m2)
 have oi1:TO≠i1:=λe=>Z.o1 (e ▸ Z.m1)
 have oi2:TO≠i2:=λe=>Z.o2 (e ▸ Z.m2)
 refine D1.item k1 { s with heap:=h0 } _ _ l1 (D1.frame _ _ _ s1 λc hc o ho=>(ne0 c (λe=>Z.z1 (e ▸ hc))).trans ho) λx h1 tk1 px st1 sb1=>YH ?_
 have o1:h1.get? TO=U { cls:=.type "tuple",data:=.seq #[a,b] }:=(sb1.2 TO oi1).trans ((ne0 TO Z.TOz).trans hTO)
 show ade _ _ (seqItems? (Value.ref TO) >>= _) _ _ _
 refine Yy (aaa o1 rfl ?_)
 refine Yy (abl o1 rfl ?_ (by show 2<=acY;decide) (by simp;decide))
 refine Yy (acH (YH ?_))
 have ne1:∀ c,c≠TO->(h1.update TO (Obj.mapSeq λvs=>vs.setIfInBounds 0 x)).get? c=h1.get? c:=λc hc=>Zh _ _ _ _ hc
 generalize (h1.update TO (Obj.mapSeq λvs=>vs.setIfInBounds 0 x))=h2 at ne1 ⊢
 show ade _ _ (forIn [((Value.ref i2,1):gV×Nat)] _ _) _ _ _
 rw[aai]
 refine Yy ?_
 refine Yy (aaR ?_)
 refine Yy ?_
 refine D2.done { s with heap:=h2,toks:=tk1 } _ _ (D2.frame _ _ _ s2 λc hc o ho=>(ne1 c (λe=>Z.o2 (e ▸ hc))).trans ((sb1.2 c (λe=>Z.i12 (e ▸ hc))).trans ((ne0 c (λe=>Z.z2 (e ▸ hc))).trans ho))) λh3 e xb ⟨o,ho,hc⟩=>?_
 have z1:=xb z _ zi2 ((ne1 z Z.TOz.symm).trans ((sb1.2 z zi1).trans ez))
 refine Zv z1 rfl (by simp) (hE _ e tk1 (λc o c1 c2 c3 c4 ho=>(Zh _ _ _ _ c1).trans (xb c o c4 ((ne1 c c2).trans ((sb1.2 c c3).trans ((ne0 c c1).trans ho))))) ?_)
 refine⟨o,(Zh _ _ _ _ λh=>?_).trans ho,hc⟩
 rw[h,z1] at ho;cases ho;exact absurd (show Value.type "zip" = Value.type "StopIteration" from hc) (by decide)
def BA{TI TO:tx}{Q:Option gV->td->Prop}
  (Z:AU z TI TO i1 i2 fp1 fp2) (D1:Draws prog w A.in1 i1 fp1 n1 P1 St1) (D2:Draws prog w A.in1 i2 fp2 n2 P2 St2) (hz:IsZip s.heap z TI TO .none) (hTI:IsPair s.heap TI (.ref i1) (.ref i2)) (hTO:IsPair s.heap TO a b)
  (s1:St1 k1 s.heap) (s2:St2 k2 s.heap) (l1:k1<n1) (l2:k2<n2)
  (hQ:∀ x y h' tk,P1 k1 x->P2 k2 y->IsZip h' z TI TO (rawInt s.heap.objs.size)->IsPair h' TO x y->St1 (k1+1) h'->St2 (k2+1) h'->IsPair h' s.heap.objs.size x y->h'.objs.size=s.heap.objs.size+1 ->
   (∀ c o,c≠z->c≠TO->c≠i1->c≠i2->s.heap.get? c=U o->h'.get? c=U o)->Q (U (.ref s.heap.objs.size)) { s with heap:=h',toks:=tk }) :
  ade (model prog w) A (pyNext (.ref z)) Q E s:=by
 unfold pyNext
 refine Yy (abc ?_)
 refine ZM (name:=Str.ofString "__next__") (T:="zip") ?_ aaK (aak aaK ?_ abQ (Iy Z D1 D2 hz hTI hTO s1 s2 l1 l2 λx y h' tk a1 a2 a3 a4 a5 a6 a7 a8 a9=>YH (hQ x y h' tk a1 a2 a3 a4 a5 a6 a7 a8 a9)) (abG _))<;>exact⟨_,hz,rfl⟩
end
end HT
namespace HT
section
variable{prog:Of}{w:RG}{A:Wr}{E:gV->td->Prop}{s:td}
def zn{TI TO:tx}{Q:Option gV->td->Prop}
  (Z:AU z TI TO i1 i2 fp1 fp2) (D1:Draws prog w A.in1 i1 fp1 n1 P1 St1) (hz:IsZip s.heap z TI TO .none) (hTI:IsPair s.heap TI (.ref i1) (.ref i2)) (hTO:IsPair s.heap TO a b)
  (s1:St1 n1 s.heap) (hQ:∀ h' tk,(∀ c o,c≠z->c≠TO->c≠i1->c≠i2->s.heap.get? c=U o->h'.get? c=U o)->Q Y { s with heap:=h',toks:=tk }) :
  ade (model prog w) A (pyNext (.ref z)) Q E s:=by
 unfold pyNext
 refine Yy (abc ?_)
 refine ZM (name:=Str.ofString "__next__") (T:="zip") ⟨_,hz,rfl⟩ aaK (aak aaK ⟨_,hz,rfl⟩ abQ (IA Z D1 hz hTI hTO s1 λh' e tk kk hc=>?_) (abG _))
 show ade _ _ (isInstance (.ref e) (.type "StopIteration") >>= _) _ _ _
 exact Yy (wpAny_isInstance (T:="StopIteration") (b:=true) hc (by first | exact sub_StopIteration | rfl) (YH (hQ h' tk kk)))
def zm{TI TO:tx}{Q:Option gV->td->Prop}
  (Z:AU z TI TO i1 i2 fp1 fp2) (D1:Draws prog w A.in1 i1 fp1 n1 P1 St1) (D2:Draws prog w A.in1 i2 fp2 n2 P2 St2) (hz:IsZip s.heap z TI TO .none) (hTI:IsPair s.heap TI (.ref i1) (.ref i2)) (hTO:IsPair s.heap TO a b)
  (s1:St1 k1 s.heap) (l1:k1<n1) (s2:St2 n2 s.heap) (hQ:∀ h' tk,(∀ c o,c≠z->c≠TO->c≠i1->c≠i2->s.heap.get? c=U o->h'.get? c=U o)->Q Y { s with heap:=h',toks:=tk }) :
  ade (model prog w) A (pyNext (.ref z)) Q E s:=by
 unfold pyNext
 refine Yy (abc ?_)
 refine ZM (name:=Str.ofString "__next__") (T:="zip") ⟨_,hz,rfl⟩ aaK (aak aaK ⟨_,hz,rfl⟩ abQ (Iz Z D1 D2 hz hTI hTO s1 l1 s2 λh' e tk kk hc=>?_) (abG _))
 show ade _ _ (isInstance (.ref e) (.type "StopIteration") >>= _) _ _ _
 exact Yy (wpAny_isInstance (T:="StopIteration") (b:=true) hc (by first | exact sub_StopIteration | rfl) (YH (hQ h' tk kk)))
end
theorem Lg(l1 l2:tx)(xs ys:Array gV) :
  Meets (Builtin.«zip.__new__» ⟨[.type "zip",.ref l1,.ref l2],[]⟩) (λ_ R s=>s.heap.IsTuple l1 xs/\s.heap.IsTuple l2 ys /\
   ∀ h',IsZip h' (s.heap.objs.size+4) (s.heap.objs.size+2) (s.heap.objs.size+3) .none->IsPair h' (s.heap.objs.size+2) (.ref s.heap.objs.size) (.ref (s.heap.objs.size+1))->IsPair h' (s.heap.objs.size+3) .none .none ->
    h'.IsTupleIter s.heap.objs.size l1 0->h'.IsTupleIter (s.heap.objs.size+1) l2 0->h'.objs.size=s.heap.objs.size+5->(∀ c o,s.heap.get? c=U o->h'.get? c=U o)->R (.ok (.ret (.ref (s.heap.objs.size+4)))) { s with heap:=h' }):=
 .of_wp λprog w A R s h=>by
  obtain⟨hl,hl2,h⟩:=h
  unfold Builtin.«zip.__new__»
  refine Yy ?_
  show ade _ _ (isType (.type "zip") >>= _) _ _ _
  refine Yy (acG (a:=true) (by first | rfl | simp[isType]) ?_)
  show ade _ _ (isSubtype (.type "zip") (.type "zip") >>= _) _ _ _
  refine Yy (acG sub_zip (YH ?_))
  show ade _ _ (Builtin.SmallTypes.iterAll [.ref l1,.ref l2] >>= _) _ _ _
  refine Yy ?_
  unfold Builtin.SmallTypes.iterAll
  refine Yy ?_
  rw[aai]
  refine Yy (Yy (ZL (aaE hl (YH ?_))))
  have g1:=YN s.heap (o:={ cls:=.type "tuple_iterator",data:=.fields #[.ref l1,.int 0 0] }) rfl
  have k1:∀ c o,s.heap.get? c=U o->(s.heap.push { cls:=.type "tuple_iterator",data:=.fields #[.ref l1,.int 0 0] }).get? c=U o:=λc o=>YA _
  have z1:(s.heap.push { cls:=.type "tuple_iterator",data:=.fields #[.ref l1,.int 0 0] }).objs.size=s.heap.objs.size+1:=ZV ..
  generalize s.heap.push { cls:=.type "tuple_iterator",data:=.fields #[.ref l1,.int 0 0] } = h1 at g1 k1 z1 ⊢
  have hl2':h1.IsTuple l2 ys:=by obtain⟨o,ho,r⟩:=hl2;exact⟨o,k1 _ _ ho,r⟩
  show ade _ _ (forIn [Value.ref l2] _ _) _ _ _
  rw[aai]
  refine Yy (Yy (ZL (aaE hl2' (YH ?_))))
  dsimp only
  have g2:=YN h1 (o:={ cls:=.type "tuple_iterator",data:=.fields #[.ref l2,.int 0 0] }) rfl
  have k2:∀ c o,h1.get? c=U o->(h1.push { cls:=.type "tuple_iterator",data:=.fields #[.ref l2,.int 0 0] }).get? c=U o:=λc o=>YA _
  have z2:(h1.push { cls:=.type "tuple_iterator",data:=.fields #[.ref l2,.int 0 0] }).objs.size=s.heap.objs.size+2:=by rw[ZV,z1]
  generalize h1.push { cls:=.type "tuple_iterator",data:=.fields #[.ref l2,.int 0 0] } = h2 at g2 k2 z2 ⊢
  rw[z1] at g2 ⊢
  show ade _ _ (pure _) _ _ _
  refine YH (YH ?_)
  show ade _ _ (newTuple [.ref s.heap.objs.size,.ref (s.heap.objs.size+1)] >>= _) _ _ _
  refine Yy ?_
  simp only[newTuple]
  refine Zp ?_ (by size_fits)
  have g3:=YN h2 (o:={ cls:=.type "tuple",data:=.seq #[.ref s.heap.objs.size,.ref (s.heap.objs.size+1)] }) rfl
  have k3:∀ c o,h2.get? c=U o->(h2.push { cls:=.type "tuple",data:=.seq #[.ref s.heap.objs.size,.ref (s.heap.objs.size+1)] }).get? c=U o:=λc o=>YA _
  have z3:(h2.push { cls:=.type "tuple",data:=.seq #[.ref s.heap.objs.size,.ref (s.heap.objs.size+1)] }).objs.size=s.heap.objs.size+3:=by rw[ZV,z2]
  dsimp only
  show ade _ _ _ _ _ { s with heap:=h2.push { cls:=.type "tuple",data:=.seq #[.ref s.heap.objs.size,.ref (s.heap.objs.size+1)] } }
  generalize h2.push { cls:=.type "tuple",data:=.seq #[.ref s.heap.objs.size,.ref (s.heap.objs.size+1)] } = h3 at g3 k3 z3 ⊢
  rw[z2] at g3 ⊢
  refine Yy ?_
  show ade _ _ (newObj (.type "tuple") (.seq #[.none,.none])) _ _ _
  refine Zp ?_ (by size_fits)
  have g4:=YN h3 (o:={ cls:=.type "tuple",data:=.seq #[.none,.none] }) rfl
  have k4:∀ c o,h3.get? c=U o->(h3.push { cls:=.type "tuple",data:=.seq #[.none,.none] }).get? c=U o:=λc o=>YA _
  have z4:(h3.push { cls:=.type "tuple",data:=.seq #[.none,.none] }).objs.size=s.heap.objs.size+4:=by rw[ZV,z3]
  dsimp only
  generalize h3.push { cls:=.type "tuple",data:=.seq #[.none,.none] } = h4 at g4 k4 z4 ⊢
  rw[z3] at g4 ⊢
  refine Yy ?_
  show ade _ _ (newObj (.type "zip") (.fields #[.none,.bool false,.bool false,.ref (s.heap.objs.size+2),.ref (s.heap.objs.size+3)])) _ _ _
  refine Zp ?_ (by size_fits)
  have g5:=YN h4 (o:={ cls:=.type "zip",data:=.fields #[.none,.bool false,.bool false,.ref (s.heap.objs.size+2),.ref (s.heap.objs.size+3)] }) rfl
  have k5:∀ c o,h4.get? c=U o->(h4.push { cls:=.type "zip",data:=.fields #[.none,.bool false,.bool false,.ref (s.heap.objs.size+2),.ref (s.heap.objs.size+3)] }).get? c=U o:=λc o=>YA _
  have z5:(h4.push { cls:=.type "zip",data:=.fields #[.none,.bool false,.bool false,.ref (s.heap.objs.size+2),.ref (s.heap.objs.size+3)] }).objs.size=s.heap.objs.size+5:=by rw[ZV,z4]
  dsimp only
  generalize h4.push { cls:=.type "zip",data:=.fields #[.none,.bool false,.bool false,.ref (s.heap.objs.size+2),.ref (s.heap.objs.size+3)] } = h5 at g5 k5 z5 ⊢
  rw[z4] at g5 ⊢
  refine YH ⟨_,rfl,h h5 g5 (k5 _ _ (k4 _ _ g3)) (k5 _ _ g4) ⟨_,k5 _ _ (k4 _ _ (k3 _ _ (k2 _ _ g1))),rfl,rfl⟩ ⟨_,k5 _ _ (k4 _ _ (k3 _ _ g2)),rfl,rfl⟩ z5 λc o e=>k5 _ _ (k4 _ _ (k3 _ _ (k2 _ _ (k1 _ _ e))))⟩
section
variable{prog:Of}{w:RG}{A:Wr}{E:gV->td->Prop}{s:td}
def KH{Q:gV->td->Prop}(hL:s.heap.IsTuple l1 xs)(hL2:s.heap.IsTuple l2 ys)
  (h:∀ h':Ws,IsZip h' (s.heap.objs.size+4) (s.heap.objs.size+2) (s.heap.objs.size+3) .none->IsPair h' (s.heap.objs.size+2) (.ref s.heap.objs.size) (.ref (s.heap.objs.size+1))->IsPair h' (s.heap.objs.size+3) .none .none ->
    h'.IsTupleIter s.heap.objs.size l1 0->h'.IsTupleIter (s.heap.objs.size+1) l2 0->h'.objs.size=s.heap.objs.size+5->(∀ c o,s.heap.get? c=U o->h'.get? c=U o)->Q (.ref (s.heap.objs.size+4)) { s with heap:=h' }) :
  ade (model prog w) A (call (.type "zip") [.ref l1,.ref l2]) Q E s:=by
 refine callType_new F.called_zip (by decide) (F.typeCall_zip_2 _ _) (F.newCall_zip_2 _ _) (λobj=>F.args_object_init_3 obj _ _) F.entry_zip_new (Lg l1 l2 xs ys) ⟨hL,hL2,λh' a b c d e f g=>?_⟩
 exact⟨⟨_,a,rfl⟩,h h' a b c d e f g⟩
end
end HT
namespace L2
section
noncomputable def Itz(K:adf)(a b:tx):It:=
 ⟨λi H=>∃ xs ys x y,lZ K H a xs/\lZ K H b ys/\xs[i]?=U x/\ys[i]?=U y,
 λi H x H'=>∃ p v u,x=.ref p/\H p=Y/\H'=upd H p (.tup [v,u])/\(∀ xs,lZ K H a xs->xs[i]?=U v)/\∀ ys,lZ K H b ys->ys[i]?=U u,
 λi H=>∃ xs ys,lZ K H a xs/\lZ K H b ys/\(xs.length<=i\/ys.length<=i)⟩
def TnZ(z TI TO i1 i2 a b:tx)(i:Nat)(h:Ws):Prop:=IsZip h z TI TO .none/\IsPair h TI (.ref i1) (.ref i2)/\(∃ u v,IsPair h TO u v)/\h.IsTupleIter i1 a i/\h.IsTupleIter i2 b i
def Dw{A:Wr}(hh:A.handled=Y)(it a:tx)(items:Array gV)(i:Nat)(hx:items[i]?=Y) :
  Draws prog w A it [it,a] i (λ_ _=>True) (λj h=>j=i/\h.IsTupleIter it a i/\h.IsTuple a items):=
 {live:=λ_ _ q=>by obtain⟨_,⟨o,ho,_⟩,_⟩:=q;exact⟨o,ho⟩
  frame:=λ_ _ _ q hk=>by
   obtain⟨q0,⟨o,ho,r⟩,⟨o2,ho2,r2⟩⟩:=q
   exact⟨q0,⟨o,hk it (by simp) o ho,r⟩,⟨o2,hk a (by simp) o2 ho2,r2⟩⟩
  item:=λj _ _ _ hj q _=>absurd q.1 (Zi hj)
  done:=λs Q E q hE=>HT.rE hh q.2.1 q.2.2 hx hE }
theorem Lo{K:adf}{k:Nat}(a b z TI TO i1 i2:tx)(Z:HT.AU z TI TO i1 i2 [i1,a] [i2,b]):GL P w K (.Tuple es k pos) (Itz K a b) [z,TI,TO,i1,i2] z (TnZ z TI TO i1 i2 a b) where
 mem:=by simp
 obj:=λi h st c hc=>by
  obtain⟨hz,hTI,⟨u,v,hTO⟩,⟨o,ho,hc1,hd⟩,⟨o2,ho2,hc2,hd2⟩⟩:=st
  simp only[Zd,ZY,abr] at hc
  rcases hc with rfl | rfl | rfl | rfl | rfl
  ·exact⟨_,hz,λv z=>by cases z⟩
  ·exact⟨_,hTI,λv z=>by cases z⟩
  ·exact⟨_,hTO,λv z=>by cases z⟩
  ·exact⟨o,ho,λv z=>by rw[hd] at z;cases z⟩
  ·exact⟨o2,ho2,λv z=>by rw[hd2] at z;cases z⟩
 keep:=λi h h' st kk=>by
  obtain⟨hz,hTI,⟨u,v,hTO⟩,⟨o,ho,r⟩,⟨o2,ho2,r2⟩⟩:=st
  exact⟨kk z (by simp) _ hz,kk TI (by simp) _ hTI,⟨u,v,kk TO (by simp) _ hTO⟩,⟨o,kk i1 (by simp) _ ho,r⟩,⟨o2,kk i2 (by simp) _ ho2,r2⟩⟩
 item:=by
  intro X hP hw hK hc i pins s σ H E I hf st hg
  subst hP hw hK
  obtain⟨xs,ys,x,y,hq,hq2,hx,hy⟩:=hg
  obtain⟨its,rv,p,hz0⟩:=I.tuple hq
  obtain⟨its2,rv2,p2,hz2⟩:=I.tuple hq2
  have hT:s.heap.IsTuple a its.toArray:=p
  have hT2:s.heap.IsTuple b its2.toArray:=p2
  have hh:=I.ok.hd hc
  obtain⟨hz,hTI,⟨u0,v0,hTO⟩,hit1,hit2⟩:=st
  have li:i<its.toArray.size:=by rw[YC,<- rv.length];exact(Yz.mp hx).1
  have li2:i<its2.toArray.size:=by rw[YC,<- rv2.length];exact(Yz.mp hy).1
  have nea:a≠i1:=λe=>by
   obtain⟨o',ho',hc',_⟩:=hit1
   obtain⟨o,ho,hcl,_⟩:=hT
   rw[e,ho'] at ho;cases ho;rw[hc'] at hcl;exact absurd hcl (by decide)
  have neb:b≠i2:=λe=>by
   obtain⟨o',ho',hc',_⟩:=hit2
   obtain⟨o,ho,hcl,_⟩:=hT2
   rw[e,ho'] at ho;cases ho;rw[hc'] at hcl;exact absurd hcl (by decide)
  have Tn:∀ c,c∈[z,TI,TO,i1,i2]->s.heap.objs.size≠c:=λc hc=>by
   simp only[Zd,ZY,abr] at hc
   rcases hc with rfl | rfl | rfl | rfl | rfl
   ·exact ZJ (YI hz)
   ·exact ZJ (YI hTI)
   ·exact ZJ (YI hTO)
   ·obtain⟨o,ho,_⟩:=hit1;exact ZJ (YI ho)
   ·obtain⟨o,ho,_⟩:=hit2;exact ZJ (YI ho)
  refine HT.BA Z (HT.vS (prog:=X.prog) (w:=X.w) (A:=X.A.in1) hh i1 a nea its.toArray) (HT.vS (prog:=X.prog) (w:=X.w) (A:=X.A.in1) hh i2 b neb its2.toArray) hz hTI hTO ⟨hit1,hT⟩ ⟨hit2,hT2⟩ li li2 λx' y' h1 tk hx' hy' ez eo st1 st2 hT1 hsz kk=>⟨_,rfl,?_⟩
  refine wpAny_letOwnedTupleGo_zip ez λh2 ez2 sb=>?_
  generalize hTT:s.heap.objs.size=T at *
  obtain⟨u,hu,ru⟩:=rv.get hx
  obtain⟨u2,hu2,ru2⟩:=rv2.get hy
  have ex:x'=u:=by
   rw[show its.toArray[i]?=its[i]? by simp,hu] at hx'
   exact(YU hx').symm
  have ey:y'=u2:=by
   rw[show its2.toArray[i]?=its2[i]? by simp,hu2] at hy'
   exact(YU hy').symm
  subst ex ey
  have kall:∀ c o,c∉[z,TI,TO,i1,i2]->s.heap.get? c=U o->h2.get? c=U o:=λc o hb q=>by
   simp only[Zd,ZY,abr,not_or] at hb
   exact(sb.2 c hb.1).trans (kk c o hb.1 hb.2.2.1 hb.2.2.2.1 hb.2.2.2.2 q)
  have hTp:IsTupN h2 T #[x',y']:=⟨_,(sb.2 T (Tn z (by simp))).trans hT1,rfl,⟨_,rfl⟩,rfl⟩
  have hTs:s.heap.objs.size<=T:=abJ hTT
  have TIi:TI≠i1/\TI≠i2:=⟨Z.t1,Z.t2⟩
  refine⟨.ref T,upd H T (.tup [x,y]),I.turnLaid kall hf hTs ⟨by show 2<=acY;decide,[x',y'],.cons ru (.cons ru2 .nil),hTp⟩,rfl,⟨T,x,y,rfl,I.hok.fresh hTs,rfl,λzs hz=>by rw[I.tuple_inj hz hq];exact hx,λzs hz=>by rw[I.tuple_inj hz hq2];exact hy⟩,⟨ez2,(sb.2 TI Z.TIz).trans (kk TI _ Z.TIz Z.TITO Z.t1 Z.t2 hTI),⟨x',y',(sb.2 TO Z.TOz).trans eo⟩,?_,?_⟩,λc hc=>?_⟩
  ·obtain⟨⟨o,ho,r⟩,_⟩:=st1
   exact⟨o,(sb.2 i1 (λe=>Z.z1 (by simp[e]))).trans ho,r⟩
  ·obtain⟨⟨o,ho,r⟩,_⟩:=st2
   exact⟨o,(sb.2 i2 (λe=>Z.z2 (by simp[e]))).trans ho,r⟩
  ·rw[aR (Tn c hc).symm]
   exact(hf c hc).1
 done:=by
  intro X hP hw hK hc i pins s σ H E I hf st hg
  subst hP hw hK
  obtain⟨xs,ys,hq,hq2,hl⟩:=hg
  obtain⟨its,rv,p,hz0⟩:=I.tuple hq
  obtain⟨its2,rv2,p2,hz2⟩:=I.tuple hq2
  have hT:s.heap.IsTuple a its.toArray:=p
  have hT2:s.heap.IsTuple b its2.toArray:=p2
  have hh:=I.ok.hd hc
  obtain⟨hz,hTI,⟨u0,v0,hTO⟩,hit1,hit2⟩:=st
  have fin:∀ h' tk,(∀ c o,c≠z->c≠TO->c≠i1->c≠i2->s.heap.get? c=U o->h'.get? c=U o)->(Y:Option gV)=Y/\Inv X pins σ H { s with heap:=h',toks:=tk }:=λh' tk kk=>⟨rfl,I.turnedL (fp:=[z,TI,TO,i1,i2]) (λc o hb q=>by
   simp only[Zd,ZY,abr,not_or] at hb
   exact kk c o hb.1 hb.2.2.1 hb.2.2.2.1 hb.2.2.2.2 q) hf⟩
  by_cases h1:xs.length<=i
  ·exact HT.zn Z (Dw (prog:=X.prog) (w:=X.w) (A:=X.A.in1) hh i1 a its.toArray i (by simp;have:=rv.length;omega)) hz hTI hTO ⟨rfl,hit1,hT⟩ fin
  ·have h2:ys.length<=i:=hl.resolve_left h1
   have nea:a≠i1:=λe=>by
    obtain⟨o',ho',hc',_⟩:=hit1
    obtain⟨o,ho,hcl,_⟩:=hT
    rw[e,ho'] at ho;cases ho;rw[hc'] at hcl;exact absurd hcl (by decide)
   exact HT.zm Z (HT.vS (prog:=X.prog) (w:=X.w) (A:=X.A.in1) hh i1 a nea its.toArray) (Dw (prog:=X.prog) (w:=X.w) (A:=X.A.in1) hh i2 b its2.toArray i (by simp;have:=rv2.length;omega)) hz hTI hTO ⟨hit1,hT⟩ (by simp;have:=rv.length;omega) ⟨rfl,hit2,hT2⟩ fin
 self:=λA i s Q E st h=>wpAny_pyIter_zip st.1 h
def iZip(K:adf)(t:TA):TI:=λσ H R=>t σ H λxs H1=>∃ a b,xs=[.ref a,.ref b]/\(∃ ys,lZ K H1 a ys)/\(∃ ys,lZ K H1 b ys)/\R (Itz K a b) H1
variable{X:Cx}
theorem Le{n t t2:Nat}(h1:t<n)(h2:t2<n):HT.AU (n+4) (n+2) (n+3) n (n+1) [n,t] [n+1,t2]:=by
 constructor<;>simp only[Zd,ZY,abr,not_or,ne_eq,true_or]<;>(try (show ¬ ((_:Nat)=_)))<;>(try omega)
 all_goals (refine⟨?_,?_⟩<;>(show ¬ ((_:Nat)=_))<;>omega)
theorem Qn{n b:Nat}(h:b∈[n+4,n+2,n+3,n,n+1]):n<=b:=by
 simp only[Zd,ZY,abr] at h
 omega
def VE{a b:Nl}{k:Nat}{p:Pos}(hg:Gl X "zip")(hm:X.mg "zip" = Y)(ha:PA X [a,b] ta)(hs:acZ [a,b] X.env=[(false,eval a X.env),(false,eval b X.env)])(hs2:acZ [b] X.env=[(false,eval b X.env)]) :
  PI X (.Tuple es k tp) (.Call (.Name "zip" p) [a,b] [] pos) (iZip X.K ta):=by
 intro pins s σ H R I h
 refine Call_ (lN I hg hm boot_zip (Zw (cZ (ha pos pins s σ H _ I h) λus s1 ⟨vs,H1,I1,r1,q1⟩=>?_) (by rw[hs,hs2]) (by rw[hs2];rfl)))
 obtain⟨t,t2,rfl,⟨ys,hq⟩,⟨ys2,hq2⟩,q⟩:=q1
 obtain⟨u,v,rfl,ru,rv⟩:=r1.two
 cases ru
 cases rv
 obtain⟨its,rv,pt,hz⟩:=I1.tuple hq
 obtain⟨its2,rv2,pt2,hz2⟩:=I1.tuple hq2
 have l1:t<s1.heap.objs.size:=by obtain⟨o,ho,_⟩:=pt;exact YI ho
 have l2:t2<s1.heap.objs.size:=by obtain⟨o,ho,_⟩:=pt2;exact YI ho
 refine HT.KH pt pt2 λh' hz hTI hTO hi1 hi2 hsz kk=>wpAny_pyIter_zip hz ?_
 have Z:HT.AU (s1.heap.objs.size+4) (s1.heap.objs.size+2) (s1.heap.objs.size+3) s1.heap.objs.size (s1.heap.objs.size+1) [s1.heap.objs.size,t] [s1.heap.objs.size+1,t2]:=Le l1 l2
 refine⟨s1.heap.objs.size+4,[s1.heap.objs.size+4,s1.heap.objs.size+2,s1.heap.objs.size+3,s1.heap.objs.size,s1.heap.objs.size+1],_,_,H1,rfl,I1.kept (t':=s1.toks) kk,Lo t t2 _ _ _ _ _ Z,⟨hz,hTI,⟨_,_,hTO⟩,hi1,hi2⟩,λb hb=>?_,q⟩
 have hb':s1.heap.objs.size<=b:=Qn hb
 exact I1.fpOk hb' (I1.hok.fresh hb')
end
end L2
namespace M
open L2
section
variable{X:Cx}{K:adf}{μ μ':Fp}{H H':Hp}{S:ac}
noncomputable def kL:List D->List D->List D
 | x::r,y::q=>.tup [x,y]::kL r q
 | _,_=>[]
theorem Ba:∀ (xs ys:List D) (i:Nat),(kL xs ys).length<=i->xs.length<=i\/ys.length<=i
 | [],_,i,_=>.inl (abf _)
 | _::_,[],i,_=>.inr (abf _)
 | x::r,y::q,0,h=>by simp[kL] at h
 | x::r,y::q,i+1,h=>by
  rw[kL,YT] at h
  rcases Ba r q i (by omega) with h | h
  ·exact .inl (by rw[YT];omega)
  ·exact .inr (by rw[YT];omega)
theorem Bb:∀ (xs ys:List D) (i:Nat) (d:D),(kL xs ys)[i]?=U d->∃ x y,xs[i]?=U x/\ys[i]?=U y/\d=.tup [x,y]
 | [],_,i,d,h=>by simp[kL] at h
 | _::_,[],i,d,h=>by simp[kL] at h
 | x::r,y::q,0,d,h=>by simp[kL] at h;exact⟨x,y,rfl,rfl,h.symm⟩
 | x::r,y::q,i+1,d,h=>by
  rw[kL,abg] at h
  simpa using Bb r q i d h
def NM(r:Rep K μ H (.ref a) (.tup xs))(q:Rep K μ H (.ref b) (.tup ys)):GO K μ H (Itz K a b) (kL xs ys):=λμ' H' S' e s i=>by
 have r':=r.monoP e
 have q':=q.monoP e
 obtain⟨b1,vs,hb,hq,rs⟩:=r'.sqT
 cases hb
 obtain⟨b2,ws,hb,hq2,qs⟩:=q'.sqT
 cases hb
 refine⟨λd hd=>?_,λhl=>⟨vs,ws,hq,hq2,by rw[rs.length,qs.length];exact Ba _ _ _ hl⟩⟩
 obtain⟨x,y,hx,hy,rfl⟩:=Bb xs ys i d hd
 obtain⟨v,hv,rv⟩:=rs.get hx
 obtain⟨u,hu,ru⟩:=qs.get hy
 refine⟨⟨vs,ws,v,u,hq,hq2,hv,hu⟩,λy H2 hy=>?_⟩
 obtain⟨p,v',u',rfl,hp,rfl,hw,hw2⟩:=hy
 have ev:v'=v:=by have:=hw vs hq;rw[hv] at this;exact(YU this).symm
 have eu:u'=u:=by have:=hw2 ws hq2;rw[hu] at this;exact(YU this).symm
 subst ev eu
 obtain⟨e2,s2⟩:=s.laid (o:=.tup [v',u']) hp
 refine⟨e2,s2,?_⟩
 exact .tup bf (s.notMem hp) (.cons (rv.mono e2) (.cons (ru.mono e2) .nil))
noncomputable def oS(ms:MA):MA:=λenv S=>(ms env S).bind λp=>match p.1 with | [.tup xs,.tup ys]=>U (kL xs ys,p.2) | _=>Y
def XE{a b:Nl}{k:Nat}{p:Pos}(hm:X.mg "zip" = Y)(ha:DA X [a,b] ms)(hg:Gl X "zip")(hs:acZ [a,b] X.env=[(false,eval a X.env),(false,eval b X.env)])(hs2:acZ [b] X.env=[(false,eval b X.env)]) :
  DI X (.Tuple es k tp) (.Call (.Name "zip" p) [a,b] [] pos) (oS ms):=PI.imp (VE hg hm ha hs hs2) λσ H R ⟨μ,S,env,xs,S',hS,hE,h,post⟩=>by
 obtain⟨⟨ds,S1⟩,h1,h⟩:=Yx.mp h
 refine⟨μ,S,env,ds,S1,hS,hE,h1,λvs H1 μ1 e1 s1 r1=>?_⟩
 dsimp only at h
 split at h
 ·rename_i xs ys
  cases h
  obtain⟨v,u,rfl,rv,ru⟩:=r1.two
  have rv':=rv
  have ru':=ru
  obtain⟨b,ws,rfl,hq,rs⟩:=rv.sqT
  obtain⟨b2,ws2,rfl,hq2,rs2⟩:=ru.sqT
  exact⟨b,b2,rfl,⟨ws,hq⟩,⟨ws2,hq2⟩,post _ H1 μ1 e1 s1 (NM rv' ru')⟩
 ·cases h
end
section
variable{X:Cx}{K:adf}{μ μ':Fp}{H H':Hp}{S S':ac}
noncomputable def fA:D->Option bD
 | .int i=>U (.inl i)
 | .str x=>U (.inr x)
 | _=>Y
def nN{d:D}{k:bD}(h:fA d=U k)(r:Rep K μ H v d):v=kV k:=by
 cases d<;>first | cases h | skip
 ·rw[r.int_inv];rfl
 ·rw[r.str_inv];rfl
noncomputable def jy(kvs:List (bD×D))(k:bD):Option D:=match kvs with
 | []=>Y
 | p::r=>if p.1=k then U p.2 else jy r k
noncomputable def JP(kvs:List (bD×D))(k:bD):Bool:=match kvs with
 | []=>false
 | p::r=>if p.1=k then true else JP r k
noncomputable def QG(kvs:List (bD×D))(k:bD)(d:D):List (bD×D):=match kvs with
 | []=>[]
 | p::r=>(if p.1=k then(p.1,d) else p)::QG r k d
noncomputable def Mc(kvs:List (bD×D))(k:bD)(d:D):List (bD×D):=if JP kvs k then QG kvs k d else kvs++[(k,d)]
noncomputable def cJ(kvs:List (bD×D)):List (bD×D)->List (bD×D)
 | []=>kvs
 | p::r=>cJ (Mc kvs p.1 p.2) r
inductive KR(K:adf)(μ:Fp)(H:Hp):List (bD×V)->List (bD×D)->Prop
 | nil:KR K μ H [] []
 | cons {k:bD} {v:V} {d:D} {vs:List (bD×V)} {ds:List (bD×D)} (h:Rep K μ H v d) (t:KR K μ H vs ds):KR K μ H ((k,v)::vs) ((k,d)::ds)
theorem KR.keys:∀ {vs ds},KR K μ H vs ds->vs.map (·.1)=ds.map (·.1)
 | _,_,.nil=>rfl
 | _,_,.cons _ t=>by rw[YJ,YJ,KR.keys t]
theorem KR.reps:∀ {vs ds},KR K μ H vs ds->Reps K μ H (vs.map (·.2)) (ds.map (·.2))
 | _,_,.nil=>.nil
 | _,_,.cons h t=>.cons h (KR.reps t)
theorem KR.length:∀ {vs ds},KR K μ H vs ds->vs.length=ds.length
 | _,_,.nil=>rfl
 | _,_,.cons _ t=>by rw[YT,YT,KR.length t]
theorem KR.less{p:tx}{cs fb:List tx}:∀ {vs ds},KR K ⟨cs,p::fb⟩ H vs ds->KR K ⟨cs,fb⟩ H vs ds
 | _,_,.nil=>.nil
 | _,_,.cons h t=>.cons h.less (KR.less t)
theorem KR.chg{p:tx}(hp:p∈μ.fb):∀ {vs ds},KR K μ H vs ds->KR K μ (upd H p o) vs ds
 | _,_,.nil=>.nil
 | _,_,.cons h t=>.cons (h.chg hp) (KR.chg hp t)
theorem KR.of:∀ {kvs:List (bD×V)} {ks:List bD} {ds:List D},ks=kvs.map (·.1)->Reps K μ H (kvs.map (·.2)) ds->KR K μ H kvs (ks.zip ds)
 | [],_,_,e,r=>by subst e;cases r;exact .nil
 | p::q,_,_,e,r=>by
  subst e
  rw[YJ] at r
  cases r with | cons h t=>exact .cons h (KR.of rfl t)
theorem KR.val{k:bD}:∀ {vs ds},KR K μ H vs ds->∀ {d},jy ds k=U d->∃ v,tN vs k=U v/\Rep K μ H v d
 | _,_,.nil,d,h=>by cases h
 | _,_,.cons (k:=k') h t,d,q=>by
  unfold jy at q
  split at q
  ·rename_i e;cases q;exact⟨_,tK e,h⟩
  ·rename_i e
   obtain⟨v,h1,h2⟩:=KR.val t q
   exact⟨v,(tL e).trans h1,h2⟩
theorem KR.has{k:bD}:∀ {vs ds},KR K μ H vs ds->(vs.any λkv=>decide (kv.1=k))=JP ds k
 | _,_,.nil=>rfl
 | _,_,.cons (k:=k') h t=>by
  rw[ZZ,KR.has t]
  unfold JP
  by_cases e:k'=k
  ·simp[e]
  ·simp only[YK e,Bool.false_or,if_neg e];cases t<;>rfl
theorem KR.setv{k:bD}{d:D}(r:Rep K μ H x d):∀ {vs ds},KR K μ H vs ds->KR K μ H (vs.map λkv=>if kv.1=k then(kv.1,x) else kv) (QG ds k d)
 | _,_,.nil=>.nil
 | _,_,.cons (k:=k') h t=>by
  rw[YJ]
  unfold QG
  by_cases e:k'=k
  ·simp only[YR e];exact .cons r (KR.setv r t)
  ·simp only[if_neg e];exact .cons h (KR.setv r t)
theorem KR.snoc{k:bD}{d:D}(r:Rep K μ H x d):∀ {vs ds},KR K μ H vs ds->KR K μ H (vs++[(k,x)]) (ds++[(k,d)])
 | _,_,.nil=>.cons r .nil
 | _,_,.cons h t=>.cons h (KR.snoc r t)
def KR.put{k:bD}{d:D}{vs ds}(r:Rep K μ H x d)(t:KR K μ H vs ds):KR K μ H (wI vs k x) (Mc ds k d):=by
 unfold wI Mc
 rw[t.has]
 split
 ·exact t.setv r
 ·exact t.snoc r
theorem KR.merge:∀ {ws es vs ds},KR K μ H ws es->KR K μ H vs ds->KR K μ H (jB vs ws) (cJ ds es)
 | _,_,_,_,.nil,t=>t
 | _,_,vs,ds,.cons (k:=k) (v:=v) (d:=d) h q,t=>by
  have:=KR.merge q (t.put (k:=k) h)
  exact this
abbrev MP:=bh->ac->Option (List (bD×D)×ac)
noncomputable def kO:List (ME×ME)->MP
 | []=>λ_ S=>U ([],S)
 | (a,b)::r=>λenv S=>(a env S).bind λp=>(fA p.1).bind λk=>(b env p.2).bind λq=>(kO r env q.2).bind λz=>U ((k,q.1)::z.1,z.2)
def DPs(X:Cx)(pos:Pos)(keys:List (Option Nl))(values:List Nl)(ms:List (ME×ME)):Prop:=PPs X pos keys values (ms.map λp=>(tM X.K p.1,tM X.K p.2))
def Tb:DPs X pos [] [] []:=Ra
def Pn{k:Nl}(hk:DE X k mk)(hv:DE X v mv)(hr:DPs X pos ks vs ms):DPs X pos (U k::ks) (v::vs) ((mk,mv)::ms):=Mn hk hv hr
theorem qI:∀ {ms:List (ME×ME)} {μ:Fp} {H:Hp} {S S':ac} {kvs:List (bD×D)} {Q:List (V×V)->Hp->Prop},SOk K μ S H->EOk K μ H σ env->kO ms env S=U (kvs,S') ->
  (∀ vs H' μ',Ext μ H μ' H'->SOk K μ' S' H'->KR K μ' H' vs kvs->Q (vs.map λkv=>(kV kv.1,kv.2)) H')->yS (ms.map λp=>(tM K p.1,tM K p.2)) σ H Q
 | [],μ,H,S,S',kvs,Q,s,e,h,q=>by cases h;exact q [] H μ s.ext s .nil
 | (a,b)::r,μ,H,S,S',kvs,Q,s,e,h,q=>by
  obtain⟨⟨x,S1⟩,h1,h⟩:=Yx.mp h
  obtain⟨k,h2,h⟩:=Yx.mp h
  obtain⟨⟨y,S2⟩,h3,h⟩:=Yx.mp h
  obtain⟨⟨zs,S3⟩,h4,h⟩:=Yx.mp h
  cases h
  refine⟨μ,S,env,x,S1,s,e,h1,λv H1 μ1 e1 s1 r1=>⟨μ1,S1,env,y,S2,s1,e.mono e1,h3,λw H2 μ2 e2 s2 r2=>qI s2 ((e.mono e1).mono e2) h4 λvs H3 μ3 e3 s3 r3=>?_⟩⟩
  have:=q ((k,w)::vs) H3 μ3 ((e1.trans e2).trans e3) s3 (.cons (r2.mono e3) r3)
  rw[YJ] at this
  rw[nN h2 r1]
  exact this
def Ext.shut{cs fb:List tx}(hp:H p=Y)(hn:p∉fb)(e:Ext ⟨cs,p::fb⟩ (upd H p o) μ2 H2)(s:SOk K μ2 S2 H2) :
  Ext ⟨cs,fb⟩ H ⟨μ2.cs,fb⟩ (upd H2 p o')/\SOk K ⟨μ2.cs,fb⟩ S2 (upd H2 p o')/\(⟨μ2.cs,fb⟩:Fp).no p/\(∀ vs ds,KR K μ2 H2 vs ds->KR K ⟨μ2.cs,fb⟩ (upd H2 p o') vs ds)/\H2 p=U o:=by
 have pm:p∈μ2.fb:=by rw[e.fb];exact YF
 have ncs:p∉μ2.cs:=s.disj p pm
 have ncs0:p∉cs:=λz=>ncs (by obtain⟨l,q,_⟩:=e.pre;rw[q];exact Zz _ z)
 have ef:μ2=⟨μ2.cs,p::fb⟩:=by have:=e.fb;obtain⟨a,b⟩:=μ2;simp only at this;rw[this]
 refine⟨⟨rfl,?_,λa o2 na ha=>?_,λa ha=>?_⟩,?_,⟨ncs,?_⟩,λvs ds r=>?_,e.keep p o ncs0 bf⟩
 ·obtain⟨l,q,hl⟩:=e.pre
  refine⟨l,q,λa ha=>?_⟩
  have:=hl a ha
  by_cases z:a=p
  ·subst z;exact hp
  ·rwa[aR z] at this
 ·have z:=cD ha hp
  rw[aR z]
  exact e.keep a o2 na ((aR z).trans ha)
 ·have z:a≠p:=λz=>ncs (z ▸ ha)
  rw[aR z];exact e.dom a ha
 ·have:=(s.chg (o:=o') pm)
  rw[ef] at this
  exact this.less
 ·exact hn
 ·have:=r.chg (o:=o') pm
  rw[ef] at this
  exact this.less
noncomputable def jh(ms:List (ME×ME)):ME:=λenv S=>(kO ms env S).bind λz=>if z.1.length<=15 then U (.dct ((cJ [] z.1).map (·.1)) ((cJ [] z.1).map (·.2)),z.2) else Y
def Tq{keys:List (Option Nl)}(h:DPs X pos keys values ms)(hall:keys.all (·.isSome)=true)(hl:keys.length=values.length)(h0:keys≠[])(h15:keys.length<=15) :
  DE X (.Dict keys values pos) (jh ms):=PE.imp (GX h hall hl h0 h15) λσ H Q ⟨μ,S,env,d,S',hS,hE,hm,post⟩=>by
 obtain⟨⟨kvs,S1⟩,h1,hm⟩:=Yx.mp hm
 dsimp only at hm
 split at hm
 ·rename_i hl
  cases hm
  intro p hp
  obtain⟨cs,fb⟩:=μ
  refine qI (hS.more hp) (hE.more hp) h1 λvs H2 μ2 e2 s2 r2=>?_
  obtain⟨eF,sF,nF,rF,hF⟩:=Ext.shut (o':=.dK (jB [] vs)) hp (hS.notMem hp).2 e2 s2
  refine⟨hF,vs,rfl,by rw[r2.length];exact hl,post _ _ _ eF sF ?_⟩
  have rr:=(rF _ _ r2).merge KR.nil
  have:=Rep.dct (K:=X.K) (bf (H:=H2) (o:=.dK (jB [] vs))) nF rr.reps
  rw[rr.keys] at this
  exact this
 ·cases hm
noncomputable def Bg(S:ac):D->Option (List (bD×D))
 | .dct ks vs=>U (ks.zip vs)
 | .ref r=>match S[r]? with | some (.dct ks vs)=>U (ks.zip vs) | _=>Y
 | _=>Y
def Qw{d:D}{kvs:List (bD×D)}(s:SOk K μ S H)(r:Rep K μ H v d)(h:Bg S d=U kvs):∃ a vs,v=.ref a/\H a=U (.dK vs)/\KR K μ H vs kvs:=by
 cases r with
 | dct hd n rr=>cases h;exact⟨_,_,rfl,hd,KR.of rfl rr⟩
 | ref hr=>
  rename_i a i
  unfold Bg at h
  dsimp only at h
  cases q:S[i]? with
  | none=>rw[q] at h;cases h
  | some c=>
   rw[q] at h
   have ck:=s.cell _ _ _ hr q
   cases c with
   | lst _=>cases h
   | dct ks xs=>cases h;obtain⟨vs,e,hk,rr⟩:=ck;exact⟨a,vs,rfl,e,KR.of hk rr⟩
 | _=>cases h
noncomputable def aA(S:ac)(x y:D):Option D:=match Bg S x with
 | some kvs=>(fA y).bind λk=>jy kvs k
 | none=>fIx S x y
def Sh(hu:X.A.units+1<cLine):IxR X (λx y H Q=>∃ a v,x=.ref a/\DGet H a y (U v)/\Q v H):=by
 intro value slice pins s σ H x y v u Q I rx ry h hs
 obtain⟨a,z,rfl,g,q⟩:=h
 cases rx
 exact tail_any (DB I g) F.slot_dict_getitem.lookup (Ky hu I g ry λw' s' I' rw'=>⟨z,H,I',rw',q⟩) hs
def ix_DX(hu:X.A.units+1<cLine):IxR X (og X.K aA):=IxR.imp ((Sh hu).or ix_D) λx y H Q ⟨μ,S,dx,dy,dz,hS,h1,h2,h3,post⟩=>by
 unfold aA at h3
 split at h3
 ·rename_i kvs hk
  obtain⟨k,h4,h5⟩:=Yx.mp h3
  obtain⟨a,vs,rfl,ha,rr⟩:=Qw hS h1 hk
  obtain⟨v,h6,h7⟩:=rr.val h5
  refine .inl ⟨a,v,rfl,?_,post.here hS h7⟩
  rw[nN h4 h2,<- h6]
  exact DGet.k ha
 ·exact .inr ⟨μ,S,dx,dy,dz,hS,h1,h2,h3,post⟩
noncomputable def XR(hu:X.A.units+1<cLine)(ha:DE X a ma)(hb:DE X b mb)(hs:nZ b:=by intro _ _;rfl):DE X (.Subscript a b pos) (ay aA ma mb):=
 PE.imp (Mt (ix_DX hu) ha hb hs) λ_ _ _ h=>yT h
end
end M
namespace L2
section
variable{X:Cx}{o e:Nl}{es:List Nl}{to:TE}{t:TA}{name:Str}{apos cpos:Pos}{id:String}{r:V->List V->Hp->VK->Prop}
def tBD(r:V->List V->Hp->VK->Prop)(to:TE)(t:TA):TE:=λσ H Q=>to σ H λx H1=>(∃ p,x=.ref p/\IsD H1 p)/\t σ H1 λxs H2=>r x xs H2 Q
def VP(slot:Slot "dict" name id)(hty:typeOf (.builtin id)=pure (.type "method_descriptor"))(hm:MtR X id r)(ho:PE X o to)(ha:PA X (e::es) t)
  (hbase:attributeBase o name X.env (eval o X.env)=eval o X.env)
  (hfew:((backTo cpos (acZ (e::es) X.env)).all (λx=>!x.1)&&(backToKw cpos (keywordEach [] X.env)).all (λx=>x.1.isSome)&&decide ((e::es).length+([]:List Keyword).length+(if ([]:List Keyword).isEmpty then 0 else 1)<30))=true)
  (hline:(apos.endLine==cpos.line)=true) (hs:acZ (e::es) X.env=(false,eval e X.env)::acZ es X.env) (hplain:(backTo cpos (acZ es X.env)).any (·.1)=false) :
  PE X (.Call (.Attribute o name apos) (e::es) [] cpos) (tBD r to t):=by
 intro pins s σ H Q I h
 refine abi hbase hfew hline rfl (cZ (ho pins s σ H _ I h) λv s1 ⟨x,H1,I1,r1,ty,q1⟩=>?_)
 obtain⟨p,rfl,hq⟩:=ty
 cases r1
 obtain⟨t1,t2,_⟩:=WX I1 hq
 refine⟨"dict",id,F.plainAttrs_dict,slot,hty,t1,t2,?_⟩
 have hA:=ha cpos pins s1 σ H1 _ I1 q1
 rw[hs] at hA ⊢
 refine abk (by show(false||(backTo cpos (acZ es X.env)).any (·.1))=false;rw[hplain]<;>rfl) (aaP ?_)
 exact cZ hA λus s2 ⟨vs,H2,I2,r2,q2⟩=>hm pins s2 σ H2 (V.ref p) vs _ us Q I2 (show RelV (V.ref p) (Value.ref p) from rfl) r2 q2
theorem Fb:MtR X "dict.update" (λx xs H Q=>∃ a b kvs more,x=.ref a/\xs=[.ref b]/\a≠b/\H a=U (.dK kvs)/\H b=U (.dK more)/\kvs.length+more.length<=acY/\Q .non (upd H a (.dK (jB kvs more)))):=by
 intro pins s σ H x xs v us Q I rx rv h
 obtain⟨a,b,kvs,more,rfl,rfl,ne,ha,hb,hl,q⟩:=h
 cases rx
 obtain⟨u,rfl,ru⟩:=rv.one
 cases ru
 obtain⟨z,hd,vs,r0,dd⟩:=Pr I.hok ha
 obtain⟨z2,hd2,vs2,r2,dd2⟩:=Pr I.hok hb
 have l1:=r0.length
 have l2:=r2.length
 refine call_meetsIn acT dd.typeIs F.entry_dict_update (F.args_dict_update_2 _ _) (meets_dict_update (cq X.prog X.w) a b ne hd2) ⟨vs,vs2,dd,dd2,by omega,λh' dd' _ hs=>?_⟩
 have hz:(jB kvs more).length<=acY:=by
  have h1:=kQ more kvs
  omega
 have he:∃ q,h'.get? a=U q:=let ⟨q,_,_,hq,_⟩:=dd';⟨q,hq⟩
 exact⟨.non,_,Im I (by rw[ha];exact True.intro) hs he (Ps hz hd (r2.merge r0) dd'),rfl,q⟩
end
end L2
namespace M
open L2
section
variable{X:Cx}{K:adf}{μ μ':Fp}{H H':Hp}{S S':ac}
def SOk.writeD{S:ac}(s:SOk K μ S H){i:Nat}{a:tx}{kvs':List (bD×V)}{ks:List bD}(hi:μ.cs[i]?=U a)(h:H a=U (.dK kvs))(hk:ks=kvs'.map (·.1))(r:Reps K μ H (kvs'.map (·.2)) ds) :
  Ext μ H μ (upd H a (.dK kvs'))/\SOk K μ (S.set i (.dct ks ds)) (upd H a (.dK kvs')):=by
 have ha:=YY hi
 have e:Ext μ H μ (upd H a (.dK kvs')):=⟨rfl,⟨[],by simp,λ_ z=>by simp at z⟩,λb o' n q=>by rw[aR (by rintro rfl;exact n ha)];exact q,λb hb=>by
  by_cases z:b=a
  ·subst z;rw[bf];simp
  ·rw[aR z];exact s.dom b hb⟩
 refine⟨e,s.nd,by simp[s.len],λj b c h1 h2=>?_,λb hb=>?_,s.disj⟩
 case refine_2=>
  by_cases z:b=a
  ·subst z;rw[bf];simp
  ·rw[aR z];exact s.fdom b hb
 by_cases hj:j=i
 ·subst hj
  rw[hi] at h1;cases h1
  have hl:j<S.length:=by rw[<- s.len];exact(Yz.mp hi).1
  rw[Zg hl] at h2
  cases h2
  exact⟨kvs',bf,hk,r.mono e⟩
 ·rw[Zf (Ne.symm hj)] at h2
  refine(s.cell j b c h1 h2).mono e (aR λz=>hj ?_)
  subst z
  exact Hj s.nd h1 hi
def BO{p:tx}{cs fb:List tx}(n:(⟨cs,p::fb⟩:Fp).no a):(⟨cs++[p],fb⟩:Fp).no a:=
 ⟨λz=>(YX.mp z).elim n.1 λz=>n.2 (by rw[Zr.mp z];exact YF),λz=>n.2 (YB _ z)⟩
def Rep.adopt{p:tx}{cs fb:List tx}{d:D}(r:Rep K ⟨cs,p::fb⟩ H v d):Rep K ⟨cs++[p],fb⟩ H v d:=r.imp (λh n=>⟨h,BO n⟩) λh=>AR rfl h
def Reps.adopt{p:tx}{cs fb:List tx}{d:List D}(r:Reps K ⟨cs,p::fb⟩ H v d):Reps K ⟨cs++[p],fb⟩ H v d:=r.imp (λh n=>⟨h,BO n⟩) λh=>AR rfl h
theorem KR.adopt{p:tx}{cs fb:List tx}:∀ {vs ds},KR K ⟨cs,p::fb⟩ H vs ds->KR K ⟨cs++[p],fb⟩ H vs ds
 | _,_,.nil=>.nil
 | _,_,.cons h t=>.cons h.adopt (KR.adopt t)
theorem Ext.shutR{cs fb:List tx}(hp:H p=Y)(hn:p∉fb)(e:Ext ⟨cs,p::fb⟩ (upd H p o) μ2 H2)(s:SOk K μ2 S2 H2)(r:KR K μ2 H2 vs kvs) :
  Ext ⟨cs,fb⟩ H ⟨μ2.cs++[p],fb⟩ (upd H2 p (.dK vs))/\SOk K ⟨μ2.cs++[p],fb⟩ (S2++[.dct (kvs.map (·.1)) (kvs.map (·.2))]) (upd H2 p (.dK vs))/\H2 p=U o:=by
 have pm:p∈μ2.fb:=by rw[e.fb];exact YF
 have ncs:p∉μ2.cs:=s.disj p pm
 have ncs0:p∉cs:=λz=>ncs (by obtain⟨l,q,_⟩:=e.pre;rw[q];exact Zz _ z)
 have ef:μ2.fb=p::fb:=e.fb
 obtain⟨cs2,fb2⟩:=μ2
 simp only at ef pm ncs
 subst ef
 refine⟨⟨rfl,?_,λa o2 na ha=>?_,λa ha=>?_⟩,⟨?_,by simp[s.len],λi a c h1 h2=>?_,λa ha=>?_,λa ha z=>?_⟩,e.keep p o ncs0 bf⟩
 ·obtain⟨l,q,hl⟩:=e.pre
  simp only at q
  refine⟨l++[p],by rw[q,Ze],λa ha=>?_⟩
  rcases YX.mp ha with ha | ha
  ·have:=hl a ha
   by_cases z:a=p
   ·subst z;exact hp
   ·rwa[aR z] at this
  ·rw[Zr.mp ha];exact hp
 ·have z:=cD ha hp
  rw[aR z]
  exact e.keep a o2 na ((aR z).trans ha)
 ·by_cases z:a=p
  ·subst z;rw[bf];simp
  ·rw[aR z]
   rcases YX.mp ha with ha | ha
   ·exact e.dom a ha
   ·exact absurd (Zr.mp ha) z
 ·exact aaw.mpr ⟨s.nd,by simp,λa ha b hb=>by rw[Zr.mp hb];exact λz=>ncs (z ▸ ha)⟩
 ·have sc:=s.chg (o:=.dK vs) pm
  by_cases hi:i<cs2.length
  ·rw[Za hi] at h1
   rw[Za (by rw[<- s.len];exact hi)] at h2
   have ck:=sc.cell i a c h1 h2
   cases c with
   | lst ds=>obtain⟨ws,h,r⟩:=ck;exact⟨ws,h,r.adopt⟩
   | dct ks ds=>obtain⟨ws,h,q,r⟩:=ck;exact⟨ws,h,q,r.adopt⟩
  ·have hi':i=cs2.length:=by
    have:=(Yz.mp h1).1
    simp at this;omega
   subst hi'
   rw[ZN (YL _)] at h1
   rw[show cs2.length=S2.length from s.len,ZN (YL _)] at h2
   simp at h1 h2
   subst h1 h2
   have rc:=(r.chg (o:=.dK vs) pm).adopt
   exact⟨vs,bf,rc.keys.symm,rc.reps⟩
 ·by_cases z:a=p
  ·subst z;rw[bf];simp
  ·rw[aR z];exact s.fdom a (YB _ ha)
 ·rcases YX.mp z with z | z
  ·exact s.disj a (YB _ ha) z
  ·exact hn (Zr.mp z ▸ ha)
noncomputable def fX(ms:List (ME×ME)):ME:=λenv S=>(kO ms env S).bind λz=>if z.1.length<=15 then U (.ref z.2.length,z.2++[.dct ((cJ [] z.1).map (·.1)) ((cJ [] z.1).map (·.2))]) else Y
def PH{keys:List (Option Nl)}(h:DPs X pos keys values ms)(hall:keys.all (·.isSome)=true)(hl:keys.length=values.length)(h0:keys≠[])(h15:keys.length<=15) :
  DE X (.Dict keys values pos) (fX ms):=PE.imp (GX h hall hl h0 h15) λσ H Q ⟨μ,S,env,d,S',hS,hE,hm,post⟩=>by
 obtain⟨⟨kvs,S1⟩,h1,hm⟩:=Yx.mp hm
 dsimp only at hm
 split at hm
 ·rename_i hl
  cases hm
  intro p hp
  obtain⟨cs,fb⟩:=μ
  refine qI (hS.more hp) (hE.more hp) h1 λvs H2 μ2 e2 s2 r2=>?_
  obtain⟨eF,sF,hF⟩:=Ext.shutR hp (hS.notMem hp).2 e2 s2 (r2.merge KR.nil)
  exact⟨hF,vs,rfl,by rw[r2.length];exact hl,post _ _ _ eF sF (.ref (by rw[<- s2.len];simp))⟩
 ·cases hm
noncomputable def PL(S:ac):D->Bool
 | .dct _ _=>true
 | .ref r=>match S[r]? with | some (.dct _ _)=>true | _=>false
 | _=>false
def Tv{d:D}(s:SOk K μ S H)(r:Rep K μ H v d)(h:PL S d=true):∃ a,v=.ref a/\IsD H a:=by
 cases r with
 | dct hd n rr=>exact⟨_,rfl,.inl ⟨_,.inl hd⟩⟩
 | ref hr=>
  rename_i a i
  unfold PL at h
  dsimp only at h
  cases q:S[i]? with
  | none=>rw[q] at h;cases h
  | some c=>
   rw[q] at h
   have ck:=s.cell _ _ _ hr q
   cases c with
   | lst _=>cases h
   | dct ks xs=>obtain⟨vs,e,hk,rr⟩:=ck;exact⟨a,rfl,.inl ⟨_,.inl e⟩⟩
 | _=>cases h
noncomputable def vK:MF:=λo ds S=>match o,ds with
 | .ref r,[.dct ks2 vs2]=>match S[r]? with
  | some (.dct ks vs)=>if ks.length+ks2.length<=acY then U (.non,S.set r (.dct ((cJ (ks.zip vs) (ks2.zip vs2)).map (·.1)) ((cJ (ks.zip vs) (ks2.zip vs2)).map (·.2)))) else Y
  | _=>Y
 | _,_=>Y
def RL:MtR X "dict.update" (Ql X.K vK):=MtR.imp Fb λx vs H Q ⟨μ,S,dx,ds,d,S',hS,r1,r2,h,post⟩=>by
 unfold vK at h
 split at h
 ·rename_i r ks2 vs2
  cases q:S[r]? with
  | none=>rw[q] at h;cases h
  | some c=>
   rw[q] at h
   cases c with
   | lst _=>cases h
   | dct ks xs=>
    dsimp only at h
    split at h
    ·rename_i hz
     cases h
     obtain⟨v,rfl,rv⟩:=r2.one
     cases r1 with
     | @ref a _ h'=>
      obtain⟨kvs,hw,hk,rw'⟩:=hS.cell r a _ h' q
      cases rv with
      | @dct b more _ hb nb rb=>
       have k1:=KR.of hk rw'
       have k2:=KR.of rfl rb
       have kk:=k2.merge k1
       obtain⟨e,s'⟩:=hS.writeD h' hw (kvs':=jB kvs more) (ks:=(cJ (ks.zip xs) ((more.map (·.1)).zip vs2)).map (·.1)) kk.keys.symm kk.reps
       refine⟨a,b,kvs,more,rfl,rfl,λz=>nb.1 (z ▸ YY h'),hw,hb,?_,post _ _ μ e s' .non⟩
       rw[hk,YE,YE] at hz
       exact hz
    ·cases h
 ·cases h
noncomputable def fU(f:MF)(o:ME)(ms:MA):ME:=λenv S=>(o env S).bind λp=>if PL p.2 p.1=true then(ms env p.2).bind λq=>f p.1 q.1 q.2 else Y
def PC{e:Nl}{es:List Nl}{name:Str}{id:String}{apos:Pos}(slot:Slot "dict" name id)(hty:typeOf (.builtin id)=pure (.type "method_descriptor"))(hm:MtR X id (Ql X.K f))(ho:DE X o mo)(ha:DA X (e::es) ms)
  (hbase:attributeBase o name X.env (eval o X.env)=eval o X.env)
  (hfew:((backTo cpos (acZ (e::es) X.env)).all (λx=>!x.1)&&(backToKw cpos (keywordEach [] X.env)).all (λx=>x.1.isSome)&&decide ((e::es).length+([]:List Keyword).length+(if ([]:List Keyword).isEmpty then 0 else 1)<30))=true)
  (hline:(apos.endLine==cpos.line)=true) (hs:acZ (e::es) X.env=(false,eval e X.env)::acZ es X.env) (hpl:(backTo cpos (acZ es X.env)).any (·.1)=false) :
  DE X (.Call (.Attribute o name apos) (e::es) [] cpos) (fU f mo ms):=
 PE.imp (VP slot hty hm ho ha hbase hfew hline hs hpl) λσ H Q ⟨μ,S,env,d,S',hS,hE,h,post⟩=>by
  obtain⟨⟨x,S1⟩,h1,h⟩:=Yx.mp h
  dsimp only at h
  split at h
  ·rename_i hl
   obtain⟨⟨xs,S2⟩,h2,h⟩:=Yx.mp h
   refine⟨μ,S,env,x,S1,hS,hE,h1,λv H1 μ1 e1 s1 r1=>⟨?_,μ1,S1,env,xs,S2,s1,hE.mono e1,h2,λvs H2 μ2 e2 s2 r2=>⟨μ2,S2,x,xs,d,S',s2,r1.mono e2,r2,h,(post.ext e1).ext e2⟩⟩⟩
   exact Tv s1 r1 hl
  ·cases h
end
end M
namespace L2
section
variable{X:Cx}{a b:Nl}{rest:List Nl}{ta tb:TE}{pos:Pos}
def tAndX(K:adf)(ta tb:TE):TE:=λσ H Q=>ta σ H λx H1=>∃ c,KU K x H1 c/\if c=true then tb σ H1 Q else Q x H1
def tOrX(K:adf)(ta tb:TE):TE:=λσ H Q=>ta σ H λx H1=>∃ c,KU K x H1 c/\if c=true then Q x H1 else tb σ H1 Q
def tNotX(K:adf)(ta:TE):TE:=λσ H Q=>ta σ H λx H1=>∃ c,KU K x H1 c/\Q (.bl (!c)) H1
def Rq(ha:PE X a ta)(hb:PE X (.BoolOp .And (b::rest) pos) tb):PE X (.BoolOp .And (a::b::rest) pos) (tAndX X.K ta tb):=by
 intro pins s σ H Q I h
 refine BoolOp_and (cZ (ha pins s σ H _ I h) λv s1 ⟨x,H1,I1,r1,q1⟩=>?_)
 obtain⟨c,tv,q1⟩:=q1
 refine cZ (yR pins s1 σ H1 x v (λk H'=>k=c/\H'=H1) I1 r1 ⟨c,tv,rfl,rfl⟩) λk s2 z=>?_
 obtain⟨H2,I2,rfl,rfl⟩:=z
 cases k with
 | true=>exact hb pins s2 σ H2 Q I2 q1
 | false=>exact⟨x,H2,I2,r1,q1⟩
def VJ(ha:PE X a ta)(hb:PE X (.BoolOp .Or (b::rest) pos) tb):PE X (.BoolOp .Or (a::b::rest) pos) (tOrX X.K ta tb):=by
 intro pins s σ H Q I h
 refine BoolOp_or (cZ (ha pins s σ H _ I h) λv s1 ⟨x,H1,I1,r1,q1⟩=>?_)
 obtain⟨c,tv,q1⟩:=q1
 refine cZ (yR pins s1 σ H1 x v (λk H'=>k=c/\H'=H1) I1 r1 ⟨c,tv,rfl,rfl⟩) λk s2 z=>?_
 obtain⟨H2,I2,rfl,rfl⟩:=z
 cases k with
 | false=>exact hb pins s2 σ H2 Q I2 q1
 | true=>exact⟨x,H2,I2,r1,q1⟩
def Ri(ha:PE X a ta):PE X (.UnaryOp .Not a pos) (tNotX X.K ta):=by
 intro pins s σ H Q I h
 refine UnaryOp_ (cZ (ha pins s σ H _ I h) λv s1 ⟨x,H1,I1,r1,q1⟩=>?_)
 obtain⟨c,tv,q1⟩:=q1
 refine not_of (cZ (yR pins s1 σ H1 x v (λk H'=>k=c/\H'=H1) I1 r1 ⟨c,tv,rfl,rfl⟩) λk s2 z=>?_)
 obtain⟨H2,I2,rfl,rfl⟩:=z
 exact⟨.bl (!k),H2,I2,rfl,q1⟩
end
end L2
namespace M
open L2
section
variable{X:Cx}{K:adf}{μ μ':Fp}{H H':Hp}{S S':ac}{a b:Nl}{ma mb:ME}{rest:List Nl}{pos:Pos}
noncomputable def No(a b:ME):ME:=λenv S=>(a env S).bind λp=>(tP p.2 p.1).bind λk=>if k=true then b env p.2 else U (p.1,p.2)
noncomputable def Wq(a b:ME):ME:=λenv S=>(a env S).bind λp=>(tP p.2 p.1).bind λk=>if k=true then U (p.1,p.2) else b env p.2
noncomputable def Nf(a:ME):ME:=λenv S=>(a env S).bind λp=>(tP p.2 p.1).bind λk=>U (.bl (!k),p.2)
def Tu(ha:DE X a ma)(hb:DE X (.BoolOp .And (b::rest) pos) mb):DE X (.BoolOp .And (a::b::rest) pos) (No ma mb):=PE.imp (Rq ha hb) λσ H Q ⟨μ,S,env,d,S',hS,hE,hm,post⟩=>by
 obtain⟨⟨x,S1⟩,h1,hm⟩:=Yx.mp hm
 obtain⟨k,h2,hm⟩:=Yx.mp hm
 refine⟨μ,S,env,x,S1,hS,hE,h1,λv H1 μ1 e1 s1 r1=>⟨k,sV s1 r1 h2,?_⟩⟩
 cases k with
 | true=>rw[YR rfl];exact⟨μ1,S1,env,d,S',s1,hE.mono e1,hm,post.ext e1⟩
 | false=>cases hm;rw[if_neg adh];exact post _ H1 μ1 e1 s1 r1
def XN(ha:DE X a ma)(hb:DE X (.BoolOp .Or (b::rest) pos) mb):DE X (.BoolOp .Or (a::b::rest) pos) (Wq ma mb):=PE.imp (VJ ha hb) λσ H Q ⟨μ,S,env,d,S',hS,hE,hm,post⟩=>by
 obtain⟨⟨x,S1⟩,h1,hm⟩:=Yx.mp hm
 obtain⟨k,h2,hm⟩:=Yx.mp hm
 refine⟨μ,S,env,x,S1,hS,hE,h1,λv H1 μ1 e1 s1 r1=>⟨k,sV s1 r1 h2,?_⟩⟩
 cases k with
 | false=>rw[if_neg adh];exact⟨μ1,S1,env,d,S',s1,hE.mono e1,hm,post.ext e1⟩
 | true=>cases hm;rw[YR rfl];exact post _ H1 μ1 e1 s1 r1
def Th(ha:DE X a ma):DE X (.UnaryOp .Not a pos) (Nf ma):=PE.imp (Ri ha) λσ H Q ⟨μ,S,env,d,S',hS,hE,hm,post⟩=>by
 obtain⟨⟨x,S1⟩,h1,hm⟩:=Yx.mp hm
 obtain⟨k,h2,hm⟩:=Yx.mp hm
 cases hm
 exact⟨μ,S,env,x,_,hS,hE,h1,λv H1 μ1 e1 s1 r1=>⟨k,sV s1 r1 h2,post _ H1 μ1 e1 s1 (.bl _)⟩⟩
end
section
variable{X:Cx}{K:adf}{μ μ':Fp}{H H':Hp}{S S':ac}{tg iter:Nl}{pos:Pos}
noncomputable def fq(g:MG)(body:MS)(r:Nat):Nat->Nat->bh->ac->Option pA
 | 0,_,_,_=>Y
 | f+1,i,env,S=>match S[r]? with
  | some (.lst xs)=>match xs[i]? with
   | none=>U (.nx env S)
   | some d=>(g d env S).bind λp=>(body p.1 p.2).bind λo=>match o with
    | .nx e s=>fq g body r f (i+1) e s
    | .ct e s=>fq g body r f (i+1) e s
    | .bk e s=>U (.nx e s)
    | .rt d s=>U (.rt d s)
  | _=>Y
noncomputable def gA(m:ME)(g:MG)(body:MS):MS:=λenv S=>(m env S).bind λp=>match p.1 with
 | .ref r=>fq g body r 2000 0 env p.2
 | .lst xs=>cK g body xs env p.2
 | .rol xs=>cK g body xs env p.2
 | .tup xs=>cK g body xs env p.2
 | _=>Y
noncomputable def mForX(m:ME)(g:MG)(body:MS):MS:=λenv S=>(m env S).bind λp=>match p.1 with
 | .ref r=>fq g body r 2000 0 env p.2
 | _=>Y
theorem SY(hp:PassesOwn (model X.prog X.w) X.A X.env X.xe)(hc:X.calm=true)(hi:DE X iter mi)(hg:DG X tg g)(hb:xq X body mb)
  (hs:∀ x,ada iter X.env x=pure x):DS X (.For tg iter body [] pos) (mForX mi g mb):=PS.imp (Ml hp hc (Re hi) hg hb hs) λE σ H ⟨μ,S,env,o,hS,hE,hm,post⟩=>by
 obtain⟨⟨d,S1⟩,h1,hm⟩:=Yx.mp hm
 dsimp only at hm
 split at hm
 ·rename_i r
  refine⟨μ,S,env,_,S1,hS,hE,h1,λv H1 μ1 e1 s1 r1=>?_⟩
  cases r1 with
  | @ref a _ ha=>
   have cell:∀ {μ' H' S' xs},Ext μ1 H1 μ' H'->SOk X.K μ' S' H'->S'[r]?=U (.lst xs)->∃ vs,H' a=U (.lst vs)/\Reps X.K μ' H' vs xs:=λ{μ' H' S' xs} e s q=>by
    obtain⟨l,ql,_⟩:=e.pre
    have ha':μ'.cs[r]?=U a:=by rw[ql,Za (Yz.mp ha).1];exact ha
    exact s.cell r a _ ha' q
   have hq0:∃ vs,pz X.K H1 a vs:=by
    unfold fq at hm
    split at hm
    ·rename_i xs q
     obtain⟨vs,hv,_⟩:=cell s1.ext s1 q
     exact⟨vs,.inl (.inl hv)⟩
    ·cases hm
   refine⟨a,rfl,hq0,?_⟩
   refine⟨λi n σ H=>∃ μ' S' env' o',Ext μ1 H1 μ' H/\SOk X.K μ' S' H/\EOk X.K μ' H σ env'/\fq g mb r n i env' S'=U o'/\PostS X.K μ' H o' E,
    ⟨2000,μ1,S1,env,o,s1.ext,s1,hE.mono e1,hm,post.ext e1⟩,?_⟩
   rintro i n σ' H' ⟨μ',S',env',o',e',s',r',hl,post'⟩
   cases n with
   | zero=>cases hl
   | succ n=>
    unfold fq at hl
    split at hl
    ·rename_i xs q
     obtain⟨vs,hv,rv⟩:=cell e' s' q
     have hsq:pz X.K H' a vs:=.inl (.inl hv)
     split at hl
     ·rename_i hx
      cases hl
      refine .inl ⟨⟨vs,hsq,?_⟩,post' σ' H' μ' s'.ext s' r'⟩
      rw[rv.length];simpa using hx
     ·rename_i d hx
      obtain⟨w,hw,rw0⟩:=rv.get hx
      refine .inr ⟨⟨vs,w,hsq,hw⟩,λσ2 H2=>∃ μ2 S2 env2 o2,Ext μ1 H1 μ2 H2/\SOk X.K μ2 S2 H2/\EOk X.K μ2 H2 σ2 env2/\fq g mb r n (i+1) env2 S2=U o2/\PostS X.K μ2 H2 o2 E,
       λσ2 H2 ⟨μ2,S2,env2,o2,q1,q2,q3,q4,q5⟩=>⟨n,by omega,μ2,S2,env2,o2,q1,q2,q3,q4,q5⟩,λx H2 y=>?_⟩
      obtain⟨e2,hy⟩:=y
      subst e2
      have ex:x=w:=by have:=hy vs hsq;rw[hw] at this;exact(YU this).symm
      subst ex
      obtain⟨⟨env3,S3⟩,h3,hl⟩:=Yx.mp hl
      obtain⟨o4,h4,hl⟩:=Yx.mp hl
      refine⟨μ',S',env',d,env3,S3,s',r',rw0,h3,λσ3 H3 μ3 e3 s3 r3=>⟨μ3,S3,env3,o4,s3,r3,h4,?_⟩⟩
      have eT:Ext μ1 H1 μ3 H3:=e'.trans e3
      have pT:PostS X.K μ3 H3 o' E:=post'.ext e3
      cases o4 with
      | nx e5 s5=>exact λσ6 H6 μ6 e6 s6 r6=>⟨μ6,s5,e5,o',eT.trans e6,s6,r6,hl,pT.ext e6⟩
      | ct e5 s5=>exact λσ6 H6 μ6 e6 s6 r6=>⟨μ6,s5,e5,o',eT.trans e6,s6,r6,hl,pT.ext e6⟩
      | bk e5 s5=>cases hl;exact pT
      | rt d5 s5=>cases hl;exact pT
    ·cases hl
 ·cases hm
def SZ(hp:PassesOwn (model X.prog X.w) X.A X.env X.xe)(hc:X.calm=true)(hi:DE X iter mi)(hg:DG X tg g)(hb:xq X body mb)
  (hs:∀ x,ada iter X.env x=pure x):DS X (.For tg iter body [] pos) (gA mi g mb):=by
 have hA:=SY (pos:=pos) hp hc hi hg hb hs
 have hB:=Pi (pos:=pos) hp hc (Gw (tg:=tg) hi) hg hb hs
 intro pins s σ H E I ⟨μ,S,env,o,hS,hE,h,post⟩
 obtain⟨⟨x,S1⟩,h1,h⟩:=Yx.mp h
 cases x with
 | ref r=>exact hA pins s σ H E I ⟨μ,S,env,o,hS,hE,by show(mi env S).bind _=_;rw[h1];exact h,post⟩
 | lst xs=>exact hB pins s σ H E I ⟨μ,S,env,o,hS,hE,by show((mi env S).bind _).bind _=_;rw[h1];exact h,post⟩
 | rol xs=>exact hB pins s σ H E I ⟨μ,S,env,o,hS,hE,by show((mi env S).bind _).bind _=_;rw[h1];exact h,post⟩
 | tup xs=>exact hB pins s σ H E I ⟨μ,S,env,o,hS,hE,by show((mi env S).bind _).bind _=_;rw[h1];exact h,post⟩
 | _=>cases h
end
end M
namespace L2
section
variable{X:Cx}{pos:Pos}
theorem vq:∀ {ns:List Int} {us:List gV},Vals (ns.map V.int) us->∃ xs:List (Int×Tok),us=xs.map (λp=>Value.int p.1 p.2)/\xs.map (·.1)=ns
 | [],_,.nil=>⟨[],rfl,rfl⟩
 | n::ns,_,.cons ⟨t,e⟩ r=>by
  subst e
  obtain⟨xs,e1,e2⟩:=vq r
  exact⟨(n,t)::xs,by rw[e1];rfl,by rw[YJ,e2]⟩
theorem KJ(hc:X.calm=true):CallR X (.builtin "max") (λxs H Q=>∃ p ns,xs=[.ref p]/\pz X.K H p (ns.map V.int)/\ns≠[]/\∀ m,m∈ns->(∀ a∈ns,a<=m)->Q (.int m) H):=by
 intro pins s σ H xs us Q I r h
 obtain⟨p,ns,rfl,hq,h0,q⟩:=h
 obtain⟨u,rfl,rx⟩:=pF r
 cases rx
 obtain⟨its,rv,pl,hz⟩:=I.list hq
 obtain⟨ps,e1,e2⟩:=vq rv
 have hl:s.heap.IsList p (intItems ps.toArray):=by
  have:=pl.isList
  rw[e1] at this
  have e:intItems ps.toArray=(ps.map (λp=>Value.int p.1 p.2)).toArray:=by simp[intItems]
  rw[e];exact this
 have hp:0<ps.toArray.size:=by
  rw[YC]
  cases ps with
  | nil=>exact absurd e2.symm h0
  | cons _ _=>simp
 refine max_intList (I.ok.hd hc) hl hp λv h' tk hv kk=>?_
 obtain⟨g1,g2⟩:=argBest_gt (numAt ps.toArray) (ps.toArray.size - 1)
 generalize argBest (λi j=>decide (numAt ps.toArray i>numAt ps.toArray j)) (ps.toArray.size - 1)=b at hv g1 g2
 have hb:b<ps.length:=by rw[YC] at g1 hp;omega
 have nb:∀ j (hj:j<ps.length),numAt ps.toArray j=ps[j].1:=λj hj=>by
  simp[numAt,hj]
 have ev:v=Value.int ps[b].1 ps[b].2:=by
  simp[intItems,hb] at hv
  exact hv.symm
 subst ev
 refine⟨.int ps[b].1,H,I.kept kk,⟨_,rfl⟩,q _ ?_ λa ha=>?_⟩
 ·rw[<- e2];exact Zb.mpr ⟨_,abh hb,rfl⟩
 ·rw[<- e2] at ha
  obtain⟨x,hx,rfl⟩:=Zb.mp ha
  obtain⟨j,hj,rfl⟩:=acC.mp hx
  have:=g2 j (by rw[YC];omega)
  rw[nb j hj,nb b hb] at this
  exact this
theorem tJ:∀ (l:List gV) (lo:Nat),(∀ (j:Nat) (v:gV),l[j]?=U v->∃ t,v=.int ((lo+j:Nat):Int) t)->Vals ((List.range' lo l.length).map λ(i:Nat)=>V.int (i:Int)) l
 | [],_,_=>.nil
 | v::r,lo,h=>by
  rw[YT,List.range'_succ,YJ]
  obtain⟨t,e⟩:=h 0 v rfl
  refine .cons ⟨t,by simpa using e⟩ (tJ r (lo+1) λj w hw=>?_)
  obtain⟨t,e⟩:=h (j+1) w (by simpa using hw)
  exact⟨t,by rw[e];congr 2;omega⟩
noncomputable def qL(n:Nat):List V:=(List.range n).map λ(i:Nat)=>V.int (i:Int)
theorem zr{a:Nl}{p p2 pos:Pos}(hc:X.calm=true)(hm:X.mg "list" = Y)(hm2:X.mg "range" = Y)(hg:Gl X "list")(hg2:Gl X "range")(ha:PA X [a] ta)(hs:acZ [a] X.env=[(false,eval a X.env)]) :
  PE X (.Call (.Name "list" p) [.Call (.Name "range" p2) [a] [] pos2] [] pos) (λσ H Q=>ta σ H λvs H1=>∃ j:Int,vs=[.int j]/\0<=j/\j<=1000/\∀ q,H1 q=Y->Q (.ref q) (upd H1 q (.lst (qL j.toNat)))):=by
 intro pins s σ H Q I h
 refine Call_ (lN I hg hm boot_list (Zw (acV ?_) rfl rfl))
 refine Call_ (lN I hg2 hm2 boot_range (Zw (cZ (ha pos2 pins s σ H _ I h) λus s1 ⟨vs,H1,I1,r1,q1⟩=>?_) hs rfl))
 obtain⟨j,rfl,j0,j1,q⟩:=q1
 obtain⟨u,rfl,ru⟩:=r1.one
 obtain⟨t,rfl⟩:=ru
 refine call_range_1 (Calls.spliced_nil ?_)
 have I2:Inv X pins σ H1 { s1 with heap:=s1.heap.push { cls:=.type "range",data:=.fields #[.int 0 s1.toks,.int j t,.int 1 (s1.toks+1)] },toks:=s1.toks+1+1 }:=I1.kept λb o e=>YA _ e
 have hz:(s1.heap.push { cls:=.type "range",data:=.fields #[.int 0 s1.toks,.int j t,.int 1 (s1.toks+1)] }).objs.size=s1.heap.objs.size+1:=ZV ..
 refine call_list_range (n:=j.toNat) (I1.ok.hd hc) (IsRange.new ..) (small_one (by decide) (by decide) (by omega) (by omega)) (by rw[rangeSize_one];split<;>omega) (by omega) λh' tk acc c' kk hn it=>?_
 obtain⟨i1,i2⟩:=it
 have fr:H1 (s1.heap.objs.size+1)=Y:=I1.hok.fresh (abt _)
 dsimp only at hn ⊢
 rw[hz] at hn ⊢
 refine⟨.ref _,_,I2.laid (t':=tk) (a:=s1.heap.objs.size+1) (o:=.lst (qL j.toNat)) kk (by show _<=s1.heap.objs.size+1;rw[hz];exact YL _) ⟨?_,acc.toList,c',?_,?_⟩,rfl,q _ fr⟩
 ·simp[qL];rw[abd];omega
 ·have:=tJ acc.toList 0 (λj v hv=>by
   obtain⟨t,e⟩:=i2 j v (by simpa using hv)
   exact⟨t,by rw[e];congr 1;omega⟩)
  rw[aaX,i1] at this
  rw[qL,List.range_eq_range']
  exact this
 ·simpa using hn
end
end L2
namespace M
open L2
section
variable{X:Cx}{K:adf}{μ μ':Fp}{H H':Hp}{S S':ac}{pos:Pos}
noncomputable def lj(S:ac):D->Option (List D)
 | .lst xs=>U xs
 | .ref r=>match S[r]? with | some (.lst xs)=>U xs | _=>Y
 | _=>Y
def nL{d:D}{ds:List D}(s:SOk K μ S H)(r:Rep K μ H v d)(h:lj S d=U ds):∃ a vs,v=.ref a/\H a=U (.lst vs)/\Reps K μ H vs ds:=by
 cases r with
 | lst hd n rr=>cases h;exact⟨_,_,rfl,hd,rr⟩
 | ref hr=>
  rename_i a i
  unfold lj at h
  dsimp only at h
  cases q:S[i]? with
  | none=>rw[q] at h;cases h
  | some c=>
   rw[q] at h
   have ck:=s.cell _ _ _ hr q
   cases c with
   | lst xs=>cases h;obtain⟨vs,e,rr⟩:=ck;exact⟨a,vs,rfl,e,rr⟩
   | dct ks xs=>cases h
 | _=>cases h
noncomputable def An:D->Bool
 | .ref _=>true
 | _=>false
noncomputable def aM(S:ac)(x y:D):Option D:=if An x||An y then(lj S x).bind λxs=>(lj S y).bind λys=>if xs.length+ys.length<=acY then U (.lst (xs++ys)) else Y else OA S x y
def RC:OpR X (add .Add) (og X.K aM):=OpR.imp (OpR.or ER We) λx y H Q ⟨μ,S,dx,dy,dz,hS,h1,h2,h3,post⟩=>by
 unfold aM at h3
 split at h3
 ·obtain⟨xs,e1,h3⟩:=Yx.mp h3
  obtain⟨ys,e2,h3⟩:=Yx.mp h3
  split at h3
  ·rename_i hl
   cases h3
   obtain⟨a,vs,rfl,q1,r1⟩:=nL hS h1 e1
   obtain⟨b,ws,rfl,q2,r2⟩:=nL hS h2 e2
   have l1:=r1.length
   have l2:=r2.length
   exact .inl ⟨a,b,vs,ws,rfl,rfl,q1,q2,by omega,λp hp=>post.lst hS hp (r1.append r2)⟩
  ·cases h3
 ·exact .inr ⟨μ,S,dx,dy,dz,hS,h1,h2,h3,post⟩
noncomputable def kN:List Int->Int
 | []=>0
 | [a]=>a
 | a::r=>max a (kN r)
theorem qR:∀ {ns:List Int},ns≠[]->kN ns∈ns/\∀ a∈ns,a<=kN ns
 | [a],_=>⟨by simp[kN],λb hb=>by simp at hb;simp[kN,hb]⟩
 | a::b::r,_=>by
  obtain⟨h1,h2⟩:=qR (ns:=b::r) (by simp)
  show max a (kN (b::r))∈_/\∀ c∈_,c<=max a (kN (b::r))
  generalize kN (b::r)=m at h1 h2
  refine⟨?_,λc hc=>?_⟩
  ·by_cases h:m<=a
   ·rw[Int.max_eq_left h];exact YF
   ·rw[Int.max_eq_right (by omega)];exact YB _ h1
  ·rcases Zd.mp hc with rfl | hc
   ·exact Int.le_max_left _ _
   ·exact acy (h2 c hc) (Int.le_max_right _ _)
theorem Cf{ns:List Int}{m:Int}(h0:ns≠[])(h1:m∈ns)(h2:∀ a∈ns,a<=m):m=kN ns:=by
 obtain⟨g1,g2⟩:=qR h0
 have:=h2 _ g1
 have:=g2 _ h1
 omega
noncomputable def mW(S:ac):List D->Option D
 | [d]=>(sg S d).bind λns=>if ns.isEmpty then Y else U (.int (kN ns))
 | ds=>UM S ds
def CallR.or(h:CallR X f r)(h':CallR X f r'):CallR X f (λxs H Q=>r xs H Q\/r' xs H Q):=by
 intro pins s σ H xs us Q I rv q
 rcases q with q | q
 ·exact h pins s σ H xs us Q I rv q
 ·exact h' pins s σ H xs us Q I rv q
def KO(hc:X.calm=true):CallR X (.builtin "max") (Lb X.K (aU mW)):=CallR.imp (CallR.or (KJ hc) (KP hc)) λxs H Q ⟨μ,S,ds,d,S',hS,hr,hm,post⟩=>by
 obtain⟨rfl,hm'⟩:=dN hm
 match ds,hr,hm,hm' with
 | [d0],hr,hm,hm'=>
  obtain⟨ns,h1,h2⟩:=Yx.mp hm'
  split at h2
  ·cases h2
  ·rename_i h0
   cases h2
   have h0:ns≠[]:=λz=>h0 (by rw[z];rfl)
   obtain⟨v,rfl,rv⟩:=hr.one
   obtain⟨b,rfl,hq,h64⟩:=FW hS rv h1
   refine .inl ⟨b,ns,rfl,hq,h0,λm m1 m2=>?_⟩
   rw[Cf h0 m1 m2]
   exact post.here hS (.int _)
 | [],hr,hm,hm'=>cases hm'
 | _::_::_,hr,hm,hm'=>exact .inr ⟨μ,_,_,d,_,hS,hr,hm,post⟩
noncomputable def fV(ms:MA):ME:=λenv S=>(ms env S).bind λp=>match p.1 with | [.int j]=>if 0<=j/\j<=1000 then U (.lst (cw 0 j.toNat),p.2) else Y | _=>Y
def EH(n:Nat):Reps K μ H (qL n) (cw 0 n):=by
 unfold qL cw
 generalize List.range n=l
 induction l with
 | nil=>exact .nil
 | cons a r ih=>rw[YJ,YJ,acx];exact .cons (.int _) ih
def PD{a:Nl}{p p2:Pos}(hc:X.calm=true)(hm:X.mg "list" = Y)(hm2:X.mg "range" = Y)(hg:Gl X "list")(hg2:Gl X "range")(ha:DA X [a] ms)(hs:acZ [a] X.env=[(false,eval a X.env)]) :
  DE X (.Call (.Name "list" p) [.Call (.Name "range" p2) [a] [] pos2] [] pos) (fV ms):=PE.imp (zr hc hm hm2 hg hg2 ha hs) λσ H Q ⟨μ,S,env,d,S',hS,hE,h,post⟩=>by
 obtain⟨⟨ds,S1⟩,h1,h⟩:=Yx.mp h
 refine⟨μ,S,env,ds,S1,hS,hE,h1,λvs H1 μ1 e1 s1 r1=>?_⟩
 dsimp only at h
 split at h
 ·rename_i j
  split at h
  ·rename_i hj
   cases h
   obtain⟨v,rfl,rv⟩:=r1.one
   exact⟨j,by rw[rv.int_inv],hj.1,hj.2,λq hq=>(post.ext e1).lst s1 hq (EH _)⟩
  ·cases h
 ·cases h
noncomputable def gP(t:MT)(body:MS):Nat->bh->ac->Option pA
 | 0,_,_=>Y
 | f+1,env,S=>(t env S).bind λp=>if p.1=true then(body env p.2).bind λo=>match o with
   | .nx e s=>gP t body f e s
   | .ct e s=>gP t body f e s
   | .bk e s=>U (.nx e s)
   | .rt d s=>U (.rt d s)
  else U (.nx env p.2)
noncomputable def fR(t:MT)(body:MS):MS:=gP t body 5000
def Ph(hp:PassesOwn (model X.prog X.w) X.A X.env X.xe)(hc:DT X c t)(hb:xq X body mb):DS X (.While c body [] pos) (fR t mb):=PS.imp (Mg hp hc hb) λE σ H ⟨μ,S,env,o,hS,hE,hm,post⟩=>by
 refine⟨λn σ' H'=>∃ μ' S' env' o',Ext μ H μ' H'/\SOk X.K μ' S' H'/\EOk X.K μ' H' σ' env'/\gP t mb n env' S'=U o'/\PostS X.K μ' H' o' E,⟨5000,μ,S,env,o,hS.ext,hS,hE,hm,post⟩,?_⟩
 rintro n σ' H' ⟨μ',S',env',o',e',s',r',hl,post'⟩
 cases n with
 | zero=>cases hl
 | succ n=>
  obtain⟨⟨b,S1⟩,h1,hl⟩:=Yx.mp hl
  refine⟨μ',S',env',b,S1,s',r',h1,λH2 μ2 e2 s2=>?_⟩
  have eT:Ext μ H μ2 H2:=e'.trans e2
  have pT:PostS X.K μ2 H2 o' E:=post'.ext e2
  cases b with
  | false=>cases hl;dsimp only;rw[if_neg adh];exact pT σ' H2 μ2 s2.ext s2 (r'.mono e2)
  | true=>
   dsimp only
   rw[YR rfl]
   obtain⟨o4,h4,hl⟩:=Yx.mp hl
   refine⟨λσ2 H2=>∃ μ2 S2 env2 o2,Ext μ H μ2 H2/\SOk X.K μ2 S2 H2/\EOk X.K μ2 H2 σ2 env2/\gP t mb n env2 S2=U o2/\PostS X.K μ2 H2 o2 E,λσ2 H2 ⟨μ2,S2,env2,o2,q1,q2,q3,q4,q5⟩=>⟨n,by omega,μ2,S2,env2,o2,q1,q2,q3,q4,q5⟩,?_⟩
   refine⟨μ2,S1,env',o4,s2,r'.mono e2,h4,?_⟩
   cases o4 with
   | nx e5 s5=>exact λσ6 H6 μ6 e6 s6 r6=>⟨μ6,s5,e5,o',eT.trans e6,s6,r6,hl,pT.ext e6⟩
   | ct e5 s5=>exact λσ6 H6 μ6 e6 s6 r6=>⟨μ6,s5,e5,o',eT.trans e6,s6,r6,hl,pT.ext e6⟩
   | bk e5 s5=>cases hl;exact pT
   | rt d5 s5=>cases hl;exact pT
end
inductive TabRel:List (bD×gV)->List (bD×D)->Prop
 | nil:TabRel [] []
 | cons {k:bD} {v:gV} {d:D} {vs:List (bD×gV)} {ds:List (bD×D)} (x:V) (h:RelV x v) (r:∀ K μ H,Rep K μ H x d) (t:TabRel vs ds):TabRel ((k,v)::vs) ((k,d)::ds)
theorem TabRel.val{k:bD}:∀ {vs ds},TabRel vs ds->∀ {d},jy ds k=U d->∃ v x,valueAt vs k=U v/\RelV x v/\∀ K μ H,Rep K μ H x d
 | _,_,.nil,d,h=>by cases h
 | _,_,.cons (k:=k') (v:=v) x h r t,d,q=>by
  unfold jy at q
  split at q
  ·rename_i e;cases q;refine⟨v,x,?_,h,r⟩;simp only at e;simp[valueAt,e]
  ·rename_i e
   obtain⟨v',x',h1,h2,h3⟩:=TabRel.val t q
   refine⟨v',x',?_,h2,h3⟩
   simp only at e
   rw[<- h1]
   simp[valueAt,e]
structure wj(w:RG)(K:adf)(mg:Str->Option gV)(x:Str)(l:List (bD×D)):Prop where
 ex:∃ (a:tx) (vs:List (bD×gV)),mg x=U (.ref a)/\(∀ (P:Of) (h:Ws),K.In h->h.DictOf (cq P w) a vs)/\TabRel vs l
section
variable{X:Cx}
def NL(hd:∀ (P:Of) (h:Ws),X.K.In h->h.DictOf (cq P X.w) a vs):IxR X (λx y H Q=>∃ k v z,x=.ref a/\y=kV k/\valueAt vs k=U v/\RelV z v/\Q z H):=by
 intro value slice pins s σ H x y v u Q I rx ry h hs
 obtain⟨k,v',z,rfl,rfl,hv,rz,q⟩:=h
 cases rx
 have dd:=hd X.prog s.heap I.kIn
 exact tail_any dd.typeIs F.slot_dict_getitem.lookup (wpAny_getItem_of (ye ry) dd.mapOf hv ⟨z,H,I.tok _,rz,q⟩) hs
noncomputable def dZ(l:List (bD×D))(mi:ME):ME:=λenv S=>(mi env S).bind λp=>(fA p.1).bind λk=>(jy l k).bind λd=>U (d,p.2)
noncomputable def Px(g:wj X.w X.K X.mg x l)(hg:Gl X x)(hx:(x==("__debug__":Str))=false)(hi:DE X i mi)(hs:nZ i:=by intro _ _;rfl):DE X (.Subscript (.Name x p) i pos) (dZ l mi):=by
 obtain⟨a,vs,h1,h2,h3⟩:=g.ex
 refine PE.imp (Mt (NL h2) (tf (v:=.ref a) hg h1 rfl hx) hi hs) λσ H Q ⟨μ,S,env,d,S',hS,hE,hm,post⟩=>?_
 obtain⟨⟨y,S1⟩,e1,hm⟩:=Yx.mp hm
 obtain⟨k,e2,hm⟩:=Yx.mp hm
 obtain⟨d',e3,hm⟩:=Yx.mp hm
 cases hm
 obtain⟨v,z,v1,v2,v3⟩:=h3.val e3
 exact⟨μ,S,env,y,_,hS,hE,e1,λu H1 μ1 ex s1 r1=>⟨k,v,z,rfl,nN e2 r1,v1,v2,post _ H1 μ1 ex s1 (v3 _ _ _)⟩⟩
end
def Be{K:adf}(hl:K.lookup a=U ⟨.type "dict",Y,.dict es n,#[]⟩)(hp:∀ P,Pairs (cq P w) es.toList vs)(hk:∀ P,KeysOf (cq P w) es)(hn:(vs.map (·.1)).Nodup) :
  ∀ (P:Of) (h:Ws),K.In h->h.DictOf (cq P w) a vs:=λP h KX=>⟨_,es,n,KX a _ hl,⟨rfl,rfl,rfl⟩,rfl,hk P,hp P,hn⟩
inductive TabLit(w:RG):List DictEntry->List (bD×gV)->Prop
 | nil:TabLit w [] []
 | cons {x:Str} {t:Tok} {v:gV} {es:List DictEntry} {vs:List (bD×gV)} (h:TabLit w es vs):TabLit w (⟨PyData.keyHash w.params x,.str x t,v⟩::es) ((.inr x,v)::vs)
theorem TabLit.pairs:∀ {es vs},TabLit w es vs->Pairs (cq P w) es vs
 | _,_,.nil=>.nil
 | _,_,.cons (x:=x) (t:=t) h=>.cons (ye (k:=.inr x) (show RelV (V.str x) (Value.str x t) from ⟨t,rfl⟩)) rfl h.pairs
theorem TabLit.keys:∀ {es vs},TabLit w es vs->∀ e∈es,∃ k,(cq P w).is k e.key=true/\e.hash=(cq P w).hash k
 | _,_,.nil,e,h=>by simp at h
 | _,_,.cons (x:=x) (t:=t) h,e,he=>by
  rcases Zd.mp he with rfl | he
  ·exact⟨.inr x,ye (k:=.inr x) (show RelV (V.str x) (Value.str x t) from ⟨t,rfl⟩),rfl⟩
  ·exact h.keys e he
def Lu{K:adf}{mg:Str->Option gV}{es:List DictEntry}(hg:mg x=U (.ref a))(hl:K.lookup a=U ⟨.type "dict",Y,.dict es.toArray n,#[]⟩)(t:TabLit w es vs)(hn:(vs.map (·.1)).Nodup)(r:TabRel vs l):wj w K mg x l:=
 ⟨a,vs,hg,Be hl (λP=>by simpa using t.pairs) (λP e he=>t.keys e (by simpa using he)) hn,r⟩
section
variable{X:Cx}{K:adf}{μ:Fp}{H:Hp}{S:ac}
noncomputable def mY:MF:=λo ds S=>match ds with
 | [x]=>if qV S o=true then(jb S o).bind λys=>if cB 40 x=true/\ys.all (cB 39)=true/\ys.length<=acY then(ys.findIdx? λd=>jd d x).bind λj=>U (.int (j:Nat),S) else Y else Y
 | _=>Y
theorem vR{s:td}(I:Inv X pins σ H s):∀ {vs:List V} {us:List gV} {ds:List D},Vals vs us->Reps X.K μ H vs ds->(∀ d∈ds,cB 39 d=true) ->
  us.map (eL X.K μ H x)=ds.map λd=>jd d x
 | _,_,_,.nil,.nil,_=>rfl
 | _,_,_,.cons rv tv,.cons r t,ok=>by
  rw[YJ,YJ,qy I rv r (ok _ YF),vR I tv t λd m=>ok d (YB _ m)]
theorem MM(hu:X.A.units+64<cLine):MtR X "list.index" (Ql X.K mY):=by
 intro pins s σ H x vs v us Q I rx rv h
 obtain⟨μ,S,dx,ds,d,S',hS,r1,r2,h,post⟩:=h
 unfold mY at h
 split at h
 ·rename_i y
  split at h
  ·rename_i hl
   obtain⟨a,ws,es,rfl,hq,hse,re⟩:=qc hS r1 hl
   rw[hse] at h
   dsimp only[Option.bind_some] at h
   split at h
   ·rename_i hk
    obtain⟨j,hj,h⟩:=Yx.mp h
    cases h
    cases rx
    obtain⟨w,rfl,rw0⟩:=r2.one
    obtain⟨u,rfl,ru⟩:=rv.one
    obtain⟨its,rvs,⟨⟨cls,dd,data,sl⟩,n,e,hc,hdd,hd⟩,hz⟩:=I.list hq
    simp only at hc hdd hd
    subst hc hdd hd
    have ok:=YO.mp hk.2.1
    have em:=vR (x:=y) I rvs re ok
    have ln:its.length=es.length:=by rw[<- re.length,rvs.length]
    obtain⟨hj1,hj2,hj3⟩:=abv.mp hj
    have at_:∀ (m:Nat) (h1:m<its.length) (h2:m<es.length),eL X.K μ H y its[m]=jd es[m] y:=λm h1 h2=>by
     have:(its.map (eL X.K μ H y))[m]?=(es.map λd=>jd d y)[m]?:=by rw[em]
     rw[aah,aah,YG h1,YG h2] at this
     simpa using this
    have sz:acY<2^63 - 1:=by decide
    refine aaD F.slot_list_index ⟨_,e,rfl⟩ F.entry_list_index (F.args_list_index_2 _ _) (SeqAt.list_indexAt a its.toArray n Y sl u (eL X.K μ H y) j (by simpa[ln] using hj1) (by have:=hk.2.2;omega) ?_ ?_) ⟨e,λw' hw'=>?_,?_⟩
    ·rw[acD,at_ j (by omega) hj1];exact hj2
    ·intro m hm hmj
     rw[acD,at_ m (by simpa using hm) (by omega)]
     have:=hj3 m hmj
     simpa using this
    ·exact gz I (by show X.A.units+1+40<cLine;omega) ru rw0 hk.1 rvs re ok w' (by simpa using hw')
    ·exact⟨.int _,H,I.tok _,⟨_,rfl⟩,post.here hS (.int _)⟩
   ·cases h
  ·cases h
 ·cases h
noncomputable def kG:MF:=λo ds S=>match o,ds with
 | .ref r,[.lst ys]=>(match S[r]? with | some (.lst xs)=>if xs.length+ys.length<=acY then U (.non,S.set r (.lst (xs++ys))) else Y | _=>Y)
 | .ref r,[.tup ys]=>(match S[r]? with | some (.lst xs)=>if xs.length+ys.length<=acY then U (.non,S.set r (.lst (xs++ys))) else Y | _=>Y)
 | _,_=>Y
def SH{items:Array gV}{ob:Obj}(hc:ob.cls=.type "tuple")(hd:ob.data=.seq items2 n2)(h0:¬(!items.isEmpty&&Builtin.List.listTooLong (items.size+items2.size))=true)(h1:items.size<=acY)(h2:(items++items2).size<=acY+1) :
  Meets (Builtin.«list.extend» ⟨[.ref l,.ref b],[]⟩) (λ_ R s=>s.heap.get? l=U { cls:=.type "list",data:=.seq items n }/\s.heap.get? b=U ob/\R (.ok (.ret .none)) { s with heap:=s.heap.update l (Obj.mapSeq (·++items2)) }):=
 .of_wp λprog w A R s ⟨hl,hb,h⟩=>by
  obtain⟨cls,dict,data,slots⟩:=ob
  simp only at hc hd
  subst hc hd
  have f2:=PyProof.Rows.sub_tuple_tuple
  have f4:=PyProof.Rows.sub_tuple_list
  cases s
  wp_walk using(abl hl rfl (hz:=h1) (_hz':=h2)),AutoSeq1.wpAny_loadPart' hl,AutoSeq1.wpAny_loadPart' hb
  exact⟨_,rfl,h⟩
def RK:MtR X "list.extend" (λx vs H Q=>∃ l b xs zs,x=.ref l/\vs=[.ref b]/\H l=U (.lst xs)/\lZ X.K H b zs/\xs.length+zs.length<=acY/\Q .non (upd H l (.lst (xs++zs)))):=by
 intro pins s σ H x vs v us Q I rx rv ⟨l,b,xs,zs,e1,e2,hH,hB,hz,q⟩
 subst e1 e2
 cases rx
 obtain⟨u,rfl,ru⟩:=rv.one
 cases ru
 obtain⟨z,its,n,r,hl,e⟩:=I.lstM hH
 obtain⟨its2,r2,⟨ob,e2,hc,n2,hd⟩,hl2⟩:=I.tuple hB
 have k1:=r.length
 have k2:=r2.length
 have hsz:its.toArray.size+its2.toArray.size<=acY:=by rw[YC,YC];omega
 refine aaD aby ⟨_,e,rfl⟩ acM (acF _ _)
  (SH hc hd (by rw[uv hsz,aam];exact adh) (by rw[YC];omega) (by rw[Array.size_append];omega)) ⟨e,e2,?_⟩
 refine⟨.non,_,I.lset (its':=its++its2) hH e (by simp) (r.append r2) ?_,rfl,q⟩
 rw[YQ]
 omega
def Jk:MtR X "list.extend" (Ql X.K kG):=by
 intro pins s σ H x vs v us Q I rx rv ⟨μ,S,dx,ds,d,S',hS,r1,r2,h,post⟩
 have go:∀ r xs ys,dx=.ref r->S[r]?=U (.lst xs)->(if xs.length+ys.length<=acY then U (D.non,S.set r (.lst (xs++ys))) else Y)=U (d,S')->∀ b zs,vs=[.ref b]->Reps X.K μ H zs ys->∃ a ws,x=.ref a/\H a=U (.lst ws)/\ws.length+zs.length<=acY/\Q .non (upd H a (.lst (ws++zs))):=λr xs ys e q h0 b zs ev rz=>by
  subst e
  split at h0
  ·rename_i hz
   cases h0
   cases r1 with
   | @ref a _ h'=>
    obtain⟨ws,hw,rw'⟩:=hS.cell r a _ h' q
    obtain⟨e,s'⟩:=hS.write h' hw (rw'.append rz)
    exact⟨a,ws,rfl,hw,by rw[rw'.length,rz.length];exact hz,post _ _ μ e s' .non⟩
  ·cases h0
 unfold kG at h
 split at h
 ·rename_i r ys
  obtain⟨w,rfl,rw0⟩:=r2.one
  split at h
  ·rename_i xs q
   cases rw0 with
   | @lst b zs _ hb nb rz=>
    obtain⟨a,ws,h1,h2,h3,h4⟩:=go r xs ys rfl q h b zs rfl rz
    exact Jj pins s σ H x _ v us Q I rx rv ⟨a,b,ws,zs,h1,rfl,h2,hb,h3,h4⟩
  ·cases h
 ·rename_i r ys
  obtain⟨w,rfl,rw0⟩:=r2.one
  split at h
  ·rename_i xs q
   obtain⟨b,zs,e,hb,rz⟩:=rw0.sqT
   subst e
   obtain⟨a,ws,h1,h2,h3,h4⟩:=go r xs ys rfl q h b zs rfl rz
   exact RK pins s σ H x _ v us Q I rx rv ⟨a,b,ws,zs,h1,rfl,h2,hb,h3,h4⟩
  ·cases h
 ·cases h
def we(h:(match o with | .Call _ _ _ _=>false | _=>true)=true):attributeBase o name env w=w:=by
 cases o<;>first | rfl | cases h
end
end M
namespace M
open L2
section
variable{X:Cx}{K:adf}{H:Hp}{pos:Pos}
variable{elt tg iter tg2 iter2:Nl}{ifs ifs2:List Nl}{scope:Scope}{spos py:Pos}{N':List Str}{cap:List (Option Nat)}{mi mi2:MA}{g g2:MG}{t t2:MT}{me:ME}{y:Str}{i:Nat}
noncomputable def ji(a b:ME):ME:=λenv S=>(a env S).bind λp=>(b env p.2).bind λq=>(lj q.2 p.1).bind λxs=>(lj q.2 q.1).bind λys=>if xs.length+ys.length<=acY then U (.ref q.2.length,q.2++[.lst (xs++ys)]) else Y
def Ts(ha:DE X a ma)(hb:DE X b mb):DE X (.BinOp a .Add b pos) (ji ma mb):=PE.imp (Us ER ha hb) λσ H Q ⟨μ,S,env,d,S',hS,hE,hm,post⟩=>by
 obtain⟨⟨x,S1⟩,h1,hm⟩:=Yx.mp hm
 obtain⟨⟨y,S2⟩,h2,hm⟩:=Yx.mp hm
 obtain⟨xs,e1,hm⟩:=Yx.mp hm
 obtain⟨ys,e2,hm⟩:=Yx.mp hm
 dsimp only at hm
 split at hm
 ·rename_i hl
  cases hm
  refine⟨μ,S,env,x,S1,hS,hE,h1,λv H1 μ1 f1 s1 r1=>⟨μ1,S1,env,y,S2,s1,hE.mono f1,h2,λw H2 μ2 f2 s2 r2=>?_⟩⟩
  obtain⟨a,vs,rfl,q1,t1⟩:=nL s2 (r1.mono f2) e1
  obtain⟨b,ws,rfl,q2,t2⟩:=nL s2 r2 e2
  have l1:=t1.length
  have l2:=t2.length
  exact⟨a,b,vs,ws,rfl,rfl,q1,q2,by omega,λp hp=>(post.ext (f1.trans f2)).lstR s2 hp (t1.append t2)⟩
 ·cases hm
end
structure Ue(P:Of)(w:RG)(K:adf)(mg:Str->Option gV)(base:Ws)(k:Nat)(a:tx)(n:Nat)(f:List D->ac->Option (D×ac)):Prop where
 ex:∃ (fd:FuncData) (ps:List Str),ps.length=n/\FnOk P w K mg base Eb k a fd ps (LK K n f)/\W.keepIn K (.ref a)=true/\Binds K fd ps []
theorem Fn.at{K:adf}{k:Nat}(F:Fn P w K mg base k x n f)(h:mg x=U (.ref a)):Ue P w K mg base k a n f:=by
 obtain⟨b,fd,ps,h1,h2,h3,h4,h5⟩:=F.ex
 rw[h] at h3;cases h3
 exact⟨fd,ps,h1,h2,h4,h5⟩
inductive FRel(P:Of)(w:RG)(K:adf)(mg:Str->Option gV)(base:Ws)(k:Nat):List (bD×gV)->List (bD×Nat×(List D->ac->Option (D×ac)))->Prop
 | nil:FRel P w K mg base k [] []
 | cons {y:bD} {a:tx} {n:Nat} {f:List D->ac->Option (D×ac)} {vs:List (bD×gV)} {l:List (bD×Nat×(List D->ac->Option (D×ac)))} (h:Ue P w K mg base k a n f) (t:FRel P w K mg base k vs l):FRel P w K mg base k ((y,.ref a)::vs) ((y,n,f)::l)
noncomputable def Bd:List (bD×Nat×(List D->ac->Option (D×ac)))->bD->Option (Nat×(List D->ac->Option (D×ac)))
 | [],_=>Y
 | (y,p)::l,k=>if y=k then U p else Bd l k
section
variable{P:Of}{w:RG}{K:adf}{mg:Str->Option gV}{base:Ws}{k:Nat}
theorem FRel.val{p:Nat×(List D->ac->Option (D×ac))}:∀ {vs l},FRel P w K mg base k vs l->Bd l y=U p->∃ a,valueAt vs y=U (.ref a)/\Ue P w K mg base k a p.1 p.2
 | _,_,.nil,q=>by cases q
 | _,_,.cons (y:=y') (a:=a) h t,q=>by
  unfold Bd at q
  split at q
  ·rename_i e;cases q;exact⟨a,by simp[valueAt,e],h⟩
  ·rename_i e
   obtain⟨b,h1,h2⟩:=FRel.val t q
   refine⟨b,?_,h2⟩
   rw[<- h1]
   simp[valueAt,e]
structure FTab(P:Of)(w:RG)(K:adf)(mg:Str->Option gV)(base:Ws)(k:Nat)(x:Str)(l:List (bD×Nat×(List D->ac->Option (D×ac)))):Prop where
 ex:∃ (a:tx) (vs:List (bD×gV)),mg x=U (.ref a)/\(∀ (P:Of) (h:Ws),K.In h->h.DictOf (cq P w) a vs)/\FRel P w K mg base k vs l
end
theorem EOk.setN{K:adf}:∀ {σ:L2.St} {env:bh} (i:Nat),EOk K μ H σ env->EOk K μ H (σ.set i x) (env.set i Y)
 | _,_,_,.nil=>.nil
 | _,_,0,.no t=>.no t
 | _,_,0,.yes _ t=>.no t
 | _,_,i+1,.no t=>.no (EOk.setN i t)
 | _,_,i+1,.yes h t=>.yes h (EOk.setN i t)
section
variable{X:Cx}{k i:Nat}{x b:Str}{e ix:Nl}{es:List Nl}{mi:ME}{ms:MA}{p pb pt ps pa pc pr:Pos}{l:List (bD×Nat×(List D->ac->Option (D×ac)))}
def My(hN:X.N[i]?=U b)(hv:Ua X.env.scope b)(hr:Room k X.A)(ha:PA X (e::es) t)(hd:(b==("__debug__":Str))=false)(hc:(b==("__classdict__":Str))=false)
  (he:acZ (e::es) X.env=(false,eval e X.env)::acZ es X.env) (hpl:(backTo pc (acZ es X.env)).any (·.1)=false) :
  PE X (.Call (.Name b p) (e::es) [] pc) (λσ H Q=>∃ a n f,σ[i]?=U (U (.ref a))/\Ue X.prog X.w X.K X.mg X.base k a n f/\xB (LK X.K n f) [] E0 t σ H Q):=by
 intro pins s σ H Q I ⟨a,n,f,hσ,F,h⟩
 obtain⟨fd,qs,hn,F,hk,hb⟩:=F.ex
 refine aan (cZ (EQ hN hv hd hc pins s σ H (λv H'=>v=.ref a/\H'=H) I ⟨_,hσ,rfl,rfl⟩) λu s1 ⟨v,H1,I1,r,e1,e2⟩=>?_)
 subst e1 e2
 cases r
 refine acv (h₀:=X.base) I1.ok.mod.kin hk (cZ (ha pc pins s1 σ H1 _ I1 h) λus s2 ⟨vs,H2,I2,r2,q⟩=>⟨I2.kIn,?_⟩) he hpl
 exact EF F hr hb .nil MB I2 r2 q
noncomputable def ku(l:List (bD×Nat×(List D->ac->Option (D×ac))))(i:Nat)(mi:ME)(ms:MA):MS:=λenv S=>(mi env S).bind λp=>(fA p.1).bind λk=>(Bd l k).bind λq=>(ms (env.set i Y) p.2).bind λr=>if r.1.length=q.1 then(q.2 r.1 r.2).bind λz=>U (.rt z.1 z.2) else Y
theorem Pf(g:FTab X.prog X.w X.K X.mg X.base k x l)(hg:Gl X x)(hx:(x==("__debug__":Str))=false)(hi:DE X ix mi)(hs:nZ ix)(hr:Room k X.A)(ha:DA X (e::es) ms)(nd:X.N.Nodup)(hN:X.N[i]?=U b)(hl:Qm X.env.scope b)(hv:Ua X.env.scope b)
  (hf:X.fn b=true\/X.env.scope.names.lookup b=U .local) (hd:(b==("__debug__":Str))=false) (hc:(b==("__classdict__":Str))=false) (hlen:i<X.N.length)
  (he:acZ (e::es) X.env=(false,eval e X.env)::acZ es X.env) (hpl:(backTo pc (acZ es X.env)).any (·.1)=false) :
  xq X [.Assign [.Name b pb] (.Subscript (.Name x pt) ix ps) pa,.Return (U (.Call (.Name b p) (e::es) [] pc)) pr] (ku l i mi ms):=by
 obtain⟨a,vs,h1,h2,h3⟩:=g.ex
 intro pins s σ H E I h
 have hlσ:i < σ.length:=by
  have:σ.length=X.N.length:=I.len
  omega
 refine ud (Mi (i:=i) nd hN hl (Mt (NL h2) (tf (v:=.ref a) hg h1 rfl hx) hi hs) rfl hf) (sY (Mj (My hN hv hr ha hd hc he hpl))) pins s σ H E I ?_
 obtain⟨μ,S,env,o,hS,hE,hm,post⟩:=h
 obtain⟨⟨y,S1⟩,e1,hm⟩:=Yx.mp hm
 obtain⟨z,e2,hm⟩:=Yx.mp hm
 obtain⟨q,e3,hm⟩:=Yx.mp hm
 obtain⟨fa,v1,F⟩:=h3.val e3
 refine⟨μ,S,env,y,S1,hS,hE,e1,λu H1 μ1 ex s1 r1=>⟨z,.ref fa,.ref fa,rfl,nN e2 r1,v1,rfl,?_⟩⟩
 obtain⟨⟨ws,S2⟩,e4,hm⟩:=Yx.mp hm
 dsimp only at hm
 split at hm
 ·rename_i hn
  obtain⟨⟨d,S3⟩,e5,hm⟩:=Yx.mp hm
  cases hm
  refine⟨fa,q.1,q.2,by rw[Zg hlσ],F,Bi ⟨μ1,S1,env.set i Y,d,S3,s1,(hE.mono ex).setN i,?_,Post.ext ex post⟩⟩
  show(ms (env.set i Y) S1).bind _=_
  rw[e4]
  exact(YR hn).trans e5
 ·cases hm
end
inductive FNs(mg:Str->Option gV):List (bD×gV)->List (Str×Str)->Prop
 | nil:FNs mg [] []
 | cons {x y:Str} {a:tx} {vs:List (bD×gV)} {l:List (Str×Str)} (h:mg y=U (.ref a)) (t:FNs mg vs l):FNs mg ((.inr x,.ref a)::vs) ((x,y)::l)
structure FNm(w:RG)(K:adf)(mg:Str->Option gV)(x:Str)(l:List (Str×Str)):Prop where
 ex:∃ (a:tx) (vs:List (bD×gV)),mg x=U (.ref a)/\(∀ (P:Of) (h:Ws),K.In h->h.DictOf (cq P w) a vs)/\FNs mg vs l
def Xg{K:adf}{mg:Str->Option gV}{es:List DictEntry}(hg:mg x=U (.ref a))(hl:K.lookup a=U ⟨.type "dict",Y,.dict es.toArray n,#[]⟩)(t:TabLit w es vs)(hn:(vs.map (·.1)).Nodup)(r:FNs mg vs l):FNm w K mg x l:=
 ⟨a,vs,hg,Be hl (λP=>by simpa using t.pairs) (λP e he=>t.keys e (by simpa using he)) hn,r⟩
section
variable{P:Of}{w:RG}{K:adf}{mg:Str->Option gV}{base:Ws}{k:Nat}
def FFs(P:Of)(w:RG)(K:adf)(mg:Str->Option gV)(base:Ws)(k:Nat):List (Str×Str)->List (bD×Nat×(List D->ac->Option (D×ac)))->Prop
 | [],[]=>True
 | (x,y)::l,(z,n,f)::r=>z=.inr x/\Fn P w K mg base k y n f/\FFs P w K mg base k l r
 | _,_=>False
theorem FNs.rel:∀ {vs l r},FNs mg vs l->FFs P w K mg base k l r->FRel P w K mg base k vs r
 | _,_,[],.nil,_=>.nil
 | _,_,(z,n,f)::r,.cons h t,q=>by
  obtain⟨q1,q2,q3⟩:=q
  subst q1
  exact .cons (q2.at h) (t.rel q3)
def So(T:FNm w K mg x l)(h:FFs P w K mg base k l r):FTab P w K mg base k x r:=by
 obtain⟨a,vs,h1,h2,h3⟩:=T.ex
 exact⟨a,vs,h1,h2,h3.rel h⟩
theorem FRel.up{k':Nat}(h:k<=k'):∀ {vs l},FRel P w K mg base k vs l->FRel P w K mg base k' vs l
 | _,_,.nil=>.nil
 | _,_,.cons q t=>.cons (by obtain⟨fd,ps,a,b,c⟩:=q.ex;exact⟨fd,ps,a,b.mono h,c⟩) (t.up h)
theorem FTab.up{k':Nat}(T:FTab P w K mg base k x l)(h:k<=k'):FTab P w K mg base k' x l:=by
 obtain⟨a,vs,h1,h2,h3⟩:=T.ex
 exact⟨a,vs,h1,h2,h3.up h⟩
end
section
variable{X:Cx}{e:Nl}{m:ME}{pos:Pos}
def IU(bs:List Bool):((List.range bs.length).any λi=>(bs[i]?).getD true)=bs.any id:=by
 rw[Zm,ZE,ZE]
 constructor
 ·rintro⟨i,hi,h⟩
  have hi':=ZU.mp hi
  rw[YG hi'] at h
  exact⟨bs[i],abh hi',h⟩
 ·rintro⟨b,hb,h⟩
  obtain⟨i,hi,e⟩:=acC.mp hb
  exact⟨i,ZU.mpr hi,by rw[YG hi,e];exact h⟩
def Oz{d:D}(h:SG S ds=U d):∃ zs bs,ds=[.lst zs]/\iG zs=U bs/\d=.bl (bs.any id):=by
 unfold SG at h
 split at h
 ·obtain⟨bs,h1,h2⟩:=Yx.mp h
  cases h2;exact⟨_,_,rfl,h1,rfl⟩
 ·cases h
def PZ(hc:X.calm=true):CallR X (.builtin "any") (Lb X.K (aU SG)):=by
 intro pins s σ H xs us Q I rv ⟨μ,S,ds,d,S',hS,hr,hm,post⟩
 obtain⟨rfl,hm⟩:=dN hm
 obtain⟨zs,bs,rfl,h1,rfl⟩:=Oz hm
 obtain⟨v,rfl,r⟩:=hr.one
 obtain⟨u,rfl,ru⟩:=pF rv
 obtain⟨a,vs,rfl,q,n,r⟩:=r.sqL
 cases ru
 obtain⟨its,rv',pl,hz⟩:=I.list (.inl (.inl q))
 have hl:=pl.isList
 have hb:=nA r rv' h1
 have hlt:a<s.heap.objs.size:=by obtain⟨_,e,_⟩:=hl;exact YI e
 refine call_any_walk (aaZ hl ⟨s.heap.objs.size,[s.heap.objs.size,a],[s.heap.objs.size],its.toArray.size,_,_,λi=>(bs[i]?).getD true,rfl,Walks.list (A:=X.A.in1) (I.ok.hd hc) _ a (Zi hlt) its.toArray,
  ⟨⟨_,YN _ rfl,rfl,rfl⟩,hl.push _⟩,λi v s' Q' E' hP hQ=>?_,λh' tk hk=>?_⟩)
 ·obtain⟨b,e,rfl⟩:=hb.get i v (by simpa using hP)
  simp only[e,abN] at hQ
  exact aab hQ
 ·rw[YC,hb.length,IU]
  exact⟨.bl _,H,I.kept (LSm.kept_iter hk),rfl,post.here hS (.bl _)⟩
end
end M
namespace HT
section
variable{prog:Of}{w:RG}{A:Wr}{E:gV->td->Prop}{h:Ws}{g:Array GenState}{d:Drawn}{t:Nat}{os:OsState}
variable{nm q:Str}{C N:tx}{bs bm bmB:List gV}{hdct:Bool}{sn:List Str}{sub:List gV}{ab:Bool}{col:Option Bool}{dd:Option tx}{k0 k1 k2 k3 k5:Option gV}{B newId initId:String}
noncomputable abbrev vQ(h:Ws)(C:tx)(rest:List gV):Ws:=(h.push { cls:=.type "tuple",data:=.seq rest.toArray }).push { cls:=.ref C,data:=.fields #[.ref h.objs.size,.none,.none,.none,.bool false,.none] }
def iR{o:Obj}(e:h.get? b=U o):(vQ h C rest).get? b=U o:=YA _ (YA _ e)
def rB:(vQ h C rest).get? (h.objs.size+1)=U { cls:=.ref C,data:=.fields #[.ref h.objs.size,.none,.none,.none,.bool false,.none] }:=by heap_get
def pG(F:ExcBaseFacts B newId initId bmB)(T:OwnTail h bmB bm){rest:List gV}{Q:Fin->td->Prop}
  (hC:h.get? C=U (excClassObj nm q C N bs bm hdct sn sub ab col dd k0 k1 k2 k3 k5 newId)) (hn:h.Ns N mN) (hni:mN "__init__" = U (.ref f))
  {of:Obj} (hfo:h.get? f=U of) (hfc:of.cls=.type "function") (hrest:rest.length<=acY)
  (hq:ade (model prog w) A (call (.ref f) (.ref (h.objs.size+1)::rest)) (λv s'=>v=.none/\Q (.done (.ret (.ref (h.objs.size+1)))) s') E ⟨vQ h C rest,g,d,t,os⟩) :
  ade (model prog w) A (Builtin.«type.__call__» ⟨.ref C::rest,[]⟩) Q E ⟨h,g,d,t,os⟩:=by
 repeat (first | wp_step | with_reducible refine wpAny_madeBy_exc hC ?_ | with_reducible refine aac hC ?_)
 refine codeAny_call_builtin_code (acU _ F.quiet) (wpAny_check_new_subT F T hC (codeAny_exc_new_subT F T hC ?_ hrest))
 show ade _ _ _ _ _ _
 have kC:=iR (C:=C) (rest:=rest) hC
 have at0:=rB (h:=h) (C:=C) (rest:=rest)
 have own:(Value.ref C::bm).contains (.ref C)=true:=by simp
 unfold isInstance
 repeat (first | wp_step | with_reducible refine aac at0 ?_ | (with_reducible refine aaT kC ?_;rw[own]))
 show ade _ _ (typeLookup (.ref C) _) _ _ _
 refine wpAny_typeLookup_tail kC (hn.keeps λb o e=>iR e) (T.keeps λb o e=>iR e) F.mroIs F.init.lookup ?_
 rw[hni]
 refine ZL (Yy (wpAny_bindSpecial_def (of:=of) (iR hfo) hfc (Yy (Zj hq (λv s' z=>YH ?_) λ_ _ x=>x))))
 obtain⟨rfl,z⟩:=z
 show ade _ _ (if (Value.none != Value.none)=true then _ else ret _) _ _ _
 rw[if_neg (by simp)]
 exact YH z
theorem AJ(F:ExcBaseFacts B newId initId bmB)(T:OwnTail h bmB bm){rest:List gV}{Q:gV->td->Prop}
  (hC:h.get? C=U (excClassObj nm q C N bs bm hdct sn sub ab col dd k0 k1 k2 k3 k5 newId)) (hn:h.Ns N mN) (hni:mN "__init__" = U (.ref f))
  {of:Obj} (hfo:h.get? f=U of) (hfc:of.cls=.type "function") (hrest:rest.length<=acY)
  (hq:ade (model prog w) (A.under (.builtin "type.__call__" ⟨.ref C::rest,[]⟩)) (call (.ref f) (.ref (h.objs.size+1)::rest)) (λv s'=>v=.none/\Q (.ref (h.objs.size+1)) s') E ⟨vQ h C rest,g,d,t,os⟩) :
  ade (model prog w) A (call (.ref C) rest) Q E ⟨h,g,d,t,os⟩:=by
 have f1:=tc_lookup
 have f2:=tc_bind (.ref C)
 have hT:(⟨h,g,d,t,os⟩:td).TypeIs (.ref C) "type":=⟨_,hC,rfl⟩
 refine abq (codeAny_of_tree ?_)
 show ade _ _ (callAny (.ref C) _) _ _ _
 repeat (any_goals (first | assumption | with_reducible refine aac hC ?_ | wp_step))
 refine⟨rfl,?_⟩
 refine codeAny_call_builtin_at (acU _ (by decide +kernel)) entry_typeCall (wpAny_check_type_call_sub hC (pG F T hC hn hni hfo hfc hrest ?_))
 exact hq
def uc{s:td}(hbase:bm.contains (.type "BaseException")=true)(hh:A.handled=Y)
  (h:ade M A x (λv s₁=>∃ e t dx,v=.ref e/\s₁.heap.get? C=U (excClassObj nm q C N bs bm hdct sn sub ab col dd k0 k1 k2 k3 k5 newId) /\
   s₁.heap.get? e=U { cls:=.ref C,dict:=dx,data:=.fields #[.ref t,.none,.none,.none,.bool false,.none] }/\E (.ref e) s₁) E s) :
  ade M A (raiseStmt env (U x) Y) Q E s:=by
 have hcB:(Value.ref C::bm).contains (.type "BaseException")=true:=by rw[abw,hbase,acz]
 unfold raiseStmt
 refine Yy (Zj h (λv s₁ h₁=>?_) λ_ _ x=>x)
 obtain⟨e,t,dx,rfl,hC,he,hE⟩:=h₁
 obtain⟨hp,g,d,tk,os⟩:=s₁
 repeat (first | with_reducible refine aac he ?_ | with_reducible refine aac hC ?_ | (with_reducible refine aaT hC ?_;rw[hcB]) | wp_step)
 exact wpAny_raiseNew_none hh hE
end
section
open PySem.W Builtin Builtin.ObjectAttr Builtin.Getset_descriptor
noncomputable def kj:List gV:=[.type "ValueError",.type "Exception",.type "BaseException",.type "object"]
noncomputable def FU:gV->Bool
 | .ref _=>true
 | _=>false
inductive rO:List gV->Prop
 | base:rO kj
 | own {c:tx} {r:List gV}:rO r->rO (.ref c::r)
theorem Ug:∀ {l:List gV},(l.dropWhile FU==kj)=true->rO l
 | [],e=>absurd e (by decide)
 | x::r,e=>by
  cases hx:FU x with
  | true=>
   rw[List.dropWhile_cons_of_pos hx] at e
   cases x with
   | ref c=>exact .own (Ug e)
   | _=>cases hx
  | false=>
   rw[List.dropWhile_cons_of_neg (by simp[hx])] at e
   rw[eq_of_beq e];exact .base
def IT(self:gV)(h:rO l):refuseLoop self "__setattr__" l=pure ():=by
 induction h with
 | base=>exact F.store_ValueError.passes self
 | own _ ih=>rw[refuseLoop_ref];exact ih
def Ln(h:rO l):l.contains (.type "object")=true:=by
 induction h with
 | base=>decide
 | own _ ih=>rw[abw,ih,acz]
def sZ(K:Frag)(C:tx):Bool:=(clsIn K C).any λcd=>cd.mro.dropWhile FU==kj
variable{prog:Of}{w:RG}{A:Wr}{E:gV->td->Prop}{s:td}{K:Frag}{x C:tx}{R:Result->td->Prop}
def Ru{r:Option gV}(X:K.In s.heap)(I:InstAt s.heap x ox C od)(hp:sZ K C=true)(ht:takerIn K C name=U r)
  (h:∀ b,ade (model prog w) A.in1 (match r with | some a=>setByDescriptor a (.ref x) v | none=>storeInOwnDict (.ref x) (.ref C) (.str name tk) name v b)
   (λfin s'=>match fin with | .done f=>R (.ok f) s' | .again c'=>c'.quiet=true/\codeAny (model prog w) A c' R s') (λe s'=>R (.error e) s') s) :
  codeAny (model prog w) A (.call (.builtin "object.__setattr__") ⟨[.ref x,.str name tk,v],[]⟩) R s:=by
 have SF:=F.store_object
 obtain⟨cd,hc,ho⟩:=any_some hp
 have ho:=Ug ho
 have ne:cd.mro.isEmpty=false:=by
  cases q:cd.mro with
  | nil=>rw[q] at ho;exact absurd (Ln ho) (by decide)
  | cons _ _=>rfl
 have sub:Looks (model prog w) s.heap (isInstance (.ref x) (.type "object")) true:=I.type.andThen (looks_mroIn X (by unfold mroIn;rw[hc,Option.bind_some,if_neg (by rw[ne];decide),Ln ho]))
 refine acA SF.slot.plain SF.entry (@check_slot (model prog w) _ _ s "object.__setattr__" "object" "__setattr__" (.ref x) [.str name tk,v] [] _ SF.kind SF.split sub (SF.args (.ref x) (.str name tk) v) ?_)
 obtain⟨attr,ha,hr⟩:=Yx.mp ht
 have hm:Looks (model prog w) s.heap (mroOf (.ref C)) cd.mro:=(looks_clsIn X hc).andThen .now
 have L3:Looks (model prog w) s.heap (storeTaker? attr) r:=by
  cases attr with
  | none=>cases hr;exact .now
  | some a=>
   obtain⟨b,hb,rfl⟩:=aaL.mp hr
   refine(looks_takesIn X hb).andThen ?_
   cases b<;>exact .now
 rw[osa_eq,refuse_eq]
 refine Yy (Yy (I.type.here (Yy (hm.here ?_))))
 rw[IT _ ho]
 refine YH (Yy (I.type.here (Yy ((looks_findIn X ha).here (Yy (L3.here ?_))))))
 exact h _
theorem QF{fs:Array gV}{v:gV}{Q:Unit->td->Prop}(X:K.In s.heap)(I:InstAt s.heap x ⟨.ref C,Y,.fields fs,#[]⟩ C Y)
  (hs:findIn K (.ref C) "__setattr__" = U (U (.builtin "object.__setattr__"))) (hp:sZ K C=true) (ht:takerIn K C name=U Y) (hh:hasDictIn K C=true)
  (h:∀ h' t',h'.get? x=U ⟨.ref C,U s.heap.objs.size,.fields fs,#[]⟩->h'.Ns1 s.heap.objs.size (λy=>if y=name then U v else Y) ->
   (∀ b o,b≠x->s.heap.get? b=U o->h'.get? b=U o)->Q () { s with heap:=h',toks:=t' }) :
  ade (model prog w) A (setAttr (.ref x) name v) Q E s:=by
 refine set_plain X I hs (Ru (s:={ s with toks:=s.toks+1 }) (r:=Y) X I hp ht λb=>?_)
 obtain⟨cd,hc,hd'⟩:=any_some hh
 have hx:=I.at_
 refine Yy (YH (Yy (Yy (wpAny_loadPart hx (Yy (Looks.here (s:={ s with toks:=s.toks+1 }) (looks_clsIn X hc) ?_))))))
 rw[hd',if_neg (by decide)]
 obtain⟨h0,g,d,tk,os⟩:=s
 have hx₁:(h0.push { cls:=.type "dict",data:=.dict #[] }).get? x=U ⟨.ref C,Y,.fields fs,#[]⟩:=YA _ hx
 have hxs:x≠h0.objs.size:=Zi (YI hx)
 dsimp only
 rw[if_neg (by simp[typeHasDict])]
 refine Yy (wpAny_alloc' ?_)
 refine Yy (wpAny_update' hx₁ ?_)
 refine YH ?_
 have hgd:((h0.push { cls:=.type "dict",data:=.dict #[] }).update x λo=>{ cls:=o.cls,dict:=U h0.objs.size,data:=o.data,slots:=o.slots }).get? h0.objs.size
   = U { cls:=.type "dict",data:=.dict #[] }:=
  (Zh _ _ _ _ hxs.symm).trans (Heap.get?_push_at rfl rfl)
 have hnd:((h0.push { cls:=.type "dict",data:=.dict #[] }).update x λo=>{ cls:=o.cls,dict:=U h0.objs.size,data:=o.data,slots:=o.slots }).Ns h0.objs.size (λ_=>Y):=
  ⟨_,#[],_,hgd,rfl,λe he=>absurd he (by simp),λ_=>rfl⟩
 show ade _ _ (storeInDict h0.objs.size (.str name tk) name v) _ _ _
 unfold storeInDict newKeyGuard
 refine Yy (YH (Yy (wpAny_nsSet1 (Heap.Ns1.of_empty hnd) λh' hn' hs=>?_)))
 obtain⟨oD,esD,epD,hoD,hdD,hcD⟩:=hn'.count (Within.cons name v Within.nil)
 refine Yy (wpAny_lookBehind hoD (by rw[hdD];exact pastItsLine_dict (YW hcD (by rw[YT,aag,abd];omega))) ?_)
 refine YH (h h' _ ?_ hn' λb ob hbx hb=>?_)
 ·exact(hs.2 x hxs).trans (YZ _ hx₁ rfl)
 ·exact(hs.2 b (Zi (YI hb))).trans ((Zh _ _ _ _ hbx).trans (YA _ hb))
end
end HT
namespace HT
section
variable{M:Model}{A:Wr}{E:gV->td->Prop}{s:td}
structure Fly(h:Ws)(e T:tx)(C:gV)(dx:Option tx):Prop where
 ne:T≠e
 exc:∃ oe vs,h.get? e=U oe/\oe.cls=C/\oe.dict=dx/\oe.data=.fields vs/\vs[1]?=U (.ref T)
 ent:∃ oT ts,h.get? T=U oT/\oT.data=.fields ts/\ts[3]?=U .none
structure Left(fs:List tx)(no:tx->Prop)(h h':Ws):Prop where
 keep:∀ b o,b∉fs->¬ no b->h.get? b=U o->h'.get? b=U o
 slot:∀ b o,b∈fs->h.get? b=U o->∃ sl,h'.get? b=U { o with slots:=sl }
def pV(g:Array gV->Array gV)(o:Obj):(o.mapFields g).cls=o.cls/\(o.mapFields g).dict=o.dict:=by
 obtain⟨c,d,dt,sl⟩:=o
 cases dt<;>exact⟨rfl,rfl⟩
def CL{env:Env}{outer:List Env}{L:tx}{oe:Obj}{Q:Unit->td->Prop}
  (hfr:A.frames=U (env::outer)) (hl:s.heap.FunFrames base (env::outer)) (hf:env.frame=U L)
  (he:s.heap.get? e=U oe) (hd:oe.data=.fields vs) (h1:vs[1]?=U .none)
  (h:∀ h' T,s.heap.objs.size<=T->Fly h' e T oe.cls oe.dict->Left ((env::outer).filterMap (·.frame)) (λb=>b=e) s.heap h'->Q () { s with heap:=h' }):ade M A (leaving env (.ref e)) Q E s:=by
 have hsz:1<vs.size:=(aay.mp h1).1
 have enf:e∉(env::outer).filterMap (·.frame):=λhm=>by
  obtain⟨_,o,ho,hnf⟩:=hl.mem hm
  rw[he] at ho;cases ho;exact hnf vs hd
 unfold leaving noteFrame
 simp only[hf]
 refine Yy (Yy (Zl he hd h1 ?_))
 rw[if_neg (by decide)]
 refine Yy (wpAny_frameOf_fun hfr hl hf λh₁ hs=>Yy (acN λpl hpl=>?_))
 have e1:h₁.get? e=U oe:=(hs.2.1 e enf).trans he
 unfold EntryCells.newEntry newFields
 refine Yy (Zp ?_ (hpl.sizeOk5 _ _ _ _ _))
 generalize hts:(([Value.none,.ref L,.none,rawInt L,.none]++(if pl.isEmpty then adg 6 Value.none else pl)).toArray)=ts
 have t3:3<ts.size:=by rw[<- hts];simp
 have e2:(h₁.push { cls:=.type "traceback",dict:=Y,data:=.fields ts }).get? e=U oe:=YA _ e1
 have T2:(h₁.push { cls:=.type "traceback",dict:=Y,data:=.fields ts }).get? h₁.objs.size=U { cls:=.type "traceback",dict:=Y,data:=.fields ts }:=YN _ rfl
 have ne:h₁.objs.size≠e:=ZJ (YI e1)
 refine Zv e2 hd hsz ?_
 have d3:=aao hd (·.setIfInBounds 1 (Value.ref h₁.objs.size))
 have e3:=YZ (Obj.mapFields (·.setIfInBounds 1 (Value.ref h₁.objs.size))) e2 (aat d3)
 have T3:=(YS _ (Obj.mapFields (·.setIfInBounds 1 (Value.ref h₁.objs.size))) (Ne.symm ne)).trans T2
 unfold setFlight
 refine Yy (Zl e3 d3 (x:=.ref h₁.objs.size) (by simp[hsz]) ?_)
 rw[YR (show(Value.ref h₁.objs.size != Value.none)=true from by simp)]
 refine Zv T3 rfl t3 (h _ h₁.objs.size (by rw[hs.1];exact YL _) ⟨ne,?_,?_⟩ ⟨λb o nb ne' hb=>?_,λb o hm hb=>?_⟩)
 ·exact⟨_,_,(YS _ _ ne).trans e3,(pV _ _).1,(pV _ _).2,d3,by simp[hsz]⟩
 ·exact⟨_,_,YZ _ T3 rfl,rfl,by simp[t3]⟩
 ·have b1:h₁.get? b=U o:=(hs.2.1 b nb).trans hb
  have nT:h₁.objs.size≠b:=ZJ (YI b1)
  exact(YS _ _ nT).trans ((YS _ _ (Ne.symm ne')).trans (YA _ b1))
 ·obtain⟨sl,b1⟩:=hs.2.2 b o hb
  have nT:h₁.objs.size≠b:=ZJ (YI b1)
  have nE:e≠b:=λz=>enf (z ▸ hm)
  exact⟨sl,(YS _ _ nT).trans ((YS _ _ nE).trans (YA _ b1))⟩
def RR{env:Env}{outer:List Env}{L:tx}{Q:Unit->td->Prop}
  (hfr:A.frames=U (env::outer)) (hl:s.heap.FunFrames base (env::outer)) (hf:env.frame=U L) (F:Fly s.heap e T C dx)
  (h:∀ h' T',s.heap.objs.size<=T'->Fly h' e T' C dx->Left ((env::outer).filterMap (·.frame)) (λb=>b=e\/b=T) s.heap h'->Q () { s with heap:=h' }):ade M A (noteFrame (.ref e) env) (λ_ s₂=>ade M A (setFlight (.ref e) Y) Q E s₂) E s:=by
 obtain⟨neT,⟨oe,vs,he,hc,hdx,hd,h1⟩,oT,ts0,hT,hdT,h3⟩:=F
 have hsz:1<vs.size:=(aay.mp h1).1
 have h3z:3<ts0.size:=(aay.mp h3).1
 have enf:e∉(env::outer).filterMap (·.frame):=λhm=>by
  obtain⟨_,o,ho,hnf⟩:=hl.mem hm
  rw[he] at ho;cases ho;exact hnf vs hd
 have tnf:T∉(env::outer).filterMap (·.frame):=λhm=>by
  obtain⟨_,o,ho,hnf⟩:=hl.mem hm
  rw[hT] at ho;cases ho;exact hnf ts0 hdT
 unfold noteFrame
 simp only[hf]
 refine Yy (Zl he hd h1 ?_)
 rw[YR (show(Value.ref T != Value.none)=true from by simp)]
 refine Yy (Zl hT hdT h3 ?_)
 rw[if_neg (by simp[rawInt])]
 refine Yy (Zv hT hdT h3z ?_)
 have dT1:=aao hdT (·.setIfInBounds 3 Value.none)
 have hT1:=YZ (Obj.mapFields (·.setIfInBounds 3 Value.none)) hT (aat dT1)
 have he1:=(YS s.heap (Obj.mapFields (·.setIfInBounds 3 Value.none)) neT).trans he
 have hl1:(s.heap.update T (Obj.mapFields (·.setIfInBounds 3 Value.none))).FunFrames base (env::outer):=hl.of_keeps λb o hb hnf=>⟨o,(YS s.heap _ λq=>by rw[<- q,hT] at hb;cases hb;exact hnf ts0 hdT).trans hb,rfl⟩
 refine Yy (wpAny_frameOf_fun hfr hl1 hf λh₁ hs=>Yy (acN λpl hpl=>?_))
 have e1:h₁.get? e=U oe:=(hs.2.1 e enf).trans he1
 unfold EntryCells.newEntry newFields
 refine Yy (Zp ?_ (hpl.sizeOk5 _ _ _ _ _))
 generalize hts:(([Value.ref T,.ref L,.none,rawInt L,.none]++(if pl.isEmpty then adg 6 Value.none else pl)).toArray)=ts
 have t3:3<ts.size:=by rw[<- hts];simp
 have e2:(h₁.push { cls:=.type "traceback",dict:=Y,data:=.fields ts }).get? e=U oe:=YA _ e1
 have T2:(h₁.push { cls:=.type "traceback",dict:=Y,data:=.fields ts }).get? h₁.objs.size=U { cls:=.type "traceback",dict:=Y,data:=.fields ts }:=YN _ rfl
 have ne:h₁.objs.size≠e:=ZJ (YI e1)
 have sz:h₁.objs.size=s.heap.objs.size:=hs.1.trans (by simp)
 refine Zv e2 hd hsz ?_
 have d3:=aao hd (·.setIfInBounds 1 (Value.ref h₁.objs.size))
 have e3:=YZ (Obj.mapFields (·.setIfInBounds 1 (Value.ref h₁.objs.size))) e2 (aat d3)
 have T3:=(YS _ (Obj.mapFields (·.setIfInBounds 1 (Value.ref h₁.objs.size))) (Ne.symm ne)).trans T2
 unfold setFlight
 refine Yy (Zl e3 d3 (x:=.ref h₁.objs.size) (by simp[hsz]) ?_)
 rw[YR (show(Value.ref h₁.objs.size != Value.none)=true from by simp)]
 refine Zv T3 rfl t3 (h _ h₁.objs.size (by rw[sz];exact YL _) ⟨ne,?_,?_⟩ ⟨λb o nb ne' hb=>?_,λb o hm hb=>?_⟩)
 ·exact⟨_,_,(YS _ _ ne).trans e3,(pV _ _).1.trans hc,(pV _ _).2.trans hdx,d3,by simp[hsz]⟩
 ·exact⟨_,_,YZ _ T3 rfl,rfl,by simp[t3]⟩
 ·have b0:=(YS s.heap (Obj.mapFields (·.setIfInBounds 3 Value.none)) (a:=T) (b:=b) (λz=>ne' (.inr z.symm))).trans hb
  have b1:h₁.get? b=U o:=(hs.2.1 b nb).trans b0
  have nT:h₁.objs.size≠b:=ZJ (YI b1)
  exact(YS _ _ nT).trans ((YS _ _ (λz=>ne' (.inl z.symm))).trans (YA _ b1))
 ·have b0:=(YS s.heap (Obj.mapFields (·.setIfInBounds 3 Value.none)) (a:=T) (b:=b) (λz=>tnf (z ▸ hm))).trans hb
  obtain⟨sl,b1⟩:=hs.2.2 b o b0
  have nT:h₁.objs.size≠b:=ZJ (YI b1)
  have nE:e≠b:=λz=>enf (z ▸ hm)
  exact⟨sl,(YS _ _ nT).trans ((YS _ _ nE).trans (YA _ b1))⟩
end
end HT
namespace L2
noncomputable def oK(P:Of)(w:RG):KZ:=λouter H s E e s'=>∃ x T C dx H',e=.ref x/\HT.Fly s'.heap x T (.ref C) (U dx)/\H' x=Y/\H' T=Y/\s.heap.get? x=Y/\s.heap.get? T=Y /\
 s'.os=s.os/\AllBare s'.gens/\Un (yt outer) [] H H' s.heap s'.heap/\HOk P w H' s'.heap/\E (.ref C) (U dx) H'
theorem HN{h h':Ws}:∀ {l:List Env},h.FunFrames base l->(∀ b o,b∈yt l->h.get? b=U o->∃ sl,h'.get? b=U { o with slots:=sl })->h'.FunFrames base l
 | [],_,_=>trivial
 | env::r,hl,k=>by
  obtain⟨hk,⟨L,o,hf,hn,ho,hd⟩,hr⟩:=hl
  obtain⟨sl,e⟩:=k L o (by unfold yt;rw[ZG,hf];exact YF) ho
  exact⟨hk,⟨L,_,hf,hn,e,hd⟩,HN hr λb o hb=>k b o (by unfold yt at hb ⊢;rw[ZG,hf];exact YB _ hb)⟩
section
variable{X:Cx}{pins:List (tx×Obj)}{σ:St}{H:Hp}{s s':td}{E:XK}{e:gV}
def Dn(hs:X.stack=X.env::X.outer)(hfm:X.env.frame=U X.env.locals)(hex:X.ex=[])(I:Inv X pins σ H s){dx:tx}{oe:Obj}(he:s.heap.get? x=U oe)(hc:oe.cls=.ref C)
  (hdx:oe.dict=U dx) (hd:oe.data=.fields vs) (h1:vs[1]?=U .none) (nx:H x=Y) (x0:X.s₀.heap.get? x=Y) (q:E (.ref C) (U dx) H) :
  ade (model X.prog X.w) X.A (leaving X.env (.ref x)) (λ_ s''=>oK X.prog X.w X.outer X.H₀ X.s₀ E (.ref x) s'') E' s:=by
 have hl:=I.stack
 have hfr:X.A.frames=U (X.env::X.outer):=by rw[<- hs];exact I.ok.frames
 have fin:∀ b∈(X.env::X.outer).filterMap (·.frame),H b=Y:=λb hb=>I.stkFree b (by rw[hs];exact hb)
 rw[hs] at hl
 have inL:∀ b o,X.s₀.heap.get? b=U o->b∉yt X.outer->b∉(X.env::X.outer).filterMap (·.frame):=λb o h0 nb z=>by
  rw[ZG,hfm] at z
  rcases Zd.mp z with z | z
  ·exact absurd (YI h0) (by rw[z];exact aci.mpr I.ok.above)
  ·exact nb z
 have nxe:∀ b:tx,b∉X.ex:=λb=>by rw[hex];simp
 have no:∀ b o,X.s₀.heap.get? b=U o->¬ (b=x):=λb o h0 z=>by rw[z,x0] at h0;cases h0
 refine HT.CL hfr hl hfm he hd h1 λh' T sz F Lf=>⟨x,T,C,dx,H,rfl,by rw[<- hc,<- hdx];exact F,nx,I.hok.fresh sz,x0,?_,I.os,I.bare,?_,?_,q⟩
 ·cases q0:X.s₀.heap.get? T with
  | none=>rfl
  | some o=>obtain⟨o',e'⟩:=I.base.there T o q0 (nxe T);exact absurd (YI e') (aci.mpr sz)
 ·refine⟨λb o h0 n nb _=>?_,λb o h0 n hb _=>?_,λb o h0 n _=>I.base.free b o h0 n (nxe b),λb o h0 _=>?_,I.base.tups,I.base.frzs,I.base.tbls⟩
  ·exact Lf.keep b o (inL b o h0 nb) (no b o h0) (I.base.keep b o h0 n nb (nxe b))
  ·obtain⟨sl,e1⟩:=I.base.slot b o h0 n hb (nxe b)
   obtain⟨sl3,e3⟩:=Lf.slot b _ (by rw[ZG,hfm];exact YB _ hb) e1
   exact⟨sl3,e3⟩
  ·obtain⟨o',e'⟩:=I.base.there b o h0 (nxe b)
   by_cases hb:b∈(X.env::X.outer).filterMap (·.frame)
   ·obtain⟨sl,e3⟩:=Lf.slot b o' hb e';exact⟨_,e3⟩
   ·exact⟨o',Lf.keep b o' hb (no b o h0) e'⟩
 ·intro a o ha
  have tr:∀ b,(b=a\/H b=U (.own a))->H b≠Y:=λb hb z=>by
   rcases hb with hb | hb
   ·rw[hb,ha] at z;cases z
   ·rw[hb] at z;cases z
  exact(I.hok a o ha).stay (λb u hb hu=>Lf.keep b u (λz=>tr b hb (fin b z)) (λz=>tr b hb (z ▸ nx)) hu) (λ_ z=>z) λ_ _ z=>z
end
def xn(x C t:tx)(h:Ws):Prop:=h.get? x=U ⟨.ref C,Y,.fields #[.ref t,.none,.none,.none,.bool false,.none],#[]⟩
def xk(x C t dx:tx)(h:Ws):Prop:=h.get? x=U ⟨.ref C,U dx,.fields #[.ref t,.none,.none,.none,.bool false,.none],#[]⟩
structure wq(K:adf)(C:tx)(f:Str):Prop where
 sa:W.findIn K (.ref C) "__setattr__" = U (U (.builtin "object.__setattr__"))
 ve:HT.sZ K C=true
 tk:W.takerIn K C f=U Y
 hd:W.hasDictIn K C=true
def sFldX(K:adf)(ta tv:TE)(f:Str):TS:=λD σ H=>tv σ H λy H1=>ta σ H1 λx H2=>∃ a C t,x=.ref a/\H2 a=U (.ext (xn a C t))/\wq K C f /\
 ∀ dx,H2 dx=Y->D.nx σ (upd (upd H2 a (.ext (xk a C t dx))) dx (.xd [(f,y)]))
section
variable{X:Cx}{o value:Nl}{f:Str}{pos pos':Pos}{ta tv:TE}
def Bl{s:td}{Q:Unit->td->Prop}(I:Inv X pins σ H s)(ea:H a=U (.ext (xn a C t)))(c:wq X.K C f)(ry:RelV y u)
  (h:∀ s' dx,H dx=Y->Inv X pins σ (upd (upd H a (.ext (xk a C t dx))) dx (.xd [(f,y)])) s'->Q () s'):ade (model X.prog X.w) X.A (setAttr (.ref a) f u) Q E s:=by
 have e0:xn a C t s.heap:=(show ObjOk X.prog X.w H s.heap a (.ext (xn a C t)) from I.hok a _ ea).1
 have hn:=I.hok.fresh (YL s.heap.objs.size)
 have na:a≠s.heap.objs.size:=λz=>by rw[<- z,ea] at hn;cases hn
 refine HT.QF I.kIn ⟨e0,rfl,rfl,trivial⟩ c.sa c.ve c.tk c.hd λh' t' hx hd k=>h _ s.heap.objs.size hn ?_
 have up:∀ b,b≠a->b≠s.heap.objs.size->upd (upd H a (.ext (xk a C t s.heap.objs.size))) s.heap.objs.size (.xd [(f,y)]) b=H b:=λb h1 h2=>by rw[aR h2,aR h1]
 have nT:∀ b o,H b=U o->b≠s.heap.objs.size:=λb o q z=>by rw[z,hn] at q;cases q
 have lt:∀ b o,s.heap.get? b=U o->b≠s.heap.objs.size:=λb o q=>Zi (YI q)
 refine I.un (s:=s) (h':=h') (t':=t') ⟨λb o q n _ _=>k b o (λz=>by rw[z,ea] at n;cases n) q,λb o q n _ _=>⟨o.slots,k b o (λz=>by rw[z,ea] at n;cases n) q⟩,λb o q n _=>?_,λb o q _=>?_,λb xs q=>?_,λb o u q=>?_,λb ps q=>⟨#[],?_⟩⟩ λb o q=>?_
 ·rw[up b (λz=>by rw[z,ea] at n;cases n) (lt b o q)];exact n
 ·by_cases z:b=a
  ·subst z;exact⟨_,hx⟩
  ·exact⟨o,k b o z q⟩
 ·rw[up b (λz=>by rw[z,ea] at q;cases q) (nT b _ q)];exact q
 ·rw[up b (λz=>by rw[z,ea] at q;cases q) (nT b _ q)];exact q
 ·rw[up b (λz=>by rw[z,ea] at q;cases q) (nT b _ q),q];simp
 ·by_cases z:b=s.heap.objs.size
  ·subst z
   rw[bf] at q;cases q
   refine⟨_,hd,λg=>?_⟩
   by_cases hg:g=f
   ·subst hg;rw[YR rfl];simp[List.lookup,RelO,ry]
   ·rw[if_neg hg]
    have hb:(g==f)=false:=ZF.mpr hg
    simp only[List.lookup,hb,RelO]
  ·by_cases z':b=a
   ·subst z'
    rw[aR z,bf] at q;cases q
    exact⟨hx,⟨_,hx⟩,λh1 h2 e1 e2=>e2 _ e1⟩
   ·rw[up b z' z] at q
    refine(I.hok b o q).stay (λc' u hc hu=>k c' u (λw=>?_) hu) (λc' hc=>?_) λc' xs hc=>?_
    ·rcases hc with hc | hc
     ·exact z' (hc ▸ w)
     ·rw[w,ea] at hc;cases hc
    ·rw[up c' (λw=>by rw[w,ea] at hc;cases hc) (nT c' _ hc)];exact hc
    ·rw[up c' (λw=>by rw[w,ea] at hc;cases hc) (nT c' _ hc)];exact hc
def QY(ha:PE X o ta)(hv:PE X value tv)(hs:swapsWith value (U (.Attribute o f pos')) pos.line X.env=pure false):PS X (.Assign [.Attribute o f pos'] value pos) (sFldX X.K ta tv f):=by
 intro pins s σ H D I h
 refine plainObj_wpAny_Assign_Attribute (cZ (hv pins s σ H _ I h) λu s1 ⟨y,H1,I1,ry,q⟩=>cZ (ha pins s1 σ H1 _ I1 q) λov s2 ⟨x,H2,I2,rx,a,C,t,ex,ea,c,q2⟩=>?_) hs
 subst ex
 obtain rfl:ov=Value.ref a:=rx
 exact Bl I2 ea c ry λs3 dx hn I3=>⟨σ,_,I3,q2 dx hn⟩
end
section
variable{X:Cx}{pins:List (tx×Obj)}{σ:St}{H:Hp}{s:td}
def Inv.letgo(I:Inv X pins σ H s)(hx:H x=U (.ext φ)):Inv X pins σ (λb=>if b=x then Y else H b) s:=by
 have ne:∀ {b:tx} {o:HO},H b=U o->(∀ ψ,o≠.ext ψ)->(if b=x then Y else H b)=U o:=λ{b o} q n=>by
  rw[if_neg λz=>?_];exact q
  rw[z,hx] at q;cases q;exact n _ rfl
 refine I.un (s:=s) (h':=s.heap) (t':=s.toks) ⟨λb o q _ _ _=>q,λb o q _ _ _=>⟨o.slots,q⟩,λb o q n _=>?_,λb o q _=>⟨o,q⟩,λb xs q=>ne q (by intro ψ z;cases z),λb o u q=>ne q (by intro ψ z;cases z),λb ps q=>⟨#[],by rw[ne q (by intro ψ z;cases z)];simp⟩⟩ λb o q=>?_
 ·show(if b=x then Y else H b)=Y
  split
  ·rfl
  ·exact n
 ·by_cases z:b=x
  ·simp[z] at q
  ·have q:H b=U o:=by simpa[z] using q
   exact(I.hok b o q).stay (λ_ _ _ hu=>hu) (λc hc=>ne hc (by intro ψ w;cases w)) λc xs hc=>ne hc (by intro ψ w;cases w)
end
def Ea(K:adf)(C f:tx):Prop:=∃ nm q N bs bm hdct sn sub ab col dd k0 k1 k2 k3 k5 newId mN bmB B initId,mN "__init__" = U (.ref f)/\ExcBaseFacts B newId initId bmB/\bm.contains (.type "BaseException")=true /\
 ∀ h:Ws,K.In h->h.get? C=U (excClassObj nm q C N bs bm hdct sn sub ab col dd k0 k1 k2 k3 k5 newId)/\h.Ns N mN/\OwnTail h bmB bm/\∃ of,h.get? f=U of/\of.cls=.type "function"
def GP(P:Of)(w:RG)(K:adf)(mg:Str->Option gV)(base:Ws)(k:Nat)(C f:tx)(fl:Str):Prop:=∀ (A:Wr) (outer:List Env) (s:td) (H:Hp) (x t:tx) (v:V) (u:gV),Room k A->Env0 P w K mg base A outer s H ->
 RelV v u->H x=U (.ext (xn x C t))->codeAny (model P w) A (.call (.ref f) ⟨[.ref x,u],[]⟩) (CR Eb outer P w H s (λr H'=>r=.non/\∃ dx,H dx=Y/\H'=upd (upd H x (.ext (xk x C t dx))) dx (.xd [(fl,v)])) E0) s
section
variable{X:Cx}{e:Nl}{x:Str}{np cpos pos:Pos}{te:TE}{C f:tx}{fl:Str}{k:Nat}
def Vu(C:tx)(fl:Str)(E:XK)(te:TE):TS:=λ_ σ H=>te σ H λy H1=>∀ dx,H1 dx=Y->E (.ref C) (U dx) (upd H1 dx (.xd [(fl,y)]))
noncomputable def Mk(R:Ea X.K C f)(N:GP X.prog X.w X.K X.mg X.base k C f fl)(hr:∀ us,Room k (X.A.under (.builtin "type.__call__" ⟨.ref C::us,[]⟩)))(hg:Gl X x)(hm:X.mg x=U (.ref C))(he:PE X e te)(hcalm:X.calm=true)
  (hs:X.stack=X.env::X.outer) (hfm:X.env.frame=U X.env.locals) (hex:X.ex=[])
  (hxe:∀ e' s',ade (model X.prog X.w) X.A (leaving X.env e') (λ_ s''=>oK X.prog X.w X.outer X.H₀ X.s₀ E e' s'') (λ_ _=>False) s'->X.xe e' s')
  (hd:(x==("__debug__":Str))=false) (hst:acZ [e] X.env=(false,eval e X.env)::acZ [] X.env) :
  PS X (.Raise (U (.Call (.Name x np) [e] [] cpos)) Y pos) (Vu C fl E te):=by
 intro pins s σ H D I h
 have hh:=I.ok.hd hcalm
 obtain⟨nm,q,Nn,bs,bm,hdct,sn,sub,ab,col,dd,k0,k1,k2,k3,k5,newId,mN,bmB,B,initId,hni,F,hb,R⟩:=R
 rw[arm_exec_Raise]
 refine Yy (aaQ (HT.uc (C:=C) (nm:=nm) (q:=q) (N:=Nn) (bs:=bs) (bm:=bm) (hdct:=hdct) (sn:=sn) (sub:=sub) (ab:=ab) (col:=col) (dd:=dd) (k0:=k0) (k1:=k1) (k2:=k2) (k3:=k3) (k5:=k5) (newId:=newId) hb hh ?_))
 refine Yy (Zj (wpAny_Call_ofName (qd I hg hm ?_ hd)) (λv s₃ h₃=>Yy (aaQ (YH h₃))) λ_ _ z=>z)
 have ev:ade (model X.prog X.w) X.A (evalArgs (.ref C) true (backTo cpos (acZ [e] X.env)) []) (λa s₂=>∃ y u H1,a=⟨[u],[]⟩/\Inv X pins σ H1 s₂/\RelV y u/\∀ dx,H1 dx=Y->E (.ref C) (U dx) (upd H1 dx (.xd [(fl,y)]))) X.xe s:=by
  rw[hst]
  refine aaP (show ade _ _ (spliced (backTo cpos ((false,eval e X.env)::acZ [] X.env))) _ _ _ from ?_)
  rw[<- hst]
  exact spliced_more (cZ (he pins s σ H _ I h) λu s1 ⟨y,H1,I1,ry,q1⟩=>spliced_none ⟨y,u,H1,rfl,I1,ry,q1⟩) hst
 have hplain:(backTo cpos (acZ [e] X.env)).any (·.1)=false:=by rw[hst];rfl
 unfold callWith
 refine Yy (ZL (Zj ev (λa s₂ h₂=>Yy (aaQ ?_)) λ_ _ z=>z))
 obtain⟨y,u,H1,rfl,I1,ry,q1⟩:=h₂
 obtain⟨hC,hn,T,of,hf,hfc⟩:=R s₂.heap I1.kIn
 obtain⟨hp,g,d,tk,os⟩:=s₂
 simp only[hplain]
 refine Yy (wpAny_keeperOf_exc hC ?_)
 refine Yy (HT.AJ F T hC hn hni hf hfc (by rw[abd];simp) ?_)
 have I2:Inv X pins σ (upd H1 (hp.objs.size+1) (.ext (xn (hp.objs.size+1) C hp.objs.size))) ⟨HT.vQ hp C [u],g,d,tk,os⟩:=I1.laid (a:=hp.objs.size+1) (o:=.ext (xn (hp.objs.size+1) C hp.objs.size)) (t':=tk) (λb w z=>HT.iR z) (abt _) ⟨HT.rB,⟨_,HT.rB⟩,λh1 h2 e1 e2=>e2 _ e1⟩
 refine abq (aas (N _ X.stack _ _ (hp.objs.size+1) hp.objs.size y u (hr [u]) (I2.env0.make C [u] []) ry bf) λr s' z=>?_)
 match r,z with
 | .ok (.ret v),z=>
  obtain⟨v',H',I3,rv,rfl,dx,hdx,rfl⟩:=I2.after z
  cases(show v=Value.none from rv)
  have ndx:dx≠hp.objs.size+1:=λw=>by rw[w,bf] at hdx;cases hdx
  have hx:(upd (upd (upd H1 (hp.objs.size+1) (.ext (xn (hp.objs.size+1) C hp.objs.size))) (hp.objs.size+1) (.ext (xk (hp.objs.size+1) C hp.objs.size dx))) dx (.xd [(fl,y)])) (hp.objs.size+1)=U (.ext (xk (hp.objs.size+1) C hp.objs.size dx)):=by rw[aR (Ne.symm ndx),bf]
  have e1:xk (hp.objs.size+1) C hp.objs.size dx s'.heap:=(show ObjOk X.prog X.w _ s'.heap _ (.ext (xk (hp.objs.size+1) C hp.objs.size dx)) from I3.hok _ _ hx).1
  have I4:=I3.letgo hx
  refine⟨rfl,Yy (ZL (wpAny_point (YH ⟨_,_,U dx,rfl,(R s'.heap I3.kIn).1,e1,hxe _ _ ?_⟩)))⟩
  refine Dn hs hfm hex I4 e1 rfl rfl rfl rfl (by simp) ?_ ?_
  ·exact acE (Nat.le_succ_of_le I1.sz)
  ·have n1:H1 (hp.objs.size+1)=Y:=I1.hok.fresh (abt _)
   rw[aR ndx] at hdx
   have eq:(λb=>if b=hp.objs.size+1 then Y else upd (upd (upd H1 (hp.objs.size+1) (.ext (xn (hp.objs.size+1) C hp.objs.size))) (hp.objs.size+1) (.ext (xk (hp.objs.size+1) C hp.objs.size dx))) dx (.xd [(fl,y)]) b)=upd H1 dx (.xd [(fl,y)]):=by
    funext b
    by_cases z1:b=hp.objs.size+1
    ·rw[YR z1,z1,aR (Ne.symm ndx),n1]
    ·rw[if_neg z1]
     by_cases z2:b=dx
     ·rw[z2,bf,bf]
     ·rw[aR z2,aR z2,aR z1,aR z1]
   rw[eq]
   exact q1 dx hdx
end
section
variable{X:Cx}{pins:List (tx×Obj)}{σ:St}{H:Hp}{s s':td}{E:XK}{e:gV}
def Inv.track(I:Inv X pins σ H s){ox:Obj}{φ:Ws->Prop}(hx:s.heap.get? x=U ox)(hd:ox.data=.fields vs)(n:H x=Y)(x0:X.s₀.heap.get? x=Y)(hp:∀ p∈X.pn++pins,p.1≠x)
  (ok:φ s.heap) (st:∀ h1 h2:Ws,φ h1->(∀ o,h1.get? x=U o->h2.get? x=U o)->φ h2):Inv X pins σ (upd H x (.ext φ)) s:=by
 have nl:X.env.locals≠x:=λz=>by
  obtain⟨m,⟨o,es,ep,ho,hdo,_⟩,_⟩:=I.loc
  rw[z,hx] at ho;cases ho;rw[hd] at hdo;cases hdo
 have ne0:∀ b o,X.s₀.heap.get? b=U o->b≠x:=λb o q z=>by rw[z,x0] at q;cases q
 have sm:∀ b o,H b=U o->upd H x (.ext φ) b=U o:=λb o q=>by rw[aR λz=>?_];exact q;rw[z,n] at q;cases q
 refine⟨I.ok,I.os,I.bare,⟨I.base.keep,I.base.slot,λb o q m ne=>by rw[aR (ne0 b o q)];exact I.base.free b o q m ne,I.base.there,λb xs q=>sm b _ (I.base.tups b xs q),λb o u q=>sm b _ (I.base.frzs b o u q),λb ps q=>?_⟩,I.loc,I.cell,?_,λy c q=>?_,λp q=>?_,λb o q=>?_,I.len⟩
 ·obtain⟨more,z⟩:=I.base.tbls b ps q
  exact⟨more,sm b _ z⟩
 ·rw[aR nl];exact I.free
 ·rw[aR λz=>?_];exact I.freeC y c q
  obtain⟨v,o,ho,hdo⟩:=I.cell y c q
  rw[z,hx] at ho;cases ho;rw[hd] at hdo;cases hdo
 ·obtain⟨h1,h2,h3⟩:=I.pin p q
  exact⟨h1,by rw[aR (hp p q)];exact h2,h3⟩
 ·by_cases z:b=x
  ·subst z
   rw[bf] at q;cases q
   exact⟨ok,⟨_,hx⟩,st⟩
  ·rw[aR z] at q
   exact(I.hok b o q).stay (λ_ _ _ hu=>hu) (λc hc=>sm c _ hc) λc xs hc=>sm c _ hc
structure AX(X:Cx)(pins:List (tx×Obj))(H:Hp)(s:td)(x T C dx:tx):Prop where
 fly:HT.Fly s.heap x T (.ref C) (U dx)
 no:H T=Y
 old:X.s₀.heap.objs.size<=T
 pin:∀ p∈X.pn++pins,p.1≠T
def FY(hs:X.stack=X.env::X.outer)(hfm:X.env.frame=U X.env.locals)(hex:X.ex=[])(I:Inv X pins σ H s)(hx:oK X.prog X.w X.stack H s E e s'){Q:Unit->td->Prop}
  (h:∀ s'' x T C dx H',e=.ref x->Inv X pins σ (upd H' x (.ext (nh x C dx))) s''->H' x=Y->E (.ref C) (U dx) H'->AX X pins H' s'' x T C dx->Q () s'') :
  ade (model X.prog X.w) X.A (noteFrame e X.env) (λ_ s₂=>ade (model X.prog X.w) X.A (setFlight e Y) Q E' s₂) E' s':=by
 obtain⟨x,T,C,dx,H',rfl,F,nx,nT,fx,fT,os,bare,un,hok,q⟩:=hx
 have fin:∀ b∈yt X.stack,H b=Y:=I.stkFree
 have hl:s'.heap.FunFrames X.base X.stack:=HN I.stack λb o hb ho=>un.slot b o ho (fin b hb) hb (by simp)
 have hfr:X.A.frames=U (X.env::X.outer):=by rw[<- hs];exact I.ok.frames
 rw[hs] at hl
 have nn:∀ b:tx,b∉([]:List tx):=λb=>by simp
 have fr':∀ b∈(X.env::X.outer).filterMap (·.frame),H' b=Y:=λb hb=>by
  have hb:b∈yt X.stack:=by rw[hs];exact hb
  obtain⟨_,o,ho,_⟩:=I.stack.mem hb
  exact un.free b o ho (fin b hb) (nn b)
 have no:∀ b o,s.heap.get? b=U o->¬ (b=x\/b=T):=λb o h0 z=>by
  rcases z with z | z
  ·rw[z,fx] at h0;cases h0
  ·rw[z,fT] at h0;cases h0
 refine HT.RR hfr hl hfm F λh' T' sz F' Lf=>?_
 have un':Un (yt X.stack) [] H H' s.heap h':=by
  refine⟨λb o h0 n nb _=>?_,λb o h0 n hb _=>?_,un.free,λb o h0 _=>?_,un.tups,un.frzs,un.tbls⟩
  ·exact Lf.keep b o (by rw[hs] at nb;exact nb) (no b o h0) (un.keep b o h0 n nb (nn b))
  ·obtain⟨sl2,e2⟩:=un.slot b o h0 n hb (nn b)
   obtain⟨sl3,e3⟩:=Lf.slot b _ (by rw[hs] at hb;exact hb) e2
   exact⟨sl3,e3⟩
  ·obtain⟨o',e'⟩:=un.there b o h0 (nn b)
   by_cases hb:b∈(X.env::X.outer).filterMap (·.frame)
   ·obtain⟨sl,e3⟩:=Lf.slot b o' hb e';exact⟨_,e3⟩
   ·exact⟨o',Lf.keep b o' hb (no b o h0) e'⟩
 have hok':HOk X.prog X.w H' h':=λa o ha=>by
  have tr:∀ b,(b=a\/H' b=U (.own a))->H' b≠Y:=λb hb z=>by
   rcases hb with hb | hb
   ·rw[hb,ha] at z;cases z
   ·rw[hb] at z;cases z
  refine(hok a o ha).stay (λb u hb hu=>Lf.keep b u (λz=>tr b hb (fr' b z)) (λz=>?_) hu) (λ_ z=>z) λ_ _ z=>z
  rcases z with z | z
  ·exact tr b hb (z ▸ nx)
  ·exact tr b hb (z ▸ nT)
 have I2:Inv X pins σ H' { s' with heap:=h' }:=I.call' (s':={ s' with heap:=h' }) (ch:=[]) os un' hok' bare λb z=>absurd z (by simp)
 obtain⟨_,⟨oe,vs,he,hc,hdx,hd,_⟩,_⟩:=id F'
 have x0:X.s₀.heap.get? x=Y:=by
  cases q0:X.s₀.heap.get? x with
  | none=>rfl
  | some o=>obtain⟨o1,e1⟩:=I.base.there x o q0 (by rw[hex];simp);rw[fx] at e1;cases e1
 have s0:X.s₀.heap.objs.size<=s'.heap.objs.size:=by
  refine YW I.ok.above (abI ?_)
  obtain⟨m,⟨o,es,ep,ho,_⟩,_⟩:=I.loc
  obtain⟨o',ho'⟩:=un.there _ o ho (nn _)
  exact YI ho'
 refine h _ x T' C dx H' rfl (I2.track he hd nx x0 (λp hp z=>?_) ⟨oe,vs,he,hc,hdx,hd⟩ λh1 h2 ⟨o,ws,z1,z2⟩ k=>⟨o,ws,k o z1,z2⟩) nx q ⟨F',hok.fresh sz,YW s0 sz,λp hp z=>?_⟩
 rotate_left
 ·obtain⟨o',ho'⟩:=un.there p.1 p.2 (I.pin p hp).1 (nn _)
  exact absurd (YI ho') (by rw[z];exact aci.mpr sz)
 have:=(I.pin p hp).1
 rw[z,fx] at this;cases this
def JU{Q:Unit->td->Prop}(I:Inv X pins σ (upd H' x (.ext φ)) s)(L:AX X pins H' s x T C dx)
  (h:∀ s',Inv X pins σ (upd H' x (.ext φ)) s'->AX X pins H' s' x T C dx->Q () s'):ade (model X.prog X.w) A (setFlight (.ref x) Y) Q E' s:=by
 obtain⟨neT,⟨oe,vs,he,hc,hdx,hd,h1⟩,oT,ts,hT,hdT,h3⟩:=id L.fly
 have h3z:3<ts.size:=(aay.mp h3).1
 unfold setFlight
 refine Yy (Zl he hd h1 ?_)
 rw[YR (show(Value.ref T != Value.none)=true from by simp)]
 refine Zv hT hdT h3z ?_
 have dT1:=aao hdT (·.setIfInBounds 3 Value.none)
 have hT1:=YZ (Obj.mapFields (·.setIfInBounds 3 Value.none)) hT (aat dT1)
 have ot:∀ b,b≠T->(s.heap.update T (Obj.mapFields (·.setIfInBounds 3 Value.none))).get? b=s.heap.get? b:=λb hb=>YS s.heap _ (Ne.symm hb)
 have nT:upd H' x (.ext φ) T=Y:=by rw[aR neT];exact L.no
 have I2:=I.call (h':=s.heap.update T (Obj.mapFields (·.setIfInBounds 3 Value.none))) (g':=s.gens) (d':=s.drawn) (t':=s.toks) (ch:=[T]) (H':=upd H' x (.ext φ))
  ⟨λb o q _ _ nb=>(ot b λz=>nb (by simp[z])).trans q,λb o q _ _ nb=>⟨o.slots,(ot b λz=>nb (by simp[z])).trans q⟩,λb o _ n _=>n,λb o q nb=>⟨o,(ot b λz=>nb (by simp[z])).trans q⟩,λ_ _ z=>z,λ_ _ _ z=>z,λb ps z=>⟨#[],by rw[z];simp⟩⟩
  (λa o ha=>(I.hok a o ha).stay (λb u hb hu=>(ot b λz=>by
   rcases hb with hb | hb
   ·rw[<- hb,z,nT] at ha;cases ha
   ·rw[z,nT] at hb;cases hb).trans hu) (λ_ z=>z) λ_ _ z=>z) I.bare (λb hb=>by
   obtain rfl:b=T:=by simpa using hb
   refine⟨.inr L.old,λz=>?_,λy c hc' z=>?_,L.pin⟩
   ·obtain⟨m,⟨o,es,ep,ho,hdo,_⟩,_⟩:=I.loc
    rw[<- z,hT] at ho;cases ho;rw[hdT] at hdo;cases hdo
   ·obtain⟨v,o,ho,hdo⟩:=I.cell y c hc'
    rw[z,hT] at ho;cases ho;rw[hdT] at hdo;cases hdo)
 exact h _ I2 ⟨⟨neT,⟨oe,vs,(ot x (Ne.symm neT)).trans he,hc,hdx,hd,h1⟩,⟨_,_,hT1,dT1,by simp[h3z]⟩⟩,L.no,L.old,L.pin⟩
end
section
variable{X:Cx}{k:Nat}{f:tx}{fd:FuncData}{ps:List Str}{sp:Sp}{dvs:List V}{ds:List gV}{E:XK}{x:Str}{p pos:Pos}{e:Nl}{es:List Nl}{t:TA}{pins:List (tx×Obj)}{σ:St}{H:Hp}{s:td}{Q:VK}
def Yo(X:Cx)(pins:List (tx×Obj))(σ:St)(E:XK)(e:gV)(s':td):Prop:=∃ H1 s1,Inv X pins σ H1 s1/\oK X.prog X.w X.stack H1 s1 E e s'
noncomputable def DM(F:FnOk X.prog X.w X.K X.mg X.base (oK X.prog X.w) k f fd ps sp)(hr:Room k X.A)(hg:Gl X x)(hm:X.mg x=U (.ref f))(hk:W.keepIn X.K (.ref f)=true)(hb:Binds X.K fd ps ds)(hd:Vals dvs ds)
  (ha:PA X (e::es) t) (hxe:∀ v s',X.xe v s'->False) (I:Inv X pins σ H s) (h:xB sp dvs E t σ H Q) (hdb:(x==("__debug__":Str))=false)
  (he:acZ (e::es) X.env=(false,eval e X.env)::acZ es X.env) (hpl:(backTo pos (acZ es X.env)).any (·.1)=false) :
  ade (model X.prog X.w) X.A (eval (.Call (.Name x p) (e::es) [] pos) X.env) (EP X pins σ Q) (Yo X pins σ E) s:=by
 refine aan (qd I hg hm ?_ hdb)
 refine acv (h₀:=X.base) I.ok.mod.kin hk (Zj (ha pos pins s σ H _ I h) (λus s1 ⟨vs,H1,I1,r,q⟩=>⟨I1.kIn,?_⟩) λv s' z=>(hxe v s' z).elim) he hpl
 have r2:Vals (vs++dvs) (us++ds):=r.append hd
 have hl:(us++ds).length=ps.length:=by rw[<- r2.length];exact F.len _ _ _ _ q
 refine abq (aas (F.run X.A X.stack s1 H1 ⟨us,[]⟩ (us++ds) (vs++dvs) Q E hr I1.env0 (hb s1 us I1.kIn hl) r2 q) λr s' hq=>?_)
 match r,hq with
 | .error v,hq=>exact⟨H1,s1,I1,hq⟩
 | .ok (.ret u),hq=>exact I1.after hq
end
section
variable{X:Cx}{pins:List (tx×Obj)}{σ:St}{H:Hp}{s:td}
def Inv.frame{h':Ws}{t':Nat}{i:Nat}{x:Str}(I:Inv X pins σ H s)(hN:X.N.Nodup)(hi:X.N[i]?=U x)(hn':h'.Ns X.env.locals m')(hs:Heap.SameBut X.env.locals s.heap h')
  (hm:∃ m,s.heap.Ns X.env.locals m/\∀ y,y≠x->m' y=m y):Inv X pins (σ.set i Y) H { s with heap:=h',toks:=t' }:=by
 obtain⟨m0,hn,hl⟩:=id I.loc
 obtain⟨m,hnm,hm⟩:=hm
 have mm:m=m0:=by
  obtain⟨o,es,ep,e1,e2,e3,e4⟩:=hnm
  obtain⟨o',es',ep',f1,f2,f3,f4⟩:=hn
  rw[e1] at f1;cases f1
  rw[e2] at f2;cases f2
  funext y;rw[<- e4 y,f4 y]
 subst mm
 have nl:∀ b o,X.s₀.heap.get? b=U o->b≠X.env.locals:=λb o e=>Zi (YV (YI e) I.ok.above)
 refine⟨I.ok,I.os,I.bare,⟨λb o e n hb hx=>(hs.2 b (nl b o e)).trans (I.base.keep b o e n hb hx),λb o e n hb hx=>?_,I.base.free,λb o e hx=>?_,I.base.tups,I.base.frzs,I.base.tbls⟩,⟨m',hn',λj y v e1 e2 e3=>?_⟩,λy c e=>?_,I.free,I.freeC,λp hp=>?_,λb o q=>?_,by simpa using I.len⟩
 ·obtain⟨sl,e1⟩:=I.base.slot b o e n hb hx
  exact⟨sl,(hs.2 b (nl b o e)).trans e1⟩
 ·obtain⟨o',e1⟩:=I.base.there b o e hx
  exact⟨o',(hs.2 b (nl b o e)).trans e1⟩
 ·by_cases hj:j=i
  ·subst hj
   rw[List.getElem?_set] at e2
   split at e2
   ·split at e2<;>simp at e2
   ·rename_i z;exact absurd rfl z
  ·rw[Zf (Ne.symm hj)] at e2
   obtain⟨u,ru,lk⟩:=hl j y v e1 e2 e3
   have hy:y≠x:=λz=>hj (uw hN (z ▸ e1) hi)
   refine⟨u,ru,?_⟩
   rcases lk with ⟨k1,k2⟩ | ⟨k1,c,k2,k3⟩
   ·exact .inl ⟨k1,by rw[hm y hy];exact k2⟩
   ·refine .inr ⟨k1,c,k2,?_⟩
    obtain⟨o,ho,hd⟩:=k3
    exact⟨o,(hs.2 c (I.cne y c k2)).trans ho,hd⟩
 ·obtain⟨v,o,ho,hd⟩:=I.cell y c e
  exact⟨v,o,(hs.2 c (I.cne y c e)).trans ho,hd⟩
 ·obtain⟨h1,h2,h3,h4⟩:=I.pin p hp
  exact⟨(hs.2 _ h3).trans h1,h2,h3,h4⟩
 ·refine(I.hok b o q).stay (λc u hc hu=>(hs.2 c λz=>?_).trans hu) (λ_ z=>z) λ_ _ z=>z
  rcases hc with hc | hc
  ·rw[<- hc,z,I.free] at q;cases q
  ·rw[z,I.free] at hc;cases hc
def Ji{i:Nat}{n:Str}{Q:Unit->td->Prop}(I:Inv X pins σ H s)(hN:X.N.Nodup)(hi:X.N[i]?=U n)(hk:X.env.scope.names.lookup n=U .local)
  (h:∀ s',Inv X pins (σ.set i Y) H s'->Q () s'):ade M A (do bindName X.env n .none;unbindBehindTheSuite X.env n pos) Q E s:=by
 have hcls:(X.env.scope.kind==.class||(X.env.scope.kind==.module&&X.env.locals != X.env.globals))=false:=by rw[I.ok.kind];rfl
 have hiσ:i < σ.length:=by rw[I.len];exact(Yz.mp hi).1
 refine Yy (wpAny_bindName (pH I hN hi (.inl hk) (v:=.non) (u:=.none) rfl (λs1 I1=>?_) (.inr hk)))
 obtain⟨m,hn,hl⟩:=id I1.loc
 obtain⟨u,ru,lk⟩:=hl i n .non hi (Zg hiσ) (.inl hk)
 have hmn:m n=U u:=by
  rcases lk with ⟨_,z⟩ | ⟨z,_⟩
  ·exact z
  ·rcases z with z | z
   ·rw[show X.env.kindOf n=U .local from hk] at z;cases z
   ·rw[show X.env.kindOf n=U .local from hk] at z;cases z
 unfold unbindBehindTheSuite
 refine aaR (wpAny_unbindName_local hk hn hmn hcls λh' u' hn' hs'=>?_)
 have I2:=I1.frame (t':=s1.toks) hN hi hn' hs' ⟨m,hn,λy hy=>by simp[hy]⟩
 rw[List.set_set] at I2
 exact h _ I2
end
end L2
namespace HT
section
variable{M:Model}{A:Wr}{E:gV->td->Prop}{h:Ws}{g:Array GenState}{d:Drawn}{t:Nat}{os:OsState}
variable{nm q nm' q':Str}{C N C' N':tx}{bs bm bs' bm':List gV}{hdct hdct':Bool}{sn sn':List Str}{sub sub':List gV}{ab ab':Bool}{col col':Option Bool}{dd dd':Option tx}{k0 k1 k2 k3 k5 l0 l1 l2 l3 l5:Option gV}{newId newId':String}
def Cg{oe:Obj}{Q:Bool->td->Prop}(hC:h.get? C=U (excClassObj nm q C N bs bm hdct sn sub ab col dd k0 k1 k2 k3 k5 newId))(hG:h.get? C'=U (excClassObj nm' q' C' N' bs' bm' hdct' sn' sub' ab' col' dd' l0 l1 l2 l3 l5 newId'))
  (he:h.get? e=U oe) (hcls:oe.cls=.ref C) (hin:(Value.ref C::bm).contains (.ref C')=true) (hbase:bm'.contains (.type "BaseException")=true)
  (hq:Q true ⟨h,g,d,t,os⟩):ade M A (excMatches (.ref e) (.ref C')) Q E ⟨h,g,d,t,os⟩:=by
 have hcB:(Value.ref C'::bm').contains (.type "BaseException")=true:=by rw[abw,hbase,acz]
 have f:=tc_notTuple
 unfold excMatches
 repeat (first | (with_reducible refine aac he ?_;rw[hcls]) | with_reducible refine aac hG ?_ | (with_reducible refine aaT hG ?_;rw[hcB]) | (with_reducible refine aaT hC ?_;rw[hin]) | wp_step)
 exact hq
end
end HT
namespace L2
noncomputable abbrev Cx.suite(X:Cx)(v:gV)(E:gV->td->Prop):Cx:={ X with A:=X.A.mark (U v),calm:=false,xe:=E }
section
variable{X:Cx}{pins:List (tx×Obj)}{σ:St}{H:Hp}{s:td}{v:gV}{E:gV->td->Prop}
theorem Cx.Ok.suite(ok:X.Ok):(X.suite v E).Ok:=⟨ok.mod,ok.kind,ok.glob,ok.blt,ok.above,ok.inj,ok.has,ok.cab,(λz=>by cases z),ok.frames,ok.stk,ok.exf,ok.bs,ok.bsz,ok.noex,ok.exfs,ok.funs,ok.frf⟩
theorem Inv.suite(I:Inv X pins σ H s):Inv (X.suite v E) pins σ H s:=⟨I.ok.suite,I.os,I.bare,I.base,I.loc,I.cell,I.free,I.freeC,I.pin,I.hok,I.len⟩
def Inv.unsuite(ok:X.Ok)(I:Inv (X.suite v E) pins σ H s):Inv X pins σ H s:=⟨ok,I.os,I.bare,I.base,I.loc,I.cell,I.free,I.freeC,I.pin,I.hok,I.len⟩
def wn(K:adf)(C:tx)(bm:List gV):Prop:=∃ nm q N bs hdct sn sub ab col dd k0 k1 k2 k3 k5 newId,∀ h:Ws,K.In h->h.get? C=U (excClassObj nm q C N bs bm hdct sn sub ab col dd k0 k1 k2 k3 k5 newId)
noncomputable def JQ{C:tx}{i:Nat}{n:Str}{b₀:Uo}{suite:List Uo}{D:pB}(I:Inv X pins σ (upd H' x (.ext (nh x C dx))) s)(L:AX X pins H' s x T C dx)
  (hC:wn X.K C bm) (hG:wn X.K G bmG) (hin:(Value.ref C::bm).contains (.ref G)=true) (hb:bmG.contains (.type "BaseException")=true) (hg:Gl X g) (hm:X.mg g=U (.ref G)) (hN:X.N.Nodup) (hi:X.N[i]?=U n) (hk:X.env.scope.names.lookup n=U .local)
  (hS:∀ v,PSs (X.suite v λ_ _=>False) (b₀::suite) ts) (h:ts { nx:=λσ' H1=>D.nx (σ'.set i Y) H1,rt:=λ_ _=>False } (σ.set i (U (.ref x))) (upd H' x (.ext (nh x C dx)))) (hd:(g==("__debug__":Str))=false) :
  ade (model X.prog X.w) X.A (handleBy (.ref x) X.env [.ExceptHandler (U (.Name g gp)) (U n) (b₀::suite) hp]) (SP X pins D) E s:=by
 obtain⟨nm,q,N,bs,hdct,sn,sub,ab,col,dd,k0,k1,k2,k3,k5,newId,hC⟩:=hC
 obtain⟨nm',q',N',bs',hdct',sn',sub',ab',col',dd',l0,l1,l2,l3,l5,newId',hG⟩:=hG
 have ek:nh x C dx s.heap:=(show ObjOk X.prog X.w _ s.heap x (.ext (nh x C dx)) from I.hok x _ bf).1
 obtain⟨oe,_,he,hc,_⟩:=ek
 refine wpAny_handleBy_cons (codeAny_handlers_test (aaY I.ok.kind hg (acn (by rw[I.ok.glob];exact I.mod.glob.keeps I.bk) hm ?_) hd)) (by intro z;cases z)
 have I0:=I
 have L0:=L
 obtain⟨hh,gg,ddr,tk,os⟩:=s
 refine HT.Cg (hC hh I0.kIn) (hG hh I0.kIn) he hc hin hb ?_
 show codeAny _ _ _ _ _
 refine codeAny_handlers_suite_as (JU I0 L0 λs1 I1 L1=>?_)
 refine pH I1 hN hi (.inl hk) (v:=.ref x) (u:=.ref x) rfl (λs2 I2=>?_) (.inr hk)
 refine Zj (hS (.ref x) pins s2 _ _ _ I2.suite h) (λf s3 z=>?_) λ_ _ z=>z.elim
 match f,z with
 | .next,⟨σ',H1,I3,q3⟩=>exact Ji (I3.unsuite I.ok) hN hi hk λs4 I4=>⟨_,H1,I4,q3⟩
 | .brk,⟨_,_,_,q3⟩=>exact q3.elim
 | .cont,⟨_,_,_,q3⟩=>exact q3.elim
 | .ret _,⟨_,_,_,_,_,q3⟩=>exact q3.elim
end
section
variable{X:Cx}{k:Nat}{f:tx}{fd:FuncData}{ps:List Str}{sp:Sp}{dvs:List V}{ds:List gV}{x:Str}{p cpos p1:Pos}{e:Nl}{es:List Nl}{t:TA}
def exAs(X:Cx)(G:tx)(i:Nat)(ts:TS)(D:pB)(σ:St):XK:=λCv od H1=>∃ C dx bm,Cv=.ref C/\od=U dx/\wn X.K C bm/\(Value.ref C::bm).contains (.ref G)=true /\
 ∀ a,H1 a=Y->ts { nx:=λσ' H2=>D.nx (σ'.set i Y) H2,rt:=λ_ _=>False } (σ.set i (U (.ref a))) (upd H1 a (.ext (nh a C dx)))
noncomputable def Mh{i:Nat}{n:Str}{b₀:Uo}{suite:List Uo}
  (F:FnOk X.prog X.w X.K X.mg X.base (oK X.prog X.w) k f fd ps sp) (hr:Room k X.A) (hgf:Gl X x) (hmf:X.mg x=U (.ref f)) (hkp:W.keepIn X.K (.ref f)=true) (hb:Binds X.K fd ps ds) (hdv:Vals dvs ds) (ha:PA X (e::es) t)
  (hxe:∀ v s',X.xe v s'->False) (hG:wn X.K G bmG) (hbG:bmG.contains (.type "BaseException")=true) (hg:Gl X g) (hm:X.mg g=U (.ref G)) (hN:X.N.Nodup) (hi:X.N[i]?=U n) (hk:X.env.scope.names.lookup n=U .local)
  (hS:∀ v,PSs (X.suite v λ_ _=>False) (b₀::suite) ts) (hs:X.stack=X.env::X.outer) (hfm:X.env.frame=U X.env.locals) (hex:X.ex=[])
  (hdb:(x==("__debug__":Str))=false) (hd:(g==("__debug__":Str))=false)
  (he:acZ (e::es) X.env=(false,eval e X.env)::acZ es X.env) (hpl:(backTo cpos (acZ es X.env)).any (·.1)=false) (hsw:swapsWith (.Call (.Name x p) (e::es) [] cpos) Y p1.line X.env=pure false) :
  PS X (.Try [.Expr (.Call (.Name x p) (e::es) [] cpos) p1] [.ExceptHandler (U (.Name g gp)) (U n) (b₀::suite) hp] [] [] pos) (λD σ H=>xB sp dvs (exAs X G i ts D σ) t σ H λ_ H1=>D.nx σ H1):=by
 intro pins s σ H D I h
 refine wpAny_Try_except (abL (wpAny_Expr_any (Zj (DM F hr hgf hmf hkp hb hdv ha hxe I h hdb he hpl) (λv s1 hq=>?_) λe' s' hq=>?_) I.quiet hsw))
 ·obtain⟨y,H1,I1,_,q1⟩:=hq
  exact aaF (aaF ⟨σ,H1,I1,q1⟩)
 ·obtain⟨H1,s1,I1,fl⟩:=hq
  refine FY hs hfm hex I1 fl λs'' a T C dx H' ea I2 na q L=>?_
  subst ea
  obtain⟨C',dx',bm,eC,ed,hC,hin,hts⟩:=q
  cases eC;cases ed
  exact JQ I2 L hC hG hin hbG hg hm hN hi hk hS (hts a na) hd
end
def LL(K:adf)(C:tx)(fl:Str):Sp:=λvs H Q _=>∃ x t v,vs=[.ref x,v]/\H x=U (.ext (xn x C t))/\wq K C fl/\∀ dx,H dx=Y->Q .non (upd (upd H x (.ext (xk x C t dx))) dx (.xd [(fl,v)]))
def Sk{K:adf}{k:Nat}(F:FnOk P w K mg base Eb k f fd ps (LL K C fl))(hb:Binds K fd ps [])(hl:ps.length=2)(c:wq K C fl) :
  GP P w K mg base k C f fl:=λA outer s H x t v u hr e0 rv hx=>by
 have KX:K.In s.heap:=e0.mod.kin.keeps λb o e=>(e0.bs b o e).1
 have b:=hb s [.ref x,u] KX (by rw[hl];rfl)
 exact F.run A outer s H ⟨[.ref x,u],[]⟩ ([.ref x,u]++[]) [.ref x,v] _ E0 hr e0 b (.cons rfl (.cons rv .nil)) ⟨x,t,v,rfl,hx,c,λdx hdx=>⟨rfl,dx,hdx,rfl⟩⟩
def Sl{K:adf}{k:Nat}{kV oc:gV}{od:Option tx}{osl:Array (Option gV)}
  (lk:K.lookup f=U ⟨oc,od,.func (W.fnOf name qual params [.Assign [.Attribute (.Name a p1) fl p2] (.Name b p3) pos] scope dV kV doc pm an cdv ct),osl⟩) (hcd:W.codeIn K cdv qual=true) (S:aN [a,b] [a,b] scope)
  (a1:(a==("__debug__":Str))=false) (a2:(a==("__classdict__":Str))=false) (b1:(b==("__debug__":Str))=false) (b2:(b==("__classdict__":Str))=false) :
  FnOk P w K mg base Eb (k+1) f (W.fnOf name qual params [.Assign [.Attribute (.Name a p1) fl p2] (.Name b p3) pos] scope dV kV doc pm an cdv ct) [a,b] (LL K C fl):=
 Oe lk hcd S (λvs H Q E ⟨x,t,v,e,_⟩=>by rw[e];rfl) λA outer s H vs Q E hr ⟨x,t,v,ev,hx,c,q⟩=>by
  subst ev
  have vis:∀ y∈[a,b],Ua scope y:=λy hy=>(S.par y hy).elim .inl λz=>.inr (.inl z)
  exact⟨_,sY (QY (pv 0 (hv:=vis a (by simp)) (hd:=a1) (hcd:=a2)) (pv 1 (hv:=vis b (by simp)) (hd:=b1) (hcd:=b2)) rfl),v,rfl,.ref x,rfl,x,C,t,rfl,hx,c,q⟩
end L2
namespace HT
open PySem PySem.Spec PySem.Calls PyProof.Rows PySem.W Builtin Builtin.ObjectAttr
structure nH(K:Frag)(C:tx):Prop where
 ga:findIn K (.ref C) "__getattribute__" = U (U (.builtin "BaseException.__getattribute__"))
 gt:findIn K (.ref C) "__getattr__" = U Y
 mb:mroIn K C (.type "BaseException")=U true
section
variable{prog:Of}{w:RG}{A:Wr}{E:gV->td->Prop}{s:td}{K:Frag}{x C:tx}{ox:Obj}{od:Option Obj}{name:Str}{expr fill:Bool}{Q:gV->td->Prop}{tk:Tok}
theorem KD{nameV:gV}{Q:Unit->td->Prop}(X:K.In s.heap)(I:InstAt s.heap x ox C od)(W:nH K C)(hq:Q () s):ade M A (checkBuiltinCall "BaseException.__getattribute__" ⟨[.ref x,nameV],[]⟩) Q E s:=by
 have hk:builtinKind "BaseException.__getattribute__" = U .slot:=by decide +kernel
 have hsplit:splitId "BaseException.__getattribute__" = U ("BaseException","__getattribute__"):=by decide +kernel
 have ha:=F.args_bexc_ga (.ref x) nameV
 have L0:=I.type (M:=M)
 have L1:=looks_mroIn (M:=M) X W.mb
 have L:Looks M s.heap (isInstance (.ref x) (.type "BaseException")) true:=L0.andThen L1
 simp only[checkBuiltinCall,hk,hsplit]
 refine Yy (L.at ?_)
 repeat (first | assumption | wp_step)
def OB(X:K.In s.heap)(I:InstAt s.heap x ox C od)(W:nH K C)
  (h:codeAny (model prog w) A (.call (.builtin "BaseException.__getattribute__") ⟨[.ref x,.str name tk],[]⟩) (λr s'=>∃ v,r=.ok (.ret v)/\ade (model prog w) A (handedOut v) Q E s') s) :
  ade (model prog w) A (getAttrBy (.ref x) (.str name tk) fill expr) Q E s:=by
 obtain⟨hh,g,d,t,os⟩:=s
 have L0:=I.type (M:=model prog w)
 have L1:=looks_findIn (M:=model prog w) X W.ga
 have L2:=looks_findIn (M:=model prog w) X W.gt
 have hx0:(expr&&onTheHeap (Value.builtin "BaseException.__getattribute__"))=false:=by cases expr<;>rfl
 have f3:=F.attr_ValueError.ga.bind (.ref x)
 unfold getAttrBy
 refine ZL (Yy (L0.at (Yy (L1.at ?_))))
 show ade _ _ (getAttrByItsOwn _ _ _ _ _ _) _ _ _
 unfold getAttrByItsOwn
 refine Yy ((show Looks (model prog w) hh (hookBefore (.ref C)) Y from L2).at ?_)
 unfold callGetattribute boundAndCalled
 rw[hx0,f3]
 refine Yy (abc (ZL ?_))
 refine Yy (YH (abq (aas h λr s' z=>?_)))
 obtain⟨v,rfl,z⟩:=z
 exact z
def Dt{R:Result->td->Prop}(X:K.In s.heap)(I:InstAt s.heap x ox C od)(W:nH K C)
  (h:ade (model prog w) A.in1 (Builtin.«object.__getattribute__» ⟨[.ref x,.str name tk],[]⟩) (λfin s'=>match fin with | .done f=>R (.ok f) s' | .again c'=>c'.quiet=true/\codeAny (model prog w) A c' R s') (λe s'=>R (.error e) s') s) :
  codeAny (model prog w) A (.call (.builtin "BaseException.__getattribute__") ⟨[.ref x,.str name tk],[]⟩) R s:=
 acA F.attr_ValueError.ga.plain F.entry_bexc_ga (KD X I W h)
def Kb(X:K.In s.heap)(I:InstAt s.heap x ox C od)(W:nH K C)(hf:findObj K C od name=U (.value v))(hh:handedIn v=true)(h:Q v { s with toks:=s.toks+1 }):ade (model prog w) A (getAttr (.ref x) name expr) Q E s:=by
 unfold getAttr
 refine Yy (wpAny_mkText (OB X I W (Dt X I W ?_)))
 obtain⟨hp,g,d,t,os⟩:=s
 have L0:=I.type (M:=model prog w)
 have L1:=looks_find (M:=model prog w) X I hf
 unfold Builtin.«object.__getattribute__»
 refine Yy (YH (Yy (YH (Yy (L0.at (Yy (L1.at ?_)))))))
 refine YH ⟨v,rfl,?_⟩
 rw[handedOut_of hh]
 exact YH h
def Kc{D:tx}{od:Obj}{Q:Option gV->td->Prop}(X:K.In s.heap)(I:InstAt s.heap x ox D (U od))(W:nH K D)(hdct:hasDictIn K D=true)(ha:findIn K (.ref D) "__class__" = U (U (.builtin "object.__class__")))
  (hn:specialIn K (.builtin "object.__class__") "__get__" = U (U (.builtin "getset_descriptor.__get__"))) (htk:takesIn K (.builtin "object.__class__")=U true) (hm:mroIn K D (.type "object")=U true)
  (h:Q (U (.ref D)) { s with toks:=s.toks+1 }):ade (model prog w) A (getAttr? (.ref x) "__class__") Q E s:=by
 have hf:findObj K D (U od) "__class__" = U (.bind (.builtin "getset_descriptor.__get__") (.builtin "object.__class__")):=findObj_data (by obtain⟨cd,hc,_⟩:=any_some hdct;rw[hc];rfl) ha hn htk
 unfold getAttr? getAttrBy?
 refine Yy (wpAny_mkText (Yy (abc (OB X I W (Dt X I W ?_)))))
 obtain⟨hp,g,d,t,os⟩:=s
 have L0:=I.type (M:=model prog w)
 have L1:=looks_find (M:=model prog w) X I hf
 unfold Builtin.«object.__getattribute__»
 refine Yy (YH (Yy (YH (Yy (L0.at (Yy (L1.at ?_)))))))
 show ade _ _ (holding [Value.builtin "object.__class__"] (call (.builtin "getset_descriptor.__get__") [.builtin "object.__class__",.ref x,.ref D]) >>= ret) _ _ _
 refine Yy (ZL (abq (class_get (s:=⟨hp,g,d,t+1,os⟩) (ox:=ox) (od:=U od) X I hm ?_)))
 exact YH ⟨_,rfl,YH (YH h)⟩
def CM{D:tx}{ox od:Obj}(W:nH K D)(hdct:hasDictIn K D=true)(ha:findIn K (.ref D) "__class__" = U (U (.builtin "object.__class__")))
  (hn:specialIn K (.builtin "object.__class__") "__get__" = U (U (.builtin "getset_descriptor.__get__"))) (htk:takesIn K (.builtin "object.__class__")=U true) (hm:mroIn K D (.type "object")=U true) :
  KitX K (.ref x) (.ref D) (λh=>InstAt h x ox D (U od)) where
 ty:=λ_ _ _ I=>I.type
 it:=λ_ _ X _=>by
  obtain⟨cdD,hcD,_⟩:=any_some hdct
  unfold clsIn at hcD
  split at hcD
  ·rename_i ho
   intro A' Q' E' s' k q
   unfold isType loadHead
   exact Yy (wpAny_loadPart (k _ _ (X _ _ ho)) (YH q))
  ·cases hcD
 ne:=λh tp dd its n sl X htp=>by
  obtain⟨cdD,hcD,_⟩:=any_some hdct
  refine Bool.eq_false_iff.mpr λq=>?_
  have e:D=tp:=Value.ref.inj (beq_iff_eq.mp q)
  subst e
  unfold clsIn at hcD
  split at hcD
  ·rename_i ho
   have z:=(X _ _ ho).symm.trans htp
   cases z
  ·cases hcD
 ca:=λX I k=>Kc X I W hdct ha hn htk hm k
end
end HT
namespace L2
structure wp(K:adf)(C:tx)(f:Str):Prop where
 wy:HT.nH K C
 hd:W.hasDictIn K C=true
 no:W.findIn K (.ref C) f=U Y
def tFldX(K:adf)(ta:TE)(f:Str):TE:=λσ H Q=>ta σ H λx H1=>∃ a C dx fs v,x=.ref a/\H1 a=U (.ext (nh a C dx))/\H1 dx=U (.xd fs)/\wp K C f/\fs.lookup f=U v/\Q v H1
section
variable{X:Cx}{e:Nl}{f:Str}{pos:Pos}{ta:TE}
def Rj(he:PE X e ta)(hb:attributeBase e f X.env (eval e X.env)=eval e X.env):PE X (.Attribute e f pos) (tFldX X.K ta f):=by
 intro pins s σ H Q I h
 refine TN hb (cZ (he pins s σ H _ I h) λu s1 ⟨x,H1,I1,rx,a,C,dx,fs,v,ex,ea,ed,c,l,q⟩=>?_)
 subst ex
 obtain rfl:u=Value.ref a:=rx
 obtain⟨oe,ws,h1,h2,h3,h4⟩:nh a C dx s1.heap:=(show ObjOk X.prog X.w _ s1.heap a (.ext (nh a C dx)) from I1.hok a _ ea).1
 obtain⟨mA,hn,r⟩:=(show ObjOk X.prog X.w _ s1.heap dx (.xd fs) from I1.hok dx _ ed)
 obtain⟨u',hu,ru⟩:=RelO.some_of (v:=v) (o:=mA f) (by rw[<- l];exact r f)
 obtain⟨od,ho,hl⟩:=yc hn
 have J:W.InstAt s1.heap a oe C (U od):=⟨h1,h2,by obtain⟨_,_,d,_⟩:=oe;cases h4;rfl,by rw[h3];exact ho⟩
 exact HT.Kb I1.kIn J c.wy (W.findObj_own c.hd c.no rfl (by rw[hl,hu])) (JR ru) ⟨v,H1,I1.tok _,ru,q⟩
end
end L2
namespace M
open L2
inductive Ud where
 | ok (o:pA)
 | xc (i:Option Int) (S:ac)
abbrev MY:=bh->ac->Option Ud
inductive RY where
 | val (d:D) (S:ac)
 | xc (i:Option Int) (S:ac)
def PostX(K:adf)(C:tx)(fl:Str)(μ:Fp)(H:Hp)(S':ac)(i:Option Int)(E:XK):Prop:=∀ dx H' μ',Ext μ H μ' H'->SOk K μ' S' H'->H' dx=Y->E (.ref C) (U dx) (upd H' dx (.xd [(fl,vI i)]))
def PostY(K:adf)(C:tx)(fl:Str)(E:XK)(μ:Fp)(H:Hp)(o:Ud)(D:pB):Prop:=match o with
 | .ok o=>PostS K μ H o D
 | .xc i S'=>PostX K C fl μ H S' i E
inductive tY(K:adf)(C:tx)(fl:Str)(E:XK)(m:MY)(D:pB)(σ:L2.St)(H:Hp):Prop
 | mk (μ:Fp) (S:ac) (env:bh) (o:Ud) (hS:SOk K μ S H) (hE:EOk K μ H σ env) (h:m env S=U o) (post:PostY K C fl E μ H o D)
def DY(X:Cx)(C:tx)(fl:Str)(E:XK)(st:Uo)(m:MY):Prop:=PS X st (tY X.K C fl E m)
def Uf(X:Cx)(C:tx)(fl:Str)(E:XK)(st:List Uo)(m:MY):Prop:=PSs X st (tY X.K C fl E m)
structure XOk(X:Cx)(E:XK):Prop where
 hs:X.stack=X.env::X.outer
 hfm:X.env.frame=U X.env.locals
 hex:X.ex=[]
 hxe:∀ e' s',ade (model X.prog X.w) X.A (leaving X.env e') (λ_ s''=>oK X.prog X.w X.outer X.H₀ X.s₀ E e' s'') (λ_ _=>False) s'->X.xe e' s'
section
variable{X:Cx}{K:adf}{μ μ':Fp}{H H':Hp}{S S':ac}{C:tx}{fl:Str}{E:XK}{Z:pB}{st:Uo}{pos:Pos}
def PostX.ext(e:Ext μ H μ' H')(p:PostX K C fl μ H S' i E):PostX K C fl μ' H' S' i E:=λdx H2 μ2 e2 s n=>p dx H2 μ2 (e.trans e2) s n
theorem PostY.ext(e:Ext μ H μ' H')(p:PostY K C fl E μ H o Z):PostY K C fl E μ' H' o Z:=by
 cases o with
 | ok o=>exact PostS.ext e p
 | xc i S=>exact PostX.ext e p
noncomputable def RO(m:MS):MY:=λenv S=>(m env S).bind λo=>U (.ok o)
def OY(h:DS X st m):DY X C fl E st (RO m):=PS.imp h λD σ H ⟨μ,S,env,o,hS,hE,hm,post⟩=>by
 obtain⟨o1,h1,hm⟩:=Yx.mp hm
 cases hm
 exact⟨μ,S,env,o1,hS,hE,h1,post⟩
def SQ:Uf X C fl E [] (RO bn):=PSs.imp Ih λD σ H ⟨μ,S,env,o,hS,hE,hm,post⟩=>by
 obtain⟨o1,h1,hm⟩:=Yx.mp hm
 cases hm
 exact⟨μ,S,env,o1,hS,hE,h1,post⟩
noncomputable def Cr(a b:MY):MY:=λenv S=>(a env S).bind λo=>match o with | .ok (.nx env' S')=>b env' S' | o=>U o
def OX(h1:DY X C fl E st a)(h2:Uf X C fl E rest b):Uf X C fl E (st::rest) (Cr a b):=PSs.imp (ud h1 h2) λD σ H ⟨μ,S,env,o,hS,hE,hm,post⟩=>by
 obtain⟨o1,h1,hm⟩:=Yx.mp hm
 refine⟨μ,S,env,o1,hS,hE,h1,?_⟩
 match o1,hm with
 | .ok (.nx env' S'),hm=>exact λσ' H' μ' e s r=>⟨μ',S',env',o,s,r,hm,post.ext e⟩
 | .ok (.rt d S'),hm=>cases hm;exact post
 | .ok (.bk d S'),hm=>cases hm;exact post
 | .ok (.ct d S'),hm=>cases hm;exact post
 | .xc i S',hm=>cases hm;exact post
def SO(h1:DY X C fl E st a):Uf X C fl E [st] a:=sY h1
noncomputable def MZ(t:MT)(a b:MY):MY:=λenv S=>(t env S).bind λp=>if p.1=true then a env p.2 else b env p.2
def dy_if{mt:MT}(hc:DT X c mt)(ha:Uf X C fl E a ma)(hb:Uf X C fl E b mb):DY X C fl E (.If c a b pos) (MZ mt ma mb):=PS.imp (Ur hc ha hb) λD σ H ⟨μ,S,env,o,hS,hE,hm,post⟩=>by
 obtain⟨⟨k,S1⟩,h1,hm⟩:=Yx.mp hm
 refine⟨μ,S,env,k,S1,hS,hE,h1,λH1 μ1 e1 s1=>?_⟩
 cases k with
 | true=>rw[YR rfl] at hm ⊢;exact⟨μ1,S1,env,o,s1,hE.mono e1,hm,post.ext e1⟩
 | false=>rw[if_neg adh] at hm ⊢;exact⟨μ1,S1,env,o,s1,hE.mono e1,hm,post.ext e1⟩
noncomputable def ydI:D->Option (Option Int)
 | .non=>U Y
 | .int i=>U (U i)
 | _=>Y
noncomputable def ydD:Option Int->D
 | none=>.non
 | some i=>.int i
def Qo{d:D}{i:Option Int}(r:Rep K μ H v d)(h:ydI d=U i):v=vI i:=by
 cases d<;>first | (cases h;cases r;rfl) | cases h
def Qp:Rep K μ H (vI i) (ydD i):=by
 cases i with
 | none=>exact .non
 | some i=>exact .int i
noncomputable def pX(m:ME):MY:=λenv S=>(m env S).bind λp=>(ydI p.1).bind λi=>U (.xc i p.2)
def DV(P:Of)(w:RG)(K:adf)(mg:Str->Option gV)(base:Ws)(x:Str)(C:tx)(fl:Str):Prop:=∃ f,Ea K C f/\GP P w K mg base 1 C f fl/\mg x=U (.ref C)
def OZ(R:DV X.prog X.w X.K X.mg X.base x C fl)(hr:Room 2 X.A)(hg:Gl X x)(he:DE X e m)(hcalm:X.calm=true)(O:XOk X E)
  (hd:(x==("__debug__":Str))=false) (hst:acZ [e] X.env=(false,eval e X.env)::acZ [] X.env):DY X C fl E (.Raise (U (.Call (.Name x np) [e] [] cpos)) Y pos) (pX m):=by
 obtain⟨f,R,N,hm⟩:=R
 refine PS.imp (Mk (E:=E) R N (λus=>hr.make C us []) hg hm he hcalm O.hs O.hfm O.hex O.hxe hd hst) λD σ H ⟨μ,S,env,o,hS,hE,hm,post⟩=>?_
 obtain⟨⟨d,S1⟩,h1,hm⟩:=Yx.mp hm
 obtain⟨i,h2,hm⟩:=Yx.mp hm
 cases hm
 refine⟨μ,S,env,d,S1,hS,hE,h1,λv H1 μ1 e1 s1 r1 dx n=>?_⟩
 rw[Qo r1 h2]
 exact post dx H1 μ1 e1 s1 n
end
noncomputable def spY(K:adf)(C:tx)(fl:Str)(n:Nat)(fy:List D->ac->Option RY):Sp:=λvs H Q E=>∃ μ S ds r,SOk K μ S H/\Reps K μ H vs ds/\ds.length=n/\fy ds S=U r/\match r with | .val d S'=>Post K μ H S' d Q | .xc i S'=>PostX K C fl μ H S' i E
structure FnY(P:Of)(w:RG)(K:adf)(mg:Str->Option gV)(base:Ws)(k:Nat)(x:Str)(n:Nat)(fy:List D->ac->Option RY)(C:tx)(fl:Str):Prop where
 ex:∃ (a:tx) (fd:FuncData) (ps:List Str),ps.length=n/\FnOk P w K mg base (oK P w) k a fd ps (spY K C fl n fy)/\mg x=U (.ref a)/\W.keepIn K (.ref a)=true/\Binds K fd ps []
def FnY.up{K:adf}{k k':Nat}(F:FnY P w K mg base k x n fy C fl)(h:k<=k':=by decide):FnY P w K mg base k' x n fy C fl:=by
 obtain⟨a,fd,ps,h1,h2,h3⟩:=F.ex
 exact⟨a,fd,ps,h1,h2.mono h,h3⟩
noncomputable def zk(N:List Str)(m:MY)(n:Nat):List D->ac->Option RY:=λds S=>if ds.length=n then(m (az N ds) S).bind λo=>match o with | .ok (.rt d S')=>U (.val d S') | .ok (.nx _ S')=>U (.val .non S') | .xc i S'=>U (.xc i S') | _=>Y else Y
def xok{K:adf}{s:td}:XOk (sT (oK P w) P w K mg base N q sc a cdv A outer s H E) E:=
 ⟨rfl,rfl,rfl,λe s' h=>Zj h (λ_ _ z=>z) λ_ _ z=>z.elim⟩
def Xh{K:adf}{k:Nat}{st:Uo}
  (F:bG K mg x st) (Sc:aN N ps (ar st)) (hb:pC x st ps)
  (hbody:∀ (a:tx) (cdv:gV) (A:Wr) (outer:List PySem.Env) (s:td) (H:Hp) (E:XK),Room k (A.deeper (envOfC x (ar st) s.heap.objs.size a cdv)) ->
   Uf (sT (oK P w) P w K mg base N x (ar st) a cdv A outer s H E) C fl E (aD st) m) :
  FnY P w K mg base (k+1) x ps.length (zk N m ps.length) C fl:=by
 obtain⟨a,fd,F,hmg⟩:=F.ex
 have hbd:=F.binds hb
 refine⟨a,fd,ps,rfl,?_,hmg,F.kp,hbd⟩
 obtain⟨oc,od,kV,doc,pm,an,cdv,ct,osl,rfl,lk,hcd⟩:=F.ex
 refine Oe lk hcd Sc (λvs H Q E ⟨μ,S,ds,r,hS,hr,hn,_⟩=>by rw[hr.length,hn]) λA outer s H vs Q E hr ⟨μ,S,ds,r,hS,hrp,hn,hf,post⟩=>⟨_,hbody a cdv A outer s H E hr,?_⟩
 have hEnv:EOk K μ H (L2.start N vs) (az N ds):=by unfold L2.start az;rw[hrp.length];exact EOk.start hrp
 unfold zk at hf
 rw[YR hn] at hf
 obtain⟨o,h1,hf⟩:=Yx.mp hf
 match o,hf with
 | .ok (.rt d S'),hf=>cases hf;exact⟨μ,S,_,_,hS,hEnv,h1,post⟩
 | .ok (.nx e S'),hf=>cases hf;exact⟨μ,S,_,_,hS,hEnv,h1,λσ' H' μ' e s' _=>post .non H' μ' e s' .non⟩
 | .xc i S',hf=>cases hf;exact⟨μ,S,_,_,hS,hEnv,h1,post⟩
def DZ(K:adf)(mg:Str->Option gV)(g:Str)(C:tx):Prop:=∃ G bm bmG,mg g=U (.ref G)/\wn K C bm/\wn K G bmG/\(Value.ref C::bm).contains (.ref G)=true/\bmG.contains (.type "BaseException")=true
noncomputable def Hq(n:Nat)(fy:List D->ac->Option RY)(C:tx)(fl:Str)(ms:MA)(i j:Nat):MS:=λenv S=>(ms env S).bind λp=>if p.1.length=n then(fy p.1 p.2).bind λr=>match r with
 | .val _ S'=>U (.nx env S')
 | .xc q S'=>U (.nx (((env.set i (U (.exc C fl q))).set j (U (.exc C fl q))).set i Y) S') else Y
section
variable{X:Cx}{K:adf}{μ μ':Fp}{H H':Hp}{S S':ac}{C:tx}{fl:Str}
theorem EOk.unset:∀ {σ:L2.St} {env:bh} (i:Nat),EOk K μ H σ env->EOk K μ H (σ.set i Y) (env.set i Y)
 | _,_,_,.nil=>.nil
 | _,_,0,.no t=>.no t
 | _,_,0,.yes _ t=>.no t
 | _,_,i+1,.no t=>.no (EOk.unset i t)
 | _,_,i+1,.yes h t=>.yes h (EOk.unset i t)
def SV{k:Nat}{e:Nl}{es:List Nl}{i j:Nat}{nm y:Str}{pa:Pos}(F:FnY X.prog X.w X.K X.mg X.base k f n fy C fl)(hr:Room k X.A)(hgf:Gl X f)(ha:DA X (e::es) ms)
  (hxe:∀ v s',X.xe v s'->False) (hG:DZ X.K X.mg g C) (hg:Gl X g) (hN:X.N.Nodup) (hi:X.N[i]?=U nm) (hk:X.env.scope.names.lookup nm=U .local) (hj:X.N[j]?=U y) (hy:X.env.scope.names.lookup y=U .local)
  (hs:X.stack=X.env::X.outer) (hfm:X.env.frame=U X.env.locals) (hex:X.ex=[])
  (hdb:(f==("__debug__":Str))=false) (hd:(g==("__debug__":Str))=false) (nd:(nm==("__debug__":Str))=false) (nc:(nm==("__classdict__":Str))=false)
  (he:acZ (e::es) X.env=(false,eval e X.env)::acZ es X.env) (hpl:(backTo cpos (acZ es X.env)).any (·.1)=false) :
  DS X (.Try [.Expr (.Call (.Name f p) (e::es) [] cpos) p1] [.ExceptHandler (U (.Name g gp)) (U nm) [.Assign [.Name y py] (.Name nm pn) pa] hp] [] [] pos) (Hq n fy C fl ms i j):=by
 obtain⟨a,fd,ps,hn,F,hm,hkp,hb⟩:=F.ex
 obtain⟨G,bm,bmG,hmg,hC,hGG,hin,hbG⟩:=hG
 intro pins s σ H D I h
 refine Mh F hr hgf hm hkp hb .nil ha hxe hGG hbG hg hmg hN hi hk (λv=>show PSs (X.suite v λ_ _=>False) _ (Vm X.K (aX (af i) (ah j))) from M.Ig (M.Az (X:=X.suite v λ_ _=>False) (i:=j) (pos:=pa) hN hj (.inl hy) (M.Pw (i:=i) hi (.inl hk) nd nc) rfl (.inr hy))) hs hfm hex hdb hd he hpl rfl pins s σ H D I ?_
 have hl:σ.length=X.N.length:=I.len
 have hil:i<X.N.length:=(Yz.mp hi).1
 obtain⟨μ,S,env,o,hS,hE,hm,post⟩:=h
 have hel:i<env.length:=by rw[<- hE.length,hl];exact hil
 obtain⟨⟨xs,S1⟩,h1,hm⟩:=Yx.mp hm
 dsimp only at hm
 split at hm
 ·rename_i hx
  obtain⟨r,h2,hm⟩:=Yx.mp hm
  refine⟨μ,S,env,xs,S1,hS,hE,h1,λvs H1 μ1 e1 s1 r1=>?_⟩
  rw[Zn]
  refine⟨μ1,S1,xs,r,s1,r1,hx,h2,?_⟩
  cases r with
  | val d S2=>cases hm;exact λv H2 μ2 e2 s2 r2=>post σ H2 μ2 (e1.trans e2) s2 (hE.mono (e1.trans e2))
  | xc q S2=>
   cases hm
   refine λdx H2 μ2 e2 s2 nx=>⟨C,dx,bm,rfl,rfl,hC,hin,λb nb=>?_⟩
   obtain⟨e3,s3⟩:=s2.laid (o:=.xd [(fl,vI q)]) nx
   obtain⟨e4,s4⟩:=s3.laid (o:=.ext (nh b C dx)) nb
   have eT:=((e1.trans e2).trans e3).trans e4
   have hdb:dx≠b:=λz=>by rw[<- z,bf] at nb;cases nb
   have rp:Rep X.K μ2 (upd (upd H2 dx (.xd [(fl,vI q)])) b (.ext (nh b C dx))) (.ref b) (.exc C fl q):=.exc bf (s3.notMem nb) (by rw[aR hdb,bf]) (s2.notMem nx)
   have hE4:=(hE.mono eT).set rp i
   refine⟨μ2,S2,_,.nx ((env.set i (U (.exc C fl q))).set j (U (.exc C fl q))) S2,s4,hE4,?_,λσ' H' μ' e s r=>?_⟩
   ·show((af i) _ _).bind _=_
    unfold af
    rw[Zg hel]
    rfl
   ·exact post _ H' μ' (eT.trans e) s (r.unset i)
 ·cases hm
structure KY(K:adf)(C:tx):Prop where
 wy:HT.nH K C
 hd:W.hasDictIn K C=true
 a:W.findIn K (.ref C) "__class__" = U (U (.builtin "object.__class__"))
 n:W.specialIn K (.builtin "object.__class__") "__get__" = U (U (.builtin "getset_descriptor.__get__"))
 t:W.takesIn K (.builtin "object.__class__")=U true
 m:W.mroIn K C (.type "object")=U true
def ClsOk(K:adf)(mg:Str->Option gV)(x:Str)(C:tx)(b:Bool):Prop:=∃ v c,(mg x=U c\/(mg x=Y/\bootBuiltins x=U c/\x≠"__name__"))/\RelV v c/\(∀ u,RelV v u->u=c)/\W.kitOne K (.ref C) c=U b/\KY K C
def ClsOk.pe(c:ClsOk X.K X.mg x C b)(hg:Gl X x)(hd:(x==("__debug__":Str))=false):∃ v c,PE X (.Name x p) (tC v)/\(∀ u,RelV v u->u=c)/\W.kitOne X.K (.ref C) c=U b/\KY X.K C:=by
 obtain⟨v,c,h,r,u,k,o⟩:=c
 refine⟨v,c,?_,u,k,o⟩
 rcases h with h | ⟨h1,h2,h3⟩
 ·exact tf hg h r hd
 ·exact GY hg h1 h2 r h3 hd
def HK{s:td}{fs:List (Str×V)}(I:Inv X pins σ H s)(h:H a=U (.ext (nh a C dx)))(h2:H dx=U (.xd fs)):∃ oe od,W.InstAt s.heap a oe C (U od):=by
 obtain⟨oe,ws,q1,q2,q3,q4⟩:nh a C dx s.heap:=(show ObjOk X.prog X.w _ s.heap a (.ext (nh a C dx)) from I.hok a _ h).1
 obtain⟨mA,hn,r⟩:=(show ObjOk X.prog X.w _ s.heap dx (.xd fs) from I.hok dx _ h2)
 obtain⟨od,ho,hl⟩:=yc hn
 exact⟨oe,od,q1,q2,by obtain⟨_,_,d,_⟩:=oe;cases q4;rfl,by rw[q3];exact ho⟩
noncomputable def zZ(C:tx)(b:Bool)(m:ME):ME:=λenv S=>(m env S).bind λp=>match p.1 with | .exc C' _ _=>if C'=C then U (.bl b,p.2) else Y | _=>Y
def ya{S S':ac}{d:D}(h:zZ C b m env S=U (d,S')):∃ fl i,m env S=U (.exc C fl i,S')/\d=.bl b:=by
 obtain⟨⟨x,S1⟩,h1,hm⟩:=Yx.mp h
 cases x<;>first | (cases hm;done) | skip
 dsimp only at hm
 split at hm
 ·rename_i e;cases hm;subst e;exact⟨_,_,h1,rfl⟩
 ·cases hm
def XS{p:Pos}(hm:X.mg "isinstance" = Y)(c:ClsOk X.K X.mg x C b)(hg:Gl X "isinstance")(hgx:Gl X x)(hd:(x==("__debug__":Str))=false)(ha:DE X a ma)
  (hs1:acZ [a,.Name x p2] X.env=(false,eval a X.env)::acZ [.Name x p2] X.env):DE X (.Call (.Name "isinstance" p) [a,.Name x p2] [] pos) (zZ C b ma):=by
 obtain⟨v,c,pe,hv,k,o⟩:=c.pe (p:=p2) hgx hd
 have hc:CallR X (.builtin "isinstance") (λvs H Q=>∃ a dx fs,vs=[.ref a,v]/\H a=U (.ext (nh a C dx))/\H dx=U (.xd fs)/\Q (.bl b) H):=by
  intro pins s σ H xs us Q I rv h
  obtain⟨a,dx,fs,rfl,h1,h2,q⟩:=h
  obtain⟨u,w',rfl,r1,r2⟩:=Bc rv
  cases r1
  cases hv _ r2
  obtain⟨oe,od,J⟩:=HK I h1 h2
  exact aad (HT.CM o.wy o.hd o.a o.n o.t o.m) I.kIn J k (λz=>nomatch z) λtk=>⟨.bl _,H,I.tok _,rfl,q⟩
 refine PE.imp (pO hc hg hm abU (ko ha (ko pe uh rfl) hs1) (by decide) (by decide) hs1 rfl) λσ H Q ⟨μ,S,env,d,S',hS,hE,hm,post⟩=>?_
 obtain⟨fl,i,h1,rfl⟩:=ya hm
 refine⟨μ,S,env,_,S',hS,hE,h1,λv H1 μ1 e1 s1 r1=>?_⟩
 cases r1 with
 | exc q1 n1 q2 n2=>exact⟨_,_,_,rfl,q1,q2,post _ H1 μ1 e1 s1 (.bl _)⟩
inductive ClsL(X:Cx)(C:tx):List Nl->List Bool->Prop
 | nil:ClsL X C [] []
 | cons {x:Str} {p:Pos} {b:Bool} {es:List Nl} {bs:List Bool} (c:ClsOk X.K X.mg x C b) (hg:Gl X x) (hd:(x==("__debug__":Str))=false) (t:ClsL X C es bs):ClsL X C (.Name x p::es) (b::bs)
def tCs(vs:List V):TA:=λ_ H Q=>Q vs H
theorem ClsL.pa:∀ {es:List Nl} {bs:List Bool},ClsL X C es bs->∃ vs cs,PA X es (tCs vs)/\(∀ us,Vals vs us->us=cs)/\W.kitAny X.K (.ref C) cs=U (bs.any id)/\vs.length=es.length
 | _,_,.nil=>⟨[],[],uh,λus r=>by cases r;rfl,rfl,rfl⟩
 | _,_,.cons c hg hd t=>by
  obtain⟨v,c,pe,hv,k,o⟩:=c.pe hg hd
  obtain⟨vs,cs,pa,hvs,ks,hl⟩:=ClsL.pa t
  refine⟨v::vs,c::cs,ko pe pa rfl,λus r=>?_,?_,by simp[hl]⟩
  ·cases r with
   | cons a r=>rw[hv _ a,hvs _ r]
  ·unfold W.kitAny
   rw[k]
   rename_i b _ _ _
   cases b with
   | true=>rfl
   | false=>exact ks
def ClsL.own:∀ {es:List Nl} {bs:List Bool},ClsL X C es bs->es≠[]->KY X.K C
 | _,_,.nil,h=>absurd rfl h
 | _,_,.cons c _ _ _,_=>by obtain⟨_,_,_,_,_,_,o⟩:=c;exact o
def Tk{bs:List Bool}{p:Pos}(hm:X.mg "isinstance" = Y)(c:ClsL X C es bs)(hne:es≠[])(hl:es.length<=20)(hg:Gl X "isinstance")(ha:DE X a ma)
  (hs1:acZ [a,.Tuple es j p2] X.env=(false,eval a X.env)::acZ [.Tuple es j p2] X.env):DE X (.Call (.Name "isinstance" p) [a,.Tuple es j p2] [] pos) (zZ C (bs.any id) ma):=by
 obtain⟨vs,cs,pa,hv,k,hvl⟩:=c.pa
 have o:=c.own hne
 have hc:CallR X (.builtin "isinstance") (λws H Q=>∃ a dx fs t,ws=[.ref a,.ref t]/\H t=U (.tup vs)/\H a=U (.ext (nh a C dx))/\H dx=U (.xd fs)/\Q (.bl (bs.any id)) H):=by
  intro pins s σ H xs us Q I rv h
  obtain⟨a,dx,fs,t,rfl,ht,h1,h2,q⟩:=h
  obtain⟨u,w',rfl,r1,r2⟩:=Bc rv
  cases r1
  cases r2
  obtain⟨oe,od,J⟩:=HK I h1 h2
  obtain⟨its,rv,⟨ot,q1,q2,n,q3⟩,_⟩:=I.tuple (.inl (.inl ht))
  cases hv _ rv
  obtain⟨_,dd,_,sl⟩:=ot
  cases q2
  cases q3
  exact W.kia_tup (HT.CM o.wy o.hd o.a o.n o.t o.m) I.kIn J q1 k (λz=>nomatch z) λtk=>⟨.bl _,H,I.tok _,rfl,q⟩
 refine PE.imp (pO hc hg hm abU (ko ha (ko (Mq pa) uh rfl) hs1) (by decide) (by decide) hs1 rfl) λσ H Q ⟨μ,S,env,d,S',hS,hE,hm,post⟩=>?_
 obtain⟨fl,i,h1,rfl⟩:=ya hm
 refine⟨μ,S,env,_,S',hS,hE,h1,λv H1 μ1 e1 s1 r1=>⟨?_,λt nt=>?_⟩⟩
 ·exact YW (by rw[hvl];exact hl) (by decide)
 ·obtain⟨e2,s2⟩:=s1.laid (o:=.tup vs) nt
  have r2:=r1.mono e2
  cases r2 with
  | exc q1 n1 q2 n2=>exact⟨_,_,_,t,rfl,bf,q1,q2,post _ _ μ1 (e1.trans e2) s2 (.bl _)⟩
noncomputable def uU(C:tx)(fl:Str)(m:ME):ME:=λenv S=>(m env S).bind λp=>match p.1 with | .exc C' fl' i=>if C'=C/\fl'=fl then U (ydD i,p.2) else Y | _=>Y
def To(c:wp X.K C fl)(he:DE X e m)(hb:attributeBase e fl X.env (eval e X.env)=eval e X.env):DE X (.Attribute e fl pos) (uU C fl m):=
 PE.imp (Rj he hb) λσ H Q ⟨μ,S,env,d,S',hS,hE,hm,post⟩=>by
  obtain⟨⟨x,S1⟩,h1,hm⟩:=Yx.mp hm
  cases x<;>first | (cases hm;done) | skip
  dsimp only at hm
  split at hm
  ·rename_i e;cases hm;obtain⟨rfl,rfl⟩:=e
   refine⟨μ,S,env,_,_,hS,hE,h1,λv H1 μ1 e1 s1 r1=>?_⟩
   cases r1 with
   | exc q1 n1 q2 n2=>exact⟨_,_,_,_,_,rfl,q1,q2,c,by simp,post _ H1 μ1 e1 s1 Qp⟩
  ·cases hm
end
end M
namespace MI
open L2 M
@[irreducible] def mC(d:D):ME:=M.mC d
def uW{d:D}:mC d=M.mC d:=by unfold mC;rfl
@[irreducible] def af(i:Nat):ME:=M.af i
def Hn:af i=M.af i:=by unfold af;rfl
@[irreducible] def ay(f:ac->D->D->Option D)(a b:ME):ME:=M.ay f a b
def kP:ay f a b=M.ay f a b:=by unfold ay;rfl
@[irreducible] def aB(m:ME):MT:=M.aB m
def uP:aB m=M.aB m:=by unfold aB;rfl
@[irreducible] def dg(f g:ac->D->D->Option D)(a b c:ME):ME:=M.dg f g a b c
def qT:dg f g a b c=M.dg f g a b c:=by unfold dg;rfl
@[irreducible] def da(m:ME):MT:=M.da m
def zT:da m=M.da m:=by unfold da;rfl
@[irreducible] def du(a b:MT):MT:=M.du a b
def uX:du a b=M.du a b:=by unfold du;rfl
@[irreducible] def gH(a b:MT):MT:=M.gH a b
def zU:gH a b=M.gH a b:=by unfold gH;rfl
@[irreducible] def dm(a:MT):MT:=M.dm a
def Cw:dm a=M.dm a:=by unfold dm;rfl
@[irreducible] def ft(a b:ME):ME:=M.No a b
def HB:ft a b=M.No a b:=by unfold ft;rfl
@[irreducible] def zV(a b:ME):ME:=M.Wq a b
def Nc:zV a b=M.Wq a b:=by unfold zV;rfl
@[irreducible] def iK(a:ME):ME:=M.Nf a
def Cu:iK a=M.Nf a:=by unfold iK;rfl
@[irreducible] def oV(t:MT)(a b:ME):ME:=M.oV t a b
def Ni:oV t a b=M.oV t a b:=by unfold oV;rfl
@[irreducible] def ai:MA:=M.ai 
def zW  : ai  = M.ai  := by unfold ai;rfl
@[irreducible] def aa(a:ME)(r:MA):MA:=M.aa a r
def CG:aa a r=M.aa a r:=by unfold aa;rfl
@[irreducible] def be(ms:MA):ME:=M.be ms
def Ho:be ms=M.be ms:=by unfold be;rfl
@[irreducible] def dG(ms:MA):ME:=M.dG ms
def Hu:dG ms=M.dG ms:=by unfold dG;rfl
@[irreducible] def gR(ms:MA):ME:=M.gR ms
def Cz:gR ms=M.gR ms:=by unfold gR;rfl
@[irreducible] def Ed(f:ac->D->Option D)(a:ME):ME:=M.Ed f a
def Nb:Ed f a=M.Ed f a:=by unfold Ed;rfl
@[irreducible] def bJ:MO:=M.bJ 
def xX  : bJ  = M.bJ  := by unfold bJ;rfl
@[irreducible] def cx(m:ME):MO:=M.cx m
def Ct:cx m=M.cx m:=by unfold cx;rfl
@[irreducible] def bI(a:ME)(lo hi:MO):ME:=M.bI a lo hi
def xW{lo:MO}:bI a lo hi=M.bI a lo hi:=by unfold bI;rfl
@[irreducible] def bw(f:List D->ac->Option (D×ac))(ms:MA):ME:=M.bw f ms
def gU:bw f ms=M.bw f ms:=by unfold bw;rfl
@[irreducible] def eG(T:String)(m:ME):ME:=M.eG T m
def Hv:eG T m=M.eG T m:=by unfold eG;rfl
@[irreducible] def aw(n:Nat)(f:List D->ac->Option (D×ac))(ms:MA):ME:=M.aw n f ms
def qU:aw n f ms=M.aw n f ms:=by unfold aw;rfl
@[irreducible] def bn:MS:=M.bn 
def mJ  : bn  = M.bn  := by unfold bn;rfl
@[irreducible] def aF(a b:MS):MS:=M.aF a b
def Hr:aF a b=M.aF a b:=by unfold aF;rfl
@[irreducible] def bq(m:ME):MS:=M.bq m
def Hs:bq m=M.bq m:=by unfold bq;rfl
@[irreducible] def fo(m:ME):MS:=M.fo m
def CC:fo m=M.fo m:=by unfold fo;rfl
@[irreducible] def bY(t:MT)(a b:MS):MS:=M.bY t a b
def Hw:bY t a b=M.bY t a b:=by unfold bY;rfl
@[irreducible] def ah(i:Nat):MG:=M.ah i
def qu:ah i=M.ah i:=by unfold ah;rfl
@[irreducible] def aW:wm:=M.aW 
def Dh  : aW  = M.aW  := by unfold aW;rfl
@[irreducible] def ag(g:MG)(gs:wm):wm:=M.ag g gs
def yr:ag g gs=M.ag g gs:=by unfold ag;rfl
@[irreducible] def bi(n:Nat)(gs:wm):MG:=M.bi n gs
def mV:bi n gs=M.bi n gs:=by unfold bi;rfl
@[irreducible] def gX(o i:ME):MG:=M.gX o i
def Dg:gX o i=M.gX o i:=by unfold gX;rfl
@[irreducible] def aX(m:ME)(g:MG):MS:=M.aX m g
def jn:aX m g=M.aX m g:=by unfold aX;rfl
@[irreducible] def bV(ms:MA):MA:=M.bV ms
def uS:bV ms=M.bV ms:=by unfold bV;rfl
@[irreducible] def eg(ms:MA):MA:=M.eg ms
def uR:eg ms=M.eg ms:=by unfold eg;rfl
@[irreducible] def lg(mi:MA)(g:MG)(body:MS):MS:=M.lg mi g body
def Hx:lg mi g body=M.lg mi g body:=by unfold lg;rfl
@[irreducible] def bH(mi:MA)(g:MG)(t:MT)(e:ME)(cap:List (Option Nat)):ME:=M.bH mi g t e cap
def uV:bH mi g t e cap=M.bH mi g t e cap:=by unfold bH;rfl
@[irreducible] def dq(m:ME):MA:=M.dq m
def zY:dq m=M.dq m:=by unfold dq;rfl
@[irreducible] def bQ:MT:=M.bQ 
def Cs  : bQ  = M.bQ  := by unfold bQ;rfl
@[irreducible] def fz(f:MF)(o:ME)(ms:MA):ME:=M.fz f o ms
def Cy:fz f o ms=M.fz f o ms:=by unfold fz;rfl
@[irreducible] def gS(ms:MA):MA:=M.gS ms
def CB:gS ms=M.gS ms:=by unfold gS;rfl
@[irreducible] def lh(o:ME)(ms:MA):ME:=M.lh o ms
def HA:lh o ms=M.lh o ms:=by unfold lh;rfl
@[irreducible] def oS(ms:MA):MA:=M.oS ms
def Hm:oS ms=M.oS ms:=by unfold oS;rfl
@[irreducible] def jh(ms:List (ME×ME)):ME:=M.jh ms
def CF:jh ms=M.jh ms:=by unfold jh;rfl
@[irreducible] def fX(ms:List (ME×ME)):ME:=M.fX ms
def yb:fX ms=M.fX ms:=by unfold fX;rfl
@[irreducible] def fU(f:MF)(o:ME)(ms:MA):ME:=M.fU f o ms
def xY:fU f o ms=M.fU f o ms:=by unfold fU;rfl
@[irreducible] def gA(m:ME)(g:MG)(body:MS):MS:=M.gA m g body
def CA:gA m g body=M.gA m g body:=by unfold gA;rfl
@[irreducible] def fV(ms:MA):ME:=M.fV ms
def xZ:fV ms=M.fV ms:=by unfold fV;rfl
@[irreducible] def fR(t:MT)(body:MS):MS:=M.fR t body
def xU:fR t body=M.fR t body:=by unfold fR;rfl
@[irreducible] def dZ(l:List (bD×D))(a:ME):ME:=M.dZ l a
def xV:dZ l a=M.dZ l a:=by unfold dZ;rfl
@[irreducible] def ji(a b:ME):ME:=M.ji a b
def CH:ji a b=M.ji a b:=by unfold ji;rfl
@[irreducible] def ku(l:List (bD×Nat×(List D->ac->Option (D×ac))))(i:Nat)(mi:ME)(ms:MA):MS:=M.ku l i mi ms
def CD:ku l i mi ms=M.ku l i mi ms:=by unfold ku;rfl
def FD:aw 0 f ai=M.aw 0 f M.ai:=by rw[qU,zW]
def Fz:aB (ay f a b)=M.aB (M.ay f a b):=by rw[uP,kP]
def FA:aB (dg f g a b c)=M.aB (M.dg f g a b c):=by rw[uP,qT]
def oW:aX m (ah i)=M.aX m (M.ah i):=by rw[jn,qu]
def CJ:aX (bH mi g t e cap) (ah i)=M.aX (M.bH mi g t e cap) (M.ah i):=by rw[jn,qu,uV]
section
variable{X:Cx}{e:Nl}{es:List Nl}{s:Uo}{ss:List Uo}
def cm{m m':ME}(h:m=m')(d:DE X e m'):DE X e m:=by rw[h];exact d
def DL{m m':MT}(h:m=m')(d:DT X e m'):DT X e m:=by rw[h];exact d
def Iq{m m':MT}(h:m=m')(d:DW X e m'):DW X e m:=by rw[h];exact d
def UX{m m':MA}(h:m=m')(d:DA X es m'):DA X es m:=by rw[h];exact d
def UW{m m':MO}(h:m=m')(d:DO X o m'):DO X o m:=by rw[h];exact d
def Ir{m m':MG}(h:m=m')(d:DG X e m'):DG X e m:=by rw[h];exact d
def PV{m m':wm}(h:m=m')(d:Yv X es m'):Yv X es m:=by rw[h];exact d
def yH{m m':MA}(h:m=m')(d:DI X tg e m'):DI X tg e m:=by rw[h];exact d
def XY{m m':MT}(h:m=m')(d:Va X es m'):Va X es m:=by rw[h];exact d
def kJ{m m':MS}(h:m=m')(d:DS X s m'):DS X s m:=by rw[h];exact d
def Gz{m m':MS}(h:m=m')(d:xq X ss m'):xq X ss m:=by rw[h];exact d
end
inductive GI where
 | fn (n:Nat) (f:List D->ac->Option (D×ac))
 | con (d:D)
 | blt
 | tab (l:List (bD×D))
 | ftab (l:List (bD×Nat×(List D->ac->Option (D×ac))))
 | thr (f:Str) (n:Nat) (fy:List D->ac->Option RY) (C:tx) (fl:Str)
 | cls (C:tx) (b:Bool)
 | hnd (C:tx)
 | rse (C:tx) (fl:Str)
 | fld (C:tx) (fl:Str)
structure CI where
 N:List Str
 sc:Scope
 all:Bool
 gs:List (Str×GI)
 mt:List Nat
 nx:Bool
def GOk(X:Cx)(k:Nat)(x:Str):GI->Prop
 | .fn n f=>Fn X.prog X.w X.K X.mg X.base k x n f
 | .con d=>GC X.K X.mg x d
 | .blt=>X.mg x=Y
 | .tab l=>wj X.w X.K X.mg x l
 | .ftab l=>FTab X.prog X.w X.K X.mg X.base k x l
 | .thr f n fy C fl=>FnY X.prog X.w X.K X.mg X.base k f n fy C fl
 | .cls C b=>ClsOk X.K X.mg x C b
 | .hnd C=>DZ X.K X.mg x C
 | .rse C fl=>2<=k/\DV X.prog X.w X.K X.mg X.base x C fl
 | .fld C fl=>wp X.K C fl
structure NX(X:Cx):Prop where
 xe:X.xe=λ_ _=>False
 hs:X.stack=X.env::X.outer
 hfm:X.env.frame=U X.env.locals
 hex:X.ex=[]
structure il(k:Nat)(c:CI)(X:Cx):Prop where
 N:X.N=c.N
 nd:c.N.Nodup
 sc:X.env.scope=c.sc
 fk:c.sc.kind=.function
 fn:c.all=true->∀ x,X.fn x=true
 calm:X.calm=true
 room:Room k X.A
 xe:PassesOwn (model X.prog X.w) X.A X.env X.xe
 xf:c.nx=true->NX X
 gs:∀ p∈c.gs,GOk X k p.1 p.2
noncomputable def gK:ME:=λ_ _=>Y
noncomputable def wZ:MT:=λ_ _=>Y
noncomputable def fS:MS:=λ_ _=>Y
noncomputable def xa:MA:=λ_ _=>Y
noncomputable def NW:MG:=λ_ _ _=>Y
section
variable{X:Cx}{k:Nat}{c:CI}{e:Nl}{pos:Pos}
def bX:DE X e gK:=λ_ _ _ _ _ _ ⟨_,_,_,_,_,_,_,h,_⟩=>by cases h
def qA:DT X e wZ:=λ_ _ _ _ _ _ ⟨_,_,_,_,_,_,_,h,_⟩=>by cases h
def gE{s:Uo}:DS X s fS:=λ_ _ _ _ _ _ ⟨_,_,_,_,_,_,h,_⟩=>by cases h
def Pl{s:Uo}:DS X s (aX gK g):=by
 rw[show aX gK g=fS from by rw[jn];rfl]
 exact gE
def XA{s:List Uo}:xq X s fS:=λ_ _ _ _ _ _ ⟨_,_,_,_,_,_,h,_⟩=>by cases h
def da_no:DA X es xa:=λ_ _ _ _ _ _ _ ⟨_,_,_,_,_,_,_,h,_⟩=>by cases h
def vU:DI X tg e xa:=λ_ _ _ _ _ _ ⟨_,_,_,_,_,_,_,h,_⟩=>by cases h
def DC:DG X e NW:=λ_ _ _ _ _ _ _ _ _ ⟨_,_,_,_,_,_,_,_,_,h,_⟩=>by cases h
noncomputable def oi(x:Str):List Str->Option Nat
 | []=>Y
 | y::r=>if x==y then U 0 else(oi x r).map (· + 1)
theorem cY:∀ {l:List Str} {i:Nat},oi x l=U i->l[i]?=U x
 | y::r,i,h=>by
  unfold oi at h
  split at h
  ·rename_i e;cases h;simp at e;simp[e]
  ·cases q:oi x r with
   | none=>rw[q] at h;cases h
   | some j=>rw[q] at h;cases h;simpa using cY q
noncomputable def dY(x:Str):Bool:=!(x==("__debug__":Str))&&!(x==("__classdict__":Str))&&!(x==("__name__":Str))
def cj(h:dY x=true):(x==("__debug__":Str))=false:=by
 unfold dY at h;rw[YD,YD] at h;simpa only[Bool.not_eq_true'] using h.1.1
def uq(h:dY x=true):(x==("__classdict__":Str))=false:=by
 unfold dY at h;rw[YD,YD] at h;simpa only[Bool.not_eq_true'] using h.1.2
def gN(h:dY x=true):x≠"__name__":=by
 unfold dY at h;rw[YD,YD] at h
 have:=h.2
 rw[Bool.not_eq_true'] at this
 intro z;rw[z] at this;simp at this
noncomputable def Ld(c:CI)(x:Str):Option GI:=match c.sc.names.lookup x with | some .globalImplicit=>if dY x then c.gs.lookup x else Y | _=>Y
def eI{g:GI}(C:il k c X)(h:Ld c x=U g):Gl X x/\dY x=true/\GOk X k x g:=by
 unfold Ld at h
 split at h
 ·rename_i e
  split at h
  ·rename_i o
   refine⟨?_,o,C.gs _ (ZP h)⟩
   show X.env.scope.names.lookup x=_
   rw[C.sc,e]
  ·cases h
 ·cases h
noncomputable def Gg(c:CI)(x:Str):ME:=match c.sc.names.lookup x with
 | some .globalImplicit=>match Ld c x with | some (.con d)=>mC d | _=>gK
 | some .local=>match oi x c.N with | some i=>if dY x then af i else gK | none=>gK
 | some .cell=>match oi x c.N with | some i=>if dY x then af i else gK | none=>gK
 | some .free=>match oi x c.N with | some i=>if dY x then af i else gK | none=>gK
 | _=>gK
def pj(C:il k c X)(hv:Ua c.sc x):DE X (.Name x pos) (match oi x c.N with | some i=>if dY x then af i else gK | none=>gK):=by
 split
 ·rename_i i e
  split
  ·rename_i o
   exact cm Hn <| M.Pw (by rw[C.N];exact cY e) (by rw[C.sc];exact hv) (cj o) (uq o)
  ·exact bX
 ·exact bX
def Kf(C:il k c X)(x:Str):DE X (.Name x pos) (Gg c x):=by
 unfold Gg
 split
 ·split
  ·rename_i d e
   obtain⟨g,o,G⟩:=eI C e
   exact cm uW <| M.Tl G g (cj o)
  ·exact bX
 ·rename_i e;exact pj C (.inl e)
 ·rename_i e;exact pj C (.inr (.inl e))
 ·rename_i e;exact pj C (.inr (.inr e))
 ·exact bX
def Ia:Const->ME
 | .int i=>mC (.int i)
 | .bool b=>mC (.bl b)
 | .none=>mC .non
 | .str x=>mC (.str x)
 | _=>gK
def Gj(v:Const):DE X (.Constant v j pos) (Ia v):=by
 cases v<;>first | exact cm uW <| M.XT | exact cm uW <| M.de_bl | exact cm uW <| M.XO | exact cm uW <| M.XM | exact bX
def OO(z:Bool)(op:Operator)(a b:ME):ME:=match op with
 | .Add=>ay aM a b
 | .Sub=>ay rn a b
 | .Mult=>ay cH a b
 | .Mod=>ay lS a b
 | .FloorDiv=>ay JZ a b
 | .Pow=>ay xj a b
 | _=>gK
def ON(ha:DE X a ma)(hb:DE X b mb):DE X (.BinOp a op b pos) (OO z op ma mb):=by
 cases op<;>first | exact bX | skip
 ·exact cm kP <| M.yD RC ha hb
 ·exact cm kP <| M.yD VY ha hb
 ·exact cm kP <| M.yD RB ha hb
 ·exact cm kP <| M.yD Wb ha hb
 ·exact cm kP <| M.yD VZ ha hb
 ·exact cm kP <| M.yD Wc ha hb
def OM(op:Operator)(a b:ME):ME:=match op with
 | .Add=>ji a b
 | _=>gK
def OL(ha:DE X a ma)(hb:DE X b mb):DE X (.BinOp a op b pos) (OM op ma mb):=by
 cases op<;>first | exact bX | exact cm CH <| M.Ts ha hb
def evUn(op:UnaryOp)(a:ME):ME:=match op with
 | .Not=>iK a
 | .USub=>Ed Om a
 | _=>gK
def SJ(ha:DE X a ma):DE X (.UnaryOp op a pos) (evUn op ma):=by
 cases op<;>first | exact bX | skip
 ·exact cm Cu <| M.Th ha
 ·exact cm Nb <| M.de_un Qr ha
def Gy:CmpOp->Option (ac->D->D->Option D)
 | .Eq=>U cy
 | .NotEq=>U jo
 | .Lt=>U SC
 | .LtE=>U Xo
 | .Gt=>U fGt
 | .GtE=>U fGe
 | .In=>U pi
 | .NotIn=>U rq
 | .Is=>U Ee
 | .IsNot=>U ph
def nX{f:ac->D->D->Option D}(r:Room k X.A)(h:Gy op=U f):OpR X (adc op) (og X.K f):=by
 cases op<;>cases h
 ·exact op_Eq r.units
 ·exact op_Ne r.units
 ·exact op_Lt
 ·exact op_Le
 ·exact op_Gt
 ·exact op_Ge
 ·exact op_Is
 ·exact MD
 ·exact op_In r.units
 ·exact MC r.units
noncomputable def kM:Nl->Bool
 | .Set _ _ _=>false
 | _=>true
def jm(h:kM e=true):behindInMarks op e=false:=by cases e<;>first | rfl | cases h
def kq(h:kM e=true)(x:gV):ada e X.env x=pure x:=by cases e<;>first | rfl | cases h
noncomputable def OK(c:CI)(E:CI->Nl->ME)(a:Nl)(ops:List CmpOp)(bs:List Nl):ME:=match ops,bs with
 | [op],[b]=>if kM b then(match Gy op with | some f=>ay f (E c a) (E c b) | none=>gK) else gK
 | [op,op'],[b,d]=>if kM d then(match Gy op,Gy op' with | some f,U g=>dg f g (E c a) (E c b) (E c d) | _,_=>gK) else gK
 | _,_=>gK
def Gk(c:CI)(E:CI->Nl->ME)(a:Nl)(ops:List CmpOp)(bs:List Nl):MT:=match ops,bs with
 | [op],[b]=>if kM b then(match Gy op with | some f=>aB (ay f (E c a) (E c b)) | none=>wZ) else wZ
 | [op,op'],[b,d]=>if kM d then(match Gy op,Gy op' with | some f,U g=>aB (dg f g (E c a) (E c b) (E c d)) | _,_=>wZ) else wZ
 | _,_=>wZ
section
variable{E:CI->Nl->ME}{T:CI->Nl->MT}
def OJ(C:il k c X)(hE:∀ e,DE X e (E c e)){bs:List Nl}:DE X (.Compare a ops bs pos) (OK c E a ops bs):=by
 unfold OK
 split
 ·split
  ·rename_i hm
   split
   ·rename_i f h;exact cm kP <| M.XV (nX C.room h) (hE _) (hE _) (jm hm)
   ·exact bX
  ·exact bX
 ·split
  ·rename_i hm
   split
   ·rename_i f g h1 h2;exact cm qT <| M.PJ (nX C.room h1) (nX C.room h2) (hE _) (hE _) (hE _) (jm hm)
   ·exact bX
  ·exact bX
 ·exact bX
def Kk(C:il k c X)(hE:∀ e,DE X e (E c e)){bs:List Nl}:DT X (.Compare a ops bs pos) (Gk c E a ops bs):=by
 unfold Gk
 split
 ·split
  ·rename_i hm
   split
   ·rename_i f h;exact DL Fz <| M.Xz (nX C.room h) (hE _) (hE _) (jm hm)
   ·exact qA
  ·exact qA
 ·split
  ·rename_i hm
   split
   ·rename_i f g h1 h2;exact DL FA <| M.Pe (nX C.room h1) (nX C.room h2) (hE _) (hE _) (hE _) (jm hm)
   ·exact qA
  ·exact qA
 ·exact qA
noncomputable def Dl(f:ME->ME->ME):List ME->ME
 | []=>gK
 | [m]=>m
 | m::r=>f m (Dl f r)
noncomputable def vG(f:MT->MT->MT):List MT->MT
 | []=>wZ
 | [m]=>m
 | m::r=>f m (vG f r)
theorem yv{E:Nl->ME}(hE:∀ e,DE X e (E e)):∀ vs:List Nl,DE X (.BoolOp .And vs pos) (Dl ft (vs.map E))
 | []=>bX
 | [e]=>Pz (hE e)
 | e::e'::r=>cm HB <| M.Tu (hE e) (yv hE (e'::r))
theorem Dk{E:Nl->ME}(hE:∀ e,DE X e (E e)):∀ vs:List Nl,DE X (.BoolOp .Or vs pos) (Dl zV (vs.map E))
 | []=>bX
 | [e]=>Pz (hE e)
 | e::e'::r=>cm Nc <| M.XN (hE e) (Dk hE (e'::r))
def JT{E:Nl->MT}(hE:∀ e,DT X e (E e)):∀ vs:List Nl,DT X (.BoolOp .And vs pos) (vG du (vs.map E))
 | []=>qA
 | [e]=>SU (Ie (hE e))
 | e::e'::r=>SU (Iq uX <| M.Pb (hE e) (foldT_andW hE (e'::r) (by simp)))
where foldT_andW {E:Nl->MT} (hE:∀ e,DT X e (E e)):∀ vs:List Nl,vs≠[]->DW X (.BoolOp .And vs pos) (vG du (vs.map E))
 | [],h=>absurd rfl h
 | [e],_=>Ie (hE e)
 | e::e'::r,_=>Iq uX <| M.Pb (hE e) (foldT_andW hE (e'::r) (by simp))
def NZ{E:Nl->MT}(hE:∀ e,DT X e (E e)):∀ vs:List Nl,DT X (.BoolOp .Or vs pos) (vG gH (vs.map E))
 | []=>qA
 | [e]=>SU (Pa (hE e))
 | e::e'::r=>SU (Iq zU <| M.US (hE e) (foldT_orW hE (e'::r) (by simp)))
where foldT_orW {E:Nl->MT} (hE:∀ e,DT X e (E e)):∀ vs:List Nl,vs≠[]->DW X (.BoolOp .Or vs pos) (vG gH (vs.map E))
 | [],h=>absurd rfl h
 | [e],_=>Pa (hE e)
 | e::e'::r,_=>Iq zU <| M.US (hE e) (foldT_orW hE (e'::r) (by simp))
noncomputable def cn:Nl->Bool
 | .Starred _ _=>false
 | _=>true
def bB{es:List Nl}(h:cn e=true):acZ (e::es) X.env=(false,eval e X.env)::acZ es X.env:=by cases e<;>first | rfl | cases h
theorem gh:∀ {es:List Nl},es.all cn=true->(backTo pos (acZ es X.env)).any (·.1)=false
 | [],_=>rfl
 | e::es,h=>by
  rw[ZT,YD] at h
  rw[bB h.1]
  show(false||(backTo pos (acZ es X.env)).any (·.1))=false
  rw[gh h.2];rfl
noncomputable def yB(E:Nl->ME):List Nl->MA
 | []=>ai
 | e::r=>if cn e then aa (E e) (yB E r) else xa
theorem fv{E:Nl->ME}(hE:∀ e,DE X e (E e)):∀ es:List Nl,DA X es (yB E es)
 | []=>UX zW <| M.XW
 | e::r=>by
  unfold yB
  split
  ·rename_i h;exact UX CG <| M.Tw (hE e) (fv hE r) (bB h)
  ·exact da_no
def evO(E:Nl->ME):Option Nl->MO
 | none=>bJ
 | some e=>cx (E e)
def OG{E:Nl->ME}(hE:∀ e,DE X e (E e)):∀ o:Option Nl,DO X o (evO E o)
 | none=>UW xX <| M.Td
 | some e=>UW Ct <| M.Tc (hE e)
noncomputable def Bf(c:CI):Nl->Option (List (bD×D))
 | .Name x _=>match Ld c x with | some (.tab l)=>U l | _=>Y
 | _=>Y
def Em{l:List (bD×D)}(C:il k c X)(h:Bf c a=U l):∃ x p,a=.Name x p/\Gl X x/\dY x=true/\wj X.w X.K X.mg x l:=by
 unfold Bf at h
 split at h
 ·split at h
  ·rename_i e
   cases h
   obtain⟨g,o,G⟩:=eI C e
   exact⟨_,_,rfl,g,o,G⟩
  ·cases h
 ·cases h
def UP(c:CI)(E:Nl->ME)(a i:Nl):ME:=match i with
 | .Slice lo hi st _=>match st with | none=>bI (E a) (evO E lo) (evO E hi) | some st=>(match lo,hi with | none,Y=>gK | _,_=>gK)
 | i=>match Bf c a with | some l=>dZ l (E i) | none=>ay aA (E a) (E i)
theorem Ke(C:il k c X){E:Nl->ME}(hE:∀ e,DE X e (E e))(a i:Nl)(hs:nZ i:=by intro _ _;rfl):DE X (.Subscript a i pos) (match Bf c a with | some l=>dZ l (E i) | none=>ay aA (E a) (E i)):=by
 cases ht:Bf c a with
 | none=>exact cm kP <| M.XR (by have:=C.room.units;omega) (hE a) (hE _) hs
 | some l=>
  obtain⟨x,p,rfl,g,o,G⟩:=Em C ht
  exact cm xV (M.Px G g (cj o) (hE _) hs)
def OE(C:il k c X){E:Nl->ME}(hE:∀ e,DE X e (E e))(a i:Nl):DE X (.Subscript a i pos) (UP c E a i):=by
 cases i with
 | Slice lo hi st p=>
  cases st with
  | none=>exact cm xW <| M.Py (hE a) (OG hE lo) (OG hE hi)
  | some st=>
   cases lo with
   | none=>
    cases hi with
    | none=>exact bX
    | some _=>exact bX
   | some _=>exact bX
 | _=>exact Ke C hE a _
noncomputable def gO:Nl->Option Str
 | .Name x _=>U x
 | _=>Y
def cQ{x:Str}(h:gO e=U x):∃ p,e=.Name x p:=by cases e<;>cases h;exact⟨_,rfl⟩
noncomputable def nz:Nl->Option (Str×List Nl)
 | .Call f es [] _=>(gO f).map λx=>(x,es)
 | _=>Y
def gF{x:Str}{es:List Nl}(h:nz e=U (x,es)):∃ p p2,e=.Call (.Name x p) es [] p2:=by
 cases e with
 | Call f es' ks p2=>
  cases ks with
  | nil=>
   obtain⟨y,h1,h2⟩:=aaL.mp h
   cases h2
   obtain⟨p,rfl⟩:=cQ h1
   exact⟨p,p2,rfl⟩
  | cons _ _=>cases h
 | _=>cases h
noncomputable def ow(c:CI)(x:Str):Bool:=match Ld c x with | some .blt=>true | _=>false
def mQ(C:il k c X)(h:ow c x=true):X.mg x=Y/\Gl X x/\dY x=true:=by
 unfold ow at h
 split at h
 ·rename_i e;obtain⟨a,b,d⟩:=eI C e;exact⟨d,a,b⟩
 ·cases h
noncomputable def Ew(c:CI)(es:List Nl):Option Nl:=match es with
 | [e1]=>match nz e1 with
  | some (y,[a])=>if y=="set"&&ow c y&&cn a then U a else Y
  | _=>Y
 | _=>Y
def Bm{a:Nl}(h:Ew c es=U a):∃ p p2,es=[.Call (.Name "set" p) [a] [] p2]/\ow c "set" = true/\cn a=true:=by
 unfold Ew at h
 split at h
 ·split at h
  ·rename_i hc
   split at h
   ·rename_i hb
    cases h
    rw[YD,YD] at hb
    obtain⟨p,p2,rfl⟩:=gF hc
    have z:=hb.1.1
    rw[beq_iff_eq] at z;subst z
    exact⟨p,p2,rfl,hb.1.2,hb.2⟩
   ·cases h
  ·cases h
 ·cases h
noncomputable def ub(c:CI)(es:List Nl):Option Nl:=match es with
 | [e1]=>match nz e1 with
  | some (y,[a])=>if y=="range"&&ow c y&&cn a then U a else Y
  | _=>Y
 | _=>Y
def wH{a:Nl}(h:ub c es=U a):∃ p p2,es=[.Call (.Name "range" p) [a] [] p2]/\ow c "range" = true/\cn a=true:=by
 unfold ub at h
 split at h
 ·split at h
  ·rename_i hc
   split at h
   ·rename_i hb
    cases h
    rw[YD,YD] at hb
    obtain⟨p,p2,rfl⟩:=gF hc
    have z:=hb.1.1
    rw[beq_iff_eq] at z;subst z
    exact⟨p,p2,rfl,hb.1.2,hb.2⟩
   ·cases h
  ·cases h
 ·cases h
def Ye(z y:Bool)(x:Str):Option (List D->ac->Option (D×ac)):=
 if x=="len" then U (aU iF) else if x=="int" then U (aU kD) else if x=="max" then U (aU mW) else if x=="min" then U (aU HS)
 else if x=="list" then U (aU (cR .lst)) else if x=="tuple" then U (aU (cR .tup)) else if x=="all" then U (aU vP) else if x=="any" then U (aU SG) else Y
set_option maxHeartbeats 800000 in
def TL{f:List D->ac->Option (D×ac)}{es:List Nl}(C:il k c X)(h:Ye zz yy x=U f)(hm:X.mg x=Y)(hg:Gl X x)(o:dY x=true)(hs:(e::es).all cn=true)(ha:DA X (e::es) ms) :
  DE X (.Call (.Name x p) (e::es) [] pos) (bw f ms):=by
 rw[ZT,YD] at hs
 have q1:=bB (X:=X) (es:=es) hs.1
 have q2:=gh (X:=X) (pos:=pos) hs.2
 unfold Ye at h
 split at h
 ·rename_i z;cases h;rw[beq_iff_eq] at z;subst z;exact cm gU <| M.nq PX hm boot_len ha hg (gN o) (cj o) q1 q2
 split at h
 ·rename_i z;cases h;rw[beq_iff_eq] at z;subst z;exact cm gU <| M.rG PY hm boot_int ha hg (gN o) (cj o) q1 q2
 split at h
 ·rename_i z;cases h;rw[beq_iff_eq] at z;subst z;exact cm gU <| M.nq (KO C.calm) hm boot_max ha hg (gN o) (cj o) q1 q2
 split at h
 ·rename_i z;cases h;rw[beq_iff_eq] at z;subst z;exact cm gU <| M.nq (KN C.calm) hm boot_min ha hg (gN o) (cj o) q1 q2
 split at h
 ·rename_i z;cases h;rw[beq_iff_eq] at z;subst z;exact cm gU <| M.rG KQ hm boot_list ha hg (gN o) (cj o) q1 q2
 split at h
 ·rename_i z;cases h;rw[beq_iff_eq] at z;subst z;exact cm gU <| M.rG GD hm boot_tuple ha hg (gN o) (cj o) q1 q2
 split at h
 ·rename_i z;cases h;rw[beq_iff_eq] at z;subst z;exact cm gU <| M.nq (Qa C.calm) hm boot_all ha hg (gN o) (cj o) q1 q2
 split at h
 ·rename_i z;cases h;rw[beq_iff_eq] at z;subst z;exact cm gU <| M.nq (PZ C.calm) hm boot_any ha hg (gN o) (cj o) q1 q2
 cases h
noncomputable def Vh(x:Str):Option String:=if x=="int" then U "int" else if x=="bool" then U "bool" else if x=="str" then U "str" else if x=="tuple" then U "tuple" else if x=="list" then U "list" else if x=="dict" then U "dict" else Y
def GS{T:String}(h:Vh x=U T):bootBuiltins x=U (.type T)/\(T = "int"\/T = "bool"\/T = "str"\/T = "tuple"\/T = "list"\/T = "dict"):=by
 unfold Vh at h
 split at h
 ·rename_i z;cases h;rw[beq_iff_eq] at z;subst z;exact⟨boot_int,by simp⟩
 split at h
 ·rename_i z;cases h;rw[beq_iff_eq] at z;subst z;exact⟨boot_bool,by simp⟩
 split at h
 ·rename_i z;cases h;rw[beq_iff_eq] at z;subst z;exact⟨boot_str,by simp⟩
 split at h
 ·rename_i z;cases h;rw[beq_iff_eq] at z;subst z;exact⟨boot_tuple,by simp⟩
 split at h
 ·rename_i z;cases h;rw[beq_iff_eq] at z;subst z;exact⟨boot_list,by simp⟩
 split at h
 ·rename_i z;cases h;rw[beq_iff_eq] at z;subst z;exact⟨boot_dict,by simp⟩
 cases h
noncomputable def Uh:Nl->Option (List Nl)
 | .Tuple es _ _=>U es
 | _=>Y
def Ek{es:List Nl}(h:Uh e=U es):∃ j p,e=.Tuple es j p:=by cases e<;>cases h;exact⟨_,_,rfl⟩
noncomputable def clsC(c:CI):List Nl->Option tx
 | []=>Y
 | e::_=>match gO e with | some x=>(match Ld c x with | some (.cls C _)=>U C | _=>Y) | none=>Y
noncomputable def TC(c:CI)(C:tx):List Nl->Option (List Bool)
 | []=>U []
 | e::r=>match gO e with | some x=>(match Ld c x with | some (.cls C' b)=>if C'=C then(TC c C r).map (b::·) else Y | _=>Y) | none=>Y
theorem Io(C:il k c X):∀ {es:List Nl} {bs:List Bool},TC c A es=U bs->ClsL X A es bs
 | [],bs,h=>by cases h;exact .nil
 | e::r,bs,h=>by
  unfold TC at h
  split at h
  ·rename_i x hx
   obtain⟨p,rfl⟩:=cQ hx
   split at h
   ·rename_i A' b hg
    obtain⟨g,o,G⟩:=eI C hg
    split at h
    ·rename_i e;subst e
     obtain⟨bs',h1,rfl⟩:=aaL.mp h
     exact .cons G g (cj o) (Io C h1)
    ·cases h
   ·cases h
  ·cases h
noncomputable def UQ(c:CI)(E:Nl->ME):List Nl->ME
 | [a,t]=>match gO t with
  | some y=>match Ld c y,Vh y with | some .blt,U T=>if cn a then eG T (E a) else gK | some (.cls C b),_=>if cn a then zZ C b (E a) else gK | _,_=>gK
  | none=>match Uh t with
   | some es=>match clsC c es with
    | some C=>match TC c C es with | some bs=>if cn a&&decide (es.length<=20) then zZ C (bs.any id) (E a) else gK | none=>gK
    | none=>gK
   | none=>gK
 | _=>gK
noncomputable def Aw(c:CI)(E:Nl->ME)(x:Str)(es:List Nl):ME:=match Ld c x with
 | some (.fn n f)=>match es with
  | []=>if n==0 then aw 0 f ai else gK
  | e::r=>if (e::r).all cn then aw n f (yB E (e::r)) else gK
 | some .blt=>if x=="isinstance" then UQ c E es else match (if x=="len" then Ew c es else Y) with
  | some a=>gK
  | none=>match (if x=="list" then ub c es else Y) with
  | some a=>fV (yB E [a])
  | none=>match Ye (c.mt.contains 400000) (c.mt.contains 950000) x,es with
   | some f,e::r=>if (e::r).all cn then bw f (yB E (e::r)) else gK
   | _,_=>gK
 | _=>gK
def Kl(C:il k c X){E:Nl->ME}(hE:∀ e,DE X e (E e)):DE X (.Call (.Name x p) es [] pos) (Aw c E x es):=by
 unfold Aw
 split
 ·rename_i n f hg
  obtain⟨g,o,G⟩:=eI C hg
  split
  ·split
   ·rename_i hn
    have:n=0:=by simpa using hn
    subst this
    exact cm FD <| M.PK G C.room g (cj o)
   ·exact bX
  ·split
   ·rename_i hs
    have hs':=hs
    rw[ZT,YD] at hs
    exact cm qU <| M.Tt G C.room (fv hE _) g (cj o) (bB hs.1) (gh hs.2)
   ·exact bX
 ·rename_i hg
  obtain⟨g,o,G⟩:=eI C hg
  split
  ·rename_i z
   rw[beq_iff_eq] at z;subst z
   unfold UQ
   split
   ·split
    ·rename_i y hy
     obtain⟨p2,rfl⟩:=cQ hy
     split
     ·rename_i T h1 h2
      obtain⟨g',o',G'⟩:=eI C h1
      split
      ·rename_i hs
       exact cm Hv <| M.Kx G G' (GS h2).1 (hE _) (GS h2).2 g g' (gN o') (cj o') (bB hs) rfl rfl
      ·exact bX
     ·rename_i A b _ h1
      obtain⟨g',o',G'⟩:=eI C h1
      split
      ·rename_i hs
       exact M.XS G G' g g' (cj o') (hE _) (bB hs)
      ·exact bX
     ·exact bX
    ·split
     ·rename_i es ht
      obtain⟨j,p2,rfl⟩:=Ek ht
      split
      ·rename_i A hA
       split
       ·rename_i bs hb
        split
        ·rename_i hs
         rw[YD,ZO] at hs
         exact M.Tk G (Io C hb) (λz=>by rw[z] at hA;cases hA) hs.2 g (hE _) (bB hs.1)
        ·exact bX
       ·exact bX
      ·exact bX
     ·exact bX
   ·exact bX
  ·split
   ·rename_i a ha
    split at ha
    ·rename_i z
     rw[beq_iff_eq] at z;subst z
     obtain⟨p3,p4,rfl,hb,hs⟩:=Bm ha
     obtain⟨m2,g2,o2⟩:=mQ C hb
     exact bX
    ·cases ha
   ·split
    ·rename_i a ha
     split at ha
     ·rename_i z
      rw[beq_iff_eq] at z;subst z
      obtain⟨p3,p4,rfl,hb,hs⟩:=wH ha
      obtain⟨m2,g2,o2⟩:=mQ C hb
      exact cm xZ (M.PD C.calm G m2 g g2 (fv hE _) (bB hs))
     ·cases ha
    ·split
     ·rename_i _ f e r hf
      split
      ·rename_i hs
       exact TL C (by assumption) G g o hs (fv hE _)
      ·exact bX
     ·exact bX
 ·exact bX
noncomputable def GF:Nl->Option (Nl×Str×Pos)
 | .Attribute o nm ap=>U (o,nm,ap)
 | _=>Y
def DQ{o:Nl}{nm:Str}{ap:Pos}(h:GF e=U (o,nm,ap)):e=.Attribute o nm ap:=by cases e<;>cases h;rfl
def MQ(x:Str):Option MF:=if x=="append" then U ej else if x=="count" then U nU else if x=="index" then U mY else if x=="extend" then U kG else Y
def MN{f:MF}(C:il k c X)(h:MQ x=U f):∃ id,Slot "list" x id/\typeOf (.builtin id)=pure (.type "method_descriptor")/\MtR X id (Ql X.K f):=by
 unfold MQ at h
 split at h
 ·rename_i z;cases h;rw[beq_iff_eq] at z;subst z;exact⟨_,acS,F.type_list_append,Jm⟩
 split at h
 ·rename_i z;cases h;rw[beq_iff_eq] at z;subst z;exact⟨_,abE,F.type_list_count,BQ C.room.units⟩
 split at h
 ·rename_i z;cases h;rw[beq_iff_eq] at z;subst z;exact⟨_,F.slot_list_index,F.type_list_index,MM C.room.units⟩
 split at h
 ·rename_i z;cases h;rw[beq_iff_eq] at z;subst z;exact⟨_,aby,F.type_list_extend,Jk⟩
 cases h
def Fc(x:Str):Option MF:=if x=="update" then U vK else Y
def Jn{f:MF}(C:il k c X)(h:Fc x=U f):∃ id,Slot "dict" x id/\typeOf (.builtin id)=pure (.type "method_descriptor")/\MtR X id (Ql X.K f):=by
 unfold Fc at h
 split at h
 ·rename_i z;cases h;rw[beq_iff_eq] at z;subst z;exact⟨_,acT,F.type_dict_update,RL⟩
 cases h
theorem Bj:∀ {es:List Nl},es.all cn=true->(backTo pos (acZ es X.env)).all (λx=>!x.1)=true
 | [],_=>rfl
 | e::es,h=>by
  rw[ZT,YD] at h
  rw[bB h.1]
  show(true&&(backTo pos (acZ es X.env)).all (λx=>!x.1))=true
  rw[Bj h.2];rfl
noncomputable def VD(o:Nl):Bool:=match o with | .Call _ _ _ _=>false | _=>true
noncomputable def Av(z:Bool)(E:Nl->ME)(o:Nl)(nm:Str)(ap cp:Pos)(es:List Nl):ME:=match VD o,es with
 | true,e::r=>if (e::r).all cn&&(decide ((e::r).length<30)&&ap.endLine==cp.line) then
   (if nm=="count" then lh (E o) (yB E (e::r)) else match Fc nm with | some f=>fU f (E o) (yB E (e::r)) | none=>match MQ nm with | some f=>fz f (E o) (yB E (e::r)) | none=>gK) else gK
 | _,_=>gK
def Kg(C:il k c X){E:Nl->ME}(hE:∀ e,DE X e (E e)):DE X (.Call (.Attribute o nm ap) es [] pos) (Av z E o nm ap pos es):=by
 unfold Av
 split
 ·rename_i e r hx
  split
  ·rename_i h
   rw[YD,YD] at h
   have hs:=h.1
   rw[ZT,YD] at hs
   have few:((backTo pos (acZ (e::r) X.env)).all (λx=>!x.1)&&(backToKw pos (keywordEach [] X.env)).all (λx=>x.1.isSome)&&decide ((e::r).length+([]:List Keyword).length+(if ([]:List Keyword).isEmpty then 0 else 1)<30))=true:=by
    rw[Bj h.1]
    show(true&&decide ((e::r).length+0+0<30))=true
    exact h.2.1
   split
   ·rename_i hc
    rw[beq_iff_eq] at hc;subst hc
    exact cm HA (M.XU C.room.units (hE _) (fv hE _) (we hx) few h.2.2 (bB hs.1) (gh hs.2))
   ·split
    ·rename_i f hf
     obtain⟨id,h1,h2,h3⟩:=Jn C hf
     exact cm xY (M.PC h1 h2 h3 (hE _) (fv hE _) (we hx) few h.2.2 (bB hs.1) (gh hs.2))
    ·split
     ·rename_i f hf
      obtain⟨id,h1,h2,h3⟩:=MN C hf
      exact cm Cy (M.Il h1 h2 h3 (hE _) (fv hE _) (we hx) few h.2.2 (bB hs.1) (gh hs.2))
     ·exact bX
  ·exact bX
 ·exact bX
noncomputable def BN:Nl->Bool
 | .Slice _ _ _ _=>false
 | _=>true
def Ki(G:Nl->MG):List Nl->wm
 | []=>aW
 | e::r=>ag (if cn e then G e else NW) (Ki G r)
noncomputable def sS(c:CI)(x:Str):MG:=match c.sc.names.lookup x,oi x c.N with
 | some .local,U i=>ah i
 | some .cell,U i=>if c.all then ah i else NW
 | _,_=>NW
def SM(c:CI)(E:Nl->ME):Nl->MG
 | .Name x _=>sS c x
 | .Subscript o i _=>if BN i then gX (E o) (E i) else NW
 | _=>NW
def SN(c:CI)(E:Nl->ME):Nl->MG
 | .Tuple es _ _=>if es.all cn then bi es.length (Ki (λe=>match e with | .Tuple es _ _=>if es.all cn then bi es.length (Ki (SM c E) es) else NW | e=>SM c E e) es) else NW
 | e=>SM c E e
def SK(C:il k c X)(x:Str):DG X (.Name x pos) (sS c x):=by
 unfold sS
 split
 ·rename_i h1 h2
  exact Ir qu <| M.Ik (by rw[C.N];exact C.nd) (by rw[C.N];exact cY h2) (by rw[C.sc];exact .inl h1) (.inr (by rw[C.sc];exact h1))
 ·rename_i h1 h2
  split
  ·rename_i ha
   exact Ir qu <| M.Ik (by rw[C.N];exact C.nd) (by rw[C.N];exact cY h2) (by rw[C.sc];exact .inr h1) (.inl (C.fn ha x))
  ·exact DC
 ·exact DC
def SL(C:il k c X){E:Nl->ME}(hE:∀ e,DE X e (E e))(e:Nl):DG X e (SM c E e):=by
 cases e with
 | Name x p=>exact SK C x
 | Subscript o i p=>
  show DG X _ (if BN i then gX (E o) (E i) else NW)
  split
  ·rename_i h
   refine Ir Dg (M.XG (hE o) (hE i) ?_)
   cases i<;>first | (intro _;rfl) | cases h
  ·exact DC
 | _=>exact DC
def rK{es:List Nl}(h:cn e=true):assignEach (e::es) X.env=(false,assign e X.env)::assignEach es X.env:=by cases e<;>first | rfl | cases h
theorem AO:∀ {es:List Nl},es.all cn=true->(assignEach es X.env).length=es.length/\(assignEach es X.env).findIdx? (·.1)=Y
 | [],_=>⟨rfl,rfl⟩
 | e::es,h=>by
  rw[ZT,YD] at h
  rw[rK h.1]
  obtain⟨a,b⟩:=AO h.2
  exact⟨by simp[a],by simp[aap,b]⟩
theorem HZ{G:Nl->MG}(hG:∀ e,DG X e (G e)):∀ es:List Nl,es.all cn=true->Yv X es (Ki G es)
 | [],_=>PV Dh <| M.Tg
 | e::r,h=>by
  rw[ZT,YD] at h
  unfold Ki
  rw[YR h.1]
  exact PV yr <| M.Pt (hG e) (HZ hG r h.2) (by rw[rK h.1];rfl)
def HY(C:il k c X){G:Nl->MG}(hG:∀ e,DG X e (G e))(es:List Nl)(j:Nat):DG X (.Tuple es j pos) (if es.all cn then bi es.length (Ki G es) else NW):=by
 split
 ·rename_i h
  exact Ir mV <| M.XF C.calm (HZ hG es h) (AO h).1 (AO h).2
 ·exact DC
def rC(C:il k c X){E:Nl->ME}(hE:∀ e,DE X e (E e))(e:Nl):DG X e (SN c E e):=by
 have h1:=SL C hE
 cases e with
 | Tuple es j p=>
  refine HY C (λe=>?_) es j
  cases e with
  | Tuple es j p=>exact HY C h1 es j
  | _=>exact h1 _
 | _=>exact h1 _
noncomputable def evI(c:CI)(E:Nl->ME)(tg it:Nl):MA:=match nz it with
 | some (x,es)=>if x=="enumerate"&&ow c x then(match tg,es with
   | .Tuple _ _ _,[a]=>if cn a then gS (yB E [a]) else xa
   | _,_=>xa) else if x=="zip"&&ow c x then(match tg,es with
   | .Tuple _ _ tp,[a,b]=>if cn a&&cn b then(oS (yB E [a,b])) else xa
   | _,_=>xa) else if x=="range"&&ow c x then(match es with
   | [a]=>if cn a then bV (yB E [a]) else xa
   | [a,b]=>if cn a&&cn b then eg (yB E [a,b]) else xa
   | _=>xa) else dq (E it)
 | none=>dq (E it)
def Gh(C:il k c X){E:Nl->ME}(hE:∀ e,DE X e (E e)):DI X tg it (evI c E tg it):=by
 unfold evI
 split
 ·rename_i x es he
  obtain⟨p,p2,rfl⟩:=gF he
  split
  ·rename_i hx
   rw[YD] at hx
   obtain⟨m,g,o⟩:=mQ C hx.2
   have z:=hx.1
   rw[beq_iff_eq] at z;subst z
   split
   ·split
    ·rename_i h
     exact yH CB (M.Tf m (fv hE _) g (bB h))
    ·exact vU
   ·exact vU
  split
  ·rename_i hx
   rw[YD] at hx
   obtain⟨m,g,o⟩:=mQ C hx.2
   have z:=hx.1
   rw[beq_iff_eq] at z;subst z
   split
   ·split
    ·rename_i h
     rw[YD] at h
     exact yH Hm (M.XE m (fv hE _) g (by rw[bB h.1,bB h.2];rfl) (bB h.2))
    ·exact vU
   ·exact vU
  split
  ·rename_i hx
   rw[YD] at hx
   obtain⟨m,g,o⟩:=mQ C hx.2
   have z:=hx.1
   rw[beq_iff_eq] at z;subst z
   split
   ·split
    ·rename_i h
     exact yH uS <| M.Kw m (fv hE _) g (bB h)
    ·exact vU
   ·split
    ·rename_i h
     rw[YD] at h
     exact yH uR <| M.Kv m (fv hE _) g (by rw[bB h.1,bB h.2];rfl) (bB h.2)
    ·exact vU
   ·exact vU
  ·exact yH zY <| M.Gw (hE _)
 ·exact yH zY <| M.Gw (hE _)
noncomputable def UG(c:CI)(it:Nl):Bool:=match nz it with | some (x,_)=>(x=="enumerate"||x=="zip"||x=="range")&&ow c x | none=>false
noncomputable def mz(scope sc:Scope):Scope:={ scope with names:=scope.names.map λx=>match x with | (n,k)=>if (k==NameKind.free&&sc.kind==.function&&sc.names.lookup n==U .cell)=true then(n,.cell) else(n,k) }
noncomputable def DP(scope:Scope):List Str:=(scope.names.filter λx=>x.2==.local&&!(x.1==(".0":Str))).map (·.1)++(scope.names.filter λx=>x.2==.free).map (·.1)
noncomputable def AL(c:CI)(scope:Scope):List (Option Nat):=(scope.names.filter λx=>x.2==.local&&!(x.1==(".0":Str))).map (λ_=>Y)++(scope.names.filter λx=>x.2==.free).map (λx=>oi x.1 c.N)
def Yf(c:CI)(scope:Scope):Bool:=
 scope.kind==.function&&(scope.names.all λx=>x.2 != .cell)&&(scope.names.all λx=>x.2 != .local||scope.names.lookup x.1==U .local)
&&(scope.names.all λx=>x.2 != .free||c.sc.names.lookup x.1==U .cell||c.sc.names.lookup x.1==U .free)
&&xo c.N (DP scope) (λy=>c.sc.names.lookup y) (λy=>(mz scope c.sc).names.lookup y) (AL c scope) (DP scope)&&decide (DP scope).Nodup
noncomputable def Qd(c:CI)(scope:Scope):CI:=⟨DP scope,mz scope c.sc,false,c.gs,c.mt,false⟩
def Iv(C:il k c X)(h:Yf c scope=true):BlockOk X (DP scope) scope (AL c scope)/\∀ A s H fp,il k (Qd c scope) (qG X (DP scope) scope A s H fp):=by
 unfold Yf at h
 simp only[YD,ZO,beq_iff_eq] at h
 obtain⟨⟨⟨⟨⟨h1,h2⟩,h3⟩,h4⟩,h5⟩,h6⟩:=h
 refine⟨blk h6 h1 h2 h3 ?_ ?_,λA s H fp=>⟨rfl,h6,?_,h1,(λz=>nomatch z),C.calm,C.room,abW,(λz=>nomatch z),C.gs⟩⟩
 ·show(scope.names.all λx=>x.2 != .free||X.env.scope.names.lookup x.1==U .cell||X.env.scope.names.lookup x.1==U .free)=true
  rw[C.sc];exact h4
 ·show xo X.N (DP scope) (λy=>X.env.scope.names.lookup y) (λy=>(mz scope X.env.scope).names.lookup y) (AL c scope) (DP scope)=true
  rw[C.sc,C.N];exact h5
 ·show mz scope X.env.scope=_
  rw[C.sc];rfl
def evTs(T:Nl->MT):List Nl->MT
 | []=>bQ
 | [e]=>T e
 | _=>wZ
def HV{T:Nl->MT}(hT:∀ e,DT X e (T e)):∀ es:List Nl,Va X es (evTs T es)
 | []=>XY Cs <| M.Pc
 | [e]=>SR (hT e)
 | _::_::_=>λ_ _ _ _ _ _ ⟨_,_,_,_,_,_,_,h,_⟩=>by cases h
noncomputable def nj(c:CI)(E:CI->Nl->ME)(T:CI->Nl->MT)(elt:Nl)(gens:List Comprehension)(scope:Scope)(line:Nat):ME:=match gens with
 | [⟨tg,it,ifs,a⟩]=>if a==0&&kM it&&Yf c scope then if c.mt.contains (line+100000) then gK else bH (evI c (E c) tg it) (SN (Qd c scope) (E (Qd c scope)) tg) (evTs (T (Qd c scope)) ifs) (E (Qd c scope) elt) (AL c scope) else gK
 | _=>gK
def yA(C:il k c X)(hE:∀ c X,il k c X->∀ e,DE X e (E c e))(hT:∀ c X,il k c X->∀ e,DT X e (T c e)):DE X (.ListComp elt gens scope pos) (nj c E T elt gens scope line):=by
 unfold nj
 split
 ·rename_i tg it ifs a
  split
  ·rename_i h
   simp only[YD,beq_iff_eq] at h
   obtain⟨⟨h0,h1⟩,h2⟩:=h
   subst h0
   obtain⟨B,C'⟩:=Iv C h2
   split
   ·exact bX
   ·exact cm uV <| M.Tr C.calm B (Gh C (hE _ _ C)) (λA s H fp=>rC (C' A s H fp) (hE _ _ (C' A s H fp)) tg) (λA s H fp=>HV (hT _ _ (C' A s H fp)) ifs) (λA s H fp=>hE _ _ (C' A s H fp) elt) (kq h1)
  ·exact bX
 ·exact bX
noncomputable def Xv(E:Nl->ME):List (Option Nl)->List Nl->Option (List (ME×ME))
 | [],[]=>U []
 | some k::ks,v::vs=>(Xv E ks vs).bind λr=>U ((E k,E v)::r)
 | _,_=>Y
theorem HW{E:Nl->ME}(hE:∀ e,DE X e (E e)):∀ {ks:List (Option Nl)} {vs:List Nl} {ms:List (ME×ME)},Xv E ks vs=U ms->DPs X pos ks vs ms/\ks.all (·.isSome)=true/\ks.length=vs.length
 | [],[],ms,h=>by cases h;exact⟨Tb,rfl,rfl⟩
 | some k::ks,v::vs,ms,h=>by
  obtain⟨r,h1,h2⟩:=Yx.mp h
  cases h2
  obtain⟨a,b,d⟩:=HW hE h1
  exact⟨Pn (hE k) (hE v) a,by rw[ZT,b];rfl,by rw[YT,YT,d]⟩
 | [],_::_,_,h=>by cases h
 | none::_,_,_,h=>by cases h
 | some _::_,[],_,h=>by cases h
noncomputable def Gi(c:CI)(E:Nl->ME)(ks:List (Option Nl))(vs:List Nl)(line:Nat):ME:=match ks with
 | []=>if vs.isEmpty&&!c.mt.contains line then mC (.dct [] []) else gK
 | k::r=>if (k::r).length<=15 then(match Xv E (k::r) vs with | some ms=>if c.mt.contains line then fX ms else jh ms | none=>gK) else gK
def Kj{E:Nl->ME}(C:il k c X)(hE:∀ e,DE X e (E e))(ks:List (Option Nl))(vs:List Nl)(line:Nat):DE X (.Dict ks vs pos) (Gi c E ks vs line):=by
 unfold Gi
 split
 ·split
  ·rename_i h
   rw[YD] at h
   have:vs=[]:=by simpa using h.1
   subst this
   exact cm uW <| M.Tp
  ·exact bX
 ·rename_i k r
  split
  ·rename_i hl
   split
   ·rename_i ms h
    obtain⟨a,b,d⟩:=HW (pos:=pos) hE h
    split
    ·exact cm yb (M.PH a b d (by simp) hl)
    ·exact cm CF (M.Tq a b d (by simp) hl)
   ·exact bX
  ·exact bX
noncomputable def OH(E:Nl->ME):List Nl->ME
 | []=>gK
 | _=>gK
def Kh{E:Nl->ME}(hE:∀ e,DE X e (E e)):∀ es:List Nl,DE X (.JoinedStr es pos) (OH E es)
 | []=>bX
 | _::_=>bX
noncomputable def UR(E:Nl->ME)(v:Nl)(cv:Int)(f:Option Nl):ME:=match cv,f with
 | _,_=>gK
def OI{E:Nl->ME}(hE:∀ e,DE X e (E e)):DE X (.FormattedValue v cv f pos) (UR E v cv f):=by
 exact bX
noncomputable def Ul(E:CI->Nl->ME)(T:CI->Nl->MT)(c:CI):Nl->ME
 | .Constant v _ _=>Ia v
 | .Name x _=>Gg c x
 | .BinOp a op b p=>if c.mt.contains (p.line+700000) then OM op (E c a) (E c b) else OO (c.mt.contains (p.line+200000)) op (E c a) (E c b)
 | .UnaryOp op a _=>evUn op (E c a)
 | .Compare a ops bs _=>OK c E a ops bs
 | .BoolOp op vs _=>match op with | .And=>Dl ft (vs.map (E c)) | .Or=>Dl zV (vs.map (E c))
 | .IfExp t a b _=>oV (T c t) (E c a) (E c b)
 | .Tuple es _ _=>be (yB (E c) es)
 | .List es pos=>if c.mt.contains pos.line then gR (yB (E c) es) else dG (yB (E c) es)
 | .Dict ks vs pos=>Gi c (E c) ks vs pos.line
 | .Subscript a i _=>UP c (E c) a i
 | .Call f es ks p=>match gO f,GF f,ks with | some x,_,[]=>Aw c (E c) x es | none,U (o,nm,ap),[]=>Av (c.mt.contains 500000) (E c) o nm ap p es | _,_,_=>gK
 | .ListComp elt gens scope p=>nj c E T elt gens scope p.line
 | .JoinedStr es _=>OH (E c) es
 | .FormattedValue v cv f _=>UR (E c) v cv f
 | .Attribute o nm _=>match gO o,c.gs.lookup (".": Str) with | some _,U (.fld C fl)=>if nm=fl then uU C fl (E c o) else gK | _,_=>gK
 | _=>gK
def Uj(E:CI->Nl->ME)(T:CI->Nl->MT)(c:CI):Nl->MT
 | .UnaryOp op a p=>match op with | .Not=>dm (T c a) | op=>da (E c (.UnaryOp op a p))
 | .BoolOp op vs _=>match op with | .And=>vG du (vs.map (T c)) | .Or=>vG gH (vs.map (T c))
 | .Compare a ops bs _=>Gk c E a ops bs
 | .IfExp _ _ _ _=>wZ
 | e=>da (E c e)
def LJ(hE:∀ c X,il k c X->∀ e,DE X e (E c e))(hT:∀ c X,il k c X->∀ e,DT X e (T c e))(C:il k c X)(e:Nl):DE X e (Ul E T c e):=by
 have h1:=hE c X C
 have h2:=hT c X C
 cases e with
 | Constant v j p=>exact Gj v
 | Name x p=>exact Kf C x
 | BinOp a op b p=>
  show DE X _ (if c.mt.contains (p.line+700000) then OM op (E c a) (E c b) else OO (c.mt.contains (p.line+200000)) op (E c a) (E c b))
  split
  ·exact OL (h1 a) (h1 b)
  ·exact ON (z:=c.mt.contains (p.line+200000)) (h1 a) (h1 b)
 | UnaryOp op a p=>exact SJ (h1 a)
 | Compare a ops bs p=>exact OJ C h1
 | BoolOp op vs p=>cases op with | And=>exact yv h1 vs | Or=>exact Dk h1 vs
 | IfExp t a b p=>exact cm Ni <| M.de_if (h2 t) (h1 a) (h1 b)
 | Tuple es j p=>exact cm Ho <| M.XJ (fv h1 es)
 | List es p=>
  show DE X _ (if c.mt.contains p.line then gR (yB (E c) es) else dG (yB (E c) es))
  split
  ·exact cm Cz <| M.Tj (fv h1 es)
  ·exact cm Hu <| M.XQ (fv h1 es)
 | Dict ks vs p=>exact Kj C h1 ks vs p.line
 | Subscript a i p=>exact OE C h1 a i
 | Call f es ks p=>
  show DE X _ (match gO f,GF f,ks with | some x,_,[]=>Aw c (E c) x es | none,U (o,nm,ap),[]=>Av (c.mt.contains 500000) (E c) o nm ap p es | _,_,_=>gK)
  split
  ·rename_i x h
   obtain⟨p2,rfl⟩:=cQ h
   exact Kl C h1
  ·rename_i o nm ap _ ha
   have:=DQ ha
   subst this
   exact Kg C h1
  ·exact bX
 | ListComp elt gens scope p=>exact yA C hE hT
 | JoinedStr es p=>exact Kh h1 es
 | FormattedValue v cv f p=>exact OI h1
 | Attribute o nm p=>
  show DE X _ (match gO o,c.gs.lookup (".": Str) with | some _,U (.fld C fl)=>if nm=fl then uU C fl (E c o) else gK | _,_=>gK)
  split
  ·rename_i A fl ho hl
   obtain⟨q,rfl⟩:=cQ ho
   split
   ·rename_i e;subst e
    exact M.To (C.gs _ (ZP hl)) (h1 _) rfl
   ·exact bX
  ·exact bX
 | _=>exact bX
def LH(hE:∀ c X,il k c X->∀ e,DE X e (E c e))(hT:∀ c X,il k c X->∀ e,DT X e (T c e))(C:il k c X)(e:Nl):DT X e (Uj E T c e):=by
 have h1:=hE c X C
 have h2:=hT c X C
 cases e with
 | UnaryOp op a p=>cases op<;>first | exact DL Cw <| M.Xy (h2 a) | exact DL zT <| M.Du (h1 _)
 | BoolOp op vs p=>cases op with | And=>exact JT h2 vs | Or=>exact NZ h2 vs
 | Compare a ops bs p=>exact Kk C h1
 | IfExp t a b p=>exact qA
 | _=>exact DL zT <| M.Du (h1 _)
def ev:Nat->(CI->Nl->ME)×(CI->Nl->MT)
 | 0=>(λ_ _=>gK,λ_ _=>wZ)
 | n+1=>(Ul (ev n).1 (ev n).2,Uj (ev n).1 (ev n).2)
theorem oF:∀ n:Nat,(∀ c X,il k c X->∀ e,DE X e ((ev n).1 c e))/\(∀ c X,il k c X->∀ e,DT X e ((ev n).2 c e))
 | 0=>⟨λ_ _ _ _=>bX,λ_ _ _ _=>qA⟩
 | n+1=>⟨λ_ _ C e=>LJ (oF n).1 (oF n).2 C e,λ_ _ C e=>LH (oF n).1 (oF n).2 C e⟩
noncomputable def lK:Nl->Bool
 | .ListComp _ _ _ _=>false
 | .SetComp _ _ _ _=>false
 | .DictComp _ _ _ _ _=>false
 | _=>true
def iH(h:lK e=true):swapsWith e t l X.env=pure false:=by cases e<;>first | rfl | cases h
noncomputable def yk:Nl->Bool
 | .Tuple _ _ _=>true
 | .List _ _=>true
 | _=>false
def EW(h:yk t=false\/yk e=false):swappedStores [t] e X.env=pure Y:=by
 rcases h with h | h
 ·cases t<;>first | rfl | cases h
 ·cases t<;>first | rfl | (cases e<;>first | rfl | cases h)
def OT(c:CI)(E:CI->Nl->ME)(T:CI->Nl->MT)(x:Str)(px:Pos)(e:Nl):MS:=match e with
 | .ListComp elt gens scope p=>if c.all&&(c.sc.names.lookup x==U .local&&px.line==p.line&&!(scope.names.any λy=>y.1==x&&(y.2==.local||y.2==.cell))) then aX (nj c E T elt gens scope p.line) (sS c x) else if c.all&&c.sc.names.lookup x==U .cell then aX (nj c E T elt gens scope p.line) (sS c x) else fS
 | e=>if lK e then aX (E c e) (sS c x) else fS
noncomputable def Qt:Nl->Option (Nl×Nl)
 | .Tuple [a,b] _ _=>U (a,b)
 | _=>Y
def xz{a b:Nl}(h:Qt t=U (a,b)):∃ k p,t=.Tuple [a,b] k p:=by
 unfold Qt at h
 split at h
 ·cases h;exact⟨_,_,rfl⟩
 ·cases h
def nmP:Nl->Option (Str×Pos)
 | .Name x p=>U (x,p)
 | _=>Y
def BP{e:Nl}{x:Str}{p:Pos}(h:nmP e=U (x,p)):e=.Name x p:=by cases e<;>cases h;rfl
noncomputable def par2(t:Nl):Option (Str×Pos×Str×Pos):=(Qt t).bind λq=>(nmP q.1).bind λx=>(nmP q.2).bind λy=>U (x.1,x.2,y.1,y.2)
def Jd{x y:Str}{px py:Pos}(h:par2 t=U (x,px,y,py)):∃ k p,t=.Tuple [.Name x px,.Name y py] k p:=by
 obtain⟨⟨a,b⟩,h1,h⟩:=Yx.mp h
 obtain⟨x,h2,h⟩:=Yx.mp h
 obtain⟨y,h3,h⟩:=Yx.mp h
 cases h
 cases BP h2
 cases BP h3
 exact xz h1
theorem Ep{k:Nat}{a b:Nl}(h:(X.env.kindOf x==U NameKind.local&&X.env.kindOf y==U NameKind.local)=false):swappedStores [.Tuple [.Name x px,.Name y py] k p] (.Tuple [a,b] k2 p2) X.env=pure Y:=by
 unfold swappedStores
 simp only
 split
 ·rfl
 split
 ·rfl
 rw[YR]
 generalize hg:List.filterMap _ [Expr.Name x px,Expr.Name y py]=L
 have hL:L.length<=1:=by
  rw[<- hg,ZG,ZG]
  cases hx:(X.env.kindOf x==U NameKind.local) with
  | false=>simp only[hx,aaA,ZB,aaG];split<;>simp
  | true=>
   have hy:(X.env.kindOf y==U NameKind.local)=false:=by rw[hx,abA] at h;exact h
   simp only[hy,aaA,ZB,aaG];split<;>simp
 have h2:(L.length != [Expr.Name x px,Expr.Name y py].length)=true:=by
  rw[bne_iff_ne];show L.length≠2;omega
 rw[h2];rfl
noncomputable def Hi(c:CI)(x y:Str):Bool:=!(c.sc.names.lookup x==U .local&&c.sc.names.lookup y==U .local)
noncomputable def HX(c:CI)(E:CI->Nl->ME)(t e:Nl):Option MS:=match par2 t,Qt e with
 | some (x,px,y,py),U (a,b)=>if Hi c x y then U (aX (E c e) (SN c (E c) t)) else Y
 | _,_=>Y
def OF(C:il k c X){E:CI->Nl->ME}(hE:∀ e,DE X e (E c e)){m:MS}(h:HX c E t e=U m):DS X (.Assign [t] e pos) m:=by
 unfold HX at h
 split at h
 ·rename_i x px y py a b h1 h2
  obtain⟨k1,p1,rfl⟩:=Jd h1
  obtain⟨k2,p2,rfl⟩:=xz h2
  split at h
  ·rename_i hn
   cases h
   refine kJ jn <| M.Pm (hE _) (rC C hE _) rfl (Ep ?_) rfl
   unfold Hi at hn
   rw[Bool.not_eq_true'] at hn
   show(X.env.scope.names.lookup x==U NameKind.local&&X.env.scope.names.lookup y==U NameKind.local)=false
   rw[C.sc];exact hn
  cases h
 ·cases h
noncomputable def OU(c:CI)(E:CI->Nl->ME)(T:CI->Nl->MT)(t e:Nl):MS:=match t with
 | .Name x px=>OT c E T x px e
 | t=>match HX c E t e with
 | some m=>m
 | none=>if lK e&&cn t&&(!yk t||!yk e) then aX (E c e) (SN c (E c) t) else fS
def qa{s:Uo}:DS X s (aX m NW):=λ_ _ _ _ _ _ ⟨_,_,_,_,_,_,h,_⟩=>by
 rw[jn] at h
 obtain⟨_,_,h⟩:=Yx.mp h
 cases h
def Km(C:il k c X)(hE:∀ c X,il k c X->∀ e,DE X e (E c e))(hT:∀ c X,il k c X->∀ e,DT X e (T c e)):DS X (.Assign [.Name x px] e pos) (OT c E T x px e):=by
 have h1:=hE c X C
 have gen:∀ e,lK e=true->DS X (.Assign [.Name x px] e pos) (aX (E c e) (sS c x)):=λe hn=>by
  unfold sS
  split
  ·rename_i h1' h2
   exact kJ oW <| M.Az (by rw[C.N];exact C.nd) (by rw[C.N];exact cY h2) (by rw[C.sc];exact .inl h1') (h1 e) (iH hn) (.inr (by rw[C.sc];exact h1'))
  ·rename_i h1' h2
   split
   ·rename_i ha
    exact kJ oW <| M.Az (by rw[C.N];exact C.nd) (by rw[C.N];exact cY h2) (by rw[C.sc];exact .inr h1') (h1 e) (iH hn) (.inl (C.fn ha x))
   ·exact qa
  ·exact qa
 cases e with
 | ListComp elt gens scope p=>
  show DS X _ (if c.all&&(c.sc.names.lookup x==U .local&&px.line==p.line&&!(scope.names.any λy=>y.1==x&&(y.2==.local||y.2==.cell))) then aX (nj c E T elt gens scope p.line) (sS c x) else if c.all&&c.sc.names.lookup x==U .cell then aX (nj c E T elt gens scope p.line) (sS c x) else fS)
  split
  ·rename_i hw
   rw[YD] at hw
   have hw1:=hw.2
   simp only[YD,beq_iff_eq] at hw1
   have hl:=hw1.1.1
   unfold sS
   rw[hl]
   cases hi:oi x c.N with
   | none=>exact qa
   | some i=>
    have sw:(pure (X.env.blockKind==.function&&X.env.scope.names.lookup x==U .local&&px.line==p.line&&!(scope.names.any λy=>y.1==x&&(y.2==.local||y.2==.cell))):Sem Bool)=pure true:=by
     have hb:X.env.blockKind=.function:=by unfold Env.blockKind;rw[C.sc,C.fk];rfl
     rw[hb,C.sc]
     have:=hw.2
     simp only[Bool.and_assoc] at this ⊢
     rw[this];rfl
    unfold nj
    split
    ·rename_i tg it ifs a
     split
     ·rename_i h
      simp only[YD,beq_iff_eq] at h
      obtain⟨⟨h0,h1'⟩,h2⟩:=h
      subst h0
      obtain⟨B,C'⟩:=Iv C h2
      split
      ·exact Pl
      ·exact kJ CJ <| M.Gm (by rw[C.N];exact C.nd) (by rw[C.N];exact cY hi) (by rw[C.sc];exact .inl hl) C.calm B (Gh C (hE _ _ C)) (λA s H fp=>rC (C' A s H fp) (hE _ _ (C' A s H fp)) tg) (λA s H fp=>HV (hT _ _ (C' A s H fp)) ifs) (λA s H fp=>hE _ _ (C' A s H fp) elt) sw (kq h1') (.inr (by rw[C.sc];exact hl))
     ·intro _ _ _ _ _ _ ⟨_,_,_,_,_,_,h,_⟩
      rw[jn] at h
      obtain⟨_,z,h⟩:=Yx.mp h
      cases z
    ·intro _ _ _ _ _ _ ⟨_,_,_,_,_,_,h,_⟩
     rw[jn] at h
     obtain⟨_,z,h⟩:=Yx.mp h
     cases z
  ·split
   ·rename_i hw
    rw[YD,beq_iff_eq] at hw
    unfold sS
    rw[hw.2]
    cases hi:oi x c.N with
    | none=>exact qa
    | some i=>
     dsimp only
     rw[YR hw.1]
     refine kJ oW <| M.Az (by rw[C.N];exact C.nd) (by rw[C.N];exact cY hi) (by rw[C.sc];exact .inr hw.2) (yA C hE hT) ?_ (.inl (C.fn hw.1 x))
     show(pure (X.env.blockKind==.function&&X.env.scope.names.lookup x==U .local&&px.line==p.line&&!(scope.names.any λy=>y.1==x&&(y.2==.local||y.2==.cell))):Sem Bool)=pure false
     rw[C.sc,hw.2]
     have:((U NameKind.cell:Option NameKind)==U .local)=false:=by decide
     rw[this,aam];rfl
   ·exact gE
 | SetComp _ _ _ _=>exact gE
 | DictComp _ _ _ _ _=>exact gE
 | _=>exact gen _ rfl
def OS(C:il k c X)(hE:∀ c X,il k c X->∀ e,DE X e (E c e))(hT:∀ c X,il k c X->∀ e,DT X e (T c e)){t:Nl}:DS X (.Assign [t] e pos) (OU c E T t e):=by
 have gen:∀ t,DS X (.Assign [t] e pos) (match HX c E t e with | some m=>m | none=>if lK e&&cn t&&(!yk t||!yk e) then aX (E c e) (SN c (E c) t) else fS):=λt=>by
  split
  ·rename_i h
   exact OF C (hE _ _ C) h
  split
  ·rename_i h
   simp only[YD,aaW,Bool.not_eq_true'] at h
   refine kJ jn <| M.Pm (hE _ _ C e) (rC C (hE _ _ C) t) (iH h.1.1) (EW h.2) ?_
   rw[rK h.1.2];rfl
  ·exact gE
 cases t with
 | Name x px=>exact Km C hE hT
 | _=>exact gen _
def wz:List MS->MS
 | []=>bn
 | [m]=>m
 | m::r=>aF m (wz r)
theorem lF{F:Uo->MS}(h:∀ s,DS X s (F s)):∀ ss:List Uo,xq X ss (wz (ss.map F))
 | []=>Gz mJ <| M.Ih
 | [s]=>Ig (h s)
 | s::s'::r=>Gz Hr <| M.Pg (h s) (lF h (s'::r))
noncomputable def FT:Nl->Bool
 | .Constant (.str _) _ _=>true
 | _=>false
noncomputable def OR(c:CI)(E:Nl->ME)(op:Operator)(e:Nl):Nl->MS
 | .Name x _=>match op,c.sc.names.lookup x,oi x c.N with
  | .Add,U .local,U i=>fS
  | _,_,_=>fS
 | _=>fS
def OQ{E:Nl->ME}(C:il k c X)(hE:∀ e,DE X e (E e))(e:Nl)(t:Nl):DS X (.AugAssign t op e pos) (OR c E op e t):=by
 unfold OR
 split
 ·split
  ·rename_i h1 h2
   exact gE
  ·exact gE
 ·exact gE
noncomputable def exOf:Uo->Option Nl
 | .Expr x _=>U x
 | _=>Y
def Kd{s:Uo}{x:Nl}(h:exOf s=U x):∃ p,s=.Expr x p:=by cases s<;>cases h;exact⟨_,rfl⟩
noncomputable def Qg:Uo->Option (Nl×Nl)
 | .Assign ts v _=>ts.head?.bind λt=>if ts.length=1 then U (t,v) else Y
 | _=>Y
def wg{s:Uo}{t v:Nl}(h:Qg s=U (t,v)):∃ p,s=.Assign [t] v p:=by
 cases s<;>try cases h
 rename_i ts v' p
 obtain⟨t',h1,h⟩:=Yx.mp h
 split at h
 ·rename_i hl
  cases h
  cases ts with
  | nil=>cases hl
  | cons a r=>
   cases r with
   | nil=>cases h1;exact⟨_,rfl⟩
   | cons b r=>simp at hl
 ·cases h
noncomputable def hdOf:ExceptHandler->Option (Nl×Str×Uo)
 | .ExceptHandler g nm ss _=>g.bind λg=>nm.bind λnm=>ss.head?.bind λs=>if ss.length=1 then U (g,nm,s) else Y
def JO{k:ExceptHandler}{g:Nl}{nm:Str}{s:Uo}(h:hdOf k=U (g,nm,s)):∃ p,k=.ExceptHandler (U g) (U nm) [s] p:=by
 cases k
 rename_i g' nm' ss p
 obtain⟨g2,rfl,h⟩:=Yx.mp h
 obtain⟨n2,rfl,h⟩:=Yx.mp h
 obtain⟨s2,h1,h⟩:=Yx.mp h
 split at h
 ·rename_i hl
  cases h
  cases ss with
  | nil=>cases hl
  | cons a r=>
   cases r with
   | nil=>cases h1;exact⟨_,rfl⟩
   | cons b r=>simp at hl
 ·cases h
noncomputable def Lr(b:List Uo)(h:List ExceptHandler):Option (Str×Nl×List Nl×Str×Str×Str):=match b,h with
 | [s],[k]=>(exOf s).bind λx=>(nz x).bind λp=>(hdOf k).bind λm=>(Qg m.2.2).bind λa=>(gO m.1).bind λg=>(gO a.1).bind λy=>(gO a.2).bind λn'=>match p.2 with
  | e::es=>if n'==m.2.1 then U (p.1,e,es,g,m.2.1,y) else Y
  | []=>Y
 | _,_=>Y
def El{f g nm y:Str}{e:Nl}{es:List Nl}(q:Lr b h=U (f,e,es,g,nm,y)):∃ p1 p2 p3 p4 p5 p6 p7 p8,b=[.Expr (.Call (.Name f p1) (e::es) [] p2) p3]/\h=[.ExceptHandler (U (.Name g p4)) (U nm) [.Assign [.Name y p5] (.Name nm p6) p7] p8]:=by
 unfold Lr at q
 split at q
 ·obtain⟨x,h1,q1⟩:=Yx.mp q
  obtain⟨⟨f',es'⟩,h2,q2⟩:=Yx.mp q1
  obtain⟨⟨g',nm',s'⟩,h3,q3⟩:=Yx.mp q2
  obtain⟨⟨t,v⟩,h4,q4⟩:=Yx.mp q3
  obtain⟨g2,h5,q5⟩:=Yx.mp q4
  obtain⟨y2,h6,q6⟩:=Yx.mp q5
  obtain⟨n2,h7,q7⟩:=Yx.mp q6
  clear q q1 q2 q3 q4 q5 q6
  obtain⟨p1,rfl⟩:=Kd h1
  obtain⟨p2,p3,rfl⟩:=gF h2
  obtain⟨p4,rfl⟩:=JO h3
  obtain⟨p5,rfl⟩:=wg h4
  obtain⟨p6,rfl⟩:=cQ h5
  obtain⟨p7,rfl⟩:=cQ h6
  obtain⟨p8,rfl⟩:=cQ h7
  cases es' with
  | nil=>cases q7
  | cons a r=>
   dsimp only at q7
   split at q7
   ·rename_i z
    cases q7
    rw[beq_iff_eq] at z
    subst z
    exact⟨_,_,_,_,_,_,_,_,rfl,rfl⟩
   ·cases q7
 ·cases q
noncomputable def Qv(c:CI)(E:Nl->ME)(b:List Uo)(h:List ExceptHandler):Option MS:=match Lr b h with
 | some (f,e,es,g,nm,y)=>match c.gs.lookup ("try": Str),Ld c g,oi nm c.N,oi y c.N with
  | some (.thr f' n fy C fl),U (.hnd C'),U i,U j=>if f'=f/\C'=C/\c.sc.names.lookup f=U .globalImplicit/\dY f=true/\dY nm=true/\c.sc.names.lookup nm=U .local/\c.sc.names.lookup y=U .local/\(e::es).all cn=true then U (Hq n fy C fl (yB E (e::es)) i j) else Y
  | _,_,_,_=>Y
 | none=>Y
def Qu{E:Nl->ME}(C:il k c X)(hE:∀ e,DE X e (E e))(hx:c.nx=true){m:MS}(q:Qv c E b h=U m):DS X (.Try b h [] [] pos) m:=by
 have Z:=C.xf hx
 unfold Qv at q
 split at q
 ·rename_i f e es g nm y ht
  obtain⟨p1,p2,p3,p4,p5,p6,p7,p8,rfl,rfl⟩:=El ht
  split at q
  ·rename_i f' n fy A fl A' i j hl hg hi hj
   obtain⟨gg,o,G⟩:=eI C hg
   split at q
   ·rename_i z
    obtain⟨rfl,rfl,z1,z2,z3,z4,z5,z6⟩:=z
    cases q
    rw[ZT,YD] at z6
    exact M.SV (C.gs _ (ZP hl)) C.room (by show X.env.scope.names.lookup f'=_;rw[C.sc];exact z1) (fv hE _) (λv s' w=>by rw[Z.xe] at w;exact w) G gg (by rw[C.N];exact C.nd) (by rw[C.N];exact cY hi) (by rw[C.sc];exact z4)
     (by rw[C.N];exact cY hj) (by rw[C.sc];exact z5) Z.hs Z.hfm Z.hex (cj z2) (cj o) (cj z3) (uq z3) (bB z6.1) (gh z6.2)
   ·cases q
  ·cases q
 ·cases q
noncomputable def Uk(E:CI->Nl->ME)(T:CI->Nl->MT)(F:CI->Uo->MS)(c:CI):Uo->MS
 | .Return o _=>match o with | some e=>bq (E c e) | none=>λ_ S=>U (.rt .non S)
 | .Pass _=>bn
 | .Break _=>λenv S=>U (.bk env S)
 | .Continue _=>λenv S=>U (.ct env S)
 | .Expr e _=>if FT e then bn else if lK e then fo (E c e) else fS
 | .If t a b _=>bY (T c t) (wz (a.map (F c))) (wz (b.map (F c)))
 | .Assign ts e _=>match ts with | [t]=>OU c E T t e | _=>fS
 | .AugAssign t op e _=>OR c (E c) op e t
 | .Try body hs els fin _=>match hs,els,fin with | _::_,[],[]=>if c.nx then(match Qv c (E c) body hs with | some m=>m | none=>fS) else fS | _,_,_=>fS
 | .While tst body els _=>match els with | []=>fR (T c tst) (wz (body.map (F c))) | _=>fS
 | .For tg it body els _=>match els with | []=>if kM it then(if UG c it then lg (evI c (E c) tg it) (SN c (E c) tg) (wz (body.map (F c))) else gA (E c it) (SN c (E c) tg) (wz (body.map (F c)))) else fS | _=>fS
 | _=>fS
def LI{F:CI->Uo->MS}(hE:∀ c X,il k c X->∀ e,DE X e (E c e))(hT:∀ c X,il k c X->∀ e,DT X e (T c e))(hF:∀ c X,il k c X->∀ e,DS X e (F c e))(C:il k c X)(s:Uo):DS X s (Uk E T F c s):=by
 have h1:=hE c X C
 have h2:=hT c X C
 have h3:=hF c X C
 cases s with
 | Return o p=>cases o with | none=>exact SW | some e=>exact kJ Hs <| M.XB (h1 e)
 | Pass p=>exact kJ mJ <| M.SX
 | Break p=>exact Pj
 | Continue p=>exact Dv
 | Expr e p=>
  show DS X _ (if FT e then bn else if lK e then fo (E c e) else fS)
  split
  ·rename_i h
   unfold FT at h
   split at h
   ·exact kJ mJ <| M.XC
   ·cases h
  ·split
   ·rename_i h;exact kJ CC <| M.Ta (h1 e) (iH h)
   ·exact gE
 | If t a b p=>exact kJ Hw <| M.ds_if (h2 t) (lF h3 a) (lF h3 b)
 | Assign ts e p=>
  show DS X _ (match ts with | [t]=>OU c E T t e | _=>fS)
  split
  ·exact OS C hE hT
  ·exact gE
 | AugAssign t op e p=>exact OQ C h1 e t
 | Try body hs els fin p=>
  show DS X _ (match hs,els,fin with | _::_,[],[]=>if c.nx then(match Qv c (E c) body hs with | some m=>m | none=>fS) else fS | _,_,_=>fS)
  split
  ·split
   ·rename_i hx
    split
    ·rename_i m hm
     exact Qu C h1 hx hm
    ·exact gE
   ·exact gE
  ·exact gE
 | While tst body els p=>
  cases els with
  | nil=>exact kJ xU <| M.Ph C.xe (h2 tst) (lF h3 body)
  | cons _ _=>exact gE
 | For tg it body els p=>
  cases els with
  | nil=>
   show DS X _ (if kM it then(if UG c it then lg (evI c (E c) tg it) (SN c (E c) tg) (wz (body.map (F c))) else gA (E c it) (SN c (E c) tg) (wz (body.map (F c)))) else fS)
   split
   ·rename_i h
    split
    ·exact kJ Hx <| M.Pi C.xe C.calm (Gh C h1) (rC C h1 tg) (lF h3 body) (kq h)
    ·exact kJ CA <| M.SZ C.xe C.calm (h1 it) (rC C h1 tg) (lF h3 body) (kq h)
   ·exact gE
  | cons _ _=>exact gE
 | _=>exact gE
def evS(n:Nat):Nat->CI->Uo->MS
 | 0=>λ_ _=>fS
 | m+1=>Uk (ev n).1 (ev n).2 (evS n m)
theorem Gf(n:Nat):∀ m:Nat,∀ c X,il k c X->∀ s,DS X s (evS n m c s)
 | 0=>λ_ _ _ _=>gE
 | m+1=>λ_ _ C s=>LI (oF n).1 (oF n).2 (Gf n m) C s
def LA:Nl->Option (Nl×Nl)
 | .Subscript o q _=>U (o,q)
 | _=>Y
def tQ{e o q:Nl}(h:LA e=U (o,q)):∃ p,e=.Subscript o q p:=by cases e<;>cases h;exact⟨_,rfl⟩
def Um:Uo->Option Nl
 | .Return v _=>v
 | _=>Y
def EG{s:Uo}{e:Nl}(h:Um s=U e):∃ p,s=.Return (U e) p:=by cases s<;>cases h;exact⟨_,rfl⟩
noncomputable def dAsg(s:Uo):Option (Str×Str×Nl):=(Qg s).bind λa=>(gO a.1).bind λb=>(LA a.2).bind λq=>(gO q.1).bind λx=>(LA q.2).bind λ_=>U (b,x,q.2)
def KA{s:Uo}{b x:Str}{ix:Nl}(h:dAsg s=U (b,x,ix)):nZ ix/\∃ pb pt ps pa,s=.Assign [.Name b pb] (.Subscript (.Name x pt) ix ps) pa:=by
 obtain⟨⟨t,v⟩,h1,h⟩:=Yx.mp h
 obtain⟨b,h2,h⟩:=Yx.mp h
 obtain⟨⟨o,i⟩,h3,h⟩:=Yx.mp h
 obtain⟨x,h4,h⟩:=Yx.mp h
 obtain⟨⟨o2,i2⟩,h5,h⟩:=Yx.mp h
 cases h
 obtain⟨pa,rfl⟩:=wg h1
 obtain⟨pb,rfl⟩:=cQ h2
 obtain⟨ps,rfl⟩:=tQ h3
 obtain⟨pt,rfl⟩:=cQ h4
 obtain⟨p,rfl⟩:=tQ h5
 exact⟨by intro _ _;rfl,_,_,_,_,rfl⟩
noncomputable def dRet(s:Uo):Option (Str×Nl×List Nl):=(Um s).bind λv=>(nz v).bind λp=>p.2.head?.bind λe=>U (p.1,e,p.2.tail)
def Kz{s:Uo}{b:Str}{e:Nl}{es:List Nl}(h:dRet s=U (b,e,es)):∃ p pc pr,s=.Return (U (.Call (.Name b p) (e::es) [] pc)) pr:=by
 obtain⟨v,h1,h⟩:=Yx.mp h
 obtain⟨⟨b,l⟩,h2,h⟩:=Yx.mp h
 obtain⟨e,h3,h⟩:=Yx.mp h
 cases h
 obtain⟨pr,rfl⟩:=EG h1
 obtain⟨p,pc,rfl⟩:=gF h2
 cases l<;>cases h3
 exact⟨_,_,_,rfl⟩
noncomputable def UT(c:CI)(b x:Str)(ix:Nl)(e:Nl)(es:List Nl):Option MS:=match oi b c.N,Ld c x with
 | some i,U (.ftab l)=>if dY b&&c.sc.names.lookup b==U .local&&(e::es).all cn then U (ku l i ((ev 40).1 c ix) (yB ((ev 40).1 c) (e::es))) else Y
 | _,_=>Y
noncomputable def AE(c:CI):List Uo->Option MS
 | [s,t]=>match dAsg s,dRet t with
  | some (b,x,ix),U (b',e,es)=>if b'==b then UT c b x ix e es else Y
  | _,_=>Y
 | _=>Y
def Ku(C:il k c X){m:MS}(h:AE c body=U m):xq X body m:=by
 unfold AE at h
 split at h
 ·rename_i s t
  split at h
  ·rename_i b x ix b' e es h1 h2
   obtain⟨hs,pb,pt,ps,pa,rfl⟩:=KA h1
   obtain⟨p,pc,pr,rfl⟩:=Kz h2
   split at h
   ·rename_i hb
    rw[beq_iff_eq] at hb;subst hb
    unfold UT at h
    split at h
    ·rename_i i l hi hg
     obtain⟨g,o,G⟩:=eI C hg
     split at h
     ·rename_i hc
      simp only[YD,beq_iff_eq] at hc
      obtain⟨⟨o1,h3⟩,h4⟩:=hc
      cases h
      rw[ZT,YD] at h4
      exact Gz CD <| M.Pf G g (cj o) ((oF 40).1 _ _ C ix) hs C.room (fv ((oF 40).1 _ _ C) _) (by rw[C.N];exact C.nd) (by rw[C.N];exact cY hi) (by rw[C.sc];exact .inl h3) (by rw[C.sc];exact .inl h3) (.inr (by rw[C.sc];exact h3)) (cj o1) (uq o1)
       (by rw[C.N];exact(Yz.mp (cY hi)).1) (bB h4.1) (gh h4.2)
     ·cases h
    ·cases h
   ·cases h
  ·cases h
 ·cases h
def ik(c:CI)(body:List Uo):MS:=match AE c body with
 | some m=>m
 | none=>wz (body.map (evS 40 20 c))
def OP(C:il k c X)(body:List Uo):xq X body (ik c body):=by
 unfold ik
 cases h:AE c body with
 | some m=>exact Ku C h
 | none=>exact lF (Gf 40 20 c X C) body
end
end
def iJ(N:List Str)(st:Uo)(gs:List (Str×GI))(mt:List Nat):CI:=⟨N,ar st,true,gs,mt,true⟩
def GK(P:Of)(w:RG)(K:adf)(mg:Str->Option gV)(base:Ws)(k:Nat)(p:Str×GI):Prop:=match p.2 with
 | .fn n f=>Fn P w K mg base k p.1 n f
 | .con d=>GC K mg p.1 d
 | .blt=>mg p.1=Y
 | .tab l=>wj w K mg p.1 l
 | .ftab l=>FTab P w K mg base k p.1 l
 | .thr f n fy C fl=>FnY P w K mg base k f n fy C fl
 | .cls C b=>ClsOk K mg p.1 C b
 | .hnd C=>DZ K mg p.1 C
 | .rse C fl=>2<=k/\DV P w K mg base p.1 C fl
 | .fld C fl=>wp K C fl
def Pu{K:adf}{k:Nat}{st:Uo}{gs:List (Str×GI)}{mt:List Nat}
  (F:bG K mg x st) (Sc:aN N ps (ar st)) (hb:pC x st ps) (hg:∀ p∈gs,GK P w K mg base k p) :
  Fn P w K mg base (k+1) x ps.length (aQ N (ik (iJ N st gs mt) (aD st)) ps.length):=
 XH F Sc hb λa cdv A outer s H E hr=>OP (k:=k) ⟨rfl,Sc.nd,rfl,Sc.kind,λ_ _=>rfl,rfl,hr,abW,λ_=>⟨rfl,rfl,rfl,rfl⟩,λp hp=>by
  have:=hg p hp
  obtain⟨x,g⟩:=p
  cases g<;>exact this⟩ _
section
variable{k:Nat}{c:CI}{X:Cx}{A:tx}{fl:Str}{E':XK}{pos:Pos}
def LP:List MY->MY
 | []=>RO bn
 | [m]=>m
 | m::r=>Cr m (LP r)
theorem sW{F:Uo->MY}(h:∀ s,DY X A fl E' s (F s)):∀ ss:List Uo,Uf X A fl E' ss (LP (ss.map F))
 | []=>by show Uf X A fl E' [] (RO bn);rw[mJ];exact SQ
 | [s]=>SO (h s)
 | s::s'::r=>OX (h s) (sW h (s'::r))
noncomputable def EI(A:tx)(fl:Str)(c:CI)(E:Nl->ME)(ex:Nl):Option MY:=match nz ex with
 | some (x,[a])=>match Ld c x with
  | some (.rse C f)=>if C=A/\f=fl/\cn a=true then U (pX (E a)) else Y
  | _=>Y
 | _=>Y
def IV{E:Nl->ME}(C:il k c X)(O:XOk X E')(hE:∀ e,DE X e (E e)){m:MY}(h:EI A fl c E ex=U m):DY X A fl E' (.Raise (U ex) Y pos) m:=by
 unfold EI at h
 split at h
 ·rename_i x a hc
  obtain⟨p,p2,rfl⟩:=gF hc
  split at h
  ·rename_i C' f hg
   obtain⟨g,o,h2,R⟩:=eI C hg
   split at h
   ·rename_i z
    obtain⟨rfl,rfl,z⟩:=z
    cases h
    exact OZ R (C.room.mono h2) g (hE a) C.calm O (cj o) (bB z)
   ·cases h
  ·cases h
 ·cases h
noncomputable def LG(A:tx)(fl:Str)(E:CI->Nl->ME)(T:CI->Nl->MT)(F:CI->Uo->MS)(Y0:CI->Uo->MY)(c:CI):Uo->MY
 | .Raise (U ex) Y _=>match EI A fl c (E c) ex with | some m=>m | none=>RO fS
 | .If t a b _=>MZ (T c t) (LP (a.map (Y0 c))) (LP (b.map (Y0 c)))
 | s=>RO (F c s)
def LF{E:CI->Nl->ME}{T:CI->Nl->MT}{F:CI->Uo->MS}{Y0:CI->Uo->MY}(hE:∀ c X,il k c X->∀ e,DE X e (E c e))(hT:∀ c X,il k c X->∀ e,DT X e (T c e))(hF:∀ c X,il k c X->∀ e,DS X e (F c e))(hY:∀ c X,il k c X->XOk X E'->∀ s,DY X A fl E' s (Y0 c s))(C:il k c X)(O:XOk X E')(s:Uo):DY X A fl E' s (LG A fl E T F Y0 c s):=by
 have h1:=hE c X C
 have h4:=hY c X C O
 unfold LG
 split
 ·split
  ·rename_i h;exact IV C O h1 h
  ·exact OY gE
 ·exact dy_if (hT c X C _) (sW h4 _) (sW h4 _)
 ·exact OY (hF c X C _)
def evY(A:tx)(fl:Str)(n:Nat):Nat->CI->Uo->MY
 | 0=>λ_ _=>RO fS
 | m+1=>LG A fl (ev n).1 (ev n).2 (evS n m) (evY A fl n m)
theorem OD(n:Nat):∀ m:Nat,∀ c X,il k c X->XOk X E'->∀ s,DY X A fl E' s (evY A fl n m c s)
 | 0=>λ_ _ _ _ _=>OY gE
 | m+1=>λ_ _ C O s=>LF (oF n).1 (oF n).2 (Gf n m) (OD n m) C O s
def SI(A:tx)(fl:Str)(c:CI)(body:List Uo):MY:=LP (body.map (evY A fl 40 20 c))
end
def cOfY(N:List Str)(st:Uo)(gs:List (Str×GI))(mt:List Nat):CI:=⟨N,ar st,true,gs,mt,false⟩
def Vj{K:adf}{k:Nat}{st:Uo}{gs:List (Str×GI)}{mt:List Nat}
  (F:bG K mg x st) (Sc:aN N ps (ar st)) (hb:pC x st ps) (hg:∀ p∈gs,GK P w K mg base k p) :
  FnY P w K mg base (k+1) x ps.length (zk N (SI C fl (cOfY N st gs mt) (aD st)) ps.length) C fl:=
 Xh F Sc hb λa cdv A outer s H E hr=>sW (OD 40 20 _ _ (k:=k) ⟨rfl,Sc.nd,rfl,Sc.kind,λ_ _=>rfl,rfl,hr,PassesOwn.leaving,(λz=>by cases z),λp hp=>by
  have:=hg p hp
  obtain⟨x,g⟩:=p
  cases g<;>exact this⟩ xok) _
def GKs(P:Of)(w:RG)(K:adf)(mg:Str->Option gV)(base:Ws)(k:Nat):List (Str×GI)->Prop
 | []=>True
 | p::r=>GK P w K mg base k p/\GKs P w K mg base k r
theorem GKs.mem{K:adf}{k:Nat}:∀ {gs:List (Str×GI)},GKs P w K mg base k gs->∀ p∈gs,GK P w K mg base k p
 | q::r,h,p,hp=>by
  rcases Zd.mp hp with rfl | hp
  ·exact h.1
  ·exact GKs.mem h.2 p hp
def Wx{K:adf}{k:Nat}{st:Uo}{mt:List Nat}(F:bG K mg "law" st)(hfa:mg "law" = U (.ref fa))(Sc:aN N ["_law_script"] (ar st))
  (hbt:∀ (kV doc pm:gV) (an:Option tx) (cdv ct v:gV),bindArgs (W.fnOf "law" "law" (fP st) (aD st) (ar st) .none kV doc pm an cdv ct) ⟨[v],[]⟩=pure [(("_law_script":Str),v)])
  (hg:∀ base,GKs P w K mg base k gs) :
  ∃ fd:FuncData,(∀ (s:td) (v:gV),BindsTo s fd ⟨[v],[]⟩ [("_law_script",v)])/\∀ base:Ws,K.In base->base.Ns adb mg->FnOk P w K mg base Eb (k+1) fa fd ["_law_script"] (LK K 1 (aQ N (ik (iJ N st gs mt) (aD st)) 1)):=
 Ww F hfa Sc hbt λbase a cdv A outer s H E hr=>OP (k:=k) ⟨rfl,Sc.nd,rfl,Sc.kind,λ_ _=>rfl,rfl,hr,abW,λ_=>⟨rfl,rfl,rfl,rfl⟩,λp hp=>by
  have:=GKs.mem (hg base) p hp
  obtain⟨x,g⟩:=p
  cases g<;>exact this⟩ _
section
variable{P:List gV->Prop}
def jg(h:P []):∀ us:List gV,us.length=0->P us:=λus e=>by rw[ZR e];exact h
def cA{n:Nat}(h:∀ a,∀ us:List gV,us.length=n->P (a::us)):∀ us:List gV,us.length=n+1->P us:=λus e=>by
 cases us with
 | nil=>cases e
 | cons a us=>exact h a us (Nat.succ.inj e)
end
def Ma(N:List Str)(st:Uo)(gs:List (Str×GI))(mt:List Nat)(x:Str)(a:Nat):Nat->List D->ac->Option (D×ac)
 | 0=>λ_ _=>Y
 | n+1=>aQ N (ik (iJ N st ((x,.fn a (Ma N st gs mt x a n))::gs) mt) (aD st)) a
section
variable{P:Of}{w:RG}{K:adf}{mg:Str->Option gV}{base:Ws}{k:Nat}{x:Str}{st:Uo}{N ps:List Str}{gs:List (Str×GI)}{mt:List Nat}
theorem GK.up{k':Nat}(h:k<=k'):∀ {p:Str×GI},GK P w K mg base k p->GK P w K mg base k' p
 | (_,.fn _ _),g=>Fn.up g h
 | (_,.con _),g=>g
 | (_,.blt),g=>g
 | (_,.tab _),g=>g
 | (_,.ftab _),g=>FTab.up g h
 | (_,.thr _ _ _ _ _),g=>FnY.up g h
 | (_,.cls _ _),g=>g
 | (_,.hnd _),g=>g
 | (_,.rse _ _),g=>⟨YW g.1 h,g.2⟩
 | (_,.fld _ _),g=>g
def Su(F:bG K mg x st)(Sc:aN N ps (ar st))(hb:pC x st ps):Fn P w K mg base (k+1) x ps.length (λ_ _=>Y):=by
 obtain⟨a,fd,F,hmg⟩:=F.ex
 exact UL F Sc hmg (F.binds hb) λcdv A outer s H E hr=>⟨fS,XA,λds S d S' _ _ _ h=>by cases h⟩
theorem LZ(F:bG K mg x st)(Sc:aN N ps (ar st))(hb:pC x st ps)(hg:GKs P w K mg base k gs):∀ n,Fn P w K mg base (k+1+n) x ps.length (Ma N st gs mt x ps.length n)
 | 0=>Su F Sc hb
 | n+1=>Pu (k:=k+1+n) F Sc hb λp hp=>by
  rcases Zd.mp hp with rfl | hp
  ·exact LZ F Sc hb hg n
  ·exact GK.up (by omega) (GKs.mem hg p hp)
end
noncomputable def kE(P:Params)(x:Str)(t:Nat)(v:gV):DictEntry:=⟨PyData.keyHash P x,.str x t,v⟩
noncomputable def kC(x:Str)(t l n a b:Nat)(u v:gV)(c d:Nat):Obj:=⟨.type "code",Y,.fields #[.str x t,.str x (t+1),.str "/claim/cut.py" (t+2),.int l 0,.int n 0,.int 0 0,.int 0 0,.int 3 0,.ref a,.bool true,.int 181 0,.ref b,.none,u,v,.ref c,.int d 0,.int l 0,.str "/claim/cut.py" (d+1)],#[]⟩
def kF(x:Str)(st:Uo)(m:Str)(t c:Nat):Obj:=⟨.type "function",Y,.func (W.fnOf x x (fP st) (aD st) (ar st) .none .none .none (.str m t) Y (.ref c) .none),#[]⟩
def cP{K:adf}(X:K.In h)(G:h.Ns adb mg){st:Uo}(m:Str)(f t c:Nat)(e:(W.nsIn K adb x,K.lookup f,W.codeIn K (.ref c) x,W.keepIn K (.ref f))=(U (U (.ref f)),U (kF x st m t c),true,true):=by kernel_rfl):bG K mg x st:=by
 have e1:=congrArg (·.1) e
 have e2:=congrArg (·.2.1) e
 have e3:=congrArg (·.2.2.1) e
 have e4:=congrArg (·.2.2.2) e
 exact⟨_,_,Xa (st:=st) (show K.lookup f=U ⟨.type "function",Y,.func (W.fnOf x x (fP st) (aD st) (ar st) .none .none .none (.str m t) Y (.ref c) .none),#[]⟩ from e2) e3 e4,aaz X G e1⟩
def bo{K:adf}{k:Nat}{st:Uo}{mt:List Nat}
  (F:bG K mg x st) (Sc:aN N ps (ar st)) (hb:pC x st ps) (hg:GKs P w K mg base k gs):Fn P w K mg base (k+1) x ps.length (aQ N (ik (iJ N st gs mt) (aD st)) ps.length):=Pu F Sc hb (GKs.mem hg)
def jv{m:MS}(h:ik c b=m):aQ N (ik c b) n=aQ N m n:=by rw[h]
noncomputable def kX(x:Str)(C N:Nat)(bs bm sub:List gV)(a t u:Nat):Obj:=excClassObj x x C N bs bm true [] sub false Y Y (U (.ref a)) Y (U (.str x t)) (U (.str x u)) (U (.bool true)) "ValueError.__new__"
def kI(q:Str)(st:Uo)(m:Str)(t c:Nat):Obj:=⟨.type "function",Y,.func (W.fnOf "__init__" q (fP st) (aD st) (ar st) .none .none .none (.str m t) Y (.ref c) .none),#[]⟩
noncomputable def Tz(s:Uo):Uo:=match s with
 | .ClassDef _ _ _ (d::_) _ _ _ _ _ _ _=>d
 | s=>s
noncomputable def strB(es:Array DictEntry):Bool:=es.toList.all λe=>match e.key with | .str _ _=>true | _=>false
def QB(h:strB es=true):StrKeys es:=λe he=>by
 have:=YO.mp h e (by simpa using he)
 split at this
 ·exact⟨_,_,by assumption⟩
 ·cases this
noncomputable def nsX(K:adf)(N:tx)(y:Str):Option (Option gV):=match K.lookup N with
 | some ⟨_,_,.dict es _,_⟩=>if strB es=true then U ((es.toList.find? (·.key.isStr y)).map (·.val)) else Y
 | _=>Y
def MJ{K:adf}{v:Option gV}(h:nsX K N y=U v):∃ m:Str->Option gV,m y=v/\∀ h:Ws,K.In h->h.Ns N m:=by
 unfold nsX at h
 split at h
 ·rename_i c d es n sl q
  split at h
  ·rename_i hs
   cases h
   exact⟨nsFind es,by unfold nsFind findBy;rw[<- acX],λh X=>⟨_,es,n,X _ _ q,rfl,QB hs,λ_=>rfl⟩⟩
  ·cases h
 ·cases h
def isK{K:adf}{bs sub:List gV}(e:K.lookup C=U (kX x C N bs bm sub a t u)):wn K C bm:=⟨_,_,_,_,_,_,_,_,_,_,_,_,_,_,_,_,λh X=>X _ _ e⟩
section
variable{w:RG}{K:adf}{h:Ws}{mg:Str->Option gV}
def rseK(X:K.In h)(G:h.Ns adb mg){q:Str}{st:Uo}(md:Str)(C N Gd NG f c t aC tC uC aG tG uG:Nat)(subC subG:List gV)
  (hb:aD st=[.Assign [.Attribute (.Name a p1) fl p2] (.Name b p3) p4]) (Sc:aN [a,b] [a,b] (ar st))
  (bd:∀ us:List gV,us.length=2->bindArgs (W.fnOf "__init__" q (fP st) (aD st) (ar st) .none .none .none (.str md t) Y (.ref c) .none) ⟨us,[]⟩=pure ([a,b].zip us))
  (a1:(a==("__debug__":Str))=false) (a2:(a==("__classdict__":Str))=false) (b1:(b==("__debug__":Str))=false) (b2:(b==("__classdict__":Str))=false)
  (e:(W.nsIn K adb x,K.lookup C,K.lookup Gd,nsX K N "__init__",nsX K NG "__init__",K.lookup f,W.codeIn K (.ref c) q) =
   (U (U (.ref C)),U (kX x C N [.ref Gd] (.ref Gd::HT.kj) subC aC tC uC),U (kX g Gd NG [.type "ValueError"] HT.kj subG aG tG uG),U (U (.ref f)),U Y,U (kI q st md t c),true))
  (ec:(W.findIn K (.ref C) "__setattr__",HT.sZ K C,W.takerIn K C fl,W.hasDictIn K C)=(U (U (.builtin "object.__setattr__")),true,U Y,true)) :
  ∀ P base,DV P w K mg base x C fl:=λP base=>by
 have e1:=congrArg (·.1) e
 have e2:=congrArg (·.2.1) e
 have e3:=congrArg (·.2.2.1) e
 obtain⟨mN,hm,hN⟩:=MJ (congrArg (·.2.2.2.1) e)
 obtain⟨mG,hg,hG⟩:=MJ (congrArg (·.2.2.2.2.1) e)
 have e6:=congrArg (·.2.2.2.2.2.1) e
 have e7:=congrArg (·.2.2.2.2.2.2) e
 dsimp only at e1 e2 e3 e6 e7
 have cc:wq K C fl:=⟨congrArg (·.1) ec,congrArg (·.2.1) ec,congrArg (·.2.2.1) ec,congrArg (·.2.2.2) ec⟩
 refine⟨f,⟨_,_,N,_,_,_,_,_,_,_,_,_,_,_,_,_,_,mN,HT.kj,"ValueError",_,hm,F.excBase_ValueError,(show(Value.ref Gd::HT.kj).contains (.type "BaseException")=true from rfl),λh X=>⟨X _ _ e2,hN h X,.own (X _ _ e3) (hG h X) hg .base,_,X _ _ e6,rfl⟩⟩,?_,aaz X G e1⟩
 have F:=Sl (P:=P) (w:=w) (K:=K) (mg:=mg) (base:=base) (k:=0) (C:=C) (f:=f) (fl:=fl) (name:="__init__") (qual:=q) (a:=a) (b:=b) (params:=fP st) (scope:=ar st) (p1:=p1) (p2:=p2) (p3:=p3) (pos:=p4) (dV:=.none) (kV:=.none) (doc:=.none) (pm:=.str md t) (cdv:=.ref c) (ct:=.none) (an:=Y)
  (by rw[<- hb];exact e6) e7 Sc a1 a2 b1 b2
 rw[<- hb] at F
 exact Sk F (Binds.all bd) rfl cc
def hndK(X:K.In h)(G:h.Ns adb mg)(C N Gd NG aC tC uC aG tG uG:Nat)(bs bm bsG bmG subC subG:List gV)
  (e:(W.nsIn K adb g,K.lookup C,K.lookup Gd,(Value.ref C::bm).contains (.ref Gd),bmG.contains (.type "BaseException"))=(U (U (.ref Gd)),U (kX x C N bs bm subC aC tC uC),U (kX g Gd NG bsG bmG subG aG tG uG),true,true)):DZ K mg g C:=
 ⟨Gd,bm,bmG,aaz X G (congrArg (·.1) e),isK (congrArg (·.2.1) e),isK (congrArg (·.2.2.1) e),congrArg (·.2.2.2.1) e,congrArg (·.2.2.2.2) e⟩
def Tx(X:K.In h)(G:h.Ns adb mg){b:Bool}(C A:Nat)(O:KY K C)(e:(W.nsIn K adb x,W.kitOne K (.ref C) (.ref A))=(U (U (.ref A)),U b)):ClsOk K mg x C b:=
 ⟨.ref A,.ref A,.inl (aaz X G (congrArg (·.1) e)),rfl,λ_ z=>z,congrArg (·.2) e,O⟩
def clsT(X:K.In h)(G:h.Ns adb mg){x:Str}{b:Bool}(C:Nat)(O:KY K C)(hn:x≠"__name__")(hb:bootBuiltins x=U (.type T))(e:(W.nsIn K adb x,W.kitOne K (.ref C) (.type T))=(U Y,U b)):ClsOk K mg x C b:=
 ⟨.ty T,.type T,.inr ⟨ZI X G (congrArg (·.1) e),hb,hn⟩,rfl,λ_ z=>z,congrArg (·.2) e,O⟩
end
def meY{m:MY}(h:SI A fl c b=m):zk N (SI A fl c b) n=zk N m n:=by rw[h]
section
variable{env e:bh}{S S':ac}{x y d:D}{f g:ac->D->D->Option D}{a b c:ME}{ms:MA}{t u:MT}{k l:Bool}{p q:MS}{tg:MG}
@[simp high] theorem ob{α β:Type}{a:α}{f:α->Option β}:(U a).bind f=f a:=id rfl
@[simp high] theorem obn{α β:Type}{f:α->Option β}:(Y:Option α).bind f=Y:=id rfl
@[simp high] theorem oj{α:Type}{a:Option α}:(U a).join=a:=rfl
@[simp high] theorem bK{α:Type}{a:α}{l:List α}:(a::l)[0]?=U a:=rfl
@[simp high] theorem bN{α:Type}{a b:α}{l:List α}:(a::b::l)[1]?=U b:=rfl
@[simp high] theorem bO{α:Type}{a:α}{l:List α}{i:Nat}:(a::l)[i+1]?=l[i]?:=rfl
@[simp high] theorem fL{α:Type}{a b:α}{l:List α}:(a::l).set 0 b=b::l:=rfl
@[simp high] theorem gI{α:Type}{a b:α}{l:List α}{i:Nat}:(a::l).set (i+1) b=a::l.set i b:=rfl
noncomputable def xh(S:ac)(z:D):Option (D×ac):=U (z,S)
@[simp] theorem ak:xh S d=U (d,S):=rfl
@[simp] theorem bp:mC d env S=U (d,S):=by rw[uW];rfl
@[simp] theorem aj:af i env S=(env[i]?).join.bind (xh S):=by rw[Hn];rfl
noncomputable def WL(f:ac->D->D->Option D)(x:D)(q:D×ac):Option (D×ac):=(f q.2 x q.1).bind (xh q.2)
noncomputable def kOp1(f:ac->D->D->Option D)(b:ME)(env:bh)(q:D×ac):Option (D×ac):=(b env q.2).bind (WL f q.1)
@[simp] theorem av:kOp1 f b env (x,S)=(b env S).bind (WL f x):=id rfl
@[simp] theorem ax:WL f x (y,S)=(f S x y).bind (xh S):=id rfl
@[simp] theorem aJ:ay f a b env S=(a env S).bind (kOp1 f b env):=by rw[kP];rfl
noncomputable def Ux(q:D×ac):Option (Bool×ac):=match q.1 with | .bl k=>U (k,q.2) | _=>Y
@[simp] theorem aI:Ux (.bl k,S)=U (k,S):=id rfl
@[simp] theorem aK:aB a env S=(a env S).bind Ux:=by rw[uP];rfl
noncomputable def WQ(g:ac->D->D->Option D)(y:D)(q:D×ac):Option (D×ac):=(g q.2 y q.1).bind (xh q.2)
noncomputable def NJ(g:ac->D->D->Option D)(c:ME)(env:bh)(y:D)(S:ac)(z:D):Option (D×ac):=match z with
 | .bl true=>(c env S).bind (WQ g y)
 | .bl false=>U (.bl false,S)
 | _=>Y
noncomputable def Sd(f g:ac->D->D->Option D)(c:ME)(env:bh)(x:D)(q:D×ac):Option (D×ac):=(f q.2 x q.1).bind (NJ g c env q.1 q.2)
noncomputable def WR(f g:ac->D->D->Option D)(b c:ME)(env:bh)(q:D×ac):Option (D×ac):=(b env q.2).bind (Sd f g c env q.1)
@[simp] theorem kCh1_s:WR f g b c env (x,S)=(b env S).bind (Sd f g c env x):=id rfl
@[simp] theorem kCh2_s:Sd f g c env x (y,S)=(f S x y).bind (NJ g c env y S):=id rfl
@[simp] theorem kChz_t:NJ g c env y S (.bl true)=(c env S).bind (WQ g y):=id rfl
@[simp] theorem kChz_f:NJ g c env y S (.bl false)=U (.bl false,S):=id rfl
@[simp] theorem kCh3_s:WQ g y (x,S)=(g S y x).bind (xh S):=id rfl
@[simp] theorem mChain_s:dg f g a b c env S=(a env S).bind (WR f g b c env):=by
 rw[qT];unfold M.dg WR Sd NJ
 congr 1
def CN(q:D×ac):Option (Bool×ac):=(tP q.2 q.1).bind λk=>U (k,q.2)
@[simp] theorem dH:CN (.bl k,S)=U (k,S):=id rfl
@[simp] theorem kTru_n:CN (.non,S)=U (false,S):=id rfl
@[simp] theorem kTru_i:CN (.int i,S)=U (i != 0,S):=id rfl
@[simp] theorem kTru_t:CN (.tup xs,S)=U (!xs.isEmpty,S):=id rfl
@[simp] theorem kTru_l:CN (.lst xs,S)=U (!xs.isEmpty,S):=id rfl
@[simp] theorem df:da a env S=(a env S).bind CN:=by rw[zT];rfl
noncomputable def NK(u:MT)(env:bh)(q:Bool×ac):Option (Bool×ac):=if q.1=true then u env q.2 else U (false,q.2)
noncomputable def WK(u:MT)(env:bh)(q:Bool×ac):Option (Bool×ac):=if q.1=true then U (true,q.2) else u env q.2
noncomputable def UA(q:Bool×ac):Option (Bool×ac):=U (!q.1,q.2)
@[simp] theorem qj:NK u env (true,S)=u env S:=id rfl
@[simp] theorem HH:NK u env (false,S)=U (false,S):=id rfl
@[simp] theorem vc:WK u env (true,S)=U (true,S):=id rfl
@[simp] theorem lQ:WK u env (false,S)=u env S:=id rfl
@[simp] theorem fM:UA (k,S)=U (!k,S):=id rfl
@[simp] theorem qb:du t u env S=(t env S).bind (NK u env):=by rw[uX];rfl
@[simp] theorem iC:gH t u env S=(t env S).bind (WK u env):=by rw[zU];rfl
@[simp] theorem fK:dm t env S=(t env S).bind UA:=by rw[Cw];rfl
@[simp] theorem gQ:bQ env S=U (true,S):=by rw[Cs];rfl
def Sg(b:ME)(env:bh)(q:D×ac):Option (D×ac):=(tP q.2 q.1).bind λk=>if k=true then b env q.2 else U (q.1,q.2)
def Uz(b:ME)(env:bh)(q:D×ac):Option (D×ac):=(tP q.2 q.1).bind λk=>if k=true then U (q.1,q.2) else b env q.2
@[simp] theorem WS:Sg b env (.bl true,S)=b env S:=id rfl
@[simp] theorem WT:Sg b env (.bl false,S)=U (.bl false,S):=id rfl
@[simp] theorem kOr_t:Uz b env (.bl true,S)=U (.bl true,S):=id rfl
@[simp] theorem kOr_f:Uz b env (.bl false,S)=b env S:=id rfl
@[simp] theorem lM:ft a b env S=(a env S).bind (Sg b env):=by rw[HB];rfl
@[simp] theorem mOr_s:zV a b env S=(a env S).bind (Uz b env):=by rw[Nc];rfl
def CP(q:D×ac):Option (D×ac):=(tP q.2 q.1).bind λk=>U (.bl (!k),q.2)
@[simp] theorem RW:CP (.lst xs,S)=U (.bl (!!xs.isEmpty),S):=id rfl
@[simp] theorem kNotV_t:CP (.tup xs,S)=U (.bl (!!xs.isEmpty),S):=id rfl
@[simp] theorem kOr_c{d:D}{ds:List D}:Uz b env (.lst (d::ds),S)=U (.lst (d::ds),S):=id rfl
@[simp] theorem kOr_e:Uz b env (.lst [],S)=b env S:=id rfl
@[simp] theorem kNotV_s:CP (.bl k,S)=U (.bl (!k),S):=id rfl
@[simp] theorem Ht:iK a env S=(a env S).bind CP:=by rw[Cu];rfl
noncomputable def kIf(a b:ME)(env:bh)(q:Bool×ac):Option (D×ac):=if q.1=true then a env q.2 else b env q.2
@[simp] theorem CQ:kIf a b env (true,S)=a env S:=id rfl
@[simp] theorem HE:kIf a b env (false,S)=b env S:=id rfl
@[simp] theorem mL:oV t a b env S=(t env S).bind (kIf a b env):=by rw[Ni];rfl
@[simp] theorem au:ai env S=U ([],S):=by rw[zW];rfl
noncomputable def FO(x:D)(q:List D×ac):Option (List D×ac):=U (x::q.1,q.2)
noncomputable def NI(ms:MA)(env:bh)(q:D×ac):Option (List D×ac):=(ms env q.2).bind (FO q.1)
@[simp] theorem am{xs:List D}:FO x (xs,S)=U (x::xs,S):=id rfl
@[simp] theorem ao:NI ms env (x,S)=(ms env S).bind (FO x):=id rfl
@[simp] theorem aq:aa a ms env S=(a env S).bind (NI ms env):=by rw[CG];rfl
noncomputable def cz(q:List D×ac):Option (D×ac):=if q.1.length<=acY then U (.tup q.1,q.2) else Y
noncomputable def mO(q:List D×ac):Option (D×ac):=if q.1.length<=acY then U (.lst q.1,q.2) else Y
noncomputable def yf(q:List D×ac):Option (D×ac):=if q.1.length<=acY then U (.ref q.2.length,q.2++[.lst q.1]) else Y
def sz{n:Nat}(h:n<=1000):n<=acY:=YW h (by decide)
def aT{xs:List D}(h:xs.length<=1000):cz (xs,S)=U (.tup xs,S):=YR (sz h)
def dJ{xs:List D}(h:xs.length<=1000):mO (xs,S)=U (.lst xs,S):=YR (sz h)
def qg{xs:List D}(h:xs.length<=1000):yf (xs,S)=U (.ref S.length,S++[.lst xs]):=YR (sz h)
def FC:∀ S (x y:D),cz ([x,y],S)=U (.tup [x,y],S):=λS x y=>aT (by simp)
def GU:∀ S (x y:D),mO ([x,y],S)=U (.lst [x,y],S):=λS x y=>dJ (by simp)
def Hz:∀ S (x:D),cz ([x],S)=U (.tup [x],S):=λS x=>aT (by simp)
def IE:∀ S (x:D),mO ([x],S)=U (.lst [x],S):=λS x=>dJ (by simp)
def JB:∀ S (x y z w:D),cz ([x,y,z,w],S)=U (.tup [x,y,z,w],S):=λS x y z w=>aT (by simp)
def LB:∀ S (x y z u:D),cz ([x,y,z,u],S)=U (.tup [x,y,z,u],S):=λS x y z u=>aT (by simp)
def Nj:∀ S (x y z:D),cz ([x,y,z],S)=U (.tup [x,y,z],S):=λS x y z=>aT (by simp)
@[simp] theorem bj:be ms env S=(ms env S).bind cz:=by rw[Ho];rfl
@[simp] theorem jc:dG ms env S=(ms env S).bind mO:=by rw[Hu];rfl
@[simp] theorem zX:gR ms env S=(ms env S).bind yf:=by rw[Cz];rfl
noncomputable def UE(f:List D->ac->Option (D×ac))(q:List D×ac):Option (D×ac):=f q.1 q.2
@[simp] theorem cb{f:List D->ac->Option (D×ac)}{xs:List D}:UE f (xs,S)=f xs S:=id rfl
@[simp] theorem bZ{f:List D->ac->Option (D×ac)}:bw f ms env S=(ms env S).bind (UE f):=by rw[gU];rfl
noncomputable def qZ(n:Nat)(f:List D->ac->Option (D×ac))(q:List D×ac):Option (D×ac):=if q.1.length=n then f q.1 q.2 else Y
@[simp] theorem kCallN_0{f:List D->ac->Option (D×ac)}:qZ 0 f ([],S)=f [] S:=id rfl
@[simp] theorem qi{f:List D->ac->Option (D×ac)}:qZ 1 f ([x],S)=f [x] S:=id rfl
@[simp] theorem ba{f:List D->ac->Option (D×ac)}:qZ 2 f ([x,y],S)=f [x,y] S:=id rfl
@[simp] theorem ce{f:List D->ac->Option (D×ac)}{z:D}:qZ 3 f ([x,y,z],S)=f [x,y,z] S:=id rfl
@[simp] theorem CT{f:List D->ac->Option (D×ac)}{z w:D}:qZ 4 f ([x,y,z,w],S)=f [x,y,z,w] S:=id rfl
@[simp] theorem aE{n:Nat}{f:List D->ac->Option (D×ac)}:aw n f ms env S=(ms env S).bind (qZ n f):=by rw[qU];rfl
def kIsI(T:String)(q:D×ac):Option (D×ac):=(kg T q.2 q.1).bind (xh q.2)
@[simp] theorem FN:kIsI T (x,S)=(kg T S x).bind (xh S):=id rfl
@[simp] theorem FB:eG T a env S=(a env S).bind (kIsI T):=by rw[Hv];rfl
noncomputable def kUn(f:ac->D->Option D)(q:D×ac):Option (D×ac):=(f q.2 q.1).bind (xh q.2)
@[simp] theorem kUn_s{f:ac->D->Option D}:kUn f (x,S)=(f S x).bind (xh S):=id rfl
@[simp] theorem mUn_s{f:ac->D->Option D}:Ed f a env S=(a env S).bind (kUn f):=by rw[Nb];rfl
@[simp] theorem cU:bJ env S=U (Y,S):=by rw[xX];rfl
noncomputable def Uy(q:D×ac):Option (Option Int×ac):=match q.1 with | .int i=>U (U i,q.2) | _=>Y
@[simp] theorem dI:Uy (.int i,S)=U (U i,S):=id rfl
@[simp] theorem dF:cx a env S=(a env S).bind Uy:=by rw[Ct];rfl
def kf(x:D)(l:Option Int)(q:Option Int×ac):Option (D×ac):=match x with
 | .tup xs=>U (.tup (je xs l q.1),q.2)
 | .lst xs=>U (.lst (je xs l q.1),q.2)
 | .rol xs=>U (.lst (je xs l q.1),q.2)
 | .ref r=>match q.2[r]? with | some (.lst xs)=>U (.lst (je xs l q.1),q.2) | _=>Y
 | _=>Y
def WG(hi:MO)(env:bh)(x:D)(q:Option Int×ac):Option (D×ac):=(hi env q.2).bind (kf x q.1)
def kSl1(lo hi:MO)(env:bh)(q:D×ac):Option (D×ac):=(lo env q.2).bind (WG hi env q.1)
@[simp] theorem fZ{lo:MO}:kSl1 lo hi env (x,S)=(lo env S).bind (WG hi env x):=id rfl
@[simp] theorem fY{l:Option Int}:WG hi env x (l,S)=(hi env S).bind (kf x l):=id rfl
@[simp] theorem mM{l h:Option Int}:kf (.tup xs) l (h,S)=U (.tup (je xs l h),S):=id rfl
@[simp] theorem WF{l h:Option Int}:kf (.lst xs) l (h,S)=U (.lst (je xs l h),S):=id rfl
@[simp] theorem kSl3_r{l h:Option Int}:kf (.rol xs) l (h,S)=U (.lst (je xs l h),S):=id rfl
@[simp] theorem cO{lo:MO}:bI a lo hi env S=(a env S).bind (kSl1 lo hi env):=by rw[xW];rfl
@[simp] theorem bE:bn env S=U (.nx env S):=by rw[mJ];rfl
noncomputable def NC(q:MS):pA->Option pA
 | .nx e S=>q e S
 | .rt d S=>U (.rt d S)
 | .bk e S=>U (.bk e S)
 | .ct e S=>U (.ct e S)
@[simp] theorem aH:NC q (.nx e S)=q e S:=id rfl
@[simp] theorem bW:NC q (.rt d S)=U (.rt d S):=id rfl
@[simp] theorem kSeq_bk:NC q (.bk e S)=U (.bk e S):=id rfl
@[simp] theorem kSeq_ct:NC q (.ct e S)=U (.ct e S):=id rfl
@[simp] theorem aS:aF p q env S=(p env S).bind (NC q):=by rw[Hr];unfold M.aF;congr 1;funext o;cases o<;>rfl
noncomputable def kRt(q:D×ac):Option pA:=U (.rt q.1 q.2)
@[simp] theorem bC:kRt (d,S)=U (.rt d S):=id rfl
@[simp] theorem aV:bq a env S=(a env S).bind kRt:=by rw[Hs];rfl
noncomputable def UB(env:bh)(q:D×ac):Option pA:=U (.nx env q.2)
@[simp] theorem nP:UB env (d,S)=U (.nx env S):=id rfl
@[simp] theorem nK:fo a env S=(a env S).bind (UB env):=by rw[CC];rfl
noncomputable def WN(p q:MS)(env:bh)(r:Bool×ac):Option pA:=if r.1=true then p env r.2 else q env r.2
@[simp] theorem bU:WN p q env (true,S)=p env S:=id rfl
@[simp] theorem bS:WN p q env (false,S)=q env S:=id rfl
@[simp] theorem bt:bY t p q env S=(t env S).bind (WN p q env):=by rw[Hw];rfl
noncomputable def kNx(q:bh×ac):Option pA:=U (.nx q.1 q.2)
@[simp] theorem bP:kNx (e,S)=U (.nx e S):=id rfl
noncomputable def kAsg(tg:MG)(env:bh)(q:D×ac):Option pA:=(tg q.1 env q.2).bind kNx
@[simp] theorem bv:kAsg tg env (d,S)=(tg d env S).bind kNx:=id rfl
@[simp] theorem bu:aX a tg env S=(a env S).bind (kAsg tg env):=by rw[jn];rfl
@[simp] theorem aZ:ah i d env S=U (env.set i (U d),S):=by rw[qu];rfl
@[simp] theorem ci:aW [] env S=U (env,S):=by rw[Dh];rfl
noncomputable def kGs(gs:wm)(r:List D)(q:bh×ac):Option (bh×ac):=gs r q.1 q.2
@[simp] theorem dc:kGs gs r (e,S)=gs r e S:=id rfl
@[simp] theorem bF{r:List D}:ag tg gs (d::r) env S=(tg d env S).bind (kGs gs r):=by rw[yr];rfl
@[simp] theorem cE:bi 2 gs (.tup [x,y]) env S=gs [x,y] env S:=by rw[mV];rfl
@[simp] theorem HL{z:D}:bi 3 gs (.tup [x,y,z]) env S=gs [x,y,z] env S:=by rw[mV];rfl
@[simp] theorem tE{z w:D}:bi 4 gs (.tup [x,y,z,w]) env S=gs [x,y,z,w] env S:=by rw[mV];rfl
noncomputable def CO(env:bh)(d:D)(r:Nat)(k:Int)(S:ac):Option (bh×ac):=match S[r]? with
 | some (.lst xs)=>(JH xs.length k).bind λj=>U (env,S.set r (.lst (xs.set j d)))
 | _=>Y
noncomputable def HC(env:bh)(d o:D)(q:D×ac):Option (bh×ac):=match o,q.1 with
 | .ref r,.int k=>CO env d r k q.2
 | _,_=>Y
noncomputable def NB(i:ME)(env:bh)(d:D)(q:D×ac):Option (bh×ac):=(i env q.2).bind (HC env d q.1)
@[simp] theorem kSub1_s:NB a env d (x,S)=(a env S).bind (HC env d x):=id rfl
@[simp] theorem kSub2_s:HC env d (.ref r) (.int i,S)=CO env d r i S:=id rfl
def vb{r:Nat}{j:Nat}(h:S[r]?=U (.lst xs))(hj:JH xs.length i=U j):CO env d r i S=U (env,S.set r (.lst (xs.set j d))):=by
 unfold CO;rw[h];show(JH xs.length i).bind _=_;rw[hj];rfl
@[simp] theorem gSubD_s:gX a b d env S=(a env S).bind (NB b env d):=by
 rw[Dg];unfold M.gX NB HC CO;congr 1
def kFor(tg:MG)(p:MS)(env:bh)(q:List D×ac):Option pA:=cK tg p q.1 env q.2
@[simp] theorem vf{xs:List D}:kFor tg p env (xs,S)=cK tg p xs env S:=id rfl
@[simp] theorem uT:lg ms tg p env S=(ms env S).bind (kFor tg p env):=by rw[Hx];rfl
def JC(tg:MG)(p:MS)(xs:List D):pA->Option pA
 | .nx e s=>cK tg p xs e s
 | .ct e s=>cK tg p xs e s
 | .bk e s=>U (.nx e s)
 | .rt d s=>U (.rt d s)
def kLp1(tg:MG)(p:MS)(xs:List D)(q:bh×ac):Option pA:=(p q.1 q.2).bind (JC tg p xs)
@[simp] theorem oY:kLp1 tg p xs (e,S)=(p e S).bind (JC tg p xs):=id rfl
@[simp] theorem nO:JC tg p xs (.nx e S)=cK tg p xs e S:=id rfl
@[simp] theorem kLp2_ct:JC tg p xs (.ct e S)=cK tg p xs e S:=id rfl
@[simp] theorem kLp2_bk:JC tg p xs (.bk e S)=U (.nx e S):=id rfl
@[simp] theorem HD:JC tg p xs (.rt d S)=U (.rt d S):=id rfl
@[simp] theorem Jw:cK tg p [] env S=U (.nx env S):=id rfl
def fW{xs:List D}:cK tg p (d::xs) env S=(tg d env S).bind (kLp1 tg p xs):=by
 show(tg d env S).bind _=_
 first | rfl | (congr 1;funext q;show(p q.1 q.2).bind _=(p q.1 q.2).bind _;congr 1;funext o;cases o<;>rfl)
noncomputable def FM(q:D×ac):Option (List D×ac):=match q.1 with | .lst xs=>U (xs,q.2) | .rol xs=>U (xs,q.2) | .tup xs=>U (xs,q.2) | _=>Y
@[simp] theorem oZ:FM (.lst xs,S)=U (xs,S):=id rfl
@[simp] theorem kItS_r:FM (.rol xs,S)=U (xs,S):=id rfl
@[simp] theorem NF:FM (.tup xs,S)=U (xs,S):=id rfl
@[simp] theorem cV:dq a env S=(a env S).bind FM:=by rw[zY];rfl
def ND(q:List D×ac):Option (List D×ac):=match q.1 with | [.int j]=>if -(2^62)<=j/\j<2^62 then U (cw 0 j.toNat,q.2) else Y | _=>Y
theorem lP{j:Int}(h:-1000000<=j)(h':j<=1000000):ND ([.int j],S)=U (cw 0 j.toNat,S):=YR ⟨by omega,by omega⟩
@[simp] theorem fg:bV ms env S=(ms env S).bind ND:=by rw[uS];rfl
def kR2(q:List D×ac):Option (List D×ac):=match q.1 with | [.int i,.int j]=>if -(2^62)<=i/\i<2^62/\-(2^62)<=j/\j<2^62 then U (cw i (j - i).toNat,q.2) else Y | _=>Y
@[simp] theorem mRange2_s:eg ms env S=(ms env S).bind kR2:=by rw[uR];rfl
noncomputable def FP(q:List D×ac):Option (D×ac):=U (.lst q.1,q.2)
def mP(g:MG)(t:MT)(e:ME)(cap:List (Option Nat))(env:bh)(q:List D×ac):Option (D×ac):=if q.1.length<=acY then(dr g t e q.1 (vZ cap env) q.2).bind FP else Y
def jC{xs:List D}(h:xs.length<=1000):mP tg t a cap env (xs,S)=(dr tg t a xs (vZ cap env) S).bind FP:=YR (sz h)
@[simp] theorem lm{xs:List D}:FP (xs,S)=U (.lst xs,S):=id rfl
@[simp] theorem bL:bH ms tg t a cap env S=(ms env S).bind (mP tg t a cap env):=by rw[uV];rfl
noncomputable def WO(x:D)(q:List D×ac):Option (List D×ac):=U (x::q.1,q.2)
def WP(g:MG)(t:MT)(e:ME)(xs:List D)(env:bh)(q:D×ac):Option (List D×ac):=(dr g t e xs env q.2).bind (WO q.1)
def Sb(g:MG)(t:MT)(e:ME)(xs:List D)(env:bh)(q:Bool×ac):Option (List D×ac):=if q.1=true then(e env q.2).bind (WP g t e xs env) else dr g t e xs env q.2
def kCl1(g:MG)(t:MT)(e:ME)(xs:List D)(q:bh×ac):Option (List D×ac):=(t q.1 q.2).bind (Sb g t e xs q.1)
@[simp] theorem vk:kCl1 tg t a xs (e,S)=(t e S).bind (Sb tg t a xs e):=id rfl
@[simp] theorem vj:Sb tg t a xs e (true,S)=(a e S).bind (WP tg t a xs e):=id rfl
@[simp] theorem Am:Sb tg t a xs e (false,S)=dr tg t a xs e S:=id rfl
@[simp] theorem vi:WP tg t a xs e (d,S)=(dr tg t a xs e S).bind (WO d):=id rfl
@[simp] theorem vh{xs:List D}:WO d (xs,S)=U (d::xs,S):=id rfl
@[simp] theorem Wt:dr tg t a [] env S=U ([],S):=id rfl
def gB{xs:List D}:dr tg t a (d::xs) env S=(tg d env S).bind (kCl1 tg t a xs):=id rfl
def HG(x:D)(q:D×ac):Option (D×ac):=(lj q.2 x).bind λxs=>(lj q.2 q.1).bind λys=>if xs.length+ys.length<=acY then U (.ref q.2.length,q.2++[.lst (xs++ys)]) else Y
def UD(b:ME)(env:bh)(q:D×ac):Option (D×ac):=(b env q.2).bind (HG q.1)
def Sf{b:ME}:UD b env (d,S)=(b env S).bind (HG d):=id rfl
def Se{xs ys:List D}(h:xs.length+ys.length<=1000):HG (.lst xs) (.lst ys,S)=U (.ref S.length,S++[.lst (xs++ys)]):=YR (sz h)
def RQ{b:ME}:ji a b env S=(a env S).bind (UD b env):=by rw[CH];rfl
noncomputable def Aj(n:Nat)(f:List D->ac->Option (D×ac))(q:List D×ac):Option pA:=if q.1.length=n then(f q.1 q.2).bind kRt else Y
def UC(l:List (bD×Nat×(List D->ac->Option (D×ac))))(i:Nat)(ms:MA)(env:bh)(q:D×ac):Option pA:=(fA q.1).bind λk=>(Bd l k).bind λp=>(ms (env.set i Y) q.2).bind (Aj p.1 p.2)
def NH{l:List (bD×Nat×(List D->ac->Option (D×ac)))}{i n:Nat}{f:List D->ac->Option (D×ac)}{k:bD}(h:fA d=U k)(h':Bd l k=U (n,f)):UC l i ms env (d,S)=(ms (env.set i Y) S).bind (Aj n f):=by
 show(fA d).bind _=_
 rw[h];show(Bd l k).bind _=_;rw[h'];rfl
def JE{n:Nat}{f:List D->ac->Option (D×ac)}{xs:List D}(h:xs.length=n):Aj n f (xs,S)=(f xs S).bind kRt:=YR h
def RP{l:List (bD×Nat×(List D->ac->Option (D×ac)))}{i:Nat}:ku l i a ms env S=(a env S).bind (UC l i ms env):=by rw[CD];rfl
@[simp] theorem lV:aM S (.int i) (.int j)=U (.int (i+j)):=id rfl
def ge{xs ys:List D}(h:xs.length+ys.length<=1000):aM S (.tup xs) (.tup ys)=U (.tup (xs++ys)):=YR (sz h)
def ng{xs ys:List D}(h:xs.length+ys.length<=1000):aM S (.lst xs) (.lst ys)=U (.lst (xs++ys)):=YR (sz h)
@[simp] theorem Oj:rn S (.int i) (.int j)=U (.int (i - j)):=id rfl
@[simp] theorem fLt_i:SC S (.int i) (.int j)=U (.bl (decide (i<j))):=id rfl
@[simp] theorem fLe_i:Xo S (.int i) (.int j)=U (.bl (decide (i<=j))):=id rfl
@[simp] theorem fGt_i:fGt S (.int i) (.int j)=U (.bl (decide (j<i))):=id rfl
@[simp] theorem fGe_i:fGe S (.int i) (.int j)=U (.bl (decide (j<=i))):=id rfl
@[simp] theorem fNeg_i:Om S (.int i)=U (.int (-i)):=id rfl
def jM{j:Int}(h:0<j):lS S (.int i) (.int j)=U (.int (i%j)):=YR (YM h)
def Oy{j:Int}(h:0<j)(h':j<1073741824):JZ S (.int i) (.int j)=U (.int (i / j)):=YR (by show(decide (0<j)&&decide (j<1073741824))=true;rw[YM h,YM h'];rfl)
def Ol{i j:Int}(h:(decide (0<=j)&&decide (j<=1000000)&&decide (i.natAbs<2^64))=true):xj S (.int i) (.int j)=U (.int (i^j.toNat)):=YR h
def jL(h:pS i j=true):cH S (.int i) (.int j)=U (.int (i*j)):=YR h
theorem qP{i:Int}(h:-18446744073709551616<i)(h':i<18446744073709551616):pS i j=true:=by
 unfold pS;rw[YM (p:=i.natAbs<18446744073709551616) (by omega)];rfl
def zD{j:Int}(h:-18446744073709551616<j)(h':j<18446744073709551616):pS i j=true:=by
 unfold pS;rw[YM (p:=j.natAbs<18446744073709551616) (by omega)];simp
@[simp] theorem UN:aA S (.tup xs) (.int i)=mx xs i:=id rfl
@[simp] theorem UO:aA S (.lst xs) (.int i)=mx xs i:=id rfl
@[simp] theorem fIx_r:aA S (.rol xs) (.int i)=mx xs i:=id rfl
def qw{r:Nat}(h:S[r]?=U (.lst xs)):aA S (.ref r) (.int i)=mx xs i:=by
 have:jb S (.ref r)=U xs:=by simp only[jb,h]
 have t:Bg S (.ref r)=Y:=by simp only[Bg,h]
 unfold aA;rw[t]
 show(jb S (.ref r)).bind _=_;rw[this];rfl
theorem AM{α:Type}{xs:List α}{i:Int}(h0:0<=i)(h:i<xs.length):mx xs i=U (xs[i.toNat]'(by omega)):=by
 unfold mx JH;rw[YR h0,YR h];show xs[i.toNat]?=_;rw[YG]
@[simp] theorem Op:aU iF [.tup xs] S=U (.int xs.length,S):=id rfl
@[simp] theorem Oq:aU iF [.lst xs] S=U (.int xs.length,S):=id rfl
@[simp] theorem Xn:aU iF [.rol xs] S=U (.int xs.length,S):=id rfl
@[simp] theorem fInt1_i:aU kD [.int i] S=U (.int i,S):=id rfl
@[simp] theorem nS:aU kD [.bl k] S=U (.int (if k then 1 else 0),S):=id rfl
@[simp] theorem SA:aU mW [.int i,.int j] S=U (.int (if j>i then j else i),S):=id rfl
@[simp] theorem Sy:aU HS [.int i,.int j] S=U (.int (if j<i then j else i),S):=id rfl
@[simp] theorem fSeq1_t{g:List D->D}{xs:List D}:aU (cR g) [.tup xs] S=U (g xs,S):=id rfl
@[simp] theorem fN{g:List D->D}{xs:List D}:aU (cR g) [.lst xs] S=U (g xs,S):=id rfl
def Gb{bs:List Bool}(h:iG xs=U bs):aU vP [.lst xs] S=U (.bl (bs.all id),S):=by
 show((iG xs).bind _).bind _=_;rw[h];rfl
@[simp] theorem mX:Ee S x .non=U (.bl (nQ x .non)):=id rfl
@[simp] theorem fIs_b:Ee S x (.bl k)=U (.bl (nQ x (.bl k))):=id rfl
@[simp] theorem qx:ph S x .non=U (.bl (!nQ x .non)):=id rfl
@[simp] theorem fIsNot_b:ph S x (.bl k)=U (.bl (!nQ x (.bl k))):=id rfl
def lT(h:cB 40 x=true)(h':cB 40 y=true):cy S x y=U (.bl (jd x y)):=by
 unfold cy;rw[tF h,tF h'];exact YR ⟨h,h'⟩
def vN(h:cB 40 x=true)(h':cB 40 y=true):jo S x y=U (.bl (!jd x y)):=by
 unfold jo;rw[tF h,tF h'];exact YR ⟨h,h'⟩
@[simp] theorem lU:cy S (.int i) (.int j)=U (.bl (i==j)):=lT (by simp[cB]) (by simp[cB])
@[simp] theorem On:jo S (.int i) (.int j)=U (.bl (!(i==j))):=vN (by simp[cB]) (by simp[cB])
@[simp] theorem fEq_bb:cy S (.bl k) (.bl l)=U (.bl (k==l)):=lT (by simp[cB]) (by simp[cB])
@[simp] theorem cN:cy S (.str i) (.str j)=U (.bl (i==j)):=lT (by simp[cB]) (by simp[cB])
@[simp] theorem rA:jo S (.str i) (.str j)=U (.bl (!(i==j))):=vN (by simp[cB]) (by simp[cB])
def jN{ys:List D}(hs:jb S y=U ys)(h:cB 40 x=true)(h':ys.all (cB 39)=true):pi S x y=U (.bl (ys.any λd=>jd d x)):=by
 unfold pi;rw[hs];exact YR ⟨h,h'⟩
def JV{ys:List D}(hs:jb S y=U ys)(h:cB 40 x=true)(h':ys.all (cB 39)=true):rq S x y=U (.bl (!ys.any λd=>jd d x)):=by
 unfold rq;rw[hs];exact YR ⟨h,h'⟩
theorem HQ{xs:List D}{k:Int}(h0:0<=k)(h1:k<=100000)(h:xs.length*k.toNat<=1000):cH S (.tup xs) (.int k)=U (.tup (adg k.toNat xs).flatten):=YR ⟨by omega,by omega,sz h⟩
noncomputable def eH(f:MF)(x:D)(q:List D×ac):Option (D×ac):=f x q.1 q.2
def rY(f:MF)(ms:MA)(env:bh)(q:D×ac):Option (D×ac):=if qV q.2 q.1=true then(ms env q.2).bind (eH f q.1) else Y
@[simp] theorem nJ{f:MF}:fz f a ms env S=(a env S).bind (rY f ms env):=by rw[Cy];rfl
@[simp] theorem kMeth_l{f:MF}{xs:List D}:rY f ms env (.lst xs,S)=(ms env S).bind (eH f (.lst xs)):=id rfl
def Ai{f:MF}{r:Nat}{xs:List D}(h:S[r]?=U (.lst xs)):rY f ms env (.ref r,S)=(ms env S).bind (eH f (.ref r)):=by
 unfold rY;exact YR (by simp only[qV,h])
@[simp] theorem gW{f:MF}{xs:List D}:eH f x (xs,S)=f x xs S:=id rfl
def yz{r:Nat}(h:S[r]?=U (.lst xs))(hz:xs.length<1000):ej (.ref r) [y] S=U (.non,S.set r (.lst (xs++[y]))):=by
 simp only[ej,h];exact YR (YV hz (by decide))
def HF(q:List D×ac):Option (List D×ac):=match q.1 with | [.tup xs]=>U (fE 0 xs,q.2) | _=>Y
@[simp] theorem kEnum_s:HF ([.tup xs],S)=U (fE 0 xs,S):=id rfl
@[simp] theorem pZ:gS ms env S=(ms env S).bind HF:=by rw[CB];rfl
def Sj{ns:List Int}(h:ns.length<64):sg S (.lst (ns.map .int))=U ns:=by
 unfold sg
 rw[YR (show qV S (.lst (ns.map D.int))=true from rfl)]
 show(pg (ns.map D.int)).bind _=_
 rw[vt];exact YR h
def Sa(ms:MA)(env:bh)(q:D×ac):Option (D×ac):=if Lq q.1=true then(ms env q.2).bind (eH fO q.1) else if qV q.2 q.1=true then(ms env q.2).bind (eH nU q.1) else Y
@[simp] theorem Nm:lh a ms env S=(a env S).bind (Sa ms env):=by rw[HA];rfl
@[simp] theorem kCnt_t:Sa ms env (.tup xs,S)=(ms env S).bind (eH fO (.tup xs)):=id rfl
@[simp] theorem kCnt_l:Sa ms env (.lst xs,S)=(ms env S).bind (eH nU (.lst xs)):=id rfl
def Ka{xs:List D}(h:cB 40 x=true)(h':xs.all (cB 39)=true):fO (.tup xs) [x] S=U (.int (xs.countP λd=>jd d x),S):=by
 show(if Lq (.tup xs)=true then vO (.tup xs) [x] S else Y)=_
 rw[YR (show Lq (.tup xs)=true from rfl)]
 exact YR ⟨h,h'⟩
def kZip(q:List D×ac):Option (List D×ac):=match q.1 with | [.tup xs,.tup ys]=>U (kL xs ys,q.2) | _=>Y
@[simp] theorem kZip_s:kZip ([.tup xs,.tup ys],S)=U (kL xs ys,S):=id rfl
@[simp] theorem mZip_s:oS ms env S=(ms env S).bind kZip:=by rw[Hm];rfl
@[simp] theorem Lh{xs ys:List D}:kL (x::xs) (y::ys)=.tup [x,y]::kL xs ys:=id rfl
@[simp] theorem zipD_nl:kL [] xs=[]:=by cases xs<;>rfl
@[simp] theorem zipD_nr:kL xs []=[]:=by cases xs<;>rfl
noncomputable def WH(k:bD)(d:D)(z:List (bD×D)×ac):Option (List (bD×D)×ac):=U ((k,d)::z.1,z.2)
def RV(r:List (ME×ME))(env:bh)(k:bD)(q:D×ac):Option (List (bD×D)×ac):=(kO r env q.2).bind (WH k q.1)
def kPr2(b:ME)(r:List (ME×ME))(env:bh)(S:ac)(k:bD):Option (List (bD×D)×ac):=(b env S).bind (RV r env k)
def WI(b:ME)(r:List (ME×ME))(env:bh)(q:D×ac):Option (List (bD×D)×ac):=(fA q.1).bind (kPr2 b r env q.2)
@[simp] theorem oU:kO [] env S=U ([],S):=id rfl
@[simp] theorem mK{r:List (ME×ME)}:kO ((a,b)::r) env S=(a env S).bind (WI b r env):=id rfl
@[simp] theorem kPr1_i:WI b r env (.int i,S)=(b env S).bind (RV r env (.inl i)):=id rfl
@[simp] theorem FK:WI b r env (.str i,S)=(b env S).bind (RV r env (.inr i)):=id rfl
@[simp] theorem FJ{k:bD}:RV r env k (d,S)=(kO r env S).bind (WH k d):=id rfl
@[simp] theorem FI{k:bD}{z:List (bD×D)}:WH k d (z,S)=U ((k,d)::z,S):=id rfl
def vg(z:List (bD×D)×ac):Option (D×ac):=if z.1.length<=15 then U (.dct ((cJ [] z.1).map (·.1)) ((cJ [] z.1).map (·.2)),z.2) else Y
def Al(z:List (bD×D)×ac):Option (D×ac):=if z.1.length<=15 then U (.ref z.2.length,z.2++[.dct ((cJ [] z.1).map (·.1)) ((cJ [] z.1).map (·.2))]) else Y
@[simp] theorem Hy:jh ps env S=(kO ps env S).bind vg:=by rw[CF];rfl
@[simp] theorem Nk:fX ps env S=(kO ps env S).bind Al:=by rw[yb];rfl
theorem CZ{k:bD}:∀ {l:List (bD×D)},k∉l.map (·.1)->JP l k=false
 | [],_=>rfl
 | p::r,h=>by
  rw[YJ,Zd,not_or] at h
  unfold JP;rw[if_neg (λz=>h.1 z.symm)];exact CZ h.2
theorem oR:∀ {l m:List (bD×D)},((m++l).map (·.1)).Nodup->cJ m l=m++l
 | [],m,_=>by rw[Zn];rfl
 | p::r,m,h=>by
  show cJ (Mc m p.1 p.2) r=_
  have hn:p.1∉m.map (·.1):=by
   rw[Zq,YJ,aaw] at h
   intro z;exact h.2.2 _ z _ YF rfl
  unfold Mc;rw[CZ hn,if_neg adh]
  rw[oR (by rw[Ze];exact h),Ze];rfl
def qQ{l:List (bD×D)}(h:(l.map (·.1)).Nodup):cJ [] l=l:=oR (m:=[]) h
def CS{l:List (bD×D)}(h:(l.map (·.1)).Nodup)(hl:l.length<=15):vg (l,S)=U (.dct (l.map (·.1)) (l.map (·.2)),S):=by
 unfold vg;rw[YR hl];simp only[qQ h]
def JF{l:List (bD×D)}(h:(l.map (·.1)).Nodup)(hl:l.length<=15):Al (l,S)=U (.ref S.length,S++[.dct (l.map (·.1)) (l.map (·.2))]):=by
 unfold Al;rw[YR hl];simp only[qQ h]
theorem yN{α β:Type}:∀ (l:List (α×β)),(l.map (·.1)).zip (l.map (·.2))=l
 | []=>rfl
 | p::r=>by rw[YJ,YJ,List.zip_cons_cons,yN r]
@[simp] theorem fIx_dct:aA S (.dct ks vs) y=(fA y).bind (jy (ks.zip vs)):=id rfl
def fIx_d{l:List (bD×D)}{k:bD}(h:fA y=U k):aA S (.dct (l.map (·.1)) (l.map (·.2))) y=jy l k:=by
 show(fA y).bind (λk=>jy ((l.map (·.1)).zip (l.map (·.2))) k)=_
 rw[h,yN];rfl
def Xp{r:Nat}{l:List (bD×D)}{k:bD}(hr:S[r]?=U (.dct (l.map (·.1)) (l.map (·.2))))(h:fA y=U k):aA S (.ref r) y=jy l k:=by
 have:Bg S (.ref r)=U l:=by simp only[Bg,hr,yN]
 unfold aA;rw[this];show(fA y).bind _=_;rw[h];rfl
def vd(f:MF)(ms:MA)(env:bh)(q:D×ac):Option (D×ac):=if PL q.2 q.1=true then(ms env q.2).bind (eH f q.1) else Y
def uZ(l:List (bD×D))(q:D×ac):Option (D×ac):=(fA q.1).bind λk=>(jy l k).bind λd=>U (d,q.2)
@[simp] theorem uQ{l:List (bD×D)}:dZ l a env S=(a env S).bind (uZ l):=by rw[xV];rfl
@[simp] theorem Ng{f:MF}:fU f a ms env S=(a env S).bind (vd f ms env):=by rw[xY];rfl
@[simp] theorem kMethD_d{f:MF}{ks:List bD}{vs:List D}:vd f ms env (.dct ks vs,S)=(ms env S).bind (eH f (.dct ks vs)):=id rfl
def NE{f:MF}{r:Nat}{ks:List bD}{vs:List D}(h:S[r]?=U (.dct ks vs)):vd f ms env (.ref r,S)=(ms env S).bind (eH f (.ref r)):=by
 unfold vd;exact YR (by simp only[PL,h])
@[simp] theorem valD_nil{k:bD}:jy [] k=Y:=id rfl
@[simp] theorem valD_cons{k k':bD}{l:List (bD×D)}:jy ((k',d)::l) k=if k'=k then U d else jy l k:=id rfl
@[simp] theorem keyOf_i:fA (.int i)=U (.inl i):=id rfl
@[simp] theorem Ag:fA (.str i)=U (.inr i):=id rfl
def Sx{r:Nat}{l m:List (bD×D)}(hr:S[r]?=U (.dct (l.map (·.1)) (l.map (·.2))))(hl:l.length+m.length<=1000) :
  vK (.ref r) [.dct (m.map (·.1)) (m.map (·.2))] S=U (.non,S.set r (.dct ((cJ l m).map (·.1)) ((cJ l m).map (·.2)))):=by
 simp only[vK,hr,yN]
 exact YR (by rw[YE,YE];exact sz hl)
def qh(tg:MG)(p:MS)(env:bh)(q:D×ac):Option pA:=match q.1 with
 | .ref r=>fq tg p r 2000 0 env q.2
 | .lst xs=>cK tg p xs env q.2
 | .rol xs=>cK tg p xs env q.2
 | .tup xs=>cK tg p xs env q.2
 | _=>Y
@[simp] theorem pY:gA a tg p env S=(a env S).bind (qh tg p env):=by rw[CA];rfl
@[simp] theorem kForD_l:qh tg p env (.lst xs,S)=cK tg p xs env S:=id rfl
@[simp] theorem kForD_o:qh tg p env (.rol xs,S)=cK tg p xs env S:=id rfl
@[simp] theorem RZ:qh tg p env (.tup xs,S)=cK tg p xs env S:=id rfl
@[simp] theorem kForD_r:qh tg p env (.ref r,S)=fq tg p r 2000 0 env S:=id rfl
def FL(q:List D×ac):Option (D×ac):=match q.1 with | [.int j]=>if 0<=j/\j<=1000 then U (.lst (cw 0 j.toNat),q.2) else Y | _=>Y
@[simp] theorem Nh:fV ms env S=(ms env S).bind FL:=by rw[xZ];rfl
def JD{j:Int}(h0:0<=j)(h1:j<=1000):FL ([.int j],S)=U (.lst (cw 0 j.toNat),S):=YR ⟨h0,h1⟩
def WD(t:MT)(p:MS)(f:Nat):pA->Option pA
 | .nx e s=>gP t p f e s
 | .ct e s=>gP t p f e s
 | .bk e s=>U (.nx e s)
 | .rt d s=>U (.rt d s)
def kWh(t:MT)(p:MS)(f:Nat)(env:bh)(q:Bool×ac):Option pA:=if q.1=true then(p env q.2).bind (WD t p f) else U (.nx env q.2)
@[simp] theorem Na:fR t p env S=gP t p 5000 env S:=by rw[xU];rfl
def Jv{f:Nat}:gP t p (f+1) env S=(t env S).bind (kWh t p f env):=by
 show(t env S).bind _=_
 first | rfl | (congr 1;done)
@[simp] theorem kWh_t{f:Nat}:kWh t p f env (true,S)=(p env S).bind (WD t p f):=id rfl
@[simp] theorem kWh_f{f:Nat}:kWh t p f env (false,S)=U (.nx env S):=id rfl
@[simp] theorem RU{f:Nat}:WD t p f (.nx e S)=gP t p f e S:=id rfl
def Sz{ns:List Int}(h:ns.length<64)(h0:ns≠[]):aU mW [.lst (ns.map .int)] S=U (.int (kN ns),S):=by
 show((mW S [.lst (ns.map D.int)]).bind _)=_
 have:mW S [.lst (ns.map D.int)]=U (.int (kN ns)):=by
  show((sg S (.lst (ns.map D.int))).bind _)=_
  rw[Sj h]
  show(if ns.isEmpty=true then Y else U (D.int (kN ns)))=_
  rw[if_neg (by cases ns with | nil=>exact absurd rfl h0 | cons _ _=>simp)]
 rw[this];rfl
def At{x y:D}{xs ys:List D}(h:(An x||An y)=true)(h1:lj S x=U xs)(h2:lj S y=U ys)(hl:xs.length+ys.length<=1000):aM S x y=U (.lst (xs++ys)):=by
 unfold aM;rw[YR h,h1,h2];exact YR (sz hl)
noncomputable def Rt:pA->Option (D×ac)
 | .rt d S'=>U (d,S')
 | .nx _ S'=>U (.non,S')
 | .bk _ _=>Y
 | .ct _ _=>Y
@[simp] theorem aO:Rt (.rt d S)=U (d,S):=id rfl
@[simp] theorem outM_nx:Rt (.nx e S)=U (.non,S):=id rfl
def bg{n:Nat}{ds:List D}{S:ac}(h:ds.length=n):aQ N m n ds S=(m (az N ds) S).bind Rt:=by
 unfold aQ;rw[YR h];first | rfl | (congr 1;funext o;cases o<;>rfl)
@[simp] theorem rep0:adg 0 (Y:Option D)=[]:=id rfl
end
def tw:MS:=
 aF (bY (aB (ay fGt (ay aA (af 0) (mC (.int 0))) (mC (.int 0)))) (aF (aX (ay lS (ay aA (af 0) (mC (.int 0))) (af 1)) (ah 2)) (aF (aX (ay JZ (ay aA (af 0) (mC (.int 0))) (af 1)) (gX (af 0) (mC (.int 0)))) (bq (af 2)))) bn) (aF (aX (ay aM (ay aA (af 0) (mC (.int 2))) (mC (.int 1))) (gX (af 0) (mC (.int 2)))) (aF (aX (ay lS (ay aM (ay aM (ay cH (ay aA (af 0) (mC (.int 1))) (mC (.int 48271))) (mC (.int 12345))) (ay cH (mC (.int 7)) (ay aA (af 0) (mC (.int 2))))) (mC (.int 2147483647))) (gX (af 0) (mC (.int 1)))) (bq (ay lS (ay JZ (ay lS (ay cH (ay aA (af 0) (mC (.int 1))) (ay aA (af 0) (mC (.int 1)))) (mC (.int 1999999973))) (mC (.int 64))) (af 1)))))
def FH:MS:=
 aF (aX (mC (.int 1)) (ah 0)) (aF (lg (bV (aa (mC (.int 10)) ai)) (ah 1) (aX (ay cH (af 0) (ay xj (mC (.int 10)) (mC (.int 60)))) (ah 0))) (bq (af 0)))
def nM:MS:=
 aF (bY (aB (ay SC (af 1) (bw (aU iF) (aa (af 0) ai)))) (bq (ay aA (af 0) (af 1))) bn) (bq (mC (.int 0)))
def tz(cellAt far:List D->ac->Option (D×ac)):MS:=
 aF (aX (aw 2 cellAt (aa (af 0) (aa (ay lS (af 1) (bw (aU mW) (aa (mC (.int 1)) (aa (bw (aU iF) (aa (af 0) ai)) ai)))) ai))) (ah 2)) (aF (aX (ay lS (ay cH (ay aM (ay aM (ay lS (af 2) (mC (.int 2147483629))) (ay cH (ay cH (mC (.int 7919)) (af 1)) (af 1))) (mC (.int 11))) (mC (.int 48271))) (mC (.int 2147483647))) (ah 3)) (aF (aX (ay lS (ay aM (ay aM (ay cH (af 3) (mC (.int 39373))) (ay cH (mC (.int 7)) (af 1))) (mC (.int 1))) (mC (.int 2147483629))) (ah 3)) (aF (bY (aB (ay SC (af 2) (ay xj (mC (.int 10)) (mC (.int 18))))) (aX (mC (.int 0)) (ah 2)) bn) (bq (gR (aa (ay lS (af 2) (aw 0 far ai)) (aa (af 3) (aa (mC (.int 0)) ai))))))))
def Yk{a b c:D}:mx [a,b,c] 0=U a/\mx [a,b,c] 1=U b/\mx [a,b,c] 2=U c:=⟨rfl,rfl,rfl⟩
def Pk(S:ac)(r:Nat):Prop:=∃ a b c:Int,S[r]?=U (.lst [.int a,.int b,.int c])/\0<=a/\0<=b/\b<2147483647
noncomputable def p60:Int:=1000000000000000000000000000000000000000000000000000000000000
theorem VR:(10:Int)^(60:Int).toNat=p60:=by decide +kernel
theorem VQ:p60.natAbs<=2^(200*1):=by decide +kernel
theorem Rr:0<p60:=by decide +kernel
theorem Rs{i:Int}(h:i.natAbs<2^4000):pS i p60=true:=by
 unfold pS
 rw[YM h,YM (p:=p60.natAbs<2^4000) (by decide +kernel)]
 simp
def Oi:MS:=aX (ay cH (af 0) (ay xj (mC (.int 10)) (mC (.int 60)))) (ah 0)
theorem Xk:xj S (.int 10) (.int 60)=U (.int p60):=by
 have h:=Ol (S:=S) (i:=10) (j:=60) (by decide +kernel)
 rw[VR] at h
 exact h
def Oh{o:Option D}(h1:xj S (.int 10) (.int 60)=U (.int p))(h2:cH S (.int a) (.int p)=U (.int (a*p))):Oi [U (.int a),o] S=U (.nx [U (.int (a*p)),o] S):=by
 simp[Oi,h1,h2]
def Sw{o:Option D}(h:pS a p60=true):Oi [U (.int a),o] S=U (.nx [U (.int (a*p60)),o] S):=Oh Xk (jL h)
def farL{B:Nat}(hB:∀ i:Int,i.natAbs<B->pS i p60=true)(l:List D):∀ (a:Int) (o:Option D),0<a->a.natAbs*2^(200*l.length)<B->∃ q o',cK (ah 1) Oi l [U (.int a),o] S=U (.nx [U (.int q),o'] S)/\0<q:=by
 induction l with
 | nil=>exact λa o h _=>⟨a,o,rfl,h⟩
 | cons d l ih=>
  intro a o h hb
  have h1:a.natAbs<B:=acP (Nat.le_mul_of_pos_right _ (Nat.pow_pos (by decide))) hb
  obtain⟨q,o',e,hq⟩:=ih (a*p60) (U d) (Int.mul_pos h Rr) (by
   rw[Int.natAbs_mul]
   refine acP ?_ hb
   rw[YT,Nat.mul_add,Nat.pow_add,Nat.mul_assoc]
   refine acL _ ?_
   rw[abH]
   exact acL _ VQ)
  refine⟨q,o',?_,hq⟩
  rw[fW,aZ,ob,oY]
  show(Oi [U (.int a),U d] S).bind _=_
  rw[Sw (hB a h1),ob,nO]
  exact e
theorem Og{N:List Str}(hN:N.length=2):∃ q:Int,aQ N FH 0 [] S=U (.int q,S)/\0<q:=by
 obtain⟨q,o',e,hq⟩:=farL (S:=S) (λi h=>Rs h) (cw 0 10) 1 Y (by decide) (by decide +kernel)
 refine⟨q,?_,hq⟩
 rw[bg (show([]:List D).length=0 from rfl)]
 have:az N []=[Y,Y]:=by simp[az,hN,adg]
 rw[this]
 have k1:ND ([.int 10],S)=U (cw 0 10,S):=lP (by decide) (by decide)
 have e':cK (ah 1) (aX (ay cH (af 0) (ay xj (mC (.int 10)) (mC (.int 60)))) (ah 0)) (cw 0 10) [U (.int 1),Y] S=U (.nx [U (.int q),o'] S):=e
 simp only[FH,aS,bu,bp,ob,bv,aZ,fL,bP,aH,uT,fg,aq,ao,au,am,k1,vf,e',aV,aj,bK,oj,ak,bC,aO]
theorem IY{m:Int}{N:List Str}(hN:N.length=3)(h:Pk S r)(h0:0<m)(h1:m<1073741824) :
  ∃ q S',aQ N tw 2 [.ref r,.int m] S=U (.int q,S')/\0<=q/\q<m/\Pk S' r/\(∀ j,j≠r->S'[j]?=S[j]?)/\S'.length=S.length:=by
 obtain⟨a,b,c,h,ha,hb,hb'⟩:=h
 have hr:r<S.length:=(Yz.mp h).1
 have hm:∀ x:Int,0<=x%m/\x%m<m:=λx=>⟨aaJ _ (by omega),abx _ h0⟩
 have hst:az N [.ref r,.int m]=[U (.ref r),U (.int m),Y]:=by simp[az,hN]
 rw[bg (show [D.ref r,D.int m].length=2 from rfl),hst]
 have hs:∀ c:Cell,(S.set r c)[r]?=U c:=λc=>Zg hr
 by_cases hp:0<a
 ·refine⟨a%m,S.set r (.lst [.int (a / m),.int b,.int c]),?_,(hm a).1,(hm a).2,⟨a / m,b,c,hs _,Int.ediv_nonneg ha (by omega),hb,hb'⟩,λj hj=>by rw[Zf (Ne.symm hj)],by simp⟩
  have w:=vb (env:=[U (.ref r),U (.int m),U (.int (a%m))]) (d:=.int (a / m)) h (show JH _ 0=U 0 from rfl)
  simp[tw,qw h,hp,jM h0,Oy h0 h1,Yk,w]
 ·have hB:∀ x:Int,0<=x%2147483647/\x%2147483647<2147483647:=λx=>⟨aaJ _ (by decide),abx _ (by decide)⟩
  let b':=(b*48271+12345+7*(c+1))%2147483647
  have hb2:=hB (b*48271+12345+7*(c+1))
  have m3:pS b' b'=true:=qP (by omega) (by omega)
  have s1:(S.set r (.lst [.int a,.int b,.int (c+1)]))[r]?=U (.lst [.int a,.int b,.int (c+1)]):=hs _
  have s2:((S.set r (.lst [.int a,.int b,.int (c+1)])).set r (.lst [.int a,.int b',.int (c+1)]))[r]?=U (.lst [.int a,.int b',.int (c+1)]):=Zg (by simpa using hr)
  refine⟨b'*b'%1999999973 / 64%m,(S.set r (.lst [.int a,.int b,.int (c+1)])).set r (.lst [.int a,.int b',.int (c+1)]),?_,(hm _).1,(hm _).2,⟨a,b',c+1,s2,ha,(hB _).1,(hB _).2⟩,λj hj=>by rw[Zf (Ne.symm hj),Zf (Ne.symm hj)],by simp⟩
  have e1:cH (S.set r (.lst [.int a,.int b,.int (c+1)])) (.int b) (.int 48271)=U (.int (b*48271)):=jL (zD (by decide) (by decide))
  have e2:cH (S.set r (.lst [.int a,.int b,.int (c+1)])) (.int 7) (.int (c+1))=U (.int (7*(c+1))):=jL (qP (by decide) (by decide))
  have e3:∀ S x,lS S (.int x) (.int 2147483647)=U (.int (x%2147483647)):=λ_ _=>jM (by decide)
  have e4:∀ S x,lS S (.int x) (.int 1999999973)=U (.int (x%1999999973)):=λ_ _=>jM (by decide)
  have e5:∀ S x,JZ S (.int x) (.int 64)=U (.int (x / 64)):=λ_ _=>Oy (by decide) (by decide)
  have w1:=vb (env:=[U (.ref r),U (.int m),Y]) (d:=.int (c+1)) h (show JH _ 2=U 2 from rfl)
  have w2:=vb (env:=[U (.ref r),U (.int m),Y]) (d:=.int b') s1 (show JH _ 1=U 1 from rfl)
  simp[tw,qw h,qw s1,qw s2,hp,jM h0,Yk,e1,e2,e3,e4,e5,w1]
  rw[show(b*48271+12345+7*(c+1))%2147483647=b' from rfl,w2]
  simp[qw (hs _),Yk,jL m3,e4,e5,jM h0]
theorem DK{S:ac}{ns:List Int}{k:Int}{N:List Str}(hN:N.length=2)(h0:0<=k):∃ v,aQ N nM 2 [.rol (ns.map .int),.int k] S=U (.int v,S):=by
 rw[bg (show [D.rol (ns.map .int),D.int k].length=2 from rfl)]
 have hst:az N [D.rol (ns.map .int),D.int k]=[U (D.rol (ns.map .int)),U (.int k)]:=by simp[az,hN]
 rw[hst]
 by_cases h:k<ns.length
 ·have e:mx (ns.map D.int) k=U (.int (ns[k.toNat]'(by omega))):=by
   rw[AM h0 (by simpa using h)];simp
  exact⟨ns[k.toNat]'(by omega),by simp[nM,h,e]⟩
 ·exact⟨0,by simp[nM,h]⟩
def Ys{S:ac}{a b:Int}(ha:0<=a)(hb:0<=b)(hb':b<2147483647):Pk (S++[.lst [.int a,.int b,.int c]]) S.length:=⟨a,b,c,by simp,ha,hb,hb'⟩
theorem Jy{S:ac}{ns:List Int}{k:Int}{N:List Str}{cellAt far:List D->ac->Option (D×ac)}(hN:N.length=4)(h0:0<=k)(h1:k<=100000)
  (hc:∀ S k,0<=k->∃ v,cellAt [.rol (ns.map .int),.int k] S=U (.int v,S)) (hf:∀ S,∃ q,far [] S=U (.int q,S)/\0<q) :
  ∃ a b,aQ N (tz cellAt far) 2 [.rol (ns.map .int),.int k] S=U (.ref S.length,S++[.lst [.int a,.int b,.int 0]])/\0<=a/\0<=b/\b<2147483647:=by
 rw[bg (show [D.rol (ns.map .int),D.int k].length=2 from rfl)]
 have hst:az N [D.rol (ns.map .int),D.int k]=[U (D.rol (ns.map .int)),U (.int k),Y,Y]:=by simp[az,hN,adg]
 rw[hst]
 have hmx:0<(if (ns.length:Int)>1 then(ns.length:Int) else 1):=by split<;>omega
 obtain⟨v,hv⟩:=hc S (k%(if (ns.length:Int)>1 then(ns.length:Int) else 1)) (aaJ _ (by omega))
 obtain⟨q,hq,q0⟩:=hf S
 have e1:∀ S x,lS S (.int x) (.int 2147483629)=U (.int (x%2147483629)):=λ_ _=>jM (by decide)
 have e2:∀ S x,lS S (.int x) (.int 2147483647)=U (.int (x%2147483647)):=λ_ _=>jM (by decide)
 have e3:∀ S x,lS S (.int x) (.int q)=U (.int (x%q)):=λ_ _=>jM q0
 have p1:∀ S,cH S (.int 7919) (.int k)=U (.int (7919*k)):=λ_=>jL (qP (by decide) (by decide))
 have p2:∀ S,cH S (.int (7919*k)) (.int k)=U (.int (7919*k*k)):=λ_=>jL (zD (by omega) (by omega))
 have p3:∀ S x,cH S (.int x) (.int 48271)=U (.int (x*48271)):=λ_ _=>jL (zD (by decide) (by decide))
 have p4:∀ S x,cH S (.int x) (.int 39373)=U (.int (x*39373)):=λ_ _=>jL (zD (by decide) (by decide))
 have p5:∀ S,cH S (.int 7) (.int k)=U (.int (7*k)):=λ_=>jL (qP (by decide) (by decide))
 have pw:∀ S,xj S (.int 10) (.int 18)=U (.int 1000000000000000000):=λS=>by
  have h:=Ol (S:=S) (i:=10) (j:=18) (by decide +kernel)
  rwa[show(10:Int)^(18:Int).toNat=1000000000000000000 by decide +kernel] at h
 have hb:∀ x:Int,0<=x%2147483629/\x%2147483629<2147483647:=λx=>⟨aaJ _ (by decide),by have:=abx x (show(0:Int)<2147483629 by decide);omega⟩
 have kl:∀ S x y,yf ([.int x,.int y,.int 0],S)=U (.ref S.length,S++[.lst [.int x,.int y,.int 0]]):=λ_ _ _=>qg (by simp)
 by_cases h:v<1000000000000000000
 ·refine⟨0%q,(((v%2147483629+7919*k*k+11)*48271%2147483647)*39373+7*k+1)%2147483629,?_,aaJ _ (by omega),(hb _).1,(hb _).2⟩
  simp[-Int.zero_emod,tz,jM hmx,hv,e1,e2,e3,p1,p2,p3,p4,p5,pw,h,hq,kl]
 ·refine⟨v%q,(((v%2147483629+7919*k*k+11)*48271%2147483647)*39373+7*k+1)%2147483629,?_,aaJ _ (by omega),(hb _).1,(hb _).2⟩
  simp[tz,jM hmx,hv,e1,e2,e3,p1,p2,p3,p4,p5,pw,h,hq,kl]
theorem Dj{tg:MG}{p:MS}(I:bh->ac->Prop):∀ (xs:List D),(∀ d∈xs,∀ env S,I env S->∃ env1 S1 env2 S2,tg d env S=U (env1,S1)/\p env1 S1=U (.nx env2 S2)/\I env2 S2) ->
  ∀ env S,I env S->∃ env' S',cK tg p xs env S=U (.nx env' S')/\I env' S'
 | [],_,env,S,h=>⟨env,S,rfl,h⟩
 | d::xs,hs,env,S,h=>by
  obtain⟨env1,S1,env2,S2,e1,e2,h2⟩:=hs d YF env S h
  obtain⟨env',S',e3,h3⟩:=Dj I xs (λd hd=>hs d (YB _ hd)) env2 S2 h2
  exact⟨env',S',by rw[fW,e1,ob,oY,e2,ob,nO,e3],h3⟩
def Fd{lo:Int}{d:D}(h:d∈cw lo n):∃ i:Nat,i<n/\d=.int (lo+(i:Int)):=by
 obtain⟨i,hi⟩:=aaN.mp h
 exact⟨i,ua lo n i d hi⟩
noncomputable def nr:D->Bool
 | .ref _=>false
 | .exc _ _ _=>false
 | _=>true
noncomputable def NQ:D->Bool
 | .int _=>true
 | .bl _=>true
 | _=>false
noncomputable def HJ:D->Bool
 | .bl _=>true
 | _=>false
noncomputable def FS:D->Bool
 | .str _=>true
 | .txt=>true
 | _=>false
noncomputable def NP:D->Bool
 | .tup _=>true
 | _=>false
noncomputable def Eh:D->Bool
 | .int _=>true
 | _=>false
noncomputable def kU(lo hi:Int):D->Bool
 | .int i=>decide (lo<=i)&&decide (i<=hi)
 | _=>false
def Ou{S:ac}{d:D}(h:nr d=true):kg "int" S d=U (.bl (NQ d)):=by cases d<;>first | rfl | cases h
def JX{S:ac}{d:D}(h:nr d=true):kg "bool" S d=U (.bl (HJ d)):=by cases d<;>first | rfl | cases h
def Ot{S:ac}{d:D}(h:nr d=true):kg "str" S d=U (.bl (FS d)):=by cases d<;>first | rfl | cases h
def Os{S:ac}{d:D}(h:nr d=true):kg "tuple" S d=U (.bl (NP d)):=by cases d<;>first | rfl | cases h
abbrev PF:=List D->ac->Option (D×ac)
def GN(pick:PF):Prop:=∀ (S:ac) (r:Nat) (m:Int),Pk S r->0<m->m<1073741824->∃ q S',pick [.ref r,.int m] S=U (.int q,S')/\0<=q/\q<m/\Pk S' r/\(∀ j,j≠r->S'[j]?=S[j]?)/\S'.length=S.length
def Ac(pick:PF):MS:=
 aF (aX (ay aA (dG (aa (mC (.str "rows")) (aa (mC (.str "readers")) (aa (mC (.str "writers")) (aa (mC (.str "turns")) (aa (mC (.str "passes")) ai)))))) (aw 2 pick (aa (af 0) (aa (mC (.int 5)) ai)))) (ah 1)) (aF (aX (ay aA (dG (aa (mC (.int 0)) (aa (mC (.int 0)) (aa (mC (.int 1)) (aa (mC (.int 2)) (aa (mC (.int 3)) (aa (mC (.int 5)) ai))))))) (aw 2 pick (aa (af 0) (aa (mC (.int 6)) ai)))) (ah 2)) (aF (aX (ay cH (ay aA (dG (aa (mC (.int 0)) (aa (mC (.int 1)) (aa (mC (.int 2)) (aa (mC (.int 9)) ai))))) (aw 2 pick (aa (af 0) (aa (mC (.int 4)) ai)))) (bw (aU kD) (aa (ay cy (af 1) (mC (.str "passes"))) ai))) (ah 3)) (bq (be (aa (af 1) (aa (af 2) (aa (af 3) (aa (aw 2 pick (aa (af 0) (aa (mC (.int 2)) ai))) ai))))))))
theorem TR{q:Int}(h0:0<=q)(h1:q<6):∃ i:Int,mx [D.int 0,D.int 0,D.int 1,D.int 2,D.int 3,D.int 5] q=U (.int i)/\0<=i/\i<=5:=by
 obtain rfl | rfl | rfl | rfl | rfl | rfl:q=0\/q=1\/q=2\/q=3\/q=4\/q=5:=by omega
 all_goals exact⟨_,rfl,by decide,by decide⟩
theorem Qe{q:Int}(h0:0<=q)(h1:q<4):∃ i:Int,mx [D.int 0,D.int 1,D.int 2,D.int 9] q=U (.int i)/\0<=i/\i<=9:=by
 obtain rfl | rfl | rfl | rfl:q=0\/q=1\/q=2\/q=3:=by omega
 all_goals exact⟨_,rfl,by decide,by decide⟩
theorem Xf{tg:MG}{p:MS}{lo:Int}(I:Nat->bh->ac->Prop)(n:Nat)(step:∀ i,i<n->∀ env S,I i env S->∃ env1 S1 env2 S2,tg (.int (lo+(i:Int))) env S=U (env1,S1)/\p env1 S1=U (.nx env2 S2)/\I (i+1) env2 S2) :
  ∀ env S,I 0 env S->∃ env' S',cK tg p (cw lo n) env S=U (.nx env' S')/\I n env' S':=by
 have gen:∀ (m k:Nat),k+m=n->∀ env S,I k env S->∃ env' S',cK tg p ((List.range' k m).map λ(i:Nat)=>D.int (lo+(i:Int))) env S=U (.nx env' S')/\I n env' S':=by
  intro m
  induction m with
  | zero=>exact λk hk env S h=>⟨env,S,rfl,by rw[<- hk];exact h⟩
  | succ m ih=>
   intro k hk env S h
   obtain⟨env1,S1,env2,S2,e1,e2,h2⟩:=step k (by omega) env S h
   obtain⟨env',S',e3,h3⟩:=ih (k+1) (by omega) env2 S2 h2
   refine⟨env',S',?_,h3⟩
   rw[List.range'_succ,YJ,fW,e1,ob,oY,e2,ob,nO,e3]
 intro env S h
 have:=gen n 0 (by omega) env S h
 unfold cw
 rw[List.range_eq_range']
 exact this
def EntOk(n:Int)(xs:List D)(d:D):Prop:=∃ (g:Int) (w:Str) (m:Int) (t:D),d=.tup [.int g,.str w,.int m,t]/\0<=g/\g<n/\(w = "read"\/w = "write")/\0<=m/\m<=999/\(t=.non\/∃ k,t=.int k/\1<=k/\k<=9)/\mx xs g=U (.str "out")
theorem EntOk.up{n':Int}{d:D}(h:EntOk n xs d)(hn:n<=n'):EntOk n' xs d:=by
 obtain⟨g,w,m,t,e,h0,h1,r⟩:=h
 exact⟨g,w,m,t,e,h0,by omega,r⟩
def yx{S:ac}{q:Nat}(h:S[q]?=U (.lst xs)):aU (cR g) [.ref q] S=U (g xs,S):=by
 have e:jb S (.ref q)=U xs:=by simp only[jb,h]
 show((jb S (.ref q)).bind _).bind _=_
 rw[e];rfl
def FQ(x:Str):Prop:=x = "rows"\/x = "readers"\/x = "writers"\/x = "turns"\/x = "passes"
theorem TQ{q:Int}(h0:0<=q)(h1:q<5):∃ x:Str,mx [D.str "rows",D.str "readers",D.str "writers",D.str "turns",D.str "passes"] q=U (.str x)/\FQ x:=by
 obtain rfl | rfl | rfl | rfl | rfl:q=0\/q=1\/q=2\/q=3\/q=4:=by omega
 ·exact⟨_,rfl,.inl rfl⟩
 ·exact⟨_,rfl,.inr (.inl rfl)⟩
 ·exact⟨_,rfl,.inr (.inr (.inl rfl))⟩
 ·exact⟨_,rfl,.inr (.inr (.inr (.inl rfl)))⟩
 ·exact⟨_,rfl,.inr (.inr (.inr (.inr rfl)))⟩
def Keep(r:Nat)(S S':ac):Prop:=(∀ j,j≠r->S'[j]?=S[j]?)/\S'.length=S.length
theorem Keep.trans(h:Keep r S S')(h':Keep r S' S''):Keep r S S'':=⟨λj z=>(h'.1 j z).trans (h.1 j z),h'.2.trans h.2⟩
structure Yr(x:Str)(a b c:Int):Prop where
 w:FQ x
 a0:0<=a
 a5:a<=5
 b0:0<=b
 b9:b<=9
 c0:0<=c
 c1:c<=1
theorem IR{pick:PF}(hp:GN pick){S:ac}{r:Nat}{N:List Str}(hN:N.length=4)(h:Pk S r):∃ x a b c S',aQ N (Ac pick) 1 [.ref r] S=U (.tup [.str x,.int a,.int b,.int c],S')/\Yr x a b c/\Pk S' r/\Keep r S S':=by
 have hst:az N [D.ref r]=[U (.ref r),Y,Y,Y]:=by simp[az,hN,adg]
 rw[bg (show [D.ref r].length=1 from rfl),hst]
 obtain⟨q1,S1,e1,l1,g1,P1,K1⟩:=hp _ _ 5 h (by decide) (by decide)
 obtain⟨q2,S2,e2,l2,g2,P2,K2⟩:=hp _ _ 6 P1 (by decide) (by decide)
 obtain⟨q3,S3,e3,l3,g3,P3,K3⟩:=hp _ _ 4 P2 (by decide) (by decide)
 obtain⟨q4,S4,e4,l4,g4,P4,K4⟩:=hp _ _ 2 P3 (by decide) (by decide)
 obtain⟨x,i1,wx⟩:=TQ l1 g1
 obtain⟨a,i2,a0,a5⟩:=TR l2 g2
 obtain⟨b,i3,b0,b9⟩:=Qe l3 g3
 have k1:∀ S,mO ([D.str "rows",D.str "readers",D.str "writers",D.str "turns",D.str "passes"],S)=U (.lst [D.str "rows",D.str "readers",D.str "writers",D.str "turns",D.str "passes"],S):=λS=>dJ (by simp)
 have k2:∀ S,mO ([D.int 0,D.int 0,D.int 1,D.int 2,D.int 3,D.int 5],S)=U (.lst [D.int 0,D.int 0,D.int 1,D.int 2,D.int 3,D.int 5],S):=λS=>dJ (by simp)
 have k3:∀ S,mO ([D.int 0,D.int 1,D.int 2,D.int 9],S)=U (.lst [D.int 0,D.int 1,D.int 2,D.int 9],S):=λS=>dJ (by simp)
 have k4:∀ S (a b c d:D),cz ([a,b,c,d],S)=U (.tup [a,b,c,d],S):=λS a b c d=>aT (by simp)
 have m1:∀ S (z:Bool),cH S (.int b) (.int (if z=true then 1 else 0))=U (.int (b*(if z=true then 1 else 0))):=λS z=>jL (qP (by omega) (by omega))
 refine⟨x,a,b*(if (x==("passes":Str))=true then 1 else 0),q4,S4,?_,⟨wx,a0,a5,by split<;>omega,by split<;>omega,l4,by omega⟩,P4,Keep.trans K1 (Keep.trans K2 (Keep.trans K3 K4))⟩
 simp[-beq_iff_eq,Ac,k1,k2,k3,k4,e1,e2,e3,e4,i1,i2,i3,m1]
def lO(F:PF):MS:=
 aF (bY (da (eG "dict" (af 1))) (aF (bY (gH (dm (da (eG "dict" (af 0)))) (aB (ay jo (bw (aU iF) (aa (af 0) ai)) (bw (aU iF) (aa (af 1) ai))))) (bq (mC (.bl false))) bn) (aF (aX gK (ah 2)) (bq (bw (aU vP) (aa (bH (dq (af 1)) (ah 0) bQ (ft (ay pi (af 0) (af 2)) (ft (aw 2 F (aa (ay aA (af 3) (af 0)) (aa (af 0) ai))) (aw 2 F (aa (ay aA (af 2) (af 0)) (aa (ay aA (af 1) (af 0)) ai))))) [Y,U 1,U 0,U 2]) ai))))) bn) (aF (bY (gH (da (eG "list" (af 1))) (da (eG "tuple" (af 1)))) (aF (bY (gH (aB (ay jo (eG "list" (af 0)) (eG "list" (af 1)))) (aB (ay jo (eG "tuple" (af 0)) (eG "tuple" (af 1))))) (bq (mC (.bl false))) bn) (bq (ft (ay cy (bw (aU iF) (aa (af 0) ai)) (bw (aU iF) (aa (af 1) ai))) (bw (aU vP) (aa (bH (oS (aa (af 0) (aa (af 1) ai))) (bi 2 (ag (ah 0) (ag (ah 1) aW))) bQ (aw 2 F (aa (af 0) (aa (af 1) ai))) [Y,Y]) ai))))) bn) (aF (bY (aB (ay Ee (af 1) (mC .non))) (bq (ay Ee (af 0) (mC .non))) bn) (aF (bY (da (eG "str" (af 1))) (bq (ft (eG "str" (af 0)) (ay cy (af 0) (af 1)))) bn) (aF (bY (gH (da (eG "bool" (af 1))) (da (eG "bool" (af 0)))) (bq (ft (eG "bool" (af 0)) (ft (eG "bool" (af 1)) (ay cy (af 0) (af 1))))) bn) (bq (ft (eG "int" (af 0)) (ay cy (af 0) (af 1))))))))
noncomputable def cT:Nat->D->Bool
 | 0,_=>false
 | _+1,.non=>true
 | _+1,.bl _=>true
 | _+1,.int _=>true
 | _+1,.str _=>true
 | j+1,.tup xs=>decide (xs.length<=1000)&&xs.all (cT j)
 | _+1,_=>false
def Xq{S:ac}{d:D}(h:cT j d=true):kg "dict" S d=U (.bl false)/\kg "list" S d=U (.bl false):=by
 cases j with
 | zero=>cases h
 | succ j=>cases d<;>first | exact⟨rfl,rfl⟩ | (exfalso;simp[cT] at h)
theorem oo:∀ xs:List D,(kL xs xs).length=xs.length
 | []=>rfl
 | x::r=>by rw[Lh,YT,YT,oo r]
theorem qF:∀ n:Nat,iG (adg n (D.bl true))=U (adg n true)
 | 0=>rfl
 | n+1=>by
  rw[Zc,Zc]
  have:=qF n
  simp only[iG,this];rfl
def Xl{k:Bool}:jo S (.bl k) (.bl l)=U (.bl (!(k==l))):=vN (by simp[cB]) (by simp[cB])
theorem LS{F:PF}{S:ac}{t1 t2:Option D}:∀ (xs:List D) (a b:Option D),(∀ d∈xs,F [d,d] S=U (.bl true,S))->dr (bi 2 (ag (ah 0) (ag (ah 1) aW))) bQ (aw 2 F (aa (af 0) (aa (af 1) ai))) (kL xs xs) [a,b] S=U (adg xs.length (.bl true),S)
 | [],a,b,_=>by simp
 | x::r,a,b,h=>by
  have h1:=h x (by simp)
  have h2:=LS (t1:=t1) (t2:=t2) r (U x) (U x) λd hd=>h d (YB _ hd)
  rw[Lh,gB]
  simp[h1,h2,Zc]
theorem By{R:Nat->PF}{N:List Str}(hN:N.length=3)(hR:∀ j,R (j+1)=aQ N (lO (R j)) 2){S:ac}:∀ (j:Nat) (d:D),cT j d=true->R j [d,d] S=U (.bl true,S)
 | 0,d,h=>by cases d<;>cases h
 | j+1,d,h=>by
  have hst:az N [d,d]=[U d,U d,Y]:=by simp[az,hN,adg]
  rw[hR,bg (show [d,d].length=2 from rfl),hst]
  obtain⟨i1,i2⟩:=Xq (S:=S) h
  cases d with
  | tup xs=>
   have hx:xs.length<=1000/\xs.all (cT j)=true:=by simpa[cT] using h
   have it:kg "tuple" S (.tup xs)=U (.bl true):=rfl
   have hl:=LS (F:=R j) (S:=S) (t1:=Y) (t2:=Y) xs Y Y λd hd=>By hN hR j d (YO.mp hx.2 d hd)
   have kc:mP (bi 2 (ag (ah 0) (ag (ah 1) aW))) bQ (aw 2 (R j) (aa (af 0) (aa (af 1) ai))) [Y,Y] [U (.tup xs),U (.tup xs),Y] (kL xs xs,S)=U (.lst (adg xs.length (.bl true)),S):=by
    rw[jC (by rw[oo];exact hx.1)]
    show(dr _ _ _ (kL xs xs) [Y,Y] S).bind _=_
    rw[hl];rfl
   have fa:aU vP [.lst (adg xs.length (D.bl true))] S=U (.bl true,S):=by
    rw[Gb (qF _)];simp
   simp[lO,i1,i2,it,Xl,kc,fa]
  | txt=>cases h
  | obj=>cases h
  | exc C fl i=>cases h
  | non=>simp[lO,i1,i2,show kg "tuple" S .non=U (.bl false) from rfl,nQ]
  | bl k=>simp[lO,i1,i2,show kg "tuple" S (.bl k)=U (.bl false) from rfl,show kg "str" S (.bl k)=U (.bl false) from rfl,show kg "bool" S (.bl k)=U (.bl true) from rfl,nQ]
  | int i=>simp[lO,i1,i2,show kg "tuple" S (.int i)=U (.bl false) from rfl,show kg "str" S (.int i)=U (.bl false) from rfl,show kg "bool" S (.int i)=U (.bl false) from rfl,show kg "int" S (.int i)=U (.bl true) from rfl,nQ]
  | str x=>simp[lO,i1,i2,show kg "tuple" S (.str x)=U (.bl false) from rfl,show kg "str" S (.str x)=U (.bl true) from rfl,nQ]
  | lst _=>simp[cT] at h
  | rol _=>simp[cT] at h
  | dct _ _=>simp[cT] at h
  | ref _=>simp[cT] at h
def ia{S:ac}{c:Cell}:(S++[c])[S.length]?=U c:=by simp
def AQ{S:ac}{c d:Cell}:(S++[c]).set S.length d=S++[d]:=by
 rw[List.set_append,if_neg (aaj _)];simp
inductive Wd where | out | reads | rising | writes | raised
deriving DecidableEq
noncomputable def Wd.s:Wd->Str
 | .out=>"out"
 | .reads=>"reads"
 | .rising=>"rising"
 | .writes=>"writes"
 | .raised=>"raised"
theorem Wd.eq(a b:Wd):(a.s==b.s)=decide (a=b):=by cases a<;>cases b<;>decide +kernel
structure En where
 g:Nat
 wr:Bool
 m:Int
 t:Option Int
noncomputable def bA(b:Bool):Str:=if b then "write" else "read"
theorem pE(b:Bool):(bA b==("write":Str))=b:=by cases b<;>decide +kernel
theorem sU(b:Bool):(bA b==("read":Str)) = !b:=by cases b<;>decide +kernel
noncomputable def bR:Option Int->D
 | none=>.non
 | some k=>.int k
noncomputable def En.d(e:En):D:=.tup [.int (e.g:Nat),.str (bA e.wr),.int e.m,bR e.t]
abbrev Rm:=List Wd×List En
noncomputable def Wd.d(w:Wd):D:=.str w.s
noncomputable def cF(ws:List Wd):D:=.tup (ws.map Wd.d)
noncomputable def esD(es:List En):D:=.tup (es.map En.d)
noncomputable def aP(R:Rm):D:=.tup [cF R.1,esD R.2]
inductive Rw where | rows | readers | writers | turns | passes
deriving DecidableEq
noncomputable def Rw.s:Rw->Str
 | .rows=>"rows"
 | .readers=>"readers"
 | .writers=>"writers"
 | .turns=>"turns"
 | .passes=>"passes"
theorem Rw.eq(a b:Rw):(a.s==b.s)=decide (a=b):=by cases a<;>cases b<;>decide +kernel
structure Rl where
 w:Rw
 a:Int
 b:Int
 c:Int
noncomputable def Rl.d(r:Rl):D:=.tup [.str r.w.s,.int r.a,.int r.b,.int r.c]
structure Rl.Ok(r:Rl):Prop where
 a0:0<=r.a
 a5:r.a<=5
 b0:0<=r.b
 b9:r.b<=9
 c0:0<=r.c
 c1:r.c<=1
def JK(h:FQ x):∃ w:Rw,x=w.s:=by
 rcases h with rfl | rfl | rfl | rfl | rfl
 ·exact⟨.rows,rfl⟩
 ·exact⟨.readers,rfl⟩
 ·exact⟨.writers,rfl⟩
 ·exact⟨.turns,rfl⟩
 ·exact⟨.passes,rfl⟩
section
variable{α:Type}{enc:α->D}{p:α->Bool}{f:α->D}{t:MT}{e:ME}{rest:bh}{S:ac}
theorem UV:∀ (xs:List α) (a:Option D),(∀ x∈xs,t (U (enc x)::rest) S=U (p x,S))->(∀ x∈xs,p x=true->e (U (enc x)::rest) S=U (f x,S))->dr (ah 0) t e (xs.map enc) (a::rest) S=U ((xs.filter p).map f,S)
 | [],a,_,_=>by simp
 | x::r,a,h,h2=>by
  have ih:=UV r (U (enc x)) (λy hy=>h y (YB _ hy)) λy hy=>h2 y (YB _ hy)
  rw[YJ,gB,aZ,ob,fL,vk,h x (by simp),ob]
  cases hp:p x with
  | true=>rw[vj,h2 x (by simp) hp,ob,vi,ih,ob,vh,aaH hp,YJ]
  | false=>rw[Am,ih,aaI (by simp[hp])]
def dw{a:Option D}{xs:List α}(hc:vZ cap env=a::rest)(hl:xs.length<=1000)(h:∀ x∈xs,t (U (enc x)::rest) S=U (p x,S))(h2:∀ x∈xs,p x=true->e (U (enc x)::rest) S=U (f x,S)) :
  mP (ah 0) t e cap env (xs.map enc,S)=U (.lst ((xs.filter p).map f),S):=by
 rw[jC (by rw[YE];exact hl),hc,UV xs a h h2,ob,lm]
theorem UU:∀ (xs:List α) (k:Nat) (a b:Option D),(∀ i x,xs[i]?=U x->t (U (.int ((k+i:Nat):Int))::U (enc x)::rest) S=U (p x,S))->dr (bi 2 (ag (ah 0) (ag (ah 1) aW))) t (af 0) (fE k (xs.map enc)) (a::b::rest) S=U (((xs.zipIdx k).filter λq=>p q.1).map λq=>.int (q.2:Int),S)
 | [],k,a,b,_=>by simp[fE]
 | x::r,k,a,b,h=>by
  have ih:=UU r (k+1) (U (.int (k:Int))) (U (enc x)) (λi y hy=>by
   have:=h (i+1) y (by simpa using hy)
   rw[show k+(i+1)=k+1+i by omega] at this
   exact this)
  have h0:=h 0 x rfl
  rw[acw] at h0
  rw[YJ,fE,gB,cE,bF,aZ,ob,fL,dc,bF,aZ,ob,gI,fL,dc,ci,ob,vk,h0,ob,aal]
  cases hp:p x with
  | true=>
   rw[vj,aj,bK,oj,ob,ak,ob,vi,ih,ob,vh,aaH (p:=λq:α×Nat=>p q.1) (a:=(x,k)) hp,YJ]
  | false=>rw[Am,ih,aaI (p:=λq:α×Nat=>p q.1) (a:=(x,k)) (by simp[hp])]
def Ah{a b:Option D}{xs:List α}(hc:vZ cap env=a::b::rest)(hl:xs.length<=1000)(h:∀ (i:Nat) x,xs[i]?=U x->t (U (.int (i:Int))::U (enc x)::rest) S=U (p x,S)) :
  mP (bi 2 (ag (ah 0) (ag (ah 1) aW))) t (af 0) cap env (fE 0 (xs.map enc),S)=U (.lst ((xs.zipIdx.filter λq=>p q.1).map λq=>.int (q.2:Int)),S):=by
 rw[jC (by rw[nV,YE];exact hl),hc,UU xs 0 a b (λi x hx=>by rw[abm];exact h i x hx),ob,lm]
end
theorem Qf{α:Type}{xs:List α}{i:Nat}{x:α}(h:xs[i]?=U x):mx xs (i:Int)=U x:=by
 have hl:=(Yz.mp h).1
 rw[AM (by omega) (by omega)]
 rw[Yz] at h
 obtain⟨_,h⟩:=h
 simpa using h
def at4(x a b c:D):mx [x,a,b,c] 0=U x/\mx [x,a,b,c] 1=U a/\mx [x,a,b,c] 2=U b/\mx [x,a,b,c] 3=U c:=⟨rfl,rfl,rfl,rfl⟩
def at2(x a:D):mx [x,a] 0=U x/\mx [x,a] 1=U a:=⟨rfl,rfl⟩
section
variable{S:ac}{e:En}{r:Rl}{R:Rm}
def En.ix0:aA S e.d (.int 0)=U (.int (e.g:Nat)):=rfl
def En.ix1:aA S e.d (.int 1)=U (.str (bA e.wr)):=rfl
def En.ix2:aA S e.d (.int 2)=U (.int e.m):=rfl
def En.ix3:aA S e.d (.int 3)=U (bR e.t):=rfl
def Rl.ix0:aA S r.d (.int 0)=U (.str r.w.s):=rfl
def Rl.ix1:aA S r.d (.int 1)=U (.int r.a):=rfl
def Rl.ix2:aA S r.d (.int 2)=U (.int r.b):=rfl
def Rl.ix3:aA S r.d (.int 3)=U (.int r.c):=rfl
def Rm.ix0:aA S (aP R) (.int 0)=U (cF R.1):=rfl
def Rm.ix1:aA S (aP R) (.int 1)=U (esD R.2):=rfl
def xr{ws:List Wd}{i:Nat}{w:Wd}(h:ws[i]?=U w):aA S (cF ws) (.int (i:Int))=U w.d:=by
 show mx (ws.map Wd.d) (i:Int)=_
 exact Qf (by rw[aah,h];rfl)
def OW{es:List En}{i:Nat}{e:En}(h:es[i]?=U e):aA S (esD es) (.int (i:Int))=U e.d:=by
 show mx (es.map En.d) (i:Int)=_
 exact Qf (by rw[aah,h];rfl)
end
def LV{d i:Nat}:HT.eY n d (U (i:Int))=min i n:=by
 show(if (i:Int)<0 then((i:Int)+(n:Int)).toNat else min (i:Int).toNat n)=_
 rw[if_neg (by omega),ZQ]
def LW{d:Nat}:HT.eY n d Y=d:=rfl
def KB{α:Type}(xs:List α)(i:Nat)(h:i<=xs.length):je xs Y (U (i:Int))=xs.take i:=by
 unfold je
 rw[LV,LW,abX h];simp
def nW{α:Type}(xs:List α)(i:Nat)(h:i<=xs.length):je xs (U (i:Int)) Y=xs.drop i:=by
 unfold je
 rw[LV,LW,abX h,abj (by simp)]
def FG:MS:=bq (ay aM (ay aM (bI (af 0) bJ (cx (af 1))) (be (aa (af 2) ai))) (bI (af 0) (cx (ay aM (af 1) (mC (.int 1)))) bJ))
def LN{α:Type}(xs:List α)(i:Nat)(h:i<xs.length)(x:α):xs.take i++[x]++xs.drop (i+1)=xs.set i x:=by
 rw[List.set_eq_take_append_cons_drop,YR h];simp
theorem QR{N:List Str}(hN:N.length=3){ws:List Wd}{i:Nat}{w:Wd}(h:i<ws.length)(hl:ws.length<=100):aQ N FG 3 [cF ws,.int (i:Int),w.d] S=U (cF (ws.set i w),S):=by
 have hst:az N [cF ws,D.int (i:Int),w.d]=[U (cF ws),U (.int (i:Int)),U w.d]:=by simp[az,hN]
 rw[bg (show [cF ws,D.int (i:Int),w.d].length=3 from rfl),hst]
 have k1:cz ([w.d],S)=U (.tup [w.d],S):=aT (by simp)
 have c1:je (ws.map Wd.d) Y (U (i:Int))=(ws.take i).map Wd.d:=by rw[KB _ _ (by rw[YE];omega),aaS]
 have c2:je (ws.map Wd.d) (U ((i:Int)+1)) Y=(ws.drop (i+1)).map Wd.d:=by
  rw[show((i:Int)+1)=((i+1:Nat):Int) by omega,nW _ _ (by rw[YE];omega),abu]
 have a1:aM S (.tup ((ws.take i).map Wd.d)) (.tup [w.d])=U (.tup ((ws.take i).map Wd.d++[w.d])):=ge (by simp;omega)
 have a2:aM S (.tup ((ws.take i).map Wd.d++[w.d])) (.tup ((ws.drop (i+1)).map Wd.d))=U (.tup ((ws.take i).map Wd.d++[w.d]++(ws.drop (i+1)).map Wd.d)):=ge (by simp;omega)
 have e:(ws.take i).map Wd.d++[w.d]++(ws.drop (i+1)).map Wd.d=(ws.set i w).map Wd.d:=by
  rw[<- LN ws i h w];simp
 rw[e] at a2
 simp only[FG,cF,aV,aJ,cO,aj,bK,bO,bN,oj,ob,ak,fZ,cU,fY,dF,dI,mM,c1,av,bj,aq,ao,au,am,k1,ax,a1,bp,lV,c2,a2,bC,aO]
section
variable{S:ac}{ws:List Wd}{es:List En}{ms:MA}{env:bh}
def Xw(a b:Wd):jd a.d b.d=decide (a=b):=Wd.eq a b
def Wf:((ws.map Wd.d).all (cB n))=true:=by
 rw[YO];intro d hd;obtain⟨w,_,rfl⟩:=Zb.mp hd;cases n<;>rfl
def yP(w:Wd):fO (cF ws) [w.d] S=U (.int (ws.count w:Nat),S):=by
 have h:=Ka (S:=S) (x:=w.d) (xs:=ws.map Wd.d) rfl Wf
 rw[show cF ws=.tup (ws.map Wd.d) from rfl,h]
 congr 4
 rw[List.countP_map]
 apply List.countP_congr
 intro a _
 simp[Xw]
def pD:Sa ms env (cF ws,S)=(ms env S).bind (eH fO (cF ws)):=rfl
def yO:aU iF [cF ws] S=U (.int (ws.length:Nat),S):=by
 rw[show cF ws=.tup (ws.map Wd.d) from rfl,Op,YE]
def OV:aU iF [esD es] S=U (.int (es.length:Nat),S):=by
 rw[show esD es=.tup (es.map En.d) from rfl,Op,YE]
end
noncomputable def qX(r:Rl)(ws:List Wd)(wr:Bool):Bool:=
 if ws.count .reads+ws.count .rising+ws.count .out<ws.length then false
 else if wr then decide (ws.count .reads+ws.count .rising=0)
 else decide (ws.count .rising=0)&&(decide (r.a=0)||decide (((ws.count .reads+ws.count .rising:Nat):Int)<r.a))
def Ad:MS:=
 aF (aX (ay aM (lh (af 1) (aa (mC (.str "reads")) ai)) (lh (af 1) (aa (mC (.str "rising")) ai))) (ah 3)) (aF (bY (aB (ay SC (ay aM (af 3) (lh (af 1) (aa (mC (.str "out")) ai))) (bw (aU iF) (aa (af 1) ai)))) (bq (mC (.bl false))) bn) (aF (bY (aB (ay cy (af 2) (mC (.str "write")))) (bq (ay cy (af 3) (mC (.int 0)))) bn) (bq (ft (ay cy (lh (af 1) (aa (mC (.str "rising")) ai)) (mC (.int 0))) (zV (ay cy (ay aA (af 0) (mC (.int 1))) (mC (.int 0))) (ay SC (af 3) (ay aA (af 0) (mC (.int 1)))))))))
theorem Np{N:List Str}(hN:N.length=4){r:Rl}:aQ N Ad 3 [r.d,cF ws,.str (bA wr)] S=U (.bl (qX r ws wr),S):=by
 have hst:az N [r.d,cF ws,D.str (bA wr)]=[U r.d,U (cF ws),U (.str (bA wr)),Y]:=by simp[az,hN,adg]
 rw[bg (show [r.d,cF ws,D.str (bA wr)].length=3 from rfl),hst]
 have c1:∀ S,fO (cF ws) [.str "reads"] S=U (.int (ws.count .reads:Nat),S):=λS=>yP .reads
 have c2:∀ S,fO (cF ws) [.str "rising"] S=U (.int (ws.count .rising:Nat),S):=λS=>yP .rising
 have c3:∀ S,fO (cF ws) [.str "out"] S=U (.int (ws.count .out:Nat),S):=λS=>yP .out
 unfold qX
 simp only[Ad,aS,bu,aJ,Nm,aj,bK,bN,bO,oj,ob,ak,pD,aq,bp,ao,au,am,gW,c1,c2,c3,av,ax,lV,bv,aZ,fL,gI,bP,aH,bt,aK,bZ,cb,yO,fLt_i,aI]
 by_cases h1:ws.count .reads+ws.count .rising+ws.count .out<ws.length
 ·have:decide (((ws.count Wd.reads:Nat):Int)+((ws.count Wd.rising:Nat):Int)+((ws.count Wd.out:Nat):Int)<((ws.length:Nat):Int))=true:=YM (by omega)
  rw[this,YR h1];simp
 ·have:decide (((ws.count Wd.reads:Nat):Int)+((ws.count Wd.rising:Nat):Int)+((ws.count Wd.out:Nat):Int)<((ws.length:Nat):Int))=false:=YK (by omega)
  rw[this,if_neg h1]
  cases wr with
  | true=>
   have e:(bA true==("write":Str))=true:=pE true
   have e2:(((ws.count Wd.reads:Nat):Int)+((ws.count Wd.rising:Nat):Int)==0)=decide (ws.count Wd.reads+ws.count Wd.rising=0):=by
    rw[Zm];simp;omega
   simp[e,e2]
  | false=>
   have e:(bA false==("write":Str))=false:=pE false
   have e2:(((ws.count Wd.rising:Nat):Int)==0)=decide (ws.count Wd.rising=0):=by rw[Zm];simp
   have e3:(r.a==0)=decide (r.a=0):=rfl
   by_cases h2:ws.count Wd.rising=0
   ·by_cases h3:r.a=0
    ·simp[e,e2,Rl.ix1,h2,h3,pD,c2]
    ·simp[e,e2,Rl.ix1,h2,h3,pD,c2,ZF.mpr h3]
   ·simp[e,e2,Rl.ix1,h2,pD,c2]
def mH{α:Type}(xs:List α)(i:Nat):je xs Y (U (i:Int))=xs.take i:=by
 unfold je
 rw[LV,LW];simp only[ace,Nat.sub_zero]
 rcases Nat.le_total i xs.length with h | h
 ·rw[abX h]
 ·rw[Nat.min_eq_right h,abj (YL _),abj h]
noncomputable def ni(i:Nat):D:=.int (i:Int)
noncomputable def nl(l:List Nat):D:=.lst (l.map ni)
noncomputable def Rv(a b:List Nat):List Nat:=if a=[] then b else a
noncomputable def AY(p:En->Bool)(es:List En):List Nat:=(es.zipIdx.filter λq=>p q.1).map (·.2)
def pd{i:Nat}(h:i∈AY p es):i<es.length:=by
 unfold AY at h
 obtain⟨q,hq,rfl⟩:=Zb.mp h
 have:=(Zx.mp hq).1
 have:=List.snd_lt_of_mem_zipIdx this
 omega
def JI:AY (λ_=>false) es=[]:=by unfold AY;simp
def MK{p:En->Bool}{es:List En}:D.lst ((es.zipIdx.filter λq=>p q.1).map λq=>.int (q.2:Int))=nl (AY p es):=by
 unfold nl AY ni;rw[ZA];rfl
def WJ{S:ac}:Uz b env (nl l,S)=if l=[] then b env S else U (nl l,S):=by
 cases l with
 | nil=>rfl
 | cons _ _=>rw[if_neg (by simp)];exact kOr_c
def WE{S:ac}{n:Nat}:kf (nl l) Y (U (n:Int),S)=U (nl (l.take n),S):=by
 unfold nl;rw[WF,mH,aaS]
def uy(n:Nat):D.lst (cw 0 n)=nl (List.range n):=by
 unfold cw nl ni;congr 1;apply aaU;intro i _;rw[acx]
def RX{S:ac}:FM (nl l,S)=U (l.map ni,S):=rfl
noncomputable def Di(r:Rl)(es:List En):List Nat:=match r.w with
 | .rows=>(List.range es.length).take 1
 | .readers=>(Rv (AY (λe=>!e.wr) es) (AY (λe=>e.wr) es)).take 1
 | .passes=>(List.range es.length).filter λi=>decide (kN (0::(es.take i).map λe=>e.m+1)<=r.b)
 | .turns=>(Rv (AY (λe=>decide (e.m=1)) es) (Rv (AY (λe=>e.wr) es) (AY (λe=>!e.wr) es))).take 1
 | .writers=>(Rv (AY (λe=>e.wr) es) (AY (λe=>!e.wr) es)).take 1
def rj{i:Nat}(h:i∈Di r es):i<es.length:=by
 have ho:∀ {a b:List Nat},i∈Rv a b->i∈a\/i∈b:=λ{a b} h=>by unfold Rv at h;split at h<;>simp[h]
 unfold Di at h
 split at h
 ·exact ZU.mp (ZS h)
 ·exact(ho (ZS h)).elim pd pd
 ·exact ZU.mp (Zx.mp h).1
 ·exact(ho (ZS h)).elim pd λh=>(ho h).elim pd pd
 ·exact(ho (ZS h)).elim pd pd
def frR:ME:=bH (gS (aa (af 1) ai)) (bi 2 (ag (ah 0) (ag (ah 1) aW))) (aB (ay cy (ay aA (af 1) (mC (.int 1))) (mC (.str "read")))) (af 0) [Y,Y]
def frW:ME:=bH (gS (aa (af 1) ai)) (bi 2 (ag (ah 0) (ag (ah 1) aW))) (aB (ay cy (ay aA (af 1) (mC (.int 1))) (mC (.str "write")))) (af 0) [Y,Y]
def frT:ME:=bH (gS (aa (af 1) ai)) (bi 2 (ag (ah 0) (ag (ah 1) aW))) (du (aB (ay cy (ay aA (af 2) (mC (.int 0))) (mC (.str "turns")))) (aB (ay cy (ay aA (af 1) (mC (.int 2))) (mC (.int 1))))) (af 0) [Y,Y,U 0]
def NY:ME:=bH (dq (bI (af 2) bJ (cx (af 0)))) (ah 0) bQ (ay aM (ay aA (af 0) (mC (.int 2))) (mC (.int 1))) [Y]
def frP:ME:=bH (bV (aa (bw (aU iF) (aa (af 1) ai)) ai)) (ah 0) (aB (ay Xo (bw (aU mW) (aa (ay aM (dG (aa (mC (.int 0)) ai)) NY) ai)) (ay aA (af 1) (mC (.int 2))))) (af 0) [Y,U 0,U 1]
def qY:MS:=
 aF (aX frR (ah 2)) (aF (aX frW (ah 3)) (aF (bY (aB (ay cy (ay aA (af 0) (mC (.int 0))) (mC (.str "rows")))) (bq (bI (fV (aa (bw (aU iF) (aa (af 1) ai)) ai)) bJ (cx (mC (.int 1))))) bn) (aF (bY (aB (ay cy (ay aA (af 0) (mC (.int 0))) (mC (.str "readers")))) (bq (bI (zV (af 2) (af 3)) bJ (cx (mC (.int 1))))) bn) (aF (bY (aB (ay cy (ay aA (af 0) (mC (.int 0))) (mC (.str "passes")))) (bq frP) bn) (aF (aX frT (ah 4)) (bq (bI (zV (af 4) (zV (af 3) (af 2))) bJ (cx (mC (.int 1))))))))))
section
variable{S:ac}{r:Rl}{es:List En}
def Ax{ms:MA}{env:bh}:HF ([esD es],S)=U (fE 0 (es.map En.d),S):=rfl
theorem Xd{a c d e:Option D}(hl:es.length<=100):frR [a,U (esD es),c,d,e] S=U (nl (AY (λe=>!e.wr) es),S):=by
 have k:=Ah (S:=S) (t:=aB (ay cy (ay aA (af 1) (mC (.int 1))) (mC (.str "read")))) (cap:=[Y,Y]) (env:=[a,U (esD es),c,d,e]) (enc:=En.d) (p:=λe=>!e.wr) (xs:=es) rfl (by omega) (λi x _=>by simp[En.ix1,-beq_iff_eq,sU])
 rw[MK (p:=λe=>!e.wr)] at k
 simp only[frR,bL,pZ,aq,aj,bK,bN,bO,oj,ob,ak,ao,au,am,Ax (ms:=ai) (env:=[]),k]
def Xb{a c d e:Option D}(hl:es.length<=100):frW [a,U (esD es),c,d,e] S=U (nl (AY (λe=>e.wr) es),S):=by
 have k:=Ah (S:=S) (t:=aB (ay cy (ay aA (af 1) (mC (.int 1))) (mC (.str "write")))) (cap:=[Y,Y]) (env:=[a,U (esD es),c,d,e]) (enc:=En.d) (p:=λe=>e.wr) (xs:=es) rfl (by omega) (λi x _=>by simp[En.ix1,-beq_iff_eq,pE])
 rw[MK] at k
 simp only[frW,bL,pZ,aq,aj,bK,bN,bO,oj,ob,ak,ao,au,am,Ax (ms:=ai) (env:=[]),k]
def Xc{c d e:Option D}(hl:es.length<=100):frT [U r.d,U (esD es),c,d,e] S=U (nl (AY (λe=>decide (r.w=.turns)&&decide (e.m=1)) es),S):=by
 have hw:(r.w.s==("turns":Str))=decide (r.w=.turns):=Rw.eq r.w .turns
 have k:=Ah (S:=S) (t:=du (aB (ay cy (ay aA (af 2) (mC (.int 0))) (mC (.str "turns")))) (aB (ay cy (ay aA (af 1) (mC (.int 2))) (mC (.int 1))))) (cap:=[Y,Y,U 0]) (env:=[U r.d,U (esD es),c,d,e]) (enc:=En.d) (p:=λe=>decide (r.w=.turns)&&decide (e.m=1)) (xs:=es) rfl (by omega) (λi x _=>by
  cases h:decide (r.w=.turns) with
  | true=>simp[En.ix2,Rl.ix0,-beq_iff_eq,hw,h];rfl
  | false=>simp[En.ix2,Rl.ix0,-beq_iff_eq,hw,h])
 rw[MK (p:=λe=>decide (r.w=.turns)&&decide (e.m=1))] at k
 simp only[frT,bL,pZ,aq,aj,bK,bN,bO,oj,ob,ak,ao,au,am,Ax (ms:=ai) (env:=[]),k]
theorem Sq{i:Nat}{b:Option D}(hl:es.length<=60):NY [U (.int (i:Int)),b,U (esD es)] S=U (.lst (((es.take i).map λe=>e.m+1).map .int),S):=by
 have k:=dw (S:=S) (t:=bQ) (e:=ay aM (ay aA (af 0) (mC (.int 2))) (mC (.int 1))) (cap:=[Y]) (env:=[U (.int (i:Int)),b,U (esD es)]) (rest:=[]) (a:=Y) (enc:=En.d) (p:=λ_=>true) (f:=λe=>.int (e.m+1)) (xs:=es.take i) rfl (by simp;omega) (λx _=>gQ) (λx _ _=>by simp[En.ix2])
 have e:kf (esD es) Y (U (i:Int),S)=U (.tup ((es.take i).map En.d),S):=by
  rw[show esD es=.tup (es.map En.d) from rfl,mM,mH,aaS]
 rw[Zu.mpr (λ_ _=>rfl)] at k
 simp only[NY,bL,cV,cO,aj,bK,bN,bO,oj,ob,ak,fZ,cU,fY,dF,dI,e,NF,k,ZA]
 rfl
theorem Xe{c d e:Option D}(hl:es.length<=60):frP [U r.d,U (esD es),c,d,e] S=U (nl ((List.range es.length).filter λi=>decide (kN (0::(es.take i).map λe=>e.m+1)<=r.b)),S):=by
 have k:=dw (S:=S) (t:=(aB (ay Xo (bw (aU mW) (aa (ay aM (dG (aa (mC (.int 0)) ai)) NY) ai)) (ay aA (af 1) (mC (.int 2)))))) (e:=af 0) (cap:=[Y,U 0,U 1]) (env:=[U r.d,U (esD es),c,d,e]) (rest:=[U r.d,U (esD es)]) (a:=Y) (enc:=ni) (p:=λi=>decide (kN (0::(es.take i).map λe=>e.m+1)<=r.b)) (f:=ni) (xs:=List.range es.length) rfl (by simp;omega) (λi _=>by
  have h0:NY [U (ni i),U r.d,U (esD es)] S=U (.lst (((es.take i).map λe=>e.m+1).map .int),S):=Sq hl
  have h1:mO ([.int 0],S)=U (.lst [.int 0],S):=dJ (by simp)
  have h2:aM S (.lst [.int 0]) (.lst (((es.take i).map λe=>e.m+1).map .int))=U (.lst ((0::(es.take i).map λe=>e.m+1).map .int)):=ng (by simp;omega)
  have h3:aU mW [.lst ((0::(es.take i).map λe=>e.m+1).map .int)] S=U (.int (kN (0::(es.take i).map λe=>e.m+1)),S):=Sz (by simp;omega) (by simp)
  simp only[aK,aJ,bZ,aq,jc,bp,ob,ao,au,am,h1,av,h0,ax,h2,ak,cb,h3,aj,bK,bN,bO,oj,Rl.ix2,fLe_i,aI]) (λi _ _=>by simp)
 have e1:ND ([.int (es.length:Nat)],S)=U ((List.range es.length).map ni,S):=by
  rw[lP (by omega) (by omega)]
  have:=uy es.length
  simp only[nl,D.lst.injEq] at this
  rw[ZQ,this]
 simp only[frP,bL,fg,aq,bZ,aj,bK,bN,bO,oj,ob,ak,ao,au,am,cb,OV,e1,k]
 rfl
theorem FX{N:List Str}(hN:N.length=5)(hl:es.length<=60):aQ N qY 2 [r.d,esD es] S=U (nl (Di r es),S):=by
 have hst:az N [r.d,esD es]=[U r.d,U (esD es),Y,Y,Y]:=by simp[az,hN,adg]
 rw[bg (show [r.d,esD es].length=2 from rfl),hst]
 have a:(es.length:Nat)<=100:=by omega
 have w1:(r.w.s==("rows":Str))=decide (r.w=.rows):=Rw.eq r.w .rows
 have w2:(r.w.s==("readers":Str))=decide (r.w=.readers):=Rw.eq r.w .readers
 have w3:(r.w.s==("passes":Str))=decide (r.w=.passes):=Rw.eq r.w .passes
 have lr:FL ([.int (es.length:Nat)],S)=U (nl (List.range es.length),S):=by rw[JD (by omega) (by omega),ZQ,uy]
 have s1:∀ l:List Nat,kf (nl l) Y (U 1,S)=U (nl (l.take 1),S):=λl=>WE (n:=1)
 have o1:∀ (b:ME) env (l:List Nat),Uz b env (nl l,S)=if l=[] then b env S else U (nl l,S):=λb env l=>WJ
 simp only[qY,aS,bu,Xd a,Xb a,ob,bv,aZ,fL,gI,bP,aH,bt,aK,aJ,aj,bK,bN,bO,oj,ak,bp,av,Rl.ix0,ax,cN,aI,w1,w2,w3]
 unfold Di
 cases hw:r.w<;>rw[hw] at w1 w2 w3<;>simp[cO,Nh,OV,lr,s1,o1,Xe hl,Xc a,hw,Rv,Rl.ix0,w1,w2,w3,-beq_iff_eq]
 ·split<;>simp[s1]
 ·rw[JI,YR rfl];split<;>simp[s1]
 ·split
  ·split<;>simp[s1]
  ·simp[s1]
end
structure ROk(R:Rm):Prop where
 out:∀ e∈R.2,R.1[e.g]?=U .out
 nd:(R.2.map (·.g)).Nodup
theorem Fa:∀ (n:Nat) (l:List Nat),l.Nodup->(∀ x∈l,x<n)->l.length<=n
 | 0,l,_,h=>by cases l with | nil=>exact YL _ | cons x _=>exact absurd (h x (by simp)) (by omega)
 | n+1,l,hn,h=>by
  by_cases hm:n∈l
  ·have:=Fa n (l.erase n) (hn.erase n) λx hx=>by
    have h1:=h x (List.mem_of_mem_erase hx)
    have h2:x≠n:=λz=>by rw[z] at hx;exact(List.Nodup.not_mem_erase hn) hx
    omega
   rw[List.length_erase_of_mem hm] at this
   omega
  ·have:=Fa n l hn λx hx=>by
    have h1:=h x hx
    have h2:x≠n:=λz=>hm (z ▸ hx)
    omega
   omega
def ROk.lt(h:ROk R){e:En}(he:e∈R.2):e.g<R.1.length:=(Yz.mp (h.out e he)).1
def ROk.len(h:ROk R):R.2.length<=R.1.length:=by
 have:=Fa R.1.length (R.2.map (·.g)) h.nd λx hx=>by obtain⟨e,he,rfl⟩:=Zb.mp hx;exact h.lt he
 rwa[YE] at this
structure Ev where
 w:Str
 g:Nat
noncomputable def Ev.d(e:Ev):D:=.tup [.str e.w,.int (e.g:Nat)]
noncomputable def nB(ws:List Wd):List Nat:=(List.range ws.length).filter λg=>decide (ws[g]?=U .rising)&&decide (ws.count .out+1=ws.length)
noncomputable def mf(r:Rl)(ws:List Wd)(es:List En):List Nat:=(Di r es).filter λi=>match es[i]? with | some e=>qX r ws e.wr | none=>false
noncomputable def qE(r:Rl)(e:En):En:={ e with m:=e.m+(if r.w=.passes then 1 else 0) }
noncomputable def sP(r:Rl)(R:Rm)(i:Nat)(e:En):Rm:=(R.1.set e.g (if e.wr then .writes else .reads),(R.2.take i).map (qE r)++R.2.drop (i+1))
noncomputable def mw(r:Rl)(R:Rm):Rm×List Ev:=match nB R.1 with
 | g::_=>((R.1.set g .raised,R.2),[⟨"steps",g⟩])
 | []=>match mf r R.1 R.2 with
  | i::_=>match R.2[i]? with
   | some e=>(sP r R i e,[⟨"in",e.g⟩])
   | none=>(R,[])
  | []=>(R,[])
noncomputable def tS(r:Rl):Nat->Rm->Rm×List Ev
 | 0,R=>(R,[])
 | n+1,R=>let a:=mw r R;let b:=tS r n a.1;(b.1,a.2++b.2)
def Fk(r:Rl)(es:List En):(es.map (qE r)).map (·.g)=es.map (·.g):=by rw[ZA];rfl
def Sn{i:Nat}{e:En}(h:ROk R)(hi:R.2[i]?=U e):ROk (sP r R i e):=by
 obtain⟨ws,es⟩:=R
 have hs:es=es.take i++e::es.drop (i+1):=by
  obtain⟨hl,he⟩:=Yz.mp hi
  rw[<- he,List.getElem_cons_drop,aaM]
 have hnd:((es.take i).map (·.g)++e.g::(es.drop (i+1)).map (·.g)).Nodup:=by
  have:=h.nd
  dsimp only at this
  rw[hs] at this
  simpa using this
 rw[aaw,aau] at hnd
 obtain⟨n1,⟨n2,n3⟩,n4⟩:=hnd
 refine⟨λx hx=>?_,?_⟩
 ·show(ws.set e.g _)[x.g]?=_
  have key:∃ y∈es,y.g=x.g/\x.g≠e.g:=by
   rcases YX.mp hx with hx | hx
   ·obtain⟨y,hy,rfl⟩:=Zb.mp hx
    refine⟨y,ZS hy,rfl,λz=>?_⟩
    exact n4 _ (Zb.mpr ⟨y,hy,rfl⟩) _ YF z
   ·refine⟨x,acB hx,rfl,λz=>n2 ?_⟩
    rw[<- z];exact Zb.mpr ⟨x,hx,rfl⟩
  obtain⟨y,hy,e1,ne⟩:=key
  rw[Zf (Ne.symm ne),<- e1]
  exact h.out y hy
 ·show(((es.take i).map (qE r)++es.drop (i+1)).map (·.g)).Nodup
  rw[Zq,Fk,aaw]
  exact⟨n1,n3,λa ha b hb=>n4 a ha b (YB _ hb)⟩
def pq{g:Nat}(h:g∈nB ws):ws[g]?=U .rising:=by
 have:=(Zx.mp h).2
 rw[YD] at this
 exact ZH this.1
def Et(h:ROk R):ROk (mw r R).1/\(mw r R).1.1.length=R.1.length:=by
 unfold mw
 split
 ·rename_i g l hg
  have hr:R.1[g]?=U .rising:=pq (by rw[hg];exact YF)
  refine⟨⟨λe he=>?_,h.nd⟩,by simp⟩
  show(R.1.set g .raised)[e.g]?=_
  have h1:=h.out e he
  rw[Zf (λz=>by rw[z,h1] at hr;cases hr)]
  exact h1
 ·split
  ·split
   ·rename_i e he
    exact⟨Sn h he,by simp[sP]⟩
   ·exact⟨h,rfl⟩
  ·exact⟨h,rfl⟩
theorem LQ:∀ (n:Nat) {R:Rm},ROk R->ROk (tS r n R).1/\(tS r n R).1.1.length=R.1.length
 | 0,R,h=>⟨h,rfl⟩
 | n+1,R,h=>by
  obtain⟨h1,h2⟩:=Et (r:=r) h
  obtain⟨h3,h4⟩:=LQ n h1
  exact⟨h3,h4.trans h2⟩
def sX:ME:=bH (bV (aa (bw (aU iF) (aa (af 2) ai)) ai)) (ah 0) (du (aB (ay cy (ay aA (af 1) (af 0)) (mC (.str "rising")))) (aB (ay cy (lh (af 1) (aa (mC (.str "out")) ai)) (ay rn (bw (aU iF) (aa (af 1) ai)) (mC (.int 1)))))) (af 0) [Y,U 2]
def yY(fronts lets:PF):ME:=bH (dq (aw 2 fronts (aa (af 0) (aa (af 3) ai)))) (ah 0) (da (aw 3 lets (aa (af 1) (aa (af 3) (aa (ay aA (ay aA (af 2) (af 0)) (mC (.int 1))) ai))))) (af 0) [Y,U 0,U 3,U 2]
def yZ:ME:=bH (dq (bI (af 3) bJ (cx (ay aA (af 7) (mC (.int 0)))))) (ah 0) bQ (ay aM (ay aM (bI (af 0) bJ (cx (mC (.int 2)))) (be (aa (ay aM (ay aA (af 0) (mC (.int 2))) (bw (aU kD) (aa (ay cy (ay aA (af 1) (mC (.int 0))) (mC (.str "passes"))) ai))) ai))) (bI (af 0) (cx (mC (.int 3))) bJ)) [Y,U 0]
def Ex(put:PF):MS:=aF (aX (aw 3 put (aa (af 2) (aa (ay aA (af 6) (mC (.int 0))) (aa (mC (.str "raised")) ai)))) (ah 2)) (fo (fz ej (af 4) (aa (be (aa (mC (.str "steps")) (aa (ay aA (af 6) (mC (.int 0))) ai))) ai)))
def Vq(put:PF):MS:=aF (aX (ay aA (af 3) (ay aA (af 7) (mC (.int 0)))) (bi 4 (ag (ah 8) (ag (ah 9) (ag (ah 10) (ag (ah 11) aW)))))) (aF (aX (aw 3 put (aa (af 2) (aa (af 8) (aa (ay aA (dG (aa (mC (.str "reads")) (aa (mC (.str "writes")) ai))) (bw (aU kD) (aa (ay cy (af 9) (mC (.str "write"))) ai))) ai)))) (ah 2)) (aF (aX yZ (ah 12)) (aF (aX (ay aM (bw (aU (cR .tup)) (aa (af 12) ai)) (bI (af 3) (cx (ay aM (ay aA (af 7) (mC (.int 0))) (mC (.int 1)))) bJ)) (ah 3)) (fo (fz ej (af 4) (aa (be (aa (mC (.str "in")) (aa (af 8) ai))) ai))))))
def qJ(fronts lets put:PF):MS:=aF (aX sX (ah 6)) (aF (aX (yY fronts lets) (ah 7)) (bY (aB (ay jo (af 6) (dG ai))) (Ex put) (bY (aB (ay jo (af 7) (dG ai))) (Vq put) bn)))
def oX(fronts lets put:PF):MS:=
 aF (aX (af 1) (bi 2 (ag (ah 2) (ag (ah 3) aW)))) (aF (aX (gR ai) (ah 4)) (aF (lg (bV (aa (ay cH (mC (.int 2)) (bw (aU iF) (aa (af 2) ai))) ai)) (ah 5) (qJ fronts lets put)) (bq (be (aa (be (aa (af 2) (aa (af 3) ai))) (aa (af 4) ai))))))
structure KW(fronts lets put:PF):Prop where
 f:∀ (S:ac) (r:Rl) (es:List En),es.length<=60->fronts [r.d,esD es] S=U (nl (Di r es),S)
 l:∀ (S:ac) (r:Rl) (ws:List Wd) (wr:Bool),lets [r.d,cF ws,.str (bA wr)] S=U (.bl (qX r ws wr),S)
 p:∀ (S:ac) (ws:List Wd) (i:Nat) (w:Wd),i<ws.length->ws.length<=100->put [cF ws,.int (i:Int),w.d] S=U (cF (ws.set i w),S)
section
variable{S:ac}{ws:List Wd}{es:List En}{r:Rl}
theorem Mb{S:ac}{n:Nat}(h:n<=1000):ND ([.int (n:Int)],S)=U ((List.range n).map ni,S):=by
 rw[lP (by omega) (by omega)]
 have:=uy n
 simp only[nl,D.lst.injEq] at this
 rw[ZQ,this]
def tq{S:ac}{i:Nat}{l:List Nat}:aA S (nl (i::l)) (.int 0)=U (.int (i:Int)):=by
 show mx ((i::l).map ni) ((0:Nat):Int)=_
 exact Qf rfl
theorem Ey{a0 a1 a3 a4 a5 a6 a7 a8 a9 b0 b1 b2:Option D}(hl:ws.length<=60):sX [a0,a1,U (cF ws),a3,a4,a5,a6,a7,a8,a9,b0,b1,b2] S=U (nl (nB ws),S):=by
 have k:=dw (S:=S) (t:=du (aB (ay cy (ay aA (af 1) (af 0)) (mC (.str "rising")))) (aB (ay cy (lh (af 1) (aa (mC (.str "out")) ai)) (ay rn (bw (aU iF) (aa (af 1) ai)) (mC (.int 1)))))) (e:=af 0) (cap:=[Y,U 2]) (env:=[a0,a1,U (cF ws),a3,a4,a5,a6,a7,a8,a9,b0,b1,b2]) (rest:=[U (cF ws)]) (a:=Y) (enc:=ni) (p:=λg=>decide (ws[g]?=U .rising)&&decide (ws.count .out+1=ws.length)) (f:=ni) (xs:=List.range ws.length) rfl (by simp;omega) (λg hg=>by
  have hg:=ZU.mp hg
  have e1:ws[g]?=U ws[g]:=YG hg
  have e2:aA S (cF ws) (ni g)=U (ws[g]).d:=xr e1
  have e3:cy S (ws[g]).d (.str "rising")=U (.bl (decide (ws[g]=.rising))):=by
   show cy S (.str (ws[g]).s) (.str "rising")=_
   rw[cN];exact congrArg (λb=>U (D.bl b)) (Wd.eq ws[g] .rising)
  have e4:∀ S,fO (cF ws) [.str "out"] S=U (.int (ws.count .out:Nat),S):=λS=>yP .out
  have e5:(((ws.count Wd.out:Nat):Int)==(ws.length:Nat) - 1)=decide (ws.count .out+1=ws.length):=by rw[Zm];simp;omega
  simp only[qb,aK,aJ,aj,bK,bN,bO,oj,ob,ak,av,e2,ax,bp,e3,aI,e1,ZW]
  cases hd:decide (ws[g]=.rising) with
  | true=>simp only[qj,Nm,aj,bN,bK,bO,oj,ob,ak,pD,aq,bp,ao,au,am,gW,e4,av,aJ,bZ,cb,yO,ax,Oj,lU,aI,e5,aK,abA]
  | false=>simp only[HH,aaA]) (λg _ _=>by simp)
 simp only[sX,bL,fg,aq,bZ,aj,bK,bN,bO,oj,ob,ak,ao,au,am,cb,yO,Mb (show ws.length<=1000 by omega),k]
 rfl
theorem IJ{put:PF}(O:KW fronts lets put){a1 a4 a5 a6 a7 a8 a9 b0 b1 b2:Option D}(hl:es.length<=60):yY fronts lets [U r.d,a1,U (cF ws),U (esD es),a4,a5,a6,a7,a8,a9,b0,b1,b2] S=U (nl (mf r ws es),S):=by
 have hlen:(Di r es).length<=1000:=by
  have h1:(Di r es).length<=60\/(Di r es).length<=es.length:=by
   unfold Di;split
   ·left;simp;omega
   ·left;simp;omega
   ·right;exact YW (Zt _ _) (by simp)
   ·left;simp;omega
   ·left;simp;omega
  omega
 have k:=dw (S:=S) (t:=da (aw 3 lets (aa (af 1) (aa (af 3) (aa (ay aA (ay aA (af 2) (af 0)) (mC (.int 1))) ai))))) (e:=af 0) (cap:=[Y,U 0,U 3,U 2]) (env:=[U r.d,a1,U (cF ws),U (esD es),a4,a5,a6,a7,a8,a9,b0,b1,b2]) (rest:=[U r.d,U (esD es),U (cF ws)]) (a:=Y) (enc:=ni) (p:=λi=>match es[i]? with | some e=>qX r ws e.wr | none=>false) (f:=ni) (xs:=Di r es) rfl hlen (λi hi=>by
  have e1:es[i]?=U (es[i]'(rj hi)):=YG (rj hi)
  have e2:aA S (esD es) (ni i)=U (es[i]'(rj hi)).d:=OW e1
  simp only[df,aE,aq,aj,bK,bN,bO,oj,ob,ak,ao,aJ,av,e2,ax,bp,En.ix1,au,am,ce,O.l,dH,e1]) (λg _ _=>by simp)
 simp only[yY,bL,cV,aE,aq,aj,bK,bN,bO,oj,ob,ak,ao,au,am,ba,O.f S r es hl,RX,k]
 rfl
def Yd{e:En}{b:Option D}:(ay aM (ay aM (bI (af 0) bJ (cx (mC (.int 2)))) (be (aa (ay aM (ay aA (af 0) (mC (.int 2))) (bw (aU kD) (aa (ay cy (ay aA (af 1) (mC (.int 0))) (mC (.str "passes"))) ai))) ai))) (bI (af 0) (cx (mC (.int 3))) bJ)) [U e.d,U r.d] S=U ((qE r e).d,S):=by
 have w3:(r.w.s==("passes":Str))=decide (r.w=.passes):=Rw.eq r.w .passes
 have c1:kf e.d Y (U 2,S)=U (.tup [.int (e.g:Nat),.str (bA e.wr)],S):=rfl
 have c2:kf e.d (U 3) (Y,S)=U (.tup [bR e.t],S):=rfl
 have a1:∀ x y z,aM S (.tup [x,y]) (.tup [z])=U (.tup [x,y,z]):=λx y z=>ge (by simp)
 have a2:∀ x y z w,aM S (.tup [x,y,z]) (.tup [w])=U (.tup [x,y,z,w]):=λx y z w=>ge (by simp)
 simp only[aJ,cO,aj,bK,bN,bO,oj,ob,ak,fZ,cU,fY,dF,bp,dI,c1,av,bj,aq,ao,bZ,En.ix2,Rl.ix0,ax,cN,w3,au,am,cb,nS,lV,Hz,a1,c2,a2]
 unfold qE En.d
 by_cases h:r.w=.passes<;>simp[h]
def Ez{i:Nat}{l:List Nat}{a1 a2 a4 a5 a6 a8 a9 b0 b1 b2:Option D}(hl:es.length<=60):yZ [U r.d,a1,a2,U (esD es),a4,a5,a6,U (nl (i::l)),a8,a9,b0,b1,b2] S=U (.lst (((es.take i).map (qE r)).map En.d),S):=by
 have k:=dw (S:=S) (t:=bQ) (e:=ay aM (ay aM (bI (af 0) bJ (cx (mC (.int 2)))) (be (aa (ay aM (ay aA (af 0) (mC (.int 2))) (bw (aU kD) (aa (ay cy (ay aA (af 1) (mC (.int 0))) (mC (.str "passes"))) ai))) ai))) (bI (af 0) (cx (mC (.int 3))) bJ)) (cap:=[Y,U 0]) (env:=[U r.d,a1,a2,U (esD es),a4,a5,a6,U (nl (i::l)),a8,a9,b0,b1,b2]) (rest:=[U r.d]) (a:=Y) (enc:=En.d) (p:=λ_=>true) (f:=λe=>(qE r e).d) (xs:=es.take i) rfl (by simp;omega) (λx _=>gQ) (λx _ _=>Yd (b:=Y))
 rw[Zu.mpr (λ_ _=>rfl)] at k
 have e:kf (esD es) Y (U (i:Int),S)=U (.tup ((es.take i).map En.d),S):=by
  rw[show esD es=.tup (es.map En.d) from rfl,mM,mH,aaS]
 have e0:aA S (nl (i::l)) (.int 0)=U (.int (i:Int)):=tq
 simp only[yZ,bL,cV,cO,aJ,aj,bK,bN,bO,oj,ob,ak,fZ,cU,fY,dF,av,bp,ax,e0,dI,e,NF,k,ZA]
 rfl
def Ga:jo S (nl l) (.lst [])=U (.bl (!decide (l=[]))):=by
 have ok:cB 40 (nl l)=true:=by
  show(l.map ni).all (cB 39)=true
  rw[YO];intro d hd;obtain⟨i,_,rfl⟩:=Zb.mp hd;rfl
 rw[vN ok rfl]
 cases l with
 | nil=>rfl
 | cons _ _=>rfl
theorem Ge{evs:List Ev}{v:Ev}(h:evs.length<500):ej (.ref S.length) [v.d] (S++[.lst (evs.map Ev.d)])=U (.non,S++[.lst ((evs++[v]).map Ev.d)]):=by
 rw[yz ia (by rw[YE];omega),AQ];simp
def Au{evs:List Ev}:rY f ms env (.ref S.length,S++[.lst (evs.map Ev.d)])=(ms env (S++[.lst (evs.map Ev.d)])).bind (eH f (.ref S.length)):=Ai ia
theorem II{put:PF}(O:KW fronts lets put){g:Nat}{l:List Nat}{evs:List Ev}{a0 a1 a3 a5 a7 a8 a9 b0 b1 b2:Option D}(hg:g<ws.length)(hl:ws.length<=60)(he:evs.length<500) :
  Ex put [a0,a1,U (cF ws),a3,U (.ref S.length),a5,U (nl (g::l)),a7,a8,a9,b0,b1,b2] (S++[.lst (evs.map Ev.d)])=U (.nx [a0,a1,U (cF (ws.set g .raised)),a3,U (.ref S.length),a5,U (nl (g::l)),a7,a8,a9,b0,b1,b2] (S++[.lst ((evs++[Ev.mk "steps" g]).map Ev.d)])):=by
 have p1:∀ S,put [cF ws,.int (g:Int),.str "raised"] S=U (cF (ws.set g .raised),S):=λS=>O.p S ws g .raised hg (by omega)
 have ap:ej (.ref S.length) [.tup [.str "steps",.int (g:Int)]] (S++[.lst (evs.map Ev.d)])=U (.non,S++[.lst ((evs++[Ev.mk "steps" g]).map Ev.d)]):=Ge (v:=⟨"steps",g⟩) he
 simp only[Ex,aS,bu,aE,aq,aj,bK,bN,bO,oj,ob,ak,ao,aJ,bp,av,ax,tq,au,am,ce,p1,bv,aZ,fL,gI,bP,aH,nK,nJ,Au,bj,FC,gW,ap,nP]
theorem QH{put:PF}(O:KW fronts lets put){i:Nat}{l:List Nat}{e:En}{evs:List Ev}{a1 a5 a6 a8 a9 b0 b1 b2:Option D}(hi:es[i]?=U e)(hg:e.g<ws.length)(hl:ws.length<=60)(hl2:es.length<=60)(he:evs.length<500) :
  ∃ c8 c9 d0 d1 d2,Vq put [U r.d,a1,U (cF ws),U (esD es),U (.ref S.length),a5,a6,U (nl (i::l)),a8,a9,b0,b1,b2] (S++[.lst (evs.map Ev.d)])=U (.nx [U r.d,a1,U (cF (sP r (ws,es) i e).1),U (esD (sP r (ws,es) i e).2),U (.ref S.length),a5,a6,U (nl (i::l)),c8,c9,d0,d1,d2] (S++[.lst ((evs++[Ev.mk "in" e.g]).map Ev.d)])):=by
 have hlt:=(Yz.mp hi).1
 have p1:∀ S,put [cF ws,.int (e.g:Int),(if e.wr then Wd.writes else Wd.reads).d] S=U (cF (ws.set e.g (if e.wr then .writes else .reads)),S):=λS=>O.p S ws e.g _ hg (by omega)
 have ap:ej (.ref S.length) [.tup [.str "in",.int (e.g:Int)]] (S++[.lst (evs.map Ev.d)])=U (.non,S++[.lst ((evs++[Ev.mk "in" e.g]).map Ev.d)]):=Ge (v:=⟨"in",e.g⟩) he
 have x1:∀ S,aA S (esD es) (.int (i:Int))=U e.d:=λS=>OW hi
 have wd:∀ S,aA S (.lst [.str "reads",.str "writes"]) (.int (if e.wr=true then 1 else 0))=U (if e.wr then Wd.writes else Wd.reads).d:=λS=>by cases e.wr<;>rfl
 have g4:∀ env S,bi 4 (ag (ah 8) (ag (ah 9) (ag (ah 10) (ag (ah 11) aW)))) e.d env S=(ag (ah 8) (ag (ah 9) (ag (ah 10) (ag (ah 11) aW)))) [.int (e.g:Nat),.str (bA e.wr),.int e.m,bR e.t] env S:=λenv S=>tE
 have cd:je (es.map En.d) (U ((i:Int)+1)) Y=(es.drop (i+1)).map En.d:=by
  rw[show((i:Int)+1)=((i+1:Nat):Int) by omega,nW _ _ (by rw[YE];omega),abu]
 have sd:∀ S,kf (esD es) (U ((i:Int)+1)) (Y,S)=U (.tup ((es.drop (i+1)).map En.d),S):=λS=>by
  rw[show esD es=.tup (es.map En.d) from rfl,mM,cd]
 have ad:∀ S,aM S (.tup (((es.take i).map (qE r)).map En.d)) (.tup ((es.drop (i+1)).map En.d))=U (esD (sP r (ws,es) i e).2):=λS=>by
  rw[ge (by simp;omega),<- Zq];rfl
 refine⟨U (.int (e.g:Nat)),U (.str (bA e.wr)),U (.int e.m),U (bR e.t),U (.lst (((es.take i).map (qE r)).map En.d)),?_⟩
 ·simp only[Vq,aS,bu,aJ,aj,bK,bN,bO,oj,ob,ak,av,bp,ax,tq,x1,bv,g4,bF,aZ,dc,ci,fL,gI,bP,aH,aE,aq,ao,jc,au,am,GU,bZ,cN,pE,cb,nS,wd,ce,p1,Ez hl2,fN,cO,fZ,dF,lV,dI,fY,cU,sd,ad,nK,nJ,Au,bj,FC,gW,ap,nP]
  try rfl
theorem IH{put:PF}(O:KW fronts lets put)(h:ROk R)(hl:R.1.length<=50){evs:List Ev}{a1 a5 a6 a7 a8 a9 b0 b1 b2:Option D}(he:evs.length<500) :
  ∃ c6 c7 c8 c9 d0 d1 d2,qJ fronts lets put [U r.d,a1,U (cF R.1),U (esD R.2),U (.ref S.length),a5,a6,a7,a8,a9,b0,b1,b2] (S++[.lst (evs.map Ev.d)])=U (.nx [U r.d,a1,U (cF (mw r R).1.1),U (esD (mw r R).1.2),U (.ref S.length),a5,c6,c7,c8,c9,d0,d1,d2] (S++[.lst ((evs++(mw r R).2).map Ev.d)])):=by
 obtain⟨ws,es⟩:=R
 have hl2:es.length<=60:=by have:=h.len;simp only at this hl;omega
 have hl1:ws.length<=60:=by simp only at hl;omega
 have k0:∀ S,mO ([],S)=U (.lst [],S):=λS=>dJ (by simp)
 have e1:∀ (T:ac) (a6:Option D),sX [U r.d,a1,U (cF ws),U (esD es),U (.ref S.length),a5,a6,a7,a8,a9,b0,b1,b2] T=U (nl (nB ws),T):=λT a6=>Ey hl1
 have e2:∀ (T:ac) (a6 a7:Option D),yY fronts lets [U r.d,a1,U (cF ws),U (esD es),U (.ref S.length),a5,a6,a7,a8,a9,b0,b1,b2] T=U (nl (mf r ws es),T):=λT a6 a7=>IJ O hl2
 unfold mw
 dsimp only
 cases hA:nB ws with
 | cons g l=>
  have hr:ws[g]?=U .rising:=pq (by rw[hA];exact YF)
  have hg:g<ws.length:=(Yz.mp hr).1
  rw[hA] at e1
  have e3:=II O (S:=S) (ws:=ws) (g:=g) (l:=l) (evs:=evs) (a0:=U r.d) (a1:=a1) (a3:=U (esD es)) (a5:=a5) (a7:=U (nl (mf r ws es))) (a8:=a8) (a9:=a9) (b0:=b0) (b1:=b1) (b2:=b2) hg hl1 he
  refine⟨U (nl (g::l)),U (nl (mf r ws es)),a8,a9,b0,b1,b2,?_⟩
  simp only[qJ,aS,bu,e1,e2,ob,bv,aZ,fL,gI,bP,aH,bt,aK,aJ,aj,bK,bN,bO,oj,ak,av,jc,au,k0,ax,Ga,aI,reduceCtorEq,aaC,Zo,bU,e3]
 | nil=>
  rw[hA] at e1
  cases hB:mf r ws es with
  | nil=>
   rw[hB] at e2
   refine⟨U (nl []),U (nl []),a8,a9,b0,b1,b2,?_⟩
   simp only[qJ,aS,bu,e1,e2,ob,bv,aZ,fL,gI,bP,aH,bt,aK,aJ,aj,bK,bN,bO,oj,ak,av,jc,au,k0,ax,Ga,aI,aar,Zk,bS,bE,Zn]
  | cons i l=>
   rw[hB] at e2
   have hi:i∈mf r ws es:=by rw[hB];exact YF
   have hlt:i<es.length:=rj (Zx.mp hi).1
   have ei:es[i]?=U es[i]:=YG hlt
   have hg:(es[i]).g<ws.length:=h.lt (R:=(ws,es)) (abh hlt)
   obtain⟨c8,c9,d0,d1,d2,e3⟩:=QH O (S:=S) (ws:=ws) (es:=es) (r:=r) (i:=i) (l:=l) (evs:=evs) (a1:=a1) (a5:=a5) (a6:=U (nl [])) (a8:=a8) (a9:=a9) (b0:=b0) (b1:=b1) (b2:=b2) ei hg hl1 hl2 he
   dsimp only
   rw[ei]
   refine⟨U (nl []),U (nl (i::l)),c8,c9,d0,d1,d2,?_⟩
   simp only[qJ,aS,bu,e1,e2,ob,bv,aZ,fL,gI,bP,aH,bt,aK,aJ,aj,bK,bN,bO,oj,ak,av,jc,au,k0,ax,Ga,aI,aar,Zk,bS,reduceCtorEq,aaC,Zo,bU,e3]
def GV:(mw r R).2.length<=1:=by
 unfold mw
 split
 ·simp
 ·split
  ·split<;>simp
  ·simp
theorem Bk{put:PF}(O:KW fronts lets put){N:List Str}(hN:N.length=13)(h:ROk R)(hl:R.1.length<=50) :
  aQ N (oX fronts lets put) 2 [r.d,aP R] S=U (.tup [aP (tS r (2*R.1.length) R).1,.ref S.length],S++[.lst ((tS r (2*R.1.length) R).2.map Ev.d)]):=by
 have hst:az N [r.d,aP R]=[U r.d,U (aP R),Y,Y,Y,Y,Y,Y,Y,Y,Y,Y,Y]:=by simp[az,hN,adg]
 rw[bg (show [r.d,aP R].length=2 from rfl),hst]
 obtain⟨env',S',e,R',evs',c5,c6,c7,c8,c9,d0,d1,d2,o1,o2,o3,o4,rfl,rfl⟩:=Xf (tg:=ah 5) (p:=qJ fronts lets put) (lo:=0) (λi env T=>∃ (R':Rm) (evs':List Ev) (c5 c6 c7 c8 c9 d0 d1 d2:Option D),ROk R'/\R'.1.length=R.1.length/\evs'.length<=i/\(i<=2*R.1.length->tS r (2*R.1.length) R=((tS r (2*R.1.length - i) R').1,evs'++(tS r (2*R.1.length - i) R').2)) /\
   env=[U r.d,U (aP R),U (cF R'.1),U (esD R'.2),U (.ref S.length),c5,c6,c7,c8,c9,d0,d1,d2]/\T=S++[.lst (evs'.map Ev.d)]) (2*R.1.length) (λi hi env T hI=>by
  obtain⟨R',evs',c5,c6,c7,c8,c9,d0,d1,d2,o1,o2,o3,o4,rfl,rfl⟩:=hI
  obtain⟨f6,f7,f8,f9,g0,g1,g2,e⟩:=IH O (r:=r) (S:=S) (R:=R') o1 (by omega) (evs:=evs') (a1:=U (aP R)) (a5:=U (.int (0+(i:Int)))) (a6:=c6) (a7:=c7) (a8:=c8) (a9:=c9) (b0:=d0) (b1:=d1) (b2:=d2) (by omega)
  obtain⟨q1,q2⟩:=Et (r:=r) o1
  have fw:=GV (r:=r) (R:=R')
  refine⟨_,_,_,_,aZ,e,(mw r R').1,evs'++(mw r R').2,_,f6,f7,f8,f9,g0,g1,g2,q1,q2.trans o2,by rw[YQ];omega,λhn=>?_,rfl,rfl⟩
  rw[o4 (by omega),show 2*R.1.length - i=(2*R.1.length - (i+1))+1 by omega]
  simp only[tS,Ze]) [U r.d,U (aP R),U (cF R.1),U (esD R.2),U (.ref S.length),Y,Y,Y,Y,Y,Y,Y,Y] (S++[.lst []]) ⟨R,[],Y,Y,Y,Y,Y,Y,Y,Y,h,rfl,YL _,λ_=>by simp,rfl,rfl⟩
 have o5:=o4 (YL _)
 rw[Nat.sub_self] at o5
 simp only[tS,Zn] at o5
 have k0:yf ([],S)=U (.ref S.length,S++[.lst []]):=qg (by simp)
 have mu:∀ S,cH S (.int 2) (.int (R.1.length:Nat))=U (.int (2*(R.1.length:Nat))):=λS=>jL (qP (by decide) (by decide))
 have kr:∀ S,ND ([.int (2*(R.1.length:Nat))],S)=U (cw 0 (2*R.1.length),S):=λS=>by
  rw[lP (by omega) (by omega)];congr 3
 have g2:∀ env S,bi 2 (ag (ah 2) (ag (ah 3) aW)) (aP R) env S=(ag (ah 2) (ag (ah 3) aW)) [cF R.1,esD R.2] env S:=λenv S=>cE
 rw[o5]
 simp only[oX,aS,bu,aj,bK,bN,bO,oj,ob,ak,bv,g2,bF,aZ,dc,ci,fL,gI,bP,aH,zX,au,k0,uT,fg,aq,aJ,bp,av,bZ,ao,am,cb,yO,ax,mu,kr,vf,e,aV,bj,FC,bC,aO]
 rfl
end
inductive Ak where | up | down | leave | stop
deriving DecidableEq
noncomputable def Ak.s:Ak->Str
 | .up=>"up"
 | .down=>"down"
 | .leave=>"leave"
 | .stop=>"stop"
inductive Dd where
 | ask (wr:Bool) (g:Nat) (t:Option Int)
 | act (k:Ak) (g:Nat)
 | tick
noncomputable def Dd.d:Dd->D
 | .ask wr g t=>.tup [.str (bA wr),.int (g:Int),bR t]
 | .act k g=>.tup [.str k.s,.int (g:Int)]
 | .tick=>.tup [.str "tick"]
def AW(t:Option Int):Prop:=∀ k,t=U k->0<=k/\k<=9
def Dd.Ok(n:Nat):Dd->Prop
 | .ask _ g t=>g<n/\AW t
 | .act _ g=>g<n
 | .tick=>True
def qe(pick:PF):MS:=
 aF (aX (aw 2 pick (aa (af 0) (aa (af 1) ai))) (ah 2)) (aF (aX (aw 2 pick (aa (af 0) (aa (mC (.int 12)) ai))) (ah 3)) (aF (bY (aB (ay SC (af 3) (mC (.int 6)))) (bq (be (aa (ay aA (dG (aa (mC (.str "read")) (aa (mC (.str "write")) ai))) (ay lS (af 3) (mC (.int 2)))) (aa (af 2) (aa (ay aA (dG (aa (mC .non) (aa (mC .non) (aa (mC .non) (aa (mC (.int 0)) (aa (mC (.int 1)) (aa (mC (.int 9)) ai))))))) (aw 2 pick (aa (af 0) (aa (mC (.int 6)) ai)))) ai))))) bn) (aF (bY (aB (ay cy (af 3) (mC (.int 11)))) (bq (be (aa (mC (.str "tick")) ai))) bn) (bq (be (aa (ay aA (dG (aa (mC (.str "up")) (aa (mC (.str "down")) (aa (mC (.str "leave")) (aa (mC (.str "leave")) (aa (mC (.str "stop")) ai)))))) (ay rn (af 3) (mC (.int 6)))) (aa (af 2) ai)))))))
def TV{q:Int}(h0:0<=q)(h1:q<6):∃ t:Option Int,mx [D.non,D.non,D.non,D.int 0,D.int 1,D.int 9] q=U (bR t)/\AW t:=by
 have n:AW Y:=λk h=>by cases h
 have s:∀ j:Int,0<=j->j<=9->AW (U j):=λj a b k h=>by cases h;exact⟨a,b⟩
 obtain rfl | rfl | rfl | rfl | rfl | rfl:q=0\/q=1\/q=2\/q=3\/q=4\/q=5:=by omega
 ·exact⟨Y,rfl,n⟩
 ·exact⟨Y,rfl,n⟩
 ·exact⟨Y,rfl,n⟩
 ·exact⟨U 0,rfl,s 0 (by decide) (by decide)⟩
 ·exact⟨U 1,rfl,s 1 (by decide) (by decide)⟩
 ·exact⟨U 9,rfl,s 9 (by decide) (by decide)⟩
theorem Yj{q:Int}(h0:6<=q)(h1:q<11):∃ k:Ak,mx [D.str "up",D.str "down",D.str "leave",D.str "leave",D.str "stop"] (q - 6)=U (.str k.s):=by
 obtain rfl | rfl | rfl | rfl | rfl:q=6\/q=7\/q=8\/q=9\/q=10:=by omega
 ·exact⟨.up,rfl⟩
 ·exact⟨.down,rfl⟩
 ·exact⟨.leave,rfl⟩
 ·exact⟨.leave,rfl⟩
 ·exact⟨.stop,rfl⟩
theorem at_wr{q:Int}:∃ wr:Bool,mx [D.str "read",D.str "write"] (q%2)=U (.str (bA wr)):=by
 obtain h | h:q%2=0\/q%2=1:=by omega
 ·exact⟨false,by rw[h];rfl⟩
 ·exact⟨true,by rw[h];rfl⟩
theorem Pv{pick:PF}(hp:GN pick){S:ac}{r n:Nat}{N:List Str}(hN:N.length=4)(P:Pk S r)(h1:1<=n)(h9:n<=9):∃ (dd:Dd) (S':ac),aQ N (qe pick) 2 [.ref r,.int (n:Int)] S=U (dd.d,S')/\dd.Ok n/\Pk S' r/\Keep r S S':=by
 have hst:az N [D.ref r,.int (n:Int)]=[U (.ref r),U (.int (n:Int)),Y,Y]:=by simp[az,hN,adg]
 rw[bg (show [D.ref r,D.int (n:Int)].length=2 from rfl),hst]
 obtain⟨g,S1,e1,g0,g1,P1,K1⟩:=hp _ _ (n:Int) P (by omega) (by omega)
 obtain⟨q,S2,e2,q0,q1,P2,K2⟩:=hp _ _ 12 P1 (by decide) (by decide)
 obtain⟨g',rfl⟩:∃ g':Nat,g=(g':Int):=⟨g.toNat,by omega⟩
 have md:∀ S,lS S (.int q) (.int 2)=U (.int (q%2)):=λS=>jM (by decide)
 by_cases h6:q<6
 ·obtain⟨l,S3,e3,l0,l1,P3,K3⟩:=hp _ _ 6 P2 (by decide) (by decide)
  obtain⟨t,et,ot⟩:=TV l0 l1
  obtain⟨wr,ew⟩:=at_wr (q:=q)
  have k1:∀ S,mO ([D.str "read",D.str "write"],S)=U (.lst [D.str "read",D.str "write"],S):=λS=>dJ (by simp)
  have k2:∀ S,mO ([D.non,D.non,D.non,D.int 0,D.int 1,D.int 9],S)=U (.lst [D.non,D.non,D.non,D.int 0,D.int 1,D.int 9],S):=λS=>dJ (by simp)
  have k3:∀ S (a b c:D),cz ([a,b,c],S)=U (.tup [a,b,c],S):=λS a b c=>aT (by simp)
  refine⟨.ask wr g' t,S3,?_,⟨by omega,ot⟩,P3,Keep.trans K1 (Keep.trans K2 K3)⟩
  simp[qe,e1,e2,h6,k1,md,ew,e3,k2,et,k3,Dd.d]
 ·by_cases h11:q=11
  ·subst h11
   have k1:∀ S (a:D),cz ([a],S)=U (.tup [a],S):=λS a=>aT (by simp)
   refine⟨.tick,S2,?_,trivial,P2,Keep.trans K1 K2⟩
   simp[qe,e1,e2,k1,Dd.d]
  ·obtain⟨k,ek⟩:=Yj (q:=q) (by omega) (by omega)
   have k1:∀ S,mO ([D.str "up",D.str "down",D.str "leave",D.str "leave",D.str "stop"],S)=U (.lst [D.str "up",D.str "down",D.str "leave",D.str "leave",D.str "stop"],S):=λS=>dJ (by simp)
   have k2:∀ S (a b:D),cz ([a,b],S)=U (.tup [a,b],S):=λS a b=>aT (by simp)
   refine⟨.act k g',S2,?_,(by show g'<n;omega),P2,Keep.trans K1 K2⟩
   simp[qe,e1,e2,h6,ZF.mpr h11,k1,ek,k2,Dd.d]
noncomputable def bz(es:List En)(g:Nat):Bool:=es.any λe=>decide (e.g=g)
noncomputable def dP(R:Rm):Dd->Bool
 | .tick=>true
 | .ask _ g _=>decide (R.1[g]?=U .out)&&!bz R.2 g
 | .act .up g=>decide (R.1[g]?=U .reads)
 | .act .down g=>decide (R.1[g]?=U .writes)||decide (R.1[g]?=U .raised)
 | .act .leave g=>decide (R.1[g]?≠U .out)
 | .act .stop g=>bz R.2 g||decide (R.1[g]?=U .rising)
def AK:ME:=ay pi (ay aA (af 1) (mC (.int 1))) (bH (dq (af 3)) (ah 0) bQ (ay aA (af 0) (mC (.int 0))) [Y])
def Yc:ME:=fX [(mC (.str "read"),ft (ay cy (af 4) (mC (.str "out"))) (iK (af 5))),(mC (.str "write"),ft (ay cy (af 4) (mC (.str "out"))) (iK (af 5))),(mC (.str "up"),ay cy (af 4) (mC (.str "reads")))]
def Yb:ME:=jh [(mC (.str "down"),ay pi (af 4) (be (aa (mC (.str "writes")) (aa (mC (.str "raised")) ai)))),(mC (.str "leave"),ay jo (af 4) (mC (.str "out"))),(mC (.str "stop"),zV (af 5) (ay cy (af 4) (mC (.str "rising"))))]
def Ae:MS:=
 aF (aX (af 0) (bi 2 (ag (ah 2) (ag (ah 3) aW)))) (aF (bY (aB (ay cy (af 1) (be (aa (mC (.str "tick")) ai)))) (bq (mC (.bl true))) bn) (aF (aX (ay aA (af 2) (ay aA (af 1) (mC (.int 1)))) (ah 4)) (aF (aX AK (ah 5)) (aF (aX Yc (ah 6)) (aF (fo (fU vK (af 6) (aa Yb ai))) (bq (ay aA (af 6) (ay aA (af 1) (mC (.int 0))))))))))
noncomputable def uz(r:Rl)(w:Wd)(es:List En):List En:=if r.w=.turns/\w=.writes then es.map (λe=>if e.wr then e else { e with m:=1 }) else es
def mkC:ME:=bH (dq (af 2)) (ah 0) bQ (oV (aB (ay cy (ay aA (af 0) (mC (.int 1))) (mC (.str "read")))) (ay aM (ay aM (bI (af 0) bJ (cx (mC (.int 2)))) (be (aa (mC (.int 1)) ai))) (bI (af 0) (cx (mC (.int 3))) bJ)) (af 0)) [Y]
def ll:MS:=
 aF (bY (gH (aB (ay jo (ay aA (af 0) (mC (.int 0))) (mC (.str "turns")))) (aB (ay jo (af 1) (mC (.str "writes"))))) (bq (af 2)) bn) (bq (bw (aU (cR .tup)) (aa mkC ai)))
section
variable{S:ac}{ws:List Wd}{es:List En}{r:Rl}
theorem Ox{g:Nat}:pi S (.int (g:Int)) (.lst (es.map λe=>.int (e.g:Int)))=U (.bl (bz es g)):=by
 rw[jN (ys:=es.map λe=>D.int (e.g:Int)) rfl rfl (by rw[YO];intro d hd;obtain⟨e,_,rfl⟩:=Zb.mp hd;rfl)]
 unfold bz
 rw[abo]
 congr 2
 induction es with
 | nil=>rfl
 | cons e l ih=>
  rw[ZZ,ZZ,ih]
  congr 1
  show((e.g:Int)==(g:Int))=_
  rw[Zm];simp;omega
def gsC{b:Option D}(hc:vZ cap env=[b])(hl:es.length<=100):mP (ah 0) bQ (ay aA (af 0) (mC (.int 0))) cap env (es.map En.d,S)=U (.lst (es.map λe=>.int (e.g:Int)),S):=by
 have k:=dw (S:=S) (t:=bQ) (e:=ay aA (af 0) (mC (.int 0))) (cap:=cap) (env:=env) (rest:=[]) (a:=b) (enc:=En.d) (p:=λ_=>true) (f:=λe=>.int (e.g:Int)) (xs:=es) hc (by omega) (λx _=>gQ) (λx _ _=>by simp[En.ix0])
 rw[Zu.mpr (λ_ _=>rfl)] at k
 exact k
def eD:FM (esD es,S)=U (es.map En.d,S):=rfl
noncomputable def FR:Dd->Bool
 | .tick=>true
 | _=>false
def Dd.tick_ne{dd:Dd}:cy S dd.d (.tup [.str "tick"])=U (.bl (FR dd)):=by
 cases dd with
 | tick=>rw[lT rfl rfl];rfl
 | ask wr g t=>
  rw[lT (by cases t<;>rfl) rfl]
  show U (D.bl (_&&false))=U (D.bl false)
  rw[aam]
 | act k g=>
  rw[lT rfl rfl]
  show U (D.bl (_&&false))=U (D.bl false)
  rw[aam]
def mZ{a b:Wd}:cy S a.d (.str b.s)=U (.bl (decide (a=b))):=by
 show cy S (.str a.s) (.str b.s)=_
 rw[cN,Wd.eq]
def vM{a b:Wd}:jo S a.d (.str b.s)=U (.bl (!decide (a=b))):=by
 show jo S (.str a.s) (.str b.s)=_
 rw[rA,Wd.eq]
theorem Ov{a:Wd}:pi S a.d (.tup [.str "writes",.str "raised"])=U (.bl (decide (a=.writes)||decide (a=.raised))):=by
 have h:([D.str "writes",D.str "raised"].any λd=>jd d a.d)=(decide (a=.writes)||decide (a=.raised)):=by cases a<;>decide +kernel
 rw[jN (ys:=[.str "writes",.str "raised"]) rfl rfl rfl,h]
noncomputable def lX(w:Wd)(s:Bool):List (bD×D):=[(.inr "read",.bl (decide (w=.out)&&!s)),(.inr "write",.bl (decide (w=.out)&&!s)),(.inr "up",.bl (decide (w=.reads)))]
noncomputable def lW(w:Wd)(s:Bool):List (bD×D):=[(.inr "down",.bl (decide (w=.writes)||decide (w=.raised))),(.inr "leave",.bl (!decide (w=.out))),(.inr "stop",.bl (s||decide (w=.rising)))]
theorem TK{w:Wd}{s:Bool}{a0 a1 a2 a3 a6:Option D}:Yc [a0,a1,a2,a3,U w.d,U (.bl s),a6] S=U (.ref S.length,S++[.dct ((lX w s).map (·.1)) ((lX w s).map (·.2))]):=by
 have e1:∀ S,cy S w.d (.str "out")=U (.bl (decide (w=.out))):=λS=>mZ (b:=.out)
 have e2:∀ S,cy S w.d (.str "reads")=U (.bl (decide (w=.reads))):=λS=>mZ (b:=.reads)
 have ka:∀ x:Bool,Sg (iK (af 5)) [a0,a1,a2,a3,U w.d,U (.bl s),a6] (.bl x,S)=U (.bl (x&&!s),S):=λx=>by cases x<;>simp
 have kd:Al ([(.inr "read",.bl (decide (w=.out)&&!s)),(.inr "write",.bl (decide (w=.out)&&!s)),(.inr "up",.bl (decide (w=.reads)))],S)=U (.ref S.length,S++[.dct ((lX w s).map (·.1)) ((lX w s).map (·.2))]):=JF (l:=lX w s) (show [(Sum.inr "read":bD),.inr "write",.inr "up"].Nodup by decide +kernel) (by show 3<=15;decide)
 simp only[Yc,Nk,mK,bp,ob,FK,lM,aJ,aj,bK,bN,bO,oj,ak,av,ax,e1,ka,FJ,e2,oU,FI,kd]
theorem TJ{w:Wd}{s:Bool}{a0 a1 a2 a3 a6:Option D}:Yb [a0,a1,a2,a3,U w.d,U (.bl s),a6] S=U (.dct ((lW w s).map (·.1)) ((lW w s).map (·.2)),S):=by
 have e1:∀ S,jo S w.d (.str "out")=U (.bl (!decide (w=.out))):=λS=>vM (b:=.out)
 have e2:∀ S,cy S w.d (.str "rising")=U (.bl (decide (w=.rising))):=λS=>mZ (b:=.rising)
 have ka:Uz (ay cy (af 4) (mC (.str "rising"))) [a0,a1,a2,a3,U w.d,U (.bl s),a6] (.bl s,S)=U (.bl (s||decide (w=.rising)),S):=by cases s<;>simp[e2]
 have kd:vg ([(.inr "down",.bl (decide (w=.writes)||decide (w=.raised))),(.inr "leave",.bl (!decide (w=.out))),(.inr "stop",.bl (s||decide (w=.rising)))],S)=U (.dct ((lW w s).map (·.1)) ((lW w s).map (·.2)),S):=CS (l:=lW w s) (show [(Sum.inr "down":bD),.inr "leave",.inr "stop"].Nodup by decide +kernel) (by show 3<=15;decide)
 simp only[Yb,Hy,mK,bp,ob,FK,aJ,aj,bK,bN,bO,oj,ak,av,bj,aq,ao,au,am,FC,ax,Ov,FJ,e1,mOr_s,ka,oU,FI,kd]
noncomputable def gf:Dd->Str
 | .ask wr _ _=>bA wr
 | .act k _=>k.s
 | .tick=>"tick"
noncomputable def bb:Dd->Nat
 | .ask _ g _=>g
 | .act _ g=>g
 | .tick=>0
theorem Ya{w:Wd}{s:Bool}{R:Rm}(hs:s=bz R.2 (bb dd))(hw:R.1[bb dd]?=U w)(ht:dd≠.tick):jy (cJ (lX w s) (lW w s)) (.inr (gf dd))=U (.bl (dP R dd)):=by
 have hm:cJ (lX w s) (lW w s)=lX w s++lW w s:=oR (show [(Sum.inr "read":bD),.inr "write",.inr "up",.inr "down",.inr "leave",.inr "stop"].Nodup by decide +kernel)
 rw[hm]
 cases dd with
 | tick=>exact absurd rfl ht
 | ask wr g t=>
  simp only[bb] at hw hs
  cases wr
  ·simp (decide:=true) [lX,lW,jy,gf,bA,dP,hw,hs]
  ·simp (decide:=true) [lX,lW,jy,gf,bA,dP,hw,hs]
 | act k g=>
  simp only[bb] at hw hs
  cases k<;>simp (decide:=true) [lX,lW,jy,gf,Ak.s,dP,hw,hs]
theorem TH{N:List Str}(hN:N.length=7){R:Rm}{dd:Dd}(hl:R.2.length<=60)(hd:dd.Ok R.1.length):∃ T,aQ N Ae 2 [aP R,dd.d] S=U (.bl (dP R dd),S++T):=by
 have hst:az N [aP R,dd.d]=[U (aP R),U dd.d,Y,Y,Y,Y,Y]:=by simp[az,hN,adg]
 rw[bg (show [aP R,dd.d].length=2 from rfl),hst]
 obtain⟨ws,es⟩:=R
 have g2:∀ env S,bi 2 (ag (ah 2) (ag (ah 3) aW)) (aP (ws,es)) env S=(ag (ah 2) (ag (ah 3) aW)) [cF ws,esD es] env S:=λenv S=>cE
 by_cases ht:dd=.tick
 ·subst ht
  refine⟨[],?_⟩
  simp only[Ae,aS,bu,aj,bK,bN,bO,oj,ob,ak,bv,g2,bF,aZ,dc,ci,fL,gI,bP,aH,bt,aK,aJ,av,bj,aq,bp,ao,au,am,Hz,ax,Dd.tick_ne,aI,bU,aV,bC,bW,aO,Zn,dP,FR]
 ·have hf:FR dd=false:=by cases dd<;>first | rfl | exact absurd rfl ht
  have x1:∀ S,aA S dd.d (.int 1)=U (.int (bb dd:Int)):=λS=>by cases dd<;>first | rfl | exact absurd rfl ht
  have x0:∀ S,aA S dd.d (.int 0)=U (.str (gf dd)):=λS=>by cases dd<;>first | rfl | exact absurd rfl ht
  have hg:bb dd<ws.length:=by cases dd with
   | ask _ _ _=>exact hd.1
   | act _ _=>exact hd
   | tick=>exact absurd rfl ht
  have hw:ws[bb dd]?=U ws[bb dd]:=YG hg
  have xw:∀ S,aA S (cF ws) (.int (bb dd:Int))=U (ws[bb dd]).d:=λS=>xr hw
  have st:∀ (S:ac) (a4 a5 a6:Option D),AK [U (aP (ws,es)),U dd.d,U (cF ws),U (esD es),a4,a5,a6] S=U (.bl (bz es (bb dd)),S):=λS a4 a5 a6=>by
   simp only[AK,aJ,aj,bK,bN,bO,oj,ob,ak,av,bp,ax,x1,bL,cV,eD,gsC (es:=es) (cap:=[Y]) (env:=[U (aP (ws,es)),U dd.d,U (cF ws),U (esD es),a4,a5,a6]) rfl (by simp only at hl;omega),Ox]
  have up:vK (.ref S.length) [.dct ((lW (ws[bb dd]) (bz es (bb dd))).map (·.1)) ((lW (ws[bb dd]) (bz es (bb dd))).map (·.2))] (S++[.dct ((lX (ws[bb dd]) (bz es (bb dd))).map (·.1)) ((lX (ws[bb dd]) (bz es (bb dd))).map (·.2))])=U (.non,S++[.dct ((cJ (lX (ws[bb dd]) (bz es (bb dd))) (lW (ws[bb dd]) (bz es (bb dd)))).map (·.1)) ((cJ (lX (ws[bb dd]) (bz es (bb dd))) (lW (ws[bb dd]) (bz es (bb dd)))).map (·.2))]):=by
   rw[Sx ia (by show 3+3<=1000;decide),AQ]
  have md:∀ f ms env (c:List bD) (d:List D),vd f ms env (.ref S.length,S++[.dct c d])=(ms env (S++[.dct c d])).bind (eH f (.ref S.length)):=λf ms env c d=>NE ia
  have fin:aA (S++[.dct ((cJ (lX (ws[bb dd]) (bz es (bb dd))) (lW (ws[bb dd]) (bz es (bb dd)))).map (·.1)) ((cJ (lX (ws[bb dd]) (bz es (bb dd))) (lW (ws[bb dd]) (bz es (bb dd)))).map (·.2))]) (.ref S.length) (.str (gf dd))=U (.bl (dP (ws,es) dd)):=by
   rw[Xp ia Ag];exact Ya rfl hw ht
  refine⟨[.dct ((cJ (lX (ws[bb dd]) (bz es (bb dd))) (lW (ws[bb dd]) (bz es (bb dd)))).map (·.1)) ((cJ (lX (ws[bb dd]) (bz es (bb dd))) (lW (ws[bb dd]) (bz es (bb dd)))).map (·.2))],?_⟩
  simp only[Ae,aS,bu,aj,bK,bN,bO,oj,ob,ak,bv,g2,bF,aZ,dc,ci,fL,gI,bP,aH,bt,aK,aJ,av,bj,aq,bp,ao,au,am,Hz,ax,Dd.tick_ne,hf,aI,bS,bE,x1,xw,st,TK,nK,Ng,md,TJ,gW,up,nP,aV,x0,fin,bC,aO]
def mk_d{e:En}:(oV (aB (ay cy (ay aA (af 0) (mC (.int 1))) (mC (.str "read")))) (ay aM (ay aM (bI (af 0) bJ (cx (mC (.int 2)))) (be (aa (mC (.int 1)) ai))) (bI (af 0) (cx (mC (.int 3))) bJ)) (af 0)) [U e.d] S=U ((if e.wr then e else { e with m:=1 }:En).d,S):=by
 have c1:kf e.d Y (U 2,S)=U (.tup [.int (e.g:Nat),.str (bA e.wr)],S):=rfl
 have c2:kf e.d (U 3) (Y,S)=U (.tup [bR e.t],S):=rfl
 have a1:∀ x y z,aM S (.tup [x,y]) (.tup [z])=U (.tup [x,y,z]):=λx y z=>ge (by simp)
 have a2:∀ x y z w,aM S (.tup [x,y,z]) (.tup [w])=U (.tup [x,y,z,w]):=λx y z w=>ge (by simp)
 have wr:(bA e.wr==("read":Str)) = !e.wr:=sU e.wr
 simp only[mL,aK,aJ,aj,bK,oj,ob,ak,av,bp,ax,En.ix1,cN,wr,aI]
 cases h:e.wr with
 | true=>simp
 | false=>
  simp only[Zo,CQ,aJ,cO,aj,bK,oj,ob,ak,fZ,cU,fY,dF,bp,dI,c1,av,bj,aq,ao,au,am,Hz,ax,a1,c2,a2]
  unfold En.d
  simp[h]
theorem Fj{N:List Str}(hN:N.length=3){w:Wd}(hl:es.length<=60):aQ N ll 3 [r.d,w.d,esD es] S=U (esD (uz r w es),S):=by
 have hst:az N [r.d,w.d,esD es]=[U r.d,U w.d,U (esD es)]:=by simp[az,hN]
 rw[bg (show [r.d,w.d,esD es].length=3 from rfl),hst]
 have w1:(r.w.s==("turns":Str))=decide (r.w=.turns):=Rw.eq r.w .turns
 have e1:jo S (.str r.w.s) (.str "turns")=U (.bl (!decide (r.w=.turns))):=by rw[rA,w1]
 have e2:jo S w.d (.str "writes")=U (.bl (!decide (w=.writes))):=vM (b:=.writes)
 have k:=dw (S:=S) (t:=bQ) (e:=oV (aB (ay cy (ay aA (af 0) (mC (.int 1))) (mC (.str "read")))) (ay aM (ay aM (bI (af 0) bJ (cx (mC (.int 2)))) (be (aa (mC (.int 1)) ai))) (bI (af 0) (cx (mC (.int 3))) bJ)) (af 0)) (cap:=[Y]) (env:=[U r.d,U w.d,U (esD es)]) (rest:=[]) (a:=Y) (enc:=En.d) (p:=λ_=>true) (f:=λe=>(if e.wr then e else { e with m:=1 }:En).d) (xs:=es) rfl (by omega) (λx _=>gQ) (λx _ _=>mk_d)
 rw[Zu.mpr (λ_ _=>rfl)] at k
 have kc:mkC [U r.d,U w.d,U (esD es)] S=U (.lst (es.map λe=>(if e.wr then e else { e with m:=1 }:En).d),S):=by
  simp only[mkC,bL,cV,aj,bK,bN,bO,oj,ob,ak,eD,k]
 unfold uz
 by_cases h1:r.w=.turns
 ·rw[YM h1] at e1
  by_cases h2:w=.writes
  ·rw[YR ⟨h1,h2⟩]
   rw[YM h2] at e2
   simp only[ll,aS,bt,iC,aK,aJ,aj,bK,bN,bO,oj,ob,ak,av,bp,ax,Rl.ix0,e1,Zk,aI,lQ,e2,bS,bE,aH,aV,bZ,aq,kc,ao,au,am,cb,fN,bC,aO]
   unfold esD;rw[ZA];rfl
  ·rw[if_neg (λz=>h2 z.2)]
   rw[YK h2] at e2
   simp only[ll,aS,bt,iC,aK,aJ,aj,bK,bN,bO,oj,ob,ak,av,bp,ax,Rl.ix0,e1,Zk,Zo,aI,lQ,e2,bU,aV,bC,bW,aO]
 ·rw[if_neg (λz=>h1 z.1)]
  rw[YK h1] at e1
  simp only[ll,aS,bt,iC,aK,aJ,aj,bK,bN,bO,oj,ob,ak,av,bp,ax,Rl.ix0,e1,Zo,aI,vc,bU,aV,bC,bW,aO]
end
noncomputable def eE(l:List Ev):D:=.tup (l.map Ev.d)
def aY(r:Rl)(R:Rm):Rm×List Ev:=tS r (2*R.1.length) R
noncomputable def lY(wr:Bool)(g:Nat)(t:Option Int):En:=⟨g,wr,0,if t=U 0 then U 1 else t⟩
def wf(r:Rl)(R:Rm)(wr:Bool)(g:Nat)(t:Option Int):Rm×List Ev:=
 let a:=aY r (R.1,R.2++[lY wr g t])
 if bz a.1.2 g=false then a
 else if t=U 0 then((a.1.1,a.1.2.filter λe=>decide (e.g≠g)),a.2++[⟨"no",g⟩])
 else(a.1,a.2++[⟨"waits",g⟩])
noncomputable def gJ(e:En):En:={ e with t:=e.t.map (· - 1) }
def oq(r:Rl)(R:Rm):Rm×List Ev:=
 let a:=aY r (R.1,(R.2.map gJ).filter λe=>decide (e.t≠U 0))
 (a.1,(((R.2.map gJ).filter λe=>decide (e.t=U 0)).map λe=>⟨"ends",e.g⟩)++a.2)
noncomputable def gc(k:Ak)(g:Nat):List Ev:=match k with
 | .up=>[]
 | .stop=>[⟨"ends",g⟩]
 | .down=>[⟨"down",g⟩]
 | .leave=>[⟨"out",g⟩]
noncomputable def gL(k:Ak)(w:Wd):Wd:=match k with
 | .up=>.rising
 | .down=>.reads
 | .leave=>.out
 | .stop=>if w=.rising then .reads else .out
noncomputable def rM(r:Rl)(k:Ak)(w:Wd)(g:Nat)(es:List En):List En:=(if k=.down\/k=.leave then uz r w es else es).filter λe=>decide (e.g≠g)
def mr(r:Rl)(R:Rm)(k:Ak)(g:Nat)(w:Wd):Rm×List Ev:=
 let a:=aY r (R.1.set g (gL k w),rM r k w g R.2)
 (a.1,gc k g++a.2++(if a.1.1[g]?=U .rising then [⟨"waits",g⟩] else []))
noncomputable def hZ(r:Rl)(R:Rm)(dd:Dd):Option (Rm×List Ev):=
 if dP R dd=false then Y else match dd with
 | .tick=>U (oq r R)
 | .ask wr g t=>U (wf r R wr g t)
 | .act k g=>if k=.up/\(r.c=0\/Wd.rising∈R.1) then U (R,[⟨"no",g⟩]) else match R.1[g]? with
  | some w=>U (mr r R k g w)
  | none=>Y
def jj(h:bz es g=false){e:En}(he:e∈es):e.g≠g:=λz=>by
 have:bz es g=true:=ZE.mpr ⟨e,he,by simp[z]⟩
 rw[h] at this;cases this
theorem ROk.filter{ws:List Wd}{es:List En}(h:ROk (ws,es))(p:En->Bool):ROk (ws,es.filter p):=
 ⟨λe he=>h.out e (Zx.mp he).1,List.Sublist.nodup (List.Sublist.map _ (List.filter_sublist)) h.nd⟩
def ROk.mapE{ws:List Wd}{es:List En}(h:ROk (ws,es))(f:En->En)(hf:∀ e,(f e).g=e.g):ROk (ws,es.map f):=
 ⟨λe he=>by obtain⟨x,hx,rfl⟩:=Zb.mp he;rw[hf];exact h.out x hx,by
  show((es.map f).map (·.g)).Nodup
  rw[ZA,show((·.g) ∘ f)=(λe:En=>e.g) from funext hf];exact h.nd⟩
def ROk.setW{ws:List Wd}{es:List En}(h:ROk (ws,es))(g:Nat)(w:Wd)(hg:∀ e∈es,e.g≠g):ROk (ws.set g w,es):=
 ⟨λe he=>by show(ws.set g w)[e.g]?=_;rw[Zf (Ne.symm (hg e he))];exact h.out e he,h.nd⟩
def dD(h:ROk R):ROk (aY r R).1/\(aY r R).1.1.length=R.1.length:=LQ _ h
def AN{g:Nat}(h:ROk R)(hw:R.1[g]?=U .out)(hs:bz R.2 g=false):ROk (R.1,R.2++[lY wr g t]):=
 ⟨λe he=>by
  rcases YX.mp he with he | he
  ·exact h.out e he
  ·rw[Zr.mp he];exact hw,by
  show((R.2++[lY wr g t]).map (·.g)).Nodup
  rw[Zq,aaw]
  refine⟨h.nd,by simp,λa ha b hb=>?_⟩
  obtain⟨e,he,rfl⟩:=Zb.mp ha
  simp[lY] at hb
  rw[hb];exact jj hs he⟩
def Wl{ws:List Wd}{es:List En}(h:ROk (ws,es)):ROk (ws,uz r w es):=by
 unfold uz;split
 ·exact h.mapE _ λe=>by split<;>rfl
 ·exact h
def AT{k:Ak}{ws:List Wd}{es:List En}(h:ROk (ws,es))(w':Wd):ROk (ws.set g w',rM r k w g es):=by
 unfold rM
 refine ROk.setW (ROk.filter ?_ _) g w' λe he=>ZH (Zx.mp he).2
 split
 ·exact Wl h
 ·exact h
def Dy{x:Rm×List Ev}(h:ROk R)(hx:hZ r R dd=U x):ROk x.1/\x.1.1.length=R.1.length:=by
 unfold hZ at hx
 split at hx
 ·cases hx
 ·rename_i hc
  have hc:dP R dd=true:=by simpa using hc
  cases dd with
  | tick=>
   cases hx
   obtain⟨a,b⟩:=dD (r:=r) (R:=(R.1,(R.2.map gJ).filter λe=>decide (e.t≠U 0))) (ROk.filter (ROk.mapE h gJ λe=>rfl) _)
   exact⟨a,b⟩
  | ask wr g t=>
   cases hx
   simp only[dP,YD,ZO,Bool.not_eq_true'] at hc
   obtain⟨a,b⟩:=dD (r:=r) (AN (wr:=wr) (t:=t) h hc.1 hc.2)
   unfold wf
   dsimp only
   split
   ·exact⟨a,b⟩
   ·split
    ·exact⟨ROk.filter a _,b⟩
    ·exact⟨a,b⟩
  | act k g=>
   dsimp only at hx
   split at hx
   ·cases hx;exact⟨h,rfl⟩
   ·split at hx
    ·rename_i w hw
     cases hx
     obtain⟨a,b⟩:=dD (r:=r) (AT (r:=r) (k:=k) (w:=w) (g:=g) h (gL k w))
     exact⟨a,b.trans (by simp)⟩
    ·cases hx
def Yl:ME:=bH (dq (ay aA (af 1) (mC (.int 1)))) (ah 0) bQ (ay aA (af 0) (mC (.int 0))) [Y]
def GG:ME:=bH (dq (ay aA (af 1) (mC (.int 1)))) (ah 0) (aB (ay jo (ay aA (af 0) (mC (.int 0))) (af 1))) (af 0) [Y,U 4]
def uY(settled:PF):MS:=
 aF (aX (af 2) (bi 3 (ag (ah 3) (ag (ah 4) (ag (ah 5) aW))))) (aF (aX (be (aa (af 4) (aa (af 3) (aa (mC (.int 0)) (aa (oV (aB (ay cy (af 5) (mC (.int 0)))) (mC (.int 1)) (af 5)) ai))))) (ah 6)) (aF (aX (aw 2 settled (aa (af 0) (aa (be (aa (ay aA (af 1) (mC (.int 0))) (aa (ay aM (ay aA (af 1) (mC (.int 1))) (be (aa (af 6) ai))) ai))) ai))) (bi 2 (ag (ah 1) (ag (ah 7) aW)))) (aF (bY (aB (ay rq (af 4) Yl)) (bq (be (aa (af 1) (aa (bw (aU (cR .tup)) (aa (af 7) ai)) ai)))) bn) (aF (bY (aB (ay cy (af 5) (mC (.int 0)))) (bq (be (aa (be (aa (ay aA (af 1) (mC (.int 0))) (aa (bw (aU (cR .tup)) (aa GG ai)) ai))) (aa (bw (aU (cR .tup)) (aa (ay aM (af 7) (dG (aa (be (aa (mC (.str "no")) (aa (af 4) ai))) ai))) ai)) ai)))) bn) (bq (be (aa (af 1) (aa (bw (aU (cR .tup)) (aa (ay aM (af 7) (dG (aa (be (aa (mC (.str "waits")) (aa (af 4) ai))) ai))) ai)) ai))))))))
def AD:ME:=bH (dq (af 4)) (ah 0) bQ (ay aM (bI (af 0) bJ (cx (mC (.int 3)))) (be (aa (oV (aB (ay Ee (ay aA (af 0) (mC (.int 3))) (mC .non))) (mC .non) (ay rn (ay aA (af 0) (mC (.int 3))) (mC (.int 1)))) ai))) [Y]
def Gu:ME:=bH (dq (af 5)) (ah 0) (aB (ay cy (ay aA (af 0) (mC (.int 3))) (mC (.int 0)))) (be (aa (mC (.str "ends")) (aa (ay aA (af 0) (mC (.int 0))) ai))) [Y]
def Gr:ME:=bH (dq (af 5)) (ah 0) (aB (ay jo (ay aA (af 0) (mC (.int 3))) (mC (.int 0)))) (af 0) [Y]
def vT(settled:PF):MS:=aF (aX AD (ah 5)) (aF (aX Gu (ah 6)) (aF (aX (aw 2 settled (aa (af 0) (aa (be (aa (af 3) (aa (bw (aU (cR .tup)) (aa Gr ai)) ai))) ai))) (bi 2 (ag (ah 1) (ag (ah 7) aW)))) (bq (be (aa (af 1) (aa (bw (aU (cR .tup)) (aa (ay aM (af 6) (af 7)) ai)) ai))))))
def AC:ME:=ay cH (dG (aa (be (aa (oV (aB (ay cy (af 8) (mC (.str "stop")))) (mC (.str "ends")) (oV (aB (ay cy (af 8) (mC (.str "down")))) (mC (.str "down")) (mC (.str "out")))) (aa (af 9) ai))) ai)) (bw (aU kD) (aa (ay jo (af 8) (mC (.str "up"))) ai))
def AB:ME:=ay aA (jh [(mC (.str "up"),mC (.str "rising")),(mC (.str "down"),mC (.str "reads")),(mC (.str "leave"),mC (.str "out")),(mC (.str "stop"),ay aA (dG (aa (mC (.str "out")) (aa (mC (.str "reads")) ai))) (bw (aU kD) (aa (ay cy (af 10) (mC (.str "rising"))) ai)))]) (af 8)
def Gq:ME:=ay cH (dG (aa (be (aa (mC (.str "waits")) (aa (af 9) ai))) ai)) (bw (aU kD) (aa (ay cy (ay aA (ay aA (af 1) (mC (.int 0))) (af 9)) (mC (.str "rising"))) ai))
def Gs:ME:=bH (dq (af 4)) (ah 0) (aB (ay jo (ay aA (af 0) (mC (.int 0))) (af 1))) (af 0) [Y,U 9]
def Pq(settled marked put:PF):MS:=aF (aX (ay aA (af 3) (af 9)) (ah 10)) (aF (aX AC (ah 11)) (aF (bY (aB (ay pi (af 8) (be (aa (mC (.str "down")) (aa (mC (.str "leave")) ai))))) (aX (aw 3 marked (aa (af 0) (aa (af 10) (aa (af 4) ai)))) (ah 4)) bn) (aF (aX (bw (aU (cR .tup)) (aa Gs ai)) (ah 4)) (aF (aX AB (ah 12)) (aF (aX (aw 2 settled (aa (af 0) (aa (be (aa (aw 3 put (aa (af 3) (aa (af 9) (aa (af 12) ai)))) (aa (af 4) ai))) ai))) (bi 2 (ag (ah 1) (ag (ah 7) aW)))) (aF (aX Gq (ah 13)) (bq (be (aa (af 1) (aa (bw (aU (cR .tup)) (aa (ay aM (ay aM (af 11) (af 7)) (af 13)) ai)) ai))))))))))
def ky(can asked settled marked put:PF):MS:=
 aF (bY (dm (da (aw 2 can (aa (af 1) (aa (af 2) ai))))) (bq (mC .non)) bn) (aF (aX (af 1) (bi 2 (ag (ah 3) (ag (ah 4) aW)))) (aF (bY (aB (ay cy (ay aA (af 2) (mC (.int 0))) (mC (.str "tick")))) (vT settled) bn) (aF (aX (bI (af 2) bJ (cx (mC (.int 2)))) (bi 2 (ag (ah 8) (ag (ah 9) aW)))) (aF (bY (aB (ay pi (af 8) (be (aa (mC (.str "read")) (aa (mC (.str "write")) ai))))) (bq (aw 3 asked (aa (af 0) (aa (af 1) (aa (af 2) ai))))) bn) (aF (bY (du (aB (ay cy (af 8) (mC (.str "up")))) (gH (aB (ay cy (ay aA (af 0) (mC (.int 3))) (mC (.int 0)))) (aB (ay pi (mC (.str "rising")) (af 3))))) (bq (be (aa (af 1) (aa (be (aa (be (aa (mC (.str "no")) (aa (af 9) ai))) ai)) ai)))) bn) (Pq settled marked put))))))
def nY(settled:PF):Prop:=∀ (S:ac) (r:Rl) (R:Rm),ROk R->R.1.length<=50->settled [r.d,aP R] S=U (.tup [aP (aY r R).1,.ref S.length],S++[.lst ((aY r R).2.map Ev.d)])
theorem nI:∀ (n:Nat) {R:Rm},(tS r n R).2.length<=n
 | 0,R=>YL _
 | n+1,R=>by
  have h1:=GV (r:=r) (R:=R)
  have h2:=nI (r:=r) n (R:=(mw r R).1)
  show((mw r R).2++(tS r n (mw r R).1).2).length<=_
  rw[YQ];omega
section
variable{S:ac}{ws:List Wd}{es:List En}{r:Rl}{R:Rm}
def jO:cy S (bR t) (.int 0)=U (.bl (decide (t=U 0))):=by
 cases t with
 | none=>exact lT rfl rfl
 | some k=>
  show cy S (.int k) (.int 0)=_
  rw[lU];congr 2;rw[Zm];simp
def Dr:jo S (bR t) (.int 0)=U (.bl (!decide (t=U 0))):=by
 cases t with
 | none=>exact vN rfl rfl
 | some k=>
  show jo S (.int k) (.int 0)=_
  rw[On];congr 3;rw[Zm];simp
theorem LY{g:Nat}{b:Option D}(hc:vZ cap env=[b,U (.int (g:Int))])(hl:es.length<=100):mP (ah 0) (aB (ay jo (ay aA (af 0) (mC (.int 0))) (af 1))) (af 0) cap env (es.map En.d,S)=U (.lst ((es.filter λe=>decide (e.g≠g)).map En.d),S):=by
 exact dw (S:=S) (t:=aB (ay jo (ay aA (af 0) (mC (.int 0))) (af 1))) (e:=af 0) (cap:=cap) (env:=env) (rest:=[U (.int (g:Int))]) (a:=b) (enc:=En.d) (p:=λe=>decide (e.g≠g)) (f:=En.d) (xs:=es) hc (by omega) (λx _=>by
  have:(!((x.g:Int)==(g:Int)))=decide (x.g≠g):=by rw[Zm];simp;omega
  simp[En.ix0,-beq_iff_eq,this]) (λx _ _=>by simp)
def OC{S:ac}{l:List Ev}:aU (cR .tup) [.ref S.length] (S++[.lst (l.map Ev.d)])=U (eE l,S++[.lst (l.map Ev.d)]):=yx ia
theorem Xu{S:ac}{l:List Ev}{v:Ev}(h:l.length<=500):aM (S++[.lst (l.map Ev.d)]) (.ref S.length) (.lst [v.d])=U (.lst ((l++[v]).map Ev.d)):=by
 rw[At (xs:=l.map Ev.d) (ys:=[v.d]) rfl (by simp only[lj,ia]) rfl (by simp;omega)];simp
theorem HU{S:ac}{k l:List Ev}(h:l.length<=500)(h':k.length<=400):aM (S++[.lst (l.map Ev.d)]) (.lst (k.map Ev.d)) (.ref S.length)=U (.lst ((k++l).map Ev.d)):=by
 rw[At (xs:=k.map Ev.d) (ys:=l.map Ev.d) rfl rfl (by simp only[lj,ia]) (by simp;omega)];simp
def JW{g:Nat}:rq S (.int (g:Int)) (.lst (es.map λe=>.int (e.g:Int)))=U (.bl (!bz es g)):=by
 have h:=Ox (S:=S) (es:=es) (g:=g)
 have ok:(es.map λe=>D.int (e.g:Int)).all (cB 39)=true:=by rw[YO];intro d hd;obtain⟨e,_,rfl⟩:=Zb.mp hd;rfl
 rw[jN (ys:=es.map λe=>D.int (e.g:Int)) rfl rfl ok] at h
 rw[JV (ys:=es.map λe=>D.int (e.g:Int)) rfl rfl ok]
 simp only[ZW,D.bl.injEq] at h
 rw[h]
theorem KS(O:nY settled){N:List Str}(hN:N.length=8){g:Nat}(h:ROk R)(hl:R.1.length<=50)(hw:R.1[g]?=U .out)(hs:bz R.2 g=false) :
  ∃ T,aQ N (uY settled) 3 [r.d,aP R,(Dd.ask wr g t).d] S=U (.tup [aP (wf r R wr g t).1,eE (wf r R wr g t).2],S++T):=by
 have hst:az N [r.d,aP R,(Dd.ask wr g t).d]=[U r.d,U (aP R),U (Dd.ask wr g t).d,Y,Y,Y,Y,Y]:=by simp[az,hN,adg]
 rw[bg (show [r.d,aP R,(Dd.ask wr g t).d].length=3 from rfl),hst]
 have hA:=AN (wr:=wr) (t:=t) h hw hs
 have hO:=O S r (R.1,R.2++[lY wr g t]) hA hl
 obtain⟨q1,q2⟩:=dD (r:=r) hA
 have qf:(aY r (R.1,R.2++[lY wr g t])).2.length<=100:=YW (nI _) (by show 2*R.1.length<=100;omega)
 have ql:(aY r (R.1,R.2++[lY wr g t])).1.2.length<=50:=YW q1.len (by rw[q2];exact hl)
 unfold wf
 generalize hE:aY r (R.1,R.2++[lY wr g t])=A at *
 obtain⟨R',evs⟩:=A
 dsimp only at *
 have g3:∀ env S,bi 3 (ag (ah 3) (ag (ah 4) (ag (ah 5) aW))) (Dd.ask wr g t).d env S=(ag (ah 3) (ag (ah 4) (ag (ah 5) aW))) [.str (bA wr),.int (g:Int),bR t] env S:=λenv S=>HL
 have kif:∀ env:bh,kIf (mC (.int 1)) (af 5) [U r.d,U (aP R),U (Dd.ask wr g t).d,U (.str (bA wr)),U (.int (g:Int)),U (bR t),Y,Y] (decide (t=U 0),S)=U (bR (if t=U 0 then U 1 else t),S):=λenv=>by
  by_cases ht:t=U 0
  ·simp[ht];rfl
  ·simp[ht]
 have ad:∀ S,aM S (esD R.2) (.tup [.tup [.int (g:Int),.str (bA wr),.int 0,bR (if t=U 0 then U 1 else t)]])=U (esD (R.2++[lY wr g t])):=λS=>by
  have:=h.len
  rw[show esD R.2=.tup (R.2.map En.d) from rfl,ge (by simp;omega)]
  unfold esD;rw[Zq];rfl
 have hO':settled [r.d,.tup [cF R.1,esD (R.2++[lY wr g t])]] S=U (.tup [aP R',.ref S.length],S++[.lst (evs.map Ev.d)]):=hO
 have gs:∀ (T:ac) (a6:Option D),Yl [U r.d,U (aP R'),U (Dd.ask wr g t).d,U (.str (bA wr)),U (.int (g:Int)),U (bR t),a6,U (.ref S.length)] T=U (.lst (R'.2.map λe=>.int (e.g:Int)),T):=λT a6=>by
  simp only[Yl,bL,cV,aJ,aj,bK,bN,bO,oj,ob,ak,av,bp,ax,Rm.ix1,eD,gsC (es:=R'.2) (cap:=[Y]) (env:=[U r.d,U (aP R'),U (Dd.ask wr g t).d,U (.str (bA wr)),U (.int (g:Int)),U (bR t),a6,U (.ref S.length)]) rfl (by omega)]
 have rs:∀ (T:ac) (a6:Option D),GG [U r.d,U (aP R'),U (Dd.ask wr g t).d,U (.str (bA wr)),U (.int (g:Int)),U (bR t),a6,U (.ref S.length)] T=U (.lst ((R'.2.filter λe=>decide (e.g≠g)).map En.d),T):=λT a6=>by
  simp only[GG,bL,cV,aJ,aj,bK,bN,bO,oj,ob,ak,av,bp,ax,Rm.ix1,eD,LY (es:=R'.2) (g:=g) (cap:=[Y,U 4]) (env:=[U r.d,U (aP R'),U (Dd.ask wr g t).d,U (.str (bA wr)),U (.int (g:Int)),U (bR t),a6,U (.ref S.length)]) rfl (by omega)]
 have no:∀ w:Str,aM (S++[.lst (evs.map Ev.d)]) (.ref S.length) (.lst [.tup [.str w,.int (g:Int)]])=U (.lst ((evs++[Ev.mk w g]).map Ev.d)):=λw=>Xu (v:=⟨w,g⟩) (by omega)
 refine⟨[.lst (evs.map Ev.d)],?_⟩
 simp only[uY,aS,bu,aj,bK,bN,bO,oj,ob,ak,bv,g3,bF,aZ,dc,ci,fL,gI,bP,aH,bj,aq,ao,bp,mL,aK,aJ,av,ax,jO,aI,kif [],au,am,JB,aE,Rm.ix0,Rm.ix1,Hz,ad,FC,ba,hO',cE,bt,gs,JW]
 cases hb:bz R'.2 g with
 | false=>simp only[Zo,bU,aV,bj,aq,aj,bK,bN,bO,oj,ob,ak,ao,bZ,au,am,cb,OC,FC,bC,bW,aO,YR]
 | true=>
  simp only[Zk,bS,bE,ob,aH,reduceCtorEq,if_neg,not_false_eq_true]
  by_cases ht:t=U 0
  ·have fe:∀ S,cy S (bR t) (.int 0)=U (.bl true):=λS=>by rw[jO,YM ht]
   simp only[YR ht,aS,bt,aK,fe,aI,bU,aV,bj,aq,aj,bK,bN,bO,oj,ob,ak,ao,aJ,av,bp,ax,Rm.ix0,bZ,rs,au,am,cb,fN,FC,jc,IE,no,bC,bW,aO]
   rfl
  ·have fe:∀ S,cy S (bR t) (.int 0)=U (.bl false):=λS=>by rw[jO,YK ht]
   simp only[if_neg ht,aS,bt,aK,fe,aI,bS,bE,ob,aH,aV,bj,aq,aj,bK,bN,bO,oj,ak,ao,aJ,av,bp,ax,bZ,au,am,cb,fN,FC,jc,IE,no,bC,aO]
   rfl
end
structure Yu(can asked settled marked put:PF):Prop where
 c:∀ (S:ac) (R:Rm) (dd:Dd),R.2.length<=60->dd.Ok R.1.length->∃ T,can [aP R,dd.d] S=U (.bl (dP R dd),S++T)
 a:∀ (S:ac) (r:Rl) (R:Rm) (wr:Bool) (g:Nat) (t:Option Int),ROk R->R.1.length<=50->R.1[g]?=U .out->bz R.2 g=false->∃ T,asked [r.d,aP R,(Dd.ask wr g t).d] S=U (.tup [aP (wf r R wr g t).1,eE (wf r R wr g t).2],S++T)
 s:nY settled
 m:∀ (S:ac) (r:Rl) (w:Wd) (es:List En),es.length<=60->marked [r.d,w.d,esD es] S=U (esD (uz r w es),S)
 p:∀ (S:ac) (ws:List Wd) (i:Nat) (w:Wd),i<ws.length->ws.length<=100->put [cF ws,.int (i:Int),w.d] S=U (cF (ws.set i w),S)
section
variable{S:ac}{ws:List Wd}{es:List En}{r:Rl}{R:Rm}
def XI{e:En}:(ay aM (bI (af 0) bJ (cx (mC (.int 3)))) (be (aa (oV (aB (ay Ee (ay aA (af 0) (mC (.int 3))) (mC .non))) (mC .non) (ay rn (ay aA (af 0) (mC (.int 3))) (mC (.int 1)))) ai))) [U e.d] S=U ((gJ e).d,S):=by
 have c1:kf e.d Y (U 3,S)=U (.tup [.int (e.g:Nat),.str (bA e.wr),.int e.m],S):=rfl
 have a2:∀ x y z w,aM S (.tup [x,y,z]) (.tup [w])=U (.tup [x,y,z,w]):=λx y z w=>ge (by simp)
 have cu:∀ a b c d:D,je [a,b,c,d] Y (U 3)=[a,b,c]:=λ_ _ _ _=>rfl
 obtain⟨g,wr,m,t⟩:=e
 cases t with
 | none=>simp[at4,cu,bR,nQ,Hz,a2,gJ,En.d]
 | some k=>simp[at4,cu,bR,nQ,Hz,a2,gJ,En.d]
theorem Kr(O:nY settled){a2 a5 a6 a7 a8 a9 b0 b1 b2 b3:Option D}(h:ROk R)(hl:R.1.length<=50) :
  ∃ T,(vT settled [U r.d,U (aP R),a2,U (cF R.1),U (esD R.2),a5,a6,a7,a8,a9,b0,b1,b2,b3] S).bind Rt=U (.tup [aP (oq r R).1,eE (oq r R).2],S++T)/\vT settled [U r.d,U (aP R),a2,U (cF R.1),U (esD R.2),a5,a6,a7,a8,a9,b0,b1,b2,b3] S=U (.rt (.tup [aP (oq r R).1,eE (oq r R).2]) (S++T)):=by
 have hle:=h.len
 have f1:AD [U r.d,U (aP R),a2,U (cF R.1),U (esD R.2),a5,a6,a7,a8,a9,b0,b1,b2,b3] S=U (.lst ((R.2.map gJ).map En.d),S):=by
  have k:=dw (S:=S) (t:=bQ) (e:=ay aM (bI (af 0) bJ (cx (mC (.int 3)))) (be (aa (oV (aB (ay Ee (ay aA (af 0) (mC (.int 3))) (mC .non))) (mC .non) (ay rn (ay aA (af 0) (mC (.int 3))) (mC (.int 1)))) ai))) (cap:=[Y]) (env:=[U r.d,U (aP R),a2,U (cF R.1),U (esD R.2),a5,a6,a7,a8,a9,b0,b1,b2,b3]) (rest:=[]) (a:=Y) (enc:=En.d) (p:=λ_=>true) (f:=λe=>(gJ e).d) (xs:=R.2) rfl (by omega) (λx _=>gQ) (λx _ _=>XI)
  rw[Zu.mpr (λ_ _=>rfl)] at k
  simp only[AD,bL,cV,aj,bK,bN,bO,oj,ob,ak,eD,k,ZA]
  rfl
 generalize hF:R.2.map gJ=fs at f1
 have hfl:fs.length<=50:=by rw[<- hF,YE];omega
 have f2:Gu [U r.d,U (aP R),a2,U (cF R.1),U (esD R.2),U (.lst (fs.map En.d)),a6,a7,a8,a9,b0,b1,b2,b3] S=U (.lst (((fs.filter λe=>decide (e.t=U 0)).map λe=>Ev.mk "ends" e.g).map Ev.d),S):=by
  have k:=dw (S:=S) (t:=aB (ay cy (ay aA (af 0) (mC (.int 3))) (mC (.int 0)))) (e:=be (aa (mC (.str "ends")) (aa (ay aA (af 0) (mC (.int 0))) ai))) (cap:=[Y]) (env:=[U r.d,U (aP R),a2,U (cF R.1),U (esD R.2),U (.lst (fs.map En.d)),a6,a7,a8,a9,b0,b1,b2,b3]) (rest:=[]) (a:=Y) (enc:=En.d) (p:=λe=>decide (e.t=U 0)) (f:=λe=>(Ev.mk "ends" e.g).d) (xs:=fs) rfl (by omega) (λx _=>by simp[En.ix3,jO]) (λx _ _=>by simp[En.ix0,FC,Ev.d])
  simp only[Gu,bL,cV,aj,bK,bN,bO,oj,ob,ak,oZ,k,ZA]
  rfl
 have f3:∀ a6,Gr [U r.d,U (aP R),a2,U (cF R.1),U (esD R.2),U (.lst (fs.map En.d)),a6,a7,a8,a9,b0,b1,b2,b3] S=U (.lst ((fs.filter λe=>decide (e.t≠U 0)).map En.d),S):=λa6=>by
  have k:=dw (S:=S) (t:=aB (ay jo (ay aA (af 0) (mC (.int 3))) (mC (.int 0)))) (e:=af 0) (cap:=[Y]) (env:=[U r.d,U (aP R),a2,U (cF R.1),U (esD R.2),U (.lst (fs.map En.d)),a6,a7,a8,a9,b0,b1,b2,b3]) (rest:=[]) (a:=Y) (enc:=En.d) (p:=λe=>decide (e.t≠U 0)) (f:=En.d) (xs:=fs) rfl (by omega) (λx _=>by simp[En.ix3,Dr]) (λx _ _=>by simp)
  simp only[Gr,bL,cV,aj,bK,bN,bO,oj,ob,ak,oZ,k]
 have hA:ROk (R.1,fs.filter λe=>decide (e.t≠U 0)):=by rw[<- hF];exact ROk.filter (ROk.mapE h gJ λe=>rfl) _
 have hO:=O S r (R.1,fs.filter λe=>decide (e.t≠U 0)) hA hl
 have qf:(aY r (R.1,fs.filter λe=>decide (e.t≠U 0))).2.length<=100:=YW (nI _) (by show 2*R.1.length<=100;omega)
 unfold oq
 rw[hF]
 generalize hE:aY r (R.1,fs.filter λe=>decide (e.t≠U 0))=A at *
 obtain⟨R',evs⟩:=A
 dsimp only at *
 have hO':settled [r.d,.tup [cF R.1,.tup ((fs.filter λe=>decide (e.t≠U 0)).map En.d)]] S=U (.tup [aP R',.ref S.length],S++[.lst (evs.map Ev.d)]):=hO
 have ad:=HU (S:=S) (k:=(fs.filter λe=>decide (e.t=U 0)).map λe=>Ev.mk "ends" e.g) (l:=evs) (by omega) (by rw[YE];exact YW (Zt _ _) (by omega))
 have key:vT settled [U r.d,U (aP R),a2,U (cF R.1),U (esD R.2),a5,a6,a7,a8,a9,b0,b1,b2,b3] S=U (.rt (.tup [aP R',eE (((fs.filter λe=>decide (e.t=U 0)).map λe=>Ev.mk "ends" e.g)++evs)]) (S++[.lst (evs.map Ev.d)])):=by
  simp only[vT,aS,bu,f1,ob,bv,aZ,fL,gI,bP,aH,f2,aE,aq,aj,bK,bN,bO,oj,ak,ao,bj,bZ,f3,au,am,cb,fN,FC,ba,hO',cE,bF,dc,ci,aV,aJ,av,ax,ad,bC]
  rfl
 exact⟨[.lst (evs.map Ev.d)],by rw[key,ob,aO],key⟩
def HR{xs:List D}{k:Int}(h0:0<=k)(h1:k<=100000)(h:xs.length*k.toNat<=1000):cH S (.lst xs) (.int k)=U (.lst (adg k.toNat xs).flatten):=YR ⟨by omega,by omega,sz h⟩
def Oo{x:D}{b:Bool}:cH S (.lst [x]) (.int (if b=true then 1 else 0))=U (.lst (if b=true then [x] else [])):=by
 cases b
 ·exact HR (by decide) (by decide) (by simp)
 ·exact HR (by decide) (by decide) (by simp)
theorem akS(k j:Ak):(k.s==j.s)=decide (k=j):=by cases k<;>cases j<;>decide +kernel
def As{k j:Ak}:cy S (.str k.s) (.str j.s)=U (.bl (decide (k=j))):=by rw[cN,akS]
def Gv{k:Ak}{g:Nat}{a0 a1 a2 a3 a4 a5 a6 a7 b0 b1 b2 b3:Option D}:AC [a0,a1,a2,a3,a4,a5,a6,a7,U (.str k.s),U (.int (g:Int)),b0,b1,b2,b3] S=U (.lst ((gc k g).map Ev.d),S):=by
 have e1:cy S (.str k.s) (.str "stop")=U (.bl (decide (k=.stop))):=As (j:=.stop)
 have e2:cy S (.str k.s) (.str "down")=U (.bl (decide (k=.down))):=As (j:=.down)
 have e3:jo S (.str k.s) (.str "up")=U (.bl (!decide (k=.up))):=by rw[rA];exact congrArg (λb=>U (D.bl (!b))) (akS k .up)
 cases k<;>simp only[AC,aJ,jc,aq,bj,mL,aK,aj,bK,bN,bO,oj,ob,ak,av,bp,ax,e1,e2,e3,aI,reduceCtorEq,aaC,aar,CQ,HE,ao,au,am,FC,IE,bZ,cb,nS,Oo,gc]<;>rfl
theorem Gp{k:Ak}{w:Wd}{a0 a1 a2 a3 a4 a5 a6 a7 a9 b1 b2 b3:Option D}:AB [a0,a1,a2,a3,a4,a5,a6,a7,U (.str k.s),a9,U w.d,b1,b2,b3] S=U ((gL k w).d,S):=by
 have e1:cy S w.d (.str "rising")=U (.bl (decide (w=.rising))):=mZ (b:=.rising)
 have ix:aA S (.lst [.str "out",.str "reads"]) (.int (if decide (w=.rising)=true then 1 else 0))=U (if w=.rising then Wd.reads else Wd.out).d:=by by_cases h:w=.rising<;>simp[h]<;>rfl
 have kd:∀ x,vg ([(.inr "up",.str "rising"),(.inr "down",.str "reads"),(.inr "leave",.str "out"),(.inr "stop",x)],S)=U (.dct ([((Sum.inr "up":bD),D.str "rising"),(.inr "down",.str "reads"),(.inr "leave",.str "out"),(.inr "stop",x)].map (·.1)) ([((Sum.inr "up":bD),D.str "rising"),(.inr "down",.str "reads"),(.inr "leave",.str "out"),(.inr "stop",x)].map (·.2)),S):=λx=>CS (show [(Sum.inr "up":bD),.inr "down",.inr "leave",.inr "stop"].Nodup by decide +kernel) (by show 4<=15;decide)
 have fx:∀ x,aA S (.dct ([((Sum.inr "up":bD),D.str "rising"),(.inr "down",.str "reads"),(.inr "leave",.str "out"),(.inr "stop",x)].map (·.1)) ([((Sum.inr "up":bD),D.str "rising"),(.inr "down",.str "reads"),(.inr "leave",.str "out"),(.inr "stop",x)].map (·.2))) (.str k.s)=U (match k with | .up=>.str "rising" | .down=>.str "reads" | .leave=>.str "out" | .stop=>x):=λx=>by
  rw[fIx_d Ag];cases k<;>simp (decide:=true) [Ak.s]
 simp only[AB,aJ,Hy,mK,bp,ob,FK,FJ,jc,aq,ao,au,am,GU,av,bZ,aj,bK,bN,bO,oj,ak,ax,e1,cb,nS,ix,oU,FI,kd,fx]
 cases k<;>rfl
def Ks{g:Nat}{R':Rm}{w:Wd}{a0 a2 a3 a4 a5 a6 a7 a8 b0 b1 b2 b3:Option D}(hw:R'.1[g]?=U w):Gq [a0,U (aP R'),a2,a3,a4,a5,a6,a7,a8,U (.int (g:Int)),b0,b1,b2,b3] S=U (.lst ((if w=.rising then [Ev.mk "waits" g] else []).map Ev.d),S):=by
 have x1:aA S (cF R'.1) (.int (g:Int))=U w.d:=xr hw
 have e1:cy S w.d (.str "rising")=U (.bl (decide (w=.rising))):=mZ (b:=.rising)
 simp only[Gq,aJ,jc,aq,bj,bp,ob,ao,aj,bK,bN,bO,oj,ak,au,am,FC,IE,av,bZ,ax,Rm.ix0,x1,e1,cb,nS,Oo]
 by_cases h:w=.rising<;>simp[h]<;>rfl
def Kt{g:Nat}{a0 a1 a2 a3 a5 a6 a7 a8 b0 b1 b2 b3:Option D}(hl:es.length<=100):Gs [a0,a1,a2,a3,U (esD es),a5,a6,a7,a8,U (.int (g:Int)),b0,b1,b2,b3] S=U (.lst ((es.filter λe=>decide (e.g≠g)).map En.d),S):=by
 simp only[Gs,bL,cV,aj,bK,bN,bO,oj,ob,ak,eD,LY (es:=es) (g:=g) (cap:=[Y,U 9]) (env:=[a0,a1,a2,a3,U (esD es),a5,a6,a7,a8,U (.int (g:Int)),b0,b1,b2,b3]) rfl hl]
theorem Xt{k:Ak}:pi S (.str k.s) (.tup [.str "down",.str "leave"])=U (.bl (decide (k=.down\/k=.leave))):=by
 have h:([D.str "down",D.str "leave"].any λd=>jd d (.str k.s))=decide (k=.down\/k=.leave):=by cases k<;>decide +kernel
 rw[jN (ys:=[.str "down",.str "leave"]) rfl rfl rfl,h]
def RM:(uz r w es).length=es.length:=by unfold uz;split<;>simp
theorem Pp{put:PF}(O:Yu can asked settled marked put){k:Ak}{g:Nat}{w:Wd}{a2 a5 a6 a7 b0 b1 b2 b3:Option D}(h:ROk R)(hl:R.1.length<=50)(hw:R.1[g]?=U w) :
  ∃ T,Pq settled marked put [U r.d,U (aP R),a2,U (cF R.1),U (esD R.2),a5,a6,a7,U (.str k.s),U (.int (g:Int)),b0,b1,b2,b3] S=U (.rt (.tup [aP (mr r R k g w).1,eE (mr r R k g w).2]) (S++T)):=by
 have hle:=h.len
 have hg:g<R.1.length:=(Yz.mp hw).1
 have x1:∀ S,aA S (cF R.1) (.int (g:Int))=U w.d:=λS=>xr hw
 have mk:∀ env S,env=[U r.d,U (aP R),a2,U (cF R.1),U (esD R.2),a5,a6,a7,U (.str k.s),U (.int (g:Int)),U w.d,U (.lst ((gc k g).map Ev.d)),b2,b3]->bY (aB (ay pi (af 8) (be (aa (mC (.str "down")) (aa (mC (.str "leave")) ai))))) (aX (aw 3 marked (aa (af 0) (aa (af 10) (aa (af 4) ai)))) (ah 4)) bn env S=U (.nx [U r.d,U (aP R),a2,U (cF R.1),U (esD (if k=.down\/k=.leave then uz r w R.2 else R.2)),a5,a6,a7,U (.str k.s),U (.int (g:Int)),U w.d,U (.lst ((gc k g).map Ev.d)),b2,b3] S):=λenv S he=>by
  subst he
  simp only[bt,aK,aJ,aj,bK,bN,bO,oj,ob,ak,av,bj,aq,bp,ao,au,am,FC,ax,Xt,aI]
  by_cases hk:k=.down\/k=.leave
  ·rw[YM hk,YR hk]
   simp only[bU,bu,aE,aq,aj,bK,bN,bO,oj,ob,ak,ao,au,am,ce,O.m S r w R.2 (by omega),bv,aZ,fL,gI,bP]
  ·rw[YK hk,if_neg hk]
   simp only[bS,bE]
 have hel:(if k=.down\/k=.leave then uz r w R.2 else R.2).length<=100:=by split<;>(try rw[RM])<;>omega
 have hA:=AT (r:=r) (k:=k) (w:=w) (g:=g) h (gL k w)
 have hO:=O.s S r (R.1.set g (gL k w),rM r k w g R.2) hA (by simp;exact hl)
 obtain⟨q1,q2⟩:=dD (r:=r) hA
 have qf:(aY r (R.1.set g (gL k w),rM r k w g R.2)).2.length<=100:=YW (nI _) (by show 2*(R.1.set g (gL k w)).length<=100;rw[abn];omega)
 have pp:∀ S,put [cF R.1,.int (g:Int),(gL k w).d] S=U (cF (R.1.set g (gL k w)),S):=λS=>O.p S R.1 g _ hg (by omega)
 unfold mr
 generalize hE:aY r (R.1.set g (gL k w),rM r k w g R.2)=A at *
 obtain⟨R',evs⟩:=A
 dsimp only at *
 have hg':g<R'.1.length:=by rw[q2,abn];exact hg
 have hw':R'.1[g]?=U R'.1[g]:=YG hg'
 have hO':settled [r.d,.tup [cF (R.1.set g (gL k w)),.tup (((if k=.down\/k=.leave then uz r w R.2 else R.2).filter λe=>decide (e.g≠g)).map En.d)]] S=U (.tup [aP R',.ref S.length],S++[.lst (evs.map Ev.d)]):=hO
 have fl:(gc k g).length<=1:=by cases k<;>simp[gc]
 have ad:=HU (S:=S) (k:=gc k g) (l:=evs) (by omega) (by omega)
 have ad2:aM (S++[.lst (evs.map Ev.d)]) (.lst ((gc k g++evs).map Ev.d)) (.lst ((if R'.1[g]=.rising then [Ev.mk "waits" g] else []).map Ev.d))=U (.lst ((gc k g++evs++(if R'.1[g]=.rising then [Ev.mk "waits" g] else [])).map Ev.d)):=by
  rw[ng (by rw[YE,YE,YQ];split<;>simp<;>omega),<- Zq]
 refine⟨[.lst (evs.map Ev.d)],?_⟩
 rw[hw']
 simp only[Pq,aS,bu,aJ,aj,bK,bN,bO,oj,ob,ak,av,ax,x1,bv,aZ,fL,gI,bP,aH,Gv,mk _ _ rfl,bZ,aq,Kt hel,ao,au,am,cb,fN,Gp,aE,bj,ce,pp,FC,ba,hO',cE,bF,dc,ci,Ks hw',aV,ad,ad2,bC,ZW]
 rfl
def xI{S:ac}:pi S (.str "rising") (cF ws)=U (.bl (decide (Wd.rising∈ws))):=by
 rw[jN (ys:=ws.map Wd.d) rfl rfl Wf]
 congr 2
 rw[abo]
 induction ws with
 | nil=>rfl
 | cons a l ih=>
  rw[ZZ,ih]
  show(jd a.d (Wd.rising).d||_)=_
  rw[Xw,Zm]
  simp
  constructor
  ·rintro(h | h)
   ·exact .inl h.symm
   ·exact .inr h
  ·rintro(h | h)
   ·exact .inl h.symm
   ·exact .inr h
theorem DF{dd:Dd}(h:dd≠.tick):(gf dd==("tick":Str))=false:=by
 cases dd with
 | tick=>exact absurd rfl h
 | ask wr g t=>show(bA wr==("tick":Str))=false;cases wr<;>decide +kernel
 | act k g=>show(k.s==("tick":Str))=false;cases k<;>decide +kernel
def Ow{b:Bool}(hb:([D.str "read",D.str "write"].any λd=>jd d (.str x))=b):pi S (.str x) (.tup [.str "read",.str "write"])=U (.bl b):=by
 rw[jN (ys:=[.str "read",.str "write"]) rfl rfl rfl,hb]
noncomputable def oG:Option (Rm×List Ev)->D
 | none=>.non
 | some x=>.tup [aP x.1,eE x.2]
theorem Po{put:PF}(O:Yu can asked settled marked put){N:List Str}(hN:N.length=14){dd:Dd}(h:ROk R)(hl:R.1.length<=50)(hd:dd.Ok R.1.length) :
  ∃ T,aQ N (ky can asked settled marked put) 3 [r.d,aP R,dd.d] S=U (oG (hZ r R dd),S++T):=by
 have hst:az N [r.d,aP R,dd.d]=[U r.d,U (aP R),U dd.d,Y,Y,Y,Y,Y,Y,Y,Y,Y,Y,Y]:=by simp[az,hN,adg]
 rw[bg (show [r.d,aP R,dd.d].length=3 from rfl),hst]
 have hle:=h.len
 obtain⟨T0,hc⟩:=O.c S R dd (by omega) hd
 have g2:∀ env S,bi 2 (ag (ah 3) (ag (ah 4) aW)) (aP R) env S=(ag (ah 3) (ag (ah 4) aW)) [cF R.1,esD R.2] env S:=λenv S=>cE
 unfold hZ
 cases hb:dP R dd with
 | false=>
  rw[hb] at hc
  refine⟨T0,?_⟩
  simp only[ky,aS,bt,fK,df,aE,aq,aj,bK,bN,bO,oj,ob,ak,ao,au,am,ba,hc,dH,fM,Zo,bU,aV,bp,bC,bW,aO,YR,oG]
 | true=>
  rw[hb] at hc
  rw[if_neg (by decide)]
  by_cases ht:dd=.tick
  ·subst ht
   have xt:∀ S,aA S (Dd.tick).d (.int 0)=U (.str "tick"):=λS=>rfl
   have et:∀ S,cy S (.str "tick") (.str "tick")=U (.bl true):=λS=>by rw[cN,beq_self_eq_true]
   obtain⟨T,_,e⟩:=Kr O.s (S:=S++T0) (r:=r) (R:=R) (a2:=U (Dd.tick).d) (a5:=Y) (a6:=Y) (a7:=Y) (a8:=Y) (a9:=Y) (b0:=Y) (b1:=Y) (b2:=Y) (b3:=Y) h hl
   refine⟨T0++T,?_⟩
   simp only[ky,aS,bt,fK,df,aE,aq,aj,bK,bN,bO,oj,ob,ak,ao,au,am,ba,hc,dH,fM,Zk,bS,bE,aH,bu,bv,g2,bF,aZ,dc,ci,fL,gI,bP,aK,aJ,av,bp,ax,xt,et,aI,bU,e,bW,aO,Ze,oG]
  ·have et0:=DF ht
   cases dd with
   | tick=>exact absurd rfl ht
   | ask wr g t=>
    have x0:∀ S,aA S (Dd.ask wr g t).d (.int 0)=U (.str (bA wr)):=λS=>rfl
    have et:∀ S,cy S (.str (bA wr)) (.str "tick")=U (.bl false):=λS=>by rw[cN];exact congrArg (λb=>U (D.bl b)) et0
    have sl:∀ S,kf (Dd.ask wr g t).d Y (U 2,S)=U (.tup [.str (bA wr),.int (g:Int)],S):=λS=>rfl
    simp only[dP,YD,ZO,Bool.not_eq_true'] at hb
    obtain⟨T,e⟩:=O.a (S++T0) r R wr g t h hl hb.1 hb.2
    have fi:∀ S,pi S (.str (bA wr)) (.tup [.str "read",.str "write"])=U (.bl true):=λS=>Ow (by cases wr<;>decide +kernel)
    refine⟨T0++T,?_⟩
    simp only[ky,aS,bt,fK,df,aE,aq,aj,bK,bN,bO,oj,ob,ak,ao,au,am,ba,hc,dH,fM,Zk,bS,bE,aH,bu,bv,g2,bF,aZ,dc,ci,fL,gI,bP,aK,aJ,av,bp,ax,x0,et,aI,cO,fZ,cU,fY,dF,dI,sl,cE,bj,FC,fi,bU,aV,ce,e,bC,bW,aO,Ze,oG]
   | act k g=>
    have x0:∀ S,aA S (Dd.act k g).d (.int 0)=U (.str k.s):=λS=>rfl
    have et:∀ S,cy S (.str k.s) (.str "tick")=U (.bl false):=λS=>by rw[cN];exact congrArg (λb=>U (D.bl b)) et0
    have sl:∀ S,kf (Dd.act k g).d Y (U 2,S)=U (.tup [.str k.s,.int (g:Int)],S):=λS=>rfl
    have fi:∀ S,pi S (.str k.s) (.tup [.str "read",.str "write"])=U (.bl false):=λS=>Ow (by cases k<;>decide +kernel)
    have fu:∀ S,cy S (.str k.s) (.str "up")=U (.bl (decide (k=.up))):=λS=>As (j:=.up)
    have fc:(r.c==0)=decide (r.c=0):=rfl
    have hg:g<R.1.length:=hd
    have hw:R.1[g]?=U R.1[g]:=YG hg
    have ev1:D.tup [.tup [.str "no",.int (g:Int)]]=eE [⟨"no",g⟩]:=rfl
    obtain⟨T,e⟩:=Pp O (S:=S++T0) (r:=r) (R:=R) (k:=k) (g:=g) (a2:=U (Dd.act k g).d) (a5:=Y) (a6:=Y) (a7:=Y) (b0:=Y) (b1:=Y) (b2:=Y) (b3:=Y) h hl hw
    by_cases hu:k=.up/\(r.c=0\/Wd.rising∈R.1)
    ·refine⟨T0,?_⟩
     dsimp only
     rw[YR hu]
     have hu1:=YM hu.1
     by_cases hz:r.c=0
     ·simp only[ky,aS,bt,fK,df,aE,aq,aj,bK,bN,bO,oj,ob,ak,ao,au,am,ba,hc,dH,fM,Zk,bS,bE,aH,bu,bv,g2,bF,aZ,dc,ci,fL,gI,bP,aK,aJ,av,bp,ax,x0,et,aI,cO,fZ,cU,fY,dF,dI,sl,cE,bj,FC,fi,qb,fu,hu1,qj,iC,Rl.ix3,lU,fc,YM hz,vc,bU,aV,Hz,bC,bW,aO,oG,ev1]
     ·have hr:Wd.rising∈R.1:=hu.2.resolve_left hz
      simp only[ky,aS,bt,fK,df,aE,aq,aj,bK,bN,bO,oj,ob,ak,ao,au,am,ba,hc,dH,fM,Zk,bS,bE,aH,bu,bv,g2,bF,aZ,dc,ci,fL,gI,bP,aK,aJ,av,bp,ax,x0,et,aI,cO,fZ,cU,fY,dF,dI,sl,cE,bj,FC,fi,qb,fu,hu1,qj,iC,Rl.ix3,lU,fc,YK hz,lQ,xI,YM hr,bU,aV,Hz,bC,bW,aO,oG,ev1]
    ·refine⟨T0++T,?_⟩
     dsimp only
     rw[if_neg hu,hw]
     dsimp only
     have tst:∀ (T:ac) (a5 a6 a7 b0 b1 b2 b3:Option D),du (aB (ay cy (af 8) (mC (.str "up")))) (gH (aB (ay cy (ay aA (af 0) (mC (.int 3))) (mC (.int 0)))) (aB (ay pi (mC (.str "rising")) (af 3)))) [U r.d,U (aP R),U (Dd.act k g).d,U (cF R.1),U (esD R.2),a5,a6,a7,U (.str k.s),U (.int (g:Int)),b0,b1,b2,b3] T=U (false,T):=λT a5 a6 a7 b0 b1 b2 b3=>by
      simp only[qb,aK,aJ,aj,bK,bN,bO,oj,ob,ak,av,bp,ax,fu,aI]
      by_cases hk:k=.up
      ·have hz:¬ r.c=0:=λz=>hu ⟨hk,.inl z⟩
       have hr:¬ Wd.rising∈R.1:=λz=>hu ⟨hk,.inr z⟩
       rw[YM hk]
       simp only[qj,iC,aK,aJ,aj,bK,bN,bO,oj,ob,ak,av,bp,ax,Rl.ix3,lU,fc,YK hz,aI,lQ,xI,YK hr]
      ·rw[YK hk,HH]
     simp only[ky,aS,bt,fK,df,aE,aq,aj,bK,bN,bO,oj,ob,ak,ao,au,am,ba,hc,dH,fM,Zk,bS,bE,aH,bu,bv,g2,bF,aZ,dc,ci,fL,gI,bP,aK,aJ,av,bp,ax,x0,et,aI,cO,fZ,cU,fY,dF,dI,sl,cE,bj,FC,fi,tst,e,aO,Ze,oG]
end
def Grow(r:Nat)(S S':ac):Prop:=S.length<=S'.length/\∀ j,j<S.length->j≠r->S'[j]?=S[j]?
def Grow.of(h:Keep r S S'):Grow r S S':=⟨abJ h.2.symm,λj _ hj=>h.1 j hj⟩
theorem Grow.trans(h:Grow r S S')(h':Grow r S' S''):Grow r S S'':=⟨YW h.1 h'.1,λj hj hr=>(h'.2 j (YV hj h.1) hr).trans (h.2 j hj hr)⟩
def Pk.appT{T:ac}(h:Pk S r):Pk (S++T) r:=by
 obtain⟨a,b,d,h,z⟩:=h
 exact⟨a,b,d,by rw[Za (Yz.mp h).1];exact h,z⟩
def Pk.lt(h:Pk S r):r<S.length:=by
 obtain⟨a,b,d,h,z⟩:=h
 exact(Yz.mp h).1
theorem Do{α:Type}{x:α}:∀ n:Nat,(adg n [x]).flatten=adg n x
 | 0=>rfl
 | n+1=>by rw[Zc,ZK,Do n,Zc];rfl
def zl(deed done:PF):MS:=aF (aX (aw 2 deed (aa (af 0) (aa (af 2) ai))) (ah 7)) (aF (aX (aw 3 done (aa (af 1) (aa (af 4) (aa (af 7) ai)))) (ah 8)) (bY (aB (ay ph (af 8) (mC .non))) (aF (fo (fz ej (af 5) (aa (af 7) ai))) (aX (ay aA (af 8) (mC (.int 0))) (ah 4))) bn))
def FF(deed done:PF):MS:=
 aF (aX (be (aa (ay cH (be (aa (mC (.str "out")) ai)) (af 2)) (aa (be ai) ai))) (ah 4)) (aF (aX (gR ai) (ah 5)) (aF (lg (bV (aa (af 3) ai)) (ah 6) (zl deed done)) (bq (be (aa (bw (aU (cR .tup)) (aa (af 5) ai)) (aa (af 4) ai))))))
structure UZ(deed done:PF):Prop where
 de:∀ (S:ac) (r n:Nat),Pk S r->1<=n->n<=5->∃ (dd:Dd) (S':ac),deed [.ref r,.int (n:Int)] S=U (dd.d,S')/\dd.Ok n/\Pk S' r/\Keep r S S'
 dn:∀ (S:ac) (rl:Rl) (R:Rm) (dd:Dd),ROk R->R.1.length<=50->dd.Ok R.1.length->∃ T,done [rl.d,aP R,dd.d] S=U (oG (hZ rl R dd),S++T)
noncomputable def kT(n:Nat):Rm:=(adg n .out,[])
def Ko:ROk (kT n):=⟨λe h=>by simp[kT] at h,by simp[kT]⟩
inductive Behind(r:Rl)(n:Nat):List Dd->Rm->Prop
 | nil:Behind r n [] (kT n)
 | snoc {l:List Dd} {R:Rm} {d:Dd} {x:Rm×List Ev} (h:Behind r n l R) (hd:d.Ok n) (e:hZ r R d=U x):Behind r n (l++[d]) x.1
def Behind.ok(h:Behind r n l R):ROk R/\R.1.length=n:=by
 induction h with
 | nil=>exact⟨Ko,by simp[kT]⟩
 | snoc h hd e ih=>obtain⟨a,b⟩:=Dy ih.1 e;exact⟨a,b.trans ih.2⟩
theorem QL(O:UZ deed done){n m:Nat}{rl:Rl}{N:List Str}(hN:N.length=9)(P:Pk S r)(h1:1<=n)(h5:n<=5)(hm:m<=400) :
  ∃ (l:List Dd) (R:Rm) (S':ac),aQ N (FF deed done) 4 [.ref r,rl.d,.int (n:Int),.int (m:Int)] S=U (.tup [.tup (l.map Dd.d),aP R],S')/\Behind rl n l R/\l.length<=m/\Pk S' r/\Grow r S S':=by
 have hst:az N [D.ref r,rl.d,D.int (n:Int),D.int (m:Int)]=[U (.ref r),U rl.d,U (.int (n:Int)),U (.int (m:Int)),Y,Y,Y,Y,Y]:=by simp[az,hN,adg]
 rw[bg (show [D.ref r,rl.d,D.int (n:Int),D.int (m:Int)].length=4 from rfl),hst]
 have hq:S.length≠r:=λz=>by have:=P.lt;omega
 have k0:∀ S,cz ([],S)=U (.tup [],S):=λS=>aT (by simp)
 have kl:yf ([],S)=U (.ref S.length,S++[.lst []]):=qg (by simp)
 have mu:∀ S,cH S (.tup [.str "out"]) (.int (n:Int))=U (cF (kT n).1):=λS=>by
  rw[HQ (by omega) (by omega) (by simp;omega),ZQ]
  show U (D.tup _)=U (D.tup ((adg n Wd.out).map Wd.d))
  congr 2
  rw[List.map_replicate,Do];rfl
 have kr:∀ S,ND ([.int (m:Int)],S)=U (cw 0 m,S):=λS=>by rw[lP (by omega) (by omega),ZQ]
 obtain⟨env',S',e2,R,l,o6,o7,o8,rfl,P3,hc,B,hle,hz,fr⟩:=Xf (tg:=ah 6) (p:=zl deed done) (lo:=0) (λi env T=>∃ (R:Rm) (l:List Dd) (o6 o7 o8:Option D),env=[U (.ref r),U rl.d,U (.int (n:Int)),U (.int (m:Int)),U (aP R),U (.ref S.length),o6,o7,o8]/\Pk T r/\T[S.length]?=U (.lst (l.map Dd.d))/\Behind rl n l R/\l.length<=i/\S.length<=T.length/\∀ j,j≠r->j<S.length->T[j]?=S[j]?) m
  (λi hi env T hI=>by
   obtain⟨R,l,o6,o7,o8,rfl,P,hc,B,hle,hz,fr⟩:=hI
   obtain⟨ok,hn⟩:=B.ok
   obtain⟨dd,S1,e1,od,P1,K1⟩:=O.de T r n P h1 h5
   obtain⟨T2,e3⟩:=O.dn S1 rl R dd ok (by omega) (by rw[hn];exact od)
   have hql:S.length<T.length:=(Yz.mp hc).1
   have c1:(S1++T2)[S.length]?=U (.lst (l.map Dd.d)):=by
    rw[Za (by rw[K1.2];exact hql),K1.1 _ hq,hc]
   have fr1:∀ j,j≠r->j<S.length->(S1++T2)[j]?=S[j]?:=λj jr jl=>by
    rw[Za (by rw[K1.2];omega),K1.1 j jr,fr j jr jl]
   cases hd:hZ rl R dd with
   | none=>
    rw[hd] at e3
    have e3':done [rl.d,aP R,dd.d] S1=U (.non,S1++T2):=e3
    refine⟨_,_,_,_,aZ,?_,R,l,U (.int (0+(i:Int))),U dd.d,U .non,rfl,P1.appT,c1,B,by omega,by simp;rw[K1.2];omega,fr1⟩
    simp only[zl,aS,bu,aE,aq,aj,bK,bN,bO,oj,ob,ak,ao,au,am,ba,e1,bv,aZ,fL,gI,bP,aH,ce,e3',bt,aK,aJ,av,bp,ax,qx,nQ,Zk,aI,bS,bE]
   | some x=>
    rw[hd] at e3
    have e3':done [rl.d,aP R,dd.d] S1=U (.tup [aP x.1,eE x.2],S1++T2):=e3
    have ap:ej (.ref S.length) [dd.d] (S1++T2)=U (.non,(S1++T2).set S.length (.lst ((l++[dd]).map Dd.d))):=by
     rw[yz c1 (by rw[YE];omega)];simp
    have km:∀ f ms env,rY f ms env (.ref S.length,S1++T2)=(ms env (S1++T2)).bind (eH f (.ref S.length)):=λf ms env=>Ai c1
    have hql2:S.length<(S1++T2).length:=(Yz.mp c1).1
    refine⟨_,_,_,_,aZ,?_,x.1,l++[dd],U (.int (0+(i:Int))),U dd.d,U (.tup [aP x.1,eE x.2]),rfl,?_,Zg hql2,B.snoc od hd,by simp;omega,by rw[abn];omega,λj jr jl=>?_⟩
    ·simp only[zl,aS,bu,aE,aq,aj,bK,bN,bO,oj,ob,ak,ao,au,am,ba,e1,bv,aZ,fL,gI,bP,aH,ce,e3',bt,aK,aJ,av,bp,ax,qx,nQ,Zo,aI,bU,nK,nJ,km,gW,ap,nP,UN,at2]
    ·obtain⟨a,b,c,h,z⟩:=P1.appT (T:=T2)
     exact⟨a,b,c,by rw[Zf hq];exact h,z⟩
    ·rw[Zf (by omega)];exact fr1 j jr jl)
  [U (.ref r),U rl.d,U (.int (n:Int)),U (.int (m:Int)),U (aP (kT n)),U (.ref S.length),Y,Y,Y] (S++[.lst []]) ⟨kT n,[],Y,Y,Y,rfl,P.appT,by simp,.nil,YL _,by simp,λj _ jl=>Za jl⟩
 have fe:aU (cR .tup) [.ref S.length] S'=U (.tup (l.map Dd.d),S'):=yx hc
 refine⟨l,R,S',?_,B,hle,P3,⟨hz,λj jl jr=>fr j jr jl⟩⟩
 have er:∀ S,cz ([cF (kT n).1,.tup []],S)=U (aP (kT n),S):=λS=>FC S _ _
 simp only[FF,aS,bu,bj,aq,aJ,bp,ob,ao,au,am,Hz,av,aj,bK,bN,bO,oj,ak,ax,mu,k0,er,bv,aZ,fL,gI,bP,aH,zX,kl,uT,fg,kr,vf,e2,aV,bZ,cb,fe,FC,bC,aO]
section
variable{α:Type}{enc:α->D}{p:Nat->α->Bool}{f:Nat->α->D}{t:MT}{e:ME}{rest:bh}{S:ac}
theorem PP:∀ (xs:List α) (k:Nat) (a b:Option D),(∀ i x,xs[i]?=U x->t (U (.int ((k+i:Nat):Int))::U (enc x)::rest) S=U (p (k+i) x,S))->(∀ i x,xs[i]?=U x->e (U (.int ((k+i:Nat):Int))::U (enc x)::rest) S=U (f (k+i) x,S))->dr (bi 2 (ag (ah 0) (ag (ah 1) aW))) t e (fE k (xs.map enc)) (a::b::rest) S=U (((xs.zipIdx k).filter λq=>p q.2 q.1).map λq=>f q.2 q.1,S)
 | [],k,a,b,_,_=>by simp[fE]
 | x::r,k,a,b,h,h2=>by
  have ih:=PP r (k+1) (U (.int (k:Int))) (U (enc x)) (λi y hy=>by
   have:=h (i+1) y (by simpa using hy)
   rw[show k+(i+1)=k+1+i by omega] at this
   exact this) (λi y hy=>by
   have:=h2 (i+1) y (by simpa using hy)
   rw[show k+(i+1)=k+1+i by omega] at this
   exact this)
  have h0:=h 0 x rfl
  have h20:=h2 0 x rfl
  rw[acw] at h0 h20
  rw[YJ,fE,gB,cE,bF,aZ,ob,fL,dc,bF,aZ,ob,gI,fL,dc,ci,ob,vk,h0,ob,aal]
  cases hp:p k x with
  | true=>
   rw[vj,h20,ob,vi,ih,ob,vh,aaH (p:=λq:α×Nat=>p q.2 q.1) (a:=(x,k)) hp,YJ]
  | false=>rw[Am,ih,aaI (p:=λq:α×Nat=>p q.2 q.1) (a:=(x,k)) (by simp[hp])]
def RT{a b:Option D}{xs:List α}(hc:vZ cap env=a::b::rest)(hl:xs.length<=1000)(h:∀ (i:Nat) x,xs[i]?=U x->t (U (.int (i:Int))::U (enc x)::rest) S=U (p i x,S))(h2:∀ (i:Nat) x,xs[i]?=U x->e (U (.int (i:Int))::U (enc x)::rest) S=U (f i x,S)) :
  mP (bi 2 (ag (ah 0) (ag (ah 1) aW))) t e cap env (fE 0 (xs.map enc),S)=U (.lst ((xs.zipIdx.filter λq=>p q.2 q.1).map λq=>f q.2 q.1),S):=by
 rw[jC (by rw[nV,YE];exact hl),hc,PP xs 0 a b (λi x hx=>by rw[abm];exact h i x hx) (λi x hx=>by rw[abm];exact h2 i x hx),ob,lm]
end
noncomputable def tB(p:Wd->Bool)(ws:List Wd):List Nat:=(ws.zipIdx.filter λq=>p q.1).map (·.2)
def mem_zi{α:Type}{xs:List α}{x:α}{i:Nat}:(x,i)∈xs.zipIdx↔xs[i]?=U x:=by
 rw[List.mem_zipIdx_iff_getElem?]
def mem_ixW{i:Nat}:i∈tB p ws↔∃ w,ws[i]?=U w/\p w=true:=by
 unfold tB
 rw[Zb]
 constructor
 ·rintro⟨⟨w,j⟩,h,rfl⟩
  obtain⟨h1,h2⟩:=Zx.mp h
  exact⟨w,mem_zi.mp h1,h2⟩
 ·rintro⟨w,h1,h2⟩
  exact⟨(w,i),Zx.mpr ⟨mem_zi.mpr h1,h2⟩,rfl⟩
noncomputable def nt(l:List Nat):D:=.tup (l.map ni)
def Si{p:Wd->Bool}{ws:List Wd}:D.lst ((ws.zipIdx.filter λq=>p q.1).map λq=>.int (q.2:Int))=nl (tB p ws):=by
 unfold nl tB ni;rw[ZA];rfl
def EN:MS:=bq (bw (aU (cR .tup)) (aa (bH (gS (aa (ay aA (af 0) (mC (.int 0))) ai)) (bi 2 (ag (ah 0) (ag (ah 1) aW))) (aB (ay pi (af 1) (af 2))) (af 0) [Y,Y,U 1]) ai))
def GQ{S:ac}:HF ([cF ws],S)=U (fE 0 (ws.map Wd.d),S):=rfl
def Xr{w:Wd}:pi S w.d (cF l)=U (.bl (decide (w∈l))):=by
 rw[jN (ys:=l.map Wd.d) rfl rfl Wf]
 congr 2
 rw[abo]
 induction l with
 | nil=>rfl
 | cons a l ih=>
  rw[ZZ,ih]
  show(jd a.d w.d||_)=_
  rw[Xw,Zm]
  simp
  constructor
  ·rintro(h | h)
   ·exact .inl h.symm
   ·exact .inr h
  ·rintro(h | h)
   ·exact .inl h.symm
   ·exact .inr h
theorem WY{N:List Str}(hN:N.length=2){R:Rm}(hl:R.1.length<=100):aQ N EN 2 [aP R,cF l] S=U (nt (tB (λw=>decide (w∈l)) R.1),S):=by
 have hst:az N [aP R,cF l]=[U (aP R),U (cF l)]:=by simp[az,hN]
 rw[bg (show [aP R,cF l].length=2 from rfl),hst]
 have k:=Ah (S:=S) (t:=aB (ay pi (af 1) (af 2))) (cap:=[Y,Y,U 1]) (env:=[U (aP R),U (cF l)]) (rest:=[U (cF l)]) (a:=Y) (b:=Y) (enc:=Wd.d) (p:=λw=>decide (w∈l)) (xs:=R.1) rfl (by omega) (λi x _=>by simp only[aK,aJ,aj,bK,bN,bO,oj,ob,ak,av,ax,Xr,aI])
 rw[Si (p:=λw=>decide (w∈l))] at k
 have fs:aU (cR .tup) [nl (tB (λw=>decide (w∈l)) R.1)] S=U (nt (tB (λw=>decide (w∈l)) R.1),S):=fN
 simp only[EN,aV,bZ,aq,bL,pZ,aJ,aj,bK,bN,bO,oj,ob,ak,av,bp,ax,Rm.ix0,ao,au,am,GQ,k,cb,fs,bC,aO]
noncomputable def kh(R:Rm)(g:Nat):D:=if R.1[g]?=U .rising then .str "up" else match R.2.find? λe=>decide (e.g=g) with
 | some e=>.str (bA e.wr)
 | none=>.non
def my:MS:=bY (aB (ay cy (ay aA (af 2) (mC (.int 0))) (af 1))) (bq (ay aA (af 2) (mC (.int 1)))) bn
def mB(gw:PF):MS:=aF (bY (aB (ay pi (af 1) (aw 2 gw (aa (af 0) (aa (be (aa (mC (.str "rising")) ai)) ai))))) (bq (mC (.str "up"))) bn) (aF (gA (ay aA (af 0) (mC (.int 1))) (ah 2) my) (bq (mC .non)))
def Qk(gw:PF):Prop:=∀ (S:ac) (R:Rm) (l:List Wd),R.1.length<=100->gw [aP R,cF l] S=U (nt (tB (λw=>decide (w∈l)) R.1),S)
theorem Xs{g:Nat}:pi S (.int (g:Int)) (nt l)=U (.bl (decide (g∈l))):=by
 rw[jN (ys:=l.map ni) rfl rfl (by rw[YO];intro d hd;obtain⟨i,_,rfl⟩:=Zb.mp hd;rfl)]
 congr 2
 rw[abo]
 induction l with
 | nil=>rfl
 | cons a l ih=>
  rw[ZZ,ih]
  show(((a:Int)==(g:Int))||_)=_
  rw[Zm]
  simp
  constructor
  ·rintro(h | h)
   ·exact .inl (by omega)
   ·exact .inr h
  ·rintro(h | h)
   ·exact .inl (by omega)
   ·exact .inr h
theorem xu{g:Nat}:∀ (es:List En) (a:Option D),cK (ah 2) my (es.map En.d) [U (aP R),U (.int (g:Int)),a] S=(match es.find? λe=>decide (e.g=g) with | some e=>U (.rt (.str (bA e.wr)) S) | none=>U (.nx [U (aP R),U (.int (g:Int)),match es.getLast? with | some e=>U e.d | none=>a] S))
 | [],a=>by simp
 | e::l,a=>by
  have ih:=xu (S:=S) (R:=R) (g:=g) l (U e.d)
  have c:((e.g:Int)==(g:Int))=decide (e.g=g):=by rw[Zm];simp;omega
  rw[YJ,fW,aZ,ob,gI,gI,fL,oY]
  simp only[my,bt,aK,aJ,aj,bK,bN,bO,oj,ob,ak,av,bp,ax,En.ix0,lU,c,aI,ZC]
  cases hd:decide (e.g=g) with
  | true=>simp only[bU,aV,aJ,aj,bK,bN,bO,oj,ob,ak,av,bp,ax,En.ix1,bC,HD]
  | false=>
   rw[bS,bE,ob,nO]
   show cK (ah 2) my _ _ _=_
   rw[ih]
   cases hf:l.find? λe=>decide (e.g=g) with
   | some x=>rfl
   | none=>
    dsimp only
    congr 4
    cases l with
    | nil=>rfl
    | cons y l=>rw[List.getLast?_cons_cons];cases hh:(y::l).getLast? with
     | none=>simp at hh
     | some z=>rfl
def Lm(O:Qk gw){N:List Str}(hN:N.length=3){R:Rm}{g:Nat}(hl:R.1.length<=100):aQ N (mB gw) 2 [aP R,.int (g:Int)] S=U (kh R g,S):=by
 have hst:az N [aP R,.int (g:Int)]=[U (aP R),U (.int (g:Int)),Y]:=by simp[az,hN,adg]
 rw[bg (show [aP R,D.int (g:Int)].length=2 from rfl),hst]
 have o1:gw [aP R,.tup [.str "rising"]] S=U (nt (tB (λw=>decide (w∈[Wd.rising])) R.1),S):=O S R [.rising] hl
 have k1:cz ([.str "rising"],S)=U (.tup [.str "rising"],S):=aT (by simp)
 have mm:decide (g∈tB (λw=>decide (w∈[Wd.rising])) R.1)=decide (R.1[g]?=U .rising):=by
  rw[decide_eq_decide,mem_ixW]
  constructor
  ·rintro⟨w,h1,h2⟩;rw[h1];simpa using h2
  ·intro h;exact⟨.rising,h,by simp⟩
 have ek:qh (ah 2) my [U (aP R),U (.int (g:Int)),Y] (esD R.2,S)=cK (ah 2) my (R.2.map En.d) [U (aP R),U (.int (g:Int)),Y] S:=rfl
 simp only[mB,aS,bt,aK,aJ,aj,bK,bN,bO,oj,ob,ak,av,aE,aq,ao,bj,bp,au,am,k1,ba,o1,ax,Xs,mm,aI]
 unfold kh
 by_cases h:R.1[g]?=U .rising
 ·rw[YM h,YR h];simp
 ·rw[YK h,if_neg h]
  simp only[bS,bE,ob,aH,aS,pY,aJ,aj,bK,bN,bO,oj,ak,av,bp,ax,Rm.ix1,ek,xu]
  cases R.2.find? λe=>decide (e.g=g) with
  | some e=>simp
  | none=>simp
noncomputable def cG(ws:List Wd)(g:Nat):List Wd:=(ws.zipIdx.filter λq=>!decide (q.1=.out)&&!decide (q.2=g)).map (·.1)
noncomputable def dO(r:Rl)(R:Rm)(g:Nat):Bool:=
 if R.1[g]?=U .rising then(cG R.1 g).isEmpty else match R.2.find? λe=>decide (e.g=g) with
 | none=>false
 | some e=>if e.wr then(cG R.1 g).isEmpty else(cG R.1 g).all (λw=>decide (w=.reads))&&(decide (r.a=0)||decide (((cG R.1 g).length:Int)<r.a))
def vX:ME:=bH (gS (aa (ay aA (af 1) (mC (.int 0))) ai)) (bi 2 (ag (ah 0) (ag (ah 1) aW))) (du (aB (ay jo (af 1) (mC (.str "out")))) (aB (ay jo (af 0) (af 2)))) (af 1) [Y,Y,U 2]
def PU:ME:=bH (dq (af 4)) (ah 0) bQ (ay cy (af 0) (mC (.str "reads"))) [Y]
def gy(wait:PF):MS:=
 aF (aX (aw 2 wait (aa (af 1) (aa (af 2) ai))) (ah 3)) (aF (bY (aB (ay Ee (af 3) (mC .non))) (bq (mC (.bl false))) bn) (aF (aX vX (ah 4)) (aF (bY (aB (ay jo (af 3) (mC (.str "read")))) (bq (iK (af 4))) bn) (aF (aX (ay aA (af 0) (mC (.int 1))) (ah 5)) (bq (ft (bw (aU vP) (aa PU ai)) (zV (ay cy (af 5) (mC (.int 0))) (ay SC (bw (aU iF) (aa (af 4) ai)) (af 5)))))))))
def rN(wait:PF):Prop:=∀ (S:ac) (R:Rm) (g:Nat),R.1.length<=100->wait [aP R,.int (g:Int)] S=U (kh R g,S)
section
variable{S:ac}{R:Rm}{r:Rl}{g:Nat}
theorem ny{a0 a3 a4 a5:Option D}(hl:R.1.length<=100):vX [a0,U (aP R),U (.int (g:Int)),a3,a4,a5] S=U (.lst ((cG R.1 g).map Wd.d),S):=by
 have k:=RT (S:=S) (t:=du (aB (ay jo (af 1) (mC (.str "out")))) (aB (ay jo (af 0) (af 2)))) (e:=af 1) (cap:=[Y,Y,U 2]) (env:=[a0,U (aP R),U (.int (g:Int)),a3,a4,a5]) (rest:=[U (.int (g:Int))]) (a:=Y) (b:=Y) (enc:=Wd.d) (p:=λi w=>!decide (w=.out)&&!decide (i=g)) (f:=λ_ w=>w.d) (xs:=R.1) rfl (by omega) (λi w _=>by
  have e1:jo S w.d (.str "out")=U (.bl (!decide (w=.out))):=vM (b:=.out)
  have c:((i:Int)==(g:Int))=decide (i=g):=by rw[Zm];simp;omega
  simp only[qb,aK,aJ,aj,bK,bN,bO,oj,ob,ak,av,bp,ax,e1,aI]
  cases hd:decide (w=.out) with
  | true=>simp
  | false=>simp only[Zo,qj,aK,aJ,aj,bK,bN,bO,oj,ob,ak,av,ax,On,c,aI,abA]) (λi w _=>by simp)
 simp only[vX,bL,pZ,aq,aJ,aj,bK,bN,bO,oj,ob,ak,av,bp,ax,Rm.ix0,ao,au,am,GQ,k]
 unfold cG
 rw[ZA];rfl
theorem wc{α:Type}{p:α->Bool}:∀ l:List α,iG (l.map λx=>D.bl (p x))=U (l.map p)
 | []=>rfl
 | x::l=>by
  have:=wc (p:=p) l
  rw[YJ,YJ]
  simp only[iG,this];rfl
theorem PR{l:List Wd}{a0 a1 a2 a3 a5:Option D}(hl:l.length<=100):PU [a0,a1,a2,a3,U (.lst (l.map Wd.d)),a5] S=U (.lst (l.map λw=>.bl (decide (w=.reads))),S):=by
 have k:=dw (S:=S) (t:=bQ) (e:=ay cy (af 0) (mC (.str "reads"))) (cap:=[Y]) (env:=[a0,a1,a2,a3,U (.lst (l.map Wd.d)),a5]) (rest:=[]) (a:=Y) (enc:=Wd.d) (p:=λ_=>true) (f:=λw=>.bl (decide (w=.reads))) (xs:=l) rfl (by omega) (λx _=>gQ) (λx _ _=>by
  have e1:cy S x.d (.str "reads")=U (.bl (decide (x=.reads))):=mZ (b:=.reads)
  simp only[aJ,aj,bK,oj,ob,ak,av,bp,ax,e1])
 rw[Zu.mpr (λ_ _=>rfl)] at k
 simp only[PU,bL,cV,aj,bK,bN,bO,oj,ob,ak,oZ,k]
def TM:(cG R.1 g).length<=R.1.length:=by
 unfold cG;rw[YE];exact YW (Zt _ _) (by simp)
theorem KF(O:rN wait){N:List Str}(hN:N.length=6)(hl:R.1.length<=100):aQ N (gy wait) 3 [r.d,aP R,.int (g:Int)] S=U (.bl (dO r R g),S):=by
 have hst:az N [r.d,aP R,.int (g:Int)]=[U r.d,U (aP R),U (.int (g:Int)),Y,Y,Y]:=by simp[az,hN,adg]
 rw[bg (show [r.d,aP R,D.int (g:Int)].length=3 from rfl),hst]
 have bl:=TM (R:=R) (g:=g)
 unfold dO
 have e1:=O S R g hl
 have fa:aU vP [.lst ((cG R.1 g).map λw=>.bl (decide (w=.reads)))] S=U (.bl ((cG R.1 g).all λw=>decide (w=.reads)),S):=by
  rw[Gb (wc _)];congr 3;rw[List.all_map];rfl
 have fl:aU iF [.lst ((cG R.1 g).map Wd.d)] S=U (.int ((cG R.1 g).length:Nat),S):=by rw[Oq,YE]
 have nb:CP (.lst ((cG R.1 g).map Wd.d),S)=U (.bl (cG R.1 g).isEmpty,S):=by
  rw[RW];cases cG R.1 g<;>rfl
 unfold kh at e1
 by_cases h:R.1[g]?=U .rising
 ·rw[YR h] at e1 ⊢
  have ne:jo S (.str "up") (.str "read")=U (.bl true):=by rw[rA];rfl
  simp only[gy,aS,bu,aE,aq,aj,bK,bN,bO,oj,ob,ak,ao,au,am,ba,e1,bv,aZ,fL,gI,bP,aH,bt,aK,aJ,av,bp,ax,mX,nQ,aI,bS,bE,ny hl,ne,bU,aV,Ht,nb,bC,bW,aO]
 ·rw[if_neg h] at e1 ⊢
  cases hf:R.2.find? λe=>decide (e.g=g) with
  | none=>
   rw[hf] at e1
   simp only[gy,aS,bu,aE,aq,aj,bK,bN,bO,oj,ob,ak,ao,au,am,ba,e1,bv,aZ,fL,gI,bP,aH,bt,aK,aJ,av,bp,ax,mX,nQ,aI,bU,aV,bC,bW,aO]
  | some e=>
   rw[hf] at e1
   dsimp only at e1 ⊢
   have ne:jo S (.str (bA e.wr)) (.str "read")=U (.bl e.wr):=by rw[rA,sU,Bool.not_not]
   cases hw:e.wr with
   | true=>
    rw[hw] at e1 ne
    simp only[gy,aS,bu,aE,aq,aj,bK,bN,bO,oj,ob,ak,ao,au,am,ba,e1,bv,aZ,fL,gI,bP,aH,bt,aK,aJ,av,bp,ax,mX,nQ,aI,bS,bE,ny hl,ne,bU,aV,Ht,nb,bC,bW,aO,YR]
   | false=>
    rw[hw] at e1 ne
    have e3:(r.a==0)=decide (r.a=0):=rfl
    simp only[gy,aS,bu,aE,aq,aj,bK,bN,bO,oj,ob,ak,ao,au,am,ba,e1,bv,aZ,fL,gI,bP,aH,bt,aK,aJ,av,bp,ax,mX,nQ,aI,bS,bE,ny hl,ne,aV,lM,bZ,PR (show(cG R.1 g).length<=100 by omega),cb,fa,Rl.ix1,ZB,aaG]
    cases hA:(cG R.1 g).all λw=>decide (w=.reads) with
    | false=>simp
    | true=>
     cases hz:decide (r.a=0) with
     | true=>simp[e3,hz]
     | false=>simp[e3,hz,fl,-beq_iff_eq]
end
noncomputable def Ar:List (bD×D):=[(.inr "rows",.non),(.inr "readers",.str "read"),(.inr "writers",.str "write"),(.inr "turns",.str "write")]
noncomputable def Eg:List (bD×D):=[(.inr "read",.str "reads"),(.inr "write",.str "writes")]
noncomputable def Xj:Rw->D
 | .rows=>.non
 | .readers=>.str "read"
 | _=>.str "write"
noncomputable def sQ(w:Rw)(e:En):Bool:=match w with
 | .rows=>false
 | .readers=>!e.wr
 | _=>e.wr
def Xi{S:ac}{w:Rw}(h:w≠.passes):uZ Ar (.str w.s,S)=U (Xj w,S):=by
 cases w<;>first | exact absurd rfl h | simp (decide:=true) [uZ,fA,jy,Ar,Xj,Rw.s]
def Lj{S:ac}:uZ Eg (.str (bA b),S)=U ((if b then Wd.writes else Wd.reads).d,S):=by
 cases b<;>simp (decide:=true) [uZ,fA,jy,Eg,bA,Wd.d,Wd.s]
def SE{e:En}:cy S (.str (bA e.wr)) (Xj w)=U (.bl (sQ w e)):=by
 have h1:cy S (.str (bA e.wr)) (.str "read")=U (.bl (!e.wr)):=by rw[cN,sU]
 have h2:cy S (.str (bA e.wr)) (.str "write")=U (.bl e.wr):=by rw[cN,pE]
 cases w with
 | rows=>exact lT rfl rfl
 | readers=>exact h1
 | _=>exact h2
noncomputable def kW(w:Rw)(e:En):Bool:=decide (w=.turns)&&decide (e.m=1)
noncomputable def kz(w:Rw)(es:List En):List Nat:=(es.filter (kW w)).map (·.g)++(es.filter (sQ w)).map (·.g)++es.map (·.g)
noncomputable def oh:Option Nat->D
 | none=>.non
 | some g=>.int (g:Int)
def vH:ME:=bH (dq (af 1)) (ah 0) (du (aB (ay cy (af 1) (mC (.str "turns")))) (aB (ay cy (ay aA (af 0) (mC (.int 2))) (mC (.int 1))))) (ay aA (af 0) (mC (.int 0))) [Y,U 0]
def Ob:ME:=bH (dq (af 1)) (ah 0) (aB (ay cy (ay aA (af 0) (mC (.int 1))) (dZ Ar (af 1)))) (ay aA (af 0) (mC (.int 0))) [Y,U 0]
def Od:ME:=bH (dq (af 1)) (ah 0) bQ (ay aA (af 0) (mC (.int 0))) [Y]
def lJ:MS:=aF (aX vH (ah 2)) (aF (aX Ob (ah 3)) (aF (aX (ay aM (ay aM (af 2) (af 3)) Od) (ah 4)) (bq (oV (da (af 4)) (ay aA (af 4) (mC (.int 0))) (mC .non)))))
section
variable{S:ac}{es:List En}{w:Rw}{r:Rl}{R:Rm}
def EX{l:List En}:D.lst (l.map λe=>.int (e.g:Int))=nl (l.map (·.g)):=by unfold nl;rw[ZA];rfl
def Dm{a2 a3 a4:Option D}(hl:es.length<=100):vH [U (.str w.s),U (esD es),a2,a3,a4] S=U (nl ((es.filter (kW w)).map (·.g)),S):=by
 have hw:(w.s==("turns":Str))=decide (w=.turns):=Rw.eq w .turns
 have k:=dw (S:=S) (t:=du (aB (ay cy (af 1) (mC (.str "turns")))) (aB (ay cy (ay aA (af 0) (mC (.int 2))) (mC (.int 1))))) (e:=ay aA (af 0) (mC (.int 0))) (cap:=[Y,U 0]) (env:=[U (.str w.s),U (esD es),a2,a3,a4]) (rest:=[U (.str w.s)]) (a:=Y) (enc:=En.d) (p:=kW w) (f:=λe=>.int (e.g:Int)) (xs:=es) rfl (by omega) (λx _=>by
  unfold kW
  cases h:decide (w=.turns) with
  | true=>simp[En.ix2,-beq_iff_eq,hw,h];rfl
  | false=>simp[-beq_iff_eq,hw,h]) (λx _ _=>by simp[En.ix0])
 simp only[vH,bL,cV,aj,bK,bN,bO,oj,ob,ak,eD,k,EX]
def Oa{a2 a3 a4:Option D}(hw:w≠.passes)(hl:es.length<=100):Ob [U (.str w.s),U (esD es),a2,a3,a4] S=U (nl ((es.filter (sQ w)).map (·.g)),S):=by
 have k:=dw (S:=S) (t:=aB (ay cy (ay aA (af 0) (mC (.int 1))) (dZ Ar (af 1)))) (e:=ay aA (af 0) (mC (.int 0))) (cap:=[Y,U 0]) (env:=[U (.str w.s),U (esD es),a2,a3,a4]) (rest:=[U (.str w.s)]) (a:=Y) (enc:=En.d) (p:=sQ w) (f:=λe=>.int (e.g:Int)) (xs:=es) rfl (by omega) (λx _=>by
  simp only[aK,aJ,aj,bK,bN,bO,oj,ob,ak,av,bp,ax,En.ix1,uQ,Xi hw,SE,aI]) (λx _ _=>by simp[En.ix0])
 simp only[Ob,bL,cV,aj,bK,bN,bO,oj,ob,ak,eD,k,EX]
def Oc{a0 a2 a3 a4:Option D}(hl:es.length<=100):Od [a0,U (esD es),a2,a3,a4] S=U (nl (es.map (·.g)),S):=by
 have k:=gsC (S:=S) (es:=es) (b:=Y) (cap:=[Y]) (env:=[a0,U (esD es),a2,a3,a4]) rfl hl
 simp only[Od,bL,cV,aj,bK,bN,bO,oj,ob,ak,eD,k,EX]
def ML{a b:List Nat}(h:a.length+b.length<=1000):aM S (nl a) (nl b)=U (nl (a++b)):=by
 unfold nl;rw[ng (by simp;omega),<- Zq]
theorem Aq{N:List Str}(hN:N.length=5)(hw:w≠.passes)(hl:es.length<=100):aQ N lJ 2 [.str w.s,esD es] S=U (oh (kz w es).head?,S):=by
 have hst:az N [.str w.s,esD es]=[U (.str w.s),U (esD es),Y,Y,Y]:=by simp[az,hN,adg]
 rw[bg (show [D.str w.s,esD es].length=2 from rfl),hst]
 have l1:=Zt (kW w) es
 have l2:=Zt (sQ w) es
 have a1:aM S (nl ((es.filter (kW w)).map (·.g))) (nl ((es.filter (sQ w)).map (·.g)))=U (nl ((es.filter (kW w)).map (·.g)++(es.filter (sQ w)).map (·.g))):=ML (by simp;omega)
 have a2:aM S (nl ((es.filter (kW w)).map (·.g)++(es.filter (sQ w)).map (·.g))) (nl (es.map (·.g)))=U (nl (kz w es)):=ML (by simp;omega)
 have tr:CN (nl (kz w es),S)=U (!decide (kz w es=[]),S):=by
  cases kz w es<;>rfl
 simp only[lJ,aS,bu,Dm hl,Oa hw hl,ob,bv,aZ,fL,gI,bP,aH,aJ,aj,bK,bN,bO,oj,ak,av,ax,a1,Oc hl,a2,aV,mL,df,tr]
 cases hf:kz w es with
 | nil=>simp[oh]
 | cons g l=>simp[oh,tq]
noncomputable def mF(r:Rl)(R:Rm):List En->Option Nat
 | []=>Y
 | e::l=>if dO r R e.g then U e.g else if r.b<=e.m then Y else mF r R l
noncomputable def rT(r:Rl)(R:Rm):Option Nat:=if r.w=.passes then mF r R R.2 else match (kz r.w R.2).head? with
 | none=>Y
 | some g=>if dO r R g then U g else Y
def oa(cg:PF):Prop:=(∀ (S:ac) (r:Rl) (R:Rm) (g:Nat),R.1.length<=100->cg [r.d,aP R,.int (g:Int)] S=U (.bl (dO r R g),S))/\(∀ (S:ac) (r:Rl) (ws:List Wd),ws.length<=100->cg [r.d,aP (ws,[]),.non] S=U (.bl false,S))
def uu(cg:PF):MS:=aF (bY (da (aw 3 cg (aa (af 0) (aa (af 1) (aa (af 2) ai))))) (bq (af 2)) bn) (bY (aB (ay fGe (af 4) (ay aA (af 0) (mC (.int 2))))) (bq (mC .non)) bn)
def Jh:MG:=bi 4 (ag (ah 2) (ag (ah 3) (ag (ah 4) (ag (ah 5) aW))))
def lI(cg:PF):MS:=aF (gA (ay aA (af 1) (mC (.int 1))) Jh (uu cg)) (bq (mC .non))
def RF{e:En}{a0 a1 a2 a3 a4 a5:Option D}:Jh e.d [a0,a1,a2,a3,a4,a5] S=U ([a0,a1,U (.int (e.g:Int)),U (.str (bA e.wr)),U (.int e.m),U (bR e.t)],S):=by
 have g4:Jh e.d [a0,a1,a2,a3,a4,a5] S=(ag (ah 2) (ag (ah 3) (ag (ah 4) (ag (ah 5) aW)))) [.int (e.g:Nat),.str (bA e.wr),.int e.m,bR e.t] [a0,a1,a2,a3,a4,a5] S:=tE
 rw[g4]
 simp only[bF,aZ,ob,dc,ci,fL,gI]
def npEnd:Option Nat->Option D->Option D->Option D->Option D->Option D->Option D->ac->pA->Prop
 | some g,_,_,_,_,_,_,S,o=>o=.rt (.int (g:Int)) S
 | none,a0,a1,_,_,_,_,S,o=>o=.rt .non S\/∃ b2 b3 b4 b5,o=.nx [a0,a1,b2,b3,b4,b5] S
theorem xO(O:oa cg)(hl:R.1.length<=100):∀ (es:List En) (a2 a3 a4 a5:Option D),∃ o,cK Jh (uu cg) (es.map En.d) [U r.d,U (aP R),a2,a3,a4,a5] S=U o/\npEnd (mF r R es) (U r.d) (U (aP R)) a2 a3 a4 a5 S o
 | [],a2,a3,a4,a5=>⟨.nx [U r.d,U (aP R),a2,a3,a4,a5] S,by simp,.inr ⟨_,_,_,_,rfl⟩⟩
 | e::l,a2,a3,a4,a5=>by
  obtain⟨o,ih,q⟩:=xO O hl l (U (.int (e.g:Int))) (U (.str (bA e.wr))) (U (.int e.m)) (U (bR e.t))
  have c1:=O.1 S r R e.g hl
  rw[YJ,fW,RF,ob,oY]
  simp only[uu,aS,bt,df,aE,aq,aj,bK,bN,bO,oj,ob,ak,ao,au,am,ce,c1,dH]
  unfold mF
  cases hc:dO r R e.g with
  | true=>exact⟨.rt (.int (e.g:Int)) S,by simp,rfl⟩
  | false=>
   rw[if_neg (by decide)]
   by_cases hb:r.b<=e.m
   ·rw[YR hb]
    refine⟨.rt .non S,?_,.inl rfl⟩
    simp[Rl.ix2,hb]
   ·rw[if_neg hb]
    refine⟨o,?_,?_⟩
    ·have:¬ (e.m≥r.b):=hb
     simp[Rl.ix2,this,-ge_iff_le]
     exact ih
    ·cases hp:mF r R l with
     | none=>rw[hp] at q;exact q
     | some g=>rw[hp] at q;exact q
def zB(O:oa cg){N:List Str}(hN:N.length=6)(hl:R.1.length<=100):aQ N (lI cg) 2 [r.d,aP R] S=U (oh (mF r R R.2),S):=by
 have hst:az N [r.d,aP R]=[U r.d,U (aP R),Y,Y,Y,Y]:=by simp[az,hN,adg]
 rw[bg (show [r.d,aP R].length=2 from rfl),hst]
 obtain⟨o,e,q⟩:=xO (S:=S) (r:=r) O hl R.2 Y Y Y Y
 have ek:qh Jh (uu cg) [U r.d,U (aP R),Y,Y,Y,Y] (esD R.2,S)=cK Jh (uu cg) (R.2.map En.d) [U r.d,U (aP R),Y,Y,Y,Y] S:=rfl
 simp only[lI,aS,pY,aJ,aj,bK,bN,bO,oj,ob,ak,av,bp,ax,Rm.ix1,ek,e]
 cases hp:mF r R R.2 with
 | none=>
  rw[hp] at q
  rcases q with rfl | ⟨b2,b3,b4,b5,rfl⟩<;>simp[oh]
 | some g=>
  rw[hp] at q
  have q:o=.rt (.int (g:Int)) S:=q
  subst q;simp[oh]
def oN(np fm cg:PF):MS:=aF (bY (aB (ay cy (ay aA (af 0) (mC (.int 0))) (mC (.str "passes")))) (bq (aw 2 np (aa (af 0) (aa (af 1) ai)))) bn) (aF (aX (aw 2 fm (aa (ay aA (af 0) (mC (.int 0))) (aa (ay aA (af 1) (mC (.int 1))) ai))) (ah 2)) (bq (oV (da (aw 3 cg (aa (af 0) (aa (af 1) (aa (af 2) ai))))) (af 2) (mC .non))))
def JS(h:(kz w es).head?=Y):es=[]:=by
 have:kz w es=[]:=by simpa using h
 unfold kz at this
 rw[List.append_eq_nil_iff] at this
 simpa using this.2
def EZ{np fm:PF}(hp:∀ (S:ac) (r:Rl) (R:Rm),R.1.length<=100->np [r.d,aP R] S=U (oh (mF r R R.2),S))(hf:∀ (S:ac) (w:Rw) (es:List En),w≠.passes->es.length<=100->fm [.str w.s,esD es] S=U (oh (kz w es).head?,S))(hc:oa cg)
  {N:List Str} (hN:N.length=3) (hl:R.1.length<=100) (hl2:R.2.length<=100):aQ N (oN np fm cg) 2 [r.d,aP R] S=U (oh (rT r R),S):=by
 have hst:az N [r.d,aP R]=[U r.d,U (aP R),Y]:=by simp[az,hN,adg]
 rw[bg (show [r.d,aP R].length=2 from rfl),hst]
 have w3:(r.w.s==("passes":Str))=decide (r.w=.passes):=Rw.eq r.w .passes
 unfold rT
 simp only[oN,aS,bt,aK,aJ,aj,bK,bN,bO,oj,ob,ak,av,bp,ax,Rl.ix0,cN,w3,aI]
 by_cases hw:r.w=.passes
 ·rw[YM hw,YR hw]
  simp only[bU,aV,aE,aq,aj,bK,bN,bO,oj,ob,ak,ao,au,am,ba,hp S r R hl,bC,bW,aO]
 ·rw[YK hw,if_neg hw]
  have f1:=hf S r.w R.2 hw hl2
  simp only[bS,bE,ob,aH,aS,bu,aE,aq,aJ,aj,bK,bN,bO,oj,ak,av,bp,ax,Rl.ix0,Rm.ix1,ao,au,am,ba,f1,bv,aZ,fL,gI,bP,aV,mL,df,ce]
  cases hh:(kz r.w R.2).head? with
  | none=>
   obtain⟨ws,es⟩:=R
   have:es=[]:=JS hh
   subst this
   have c2:=hc.2 S r ws hl
   simp only[oh,c2,ob,dH]
   simp
  | some g=>
   have c1:=hc.1 S r R g hl
   simp only[oh,c1,ob,dH]
   cases dO r R g<;>simp[oh]
end
section
variable{ws:List Wd}{es:List En}{r:Rl}{R:Rm}{g:Nat}
noncomputable def Lc(ws:List Wd):List Wd:=ws.filter λw=>!decide (w=.out)
theorem Ef{α:Type}{p:α->Bool}:∀ (xs:List α) (k:Nat),((xs.zipIdx k).filter λq=>p q.1).map (·.1)=xs.filter p
 | [],_=>rfl
 | x::l,k=>by
  rw[aal,ZD,ZD]
  have ih:=Ef (p:=p) l (k+1)
  split
  ·rw[YJ,ih]
  ·exact ih
def GE(h:ws[g]?=U .out):cG ws g=Lc ws:=by
 unfold cG Lc
 rw[<- Ef ws 0]
 congr 1
 apply aba
 intro q hq
 have hq':ws[q.2]?=U q.1:=mem_zi.mp (show(q.1,q.2)∈ws.zipIdx from hq)
 by_cases hg:q.2=g
 ·rw[hg,h] at hq'
  have:=YU hq'
  simp[<- this]
 ·simp[hg]
theorem besK{p:Wd->Bool}:∀ (ws:List Wd) (k g:Nat) (w:Wd),ws[g]?=U w->p w=true->((ws.zipIdx k).filter λq=>p q.1&&!decide (q.2=k+g)).length+1=(ws.filter p).length
 | [],k,g,w,h,_=>by simp at h
 | x::l,k,0,w,h,hp=>by
  simp at h;subst h
  rw[aal,ZD,ZD,YR hp,YT,<- Ef l (k+1),YE]
  simp only[hp,acw,aar,Zk,aam,ZB,aaG]
  congr 2
  apply aba
  intro q hq
  have:k+1<=q.2:=(List.mem_zipIdx hq).1
  have hne:q.2≠k:=by omega
  simp[hne]
 | x::l,k,g+1,w,h,hp=>by
  have ih:=besK (p:=p) l (k+1) g w (by simpa using h) hp
  have e:k+(g+1)=(k+1)+g:=by omega
  rw[e,aal,ZD,ZD]
  have hne:¬ (k=k+1+g):=by omega
  cases hx:p x with
  | false=>simp only[hx,aaA,ZB,aaG];exact ih
  | true=>simp only[hx,hne,aaC,Zo,Bool.and_self,abe,YT];omega
def Ao:(Lc ws).length+ws.count .out=ws.length:=by
 unfold Lc
 have:=List.length_eq_countP_add_countP (λw:Wd=>w==.out) (l:=ws)
 rw[List.count,this,abS,Nat.add_comm]
 congr 1
 rw[abS]
 congr 1
 apply aba
 intro w _
 cases w<;>rfl
theorem Qh(h:ws[g]?=U .rising):(cG ws g).isEmpty=decide (ws.count .out+1=ws.length):=by
 have k:=besK (p:=λw=>!decide (w=.out)) ws 0 g .rising h rfl
 have l:=Ao (ws:=ws)
 unfold Lc at l
 unfold cG
 simp only[abm] at k
 rw[Zm,ZO,List.isEmpty_iff,List.map_eq_nil_iff]
 constructor
 ·intro e;rw[e] at k;simp only[aag] at k;omega
 ·intro e;apply ZR;omega
theorem cnt5:∀ ws:List Wd,ws.count .out+ws.count .reads+ws.count .rising+ws.count .writes+ws.count .raised=ws.length
 | []=>rfl
 | w::l=>by
  have:=cnt5 l
  cases w<;>simp[aaV]<;>omega
theorem JM:(Lc ws).all (λw=>decide (w=.reads))=decide (ws.count .out+ws.count .reads=ws.length):=by
 have l:=Ao (ws:=ws)
 have c:(Lc ws).countP (λw=>decide (w=.reads))=ws.count .reads:=by
  unfold Lc
  rw[List.countP_filter,List.count]
  congr 1
  funext w;cases w<;>rfl
 have d:=List.countP_le_length (p:=λw:Wd=>decide (w=.reads)) (l:=Lc ws)
 rw[Zm,ZO,YO]
 have e:=List.countP_eq_length (p:=λw:Wd=>decide (w=.reads)) (l:=Lc ws)
 constructor
 ·intro h;have:=e.mpr h;omega
 ·intro h;exact e.mp (by omega)
def Sv(h:ROk R){e:En}(he:e∈R.2):(R.2.find? λx=>decide (x.g=e.g))=U e:=by
 have hn:=h.nd
 generalize R.2=es at hn he
 induction es with
 | nil=>cases he
 | cons x l ih=>
  rw[YJ,aau] at hn
  rw[ZC]
  rcases Zd.mp he with rfl | he
  ·simp
  ·have:x.g≠e.g:=λz=>hn.1 (by rw[z];exact Zb.mpr ⟨e,he,rfl⟩)
   simp only[this,aaC]
   exact ih hn.2 he
theorem Wu(h:ROk R){e:En}(he:e∈R.2):dO r R e.g=qX r R.1 e.wr:=by
 have ho:=h.out e he
 unfold dO qX
 rw[ho,if_neg (by simp),Sv h he,GE ho]
 have c:=cnt5 R.1
 have l:=Ao (ws:=R.1)
 dsimp only
 cases hw:e.wr with
 | true=>
  simp only[abe]
  by_cases h1:R.1.count .reads+R.1.count .rising+R.1.count .out<R.1.length
  ·rw[YR h1]
   cases hi:Lc R.1 with
   | nil=>rw[hi] at l;simp at l;omega
   | cons _ _=>rfl
  ·rw[if_neg h1]
   rw[Zm,List.isEmpty_iff,ZO]
   constructor
   ·intro hi;rw[hi] at l;simp at l;omega
   ·intro hi;apply ZR;omega
 | false=>
  simp only[ZB,aaG,JM]
  by_cases h1:R.1.count .reads+R.1.count .rising+R.1.count .out<R.1.length
  ·rw[YR h1,YK (by omega)];rfl
  ·rw[if_neg h1]
   by_cases h2:R.1.count .rising=0
   ·have:(Lc R.1).length=R.1.count .reads+R.1.count .rising:=by omega
    rw[this,YM (by omega),YM h2]
   ·rw[YK (by omega),YK h2];rfl
theorem yg{p:Wd->Bool}:∀ (ws:List Wd) (k:Nat),((ws.zipIdx k).filter λq=>p q.1).map (·.2)=(List.range' k ws.length).filter λi=>match ws[i - k]? with | some w=>p w | none=>false
 | [],k=>rfl
 | w::l,k=>by
  have ih:=yg (p:=p) l (k+1)
  rw[aal,YT,List.range'_succ,ZD,ZD]
  have e:(List.range' (k+1) l.length).filter (λi=>match (w::l)[i - k]? with | some w=>p w | none=>false)=(List.range' (k+1) l.length).filter λi=>match l[i - (k+1)]? with | some w=>p w | none=>false:=by
   apply aba
   intro i hi
   have:k+1<=i:=(List.mem_range'_1.mp hi).1
   rw[show i - k=(i - (k+1))+1 by omega,abg]
  simp only[Nat.sub_self,acm]
  cases hp:p w with
  | true=>rw[YR rfl,YR rfl,YJ,ih,e]
  | false=>rw[if_neg (by decide),if_neg (by decide),ih,e]
theorem vJ{α:Type}{p q:α->Bool}:∀ {l:List α},(∀ x∈l,p x=q x)->l.find? p=l.find? q
 | [],_=>rfl
 | x::l,h=>by rw[ZC,ZC,h x YF,vJ λy hy=>h y (YB _ hy)]
def IS:(tB (λw=>decide (w=.rising)) R.1).find? (dO r R)=(nB R.1).head?:=by
 have e:tB (λw=>decide (w=.rising)) R.1=(List.range R.1.length).filter λi=>match R.1[i]? with | some w=>decide (w=.rising) | none=>false:=by
  have k:=yg (p:=λw=>decide (w=.rising)) R.1 0
  rw[List.range_eq_range']
  exact k
 rw[e,List.find?_filter]
 unfold nB
 rw[List.head?_filter]
 apply vJ
 intro i hi
 by_cases h:R.1[i]?=U .rising
 ·rw[h]
  have:dO r R i=(cG R.1 i).isEmpty:=by unfold dO;rw[YR h]
  simp only[aar,abA]
  rw[this,Qh h]
  simp
 ·rw[YK h,aaA]
  cases hw:R.1[i]? with
  | none=>rfl
  | some w=>
   have:¬ (w=.rising):=λz=>h (by rw[hw,z])
   simp[this]
theorem CU{p:En->Bool}:∀ (es:List En) (k:Nat),(((es.zipIdx k).filter λq=>p q.1).map (·.2)).head?=(es.findIdx? p).map (· + k)
 | [],_=>rfl
 | e::l,k=>by
  have ih:=CU (p:=p) l (k+1)
  rw[aal,ZD,aap]
  cases hp:p e with
  | true=>simp
  | false=>
   simp only[ZB,aaG]
   rw[ih]
   cases l.findIdx? p with
   | none=>rfl
   | some i=>simp;omega
def jD{es:List En}:(AY p es).head?=es.findIdx? p:=by
 unfold AY;rw[CU];simp
theorem yw:∀ es:List En,((es.filter p).map (·.g)).head?=(es.findIdx? p).bind λi=>es[i]?.map (·.g)
 | []=>rfl
 | e::l=>by
  have ih:=yw (p:=p) l
  rw[ZD,aap]
  cases hp:p e with
  | true=>simp
  | false=>
   simp only[ZB,aaG]
   rw[ih]
   cases l.findIdx? p with
   | none=>rfl
   | some i=>simp
def tD:(Rv a b).head?=a.head?.or b.head?:=by
 unfold Rv;cases a<;>simp
def CY{a b:List Nat}:(a++b).head?=a.head?.or b.head?:=by cases a<;>simp
def nR{l:List Nat}:(l.take 1).head?=l.head?:=by cases l<;>simp
def kS{p:En->Bool}(hpq:∀ e,p e = !q e){es:List En}(h:es.findIdx? p=Y):es.findIdx? q=(if es=[] then Y else U 0):=by
 cases es with
 | nil=>rfl
 | cons e l=>
  rw[acd] at h
  have:=h e YF
  rw[hpq] at this
  have hq:q e=true:=by simpa using this
  rw[aap,hq];simp
noncomputable def AZ(es:List En)(o:Option Nat):Option Nat:=o.bind λi=>es[i]?.map (·.g)
def Qi:(es.map (·.g)).head?=AZ es (if es=[] then Y else U 0):=by cases es<;>simp[AZ]
def HP{i:Nat}(h:es.findIdx? p=U i):i<es.length:=(abv.mp h).1
def Ss(hw:r.w≠.passes):(kz r.w es).head?=AZ es (Di r es).head?:=by
 have f0:∀ p,((es.filter p).map (·.g)).head?=AZ es (es.findIdx? p):=λp=>yw es
 have ff:es.findIdx? (λ_=>false)=Y:=by rw[acd];intros;rfl
 unfold kz Di
 rw[CY,CY,f0,f0,Qi]
 cases hr:r.w with
 | passes=>exact absurd hr hw
 | rows=>
  have e1:kW .rows=λ_=>false:=rfl
  have e2:sQ .rows=λ_=>false:=rfl
  rw[e1,e2,ff,nR]
  cases es<;>simp[AZ,acq]
 | readers=>
  have e1:kW .readers=λ_=>false:=rfl
  have e2:sQ .readers=λe=>!e.wr:=rfl
  dsimp only
  rw[e1,e2,ff,nR,tD,jD,jD]
  show(AZ es _).or _=_
  cases hf:es.findIdx? λe=>!e.wr with
  | none=>rw[kS (q:=λe=>e.wr) (λ_=>rfl) hf];rfl
  | some i=>have:=HP hf;simp[AZ,YG this]
 | writers=>
  have e1:kW .writers=λ_=>false:=rfl
  have e2:sQ .writers=λe=>e.wr:=rfl
  dsimp only
  rw[e1,e2,ff,nR,tD,jD,jD]
  show(AZ es _).or _=_
  cases hf:es.findIdx? λe=>e.wr with
  | none=>rw[kS (q:=λe=>!e.wr) (λe=>by simp) hf];rfl
  | some i=>have:=HP hf;simp[AZ,YG this]
 | turns=>
  have e1:kW .turns=λe=>decide (e.m=1):=by funext e;simp[kW]
  have e2:sQ .turns=λe=>e.wr:=rfl
  dsimp only
  rw[e1,e2,nR,tD,tD,jD,jD,jD]
  cases hm:es.findIdx? λe=>decide (e.m=1) with
  | some i=>have:=HP hm;simp[AZ,YG this]
  | none=>
   show(AZ es _).or _=_
   cases hf:es.findIdx? λe=>e.wr with
   | none=>rw[kS (q:=λe=>!e.wr) (λe=>by simp) hf];rfl
   | some i=>have:=HP hf;simp[AZ,YG this]
def maxL_le{b:Int}{l:List Int}:kN (0::l)<=b↔0<=b/\∀ x∈l,x<=b:=by
 obtain⟨h1,h2⟩:=qR (ns:=0::l) (by simp)
 constructor
 ·intro h
  exact⟨acy (h2 0 YF) h,λx hx=>acy (h2 x (YB _ hx)) h⟩
 ·intro⟨h0,h⟩
  rcases Zd.mp h1 with e | e
  ·rw[e];exact h0
  ·exact h _ e
def BD(r:Rl)(ws:List Wd)(es:List En)(i:Nat):Bool:=(match es[i]? with | some e=>qX r ws e.wr | none=>false)&&decide (kN (0::(es.take i).map λe=>e.m+1)<=r.b)
theorem xL(hb:0<=r.b)(hc:∀ e∈es,dO r R e.g=qX r R.1 e.wr):∀ (l p:List En),es=p++l->(∀ e∈p,e.m+1<=r.b)->mF r R l=AZ es ((List.range' p.length l.length).find? (BD r R.1 es))
 | [],p,_,_=>by simp[mF,AZ]
 | e::l,p,he,hp=>by
  have ei:es[p.length]?=U e:=by rw[he];simp
  have et:es.take p.length=p:=by rw[he];simp
  have hm:e∈es:=by rw[he];simp
  have q0:BD r R.1 es p.length=qX r R.1 e.wr:=by
   unfold BD
   rw[ei,et]
   have:kN (0::p.map λe=>e.m+1)<=r.b:=maxL_le.mpr ⟨hb,λx hx=>by obtain⟨y,hy,rfl⟩:=Zb.mp hx;exact hp y hy⟩
   simp[this]
  rw[YT,List.range'_succ,ZC,q0]
  unfold mF
  rw[hc e hm]
  cases hl:qX r R.1 e.wr with
  | true=>simp[AZ,ei]
  | false=>
   rw[if_neg (by decide)]
   by_cases hbm:r.b<=e.m
   ·rw[YR hbm]
    have:(List.range' (p.length+1) l.length).find? (BD r R.1 es)=Y:=by
     rw[List.find?_eq_none]
     intro i hi
     have h1:=(List.mem_range'_1.mp hi).1
     have:¬ (kN (0::(es.take i).map λe=>e.m+1)<=r.b):=λz=>by
      have:=(maxL_le.mp z).2 (e.m+1) (Zb.mpr ⟨e,?_,rfl⟩)
      ·omega
      ·rw[List.mem_take_iff_getElem]
       refine⟨p.length,?_,?_⟩
       ·have:=(Yz.mp ei).1;omega
       ·exact(Yz.mp ei).2
     unfold BD;rw[YK this,aam];decide
    rw[this];rfl
   ·rw[if_neg hbm]
    have ih:=xL hb hc l (p++[e]) (by rw[he];simp) (λx hx=>by
     rcases YX.mp hx with hx | hx
     ·exact hp x hx
     ·have:x=e:=by simpa using hx
      rw[this];omega)
    rw[ih];simp
theorem Sr(hw:r.w≠.passes):(Di r es).length<=1:=by
 unfold Di
 cases hr:r.w<;>first | exact absurd hr hw | (simp only[aaB];omega)
def RI(h:ROk R)(hb:0<=r.b):rT r R=AZ R.2 (mf r R.1 R.2).head?:=by
 have hc:∀ e∈R.2,dO r R e.g=qX r R.1 e.wr:=λe he=>Wu h he
 unfold rT
 by_cases hw:r.w=.passes
 ·rw[YR hw,xL hb hc R.2 [] rfl (λ_ z=>by cases z)]
  congr 1
  unfold mf Di
  rw[hw]
  dsimp only
  rw[List.filter_filter,List.head?_filter,aag,<- List.range_eq_range']
  rfl
 ·rw[if_neg hw,Ss hw]
  have h1:=Sr (es:=R.2) hw
  unfold mf
  cases hf:Di r R.2 with
  | nil=>rfl
  | cons i l=>
   rw[hf] at h1
   have:l=[]:=by cases l with | nil=>rfl | cons _ _=>simp at h1
   subst this
   have hi:i<R.2.length:=rj (r:=r) (by rw[hf];exact YF)
   have ei:R.2[i]?=U R.2[i]:=YG hi
   have:=hc R.2[i] (abh hi)
   simp only[List.head?_cons,AZ,Option.bind_some,ei,Option.map_some,ZD,this]
   cases qX r R.1 (R.2[i]).wr<;>simp[ei]
noncomputable def oH(r:Rl)(R:Rm):Option Ev:=match (tB (λw=>decide (w=.rising)) R.1).find? (dO r R) with
 | some g=>U ⟨"steps",g⟩
 | none=>(rT r R).map λg=>⟨"in",g⟩
inductive GM(r:Rl)(R:Rm):Option Ev->Rm->List Ev->Prop
 | up (g:Nat) (h:R.1[g]?=U .rising):GM r R (U ⟨"steps",g⟩) (R.1.set g .raised,R.2) [⟨"steps",g⟩]
 | go (i:Nat) (e:En) (h:R.2[i]?=U e):GM r R (U ⟨"in",e.g⟩) (sP r R i e) [⟨"in",e.g⟩]
 | no:GM r R Y R []
def yE(h:ROk R)(hb:0<=r.b):GM r R (oH r R) (mw r R).1 (mw r R).2:=by
 unfold oH mw
 rw[IS,RI h hb]
 cases ha:nB R.1 with
 | cons g l=>exact .up g (pq (by rw[ha];exact YF))
 | nil=>
  dsimp only[List.head?_nil]
  cases hs:mf r R.1 R.2 with
  | nil=>exact .no
  | cons i l=>
   have hi:i<R.2.length:=rj (r:=r) (Zx.mp (show i∈mf r R.1 R.2 by rw[hs];exact YF)).1
   have ei:R.2[i]?=U R.2[i]:=YG hi
   simp only[List.head?_cons,AZ,Option.bind_some,ei,Option.map_some]
   exact .go i _ ei
noncomputable def Wk(R:Rm):Nat:=R.2.length+R.1.count .rising
theorem lv{a b:Wd}:∀ {ws:List Wd} {i:Nat},ws[i]?=U a->a≠b->∀ c,(ws.set i b).count c+(if a=c then 1 else 0)=ws.count c+(if b=c then 1 else 0)
 | [],i,h,_,c=>by simp at h
 | w::l,0,h,hn,c=>by
  simp at h;subst h
  rw[List.set_cons_zero,aaV,aaV]
  by_cases h1:w=c<;>by_cases h2:b=c<;>simp[h1,h2]<;>omega
 | w::l,i+1,h,hn,c=>by
  have:=lv (i:=i) (ws:=l) (by simpa using h) hn c
  rw[List.set_cons_succ,aaV,aaV]
  omega
theorem IF(h:ROk R)(s:GM r R o R' l):(o=Y/\R'=R/\l=[])\/(∃ v,o=U v/\l=[v]/\Wk R'+1=Wk R):=by
 cases s with
 | no=>exact .inl ⟨rfl,rfl,rfl⟩
 | up g hg=>
  refine .inr ⟨_,rfl,rfl,?_⟩
  have:=lv (b:=.raised) hg (by decide) .rising
  simp only[Wk]
  simp at this
  omega
 | go i e hi=>
  refine .inr ⟨_,rfl,rfl,?_⟩
  have ho:=h.out e (YY hi)
  have hl:=(Yz.mp hi).1
  have hc:(R.1.set e.g (if e.wr then .writes else .reads)).count .rising=R.1.count .rising:=by
   cases e.wr with
   | true=>have:=lv (b:=.writes) ho (by decide) .rising;simpa using this
   | false=>have:=lv (b:=.reads) ho (by decide) .rising;simpa using this
  simp only[Wk,sP,hc,YQ,YE,aaB,abO]
  omega
theorem Wj(h:ROk R):Wk R<=2*R.1.length:=by
 have:=h.len
 have:=List.count_le_length (a:=Wd.rising) (l:=R.1)
 unfold Wk;omega
theorem Bn(h:oH r R=Y)(hk:ROk R)(hb:0<=r.b):∀ n,tS r n R=(R,[])
 | 0=>rfl
 | n+1=>by
  have s:=yE hk hb
  rw[h] at s
  have e:mw r R=(R,[]):=by
   generalize hq:mw r R=q at s
   obtain⟨a,b⟩:=q
   dsimp only at s
   cases s;rfl
  show((tS r n (mw r R).1).1,(mw r R).2++(tS r n (mw r R).1).2)=_
  rw[e,Bn h hk hb n];rfl
end
section
variable{S:ac}{ws:List Wd}{es:List En}{r:Rl}{R:Rm}{g:Nat}
def SD:pi S .non (nt l)=U (.bl false):=by
 rw[jN (ys:=l.map ni) rfl rfl (by rw[YO];intro d hd;obtain⟨i,_,rfl⟩:=Zb.mp hd;rfl)]
 congr 2
 rw[List.any_eq_false]
 intro d hd;obtain⟨i,_,rfl⟩:=Zb.mp hd
 show ¬ (false=true);decide
def Ll(O:Qk gw){N:List Str}(hN:N.length=3)(hl:ws.length<=100):aQ N (mB gw) 2 [aP (ws,[]),.non] S=U (.non,S):=by
 have hst:az N [aP (ws,[]),.non]=[U (aP (ws,[])),U .non,Y]:=by simp[az,hN,adg]
 rw[bg (show [aP (ws,[]),D.non].length=2 from rfl),hst]
 have o1:gw [aP (ws,[]),.tup [.str "rising"]] S=U (nt (tB (λw=>decide (w∈[Wd.rising])) ws),S):=O S (ws,[]) [.rising] hl
 have k1:cz ([.str "rising"],S)=U (.tup [.str "rising"],S):=aT (by simp)
 have ek:∀ env,qh (ah 2) my env (esD [],S)=U (.nx env S):=λenv=>by show cK (ah 2) my [] env S=_;simp
 simp only[mB,aS,bt,aK,aJ,aj,bK,bN,bO,oj,ob,ak,av,aE,aq,ao,bj,bp,au,am,k1,ba,o1,ax,SD,aI,bS,bE,aH,pY,Rm.ix1,ek,aV,bC,aO]
def KE{wait:PF}(O:∀ S:ac,wait [aP (ws,[]),.non] S=U (.non,S)){N:List Str}(hN:N.length=6):aQ N (gy wait) 3 [r.d,aP (ws,[]),.non] S=U (.bl false,S):=by
 have hst:az N [r.d,aP (ws,[]),.non]=[U r.d,U (aP (ws,[])),U .non,Y,Y,Y]:=by simp[az,hN,adg]
 rw[bg (show [r.d,aP (ws,[]),D.non].length=3 from rfl),hst]
 simp only[gy,aS,bu,aE,aq,aj,bK,bN,bO,oj,ob,ak,ao,au,am,ba,O,bv,aZ,fL,gI,bP,aH,bt,aK,aJ,av,bp,ax,mX,nQ,aI,bU,aV,bC,bW,aO]
def lH:MS:=aF (aX (af 0) (bi 2 (ag (ah 3) (ag (ah 4) aW)))) (bq (be (aa (ay aM (ay aM (bI (af 3) bJ (cx (af 1))) (be (aa (af 2) ai))) (bI (af 3) (cx (ay aM (af 1) (mC (.int 1)))) bJ)) (aa (af 4) ai))))
theorem yQ{N:List Str}(hN:N.length=5){w:Wd}(h:g<R.1.length)(hl:R.1.length<=100):aQ N lH 3 [aP R,.int (g:Int),w.d] S=U (aP (R.1.set g w,R.2),S):=by
 have hst:az N [aP R,.int (g:Int),w.d]=[U (aP R),U (.int (g:Int)),U w.d,Y,Y]:=by simp[az,hN,adg]
 rw[bg (show [aP R,D.int (g:Int),w.d].length=3 from rfl),hst]
 have g2:∀ env S,bi 2 (ag (ah 3) (ag (ah 4) aW)) (aP R) env S=(ag (ah 3) (ag (ah 4) aW)) [cF R.1,esD R.2] env S:=λenv S=>cE
 have c1:kf (cF R.1) Y (U (g:Int),S)=U (.tup ((R.1.take g).map Wd.d),S):=by
  rw[show cF R.1=.tup (R.1.map Wd.d) from rfl,mM,mH,aaS]
 have c2:kf (cF R.1) (U ((g:Int)+1)) (Y,S)=U (.tup ((R.1.drop (g+1)).map Wd.d),S):=by
  rw[show cF R.1=.tup (R.1.map Wd.d) from rfl,mM,show((g:Int)+1)=((g+1:Nat):Int) by omega,nW _ _ (by rw[YE];omega),abu]
 have a1:aM S (.tup ((R.1.take g).map Wd.d)) (.tup [w.d])=U (.tup ((R.1.take g++[w]).map Wd.d)):=by rw[ge (by simp;omega)];simp
 have a2:aM S (.tup ((R.1.take g++[w]).map Wd.d)) (.tup ((R.1.drop (g+1)).map Wd.d))=U (cF (R.1.set g w)):=by
  rw[ge (by simp;omega),<- Zq,LN _ _ h];rfl
 simp only[lH,aS,bu,aj,bK,bN,bO,oj,ob,ak,bv,g2,bF,aZ,dc,ci,fL,gI,bP,aH,aV,bj,aq,aJ,cO,fZ,cU,fY,dF,dI,c1,av,ao,au,am,Hz,ax,a1,bp,lV,c2,a2,FC,bC,aO]
 rfl
theorem UF:∀ {es:List En} {i:Nat} {e:En},(es.map (·.g)).Nodup->es[i]?=U e->(es.map λx=>D.int (x.g:Int)).findIdx? (λd=>jd d (.int (e.g:Int)))=U i
 | [],i,e,_,h=>by simp at h
 | x::l,0,e,_,h=>by
  simp at h;subst h
  rw[YJ,aap]
  have:jd (.int (x.g:Int)) (.int (x.g:Int))=true:=by show((x.g:Int)==(x.g:Int))=true;simp
  rw[this];rfl
 | x::l,i+1,e,hn,h=>by
  rw[YJ,aau] at hn
  have h':l[i]?=U e:=by simpa using h
  have ih:=UF hn.2 h'
  rw[YJ,aap]
  have:jd (.int (x.g:Int)) (.int (e.g:Int))=false:=by
   show((x.g:Int)==(e.g:Int))=false
   rw[ZF]
   intro z
   have:x.g=e.g:=by omega
   exact hn.1 (by rw[this];exact Zb.mpr ⟨e,YY h',rfl⟩)
  rw[this,ih];rfl
def WM(hn:(es.map (·.g)).Nodup){i:Nat}{e:En}(h:es[i]?=U e)(hl:es.length<=100):mY (.lst (es.map λx=>D.int (x.g:Int))) [.int (e.g:Int)] S=U (.int (i:Int),S):=by
 unfold mY
 have h1:qV S (.lst (es.map λx=>D.int (x.g:Int)))=true:=rfl
 have h2:jb S (.lst (es.map λx=>D.int (x.g:Int)))=U (es.map λx=>D.int (x.g:Int)):=rfl
 have h3:cB 40 (.int (e.g:Int))=true/\(es.map λx=>D.int (x.g:Int)).all (cB 39)=true/\(es.map λx=>D.int (x.g:Int)).length<=acY:=by
  refine⟨rfl,?_,sz (by rw[YE];omega)⟩
  rw[YO];intro d hd;obtain⟨x,_,rfl⟩:=Zb.mp hd;rfl
 dsimp only
 rw[YR h1,h2]
 show(if _ then _ else Y)=_
 rw[YR h3,UF hn h];rfl
def Aa:ME:=bH (dq (af 6)) (bi 4 (ag (ah 0) (ag (ah 1) (ag (ah 2) (ag (ah 3) aW))))) bQ (be (aa (af 0) (aa (af 1) (aa (ay aM (af 2) (mC (.int 1))) (aa (af 3) ai))))) [Y,Y,Y,Y]
def liGs:ME:=bH (dq (af 4)) (ah 0) bQ (ay aA (af 0) (mC (.int 0))) [Y]
def qM(ww:PF):MS:=aF (aX (af 1) (bi 2 (ag (ah 3) (ag (ah 4) aW)))) (aF (aX (fz mY liGs (aa (af 2) ai)) (ah 5)) (aF (aX (bI (af 4) bJ (cx (af 5))) (ah 6)) (aF (bY (aB (ay cy (ay aA (af 0) (mC (.int 0))) (mC (.str "passes")))) (aX (bw (aU (cR .tup)) (aa Aa ai)) (ah 6)) bn) (bq (aw 3 ww (aa (be (aa (af 3) (aa (ay aM (af 6) (bI (af 4) (cx (ay aM (af 5) (mC (.int 1)))) bJ)) ai))) (aa (af 2) (aa (dZ Eg (ay aA (ay aA (af 4) (af 5)) (mC (.int 1)))) ai))))))))
theorem PN{en:MG}{t:ME}{f:En->D}(he:∀ (e:En) (a b c d:Option D),en e.d [a,b,c,d] S=U ([U (.int (e.g:Int)),U (.str (bA e.wr)),U (.int e.m),U (bR e.t)],S))(ht:∀ e:En,t [U (.int (e.g:Int)),U (.str (bA e.wr)),U (.int e.m),U (bR e.t)] S=U (f e,S)) :
  ∀ (es:List En) (a b c d:Option D),dr en bQ t (es.map En.d) [a,b,c,d] S=U (es.map f,S)
 | [],a,b,c,d=>by simp
 | e::l,a,b,c,d=>by
  have ih:=PN he ht l (U (.int (e.g:Int))) (U (.str (bA e.wr))) (U (.int e.m)) (U (bR e.t))
  rw[YJ,gB,he,ob,vk,gQ,ob,vj,ht,ob,vi,ih,ob,vh,YJ]
noncomputable def Vd(e:En):En:={ e with m:=e.m+1 }
def FE{a0 a1 a2 a3 a4 a5:Option D}(hl:es.length<=100):Aa [a0,a1,a2,a3,a4,a5,U (esD es)] S=U (.lst ((es.map Vd).map En.d),S):=by
 have k:=PN (S:=S) (en:=bi 4 (ag (ah 0) (ag (ah 1) (ag (ah 2) (ag (ah 3) aW))))) (t:=be (aa (af 0) (aa (af 1) (aa (ay aM (af 2) (mC (.int 1))) (aa (af 3) ai))))) (f:=λe=>(Vd e).d) (λe a b c d=>by
  have g4:bi 4 (ag (ah 0) (ag (ah 1) (ag (ah 2) (ag (ah 3) aW)))) e.d [a,b,c,d] S=(ag (ah 0) (ag (ah 1) (ag (ah 2) (ag (ah 3) aW)))) [.int (e.g:Nat),.str (bA e.wr),.int e.m,bR e.t] [a,b,c,d] S:=tE
  rw[g4];simp only[bF,aZ,ob,dc,ci,fL,gI]) (λe=>by
  simp only[bj,aq,aj,bK,bN,bO,oj,ob,ak,ao,aJ,av,bp,ax,lV,au,am,JB]
  rfl) es Y Y Y Y
 simp only[Aa,bL,cV,aj,bK,bN,bO,oj,ob,ak,eD]
 rw[jC (by rw[YE];omega)]
 show(dr _ bQ _ (es.map En.d) [Y,Y,Y,Y] S).bind _=_
 rw[k,ob,lm,ZA];rfl
theorem Jx{ww:PF}(hw:∀ (S:ac) (R:Rm) (g:Nat) (w:Wd),g<R.1.length->R.1.length<=100->ww [aP R,.int (g:Int),w.d] S=U (aP (R.1.set g w,R.2),S)){N:List Str}(hN:N.length=7)(h:ROk R){i:Nat}{e:En}(hi:R.2[i]?=U e)(hl:R.1.length<=50) :
  aQ N (qM ww) 3 [r.d,aP R,.int (e.g:Int)] S=U (aP (sP r R i e),S):=by
 have hst:az N [r.d,aP R,.int (e.g:Int)]=[U r.d,U (aP R),U (.int (e.g:Int)),Y,Y,Y,Y]:=by simp[az,hN,adg]
 rw[bg (show [r.d,aP R,D.int (e.g:Int)].length=3 from rfl),hst]
 have hle:=h.len
 have hil:=(Yz.mp hi).1
 have g2:∀ env S,bi 2 (ag (ah 3) (ag (ah 4) aW)) (aP R) env S=(ag (ah 3) (ag (ah 4) aW)) [cF R.1,esD R.2] env S:=λenv S=>cE
 have gs:∀ env:bh,mP (ah 0) bQ (ay aA (af 0) (mC (.int 0))) [Y] env (R.2.map En.d,S)=U (.lst (R.2.map λe=>.int (e.g:Int)),S):=λenv=>gsC (b:=Y) rfl (by omega)
 have km:∀ (ms:MA) env,rY mY ms env (.lst (R.2.map λe=>.int (e.g:Int)),S)=(ms env S).bind (eH mY (.lst (R.2.map λe=>.int (e.g:Int)))):=λms env=>rfl
 have ki:=WM (S:=S) h.nd hi (by omega)
 have c1:kf (esD R.2) Y (U (i:Int),S)=U (esD (R.2.take i),S):=by
  rw[show esD R.2=.tup (R.2.map En.d) from rfl,mM,mH];unfold esD;rw[aaS]
 have c2:kf (esD R.2) (U ((i:Int)+1)) (Y,S)=U (esD (R.2.drop (i+1)),S):=by
  rw[show esD R.2=.tup (R.2.map En.d) from rfl,mM,show((i:Int)+1)=((i+1:Nat):Int) by omega,nW _ _ (by rw[YE];omega)];unfold esD;rw[abu]
 have w3:(r.w.s==("passes":Str))=decide (r.w=.passes):=Rw.eq r.w .passes
 have x1:aA S (esD R.2) (.int (i:Int))=U e.d:=OW hi
 have ad:∀ l:List En,l.length<=60->aM S (esD l) (esD (R.2.drop (i+1)))=U (esD (l++R.2.drop (i+1))):=λl hl'=>by
  unfold esD;rw[ge (by simp;omega),<- Zq]
 have wi:=λl=>hw S (R.1,l) e.g (if e.wr then .writes else .reads) (h.lt (YY hi)) (show R.1.length<=100 by omega)
 have wi':∀ l,ww [.tup [cF R.1,esD l],.int (e.g:Int),(if e.wr then Wd.writes else Wd.reads).d] S=U (aP (R.1.set e.g (if e.wr then .writes else .reads),l),S):=wi
 have sq:aU (cR .tup) [.lst (((R.2.take i).map Vd).map En.d)] S=U (esD ((R.2.take i).map Vd),S):=by rw[fN];rfl
 simp only[qM,liGs,aS,bu,aj,bK,bN,bO,oj,ob,ak,bv,g2,bF,aZ,dc,ci,fL,gI,bP,aH,nJ,bL,cV,eD,gs,km,aq,ao,au,am,gW,ki,cO,fZ,cU,fY,dF,dI,c1,bt,aK,aJ,av,bp,ax,Rl.ix0,cN,w3,aI]
 by_cases hp:r.w=.passes
 ·rw[YM hp]
  have e1:(R.2.take i).map (qE r)=(R.2.take i).map Vd:=by
   apply aaU;intro x _;simp[qE,Vd,hp]
  simp only[bU,bu,bZ,aq,FE (es:=R.2.take i) (by simp;omega),ob,ao,au,am,cb,sq,bv,aZ,fL,gI,bP,aH,aV,aE,bj,aj,bK,bN,bO,oj,ak,aJ,av,cO,fZ,dF,bp,ax,lV,dI,fY,cU,c2,ad _ (show((R.2.take i).map Vd).length<=60 by simp;omega),FC,uQ,x1,En.ix1,Lj,ce,wi',bC,aO]
  unfold sP;rw[e1]
 ·rw[YK hp]
  have e1:(R.2.take i).map (qE r)=R.2.take i:=by
   have:∀ x:En,qE r x=x:=λx=>by simp[qE,hp]
   rw[aaU (λx _=>this x),List.map_id']
  simp only[bS,bE,ob,aH,aV,aE,aq,bj,aj,bK,bN,bO,oj,ak,ao,aJ,av,cO,fZ,dF,bp,ax,lV,dI,fY,cU,c2,ad _ (show(R.2.take i).length<=60 by simp;omega),au,am,FC,uQ,x1,En.ix1,Lj,ce,wi',bC,aO]
  unfold sP;rw[e1]
noncomputable def sR:Option Ev->D
 | none=>.non
 | some v=>v.d
def vW(cg:PF):MS:=bY (da (aw 3 cg (aa (af 0) (aa (af 1) (aa (af 2) ai))))) (bq (be (aa (mC (.str "steps")) (aa (af 2) ai)))) bn
def oO(gw cg nx:PF):MS:=aF (gA (aw 2 gw (aa (af 1) (aa (be (aa (mC (.str "rising")) ai)) ai))) (ah 2) (vW cg)) (aF (aX (aw 2 nx (aa (af 0) (aa (af 1) ai))) (ah 2)) (bq (oV (aB (ay Ee (af 2) (mC .non))) (mC .non) (be (aa (mC (.str "in")) (aa (af 2) ai))))))
theorem yF(O:oa cg)(hl:R.1.length<=100):∀ (l:List Nat) (a:Option D),∃ b,cK (ah 2) (vW cg) (l.map ni) [U r.d,U (aP R),a] S=U (match l.find? (dO r R) with | some g=>.rt (Ev.mk "steps" g).d S | none=>.nx [U r.d,U (aP R),b] S)
 | [],a=>⟨a,by simp⟩
 | g::l,a=>by
  obtain⟨b,ih⟩:=yF O hl l (U (ni g))
  refine⟨b,?_⟩
  have c1:cg [r.d,aP R,ni g] S=U (.bl (dO r R g),S):=O.1 S r R g hl
  rw[YJ,fW,aZ,ob,gI,gI,fL,oY]
  simp only[vW,bt,df,aE,aq,aj,bK,bN,bO,oj,ob,ak,ao,au,am,ce,c1,dH,ZC]
  cases hc:dO r R g with
  | true=>simp only[bU,aV,bj,aq,bp,ob,ao,aj,bK,bN,bO,oj,ak,au,am,FC,bC,HD];rfl
  | false=>
   rw[bS,bE,ob,nO]
   exact ih
def Gx{nx:PF}(hg:Qk gw)(O:oa cg)(hn:∀ (S:ac) (r:Rl) (R:Rm),R.1.length<=100->R.2.length<=100->nx [r.d,aP R] S=U (oh (rT r R),S)){N:List Str}(hN:N.length=3)(hl:R.1.length<=100)(hl2:R.2.length<=100) :
  aQ N (oO gw cg nx) 2 [r.d,aP R] S=U (sR (oH r R),S):=by
 have hst:az N [r.d,aP R]=[U r.d,U (aP R),Y]:=by simp[az,hN,adg]
 rw[bg (show [r.d,aP R].length=2 from rfl),hst]
 have o1:gw [aP R,.tup [.str "rising"]] S=U (nt (tB (λw=>decide (w∈[Wd.rising])) R.1),S):=hg S R [.rising] hl
 have k1:cz ([.str "rising"],S)=U (.tup [.str "rising"],S):=aT (by simp)
 obtain⟨b,e⟩:=yF (S:=S) (r:=r) O hl (tB (λw=>decide (w∈[Wd.rising])) R.1) Y
 have ek:qh (ah 2) (vW cg) [U r.d,U (aP R),Y] (nt (tB (λw=>decide (w∈[Wd.rising])) R.1),S)=cK (ah 2) (vW cg) ((tB (λw=>decide (w∈[Wd.rising])) R.1).map ni) [U r.d,U (aP R),Y] S:=rfl
 have ew:(λw=>decide (w∈[Wd.rising]))=λw=>decide (w=Wd.rising):=by funext w;simp
 unfold oH
 simp only[oO,aS,pY,aE,aq,aj,bK,bN,bO,oj,ob,ak,ao,bj,bp,au,am,k1,ba,o1,ek,e]
 rw[ew]
 cases hf:(tB (λw=>decide (w=Wd.rising)) R.1).find? (dO r R) with
 | some g=>simp only[bW,ob,aO,sR]
 | none=>
  have n1:=hn S r R hl hl2
  simp only[aH,aS,bu,aE,aq,aj,bK,bN,bO,oj,ob,ak,ao,au,am,ba,n1,bv,aZ,fL,gI,bP,aV,mL,aK,aJ,av,bp,ax,mX]
  cases rT r R with
  | none=>simp[oh,nQ,sR]
  | some g=>simp[oh,nQ,sR,FC,Ev.d]
def mE(ww li:PF):MS:=aF (aX (af 2) (bi 2 (ag (ah 3) (ag (ah 4) aW)))) (aF (bY (aB (ay cy (af 3) (mC (.str "steps")))) (bq (aw 3 ww (aa (af 1) (aa (af 4) (aa (mC (.str "raised")) ai))))) bn) (bq (aw 3 li (aa (af 0) (aa (af 1) (aa (af 4) ai))))))
theorem DN{ww li:PF}(hw:∀ (S:ac) (R:Rm) (g:Nat) (w:Wd),g<R.1.length->R.1.length<=100->ww [aP R,.int (g:Int),w.d] S=U (aP (R.1.set g w,R.2),S))
  (hi:∀ (S:ac) (r:Rl) (R:Rm) (i:Nat) (e:En),ROk R->R.2[i]?=U e->R.1.length<=50->li [r.d,aP R,.int (e.g:Int)] S=U (aP (sP r R i e),S)) {N:List Str} (hN:N.length=5) (h:ROk R) (hl:R.1.length<=50) {v:Ev} (s:GM r R (U v) R' l) :
  aQ N (mE ww li) 3 [r.d,aP R,v.d] S=U (aP R',S):=by
 have hst:az N [r.d,aP R,v.d]=[U r.d,U (aP R),U v.d,Y,Y]:=by simp[az,hN,adg]
 rw[bg (show [r.d,aP R,v.d].length=3 from rfl),hst]
 have g2:∀ env S,bi 2 (ag (ah 3) (ag (ah 4) aW)) v.d env S=(ag (ah 3) (ag (ah 4) aW)) [.str v.w,.int (v.g:Nat)] env S:=λenv S=>cE
 simp only[mE,aS,bu,aj,bK,bN,bO,oj,ob,ak,bv,g2,bF,aZ,dc,ci,fL,gI,bP,aH,bt,aK,aJ,av,bp,ax,cN]
 cases s with
 | up g hg=>
  have e1:(("steps":Str)==("steps":Str))=true:=by decide
  have w1:ww [aP R,.int (g:Int),.str "raised"] S=U (aP (R.1.set g .raised,R.2),S):=hw S R g .raised (Yz.mp hg).1 (by omega)
  simp only[e1,aI,bU,aV,aE,aq,aj,bK,bN,bO,oj,ob,ak,ao,bp,au,am,ce,w1,bC,bW,aO]
 | go i e he=>
  have e1:(("in":Str)==("steps":Str))=false:=by decide
  have w1:=hi S r R i e h he hl
  simp only[e1,aI,bS,bE,aH,aV,aE,aq,aj,bK,bN,bO,oj,ob,ak,ao,au,am,ce,w1,bC,aO]
def Eu(br co:PF):MS:=aF (aX (aw 3 br (aa (af 0) (aa (af 1) (aa (af 3) ai)))) (ah 1)) (aF (fo (fz ej (af 2) (aa (af 3) ai))) (aX (aw 2 co (aa (af 0) (aa (af 1) ai))) (ah 3)))
def Er:MT:=aB (ay ph (af 3) (mC .non))
def mD(br co:PF):MS:=aF (aX (gR ai) (ah 2)) (aF (aX (aw 2 co (aa (af 0) (aa (af 1) ai))) (ah 3)) (aF (fR Er (Eu br co)) (bq (be (aa (af 1) (aa (bw (aU (cR .tup)) (aa (af 2) ai)) ai))))))
structure Yq(br co:PF):Prop where
 c:∀ (S:ac) (r:Rl) (R:Rm),R.1.length<=100->R.2.length<=100->co [r.d,aP R] S=U (sR (oH r R),S)
 b:∀ (S:ac) (r:Rl) (R:Rm) (v:Ev) (R':Rm) (l:List Ev),ROk R->R.1.length<=50->GM r R (U v) R' l->br [r.d,aP R,v.d] S=U (aP R',S)
theorem xD(O:Yq br co)(hb:0<=r.b):∀ (n f:Nat) (R:Rm) (evs:List Ev),ROk R->R.1.length<=50->Wk R<=n->n<f->evs.length+n<=400 ->
  gP Er (Eu br co) f [U r.d,U (aP R),U (.ref S.length),U (sR (oH r R))] (S++[.lst (evs.map Ev.d)])=U (.nx [U r.d,U (aP (tS r n R).1),U (.ref S.length),U .non] (S++[.lst ((evs++(tS r n R).2).map Ev.d)]))
 | n,0,R,evs,_,_,_,hf,_=>by omega
 | n,f+1,R,evs,h,hl,hm,hf,he=>by
  have s:=yE (r:=r) h hb
  rw[Jv]
  simp only[Er,aK,aJ,aj,bK,bN,bO,oj,ob,ak,av,bp,ax,qx]
  rcases IF h s with ⟨h1,h2,h3⟩ | ⟨v,h1,h2,h3⟩
  ·rw[h1,Bn h1 h hb n]
   simp only[sR,nQ,Zk,aI,ob,kWh_f,Zn]
  ·cases n with
   | zero=>omega
   | succ n=>
    obtain⟨q1,q2⟩:=Et (r:=r) h
    have ih:=xD O hb n f (mw r R).1 (evs++[v]) q1 (by omega) (by omega) (by omega) (by simp;omega)
    rw[h1] at s ⊢
    have b1:∀ S,br [r.d,aP R,v.d] S=U (aP (mw r R).1,S):=λS=>O.b S r R v _ _ h hl s
    have c1:∀ S,co [r.d,aP (mw r R).1] S=U (sR (oH r (mw r R).1),S):=λS=>O.c S r _ (by omega) (by have:=q1.len;omega)
    have ap:ej (.ref S.length) [v.d] (S++[.lst (evs.map Ev.d)])=U (.non,S++[.lst ((evs++[v]).map Ev.d)]):=Ge (by omega)
    have nn:nQ (sR (U v)) .non=false:=rfl
    have ev:sR (U v)=v.d:=rfl
    rw[nn]
    simp only[Zo,aI,ob,kWh_t,Eu,aS,bu,aE,aq,aj,bK,bN,bO,oj,ak,ao,au,am,ce,ev,b1,bv,aZ,fL,gI,bP,aH,nK,nJ,Au,gW,ap,nP,ba,c1,RU]
    have e2:tS r (n+1) R=((tS r n (mw r R).1).1,(mw r R).2++(tS r n (mw r R).1).2):=rfl
    rw[e2,h2,<- Ze]
    exact ih
theorem zo(O:Yq br co)(hb:0<=r.b){N:List Str}(hN:N.length=4)(h:ROk R)(hl:R.1.length<=50) :
  aQ N (mD br co) 2 [r.d,aP R] S=U (.tup [aP (aY r R).1,eE (aY r R).2],S++[.lst ((aY r R).2.map Ev.d)]):=by
 have hst:az N [r.d,aP R]=[U r.d,U (aP R),Y,Y]:=by simp[az,hN,adg]
 rw[bg (show [r.d,aP R].length=2 from rfl),hst]
 have k0:yf ([],S)=U (.ref S.length,S++[.lst []]):=qg (by simp)
 have c1:∀ S,co [r.d,aP R] S=U (sR (oH r R),S):=λS=>O.c S r _ (by omega) (by have:=h.len;omega)
 have lp:=xD (S:=S) O hb (2*R.1.length) 5000 R [] h hl (Wj h) (by omega) (by simp;omega)
 simp only[abK,abZ] at lp
 have k2:∀ S x y,cz ([x,y],S)=U (.tup [x,y],S):=λS x y=>aT (by simp)
 unfold aY
 simp only[mD,aS,bu,zX,au,ob,k0,bv,aZ,fL,gI,bP,aH,aE,aq,aj,bK,bN,bO,oj,ak,ao,am,ba,c1,Na,lp,aV,bj,bZ,cb,OC,k2,bC,aO]
end
section
variable{r:Rl}
structure Calm(ws:List Wd):Prop where
 only:∀ w∈ws,w=.out\/w=.reads
 one:1<=ws.count .reads
theorem Calm.set(c:Calm ws){g:Nat}(hg:ws[g]?=U .out):Calm (ws.set g .reads)/\(ws.set g .reads).count .reads=ws.count .reads+1:=by
 have h:=lv (b:=.reads) hg (by decide) .reads
 simp at h
 have:=c.one
 refine⟨⟨λw hw=>?_,by omega⟩,h⟩
 rcases List.mem_or_eq_of_mem_set hw with z | z
 ·exact c.only w z
 ·exact .inr z
end
def xK:cw 0 n=(List.range n).map ni:=by
 unfold cw ni
 refine aaU λi _=>?_
 rw[acx]
noncomputable def rJ(n:Nat):List Dd:=[false,true].flatMap λwr=>(List.range n).map λg=>Dd.ask wr g Y
noncomputable def TZ(n:Nat):List Dd:=[Ak.up,.down,.leave,.stop].flatMap λk=>(List.range n).map λg=>Dd.act k g
noncomputable def rL(n:Nat):List Dd:=rJ n++TZ n
def DU:(rJ n).length=n+n:=by simp[rJ]
def Qj:(TZ n).length=n+(n+(n+n)):=by simp[TZ]
def TY{dd:Dd}(h:dd∈rL n):dd.Ok n/\dd≠.tick:=by
 rcases YX.mp h with h | h
 ·obtain⟨wr,_,h⟩:=List.mem_flatMap.mp h
  obtain⟨g,hg,rfl⟩:=Zb.mp h
  exact⟨⟨ZU.mp hg,λk hk=>by cases hk⟩,by intro z;cases z⟩
 ·obtain⟨k,_,h⟩:=List.mem_flatMap.mp h
  obtain⟨g,hg,rfl⟩:=Zb.mp h
  exact⟨ZU.mp hg,by intro z;cases z⟩
def pN(wait:PF):MS:=
 aF (bY (aB (ay cy (ay aA (af 1) (mC (.int 0))) (mC (.str "tick")))) (bq (mC (.bl true))) bn) (aF (aX (bI (af 1) bJ (cx (mC (.int 2)))) (bi 2 (ag (ah 2) (ag (ah 3) aW)))) (aF (aX (ay aA (ay aA (af 0) (mC (.int 0))) (af 3)) (ah 4)) (aF (bY (aB (ay cy (af 2) (mC (.str "up")))) (bq (ay cy (af 4) (mC (.str "reads")))) bn) (aF (bY (aB (ay cy (af 2) (mC (.str "down")))) (bq (ay pi (af 4) (mC (.tup [.str "writes",.str "raised"])))) bn) (aF (bY (aB (ay cy (af 2) (mC (.str "leave")))) (bq (ay jo (af 4) (mC (.str "out")))) bn) (aF (bY (aB (ay cy (af 2) (mC (.str "stop")))) (bq (ay ph (aw 2 wait (aa (af 0) (aa (af 3) ai))) (mC .non))) bn) (bq (ft (ay cy (af 4) (mC (.str "out"))) (ay Ee (aw 2 wait (aa (af 0) (aa (af 3) ai))) (mC .non))))))))))
def FZ{es:List En}{g:Nat}:(es.find? λe=>decide (e.g=g)).isSome=bz es g:=by
 unfold bz;rw[List.isSome_find?]
def lE:nQ (kh R g) .non = !(decide (R.1[g]?=U .rising)||bz R.2 g):=by
 unfold kh
 rw[<- FZ]
 by_cases h:R.1[g]?=U .rising
 ·rw[YR h,YM h];rfl
 ·rw[if_neg h,YK h]
  cases R.2.find? λe=>decide (e.g=g) with
  | none=>rfl
  | some e=>cases e.wr<;>rfl
def yI(O:rN wait){N:List Str}(hN:N.length=5){R:Rm}{dd:Dd}(hl:R.1.length<=100)(hd:dd.Ok R.1.length)(ht:dd≠.tick):aQ N (pN wait) 2 [aP R,dd.d] S=U (.bl (dP R dd),S):=by
 have hst:az N [aP R,dd.d]=[U (aP R),U dd.d,Y,Y,Y]:=by simp[az,hN,adg]
 rw[bg (show [aP R,dd.d].length=2 from rfl),hst]
 have x0:∀ S,aA S dd.d (.int 0)=U (.str (gf dd)):=λS=>by cases dd<;>first | rfl | exact absurd rfl ht
 have tk:cy S (.str (gf dd)) (.str "tick")=U (.bl false):=by rw[cN,DF ht]
 have hg:bb dd<R.1.length:=by cases dd with
  | ask _ _ _=>exact hd.1
  | act _ _=>exact hd
  | tick=>exact absurd rfl ht
 have hw:R.1[bb dd]?=U R.1[bb dd]:=YG hg
 have xw:∀ S,aA S (cF R.1) (.int (bb dd:Int))=U (R.1[bb dd]).d:=λS=>xr hw
 have sl:∀ S,kf dd.d Y (U 2,S)=U (.tup [.str (gf dd),.int (bb dd:Int)],S):=λS=>by cases dd<;>first | rfl | exact absurd rfl ht
 have g2:∀ x y env S,bi 2 (ag (ah 2) (ag (ah 3) aW)) (.tup [x,y]) env S=(ag (ah 2) (ag (ah 3) aW)) [x,y] env S:=λx y env S=>cE
 have rx:∀ S,aA S (aP R) (.int 0)=U (cF R.1):=λS=>rfl
 have wt:∀ S,wait [aP R,.int (bb dd:Int)] S=U (kh R (bb dd),S):=λS=>O S R _ hl
 simp only[pN,aS,bt,aK,aJ,aj,bK,bN,bO,oj,ob,ak,av,bp,ax,x0,tk,aI,bS,bE,aH,bu,cO,fZ,cU,fY,dF,dI,sl,bv,g2,bF,aZ,dc,ci,fL,gI,bP,rx,xw]
 generalize hv:R.1[bb dd]=w at hw
 have e1:cy S w.d (.str "reads")=U (.bl (decide (w=.reads))):=mZ (b:=.reads)
 have e2:jo S w.d (.str "out")=U (.bl (!decide (w=.out))):=vM (b:=.out)
 have e3:cy S w.d (.str "out")=U (.bl (decide (w=.out))):=mZ (b:=.out)
 cases dd with
 | tick=>exact absurd rfl ht
 | act k g=>
  simp only[bb] at hw wt ⊢
  have wk:∀ j:Ak,cy S (.str (gf (.act k g))) (.str j.s)=U (.bl (decide (k=j))):=λj=>As
  have w1:=wk .up
  have w2:=wk .down
  have w3:=wk .leave
  have w4:=wk .stop
  simp only[Ak.s] at w1 w2 w3 w4
  cases k with
  | up=>simp only[w1,aI,ob,aar,bU,aV,aJ,aj,bK,bN,bO,oj,ak,av,bp,ax,e1,bC,bW,aO,dP,hw,ZW]
  | down=>simp (decide:=true) only[w1,w2,aI,ob,aar,aaC,bS,bE,aH,bU,aS,bt,aK,aV,aJ,aj,bK,bN,bO,oj,ak,av,bp,ax,Ov,bC,bW,aO,dP,hw,ZW]
  | leave=>simp (decide:=true) only[w1,w2,w3,aI,ob,aar,aaC,bS,bE,aH,bU,aS,bt,aK,aV,aJ,aj,bK,bN,bO,oj,ak,av,bp,ax,e2,bC,bW,aO,dP,hw,ZW,ne_eq,decide_not]
  | stop=>
   simp (decide:=true) only[w1,w2,w3,w4,aI,ob,aar,aaC,bS,bE,aH,bU,aS,bt,aK,aV,aJ,aj,bK,bN,bO,oj,ak,av,bp,ax,aE,aq,ao,au,am,ba,wt,qx,lE,bC,bW,aO,dP,Bool.not_not,Bool.or_comm]
 | ask wr g t=>
  simp only[bb] at hw wt ⊢
  have w1:cy S (.str (gf (.ask wr g t))) (.str "up")=U (.bl false):=by rw[cN];cases wr<;>rfl
  have w2:cy S (.str (gf (.ask wr g t))) (.str "down")=U (.bl false):=by rw[cN];cases wr<;>rfl
  have w3:cy S (.str (gf (.ask wr g t))) (.str "leave")=U (.bl false):=by rw[cN];cases wr<;>rfl
  have w4:cy S (.str (gf (.ask wr g t))) (.str "stop")=U (.bl false):=by rw[cN];cases wr<;>rfl
  simp only[w1,w2,w3,w4,aI,ob,bS,bE,aH,aS,bt,aK,aV,aJ,aj,bK,bN,bO,oj,ak,av,bp,ax,lM,e3]
  by_cases hw':w=.out
  ·subst hw'
   simp only[aar,WS,aJ,aE,aq,aj,bK,bN,bO,oj,ob,ak,ao,au,am,ba,wt,av,bp,ax,mX,lE,bC,aO,dP,hw,ZW]
   simp
  ·simp only[YK hw',WT,ob,bC,aO,dP,hw,ZW,aaA]
section
variable{r:Rl}{R:Rm}{g:Nat}
theorem Es(h:(mw r R).1.1[g]?=U .rising):R.1[g]?=U .rising:=by
 have key:∀ (i:Nat) (w:Wd),w≠.rising->(R.1.set i w)[g]?=U .rising->R.1[g]?=U .rising:=λi w hw q=>by
  by_cases e:i=g
  ·subst e
   by_cases hl:i<R.1.length
   ·rw[Zg hl] at q;exact absurd (YU q) hw
   ·rw[List.getElem?_eq_none (by simp;omega)] at q;cases q
  ·rwa[Zf e] at q
 unfold mw at h
 split at h
 ·exact key _ _ (by decide) h
 ·split at h
  ·split at h
   ·rename_i e _
    refine key _ _ ?_ h
    cases e.wr<;>decide
   ·exact h
  ·exact h
theorem oM:∀ (n:Nat) {R:Rm},(tS r n R).1.1[g]?=U .rising->R.1[g]?=U .rising
 | 0,_,h=>h
 | n+1,R,h=>Es (oM n (R:=(mw r R).1) h)
def IG(h:bz (mw r R).1.2 g=true):bz R.2 g=true:=by
 obtain⟨e,he,hg⟩:=ZE.mp h
 unfold mw at he
 split at he
 ·exact ZE.mpr ⟨e,he,hg⟩
 ·split at he
  ·split at he
   ·rcases YX.mp he with he | he
    ·obtain⟨y,hy,rfl⟩:=Zb.mp he
     exact ZE.mpr ⟨y,ZS hy,hg⟩
    ·exact ZE.mpr ⟨e,acB he,hg⟩
   ·exact ZE.mpr ⟨e,he,hg⟩
  ·exact ZE.mpr ⟨e,he,hg⟩
theorem xF:∀ (n:Nat) {R:Rm},bz (tS r n R).1.2 g=true->bz R.2 g=true
 | 0,_,h=>h
 | n+1,R,h=>IG (xF n (R:=(mw r R).1) h)
def ux(h:ROk R){w:Wd}(hw:R.1[g]?=U w)(ho:w≠.out):bz R.2 g=false:=by
 cases z:bz R.2 g with
 | false=>rfl
 | true=>
  obtain⟨e,he,hg⟩:=ZE.mp z
  have:=h.out e he
  rw[ZH hg,hw] at this
  exact absurd (YU this) ho
def Dp(h:bz es g=false):(es.filter λe=>decide (e.g≠g))=es:=by
 rw[Zu]
 intro e he
 exact YM (jj h he)
end
def Ix(settled:PF):Prop:=∀ (S:ac) (r:Rl) (R:Rm),0<=r.b->ROk R->R.1.length<=50->settled [r.d,aP R] S=U (.tup [aP (aY r R).1,eE (aY r R).2],S++[.lst ((aY r R).2.map Ev.d)])
structure DeOk(settled wait gw ww:PF):Prop where
 s:Ix settled
 w:rN wait
 g:Qk gw
 ww:∀ (S:ac) (R:Rm) (g:Nat) (w:Wd),g<R.1.length->R.1.length<=100->ww [aP R,.int (g:Int),w.d] S=U (aP (R.1.set g w,R.2),S)
theorem Gc{k l:List Ev}(h:k.length<=400)(h':l.length<=400):aM S (eE k) (eE l)=U (eE (k++l)):=by
 show aM S (.tup (k.map Ev.d)) (.tup (l.map Ev.d))=_
 rw[ge (by simp;omega),<- Zq];rfl
theorem yX{R:Rm}(hl:R.1.length<=50):(aY r R).2.length<=100:=YW (nI _) (by omega)
noncomputable def gG(x:Rm×List Ev):D:=.tup [aP x.1,eE x.2]
def EK:MS:=aF (aX (af 0) (bi 2 (ag (ah 2) (ag (ah 3) aW)))) (bq (be (aa (af 2) (aa (bw (aU (cR .tup)) (aa (bH (dq (af 3)) (ah 0) (aB (ay jo (ay aA (af 0) (mC (.int 0))) (af 1))) (af 0) [Y,U 1]) ai)) ai))))
section
variable{S:ac}{r:Rl}{R:Rm}{g:Nat}{N:List Str}{settled wait gw ww wo sb tu ol:PF}
def Vb(hN:N.length=4)(hl:R.2.length<=100):aQ N EK 2 [aP R,.int (g:Int)] S=U (aP (R.1,R.2.filter λe=>decide (e.g≠g)),S):=by
 have hst:az N [aP R,.int (g:Int)]=[U (aP R),U (.int (g:Int)),Y,Y]:=by simp[az,hN,adg]
 rw[bg (show [aP R,D.int (g:Int)].length=2 from rfl),hst]
 have g2:∀ env S,bi 2 (ag (ah 2) (ag (ah 3) aW)) (aP R) env S=(ag (ah 2) (ag (ah 3) aW)) [cF R.1,esD R.2] env S:=λenv S=>cE
 have k:=LY (S:=S) (es:=R.2) (g:=g) (b:=Y) (cap:=[Y,U 1]) (env:=[U (aP R),U (.int (g:Int)),U (cF R.1),U (esD R.2)]) rfl hl
 simp only[EK,aS,bu,aj,bK,bN,bO,oj,ob,ak,bv,g2,bF,aZ,dc,ci,fL,gI,bP,aH,aV,bj,aq,bZ,bL,cV,eD,k,ao,au,am,cb,fN,FC,bC,aO]
 rfl
def EM(settled:PF):MS:=aF (aX (aw 2 settled (aa (af 0) (aa (af 1) ai))) (bi 2 (ag (ah 1) (ag (ah 3) aW)))) (bq (be (aa (af 1) (aa (ay aM (af 2) (af 3)) ai))))
def Ub(sb:PF):Prop:=∀ (S:ac) (r:Rl) (R:Rm) (l:List Ev),0<=r.b->ROk R->R.1.length<=50->l.length<=400->∃ T,sb [r.d,aP R,eE l] S=U (gG ((aY r R).1,l++(aY r R).2),S++T)
theorem Vs(O:Ix settled)(hN:N.length=4){l:List Ev}(hb:0<=r.b)(h:ROk R)(hl:R.1.length<=50)(h4:l.length<=400):∃ T,aQ N (EM settled) 3 [r.d,aP R,eE l] S=U (gG ((aY r R).1,l++(aY r R).2),S++T):=by
 have hst:az N [r.d,aP R,eE l]=[U r.d,U (aP R),U (eE l),Y]:=by simp[az,hN,adg]
 rw[bg (show [r.d,aP R,eE l].length=3 from rfl),hst]
 have o:=O S r R hb h hl
 have fw:=yX (r:=r) hl
 have g2:∀ (x y:D) env S,bi 2 (ag (ah 1) (ag (ah 3) aW)) (.tup [x,y]) env S=(ag (ah 1) (ag (ah 3) aW)) [x,y] env S:=λx y env S=>cE
 have ec:∀ S,aM S (eE l) (eE (aY r R).2)=U (eE (l++(aY r R).2)):=λS=>Gc h4 (by omega)
 refine⟨[.lst ((aY r R).2.map Ev.d)],?_⟩
 simp only[EM,aS,bu,aE,aq,aj,bK,bN,bO,oj,ob,ak,ao,au,am,ba,o,bv,g2,bF,aZ,dc,ci,fL,gI,bP,aH,aV,bj,aJ,av,ax,ec,FC,bC,aO,gG]
def tuC:ME:=bH (dq (af 4)) (bi 4 (ag (ah 0) (ag (ah 1) (ag (ah 2) (ag (ah 3) aW))))) bQ (be (aa (af 0) (aa (af 1) (aa (oV (aB (ay cy (af 1) (mC (.str "read")))) (mC (.int 1)) (af 2)) (aa (af 3) ai))))) [Y,Y,Y,Y]
def EL:MS:=aF (aX (af 1) (bi 2 (ag (ah 3) (ag (ah 4) aW)))) (aF (bY (gH (aB (ay jo (ay aA (af 0) (mC (.int 0))) (mC (.str "turns")))) (aB (ay jo (ay aA (af 3) (af 2)) (mC (.str "writes"))))) (bq (af 1)) bn) (bq (be (aa (af 3) (aa (bw (aU (cR .tup)) (aa tuC ai)) ai)))))
def NA{e:ME}{f:En->D}{a b c d:Option D}{es:List En}(hc:vZ cap env=[a,b,c,d])(hl:es.length<=1000)(he:∀ x:En,e [U (.int (x.g:Nat)),U (.str (bA x.wr)),U (.int x.m),U (bR x.t)] S=U (f x,S)) :
  mP (bi 4 (ag (ah 0) (ag (ah 1) (ag (ah 2) (ag (ah 3) aW))))) bQ e cap env (es.map En.d,S)=U (.lst (es.map f),S):=by
 rw[jC (by rw[YE];exact hl),hc,PN (t:=e) (f:=f) (λx a b c d=>?_) he,ob,lm]
 rw[show x.d=.tup [.int (x.g:Nat),.str (bA x.wr),.int x.m,bR x.t] from rfl,tE]
 simp only[bF,aZ,ob,fL,gI,dc,ci]
def Lk:(bA b==("read":Str)) = !b:=by cases b<;>decide +kernel
def TuOk(tu:PF):Prop:=∀ (S:ac) (r:Rl) (R:Rm) (g:Nat) (w:Wd),R.1[g]?=U w->R.2.length<=100->tu [r.d,aP R,.int (g:Int)] S=U (aP (R.1,uz r w R.2),S)
theorem Vi(hN:N.length=5){w:Wd}(hw:R.1[g]?=U w)(hl:R.2.length<=100):aQ N EL 3 [r.d,aP R,.int (g:Int)] S=U (aP (R.1,uz r w R.2),S):=by
 have hst:az N [r.d,aP R,.int (g:Int)]=[U r.d,U (aP R),U (.int (g:Int)),Y,Y]:=by simp[az,hN,adg]
 rw[bg (show [r.d,aP R,D.int (g:Int)].length=3 from rfl),hst]
 have g2:∀ env S,bi 2 (ag (ah 3) (ag (ah 4) aW)) (aP R) env S=(ag (ah 3) (ag (ah 4) aW)) [cF R.1,esD R.2] env S:=λenv S=>cE
 have xw:aA S (cF R.1) (.int (g:Int))=U w.d:=xr hw
 have x0:aA S r.d (.int 0)=U (.str r.w.s):=rfl
 have e1:jo S (.str r.w.s) (.str "turns")=U (.bl (!decide (r.w=.turns))):=by
  rw[rA];congr 2;cases r.w<;>decide +kernel
 have e2:jo S w.d (.str "writes")=U (.bl (!decide (w=.writes))):=vM (b:=.writes)
 have k:=NA (S:=S) (es:=R.2) (cap:=[Y,Y,Y,Y]) (env:=[U r.d,U (aP R),U (.int (g:Int)),U (cF R.1),U (esD R.2)]) (a:=Y) (b:=Y) (c:=Y) (d:=Y) (e:=be (aa (af 0) (aa (af 1) (aa (oV (aB (ay cy (af 1) (mC (.str "read")))) (mC (.int 1)) (af 2)) (aa (af 3) ai))))) (f:=λx=>(if x.wr then x else { x with m:=1 }).d) rfl (by omega) λx=>by
  obtain⟨xg,xwr,xm,xt⟩:=x
  cases xwr with
  | true=>
   have:cy S (.str (bA true)) (.str "read")=U (.bl false):=by rw[cN,Lk];rfl
   simp only[bj,aq,aj,bK,bN,bO,oj,ob,ak,ao,mL,aK,aJ,av,bp,ax,this,aI,HE,au,am,LB]
   rfl
  | false=>
   have:cy S (.str (bA false)) (.str "read")=U (.bl true):=by rw[cN,Lk];rfl
   simp only[bj,aq,aj,bK,bN,bO,oj,ob,ak,ao,mL,aK,aJ,av,bp,ax,this,aI,CQ,au,am,LB]
   rfl
 simp only[EL,aS,bu,aj,bK,bN,bO,oj,ob,ak,bv,g2,bF,aZ,dc,ci,fL,gI,bP,aH,bt,iC,aK,aJ,av,bp,ax,x0,e1,aI]
 unfold uz
 by_cases h1:r.w=.turns
 ·simp only[YM h1,Zk,lQ,aK,aJ,aj,bK,bN,bO,oj,ob,ak,av,bp,ax,xw,e2,aI]
  by_cases h2:w=.writes
  ·simp only[YM h2,Zk,bS,bE,ob,aH,aV,bj,aq,aj,bK,bN,bO,oj,ak,ao,bZ,tuC,bL,cV,eD,k,au,am,cb,fN,FC,bC,aO]
   rw[YR ⟨h1,h2⟩]
   simp only[aP,esD,ZA]
   rfl
  ·simp only[YK h2,Zo,bU,aV,aj,bK,bN,bO,oj,ob,ak,bC,bW,aO]
   rw[if_neg (λz=>h2 z.2)]
 ·simp only[YK h1,Zo,vc,ob,bU,aV,aj,bK,bN,bO,oj,ak,bC,bW,aO]
  rw[if_neg (λz=>h1 z.1)]
def zq(settled wait wo:PF):MS:=aF (aX (af 2) (bi 3 (ag (ah 3) (ag (ah 4) (ag (ah 5) aW))))) (aF (aX (af 1) (bi 2 (ag (ah 6) (ag (ah 7) aW)))) (aF (aX (be (aa (af 4) (aa (af 3) (aa (mC (.int 0)) (aa (oV (aB (ay cy (af 5) (mC (.int 0)))) (mC (.int 1)) (af 5)) ai))))) (ah 8)) (aF (aX (aw 2 settled (aa (af 0) (aa (be (aa (af 6) (aa (ay aM (af 7) (be (aa (af 8) ai))) ai))) ai))) (bi 2 (ag (ah 1) (ag (ah 9) aW)))) (aF (bY (aB (ay Ee (aw 2 wait (aa (af 1) (aa (af 4) ai))) (mC .non))) (bq (be (aa (af 1) (aa (af 9) ai)))) bn) (aF (bY (aB (ay cy (af 5) (mC (.int 0)))) (bq (be (aa (aw 2 wo (aa (af 1) (aa (af 4) ai))) (aa (ay aM (af 9) (be (aa (be (aa (mC (.str "no")) (aa (af 4) ai))) ai))) ai)))) bn) (bq (be (aa (af 1) (aa (ay aM (af 9) (be (aa (be (aa (mC (.str "waits")) (aa (af 4) ai))) ai))) ai)))))))))
def Yn(wo:PF):Prop:=∀ (S:ac) (R:Rm) (g:Nat),R.2.length<=100->wo [aP R,.int (g:Int)] S=U (aP (R.1,R.2.filter λe=>decide (e.g≠g)),S)
theorem TX(O:Ix settled)(W:rN wait)(V:Yn wo)(hN:N.length=10)(hb:0<=r.b)(h:ROk R)(hl:R.1.length<=50)(hw:R.1[g]?=U .out)(hs:bz R.2 g=false):∃ T,aQ N (zq settled wait wo) 3 [r.d,aP R,(Dd.ask wr g t).d] S=U (gG (wf r R wr g t),S++T):=by
 have hst:az N [r.d,aP R,(Dd.ask wr g t).d]=[U r.d,U (aP R),U (Dd.ask wr g t).d,Y,Y,Y,Y,Y,Y,Y]:=by simp[az,hN,adg]
 rw[bg (show [r.d,aP R,(Dd.ask wr g t).d].length=3 from rfl),hst]
 have hle:=h.len
 have ok:=AN (wr:=wr) (t:=t) h hw hs
 have g3:∀ env S,bi 3 (ag (ah 3) (ag (ah 4) (ag (ah 5) aW))) (Dd.ask wr g t).d env S=(ag (ah 3) (ag (ah 4) (ag (ah 5) aW))) [.str (bA wr),.int (g:Int),bR t] env S:=λenv S=>HL
 have g2:∀ env S,bi 2 (ag (ah 6) (ag (ah 7) aW)) (aP R) env S=(ag (ah 6) (ag (ah 7) aW)) [cF R.1,esD R.2] env S:=λenv S=>cE
 have g2':∀ (x y:D) env S,bi 2 (ag (ah 1) (ag (ah 9) aW)) (.tup [x,y]) env S=(ag (ah 1) (ag (ah 9) aW)) [x,y] env S:=λx y env S=>cE
 have hi:oV (aB (ay cy (af 5) (mC (.int 0)))) (mC (.int 1)) (af 5) [U r.d,U (aP R),U (Dd.ask wr g t).d,U (.str (bA wr)),U (.int (g:Int)),U (bR t),U (cF R.1),U (esD R.2),Y,Y] S=U (bR (if t=U 0 then U 1 else t),S):=by
  simp only[mL,aK,aJ,aj,bK,bN,bO,oj,ob,ak,av,bp,ax,jO,aI]
  by_cases z:t=U 0
  ·rw[YM z,YR z];simp only[CQ,bp];rfl
  ·rw[YK z,if_neg z];simp only[HE,aj,bK,bN,bO,oj,ob,ak]
 have ed:D.tup [.int (g:Int),.str (bA wr),.int 0,bR (if t=U 0 then U 1 else t)]=(lY wr g t).d:=rfl
 have ae:aM S (esD R.2) (.tup [(lY wr g t).d])=U (esD (R.2++[lY wr g t])):=by
  show aM S (.tup (R.2.map En.d)) _=_
  rw[ge (by simp;omega)];simp[esD]
 have so:=O S r (R.1,R.2++[lY wr g t]) hb ok hl
 have so':settled [r.d,.tup [cF R.1,esD (R.2++[lY wr g t])]] S=_:=so
 have fw:=yX (r:=r) (R:=(R.1,R.2++[lY wr g t])) hl
 have lnS:(aY r (R.1,R.2++[lY wr g t])).1.1.length=R.1.length:=(dD (r:=r) ok).2
 have okS:=(dD (r:=r) ok).1
 have ln2:=okS.len
 generalize hA:aY r (R.1,R.2++[lY wr g t])=A at so' fw lnS okS ln2
 have nr:¬ A.1.1[g]?=U .rising:=λz=>by
  rw[<- hA] at z
  have:=oM _ z
  rw[hw] at this;cases this
 have wt:∀ S,wait [aP A.1,.int (g:Int)] S=U (kh A.1 g,S):=λS=>W S A.1 g (by omega)
 have vo:∀ S,wo [aP A.1,.int (g:Int)] S=U (aP (A.1.1,A.1.2.filter λe=>decide (e.g≠g)),S):=λS=>V S A.1 g (by omega)
 have e1:∀ S (w:Str),aM S (eE A.2) (.tup [.tup [.str w,.int (g:Int)]])=U (eE (A.2++[⟨w,g⟩])):=λS w=>Gc (l:=[⟨w,g⟩]) (by omega) (by simp)
 have wb:nQ (kh A.1 g) .non = !bz A.1.2 g:=by rw[lE,YK nr,Bool.false_or]
 refine⟨[.lst (A.2.map Ev.d)],?_⟩
 simp only[zq,aS,bu,aj,bK,bN,bO,oj,ob,ak,bv,g3,bF,aZ,dc,ci,fL,gI,bP,aH,g2,bj,aq,bp,hi,ao,au,am,LB,ed,aE,aJ,av,Hz,ax,ae,FC,ba,so',g2',bt,aK,wt,mX,wb,aI]
 unfold wf
 rw[hA]
 dsimp only
 cases hst:bz A.1.2 g with
 | false=>
  rw[YR rfl]
  simp only[Zo,bU,aV,bj,aq,aj,bK,bN,bO,oj,ob,ak,ao,au,am,FC,bC,bW,aO,gG]
 | true=>
  rw[if_neg (by decide)]
  simp only[Zk,bS,bE,ob,aH,aS,bt,aK,aJ,aj,bK,bN,bO,oj,ak,av,bp,ax,jO,aI]
  by_cases z:t=U 0
  ·rw[YM z,YR z]
   simp only[bU,aV,bj,aq,aE,aj,bK,bN,bO,oj,ob,ak,ao,au,am,ba,vo,aJ,av,bp,FC,Hz,ax,e1,bC,bW,aO,gG]
  ·rw[YK z,if_neg z]
   simp only[bS,bE,ob,aH,aV,bj,aq,aj,bK,bN,bO,oj,ak,ao,au,am,aJ,av,bp,FC,Hz,ax,e1,bC,aO,gG]
def GJ(h:ROk R){k:Ak}(hs:bz R.2 g=false):rM r k w g R.2=if k=.down\/k=.leave then uz r w R.2 else R.2:=by
 unfold rM
 refine Dp ?_
 split
 ·unfold uz
  split
  ·unfold bz
   rw[abo]
   refine Eq.trans ?_ hs
   unfold bz
   congr 1
   funext e
   show decide ((if e.wr=true then e else { e with m:=1 }).g=g)=_
   cases e.wr<;>rfl
  ·exact hs
 ·exact hs
def zp(settled wait gw ww:PF):MS:=aF (aX (ay aA (af 2) (mC (.int 1))) (ah 3)) (aF (bY (gH (aB (ay cy (ay aA (af 0) (mC (.int 3))) (mC (.int 0)))) (da (aw 2 gw (aa (af 1) (aa (be (aa (mC (.str "rising")) ai)) ai))))) (bq (be (aa (af 1) (aa (be (aa (be (aa (mC (.str "no")) (aa (af 3) ai))) ai)) ai)))) bn) (aF (aX (aw 2 settled (aa (af 0) (aa (aw 3 ww (aa (af 1) (aa (af 3) (aa (mC (.str "rising")) ai)))) ai))) (bi 2 (ag (ah 1) (ag (ah 4) aW)))) (aF (bY (aB (ay Ee (aw 2 wait (aa (af 1) (aa (af 3) ai))) (mC .non))) (bq (be (aa (af 1) (aa (af 4) ai)))) bn) (bq (be (aa (af 1) (aa (ay aM (af 4) (be (aa (be (aa (mC (.str "waits")) (aa (af 3) ai))) ai))) ai)))))))
theorem Vc(O:DeOk settled wait gw ww)(hN:N.length=5)(hb:0<=r.b)(h:ROk R)(hl:R.1.length<=50)(hw:R.1[g]?=U .reads):∃ T,aQ N (zp settled wait gw ww) 3 [r.d,aP R,(Dd.act .up g).d] S=U (gG (if r.c=0\/Wd.rising∈R.1 then(R,[⟨"no",g⟩]) else mr r R .up g .reads),S++T):=by
 have hst:az N [r.d,aP R,(Dd.act .up g).d]=[U r.d,U (aP R),U (Dd.act .up g).d,Y,Y]:=by simp[az,hN,adg]
 rw[bg (show [r.d,aP R,(Dd.act .up g).d].length=3 from rfl),hst]
 have hg:g<R.1.length:=(Yz.mp hw).1
 have x1:aA S (Dd.act .up g).d (.int 1)=U (.int (g:Int)):=rfl
 have x3:aA S r.d (.int 3)=U (.int r.c):=rfl
 have gr:gw [aP R,.tup [.str "rising"]] S=U (nt (tB (λw=>decide (w∈[Wd.rising])) R.1),S):=O.g S R [.rising] (by omega)
 have tr:CN (nt (tB (λw=>decide (w∈[Wd.rising])) R.1),S)=U (decide (Wd.rising∈R.1),S):=by
  cases hx:tB (λw=>decide (w∈[Wd.rising])) R.1 with
  | nil=>
   have:¬ Wd.rising∈R.1:=λz=>by
    obtain⟨i,hi⟩:=aaN.mp z
    have:i∈tB (λw=>decide (w∈[Wd.rising])) R.1:=mem_ixW.mpr ⟨_,hi,by simp⟩
    rw[hx] at this;cases this
   rw[YK this];rfl
  | cons i l=>
   have:i∈tB (λw=>decide (w∈[Wd.rising])) R.1:=by rw[hx];exact YF
   obtain⟨w,h1,h2⟩:=mem_ixW.mp this
   have e:w=.rising:=by simpa using h2
   subst e
   rw[YM (YY h1)];rfl
 have ref:(r.c=0\/Wd.rising∈R.1)->∀ env,env=[U r.d,U (aP R),U (Dd.act .up g).d,U (.int (g:Int)),Y]->gH (aB (ay cy (ay aA (af 0) (mC (.int 3))) (mC (.int 0)))) (da (aw 2 gw (aa (af 1) (aa (be (aa (mC (.str "rising")) ai)) ai)))) env S=U (true,S):=λz env he=>by
  subst he
  by_cases hc:r.c=0
  ·have:(r.c==0)=true:=by rw[hc];rfl
   simp only[iC,aK,aJ,aj,bK,bN,bO,oj,ob,ak,av,bp,ax,x3,lU,this,aI,vc]
  ·have q:(r.c==0)=false:=ZF.mpr hc
   simp only[iC,aK,aJ,aj,bK,bN,bO,oj,ob,ak,av,bp,ax,x3,lU,q,aI,lQ,df,aE,aq,ao,bj,au,am,Hz,ba,gr,tr,YM (z.resolve_left hc)]
 by_cases z:r.c=0\/Wd.rising∈R.1
 ·rw[YR z]
  refine⟨[],?_⟩
  simp only[zp,aS,bu,aJ,aj,bK,bN,bO,oj,ob,ak,av,bp,ax,x1,bv,aZ,fL,gI,bP,aH,bt,ref z _ rfl,bU,aV,bj,aq,ao,au,am,FC,Hz,bC,bW,aO,Zn]
  rfl
 ·rw[if_neg z]
  have hc:(r.c==0)=false:=ZF.mpr λq=>z (.inl q)
  have hr:¬ Wd.rising∈R.1:=λq=>z (.inr q)
  have hs:=ux h hw (by decide)
  have wwo:ww [aP R,.int (g:Int),.str "rising"] S=U (aP (R.1.set g .rising,R.2),S):=O.ww S R g .rising hg (by omega)
  have ok:ROk (R.1.set g .rising,R.2):=h.setW g .rising λe he=>jj hs he
  have so:=O.s S r (R.1.set g .rising,R.2) hb ok (by simp;omega)
  have fw:=yX (r:=r) (R:=(R.1.set g .rising,R.2)) (by simp;omega)
  have lnS:(aY r (R.1.set g .rising,R.2)).1.1.length=R.1.length:=(dD (r:=r) ok).2.trans (by simp)
  have ns:bz (aY r (R.1.set g .rising,R.2)).1.2 g=false:=by
   cases q:bz (aY r (R.1.set g .rising,R.2)).1.2 g with
   | false=>rfl
   | true=>have:=xF _ q;rw[hs] at this;cases this
  have aL:mr r R .up g .reads=((aY r (R.1.set g .rising,R.2)).1,(aY r (R.1.set g .rising,R.2)).2++(if (aY r (R.1.set g .rising,R.2)).1.1[g]?=U .rising then [⟨"waits",g⟩] else [])):=by
   unfold mr
   rw[GJ h hs,if_neg (by decide)]
   rfl
  rw[aL]
  generalize aY r (R.1.set g .rising,R.2)=A at so fw lnS ns
  have wt:∀ S,wait [aP A.1,.int (g:Int)] S=U (kh A.1 g,S):=λS=>O.w S A.1 g (by omega)
  have g2:∀ (x y:D) env S,bi 2 (ag (ah 1) (ag (ah 4) aW)) (.tup [x,y]) env S=(ag (ah 1) (ag (ah 4) aW)) [x,y] env S:=λx y env S=>cE
  have e1:∀ S (w:Str),aM S (eE A.2) (.tup [.tup [.str w,.int (g:Int)]])=U (eE (A.2++[⟨w,g⟩])):=λS w=>Gc (l:=[⟨w,g⟩]) (by omega) (by simp)
  have wb:nQ (kh A.1 g) .non = !decide (A.1.1[g]?=U .rising):=by rw[lE,ns,Bool.or_false]
  refine⟨[.lst (A.2.map Ev.d)],?_⟩
  simp only[zp,aS,bu,aJ,aj,bK,bN,bO,oj,ob,ak,av,bp,ax,x1,bv,aZ,fL,gI,bP,aH,bt,iC,aK,x3,lU,hc,aI,lQ,df,aE,aq,ao,bj,au,am,Hz,ba,gr,tr,YK hr,bS,bE,ce,wwo,so,g2,bF,dc,ci,wt,mX,wb]
  by_cases q:A.1.1[g]?=U .rising
  ·rw[YM q,YR q]
   simp only[Zk,bS,bE,ob,aH,aV,bj,aq,aj,bK,bN,bO,oj,ak,ao,au,am,aJ,av,bp,FC,Hz,ax,e1,bC,aO,gG]
  ·rw[YK q,if_neg q,Zn]
   simp only[Zo,bU,aV,bj,aq,aj,bK,bN,bO,oj,ob,ak,ao,au,am,FC,bC,bW,aO,gG]
def pL(sb ww tu:PF)(x y:Str):MS:=aF (aX (ay aA (af 2) (mC (.int 1))) (ah 3)) (bq (aw 3 sb (aa (af 0) (aa (aw 3 ww (aa (aw 3 tu (aa (af 0) (aa (af 1) (aa (af 3) ai)))) (aa (af 3) (aa (mC (.str x)) ai)))) (aa (be (aa (be (aa (mC (.str y)) (aa (af 3) ai))) ai)) ai)))))
def AS{k:Ak}{w':Wd}{es:List En}(hg:g<R.1.length)(hk:gL k w=w')(hr:w'≠.rising)(he:rM r k w g R.2=es):mr r R k g w=((aY r (R.1.set g w',es)).1,gc k g++(aY r (R.1.set g w',es)).2):=by
 unfold mr
 rw[hk,he]
 dsimp only
 rw[if_neg,Zn]
 intro z
 have:=oM _ z
 rw[Zg hg] at this
 exact hr (YU this)
theorem Dx(SB:Ub sb)(WW:∀ (S:ac) (R:Rm) (g:Nat) (w:Wd),g<R.1.length->R.1.length<=100->ww [aP R,.int (g:Int),w.d] S=U (aP (R.1.set g w,R.2),S))(TU:TuOk tu)(hN:N.length=4)(hb:0<=r.b)(h:ROk R)(hl:R.1.length<=50){w w':Wd}{k:Ak}{y:Str}(hw:R.1[g]?=U w)(ho:w≠.out)(hk:k=.down\/k=.leave)(ht:gL k w=w')(hr:w'≠.rising)(hf:gc k g=[⟨y,g⟩]) :
  ∃ T,aQ N (pL sb ww tu w'.s y) 3 [r.d,aP R,(Dd.act k g).d] S=U (gG (mr r R k g w),S++T):=by
 have hst:az N [r.d,aP R,(Dd.act k g).d]=[U r.d,U (aP R),U (Dd.act k g).d,Y]:=by simp[az,hN,adg]
 rw[bg (show [r.d,aP R,(Dd.act k g).d].length=3 from rfl),hst]
 have hg:g<R.1.length:=(Yz.mp hw).1
 have hle:=h.len
 have hs:=ux h hw ho
 have he:rM r k w g R.2=uz r w R.2:=by rw[GJ h hs,YR hk]
 rw[AS hg ht hr he,hf]
 have x1:aA S (Dd.act k g).d (.int 1)=U (.int (g:Int)):=rfl
 have t1:=TU S r R g w hw (by omega)
 have w1:ww [aP (R.1,uz r w R.2),.int (g:Int),.str w'.s] S=U (aP (R.1.set g w',uz r w R.2),S):=WW S (R.1,uz r w R.2) g w' hg (by show R.1.length<=100;omega)
 have ok:ROk (R.1.set g w',uz r w R.2):=by rw[<- he];exact AT h _
 obtain⟨T,s1⟩:=SB S r (R.1.set g w',uz r w R.2) [⟨y,g⟩] hb ok (by simp;omega) (by simp)
 refine⟨T,?_⟩
 have s1':sb [r.d,aP (R.1.set g w',uz r w R.2),.tup [.tup [.str y,.int (g:Int)]]] S=_:=s1
 simp only[pL,aS,bu,aJ,aj,bK,bN,bO,oj,ob,ak,av,bp,ax,x1,bv,aZ,fL,gI,bP,aH,aV,aE,aq,ao,au,am,ce,t1,w1,bj,FC,Hz,s1',bC,aO]
def pJ(sb ww wo wait:PF):MS:=aF (aX (ay aA (af 2) (mC (.int 1))) (ah 3)) (aF (bY (aB (ay cy (aw 2 wait (aa (af 1) (aa (af 3) ai))) (mC (.str "up")))) (aX (aw 3 ww (aa (af 1) (aa (af 3) (aa (mC (.str "reads")) ai)))) (ah 4)) (aX (aw 2 wo (aa (af 1) (aa (af 3) ai))) (ah 4))) (bq (aw 3 sb (aa (af 0) (aa (af 4) (aa (be (aa (be (aa (mC (.str "ends")) (aa (af 3) ai))) ai)) ai))))))
def GR:cy S (kh R g) (.str "up")=U (.bl (decide (R.1[g]?=U .rising))):=by
 unfold kh
 by_cases h:R.1[g]?=U .rising
 ·rw[YR h,YM h,cN];rfl
 ·rw[if_neg h,YK h]
  cases R.2.find? λe=>decide (e.g=g) with
  | none=>rw[lT rfl rfl];rfl
  | some e=>
   show cy S (.str (bA e.wr)) (.str "up")=_
   rw[cN];cases e.wr<;>rfl
theorem LC(SB:Ub sb)(WW:∀ (S:ac) (R:Rm) (g:Nat) (w:Wd),g<R.1.length->R.1.length<=100->ww [aP R,.int (g:Int),w.d] S=U (aP (R.1.set g w,R.2),S))(V:Yn wo)(W:rN wait)(hN:N.length=5)(hb:0<=r.b)(h:ROk R)(hl:R.1.length<=50){w:Wd}(hw:R.1[g]?=U w)(hc:dP R (.act .stop g)=true) :
  ∃ T,aQ N (pJ sb ww wo wait) 3 [r.d,aP R,(Dd.act .stop g).d] S=U (gG (mr r R .stop g w),S++T):=by
 have hst:az N [r.d,aP R,(Dd.act .stop g).d]=[U r.d,U (aP R),U (Dd.act .stop g).d,Y,Y]:=by simp[az,hN,adg]
 rw[bg (show [r.d,aP R,(Dd.act .stop g).d].length=3 from rfl),hst]
 have hg:g<R.1.length:=(Yz.mp hw).1
 have hle:=h.len
 have x1:aA S (Dd.act .stop g).d (.int 1)=U (.int (g:Int)):=rfl
 have wt:wait [aP R,.int (g:Int)] S=U (kh R g,S):=W S R g (by omega)
 have fin:∀ R':Rm,ROk R'->R'.1.length=R.1.length->mr r R .stop g w=((aY r R').1,gc .stop g++(aY r R').2)->∃ T,sb [r.d,aP R',.tup [.tup [.str "ends",.int (g:Int)]]] S=U (gG (mr r R .stop g w),S++T):=λR' ok hl' ha=>by
  obtain⟨T,s1⟩:=SB S r R' [⟨"ends",g⟩] hb ok (by omega) (by simp)
  refine⟨T,?_⟩
  rw[ha];exact s1
 by_cases hr:w=.rising
 ·subst hr
  have hs:=ux h hw (by decide)
  have he:rM r .stop .rising g R.2=R.2:=by rw[GJ h hs,if_neg (by decide)]
  have w1:ww [aP R,.int (g:Int),.str "reads"] S=U (aP (R.1.set g .reads,R.2),S):=WW S R g .reads hg (by omega)
  obtain⟨T,s1⟩:=fin (R.1.set g .reads,R.2) (h.setW g .reads λe q=>jj hs q) (by simp) (AS hg rfl (by decide) he)
  refine⟨T,?_⟩
  simp only[pJ,aS,bu,aJ,aj,bK,bN,bO,oj,ob,ak,av,bp,ax,x1,bv,aZ,fL,gI,bP,aH,bt,aK,aE,aq,ao,au,am,ba,wt,GR,YM hw,aI,bU,ce,w1,aV,bj,FC,Hz,s1,bC,aO]
 ·have ho:w=.out:=by
   unfold dP at hc
   rw[aaW] at hc
   rcases hc with q | q
   ·obtain⟨e,he,hge⟩:=ZE.mp q
    have:=h.out e he
    rw[ZH hge,hw] at this
    exact YU this
   ·have:=ZH q;rw[hw] at this;exact absurd (YU this) hr
  subst ho
  have hn:¬ R.1[g]?=U .rising:=by rw[hw];intro z;cases z
  have v1:wo [aP R,.int (g:Int)] S=U (aP (R.1,R.2.filter λe=>decide (e.g≠g)),S):=V S R g (by omega)
  have hset:R.1.set g .out=R.1:=by
   obtain⟨q,e⟩:=Yz.mp hw
   rw[<- e];exact List.set_getElem_self q
  have ha:=AS (r:=r) (R:=R) (g:=g) (k:=.stop) (w:=.out) (w':=.out) (es:=R.2.filter λe=>decide (e.g≠g)) hg rfl (by decide) (by unfold rM;rw[if_neg (by decide)])
  rw[hset] at ha
  obtain⟨T,s1⟩:=fin (R.1,R.2.filter λe=>decide (e.g≠g)) (ROk.filter h _) rfl ha
  refine⟨T,?_⟩
  simp only[pJ,aS,bu,aJ,aj,bK,bN,bO,oj,ob,ak,av,bp,ax,x1,bv,aZ,fL,gI,bP,aH,bt,aK,aE,aq,ao,au,am,ba,wt,GR,YK hn,aI,bS,v1,aV,bj,FC,Hz,ce,s1,bC,aO]
def pK:MS:=bq (oV (aB (ay Ee (af 0) (mC .non))) (mC .non) (ay rn (af 0) (mC (.int 1))))
def Nq(hN:N.length=1):aQ N pK 1 [bR t] S=U (bR (t.map (· - 1)),S):=by
 have hst:az N [bR t]=[U (bR t)]:=by simp[az,hN]
 rw[bg (show [bR t].length=1 from rfl),hst]
 cases t with
 | none=>
  have i1:nQ (bR Y) .non=true:=rfl
  simp only[pK,aV,mL,aK,aJ,aj,bK,oj,ob,ak,av,bp,ax,mX,i1,aI,CQ,bC,aO];rfl
 | some t=>
  have i1:nQ (bR (U t)) .non=false:=rfl
  have s1:rn S (bR (U t)) (.int 1)=U (bR (U (t - 1))):=Oj
  simp only[pK,aV,mL,aK,aJ,aj,bK,oj,ob,ak,av,bp,ax,mX,i1,aI,HE,s1,bC,aO];rfl
def tkA(ol:PF):ME:=bH (dq (af 4)) (bi 4 (ag (ah 0) (ag (ah 1) (ag (ah 2) (ag (ah 3) aW))))) bQ (be (aa (af 0) (aa (af 1) (aa (af 2) (aa (aw 1 ol (aa (af 3) ai)) ai))))) [Y,Y,Y,Y]
def tkB:ME:=bH (dq (af 5)) (ah 0) (aB (ay cy (ay aA (af 0) (mC (.int 3))) (mC (.int 0)))) (be (aa (mC (.str "ends")) (aa (ay aA (af 0) (mC (.int 0))) ai))) [Y]
def tkC:ME:=bH (dq (af 5)) (ah 0) (aB (ay jo (ay aA (af 0) (mC (.int 3))) (mC (.int 0)))) (af 0) [Y]
def ue(sb ol:PF):MS:=aF (aX (af 1) (bi 2 (ag (ah 3) (ag (ah 4) aW)))) (aF (aX (tkA ol) (ah 5)) (aF (aX (bw (aU (cR .tup)) (aa tkB ai)) (ah 6)) (aF (aX (bw (aU (cR .tup)) (aa tkC ai)) (ah 7)) (bq (aw 3 sb (aa (af 0) (aa (be (aa (af 3) (aa (af 7) ai))) (aa (af 6) ai))))))))
theorem Ls(SB:Ub sb)(L:∀ (S:ac) (t:Option Int),ol [bR t] S=U (bR (t.map (· - 1)),S))(hN:N.length=8)(hb:0<=r.b)(h:ROk R)(hl:R.1.length<=50):∃ T,aQ N (ue sb ol) 3 [r.d,aP R,Dd.tick.d] S=U (gG (oq r R),S++T):=by
 have hst:az N [r.d,aP R,Dd.tick.d]=[U r.d,U (aP R),U Dd.tick.d,Y,Y,Y,Y,Y]:=by simp[az,hN,adg]
 rw[bg (show [r.d,aP R,Dd.tick.d].length=3 from rfl),hst]
 have hle:=h.len
 have g2:∀ env S,bi 2 (ag (ah 3) (ag (ah 4) aW)) (aP R) env S=(ag (ah 3) (ag (ah 4) aW)) [cF R.1,esD R.2] env S:=λenv S=>cE
 have a:=NA (S:=S) (es:=R.2) (cap:=[Y,Y,Y,Y]) (env:=[U r.d,U (aP R),U Dd.tick.d,U (cF R.1),U (esD R.2),Y,Y,Y]) (a:=Y) (b:=Y) (c:=Y) (d:=Y) (e:=be (aa (af 0) (aa (af 1) (aa (af 2) (aa (aw 1 ol (aa (af 3) ai)) ai))))) (f:=λx=>(gJ x).d) rfl (by omega) λx=>by
  simp only[bj,aq,aj,bK,bN,bO,oj,ob,ak,ao,aE,au,am,qi,L,LB];rfl
 have b:=dw (S:=S) (t:=aB (ay cy (ay aA (af 0) (mC (.int 3))) (mC (.int 0)))) (e:=be (aa (mC (.str "ends")) (aa (ay aA (af 0) (mC (.int 0))) ai))) (cap:=[Y]) (env:=[U r.d,U (aP R),U Dd.tick.d,U (cF R.1),U (esD R.2),U (.lst ((R.2.map gJ).map En.d)),Y,Y]) (rest:=[]) (a:=Y) (enc:=En.d) (p:=λe=>decide (e.t=U 0)) (f:=λe=>Ev.d ⟨"ends",e.g⟩) (xs:=R.2.map gJ) rfl (by rw[YE];omega) (λe _=>by
  have x3:aA S e.d (.int 3)=U (bR e.t):=rfl
  simp only[aK,aJ,aj,bK,bN,bO,oj,ob,ak,av,bp,ax,x3,jO,aI]) (λe _ _=>by
  simp only[bj,aq,bp,ob,ao,aJ,aj,bK,oj,ak,av,ax,En.ix0,au,am,FC];rfl)
 have c:=dw (S:=S) (t:=aB (ay jo (ay aA (af 0) (mC (.int 3))) (mC (.int 0)))) (e:=af 0) (cap:=[Y]) (env:=[U r.d,U (aP R),U Dd.tick.d,U (cF R.1),U (esD R.2),U (.lst ((R.2.map gJ).map En.d)),U (eE (((R.2.map gJ).filter λe=>decide (e.t=U 0)).map λe=>⟨"ends",e.g⟩)),Y]) (rest:=[]) (a:=Y) (enc:=En.d) (p:=λe=>decide (e.t≠U 0)) (f:=En.d) (xs:=R.2.map gJ) rfl (by rw[YE];omega) (λe _=>by
  have x3:aA S e.d (.int 3)=U (bR e.t):=rfl
  simp only[aK,aJ,aj,bK,bN,bO,oj,ob,ak,av,bp,ax,x3,Dr,aI,ne_eq,decide_not]) (λe _ _=>by simp only[aj,bK,oj,ob,ak])
 have ma:(R.2.map λx=>(gJ x).d)=(R.2.map gJ).map En.d:=by rw[ZA];rfl
 rw[ma] at a
 have it:∀ l:List D,FM (.lst l,S)=U (l,S):=λl=>oZ
 have sb1:aU (cR .tup) [.lst (((R.2.map gJ).filter λe=>decide (e.t=U 0)).map λe=>Ev.d ⟨"ends",e.g⟩)] S=U (eE (((R.2.map gJ).filter λe=>decide (e.t=U 0)).map λe=>⟨"ends",e.g⟩),S):=by
  rw[fN];unfold eE;rw[ZA];rfl
 have sc1:aU (cR .tup) [.lst (((R.2.map gJ).filter λe=>decide (e.t≠U 0)).map En.d)] S=U (esD ((R.2.map gJ).filter λe=>decide (e.t≠U 0)),S):=fN
 obtain⟨T,s1⟩:=SB S r (R.1,(R.2.map gJ).filter λe=>decide (e.t≠U 0)) (((R.2.map gJ).filter λ(e:En)=>decide (e.t=U 0)).map λ(e:En)=>Ev.mk "ends" e.g) hb (ROk.filter (ROk.mapE h gJ λe=>rfl) _) hl (by
  rw[YE];exact YW (Zt _ _) (by rw[YE];omega))
 refine⟨T,?_⟩
 have s1':sb [r.d,.tup [cF R.1,esD ((R.2.map gJ).filter λe=>decide (e.t≠U 0))],eE (((R.2.map gJ).filter λe=>decide (e.t=U 0)).map λe=>⟨"ends",e.g⟩)] S=U (gG (oq r R),S++T):=s1
 simp only[ue,aS,bu,aj,bK,bN,bO,oj,ob,ak,bv,g2,bF,aZ,dc,ci,fL,gI,bP,aH,tkA,bL,cV,eD,a,bZ,aq,tkB,it,b,ao,au,am,cb,sb1,tkC,c,sc1,aV,aE,bj,FC,ce,s1',bC,aO]
structure BrOk(ask up down leave stop tick:PF):Prop where
 a:∀ (S:ac) (r:Rl) (R:Rm) (wr:Bool) (g:Nat) (t:Option Int),0<=r.b->ROk R->R.1.length<=50->R.1[g]?=U .out->bz R.2 g=false->∃ T,ask [r.d,aP R,(Dd.ask wr g t).d] S=U (gG (wf r R wr g t),S++T)
 u:∀ (S:ac) (r:Rl) (R:Rm) (g:Nat),0<=r.b->ROk R->R.1.length<=50->R.1[g]?=U .reads->∃ T,up [r.d,aP R,(Dd.act .up g).d] S=U (gG (if r.c=0\/Wd.rising∈R.1 then(R,[⟨"no",g⟩]) else mr r R .up g .reads),S++T)
 d:∀ (S:ac) (r:Rl) (R:Rm) (g:Nat) (w:Wd),0<=r.b->ROk R->R.1.length<=50->R.1[g]?=U w->w≠.out->∃ T,down [r.d,aP R,(Dd.act .down g).d] S=U (gG (mr r R .down g w),S++T)
 l:∀ (S:ac) (r:Rl) (R:Rm) (g:Nat) (w:Wd),0<=r.b->ROk R->R.1.length<=50->R.1[g]?=U w->w≠.out->∃ T,leave [r.d,aP R,(Dd.act .leave g).d] S=U (gG (mr r R .leave g w),S++T)
 s:∀ (S:ac) (r:Rl) (R:Rm) (g:Nat) (w:Wd),0<=r.b->ROk R->R.1.length<=50->R.1[g]?=U w->dP R (.act .stop g)=true->∃ T,stop [r.d,aP R,(Dd.act .stop g).d] S=U (gG (mr r R .stop g w),S++T)
 t:∀ (S:ac) (r:Rl) (R:Rm),0<=r.b->ROk R->R.1.length<=50->∃ T,tick [r.d,aP R,Dd.tick.d] S=U (gG (oq r R),S++T)
noncomputable def brL(ask up down leave stop tick:PF):List (bD×Nat×PF):=[(.inr "read",3,ask),(.inr "write",3,ask),(.inr "up",3,up),(.inr "down",3,down),(.inr "leave",3,leave),(.inr "stop",3,stop),(.inr "tick",3,tick)]
def pM(l:List (bD×Nat×PF)):MS:=ku l 3 (ay aA (af 2) (mC (.int 0))) (aa (af 0) (aa (af 1) (aa (af 2) ai)))
def jP{l:List (bD×Nat×PF)}{f:PF}{x y z d:D}{w:Str}(hN:N.length=4)(hx:aA S z (.int 0)=U (.str w))(hv:Bd l (.inr w)=U (3,f)){S':ac}(hf:f [x,y,z] S=U (d,S')):aQ N (pM l) 3 [x,y,z] S=U (d,S'):=by
 have hst:az N [x,y,z]=[U x,U y,U z,Y]:=by simp[az,hN,adg]
 rw[bg (show [x,y,z].length=3 from rfl),hst]
 have kd:=λms env=>NH (S:=S) (d:=.str w) (ms:=ms) (env:=env) (i:=3) (l:=l) Ag hv
 have k3:Aj 3 f ([x,y,z],S)=(f [x,y,z] S).bind kRt:=JE rfl
 simp only[pM,RP,aJ,aj,bK,bN,bO,oj,ob,ak,av,bp,ax,hx,kd,fL,gI,aq,ao,au,am,k3,hf,bC,aO]
def Jc{ask up:PF}(B:BrOk ask up down leave stop tick)(hN:N.length=4){dd:Dd}{x:Rm×List Ev}(hb:0<=r.b)(h:ROk R)(hl:R.1.length<=50)(hd:dd.Ok R.1.length)(hx:hZ r R dd=U x):∃ T,aQ N (pM (brL ask up down leave stop tick)) 3 [r.d,aP R,dd.d] S=U (gG x,S++T):=by
 unfold hZ at hx
 split at hx
 ·cases hx
 rename_i hcan
 rw[Bool.not_eq_false] at hcan
 split at hx
 ·cases hx
  obtain⟨T,e⟩:=B.t S r R hb h hl
  exact⟨T,jP (w:="tick") hN rfl (by rfl) e⟩
 ·rename_i wr g t
  cases hx
  unfold dP at hcan
  rw[YD] at hcan
  obtain⟨T,e⟩:=B.a S r R wr g t hb h hl (ZH hcan.1) (by simpa using hcan.2)
  refine⟨T,?_⟩
  cases wr
  ·exact jP (w:="read") hN rfl (by rfl) e
  ·exact jP (w:="write") hN rfl (by rfl) e
 ·rename_i k g
  have hg:g<R.1.length:=hd
  obtain⟨w,hw⟩:∃ w,R.1[g]?=U w:=⟨_,YG hg⟩
  rw[hw] at hx
  dsimp only at hx
  cases k with
  | up=>
   have hr:R.1[g]?=U .reads:=ZH hcan
   rw[hw] at hr;cases hr
   obtain⟨T,e⟩:=B.u S r R g hb h hl hw
   refine⟨T,jP (w:="up") hN rfl (by rfl) ?_⟩
   rw[e]
   by_cases z:r.c=0\/Wd.rising∈R.1
   ·rw[YR ⟨rfl,z⟩] at hx;cases hx;rw[YR z]
   ·rw[if_neg (λq=>z q.2)] at hx;cases hx;rw[if_neg z]
  | down=>
   rw[if_neg (λq=>by cases q.1)] at hx;cases hx
   have ho:w≠.out:=λz=>by
    subst z
    have hc2:(decide (R.1[g]?=U Wd.writes)||decide (R.1[g]?=U Wd.raised))=true:=hcan
    rw[hw] at hc2;revert hc2;decide
   obtain⟨T,e⟩:=B.d S r R g w hb h hl hw ho
   exact⟨T,jP (w:="down") hN rfl (by rfl) e⟩
  | leave=>
   rw[if_neg (λq=>by cases q.1)] at hx;cases hx
   have ho:w≠.out:=λz=>by
    subst z
    exact(ZH hcan) hw
   obtain⟨T,e⟩:=B.l S r R g w hb h hl hw ho
   exact⟨T,jP (w:="leave") hN rfl (by rfl) e⟩
  | stop=>
   rw[if_neg (λq=>by cases q.1)] at hx;cases hx
   obtain⟨T,e⟩:=B.s S r R g w hb h hl hw hcan
   exact⟨T,jP (w:="stop") hN rfl (by rfl) e⟩
end
section
variable{S:ac}{N:List Str}{r:Rl}{R:Rm}{n:Nat}{dd:Dd}
def uf(deed can done:PF):MS:=aF (bY (gH (dm (da (aw 2 deed (aa (af 1) (aa (af 3) ai))))) (dm (da (aw 2 can (aa (af 2) (aa (af 3) ai)))))) fS bn) (bq (aw 3 done (aa (af 0) (aa (af 2) (aa (af 3) ai)))))
def Kq{x:Rm×List Ev}(h:hZ r R dd=U x):dP R dd=true:=by
 unfold hZ at h
 split at h
 ·cases h
 ·rename_i q;rw[Bool.not_eq_false] at q;exact q
def LD{deed can done:PF}{T:ac}(hN:N.length=4)(h1:deed [.int (n:Int),dd.d] S=U (.bl true,S))(h2:can [aP R,dd.d] S=U (.bl true,S))(h3:done [r.d,aP R,dd.d] S=U (gG x,S++T)):aQ N (uf deed can done) 4 [r.d,.int (n:Int),aP R,dd.d] S=U (gG x,S++T):=by
 have hst:az N [r.d,.int (n:Int),aP R,dd.d]=[U r.d,U (.int (n:Int)),U (aP R),U dd.d]:=by simp[az,hN]
 rw[bg (show [r.d,D.int (n:Int),aP R,dd.d].length=4 from rfl),hst]
 simp only[uf,aS,bt,iC,fK,df,aE,aq,aj,bK,bN,bO,oj,ob,ak,ao,au,am,ba,h1,dH,fM,Zk,lQ,h2,bS,bE,aH,aV,ce,h3,bC,aO]
def GA(hN:N.length=5):aQ N (pN wait) 2 [aP R,Dd.tick.d] S=U (.bl true,S):=by
 have hst:az N [aP R,Dd.tick.d]=[U (aP R),U Dd.tick.d,Y,Y,Y]:=by simp[az,hN,adg]
 rw[bg (show [aP R,Dd.tick.d].length=2 from rfl),hst]
 have x0:aA S Dd.tick.d (.int 0)=U (.str "tick"):=rfl
 have tk:cy S (.str "tick") (.str "tick")=U (.bl true):=by rw[cN];rfl
 simp only[pN,aS,bt,aK,aJ,aj,bK,bN,bO,oj,ob,ak,av,bp,ax,x0,tk,aI,bU,aV,bC,bW,aO]
theorem LR{x:Rm×List Ev}(h1:x.1.1.length<=50)(h2:x.1.2.length<=50)(h3:x.2.length<=500):cT 8 (gG x)=true:=by
 obtain⟨R,l⟩:=x
 have a1:((R.1.map Wd.d).all (cT 5))=true:=by rw[YO];intro d hd;obtain⟨w,_,rfl⟩:=Zb.mp hd;rfl
 have a2:((R.2.map En.d).all (cT 5))=true:=by
  rw[YO];intro d hd;obtain⟨e,_,rfl⟩:=Zb.mp hd
  obtain⟨g,wr,m,t⟩:=e
  cases t<;>rfl
 have a3:((l.map Ev.d).all (cT 6))=true:=by rw[YO];intro d hd;obtain⟨e,_,rfl⟩:=Zb.mp hd;rfl
 have b1:cT 6 (cF R.1)=true:=by show(decide ((R.1.map Wd.d).length<=1000)&&_)=true;rw[a1,abB];exact YM (by simp;simp only at h1;omega)
 have b2:cT 6 (esD R.2)=true:=by show(decide ((R.2.map En.d).length<=1000)&&_)=true;rw[a2,abB];exact YM (by simp;simp only at h2;omega)
 have b3:cT 7 (eE l)=true:=by show(decide ((l.map Ev.d).length<=1000)&&_)=true;rw[a3,abB];exact YM (by simp;simp only at h3;omega)
 have c1:cT 7 (aP R)=true:=by show(true&&(cT 6 (cF R.1)&&(cT 6 (esD R.2)&&true)))=true;rw[b1,b2];rfl
 show(true&&(cT 7 (aP R)&&(cT 7 (eE l)&&true)))=true
 rw[c1,b3];rfl
theorem Kp{x:Rm×List Ev}(h:ROk R)(hl:R.1.length<=5)(hx:hZ r R dd=U x):x.2.length<=15:=by
 have hle:=h.len
 have sf:∀ R':Rm,R'.1.length=R.1.length->(aY r R').2.length<=10:=λR' q=>YW (nI _) (by omega)
 unfold hZ at hx
 split at hx
 ·cases hx
 rename_i hcan
 split at hx
 ·cases hx
  have:=sf (R.1,(R.2.map gJ).filter λe=>decide (e.t≠U 0)) rfl
  have q:((R.2.map gJ).filter λe=>decide (e.t=U 0)).length<=R.2.length:=YW (Zt _ _) (by simp)
  unfold oq
  dsimp only
  rw[YQ,YE]
  omega
 ·rename_i wr g t
  cases hx
  have:=sf (R.1,R.2++[lY wr g t]) rfl
  unfold wf
  dsimp only
  split
  ·omega
  ·split
   ·rw[YQ,aav];omega
   ·rw[YQ,aav];omega
 ·rename_i k g
  split at hx
  ·cases hx;simp
  ·split at hx
   ·rename_i w hw
    cases hx
    have:=sf (R.1.set g (gL k w),rM r k w g R.2) (by simp)
    have f1:(gc k g).length<=1:=by cases k<;>simp[gc]
    unfold mr
    dsimp only
    rw[YQ,YQ]
    split
    ·rw[aav];omega
    ·rw[aag];omega
   ·cases hx
end
end MI
section
set_option maxHeartbeats 4000000
namespace K16
open L2 MI
open M hiding mC af ay aB dg da du gH dm ft zV iK oV ai aa be dG gR Ed bJ cx bI bw eG aw bn aF bq fo bY ah aW ag bi gX aX bV eg lg bH dq bQ fz gS lh oS jh fX fU gA fV fR dZ ji ku
def fj(i:Nat):Uo:=PySem.Challenge.pw_manyreaders_k16_what_can_not_be_done.main.body.getD i (.Pass ⟨0,0,0,0⟩)
abbrev dk:Uo:=fj 47
abbrev iy:Uo:=fj 49
abbrev gu:Uo:=fj 48
abbrev gn:Uo:=fj 50
abbrev gm:Uo:=fj 51
abbrev gx:Uo:=fj 52
abbrev iu:Uo:=fj 56
abbrev dW:Uo:=fj 54
abbrev gq:Uo:=fj 55
abbrev di:Uo:=fj 57
abbrev iz:Uo:=fj 58
abbrev eX:Uo:=fj 61
abbrev dU:Uo:=fj 59
abbrev gv:Uo:=fj 60
abbrev ir:Uo:=fj 53
abbrev cI:Uo:=fj 62
abbrev iA:Uo:=fj 63
abbrev dR:Uo:=fj 9
abbrev ip:Uo:=fj 18
abbrev jp:Uo:=fj 12
abbrev le:Uo:=fj 16
abbrev gk:Uo:=fj 19
abbrev js:Uo:=fj 17
abbrev lc:Uo:=fj 21
abbrev gi:Uo:=fj 10
abbrev lb:Uo:=fj 23
abbrev eS:Uo:=fj 22
abbrev jq:Uo:=fj 20
abbrev dh:Uo:=fj 11
abbrev gl:Uo:=fj 36
abbrev iq:Uo:=fj 37
abbrev cS:Uo:=fj 44
abbrev kZ:Uo:=fj 43
abbrev eW:Uo:=fj 38
abbrev dS:Uo:=fj 39
abbrev eV:Uo:=fj 40
abbrev im:Uo:=fj 42
abbrev eU:Uo:=fj 41
abbrev qK:Uo:=fj 35
abbrev dQ:Uo:=fj 4
abbrev jt:Uo:=fj 3
abbrev io:Uo:=fj 1
abbrev eR:Uo:=fj 2
abbrev ju:Uo:=fj 32
abbrev lf:Uo:=fj 33
abbrev gj:Uo:=fj 34
abbrev dj:Uo:=fj 65
abbrev iw:Uo:=fj 64
abbrev xG:Uo:=fj 66
noncomputable def wa:List (bD×D):=[(.inr "rows",.non),(.inr "readers",(.str "read")),(.inr "writers",(.str "write")),(.inr "turns",(.str "write"))]
noncomputable def fQ:D:=(.int 9)
noncomputable def iI:D:=(.tup [(.str "up"),(.str "down"),(.str "leave"),(.str "stop")])
noncomputable def tI:D:=(.tup [(.str "read"),(.str "write")])
noncomputable def oJ:List (bD×D):=[(.inr "read",(.str "reads")),(.inr "write",(.str "writes"))]
noncomputable def mq:D:=(.tup [(.str "writes"),(.str "raised")])
noncomputable def cX:tx:=150
noncomputable abbrev LU:Uo:=Tz (fj 26)
structure iS(w:RG)(K:adf)(mg:Str->Option gV):Prop where
 q0:bG K mg "_law_cell_at" dk
 q1:bG K mg "_law_far" iy
 q2:bG K mg "_law_left" gu
 q3:bG K mg "_law_pick" gn
 q4:bG K mg "_law_rule" gm
 q5:bG K mg "_law_deed" gx
 q6:bG K mg "_law_put" iu
 q7:bG K mg "_law_fronts" dW
 q8:bG K mg "_law_lets" gq
 q9:bG K mg "_law_settled" di
 qa:bG K mg "_law_can" iz
 qb:bG K mg "_law_asked" eX
 qc:bG K mg "_law_marked" dU
 qd:bG K mg "_law_done" gv
 qe:bG K mg "_law_row" ir
 qf:bG K mg "_law_same" cI
 qg:bG K mg "_law_all" iA
 qh:bG K mg "guests_with" dR
 qi:bG K mg "foremost" ip
 qj:bG K mg "waiting" jp
 qk:bG K mg "can_go" le
 ql:bG K mg "next_past" gk
 qm:bG K mg "next_in" js
 qn:bG K mg "coming" lc
 qo:bG K mg "with_word" gi
 qp:bG K mg "let_in" lb
 qq:bG K mg "brought_by" eS
 qr:bG K mg "settled" jq
 qs:bG K mg "without_wait" dh
 qt:bG K mg "bring_ask" gl
 qu:bG K mg "bring_up" iq
 qv:bG K mg "settled_behind" cS
 qw:bG K mg "turned" kZ
 qx:bG K mg "bring_down" eW
 qy:bG K mg "bring_leave" dS
 qz:bG K mg "bring_stop" eV
 qA:bG K mg "one_less" im
 qB:bG K mg "bring_tick" eU
 qC:bG K mg "done" qK
 qD:bG K mg "is_tuple_of" dQ
 qE:bG K mg "is_word" jt
 qF:bG K mg "is_whole" io
 qG:bG K mg "is_between" eR
 qH:bG K mg "is_deed" ju
 qI:bG K mg "can_do" lf
 qJ:bG K mg "stepped" gj
 qL:bG K mg "_law_refused" dj
 qM:bG K mg "_law_odd" iw
 qN:bG K mg "law" xG
 qO:mg "all" = Y
 qP:mg "bool" = Y
 qQ:mg "dict" = Y
 qR:mg "enumerate" = Y
 qS:mg "int" = Y
 qT:mg "isinstance" = Y
 qU:mg "len" = Y
 qV:mg "list" = Y
 qW:mg "max" = Y
 qX:mg "min" = Y
 qY:mg "range" = Y
 qZ:mg "str" = Y
 z0:mg "tuple" = Y
 z1:mg "zip" = Y
 z2:FNm w K mg "BRINGS" [("read","bring_ask"),("write","bring_ask"),("up","bring_up"),("down","bring_down"),("leave","bring_leave"),("stop","bring_stop"),("tick","bring_tick")]
 z3:wj w K mg "FAVOURED" wa
 z4:GC K mg "GREATEST_LEFT" fQ
 z5:GC K mg "GUEST_WORDS" iI
 z6:GC K mg "WANTS" tI
 z7:wj w K mg "WORD_WITHIN" oJ
 z8:GC K mg "WRITING_WORDS" mq
 z9:∀ P base,DV P w K mg base "NoDeed" cX "place"
 za:DZ K mg "GuestError" cX
 zb:ClsOk K mg "NoDeed" cX true
 zc:ClsOk K mg "NoLine" cX false
 zd:ClsOk K mg "NoText" cX false
 ze:ClsOk K mg "TooMany" cX false
 zf:ClsOk K mg "ValueError" cX true
 zg:wp K cX "place"
section
local macro_rules|`(tactic|symm)=>`(tactic|(intro _ _ _ _ _ _;repeat (first|exact jg rfl|(refine cA ?_;intro _))))
variable{P:Of}{w:RG}{K:adf}{mg:Str->Option gV}{base:Ws}
noncomputable def eQ:List Str:=["_law_script","_law_k"]
noncomputable def mU:List (Str×GI):=[("len",.blt)]
def eK:=aQ eQ (ik (iJ eQ dk mU []) (aD dk)) 2
theorem sG:aN eQ ["_law_script","_law_k"] (ar dk):=by ac_rfl
def sI(T:iS w K mg):Fn P w K mg base 1 "_law_cell_at" 2 eK:=
 bo (gs:=mU) T.q0 sG (by symm) ⟨T.qU,trivial⟩
noncomputable def jY:List Str:=["_law_far_here","_law_k"]
noncomputable def vD:List (Str×GI):=[("range",.blt)]
def jK:=aQ jY (ik (iJ jY iy vD []) (aD iy)) 0
theorem Bv:aN jY [] (ar iy):=by ac_rfl
def BL(T:iS w K mg):Fn P w K mg base 1 "_law_far" 0 jK:=
 bo (gs:=vD) T.q1 Bv (by symm) ⟨T.qY,trivial⟩
noncomputable def iY:List Str:=["_law_script","_law_k","_law_cell","_law_seed"]
def sv:List (Str×GI):=[("_law_cell_at",.fn 2 eK),("max",.blt),("_law_far",.fn 0 jK),("len",.blt)]
def iP:=aQ iY (ik (iJ iY gu sv [190]) (aD gu)) 2
theorem zh:aN iY ["_law_script","_law_k"] (ar gu):=by ac_rfl
def zy(T:iS w K mg):Fn P w K mg base 2 "_law_left" 2 iP:=
 bo (gs:=sv) T.q2 zh (by symm) ⟨(sI T).up,T.qW,(BL T).up,T.qU,trivial⟩
noncomputable def kK:List Str:=["_law_left_here","_law_many","_law_digit"]
noncomputable def sr:List (Str×GI):=[]
def cr:=aQ kK (ik (iJ kK gn sr []) (aD gn)) 2
theorem zf:aN kK ["_law_left_here","_law_many"] (ar gn):=by ac_rfl
def jk(T:iS w K mg):Fn P w K mg base 1 "_law_pick" 2 cr:=
 bo (gs:=sr) T.q3 zf (by symm) trivial
noncomputable def iW:List Str:=["_law_left_here","_law_word","_law_most","_law_times"]
def sk:List (Str×GI):=[("_law_pick",.fn 2 cr),("int",.blt)]
def iN:=aQ iW (ik (iJ iW gm sk []) (aD gm)) 1
theorem ze:aN iW ["_law_left_here"] (ar gm):=by ac_rfl
def zw(T:iS w K mg):Fn P w K mg base 2 "_law_rule" 1 iN:=
 bo (gs:=sk) T.q4 ze (by symm) ⟨(jk T).up,T.qS,trivial⟩
noncomputable def ja:List Str:=["_law_left_here","_law_n","_law_guest","_law_way"]
def sy:List (Str×GI):=[("_law_pick",.fn 2 cr)]
def iQ:=aQ ja (ik (iJ ja gx sy []) (aD gx)) 2
theorem zj:aN ja ["_law_left_here","_law_n"] (ar gx):=by ac_rfl
def zA(T:iS w K mg):Fn P w K mg base 2 "_law_deed" 2 iQ:=
 bo (gs:=sy) T.q5 zj (by symm) ⟨(jk T).up,trivial⟩
noncomputable def jW:List Str:=["_law_within","_law_guest","_law_word"]
noncomputable def vB:List (Str×GI):=[]
def dM:=aQ jW (ik (iJ jW iu vB []) (aD iu)) 3
theorem Bt:aN jW ["_law_within","_law_guest","_law_word"] (ar iu):=by ac_rfl
def rR(T:iS w K mg):Fn P w K mg base 1 "_law_put" 3 dM:=
 bo (gs:=vB) T.q6 Bt (by symm) trivial
noncomputable def fJ:List Str:=["_law_rule_here","_law_waits","_law_reading","_law_writing","_law_tagged"]
noncomputable def oE:List (Str×GI):=[("enumerate",.blt),("list",.blt),("range",.blt),("len",.blt),("max",.blt)]
def fD:=aQ fJ (ik (iJ fJ dW oE []) (aD dW)) 2
theorem tZ:aN fJ ["_law_rule_here","_law_waits"] (ar dW):=by ac_rfl
def uo(T:iS w K mg):Fn P w K mg base 1 "_law_fronts" 2 fD:=
 bo (gs:=oE) T.q7 tZ (by symm) ⟨T.qR,T.qV,T.qY,T.qU,T.qW,trivial⟩
noncomputable def iX:List Str:=["_law_rule_here","_law_within","_law_want","_law_reading"]
noncomputable def su:List (Str×GI):=[("len",.blt)]
def iO:=aQ iX (ik (iJ iX gq su []) (aD gq)) 3
theorem zg:aN iX ["_law_rule_here","_law_within","_law_want"] (ar gq):=by ac_rfl
def zx(T:iS w K mg):Fn P w K mg base 1 "_law_lets" 3 iO:=
 bo (gs:=su) T.q8 zg (by symm) ⟨T.qU,trivial⟩
noncomputable def eN:List Str:=["_law_rule_here","_law_room","_law_within","_law_waits","_law_events","_law_turn","_law_alone","_law_some","_law_guest","_law_want","_law_mark","_law_rest","_law_ahead"]
def mS:List (Str×GI):=[("range",.blt),("len",.blt),("_law_put",.fn 3 dM),("_law_fronts",.fn 2 fD),("_law_lets",.fn 3 iO),("tuple",.blt),("int",.blt)]
def cL:=aQ eN (ik (iJ eN di mS [249]) (aD di)) 2
theorem sD:aN eN ["_law_rule_here","_law_room"] (ar di):=by ac_rfl
def mn(T:iS w K mg):Fn P w K mg base 2 "_law_settled" 2 cL:=
 bo (gs:=mS) T.q9 sD (by symm) ⟨T.qY,T.qU,(rR T).up,(uo T).up,(zx T).up,T.z0,T.qS,trivial⟩
noncomputable def jZ:List Str:=["_law_room","_law_deed_here","_law_within","_law_waits","_law_here","_law_stays","_law_fits"]
noncomputable def vE:List (Str×GI):=[]
def gd:=aQ jZ (ik (iJ jZ iz vE [269]) (aD iz)) 2
theorem Bw:aN jZ ["_law_room","_law_deed_here"] (ar iz):=by ac_rfl
def rS(T:iS w K mg):Fn P w K mg base 1 "_law_can" 2 gd:=
 bo (gs:=vE) T.qa Bw (by symm) trivial
noncomputable def ij:List Str:=["_law_rule_here","_law_room","_law_deed_here","_law_word","_law_guest","_law_rest","_law_entry","_law_events"]
def qt:List (Str×GI):=[("_law_settled",.fn 2 cL),("tuple",.blt)]
def hX:=aQ ij (ik (iJ ij eX qt []) (aD eX)) 3
theorem wG:aN ij ["_law_rule_here","_law_room","_law_deed_here"] (ar eX):=by ac_rfl
def wO(T:iS w K mg):Fn P w K mg base 3 "_law_asked" 3 hX:=
 bo (gs:=qt) T.qb wG (by symm) ⟨(mn T).up,T.z0,trivial⟩
noncomputable def fI:List Str:=["_law_rule_here","_law_here","_law_waits"]
noncomputable def oC:List (Str×GI):=[("tuple",.blt)]
def fC:=aQ fI (ik (iJ fI dU oC []) (aD dU)) 3
theorem tX:aN fI ["_law_rule_here","_law_here","_law_waits"] (ar dU):=by ac_rfl
def um(T:iS w K mg):Fn P w K mg base 1 "_law_marked" 3 fC:=
 bo (gs:=oC) T.qc tX (by symm) ⟨T.z0,trivial⟩
noncomputable def iZ:List Str:=["_law_rule_here","_law_room","_law_deed_here","_law_within","_law_waits","_law_fewer","_law_gone","_law_events","_law_word","_law_guest","_law_here","_law_first","_law_there","_law_more"]
def sx:List (Str×GI):=[("tuple",.blt),("_law_settled",.fn 2 cL),("_law_can",.fn 2 gd),("_law_asked",.fn 3 hX),("int",.blt),("_law_marked",.fn 3 fC),("_law_put",.fn 3 dM)]
def dE:=aQ iZ (ik (iJ iZ gv sx []) (aD gv)) 3
theorem zi:aN iZ ["_law_rule_here","_law_room","_law_deed_here"] (ar gv):=by ac_rfl
def pR(T:iS w K mg):Fn P w K mg base 4 "_law_done" 3 dE:=
 bo (gs:=sx) T.qd zi (by symm) ⟨T.z0,(mn T).up,(rS T).up,(wO T).up,T.qS,(um T).up,(rR T).up,trivial⟩
noncomputable def jV:List Str:=["_law_left_here","_law_rule_here","_law_n","_law_many","_law_room","_law_row_here","_law_turn","_law_deed_here","_law_found"]
def vA:List (Str×GI):=[("range",.blt),("_law_deed",.fn 2 iQ),("_law_done",.fn 3 dE),("tuple",.blt)]
def jI:=aQ jV (ik (iJ jV ir vA [219]) (aD ir)) 4
theorem Bs:aN jV ["_law_left_here","_law_rule_here","_law_n","_law_many"] (ar ir):=by ac_rfl
def BJ(T:iS w K mg):Fn P w K mg base 5 "_law_row" 4 jI:=
 bo (gs:=vA) T.qe Bs (by symm) ⟨T.qY,(zA T).up,(pR T).up,T.z0,trivial⟩
noncomputable def N__law_same:List Str:=["_law_found","_law_due","_law_keys"]
noncomputable def gC:List (Str×GI):=[("isinstance",.blt),("dict",.blt),("str",.blt),("all",.blt),("list",.blt),("tuple",.blt),("bool",.blt),("int",.blt),("len",.blt),("zip",.blt)]
def gM:=Ma N__law_same cI gC [] "_law_same" 2
def eJ:=gM 8
theorem zC:N__law_same.Nodup:=by decide +kernel
theorem zd:aN N__law_same ["_law_found","_law_due"] (ar cI):=⟨rfl,rfl,rfl,zC,rfl,by decide +kernel,by decide +kernel⟩
def zv(T:iS w K mg):Fn P w K mg base 9 "_law_same" 2 eJ:=
 LZ (gs:=gC) (k:=0) T.qf zd (λ_ _ _ _ _ _=>cA λ_=>cA λ_=>jg rfl) ⟨T.qT,T.qQ,T.qZ,T.qO,T.qV,T.z0,T.qP,T.qS,T.qU,T.z1,trivial⟩ 8
noncomputable def ke:List Str:=["_law_n","_law_found","_law_word"]
noncomputable def vF:List (Str×GI):=[("range",.blt)]
def iE:=aQ ke (ik (iJ ke iA vF [700326]) (aD iA)) 1
theorem Bx:aN ke ["_law_n"] (ar iA):=by ac_rfl
def BM(T:iS w K mg):Fn P w K mg base 1 "_law_all" 1 iE:=
 bo (gs:=vF) T.qg Bx (by symm) ⟨T.qY,trivial⟩
noncomputable def fG:List Str:=["room","words"]
noncomputable def oA:List (Str×GI):=[("tuple",.blt),("enumerate",.blt)]
def cC:=aQ fG (ik (iJ fG dR oA []) (aD dR)) 2
theorem tV:aN fG ["room","words"] (ar dR):=by ac_rfl
def jA(T:iS w K mg):Fn P w K mg base 1 "guests_with" 2 cC:=
 bo (gs:=oA) T.qh tV (by symm) ⟨T.z0,T.qR,trivial⟩
noncomputable def jS:List Str:=["word","waits","turned","favoured","ranked"]
noncomputable def vy:List (Str×GI):=[("FAVOURED",.tab wa)]
def lR:=aQ jS (ik (iJ jS ip vy []) (aD ip)) 2
theorem Bq:aN jS ["word","waits"] (ar ip):=by ac_rfl
def BH(T:iS w K mg):Fn P w K mg base 1 "foremost" 2 lR:=
 bo (gs:=vy) T.qi Bq (by symm) ⟨T.z3,trivial⟩
noncomputable def jx:List Str:=["room","guest","entry"]
def ym:List (Str×GI):=[("guests_with",.fn 2 cC)]
def cM:=aQ jx (ik (iJ jx jp ym []) (aD jp)) 2
theorem EA:aN jx ["room","guest"] (ar jp):=by ac_rfl
def jz(T:iS w K mg):Fn P w K mg base 2 "waiting" 2 cM:=
 bo (gs:=ym) T.qj EA (by symm) ⟨(jA T).up,trivial⟩
noncomputable def lC:List Str:=["rule","room","guest","want","beside","most"]
def De:List (Str×GI):=[("waiting",.fn 2 cM),("all",.blt),("enumerate",.blt),("len",.blt)]
def gY:=aQ lC (ik (iJ lC le De []) (aD le)) 3
theorem IP:aN lC ["rule","room","guest"] (ar le):=by ac_rfl
def qO(T:iS w K mg):Fn P w K mg base 3 "can_go" 3 gY:=
 bo (gs:=De) T.qk IP (by symm) ⟨(jz T).up,T.qO,T.qR,T.qU,trivial⟩
noncomputable def iU:List Str:=["rule","room","guest","want","mark","left"]
def si:List (Str×GI):=[("can_go",.fn 3 gY)]
def kA:=aQ iU (ik (iJ iU gk si []) (aD gk)) 2
theorem zb:aN iU ["rule","room"] (ar gk):=by ac_rfl
def zu(T:iS w K mg):Fn P w K mg base 4 "next_past" 2 kA:=
 bo (gs:=si) T.ql zb (by symm) ⟨(qO T).up,trivial⟩
noncomputable def lz:List Str:=["rule","room","guest"]
def yo:List (Str×GI):=[("foremost",.fn 2 lR),("next_past",.fn 2 kA),("can_go",.fn 3 gY)]
def ls:=aQ lz (ik (iJ lz js yo []) (aD js)) 2
theorem EC:aN lz ["rule","room"] (ar js):=by ac_rfl
def ET(T:iS w K mg):Fn P w K mg base 5 "next_in" 2 ls:=
 bo (gs:=yo) T.qm EC (by symm) ⟨(BH T).up,(zu T).up,(qO T).up,trivial⟩
noncomputable def nG:List Str:=["rule","room","guest"]
def Dc:List (Str×GI):=[("guests_with",.fn 2 cC),("next_in",.fn 2 ls),("can_go",.fn 3 gY)]
def lu:=aQ nG (ik (iJ nG lc Dc []) (aD lc)) 2
theorem IN:aN nG ["rule","room"] (ar lc):=by ac_rfl
def Jf(T:iS w K mg):Fn P w K mg base 6 "coming" 2 lu:=
 bo (gs:=Dc) T.qn IN (by symm) ⟨(jA T).up,(ET T).up,(qO T).up,trivial⟩
noncomputable def iT:List Str:=["room","guest","word","within","waits"]
noncomputable def sh:List (Str×GI):=[]
def bT:=aQ iT (ik (iJ iT gi sh []) (aD gi)) 3
theorem za:aN iT ["room","guest","word"] (ar gi):=by ac_rfl
def eZ(T:iS w K mg):Fn P w K mg base 1 "with_word" 3 bT:=
 bo (gs:=sh) T.qo za (by symm) trivial
noncomputable def nD:List Str:=["rule","room","guest","within","waits","place","ahead"]
def Db:List (Str×GI):=[("with_word",.fn 3 bT),("tuple",.blt),("WORD_WITHIN",.tab oJ)]
def qv:=aQ nD (ik (iJ nD lb Db []) (aD lb)) 3
theorem IM:aN nD ["rule","room","guest"] (ar lb):=by ac_rfl
def Je(T:iS w K mg):Fn P w K mg base 2 "let_in" 3 qv:=
 bo (gs:=Db) T.qp IM (by symm) ⟨(eZ T).up,T.z0,T.z7,trivial⟩
noncomputable def ic:List Str:=["rule","room","event","word","guest"]
def qo:List (Str×GI):=[("let_in",.fn 3 qv),("with_word",.fn 3 bT)]
def gZ:=aQ ic (ik (iJ ic eS qo []) (aD eS)) 3
theorem wC:aN ic ["rule","room","event"] (ar eS):=by ac_rfl
def wK(T:iS w K mg):Fn P w K mg base 3 "brought_by" 3 gZ:=
 bo (gs:=qo) T.qq wC (by symm) ⟨(Je T).up,(eZ T).up,trivial⟩
noncomputable def ly:List Str:=["rule","room","events","event"]
def yn:List (Str×GI):=[("coming",.fn 2 lu),("brought_by",.fn 3 gZ),("tuple",.blt)]
def dA:=aQ ly (ik (iJ ly jq yn [59]) (aD jq)) 2
theorem EB:aN ly ["rule","room"] (ar jq):=by ac_rfl
def oP(T:iS w K mg):Fn P w K mg base 7 "settled" 2 dA:=
 bo (gs:=yn) T.qr EB (by symm) ⟨(Jf T).up,(wK T).up,T.z0,trivial⟩
noncomputable def eM:List Str:=["room","guest","within","waits"]
noncomputable def mR:List (Str×GI):=[("tuple",.blt)]
def cW:=aQ eM (ik (iJ eM dh mR []) (aD dh)) 2
theorem sC:aN eM ["room","guest"] (ar dh):=by ac_rfl
def mj(T:iS w K mg):Fn P w K mg base 1 "without_wait" 2 cW:=
 bo (gs:=mR) T.qs sC (by symm) ⟨T.z0,trivial⟩
noncomputable def iV:List Str:=["rule","room","deed","want","guest","left","within","waits","entry","events"]
def sj:List (Str×GI):=[("settled",.fn 2 dA),("waiting",.fn 2 cM),("without_wait",.fn 2 cW)]
def gD:=aQ iV (ik (iJ iV gl sj []) (aD gl)) 3
theorem zc:aN iV ["rule","room","deed"] (ar gl):=by ac_rfl
def pQ(T:iS w K mg):Fn P w K mg base 8 "bring_ask" 3 gD:=
 bo (gs:=sj) T.qt zc (by symm) ⟨(oP T).up,(jz T).up,(mj T).up,trivial⟩
noncomputable def jU:List Str:=["rule","room","deed","guest","events"]
def vz:List (Str×GI):=[("settled",.fn 2 dA),("guests_with",.fn 2 cC),("with_word",.fn 3 bT),("waiting",.fn 2 cM)]
def jH:=aQ jU (ik (iJ jU iq vz []) (aD iq)) 3
theorem Br:aN jU ["rule","room","deed"] (ar iq):=by ac_rfl
def BI(T:iS w K mg):Fn P w K mg base 8 "bring_up" 3 jH:=
 bo (gs:=vz) T.qu Br (by symm) ⟨(oP T).up,(jA T).up,(eZ T).up,(jz T).up,trivial⟩
noncomputable def dC:List Str:=["rule","room","first","events"]
def lq:List (Str×GI):=[("settled",.fn 2 dA)]
def bM:=aQ dC (ik (iJ dC cS lq []) (aD cS)) 3
theorem pI:aN dC ["rule","room","first"] (ar cS):=by ac_rfl
def ee(T:iS w K mg):Fn P w K mg base 8 "settled_behind" 3 bM:=
 bo (gs:=lq) T.qv pI (by symm) ⟨(oP T).up,trivial⟩
noncomputable def nC:List Str:=["rule","room","guest","within","waits"]
noncomputable def Da:List (Str×GI):=[("tuple",.blt)]
def jE:=aQ nC (ik (iJ nC kZ Da []) (aD kZ)) 3
theorem IL:aN nC ["rule","room","guest"] (ar kZ):=by ac_rfl
def xM(T:iS w K mg):Fn P w K mg base 1 "turned" 3 jE:=
 bo (gs:=Da) T.qw IL (by symm) ⟨T.z0,trivial⟩
noncomputable def ii:List Str:=["rule","room","deed","guest"]
def qr:List (Str×GI):=[("settled_behind",.fn 3 bM),("with_word",.fn 3 bT),("turned",.fn 3 jE)]
def hV:=aQ ii (ik (iJ ii eW qr []) (aD eW)) 3
theorem wF:aN ii ["rule","room","deed"] (ar eW):=by ac_rfl
def wN(T:iS w K mg):Fn P w K mg base 9 "bring_down" 3 hV:=
 bo (gs:=qr) T.qx wF (by symm) ⟨(ee T).up,(eZ T).up,(xM T).up,trivial⟩
noncomputable def fH:List Str:=["rule","room","deed","guest"]
def oB:List (Str×GI):=[("settled_behind",.fn 3 bM),("with_word",.fn 3 bT),("turned",.fn 3 jE)]
def fB:=aQ fH (ik (iJ fH dS oB []) (aD dS)) 3
theorem tW:aN fH ["rule","room","deed"] (ar dS):=by ac_rfl
def ul(T:iS w K mg):Fn P w K mg base 9 "bring_leave" 3 fB:=
 bo (gs:=oB) T.qy tW (by symm) ⟨(ee T).up,(eZ T).up,(xM T).up,trivial⟩
noncomputable def ig:List Str:=["rule","room","deed","guest","calmer"]
def qq:List (Str×GI):=[("settled_behind",.fn 3 bM),("waiting",.fn 2 cM),("with_word",.fn 3 bT),("without_wait",.fn 2 cW)]
def hU:=aQ ig (ik (iJ ig eV qq []) (aD eV)) 3
theorem wE:aN ig ["rule","room","deed"] (ar eV):=by ac_rfl
def wM(T:iS w K mg):Fn P w K mg base 9 "bring_stop" 3 hU:=
 bo (gs:=qq) T.qz wE (by symm) ⟨(ee T).up,(jz T).up,(eZ T).up,(mj T).up,trivial⟩
noncomputable def jQ:List Str:=["left"]
noncomputable def vw:List (Str×GI):=[]
def jF:=aQ jQ (ik (iJ jQ im vw []) (aD im)) 1
theorem Bo:aN jQ ["left"] (ar im):=by ac_rfl
def BF(T:iS w K mg):Fn P w K mg base 1 "one_less" 1 jF:=
 bo (gs:=vw) T.qA Bo (by symm) trivial
noncomputable def ie:List Str:=["rule","room","deed","within","waits","shorter","ended","kept"]
def qp:List (Str×GI):=[("tuple",.blt),("settled_behind",.fn 3 bM),("one_less",.fn 1 jF)]
def hJ:=aQ ie (ik (iJ ie eU qp []) (aD eU)) 3
theorem wD:aN ie ["rule","room","deed"] (ar eU):=by ac_rfl
def wL(T:iS w K mg):Fn P w K mg base 9 "bring_tick" 3 hJ:=
 bo (gs:=qp) T.qB wD (by symm) ⟨T.z0,(ee T).up,(BF T).up,trivial⟩
def Qb:List (bD×Nat×(List D->ac->Option (D×ac))):=[(.inr "read",3,gD),(.inr "write",3,gD),(.inr "up",3,jH),(.inr "down",3,hV),(.inr "leave",3,fB),(.inr "stop",3,hU),(.inr "tick",3,hJ)]
noncomputable def wl:List Str:=["rule","room","deed","bring"]
def NV:List (Str×GI):=[("BRINGS",.ftab Qb)]
def rm:=aQ wl (ik (iJ wl qK NV []) (aD qK)) 3
theorem QI:aN wl ["rule","room","deed"] (ar qK):=by ac_rfl
def Ha(T:iS w K mg):Fn P w K mg base 10 "done" 3 rm:=
 bo (gs:=NV) T.qC QI (by symm) ⟨So T.z2 ⟨rfl,(pQ T).up,rfl,(pQ T).up,rfl,(BI T).up,rfl,(wN T).up,rfl,(ul T).up,rfl,(wM T).up,rfl,(wL T).up,trivial⟩,trivial⟩
noncomputable def fF:List Str:=["thing","many"]
noncomputable def oz:List (Str×GI):=[("isinstance",.blt),("tuple",.blt),("len",.blt)]
def bx:=aQ fF (ik (iJ fF dQ oz []) (aD dQ)) 2
theorem tU:aN fF ["thing","many"] (ar dQ):=by ac_rfl
def uj(T:iS w K mg):Fn P w K mg base 1 "is_tuple_of" 2 bx:=
 bo (gs:=oz) T.qD tU (by symm) ⟨T.qT,T.z0,T.qU,trivial⟩
noncomputable def lA:List Str:=["thing","words"]
noncomputable def yp:List (Str×GI):=[("isinstance",.blt),("str",.blt)]
def iD:=aQ lA (ik (iJ lA jt yp []) (aD jt)) 2
theorem ED:aN lA ["thing","words"] (ar jt):=by ac_rfl
def EU(T:iS w K mg):Fn P w K mg base 1 "is_word" 2 iD:=
 bo (gs:=yp) T.qE ED (by symm) ⟨T.qT,T.qZ,trivial⟩
noncomputable def jR:List Str:=["thing"]
noncomputable def vx:List (Str×GI):=[("isinstance",.blt),("int",.blt),("bool",.blt)]
def jG:=aQ jR (ik (iJ jR io vx []) (aD io)) 1
theorem Bp:aN jR ["thing"] (ar io):=by ac_rfl
def BG(T:iS w K mg):Fn P w K mg base 1 "is_whole" 1 jG:=
 bo (gs:=vx) T.qF Bp (by symm) ⟨T.qT,T.qS,T.qP,trivial⟩
noncomputable def ib:List Str:=["thing","low","high"]
def qm:List (Str×GI):=[("is_whole",.fn 1 jG)]
def dL:=aQ ib (ik (iJ ib eR qm []) (aD eR)) 3
theorem wA:aN ib ["thing","low","high"] (ar eR):=by ac_rfl
def wJ(T:iS w K mg):Fn P w K mg base 2 "is_between" 3 dL:=
 bo (gs:=qm) T.qG wA (by symm) ⟨(BG T).up,trivial⟩
noncomputable def lB:List Str:=["n","thing","want","guest","left"]
def yq:List (Str×GI):=[("is_tuple_of",.fn 2 bx),("is_word",.fn 2 iD),("WANTS",.con tI),("is_between",.fn 3 dL),("GUEST_WORDS",.con iI),("GREATEST_LEFT",.con fQ)]
def fh:=aQ lB (ik (iJ lB ju yq []) (aD ju)) 2
theorem EE:aN lB ["n","thing"] (ar ju):=by ac_rfl
def uk(T:iS w K mg):Fn P w K mg base 3 "is_deed" 2 fh:=
 bo (gs:=yq) T.qH EE (by symm) ⟨(uj T).up,(EU T).up,T.z6,(wJ T).up,T.z5,T.z4,trivial⟩
noncomputable def jT:List Str:=["room","deed","word","guest","within"]
def Df:List (Str×GI):=[("WRITING_WORDS",.con mq),("waiting",.fn 2 cM)]
def iL:=aQ jT (ik (iJ jT lf Df []) (aD lf)) 2
theorem IQ:aN jT ["room","deed"] (ar lf):=by ac_rfl
def xN(T:iS w K mg):Fn P w K mg base 3 "can_do" 2 iL:=
 bo (gs:=Df) T.qI IQ (by symm) ⟨T.z8,(jz T).up,trivial⟩
noncomputable def dX:List Str:=["rule","n","room","deed"]
def rh:List (Str×GI):=[("done",.fn 3 rm),("is_deed",.fn 2 fh),("can_do",.fn 2 iL)]
def jw:=aQ dX (ik (iJ dX gj rh []) (aD gj)) 4
theorem tT:aN dX ["rule","n","room","deed"] (ar gj):=by ac_rfl
def vv:List (Str×GI):=("NoDeed",.rse cX "place")::rh
def gb:=zk dX (SI cX "place" (cOfY dX gj vv []) (aD gj)) 4
def BE(T:iS w K mg):FnY P w K mg base 11 "stepped" 4 gb cX "place":=
 Vj T.qJ tT (λ_ _ _ _ _ _=>cA λ_=>cA λ_=>cA λ_=>cA λ_=>jg rfl) (GKs.mem (gs:=vv) ⟨⟨by decide,T.z9 _ _⟩,(Ha T).up,(uk T).up,(xN T).up,trivial⟩)
def ui(T:iS w K mg):Fn P w K mg base 11 "stepped" 4 jw:=
 bo (gs:=rh) T.qJ tT (by symm) ⟨(Ha T).up,(uk T).up,(xN T).up,trivial⟩
noncomputable def eO:List Str:=["_law_rule_here","_law_n","_law_room","_law_deed_here","_law_caught","e"]
def mT:List (Str×GI):=[("try",.thr "stepped" 4 gb cX "place"),("GuestError",.hnd cX),("NoLine",.cls cX false),("NoText",.cls cX false),("TooMany",.cls cX false),("NoDeed",.cls cX true),("ValueError",.cls cX true),(".",.fld cX "place"),("isinstance",.blt),("stepped",.fn 4 jw),("int",.blt),("bool",.blt)]
def dB:=aQ eO (ik (iJ eO dj mT []) (aD dj)) 4
theorem sE:aN eO ["_law_rule_here","_law_n","_law_room","_law_deed_here"] (ar dj):=by ac_rfl
def sH(T:iS w K mg):Fn P w K mg base 12 "_law_refused" 4 dB:=
 bo (gs:=mT) T.qL sE (by symm) ⟨(BE T).up,T.za,T.zc,T.zd,T.ze,T.zb,T.zf,T.zg,T.qT,(ui T).up,T.qS,T.qP,trivial⟩
noncomputable def jX:List Str:=["_law_left_here","_law_n","_law_word","_law_more","_law_some"]
def vC:List (Str×GI):=[("_law_pick",.fn 2 cr),("int",.blt)]
def jJ:=aQ jX (ik (iJ jX iw vC []) (aD iw)) 2
theorem Bu:aN jX ["_law_left_here","_law_n"] (ar iw):=by ac_rfl
def BK(T:iS w K mg):Fn P w K mg base 2 "_law_odd" 2 jJ:=
 bo (gs:=vC) T.qM Bu (by symm) ⟨(jk T).up,T.qS,trivial⟩
noncomputable def DX:List Str:=["_law_script","_law_k","_law_left_here","_law_turn","_law_rule_here","_law_n","_law_room","_law_deeds","_law_some","_law_may","_law_deed_here"]
def UJ:List (Str×GI):=[("range",.blt),("max",.blt),("_law_left",.fn 2 iP),("min",.blt),("len",.blt),("_law_rule",.fn 1 iN),("_law_row",.fn 4 jI),("all",.blt),("_law_pick",.fn 2 cr),("_law_same",.fn 2 eJ),("_law_all",.fn 1 iE),("stepped",.fn 4 jw),("_law_done",.fn 3 dE),("_law_can",.fn 2 gd),("_law_refused",.fn 4 dB),("_law_odd",.fn 2 jJ)]
def Dq:=aQ DX (ik (iJ DX xG UJ []) (aD xG)) 1
theorem Vr:aN DX ["_law_script"] (ar xG):=by ac_rfl
def WZ(T:iS w K mg):GKs P w K mg base 12 UJ:=⟨T.qY,T.qW,(zy T).up,T.qX,T.qU,(zw T).up,(BJ T).up,T.qO,(jk T).up,(zv T).up,(BM T).up,(ui T).up,(pR T).up,(rS T).up,(sH T).up,(BK T).up,trivial⟩
end
def Ym{l:W.OpenLaw}{K:adf}(X:K.In h)(G:h.Ns adb mg)(hfa:mg "law" = U (.ref fa))(T:iS w K mg) :
  ∃ fd:FuncData,(∀ (s:td) (v:gV),BindsTo s fd ⟨[v],[]⟩ [("_law_script",v)])/\∀ base:Ws,K.In base->base.Ns adb mg->FnOk l.prog w K mg base Eb 13 fa fd ["_law_script"] (LK K 1 Dq):=
 Wx T.qN hfa Vr (λ_ _ _ _ _ _ _=>rfl) λbase=>WZ T
def walk{l:W.OpenLaw}{YP:RG->Ws->Prop}{d:DefRec}{K:Params->adf}(hn:l.most=U 63)(hdf:d.params.defaults=[])(hnm:d.name = "law")
  (hY:∀ (w:RG) (h:Ws),YP w h->(K w.params).In h) (hlaw:∀ ns:List Int,ns.length<=63->∃ S',Dq [.rol (ns.map .int)] []=U (.bl true,S'))
  (F:∀ (w:RG) (mg:Str->Option gV) (h:Ws),(K w.params).In h->h.Ns adb mg->iS w (K w.params) mg) :
  W.WalkO q loose XP YP l.row.toRowW d [] (λf vs=>PySem.call f vs):=
 L2.Qq (n:=63) (k:=13) (x:="_law_script") (CX:=λ_=>Eb) (sp:=λw=>LK (K w.params) 1 Dq) hn (by decide) hdf ⟨rfl,by decide,by decide⟩ hY
  (λw mg fa h KX G hmg=>Ym KX G (hnm ▸ hmg) (F w mg h KX G)) (λ_ _ a ns hl _ hS=>Wv hlaw hl hS) λ_ _ _ _ _ z=>z
end K16
end
section
set_option maxHeartbeats 4000000
namespace K16
open L2 MI
open M hiding mC af ay aB dg da du gH dm ft zV iK oV ai aa be dG gR Ed bJ cx bI bw eG aw bn aF bq fo bY ah aW ag bi gX aX bV eg lg bH dq bQ fz gS lh oS jh fX fU gA fV fR dZ ji ku
def uM:MS:=
 nM
def sN:eK=aQ eQ uM 2:=jv rfl
def Fx:MS:=
 FH
def Cc:jK=aQ jY Fx 0:=jv rfl
def Co:MS:=
 tz eK jK
def zL:iP=aQ iY Co 2:=jv rfl
def Cm:MS:=
 tw
def zJ:cr=aQ kK Cm 2:=jv rfl
def Ck:MS:=
 Ac cr
def zI:iN=aQ iW Ck 1:=jv rfl
def Cq:MS:=
 qe cr
def zN:iQ=aQ ja Cq 2:=jv rfl
def Fw:MS:=
 FG
def Ca:dM=aQ jW Fw 3:=jv rfl
def wY:MS:=
 qY
def uH:fD=aQ fJ wY 2:=jv rfl
def Cn:MS:=
 Ad
def zK:iO=aQ iX Cn 3:=jv rfl
def uK:MS:=
 oX fD iO dM
def sL:cL=aQ eN uK 2:=jv rfl
def Fy:MS:=
 Ae
def Cd:gd=aQ jZ Fy 2:=jv rfl
def zS:MS:=
 uY cL
def wU:hX=aQ ij zS 3:=jv rfl
def wX:MS:=
 ll
def uF:fC=aQ fI wX 3:=jv rfl
def Cp:MS:=
 ky gd hX cL fC dM
def zM:dE=aQ iZ Cp 3:=jv rfl
def Fv:MS:=
 FF iQ dE
def BZ:jI=aQ jV Fv 4:=jv rfl
def rX(eJ:List D->ac->Option (D×ac)):MS:=
 lO eJ
def zH(j:Nat):gM (j+1)=aQ N__law_same (rX (gM j)) 2:=by
 unfold gM
 show aQ N__law_same (ik (iJ N__law_same cI (("_law_same",.fn 2 (Ma N__law_same cI gC [] "_law_same" 2 j))::gC) []) (aD cI)) 2=_
 generalize Ma N__law_same cI gC [] "_law_same" 2 j=F
 rw[show ik (iJ N__law_same cI (("_law_same",.fn 2 F)::gC) []) (aD cI)=rX F from rfl]
def uN:MS:=
 aF (aX (ji (bH (bV (aa (af 0) ai)) (ah 0) bQ (be (aa (mC (.str "read")) (aa (af 0) (aa (mC .non) ai)))) [Y]) (bH (bV (aa (af 0) ai)) (ah 0) bQ (be (aa (mC (.str "write")) (aa (af 0) (aa (mC .non) ai)))) [Y])) (ah 1)) (aF (gA (be (aa (mC (.str "up")) (aa (mC (.str "down")) (aa (mC (.str "leave")) (aa (mC (.str "stop")) ai))))) (ah 2) (fo (fz kG (af 1) (aa (bH (bV (aa (af 0) ai)) (ah 0) bQ (be (aa (af 1) (aa (af 0) ai))) [Y,U 2]) ai)))) (bq (af 1)))
def Ce:iE=aQ ke uN 1:=jv rfl
def wV:MS:=
 EN
def uD:cC=aQ fG wV 2:=jv rfl
def Ft:MS:=
 lJ
def BX:lR=aQ jS Ft 2:=jv rfl
def Jr:MS:=
 mB cC
def uA:cM=aQ jx Jr 2:=jv rfl
def MW:MS:=
 gy cM
def xR:gY=aQ lC MW 3:=jv rfl
def Ci:MS:=
 lI gY
def zF:kA=aQ iU Ci 2:=jv rfl
def Ju:MS:=
 oN kA lR gY
def Fg:ls=aQ lz Ju 2:=jv rfl
def MV:MS:=
 oO cC gY ls
def Jq:lu=aQ nG MV 2:=jv rfl
def Ch:MS:=
 lH
def zE:bT=aQ iT Ch 3:=jv rfl
def MU:MS:=
 qM bT
def Jp:qv=aQ nD MU 3:=jv rfl
def zO:MS:=
 mE bT qv
def wQ:gZ=aQ ic zO 3:=jv rfl
def Jt:MS:=
 mD gZ lu
def Ff:dA=aQ ly Jt 2:=jv rfl
def uI:MS:=
 EK
def sK:cW=aQ eM uI 2:=jv rfl
def Cj:MS:=
 zq dA cM cW
def zG:gD=aQ iV Cj 3:=jv rfl
def Fu:MS:=
 zp dA cM cC bT
def BY:jH=aQ jU Fu 3:=jv rfl
def qS:MS:=
 EM dA
def pU:bM=aQ dC qS 3:=jv rfl
def MR:MS:=
 EL
def Jo:jE=aQ nC MR 3:=jv rfl
def zR:MS:=
 pL bM bT jE Wd.reads.s "down"
def wT:hV=aQ ii zR 3:=jv rfl
def wW:MS:=
 pL bM bT jE Wd.out.s "out"
def uE:fB=aQ fH wW 3:=jv rfl
def zQ:MS:=
 pJ bM bT cW cM
def wS:hU=aQ ig zQ 3:=jv rfl
def Fs:MS:=
 pK
def BV:jF=aQ jQ Fs 1:=jv rfl
def zP:MS:=
 ue bM jF
def wR:hJ=aQ ie zP 3:=jv rfl
def Wp:MS:=
 pM (brL gD jH hV fB hU hJ)
def RN:rm=aQ wl Wp 3:=jv rfl
def ou:MS:=
 bq (ft (eG "tuple" (af 0)) (ay cy (bw (aU iF) (aa (af 0) ai)) (af 1)))
def uB:bx=aQ fF ou 2:=jv rfl
def xT:MS:=
 bq (ft (eG "str" (af 0)) (ay pi (af 0) (af 1)))
def Fh:iD=aQ lA xT 2:=jv rfl
def uJ:MS:=
 bq (ft (eG "int" (af 0)) (iK (eG "bool" (af 0))))
def BW:jG=aQ jR uJ 1:=jv rfl
def pW:MS:=
 bq (ft (aw 1 jG (aa (af 0) ai)) (dg Xo Xo (af 1) (af 0) (af 2)))
def wP:dL=aQ ib pW 3:=jv rfl
def iB:MS:=
 aF (bY (da (aw 2 bx (aa (af 1) (aa (mC (.int 1)) ai)))) (bq (aw 2 iD (aa (ay aA (af 1) (mC (.int 0))) (aa (be (aa (mC (.str "tick")) ai)) ai)))) bn) (aF (bY (da (aw 2 bx (aa (af 1) (aa (mC (.int 2)) ai)))) (bq (ft (aw 2 iD (aa (ay aA (af 1) (mC (.int 0))) (aa (mC iI) ai))) (aw 3 dL (aa (ay aA (af 1) (mC (.int 1))) (aa (mC (.int 0)) (aa (ay rn (af 0) (mC (.int 1))) ai)))))) bn) (aF (bY (dm (da (aw 2 bx (aa (af 1) (aa (mC (.int 3)) ai))))) (bq (mC (.bl false))) bn) (aF (aX (af 1) (bi 3 (ag (ah 2) (ag (ah 3) (ag (ah 4) aW))))) (bq (ft (aw 2 iD (aa (af 2) (aa (mC tI) ai))) (ft (aw 3 dL (aa (af 3) (aa (mC (.int 0)) (aa (ay rn (af 0) (mC (.int 1))) ai)))) (zV (ay Ee (af 4) (mC .non)) (aw 3 dL (aa (af 4) (aa (mC (.int 0)) (aa (mC fQ) ai)))))))))))
def Fi:fh=aQ lB iB 2:=jv rfl
def MX:MS:=
 pN cM
def xS:iL=aQ jT MX 2:=jv rfl
def Js:MS:=
 uf fh iL rm
def Fe:jw=aQ dX Js 4:=jv rfl
def oQ:MY:=
 Cr (MZ (gH (dm (da (aw 2 fh (aa (af 1) (aa (af 3) ai))))) (dm (da (aw 2 iL (aa (af 2) (aa (af 3) ai)))))) (pX (mC (.int 0))) (RO bn)) (RO (bq (aw 3 rm (aa (af 0) (aa (af 2) (aa (af 3) ai))))))
def rV:gb=zk dX oQ 4:=meY rfl
def mI:MS:=
 aF (aX (mC .non) (ah 4)) (aF (Hq 4 gb cX "place" (aa (af 0) (aa (af 1) (aa (af 2) (aa (af 3) ai)))) 5 4) (aF (bY (gH (dm (da (zZ cX true (af 4)))) (dm (da (zZ cX true (af 4))))) (bq (mC (.bl false))) bn) (aF (bY (da (zZ cX ([false,false,false].any id) (af 4))) (bq (mC (.bl false))) bn) (bq (ft (eG "int" (uU cX "place" (af 4))) (ft (iK (eG "bool" (uU cX "place" (af 4)))) (ay cy (uU cX "place" (af 4)) (mC (.int 0)))))))))
def sM:dB=aQ eO mI 4:=jv rfl
end K16
end
section
namespace K16
open MI L2
open M hiding mC af ay aB dg da du gH dm ft zV iK oV ai aa be dG gR Ed bJ cx bI bw eG aw bn aF bq fo bY ah aW ag bi gX aX bV eg lg bH dq bQ fz gS lh oS jh fX fU gA fV fR dZ ji ku
def qN:GN cr:=λS r m h h0 h1=>by rw[zJ];exact IY rfl h h0 h1
def left{ns:List Int}{k:Int}(h0:0<=k)(h1:k<=100000):∃ a b,iP [.rol (ns.map .int),.int k] S=U (.ref S.length,S++[.lst [.int a,.int b,.int 0]])/\0<=a/\0<=b/\b<2147483647:=by
 rw[zL]
 exact Jy (N:=iY) (cellAt:=eK) (far:=jK) rfl h0 h1 (λS k h=>by rw[sN];exact DK (N:=eQ) rfl h) (λS=>by rw[Cc];exact Og (N:=jY) rfl)
def Uq(S:ac)(ws:List Wd)(i:Nat)(w:Wd)(h:i<ws.length)(hl:ws.length<=100):dM [cF ws,.int (i:Int),w.d] S=U (cF (ws.set i w),S):=by
 rw[Ca];exact QR (N:=jW) rfl h hl
def seOk:KW fD iO dM:=
 ⟨λS r es hl=>by rw[uH];exact FX (N:=fJ) rfl hl,λS r ws wr=>by rw[zK];exact Np (N:=iX) rfl,Uq⟩
def xE:nY cL:=λS r R h hl=>by
 rw[sL];exact Bk seOk (N:=eN) rfl h hl
def doOk:Yu gd hX cL fC dM:=
 ⟨λS R dd hl hd=>by rw[Cd];exact TH (N:=jZ) rfl hl hd,
 λS r R wr g t h hl hw hs=>by rw[wU];exact KS xE (N:=ij) rfl h hl hw hs,
 xE,λS r w es hl=>by rw[uF];exact Fj (N:=fI) rfl hl,Uq⟩
theorem rowOk:UZ iQ dE:=
 ⟨λS r n P h1 h5=>by rw[zN];exact Pv qN (N:=ja) rfl P h1 (by omega),
 λS rl R dd h hl hd=>by rw[zM];exact Po doOk (N:=iZ) rfl h hl hd⟩
def row{n m:Nat}{rl:Rl}(P:Pk S r)(h1:1<=n)(h5:n<=5)(hm:m<=400):∃ (l:List Dd) (R:Rm) (S':ac),jI [.ref r,rl.d,.int (n:Int),.int (m:Int)] S=U (.tup [.tup (l.map Dd.d),aP R],S')/\Behind rl n l R/\l.length<=m/\Pk S' r/\Grow r S S':=by
 rw[BZ];exact QL rowOk (N:=jV) rfl P h1 h5 hm
def rule(P:Pk S r):∃ (rl:Rl) (S':ac),iN [.ref r] S=U (rl.d,S')/\rl.Ok/\Pk S' r/\Keep r S S':=by
 rw[zI]
 obtain⟨x,a,b,c,S',e,R,P',K⟩:=IR (pick:=cr) qN (N:=iW) rfl P
 obtain⟨w,rfl⟩:=JK R.w
 exact⟨⟨w,a,b,c⟩,S',e,⟨R.a0,R.a5,R.b0,R.b9,R.c0,R.c1⟩,P',K⟩
def Sm:Qk cC:=λS R l hl=>by rw[uD];exact WY (N:=fG) rfl hl
def qH:rN cM:=λS R g hl=>by rw[uA];exact Lm Sm (N:=jx) rfl hl
def AG:oa gY:=⟨λS r R g hl=>by rw[xR];exact KF qH (N:=lC) rfl hl,λS r ws hl=>by rw[xR];exact KE (λS=>by rw[uA];exact Ll Sm (N:=jx) rfl hl) (N:=lC) rfl⟩
def Wi(S:ac)(r:Rl)(R:Rm)(hl:R.1.length<=100)(hl2:R.2.length<=100):ls [r.d,aP R] S=U (oh (rT r R),S):=by
 rw[Fg]
 exact EZ (λS r R hl=>by rw[zF];exact zB AG (N:=iU) rfl hl) (λS w es hw hl=>by rw[BX];exact Aq (N:=jS) rfl hw hl) AG (N:=lz) rfl hl hl2
def PQ(S:ac)(r:Rl)(R:Rm)(hl:R.1.length<=100)(hl2:R.2.length<=100):lu [r.d,aP R] S=U (sR (oH r R),S):=by
 rw[Jq];exact Gx Sm AG Wi (N:=nG) rfl hl hl2
def IB(S:ac)(R:Rm)(g:Nat)(w:Wd)(h:g<R.1.length)(hl:R.1.length<=100):bT [aP R,.int (g:Int),w.d] S=U (aP (R.1.set g w,R.2),S):=by
 rw[zE];exact yQ (N:=iT) rfl h hl
def stOk:Yq gZ lu:=⟨PQ,λS r R v R' l h hl s=>by
 rw[wQ]
 exact DN IB (λS r R i e h hi hl=>by rw[Jp];exact Jx IB (N:=nD) rfl h hi hl) (N:=ic) rfl h hl s⟩
def Mf{r:Rl}(hb:0<=r.b)(h:ROk R)(hl:R.1.length<=50):dA [r.d,aP R] S=U (.tup [aP (aY r R).1,eE (aY r R).2],S++[.lst ((aY r R).2.map Ev.d)]):=by
 rw[Ff];exact zo stOk hb (N:=ly) rfl h hl
def QK{d:D}(h:cT 8 d=true):eJ [d,d] S=U (.bl true,S):=By (R:=gM) (N:=N__law_same) rfl zH 8 d h
def LO:Ix dA:=λS r R hb h hl=>Mf hb h hl
def woOk:Yn cW:=λS R g hl=>by rw[sK];exact Vb (N:=eM) rfl hl
def QJ:Ub bM:=λS r R l hb h hl h4=>by rw[pU];exact Vs LO (N:=dC) rfl hb h hl h4
def tuOk:TuOk jE:=λS r R g w hw hl=>by rw[Jo];exact Vi (N:=nC) rfl hw hl
def olOk(S:ac)(t:Option Int):jF [bR t] S=U (bR (t.map (· - 1)),S):=by rw[BV];exact Nq (N:=jQ) rfl
def deOk:DeOk dA cM cC bT:=⟨LO,qH,Sm,IB⟩
def brOk:BrOk gD jH hV fB hU hJ:=
 ⟨λS r R wr g t hb h hl hw hs=>by rw[zG];exact TX LO qH woOk (N:=iV) rfl hb h hl hw hs,
 λS r R g hb h hl hw=>by rw[BY];exact Vc deOk (N:=jU) rfl hb h hl hw,
 λS r R g w hb h hl hw ho=>by rw[wT];exact Dx QJ IB tuOk (N:=ii) rfl hb h hl hw ho (.inl rfl) rfl (by decide) rfl,
 λS r R g w hb h hl hw ho=>by rw[uE];exact Dx QJ IB tuOk (N:=fH) rfl hb h hl hw ho (.inr rfl) rfl (by decide) rfl,
 λS r R g w hb h hl hw hc=>by rw[wS];exact LC QJ IB woOk qH (N:=ig) rfl hb h hl hw hc,
 λS r R hb h hl=>by rw[wR];exact Ls QJ olOk (N:=ie) rfl hb h hl⟩
def pdone{r:Rl}{dd:Dd}{x:Rm×List Ev}(hb:0<=r.b)(h:ROk R)(hl:R.1.length<=50)(hd:dd.Ok R.1.length)(hx:hZ r R dd=U x):∃ T,rm [r.d,aP R,dd.d] S=U (gG x,S++T):=by
 rw[RN];exact Jc brOk (N:=wl) rfl hb h hl hd hx
noncomputable def el:D->Bool
 | .ref _=>false
 | .txt=>false
 | .exc _ _ _=>false
 | _=>true
def Ic{d:D}(h:el d=true):nr d=true:=by cases d<;>first | rfl | cases h
def CV{d:D}(h:nr d=true):jG [d] S=U (.bl (Eh d),S):=by
 rw[BW,bg (show [d].length=1 from rfl),show az jR [d]=[U d] from rfl]
 simp only[uJ,aV,lM,FB,aj,bK,oj,ob,ak,FN,Ou h]
 cases d<;>simp[NQ,HJ,Eh,JX h]
def kR{d:D}{lo:Int}(h:nr d=true):dL [d,.int lo,.int hi] S=U (.bl (kU lo hi d),S):=by
 rw[wP,bg (show [d,D.int lo,D.int hi].length=3 from rfl),show az ib [d,.int lo,.int hi]=[U d,U (.int lo),U (.int hi)] from rfl]
 simp only[pW,aV,lM,aE,aq,au,ao,am,aj,bK,oj,ob,ak,qi,CV h]
 cases d<;>simp[Eh,kU]
 rename_i i
 by_cases h1:lo<=i<;>simp[h1]
noncomputable def cf{d:D}(h:nr d=true):bx [d,.int n] S=U (.bl (match d with | .tup xs=>decide ((xs.length:Int)=n) | _=>false),S):=by
 rw[uB,bg (show [d,D.int n].length=2 from rfl),show az fF [d,.int n]=[U d,U (.int n)] from rfl]
 simp only[ou,aV,lM,FB,aj,bK,bN,oj,ob,ak,FN,Os h]
 cases d<;>simp[NP]
 rfl
def wB(ys:List D):D->Bool
 | .str x=>ys.any λy=>jd y (.str x)
 | _=>false
def pf{d:D}{ys:List D}(h:el d=true)(hy:ys.all (cB 39)=true):iD [d,.tup ys] S=U (.bl (wB ys d),S):=by
 rw[Fh,bg (show [d,D.tup ys].length=2 from rfl),show az lA [d,.tup ys]=[U d,U (.tup ys)] from rfl]
 simp only[xT,aV,lM,FB,aj,bK,bN,oj,ob,ak,FN,Ot (Ic h)]
 cases d with
 | str x=>
  have hi:pi S (.str x) (.tup ys)=U (.bl (ys.any λy=>jd y (.str x))):=jN (ys:=ys) rfl rfl hy
  simp[FS,hi,wB]
 | txt=>cases h
 | _=>simp[FS,wB]
noncomputable def yV(x:Str):Nat:=if x=="read" then 3 else if x=="write" then 3 else if x=="up" then 2 else if x=="down" then 2 else if x=="leave" then 2 else if x=="stop" then 2 else if x=="tick" then 1 else 0
noncomputable def RH:D->Bool
 | .non=>true
 | _=>false
noncomputable def kH(n:Int):D->Bool
 | .tup [.str x]=>yV x==1
 | .tup [.str x,g]=>yV x==2&&kU 0 (n - 1) g
 | .tup [.str x,g,t]=>yV x==3&&(kU 0 (n - 1) g&&(RH t||kU 0 9 t))
 | _=>false
def Li(x:Str):x = "read"\/x = "write"\/x = "up"\/x = "down"\/x = "leave"\/x = "stop"\/x = "tick"\/(x≠"read"/\x≠"write"/\x≠"up"/\x≠"down"/\x≠"leave"/\x≠"stop"/\x≠"tick"):=by
 by_cases h1:x = "read";· exact .inl h1
 by_cases h2:x = "write";· exact .inr (.inl h2)
 by_cases h3:x = "up";· exact .inr (.inr (.inl h3))
 by_cases h4:x = "down";· exact .inr (.inr (.inr (.inl h4)))
 by_cases h5:x = "leave";· exact .inr (.inr (.inr (.inr (.inl h5))))
 by_cases h6:x = "stop";· exact .inr (.inr (.inr (.inr (.inr (.inl h6)))))
 by_cases h7:x = "tick";· exact .inr (.inr (.inr (.inr (.inr (.inr (.inl h7))))))
 exact .inr (.inr (.inr (.inr (.inr (.inr (.inr ⟨h1,h2,h3,h4,h5,h6,h7⟩))))))
theorem w1:wB [.str "tick"] (.str x)=(yV x==1):=by
 rcases Li x with rfl | rfl | rfl | rfl | rfl | rfl | rfl | ⟨h1,h2,h3,h4,h5,h6,h7⟩
 iterate 7 decide +kernel
 simp[wB,yV,jd,h1,h2,h3,h4,h5,h6,h7,Ne.symm h7]
theorem w2:wB [.str "up",.str "down",.str "leave",.str "stop"] (.str x)=(yV x==2):=by
 rcases Li x with rfl | rfl | rfl | rfl | rfl | rfl | rfl | ⟨h1,h2,h3,h4,h5,h6,h7⟩
 iterate 7 decide +kernel
 simp[wB,yV,jd,h1,h2,h3,h4,h5,h6,h7,Ne.symm h3,Ne.symm h4,Ne.symm h5,Ne.symm h6]
theorem w3:wB [.str "read",.str "write"] (.str x)=(yV x==3):=by
 rcases Li x with rfl | rfl | rfl | rfl | rfl | rfl | rfl | ⟨h1,h2,h3,h4,h5,h6,h7⟩
 iterate 7 decide +kernel
 simp[wB,yV,jd,h1,h2,h3,h4,h5,h6,h7,Ne.symm h1,Ne.symm h2]
noncomputable def rQ:D->Bool
 | .ref _=>false
 | .exc _ _ _=>false
 | .tup xs=>xs.all el
 | _=>true
def th_nr{d:D}(h:rQ d=true):nr d=true:=by cases d<;>first | rfl | cases h
def WV:nQ x .non=RH x:=by cases x<;>rfl
theorem ix0{a:D}{r:List D}:aA S (.tup (a::r)) (.int 0)=U a:=by
 rw[UN,AM (by decide) (by simp only[YT];omega)];rfl
def gT{a b c:D}{x0 x1:Option D}:bi 3 (ag (ah 2) (ag (ah 3) (ag (ah 4) aW))) (.tup [a,b,c]) [x0,x1,Y,Y,Y] S=U ([x0,x1,U a,U b,U c],S):=by simp
theorem vn{S:ac}{d:D}{n:Int}(h:rQ d=true):fh [.int n,d] S=U (.bl (kH n d),S):=by
 rw[Fi,bg (show [D.int n,d].length=2 from rfl),show az lB [.int n,d]=[U (.int n),U d,Y,Y,Y] from rfl]
 have gw:iI=.tup [.str "up",.str "down",.str "leave",.str "stop"]:=rfl
 have ww:tI=.tup [.str "read",.str "write"]:=rfl
 have g9:fQ=.int 9:=rfl
 have tk:cz ([.str "tick"],S)=U (.tup [.str "tick"],S):=aT (by simp)
 cases d with
 | tup xs=>
  match xs,h with
  | [],h=>
   have t1:bx [.tup [],.int 1] S=U (.bl false,S):=cf rfl
   have t2:bx [.tup [],.int 2] S=U (.bl false,S):=cf rfl
   have t3:bx [.tup [],.int 3] S=U (.bl false,S):=cf rfl
   simp[iB,t1,t2,t3,kH]
  | [a],h=>
   have ha:el a=true:=by simpa[rQ] using h
   have e1:=pf (S:=S) (ys:=[.str "tick"]) ha rfl
   have t1:bx [.tup [a],.int 1] S=U (.bl true,S):=cf rfl
   have x0:aA S (.tup [a]) (.int 0)=U a:=rfl
   simp only[iB,aS,bt,df,aE,aq,aj,bK,bN,bO,oj,ob,ak,ao,bp,au,am,ba,t1,dH,bU,aV,aJ,av,ax,x0,bj,tk,e1,bC,bW,aO]
   cases a<;>first | rfl | rw[w1];rfl
  | [a,g],h=>
   have ha:el a=true/\el g=true:=by simpa[rQ] using h
   have e1:=pf (S:=S) (ys:=[.str "up",.str "down",.str "leave",.str "stop"]) ha.1 rfl
   have e2:=kR (S:=S) (lo:=0) (hi:=n - 1) (Ic ha.2)
   have t1:bx [.tup [a,g],.int 1] S=U (.bl false,S):=cf rfl
   have t2:bx [.tup [a,g],.int 2] S=U (.bl true,S):=cf rfl
   have x0:aA S (.tup [a,g]) (.int 0)=U a:=rfl
   have x1:aA S (.tup [a,g]) (.int 1)=U g:=rfl
   simp only[iB,gw,aS,bt,df,aE,aq,aj,bK,bN,bO,oj,ob,ak,ao,bp,au,am,ba,t1,t2,dH,bU,bS,bE,aH,aV,lM,aJ,av,ax,x0,e1]
   cases a with
   | str x=>rw[w2];cases hq:yV x==2<;>simp[e2,x1,hq,kH]
   | _=>simp[wB,kH]
  | [a,g,t],h=>
   have ha:el a=true/\el g=true/\el t=true:=by simpa[rQ] using h
   have e1:=pf (S:=S) (ys:=[.str "read",.str "write"]) ha.1 rfl
   have e2:=kR (S:=S) (lo:=0) (hi:=n - 1) (Ic ha.2.1)
   have e3:=kR (S:=S) (lo:=0) (hi:=9) (Ic ha.2.2)
   have t1:bx [.tup [a,g,t],.int 1] S=U (.bl false,S):=cf rfl
   have t2:bx [.tup [a,g,t],.int 2] S=U (.bl false,S):=cf rfl
   have t3:bx [.tup [a,g,t],.int 3] S=U (.bl true,S):=cf rfl
   simp only[iB,ww,g9,aS,bt,df,fK,fM,aE,aq,aj,bK,bN,bO,oj,ob,ak,ao,bp,au,am,ba,t1,t2,t3,dH,Zk,bS,bE,aH,bu,bv,gT,bP,aV,lM,e1]
   cases a with
   | str x=>rw[w3];cases hq:yV x==3<;>cases hg:kU 0 (n - 1) g<;>cases ht:RH t<;>simp[e2,e3,hq,hg,ht,WV,kH]
   | _=>simp[wB,kH]
  | a::g::t::u::r,h=>
   have t0:∀ k:Int,k<=3->bx [.tup (a::g::t::u::r),.int k] S=U (.bl false,S):=λk hk=>by
    rw[cf rfl]
    have:¬ (((a::g::t::u::r).length:Int)=k):=by simp only[YT];omega
    simp only[YK this]
   simp[iB,t0 1 (by decide),t0 2 (by decide),t0 3 (by decide),kH]
 | ref _=>cases h
 | exc _ _ _=>cases h
 | _=>
  have t0:∀ k:Int,bx [_,.int k] S=U (.bl false,S):=λk=>cf (th_nr h)
  simp[iB,t0,kH]
theorem DD{dd:Dd}(hd:dd.Ok n):rQ dd.d=true/\kH (n:Int) dd.d=true:=by
 cases dd with
 | ask wr g t=>
  obtain⟨h1,h2⟩:=hd
  have hg:kU 0 ((n:Int) - 1) (.int (g:Int))=true:=by simp[kU];omega
  cases t with
  | none=>cases wr<;>exact⟨rfl,by simp only[Dd.d,bR,bA,kH,hg];rfl⟩
  | some k=>
   have hk:kU 0 9 (.int k)=true:=by have:=h2 k rfl;simp[kU];omega
   cases wr<;>exact⟨rfl,by simp only[Dd.d,bR,bA,kH,hg,hk];rfl⟩
 | act k g=>
  have hg:kU 0 ((n:Int) - 1) (.int (g:Int))=true:=by have:g<n:=hd;simp[kU];omega
  cases k<;>exact⟨rfl,by simp only[Dd.d,Ak.s,kH,hg];rfl⟩
 | tick=>exact⟨rfl,rfl⟩
def NR{dd:Dd}(hd:dd.Ok n):fh [.int (n:Int),dd.d] S=U (.bl true,S):=by
 rw[vn (DD hd).1,(DD hd).2]
def canDo{R:Rm}{dd:Dd}(hl:R.1.length<=100)(hd:dd.Ok R.1.length)(hc:dP R dd=true):iL [aP R,dd.d] S=U (.bl true,S):=by
 rw[xS]
 by_cases ht:dd=.tick
 ·subst ht;exact GA (N:=jT) rfl
 ·exact(yI qH (N:=jT) rfl hl hd ht).trans (by rw[hc])
theorem QC{r:Rl}{n:Nat}{dd:Dd}{x:Rm×List Ev}(hb:0<=r.b)(h:ROk R)(hn:R.1.length=n)(h5:n<=5)(hd:dd.Ok n)(hx:hZ r R dd=U x):∃ T,jw [r.d,.int (n:Int),aP R,dd.d] S=U (gG x,S++T):=by
 subst hn
 obtain⟨T,e⟩:=pdone (S:=S) hb h (by omega) hd hx
 refine⟨T,?_⟩
 rw[Fe]
 exact LD (N:=dX) rfl (NR hd) (canDo (by omega) hd (Kq hx)) e
theorem Vt{x:Rm×List Ev}(h:ROk R)(hl:R.1.length<=5)(hx:hZ r R dd=U x):eJ [gG x,gG x] S=U (.bl true,S):=by
 obtain⟨h1,h2⟩:=Dy h hx
 have h3:=h1.len
 have h4:=Kp h hl hx
 exact QK (LR (by omega) (by omega) (by omega))
def Nt{r:Rl}{dd:Dd}(h:ROk R)(hl:R.1.length<=50)(hd:dd.Ok R.1.length):∃ T,dE [r.d,aP R,dd.d] S=U (oG (hZ r R dd),S++T):=rowOk.dn S r R dd h hl hd
def Wh{r:Rl}{n:Nat}{x:D}(h:fh [.int (n:Int),x] S=U (.bl false,S)):gb [r.d,.int (n:Int),aP R,x] S=U (.xc (U 0) S):=by
 rw[rV];unfold zk;rw[YR (show [r.d,D.int (n:Int),aP R,x].length=4 from rfl),show az dX [r.d,D.int (n:Int),aP R,x]=[U r.d,U (.int (n:Int)),U (aP R),U x] from rfl]
 simp only[oQ,Cr,MZ,iC,fK,df,aE,aq,aj,bK,bN,bO,oj,ob,ak,ao,au,am,ba,h,dH,fM,Zo,vc,abe,pX,bp,ydI]
def noWay{r:Rl}{n:Nat}{x:D}(h:fh [.int (n:Int),x] S=U (.bl true,S))(h2:iL [aP R,x] S=U (.bl false,S)):gb [r.d,.int (n:Int),aP R,x] S=U (.xc (U 0) S):=by
 rw[rV];unfold zk;rw[YR (show [r.d,D.int (n:Int),aP R,x].length=4 from rfl),show az dX [r.d,D.int (n:Int),aP R,x]=[U r.d,U (.int (n:Int)),U (aP R),U x] from rfl]
 simp only[oQ,Cr,MZ,iC,fK,df,aE,aq,aj,bK,bN,bO,oj,ob,ak,ao,au,am,ba,h,h2,dH,fM,Zk,Zo,lQ,abe,pX,bp,ydI]
def GW{r:Rl}{n:Nat}{x:D}(h:gb [r.d,.int (n:Int),aP R,x] S=U (.xc (U 0) S)):dB [r.d,.int (n:Int),aP R,x] S=U (.bl true,S):=by
 rw[sM,bg (show [r.d,D.int (n:Int),aP R,x].length=4 from rfl),show az eO [r.d,D.int (n:Int),aP R,x]=[U r.d,U (.int (n:Int)),U (aP R),U x,Y,Y] from rfl]
 have i1:kg "int" S (.int 0)=U (.bl true):=rfl
 have i2:kg "bool" S (.int 0)=U (.bl false):=rfl
 simp[mI,Hq,zZ,uU,ydD,h,i1,i2]
section
variable{α:Type}{enc:α->D}{p:α->Bool}{f:α->D}{t:MT}{e:ME}{rest:bh}
theorem PM:∀ (xs:List α) (a:Option D) (S:ac),(∀ S,∀ x∈xs,∃ T,t (U (enc x)::rest) S=U (p x,S++T))->(∀ S,∀ x∈xs,p x=true->∃ T,e (U (enc x)::rest) S=U (f x,S++T))->∃ T,dr (ah 0) t e (xs.map enc) (a::rest) S=U ((xs.filter p).map f,S++T)
 | [],a,S,_,_=>⟨[],by simp⟩
 | x::r,a,S,h,h2=>by
  obtain⟨T1,e1⟩:=h S x (by simp)
  rw[YJ,gB,aZ,ob,fL,vk,e1,ob]
  cases hp:p x with
  | true=>
   obtain⟨T2,e2⟩:=h2 (S++T1) x (by simp) hp
   obtain⟨T3,ih⟩:=PM r (U (enc x)) ((S++T1)++T2) (λS y hy=>h S y (YB _ hy)) λS y hy=>h2 S y (YB _ hy)
   exact⟨T1++(T2++T3),by rw[vj,e2,ob,vi,ih,ob,vh,aaH hp,YJ,Ze,Ze]⟩
  | false=>
   obtain⟨T3,ih⟩:=PM r (U (enc x)) (S++T1) (λS y hy=>h S y (YB _ hy)) λS y hy=>h2 S y (YB _ hy)
   exact⟨T1++T3,by rw[Am,ih,aaI (by simp[hp]),Ze]⟩
def Nz{a:Option D}{xs:List α}{S:ac}(hc:vZ cap env=a::rest)(hl:xs.length<=1000)(h:∀ S,∀ x∈xs,∃ T,t (U (enc x)::rest) S=U (p x,S++T))(h2:∀ S,∀ x∈xs,p x=true->∃ T,e (U (enc x)::rest) S=U (f x,S++T)) :
  ∃ T,mP (ah 0) t e cap env (xs.map enc,S)=U (.lst ((xs.filter p).map f),S++T):=by
 obtain⟨T,e1⟩:=PM xs a S h h2
 exact⟨T,by rw[jC (by rw[YE];exact hl),hc,e1,ob,lm]⟩
end
def laA(w:Str):ME:=bH (bV (aa (af 0) ai)) (ah 0) bQ (be (aa (mC (.str w)) (aa (af 0) (aa (mC .non) ai)))) [Y]
def laB:ME:=bH (bV (aa (af 0) ai)) (ah 0) bQ (be (aa (af 1) (aa (af 0) ai))) [Y,U 2]
def laX:MS:=fo (fz kG (af 1) (aa laB ai))
def Nw:MS:=aF (aX (ji (laA "read") (laA "write")) (ah 1)) (aF (gA (be (aa (mC (.str "up")) (aa (mC (.str "down")) (aa (mC (.str "leave")) (aa (mC (.str "stop")) ai))))) (ah 2) laX) (bq (af 1)))
theorem rg0{n:Nat}{a b:Option D}(h5:n<=5):bV (aa (af 0) ai) [U (.int (n:Int)),a,b] S=U ((List.range n).map ni,S):=by
 have:ND ([.int (n:Int)],S)=U (cw 0 n,S):=by rw[lP (by omega) (by omega)];rfl
 simp only[fg,aq,aj,bK,bN,bO,oj,ob,ak,ao,au,am,this,xK]
def Wo{n:Nat}(f:Nat->Dd):((List.range n).map λg=>(f g).d)=((List.range n).map f).map Dd.d:=by rw[ZA];rfl
theorem Nx{n:Nat}{a b:Option D}(h5:n<=5):laA (bA wr) [U (.int (n:Int)),a,b] S=U (.lst (((List.range n).map λg=>Dd.ask wr g Y).map Dd.d),S):=by
 have k:=dw (S:=S) (t:=bQ) (e:=be (aa (mC (.str (bA wr))) (aa (af 0) (aa (mC .non) ai)))) (cap:=[Y]) (env:=[U (.int (n:Int)),a,b]) (rest:=[]) (a:=Y) (enc:=ni) (p:=λ_=>true) (f:=λg=>(Dd.ask wr g Y).d) (xs:=List.range n) rfl (by rw[Zy];omega) (λ_ _=>gQ) (λg _ _=>by
  simp only[bj,aq,aj,bK,bN,bO,oj,ob,ak,ao,bp,au,am,Nj];rfl)
 rw[Zu.mpr (λ_ _=>rfl),Wo] at k
 simp only[laA,bL,rg0 h5,ob,k]
def Wy{n:Nat}{a:Option D}{w:Ak}(h5:n<=5):laB [U (.int (n:Int)),a,U (.str w.s)] S=U (.lst (((List.range n).map λg=>Dd.act w g).map Dd.d),S):=by
 have k:=dw (S:=S) (t:=bQ) (e:=be (aa (af 1) (aa (af 0) ai))) (cap:=[Y,U 2]) (env:=[U (.int (n:Int)),a,U (.str w.s)]) (rest:=[U (.str w.s)]) (a:=Y) (enc:=ni) (p:=λ_=>true) (f:=λg=>(Dd.act w g).d) (xs:=List.range n) rfl (by rw[Zy];omega) (λ_ _=>gQ) (λg _ _=>by
  simp only[bj,aq,aj,bK,bN,bO,oj,ob,ak,ao,bp,au,am,FC];rfl)
 rw[Zu.mpr (λ_ _=>rfl),Wo] at k
 simp only[laB,bL,rg0 h5,ob,k]
theorem Af{S:ac}{n:Nat}{w:Ak}{xs:List Dd}(h5:n<=5)(hx:xs.length<=500):laX [U (.int (n:Int)),U (.ref S.length),U (.str w.s)] (S++[.lst (xs.map Dd.d)])=U (.nx [U (.int (n:Int)),U (.ref S.length),U (.str w.s)] (S++[.lst ((xs++(List.range n).map λg=>Dd.act w g).map Dd.d)])):=by
 have ex:kG (.ref S.length) [.lst (((List.range n).map λg=>Dd.act w g).map Dd.d)] (S++[.lst (xs.map Dd.d)])=U (.non,S++[.lst ((xs++(List.range n).map λg=>Dd.act w g).map Dd.d)]):=by
  show(match (S++[Cell.lst (xs.map Dd.d)])[S.length]? with | some (.lst xs)=>if xs.length+(((List.range n).map λg=>Dd.act w g).map Dd.d).length<=acY then U (D.non,(S++[Cell.lst (List.map Dd.d _)]).set S.length (.lst (xs++((List.range n).map λg=>Dd.act w g).map Dd.d))) else Y | _=>Y)=_
  rw[ia]
  dsimp only
  rw[YR (sz (by simp only[YE,Zy];omega)),AQ,<- Zq]
 have km:∀ ms env,rY kG ms env (.ref S.length,S++[.lst (xs.map Dd.d)])=(ms env (S++[.lst (xs.map Dd.d)])).bind (eH kG (.ref S.length)):=λms env=>Ai ia
 simp only[laX,nK,nJ,aj,bK,bN,bO,oj,ob,ak,km,aq,Wy h5,ao,au,am,gW,ex,nP]
theorem Nv{n:Nat}(h5:n<=5):iE [.int (n:Int)] S=U (.ref S.length,S++[.lst ((rL n).map Dd.d)]):=by
 rw[Ce,show uN=Nw from rfl,bg (show [D.int (n:Int)].length=1 from rfl),show az ke [D.int (n:Int)]=[U (.int (n:Int)),Y,Y] from rfl]
 have e1:laA "read" [U (.int (n:Int)),Y,Y] S=_:=Nx (wr:=false) h5
 have e2:laA "write" [U (.int (n:Int)),Y,Y] S=_:=Nx (wr:=true) h5
 have k4:cz ([.str "up",.str "down",.str "leave",.str "stop"],S++[.lst ((rJ n).map Dd.d)])=U (.tup [.str "up",.str "down",.str "leave",.str "stop"],S++[.lst ((rJ n).map Dd.d)]):=aT (by simp)
 have ct:HG (.lst (((List.range n).map λg=>Dd.ask false g Y).map Dd.d)) (.lst (((List.range n).map λg=>Dd.ask true g Y).map Dd.d),S)=U (.ref S.length,S++[.lst ((rJ n).map Dd.d)]):=by
  rw[Se (by simp only[YE,Zy];omega),<- Zq]
  congr 5
  simp[rJ]
 have la:(rJ n).length=n+n:=DU
 have x1:=Af (S:=S) (n:=n) (w:=.up) (xs:=rJ n) h5 (by omega)
 have x2:=Af (S:=S) (n:=n) (w:=.down) (xs:=rJ n++(List.range n).map λg=>Dd.act .up g) h5 (by simp only[YQ,YE,Zy];omega)
 have x3:=Af (S:=S) (n:=n) (w:=.leave) (xs:=(rJ n++(List.range n).map λg=>Dd.act .up g)++(List.range n).map λg=>Dd.act .down g) h5 (by simp only[YQ,YE,Zy];omega)
 have x4:=Af (S:=S) (n:=n) (w:=.stop) (xs:=((rJ n++(List.range n).map λg=>Dd.act .up g)++(List.range n).map λg=>Dd.act .down g)++(List.range n).map λg=>Dd.act .leave g) h5 (by simp only[YQ,YE,Zy];omega)
 have fin:((((rJ n++(List.range n).map λg=>Dd.act .up g)++(List.range n).map λg=>Dd.act .down g)++(List.range n).map λg=>Dd.act .leave g)++(List.range n).map λg=>Dd.act .stop g)=rL n:=by
  simp[rL,TZ,Ze]
 simp only[Ak.s] at x1 x2 x3 x4
 rw[fin] at x4
 simp only[Nw,aS,bu,RQ,e1,ob,Sf,e2,ct,bv,aZ,fL,gI,bP,aH,pY,bj,aq,bp,ao,au,am,k4,RZ,fW,oY,x1,x2,x3,x4,nO,Jw,aV,aj,bK,bN,bO,oj,ak,bC,aO]
noncomputable def wu(n:Nat):List Dd:=rL n++((List.range n).map (λg=>Dd.ask false g (U 0))++(List.range n).map λg=>Dd.ask true g (U 9))
theorem Ii{n:Nat}(h5:n<=5):(wu n).length<=100:=by
 unfold wu rL;simp only[YQ,DU,Qj,YE,Zy];omega
def AA{dd:Dd}(h:dd∈wu n):dd.Ok n/\dd≠.tick:=by
 rcases YX.mp h with h | h
 ·exact TY h
 ·rcases YX.mp h with h | h<;>obtain⟨g,hg,rfl⟩:=Zb.mp h
  ·exact⟨⟨ZU.mp hg,λk hk=>by cases hk;decide⟩,by intro z;cases z⟩
  ·exact⟨⟨ZU.mp hg,λk hk=>by cases hk;decide⟩,by intro z;cases z⟩
def xQ(w:Str)(t:Int):ME:=bH (bV (aa (af 5) ai)) (ah 0) bQ (be (aa (mC (.str w)) (aa (af 0) (aa (mC (.int t)) ai)))) [Y]
def BR{n:Nat}{a0 a1 a2 a3 a4:Option D}{r:bh}(h5:n<=5):xQ (bA wr) t (a0::a1::a2::a3::a4::U (.int (n:Int))::r) S=U (.lst (((List.range n).map λg=>Dd.ask wr g (U t)).map Dd.d),S):=by
 have rg:bV (aa (af 5) ai) (a0::a1::a2::a3::a4::U (.int (n:Int))::r) S=U ((List.range n).map ni,S):=by
  have:ND ([.int (n:Int)],S)=U (cw 0 n,S):=by rw[lP (by omega) (by omega)];rfl
  simp only[fg,aq,aj,bK,bN,bO,oj,ob,ak,ao,au,am,this,xK]
 have k:=dw (S:=S) (t:=bQ) (e:=be (aa (mC (.str (bA wr))) (aa (af 0) (aa (mC (.int t)) ai)))) (cap:=[Y]) (env:=a0::a1::a2::a3::a4::U (.int (n:Int))::r) (rest:=[]) (a:=Y) (enc:=ni) (p:=λ_=>true) (f:=λg=>(Dd.ask wr g (U t)).d) (xs:=List.range n) rfl (by rw[Zy];omega) (λ_ _=>gQ) (λg _ _=>by
  simp only[bj,aq,aj,bK,bN,bO,oj,ob,ak,ao,bp,au,am,Nj];rfl)
 rw[Zu.mpr (λ_ _=>rfl),Wo] at k
 simp only[xQ,bL,rg,ob,k]
def dsE:ME:=ay aM (ay aM (aw 1 iE (aa (af 5) ai)) (xQ "read" 0)) (xQ "write" 9)
theorem XD{n:Nat}{a0 a1 a2 a3 a4:Option D}{r:bh}(h5:n<=5):dsE (a0::a1::a2::a3::a4::U (.int (n:Int))::r) S=U (.lst ((wu n).map Dd.d),S++[.lst ((rL n).map Dd.d)]):=by
 have e1:iE [.int (n:Int)] S=_:=Nv h5
 have e2:∀ S,xQ "read" 0 (a0::a1::a2::a3::a4::U (.int (n:Int))::r) S=_:=λS=>BR (wr:=false) h5
 have e3:∀ S,xQ "write" 9 (a0::a1::a2::a3::a4::U (.int (n:Int))::r) S=_:=λS=>BR (wr:=true) h5
 have la:(rL n).length<=100:=YW (by unfold wu;rw[YQ];omega) (Ii h5)
 have c1:aM (S++[.lst ((rL n).map Dd.d)]) (.ref S.length) (.lst (((List.range n).map λg=>Dd.ask false g (U 0)).map Dd.d))=U (.lst ((rL n).map Dd.d++((List.range n).map λg=>Dd.ask false g (U 0)).map Dd.d)):=
  At rfl (by simp only[lj];rw[ia]) rfl (by simp only[YE,Zy];omega)
 have c2:∀ S,aM S (.lst ((rL n).map Dd.d++((List.range n).map λg=>Dd.ask false g (U 0)).map Dd.d)) (.lst (((List.range n).map λg=>Dd.ask true g (U 9)).map Dd.d))=U (.lst ((wu n).map Dd.d)):=λS=>by
  rw[ng (by simp only[YQ,YE,Zy];omega),<- Zq,<- Zq,Ze];rfl
 simp only[dsE,aJ,aE,aq,aj,bK,bN,bO,oj,ob,ak,ao,au,am,qi,e1,av,e2,ax,c1,e3,c2]
noncomputable def sJ(w:Str):List D:=[.non,.bl true,.int 0,.str "",.str "tick",.tup [],.lst [],.dct [] [],.tup [.str "tick",.int 0],.lst [.str "tick"],.tup [.str "ticks"],.tup [.str w],.tup [.int 0,.str w]]
noncomputable def ut(w:Str)(n:Nat)(ms:List D):List D:=[.tup ([.str w,.int (n:Int)]++ms),.tup ([.str w,.int (-1)]++ms),.tup ([.str w,.bl true]++ms),.tup ([.str w,.str "0"]++ms),.lst [.str w,.int 0]]
noncomputable def EV(w:Str):List D:=[.tup [.str "read",.int 0,.int 10],.tup [.str "write",.int 0,.int (-1)],.tup [.str "read",.int 0,.bl true],.tup [.str "read",.int 0],.tup [.str "up",.int 0,.non],.tup [.tup [.str w,.int 0]]]
noncomputable def MH(w:Str)(n:Nat)(ms:List D):List D:=(sJ w++ut w n ms)++EV w
noncomputable def noB(n:Int)(x:D):Bool:=rQ x&&!kH n x
theorem Wg{ms:List D}(h:(yV w=3/\ms=[.non])\/(yV w=2/\ms=[])):(MH w n ms).all (noB (n:Int))=true:=by
 have b1:kU 0 ((n:Int) - 1) (.int (n:Int))=false:=by simp[kU];omega
 have b2:kU 0 ((n:Int) - 1) (.int (-1))=false:=by simp[kU]
 have b3:kU 0 ((n:Int) - 1) (.bl true)=false:=rfl
 have b4:kU 0 ((n:Int) - 1) (.str "0")=false:=rfl
 have b5:kU 0 9 (.int 10)=false:=rfl
 have b6:kU 0 9 (.int (-1))=false:=rfl
 have b7:kU 0 9 (.bl true)=false:=rfl
 have s1:(yV "read"==2)=false:=rfl
 have s2:(yV "up"==3)=false:=rfl
 have s3:(yV "ticks"==1)=false:=rfl
 have s4:(yV "tick"==2)=false:=rfl
 rcases h with ⟨h,rfl⟩ | ⟨h,rfl⟩<;>simp[MH,sJ,ut,EV,noB,rQ,el,kH,h,b1,b2,b3,b4,b5,b6,b7,s1,s2,s3,s4,RH]
def inw{b:Bool}(h:([D.str "read",.str "write"].any λd=>jd d (.str w))=b)(S:ac):pi S (.str w) (.tup [.str "read",.str "write"])=U (.bl b):=by
 rw[jN (ys:=[.str "read",.str "write"]) rfl rfl rfl,h]
def Yi{q:Int}(h0:0<=q)(h1:q<6):∃ (w:Str) (b:Bool),mx [D.str "read",D.str "write",D.str "up",D.str "down",D.str "leave",D.str "stop"] q=U (.str w)/\(∀ S,pi S (.str w) (.tup [.str "read",.str "write"])=U (.bl b))/\((yV w=3/\b=true)\/(yV w=2/\b=false)):=by
 have:q=0\/q=1\/q=2\/q=3\/q=4\/q=5:=by omega
 rcases this with rfl | rfl | rfl | rfl | rfl | rfl
 ·exact⟨"read",true,rfl,inw rfl,.inl ⟨rfl,rfl⟩⟩
 ·exact⟨"write",true,rfl,inw rfl,.inl ⟨rfl,rfl⟩⟩
 ·exact⟨"up",false,rfl,inw rfl,.inr ⟨rfl,rfl⟩⟩
 ·exact⟨"down",false,rfl,inw rfl,.inr ⟨rfl,rfl⟩⟩
 ·exact⟨"leave",false,rfl,inw rfl,.inr ⟨rfl,rfl⟩⟩
 ·exact⟨"stop",false,rfl,inw rfl,.inr ⟨rfl,rfl⟩⟩
def od1:ME:=dG (aa (mC .non) (aa (mC (.bl true)) (aa (mC (.int 0)) (aa (mC (.str "")) (aa (mC (.str "tick")) (aa (be ai) (aa (dG ai) (aa (mC (.dct [] [])) (aa (be (aa (mC (.str "tick")) (aa (mC (.int 0)) ai))) (aa (dG (aa (mC (.str "tick")) ai)) (aa (be (aa (mC (.str "ticks")) ai)) (aa (be (aa (af 2) ai)) (aa (be (aa (mC (.int 0)) (aa (af 2) ai))) ai)))))))))))))
def od2:ME:=dG (aa (ay aM (be (aa (af 2) (aa (af 1) ai))) (af 3)) (aa (ay aM (be (aa (af 2) (aa (Ed Om (mC (.int 1))) ai))) (af 3)) (aa (ay aM (be (aa (af 2) (aa (mC (.bl true)) ai))) (af 3)) (aa (ay aM (be (aa (af 2) (aa (mC (.str "0")) ai))) (af 3)) (aa (dG (aa (af 2) (aa (mC (.int 0)) ai))) ai)))))
def od3:ME:=dG (aa (be (aa (mC (.str "read")) (aa (mC (.int 0)) (aa (mC (.int 10)) ai)))) (aa (be (aa (mC (.str "write")) (aa (mC (.int 0)) (aa (Ed Om (mC (.int 1))) ai)))) (aa (be (aa (mC (.str "read")) (aa (mC (.int 0)) (aa (mC (.bl true)) ai)))) (aa (be (aa (mC (.str "read")) (aa (mC (.int 0)) ai))) (aa (be (aa (mC (.str "up")) (aa (mC (.int 0)) (aa (mC .non) ai)))) (aa (be (aa (be (aa (af 2) (aa (mC (.int 0)) ai))) ai)) ai))))))
def uL:MS:=aF (aX (ay aA (dG (aa (mC (.str "read")) (aa (mC (.str "write")) (aa (mC (.str "up")) (aa (mC (.str "down")) (aa (mC (.str "leave")) (aa (mC (.str "stop")) ai))))))) (aw 2 cr (aa (af 0) (aa (mC (.int 6)) ai)))) (ah 2)) (aF (aX (ay cH (be (aa (mC .non) ai)) (bw (aU kD) (aa (ay pi (af 2) (be (aa (mC (.str "read")) (aa (mC (.str "write")) ai)))) ai))) (ah 3)) (aF (aX od1 (ah 4)) (aF (aX (ay aM (af 4) od2) (ah 4)) (bq (ay aM (af 4) od3)))))
def Cb:jJ=aQ jX uL 2:=jv rfl
theorem oddOk{S:ac}{q n:Nat}(P:Pk S q):∃ (xs:List D) (S':ac),jJ [.ref q,.int (n:Int)] S=U (.lst xs,S')/\xs.all (noB (n:Int))=true/\xs.length<=100/\Pk S' q:=by
 obtain⟨j,S1,e1,j0,j1,P1,K1⟩:=qN _ _ 6 P (by decide) (by decide)
 obtain⟨w,b,hw,hi,hb⟩:=Yi j0 j1
 generalize hm:(if b then [D.non] else [])=ms
 refine⟨MH w n ms,S1,?_,Wg (by rcases hb with ⟨h,rfl⟩ | ⟨h,rfl⟩<;>simp[h,<- hm]),?_,P1⟩
 ·rw[Cb,bg (show [D.ref q,D.int (n:Int)].length=2 from rfl),show az jX [D.ref q,D.int (n:Int)]=[U (.ref q),U (.int (n:Int)),Y,Y,Y] from rfl]
  have kl:∀ S (xs:List D),xs.length<=30->mO (xs,S)=U (.lst xs,S):=λS xs h=>dJ (by omega)
  have kt:∀ S (xs:List D),xs.length<=30->cz (xs,S)=U (.tup xs,S):=λS xs h=>aT (by omega)
  have xw:∀ S,aA S (.lst [D.str "read",D.str "write",D.str "up",D.str "down",D.str "leave",D.str "stop"]) (.int j)=U (.str w):=λS=>by rw[UO];exact hw
  have mm:∀ S,cH S (.tup [.non]) (.int (if b then 1 else 0))=U (.tup ms):=λS=>by
   rw[HQ (by split<;>decide) (by split<;>decide) (by cases b<;>decide),<- hm];cases b<;>rfl
  have ml:ms.length<=1:=by rw[<- hm];cases b<;>simp
  have ca:∀ S (xs:List D),xs.length<=30->aM S (.tup xs) (.tup ms)=U (.tup (xs++ms)):=λS xs h=>ge (by omega)
  have c1:∀ S,aM S (.lst (sJ w)) (.lst (ut w n ms))=U (.lst (sJ w++ut w n ms)):=λS=>ng (by simp[sJ,ut])
  have c2:∀ S,aM S (.lst (sJ w++ut w n ms)) (.lst (EV w))=U (.lst (MH w n ms)):=λS=>ng (by simp[sJ,ut,EV])
  have o1:od1 [U (.ref q),U (.int (n:Int)),U (.str w),U (.tup ms),Y] S1=U (.lst (sJ w),S1):=by simp[od1,kl,kt,sJ]
  have o2:od2 [U (.ref q),U (.int (n:Int)),U (.str w),U (.tup ms),U (.lst (sJ w))] S1=U (.lst (ut w n ms),S1):=by simp[od2,kl,kt,ca,ut]
  have o3:od3 [U (.ref q),U (.int (n:Int)),U (.str w),U (.tup ms),U (.lst (sJ w++ut w n ms))] S1=U (.lst (EV w),S1):=by simp[od3,kl,kt,EV]
  simp only[uL,aS,bu,aJ,jc,aq,bp,ob,ao,au,am,kl _ _ (show [D.str "read",D.str "write",D.str "up",D.str "down",D.str "leave",D.str "stop"].length<=30 by decide),av,aE,aj,bK,bN,bO,oj,ak,ba,e1,ax,xw,bv,aZ,fL,gI,bP,aH,bj,
   kt _ _ (show [D.non].length<=30 by decide),kt _ _ (show [D.str "read",D.str "write"].length<=30 by decide),bZ,hi,cb,nS,mm,o1,o2,c1,o3,c2,aV,bC,aO]
 ·have ml:ms.length<=1:=by rw[<- hm];cases b<;>simp
  simp[MH,sJ,ut,EV]
def rowC:ME:=ay aA (aw 4 jI (aa (af 2) (aa (af 4) (aa (af 5) (aa (ay aM (mC (.int 2)) (aw 2 cr (aa (af 2) (aa (mC (.int 16)) ai)))) ai))))) (mC (.int 1))
def KG:MT:=da (aw 2 gd (aa (af 1) (aa (af 0) ai)))
def Yh:ME:=bH (dq (af 7)) (ah 0) (dm KG) (af 0) [Y,U 6]
def Wn:ME:=ay aM (bH (dq (af 7)) (ah 0) KG (af 0) [Y,U 6]) (dG (aa (be (aa (mC (.str "tick")) ai)) ai))
def QM:ME:=aw 4 dB (aa (af 3) (aa (af 1) (aa (af 2) (aa (af 0) ai))))
def Vx:ME:=bH (dq (ay aM (af 8) (aw 2 jJ (aa (af 2) (aa (af 5) ai))))) (ah 0) bQ QM [Y,U 5,U 6,U 4]
def Uw:MS:=bY (dm (da (aw 2 eJ (aa (aw 4 jw (aa (af 4) (aa (af 5) (aa (af 6) (aa (af 10) ai))))) (aa (aw 3 dE (aa (af 4) (aa (af 6) (aa (af 10) ai)))) ai))))) (bq (mC (.bl false))) bn
def GT:MS:=aF (aX (be (aa (aw 1 iN (aa (af 2) ai)) (aa (ay aM (mC (.int 1)) (aw 2 cr (aa (af 2) (aa (mC (.int 5)) ai)))) ai))) (bi 2 (ag (ah 4) (ag (ah 5) aW)))) (aF (aX rowC (ah 6)) (aF (aX dsE (ah 7)) (aF (aX Yh (ah 8)) (aF (bY (dm (da (bw (aU vP) (aa Vx ai)))) (bq (mC (.bl false))) bn) (aF (aX Wn (ah 9)) (aF (aX (ay aA (af 9) (aw 2 cr (aa (af 2) (aa (bw (aU iF) (aa (af 9) ai)) ai)))) (ah 10)) Uw))))))
def turn:MS:=aF (aX (aw 2 iP (aa (af 0) (aa (af 1) ai))) (ah 2)) (lg (bV (aa (mC (.int 3)) ai)) (ah 3) GT)
def gT2{x0 x1 x2 x3 x4 x5 x6 x7 x8 x9 x10:Option D}{p q:D}:bi 2 (ag (ah 4) (ag (ah 5) aW)) (.tup [p,q]) [x0,x1,x2,x3,x4,x5,x6,x7,x8,x9,x10] S=U ([x0,x1,x2,x3,U p,U q,x6,x7,x8,x9,x10],S):=by simp
def Iu{R:Rm}{dd:Dd}{r:bh}(hl:R.2.length<=60)(hd:dd.Ok R.1.length):∃ T,KG (U dd.d::U (aP R)::r) S=U (dP R dd,S++T):=by
 obtain⟨T,hc⟩:=doOk.c S R dd hl hd
 exact⟨T,by simp only[KG,df,aE,aq,aj,bK,bN,bO,oj,ob,ak,ao,au,am,ba,hc,dH]⟩
def XZ{R:Rm}{dd:Dd}(hl:R.1.length<=100)(hd:dd.Ok R.1.length)(ht:dd≠.tick)(hc:dP R dd=false):iL [aP R,dd.d] S=U (.bl false,S):=by
 rw[xS];exact(yI qH (N:=jT) rfl hl hd ht).trans (by rw[hc])
theorem Qc:∀ l:List D,iG (l.map λ_=>D.bl true)=U (l.map λ_=>true)
 | []=>rfl
 | d::l=>by rw[YJ,YJ,iG,Qc l];rfl
def Go{R:Rm}{dd:Dd}(hd:dd.Ok R.1.length)(hc:dP R dd=true):∃ x,hZ r R dd=U x:=by
 unfold hZ
 rw[if_neg (by rw[hc];decide)]
 cases dd with
 | ask wr g t=>exact⟨_,rfl⟩
 | tick=>exact⟨_,rfl⟩
 | act k g=>
  dsimp only
  split
  ·exact⟨_,rfl⟩
  ·rw[YG (show g<R.1.length from hd)];exact⟨_,rfl⟩
theorem Lp{a0 a1 a3 a4 a5 a6 a7 a8 a9 a10:Option D}(P:Pk S q):∃ b4 b5 b6 b7 b8 b9 b10 S',GT [a0,a1,U (.ref q),a3,a4,a5,a6,a7,a8,a9,a10] S=U (.nx [a0,a1,U (.ref q),a3,b4,b5,b6,b7,b8,b9,b10] S')/\Pk S' q:=by
 obtain⟨rl,S1,e1,Rk,P1,K1⟩:=rule P
 obtain⟨m,S2,e2,m0,m5,P2,K2⟩:=qN _ _ 5 P1 (by decide) (by decide)
 obtain⟨n,hn⟩:∃ n:Nat,1+m=(n:Int):=⟨(1+m).toNat,by omega⟩
 have h5:n<=5:=by omega
 obtain⟨j,S3,e3,j0,j1,P3,K3⟩:=qN _ _ 16 P2 (by decide) (by decide)
 obtain⟨k,hk⟩:∃ k:Nat,2+j=(k:Int):=⟨(2+j).toNat,by omega⟩
 obtain⟨l,R,S4,e4,B,_,P4,G4⟩:=row (rl:=rl) (n:=n) (m:=k) P3 (by omega) h5 (by omega)
 have hR:ROk R:=B.ok.1
 have hRn:R.1.length=n:=B.ok.2
 have hle:=hR.len
 have hl2:R.2.length<=60:=by omega
 have okd:∀ dd∈wu n,dd.Ok R.1.length:=λdd h=>by rw[hRn];exact(AA h).1
 have dl:=Ii h5
 have xi:∀ S,aA S (.tup [.tup (l.map Dd.d),aP R]) (.int 1)=U (aP R):=λS=>rfl
 have e5:=λ(b4 b6 b7 b8 b9 b10:Option D)=>XD (S:=S4) (n:=n) (a0:=a0) (a1:=a1) (a2:=U (.ref q)) (a3:=a3) (a4:=b4) (r:=[b6,b7,b8,b9,b10]) h5
 have P5:Pk (S4++[.lst ((rL n).map Dd.d)]) q:=P4.appT
 generalize S4++[.lst ((rL n).map Dd.d)]=S5 at e5 P5
 obtain⟨T6,e6⟩:=Nz (S:=S5) (t:=dm KG) (e:=af 0) (cap:=[Y,U 6]) (env:=[a0,a1,U (.ref q),a3,U rl.d,U (.int (n:Int)),U (aP R),U (.lst ((wu n).map Dd.d)),a8,a9,a10]) (rest:=[U (aP R)]) (a:=Y) (enc:=Dd.d) (p:=λdd=>!dP R dd) (f:=Dd.d) (xs:=wu n) rfl (by omega) (λS dd h=>by
  obtain⟨T,hc⟩:=Iu (S:=S) (r:=[]) hl2 (okd dd h)
  exact⟨T,by simp only[fK,hc,ob,fM]⟩) (λS dd h _=>⟨[],by simp⟩)
 have P6:Pk (S5++T6) q:=P5.appT
 generalize S5++T6=S6 at e6 P6
 generalize hbad:(wu n).filter (λdd=>!dP R dd)=bad at e6
 have hb:∀ dd∈bad,dd∈wu n/\dP R dd=false:=λdd h=>by
  rw[<- hbad] at h;obtain⟨h1,h2⟩:=Zx.mp h;exact⟨h1,by simpa using h2⟩
 have bl:bad.length<=100:=by rw[<- hbad];exact YW (Zt _ _) dl
 obtain⟨xs,S7,e7,hx,xl,P7⟩:=oddOk (n:=n) P6
 have c8:∀ S,aM S (.lst (bad.map Dd.d)) (.lst xs)=U (.lst (bad.map Dd.d++xs)):=λS=>ng (by simp only[YE];omega)
 have rf:∀ S,∀ x∈bad.map Dd.d++xs,QM [U x,U (.int (n:Int)),U (aP R),U rl.d] S=U (.bl true,S):=λS x h=>by
  have:dB [rl.d,.int (n:Int),aP R,x] S=U (.bl true,S):=by
   rcases YX.mp h with h | h
   ·obtain⟨dd,h1,rfl⟩:=Zb.mp h
    obtain⟨h2,h3⟩:=hb dd h1
    exact GW (noWay (NR (AA h2).1) (XZ (by omega) (okd dd h2) (AA h2).2 h3))
   ·have:=YO.mp hx x h
    rw[noB,YD,Bool.not_eq_true'] at this
    exact GW (Wh (by rw[vn this.1,this.2]))
  simp only[QM,aE,aq,aj,bK,bN,bO,oj,ob,ak,ao,au,am,CT,this]
 have e8:=dw (S:=S7) (t:=bQ) (e:=QM) (cap:=[Y,U 5,U 6,U 4]) (env:=[a0,a1,U (.ref q),a3,U rl.d,U (.int (n:Int)),U (aP R),U (.lst ((wu n).map Dd.d)),U (.lst (bad.map Dd.d)),a9,a10]) (rest:=[U (.int (n:Int)),U (aP R),U rl.d]) (a:=Y) (enc:=id) (p:=λ_=>true) (f:=λ_=>.bl true) (xs:=bad.map Dd.d++xs) rfl (by simp only[YQ,YE];omega) (λ_ _=>gQ) (λx h _=>rf S7 x h)
 rw[Zu.mpr (λ_ _=>rfl),List.map_id] at e8
 have al:∀ S,aU vP [.lst ((bad.map Dd.d++xs).map λ_=>D.bl true)] S=U (.bl true,S):=λS=>by
  rw[Gb (Qc _)];simp
 obtain⟨T9,e9⟩:=Nz (S:=S7) (t:=KG) (e:=af 0) (cap:=[Y,U 6]) (env:=[a0,a1,U (.ref q),a3,U rl.d,U (.int (n:Int)),U (aP R),U (.lst ((wu n).map Dd.d)),U (.lst (bad.map Dd.d)),a9,a10]) (rest:=[U (aP R)]) (a:=Y) (enc:=Dd.d) (p:=dP R) (f:=Dd.d) (xs:=wu n) rfl (by omega) (λS dd h=>Iu hl2 (okd dd h)) (λS dd h _=>⟨[],by simp⟩)
 have P9:Pk (S7++T9) q:=P7.appT
 generalize S7++T9=S9 at e9 P9
 generalize hmay:(wu n).filter (dP R)++[Dd.tick]=may
 have ml:may.length<=101/\0<may.length:=by
  have:=Zt (dP R) (wu n)
  rw[<- hmay];simp only[YQ,YT,aag];omega
 have mo:∀ dd∈may,dd.Ok n/\dP R dd=true:=λdd h=>by
  rw[<- hmay] at h
  rcases YX.mp h with h | h
  ·obtain⟨h1,h2⟩:=Zx.mp h;exact⟨(AA h1).1,h2⟩
  ·rw[Zr.mp h];exact⟨trivial,rfl⟩
 have c9:∀ S,aM S (.lst (((wu n).filter (dP R)).map Dd.d)) (.lst [.tup [.str "tick"]])=U (.lst (may.map Dd.d)):=λS=>by
  rw[ng (by have:=Zt (dP R) (wu n);simp only[YE,YT,aag];omega),<- hmay,Zq];rfl
 have kt:∀ S,cz ([.str "tick"],S)=U (.tup [.str "tick"],S):=λS=>aT (by simp)
 have kl:∀ S,mO ([.tup [.str "tick"]],S)=U (.lst [.tup [.str "tick"]],S):=λS=>dJ (by simp)
 obtain⟨i,S10,e10,i0,i1,P10,K10⟩:=qN S9 q (may.length:Int) P9 (by omega) (by omega)
 obtain⟨dd,hdd⟩:∃ dd,may[i.toNat]?=U dd:=⟨_,YG (by omega)⟩
 obtain⟨hok,hcan⟩:=mo dd (YY hdd)
 have xd:∀ S,aA S (.lst (may.map Dd.d)) (.int i)=U dd.d:=λS=>by
  rw[UO,AM i0 (by rw[YE];omega)]
  have:=Yz.mp hdd
  rw[List.getElem_map,this.2]
 obtain⟨x,hx2⟩:=Go (r:=rl) (by rw[hRn];exact hok) hcan
 obtain⟨T11,e11⟩:=QC (S:=S10) Rk.b0 hR hRn h5 hok hx2
 obtain⟨T12,e12⟩:=Nt (S:=S10++T11) (r:=rl) (R:=R) (dd:=dd) hR (by omega) (by rw[hRn];exact hok)
 rw[hx2] at e12
 have e13:=Vt (S:=(S10++T11)++T12) hR (by omega) hx2
 have dn:oG (U x)=gG x:=rfl
 refine⟨U rl.d,U (.int (n:Int)),U (aP R),U (.lst ((wu n).map Dd.d)),U (.lst (bad.map Dd.d)),U (.lst (may.map Dd.d)),U dd.d,(S10++T11)++T12,?_,(P10.appT (T:=T11)).appT (T:=T12)⟩
 have f8:Yh [a0,a1,U (.ref q),a3,U rl.d,U (.int (n:Int)),U (aP R),U (.lst ((wu n).map Dd.d)),a8,a9,a10] S5=U (.lst (bad.map Dd.d),S6):=by
  simp only[Yh,bL,cV,aj,bK,bN,bO,oj,ob,ak,oZ,e6]
 have f9:Vx [a0,a1,U (.ref q),a3,U rl.d,U (.int (n:Int)),U (aP R),U (.lst ((wu n).map Dd.d)),U (.lst (bad.map Dd.d)),a9,a10] S6=U (.lst ((bad.map Dd.d++xs).map λ_=>D.bl true),S7):=by
  simp only[Vx,bL,cV,aJ,aj,bK,bN,bO,oj,ob,ak,av,aE,aq,ao,au,am,ba,e7,ax,c8,oZ,e8]
 have f10:Wn [a0,a1,U (.ref q),a3,U rl.d,U (.int (n:Int)),U (aP R),U (.lst ((wu n).map Dd.d)),U (.lst (bad.map Dd.d)),a9,a10] S7=U (.lst (may.map Dd.d),S9):=by
  simp only[Wn,aJ,bL,cV,aj,bK,bN,bO,oj,ob,ak,oZ,e9,av,jc,aq,bj,bp,ao,au,am,kt,kl,ax,c9]
 simp only[GT,aS,bu,bj,aq,aE,aj,bK,bN,bO,oj,ob,ak,ao,au,am,qi,e1,aJ,bp,av,ba,e2,ax,lV,hn,FC,bv,gT2,bP,aH,rowC,e3,hk,CT,e4,xi,aZ,fL,gI,e5,f8,bt,fK,df,bZ,f9,cb,al,dH,fM,Zk,bS,bE,f10,Oq,YE,e10,xd,Uw,e11,ce,e12,dn,e13]
def Qs{ns:List Int}{k:Int}{a2 a3 a4 a5 a6 a7 a8 a9 a10:Option D}(h0:0<=k)(h1:k<=100000) :
  ∃ b2 b3 b4 b5 b6 b7 b8 b9 b10 S',turn [U (.rol (ns.map .int)),U (.int k),a2,a3,a4,a5,a6,a7,a8,a9,a10] S=U (.nx [U (.rol (ns.map .int)),U (.int k),b2,b3,b4,b5,b6,b7,b8,b9,b10] S'):=by
 obtain⟨p,q,e1,p0,q0,q1⟩:=left (S:=S) (ns:=ns) h0 h1
 have P1:=Ys (S:=S) (c:=0) p0 q0 q1
 have kr:∀ S,ND ([.int 3],S)=U (cw 0 3,S):=λS=>lP (by decide) (by decide)
 obtain⟨env',S5,e5,b3,b4,b5,b6,b7,b8,b9,b10,rfl,P5⟩:=Xf (tg:=ah 3) (p:=GT) (lo:=0) (λ_ env T=>∃ b3 b4 b5 b6 b7 b8 b9 b10,env=[U (.rol (ns.map .int)),U (.int k),U (.ref S.length),b3,b4,b5,b6,b7,b8,b9,b10]/\Pk T S.length) 3 (λj hj env T hI=>by
  obtain⟨b3,b4,b5,b6,b7,b8,b9,b10,rfl,P⟩:=hI
  obtain⟨c4,c5,c6,c7,c8,c9,c10,S',e,P'⟩:=Lp (S:=T) (q:=S.length) (a0:=U (.rol (ns.map .int))) (a1:=U (.int k)) (a3:=U (.int (0+(j:Int)))) (a4:=b4) (a5:=b5) (a6:=b6) (a7:=b7) (a8:=b8) (a9:=b9) (a10:=b10) P
  exact⟨_,_,_,_,aZ,e,_,_,_,_,_,_,_,_,rfl,P'⟩) [U (.rol (ns.map .int)),U (.int k),U (.ref S.length),a3,a4,a5,a6,a7,a8,a9,a10] (S++[.lst [.int p,.int q,.int 0]]) ⟨_,_,_,_,_,_,_,_,rfl,P1⟩
 refine⟨U (.ref S.length),b3,b4,b5,b6,b7,b8,b9,b10,S5,?_⟩
 simp only[turn,aS,bu,aE,aq,aj,bK,bN,bO,oj,ob,ak,ao,au,am,ba,e1,bv,aZ,fL,gI,bP,aH,uT,fg,bp,kr,vf,e5]
def Uv:MS:=aF (lg (bV (aa (bw (aU mW) (aa (mC (.int 3)) (aa (bw (aU HS) (aa (bw (aU iF) (aa (af 0) ai)) (aa (mC (.int 8)) ai))) ai))) ai)) (ah 1) turn) (bq (mC (.bl true)))
def Wm:Dq=aQ DX Uv 1:=jv rfl
theorem Nr:∀ ns:List Int,ns.length<=63->∃ S',Dq [.rol (ns.map .int)] []=U (.bl true,S'):=λns hl=>by
 rw[Wm,bg (show [D.rol (ns.map .int)].length=1 from rfl),show az DX [D.rol (ns.map .int)]=[U (.rol (ns.map .int)),Y,Y,Y,Y,Y,Y,Y,Y,Y,Y] from rfl]
 generalize hk:(if (if (8:Int)<(ns.length:Int) then 8 else(ns.length:Int))>3 then(if (8:Int)<(ns.length:Int) then 8 else(ns.length:Int)) else 3)=k
 have hk':0<=k/\k<=26:=by rw[<- hk];split<;>(try split)<;>omega
 have k1:ND ([.int k],[])=U (cw 0 k.toNat,[]):=lP (by omega) (by omega)
 obtain⟨env',S',e,a1,a2,a3,a4,a5,a6,a7,a8,a9,a10,rfl⟩:=Dj (tg:=ah 1) (p:=turn) (λenv _=>∃ a1 a2 a3 a4 a5 a6 a7 a8 a9 a10,env=[U (.rol (ns.map .int)),a1,a2,a3,a4,a5,a6,a7,a8,a9,a10]) (cw 0 k.toNat) (λd hd env S hI=>by
  obtain⟨a1,a2,a3,a4,a5,a6,a7,a8,a9,a10,rfl⟩:=hI
  obtain⟨i,hi,rfl⟩:=Fd hd
  obtain⟨b2,b3,b4,b5,b6,b7,b8,b9,b10,S2,e⟩:=Qs (S:=S) (ns:=ns) (k:=0+(i:Int)) (a2:=a2) (a3:=a3) (a4:=a4) (a5:=a5) (a6:=a6) (a7:=a7) (a8:=a8) (a9:=a9) (a10:=a10) (by omega) (by omega)
  exact⟨_,_,_,_,aZ,e,_,_,_,_,_,_,_,_,_,_,rfl⟩) [U (.rol (ns.map .int)),Y,Y,Y,Y,Y,Y,Y,Y,Y,Y] [] ⟨_,_,_,_,_,_,_,_,_,_,rfl⟩
 refine⟨S',?_⟩
 simp only[Uv,aS,uT,fg,aq,aJ,bp,ob,av,bZ,ao,aj,bK,oj,ak,au,am,cb,Xn,Sy,SA,YE,hk,k1,vf,e,aH,aV,bC,aO]
end K16
end
def d4:=trivial
namespace PySem.W.Fast
def tw3136835424038962611:=d4
def tw1440579133795561825:=d4
def tw7565844059867612952:=d4
def tw5670387862697875443:=d4
def tw12171597968511270644:=d4
def tw3329941313033403617:=d4
def tw8407114776474601959:=d4
def tw2699752742190855417:=d4
def tw9476444146739581469:=d4
def tw17912230883322273051:=d4
def tw16286891890953828254:=d4
def tw17970926192282405640:=d4
def tw9688201369603045530:=d4
def tw9498455077495112168:=d4
def tw6718100659412989165:=d4
def tw7886258500718172698:=d4
def tw6123255448595967755:=d4
def tw2665922005141737695:=d4
def tw4628378409577778224:=d4
def tw18387909450384585823:=d4
def tw16353963901061761875:=d4
def tw7890993614586084497:=d4
def tw16062275930986386846:=d4
def tw8106841440848405142:=d4
def tw10851526984512039500:=d4
def tw4591359503799954530:=d4
def tw17661997440236246030:=d4
def tw6192523659417013457:=d4
def tw9009406598137072124:=d4
def tw4142984958097207592:=d4
def tw5914142689320722442:=d4
def tw8634705150561148361:=d4
def tw4092369315696959927:=d4
def tw2929688615120834803:=d4
def tw11684609599980793722:=d4
def tw8306105668090635188:=d4
def tw3982901033722630170:=d4
def tw2426218978749714569:=d4
def tw12232722777548879626:=d4
def tw4276140994553206371:=d4
def tw7206388869208446436:=d4
def tw17535662136215964559:=d4
def tw8653677841371382207:=d4
def tw1490202083797291018:=d4
def tw3089606531061004367:=d4
def tw7882223491980423299:=d4
def tw4461248668141715438:=d4
def tw16145208094977002329:=d4
def tw14302518175175106517:=d4
def tw3789520855806285005:=d4
def tw15607055825437746241:=d4
def tw1570354094770171672:=d4
def tw18344200190769444199:=d4
def tw8503951989701425998:=d4
def tw12671455847305608269:=d4
def tw15920594598884341500:=d4
def tw4372407347940178677:=d4
def tw13654107597369603006:=d4
def tw5416560892773963187:=d4
def tw1136024636026379908:=d4
def tw7997217869597496122:=d4
def tw9575274321490499111:=d4
def tw12618802951356982146:=d4
def tw15301363984219009371:=d4
def tw9910885627176232026:=d4
def tw344230751136802543:=d4
def tw15064237717072833895:=d4
def tw2138712689198666618:=d4
def tw12652448778581372392:=d4
def tw6778754583861724743:=d4
def tw7099430700720648262:=d4
def tw7091840472127544015:=d4
def tw2761137842804016554:=d4
def tw18355805723294905176:=d4
def tw6648951397491681056:=d4
def tw7895213202826768347:=d4
def tw3470316869254778414:=d4
def tw14243331427253371169:=d4
def tw6394681735272759450:=d4
def tw2052602672751425497:=d4
def tw16627102297958656698:=d4
def tw395856207816340786:=d4
def tw11686215857996498763:=d4
def tw7613832909211957325:=d4
end PySem.W.Fast
namespace PySem.W.Fast
def tw11053374373251668535:=d4
def tw887275869902400926:=d4
def tw14863745248522722496:=d4
def tw13493350396390935826:=d4
def tw5981517662944575426:=d4
def tw11844442479613215163:=d4
def tw9430303823571324020:=d4
def tw8827283534787945218:=d4
def tw16940404308364059010:=d4
def tw1929242468809626023:=d4
def tw3702841221044672271:=d4
def tw6705996981333488425:=d4
def tw7745324385116605354:=d4
def tw4910514109391218155:=d4
def tw3138889433552101343:=d4
def tw3590762107409398461:=d4
def tw11909781420361521148:=d4
def tw17671854049305328761:=d4
def tw4057200371959821371:=d4
def tw103976245657469451:=d4
def tw17177813351031453099:=d4
def tw5728679815749065647:=d4
def tw7097004111165941151:=d4
def tw18365667131060644523:=d4
def tw14121608080531495002:=d4
def tw11252066352575245743:=d4
def tw9201731144223210036:=d4
def tw1532542676379060402:=d4
def tw3269892060047142196:=d4
def tw1777790886057556378:=d4
def tw4302107726841236752:=d4
def tw17066654323270058142:=d4
def tw10510882527408421841:=d4
def tw14891447257973448588:=d4
def tw5044295318958782541:=d4
def tw5778270925711268833:=d4
def tw8970071934226568131:=d4
def tw1486428657914261783:=d4
def tw11397764047040227058:=d4
def tw5682091293785038577:=d4
def tw6653862058468583700:=d4
def tw8291825513908750034:=d4
def tw2775609803793126818:=d4
def tw9079427056982815494:=d4
def tw12285212909717358799:=d4
def tw5593669085940773849:=d4
def tw2338617632109423603:=d4
def tw3057771387142173536:=d4
def tw9408381855318888901:=d4
def tw15676963759835371151:=d4
def tw1222380857106195193:=d4
def tw18083329523668622078:=d4
def tw13669690690843166115:=d4
def tw523882768666279196:=d4
def tw3000526885780582260:=d4
def tw9096273446854180012:=d4
def tw13478342903554412836:=d4
def tw11514018840635326570:=d4
def tw11679868351404989920:=d4
def tw9221649829525633416:=d4
def tw13633648863167285230:=d4
def tw5675664600558844721:=d4
def tw4854795283398934496:=d4
def tw5924179998549176730:=d4
def tw5856202524521605145:=d4
def tw14372480484236553828:=d4
def tw6994714282765339962:=d4
def tw16641091825030918364:=d4
def tw10111136494416272547:=d4
def tw7925105915281643278:=d4
def tw11501656961630120692:=d4
def tw8107287914999218813:=d4
def tw3597721222004068320:=d4
def tw8438433167759998881:=d4
def tw718294619559999445:=d4
def tw15996225264856795204:=d4
def tw5936269080967311367:=d4
def tw16671440866947628730:=d4
def tw8574166261663232889:=d4
def tw15101338444309376383:=d4
def tw2088988420505918892:=d4
def tw9482041017194307293:=d4
def tw11513029348078505178:=d4
def tw5741738609226505809:=d4
def tw660627635577027498:=d4
def tw4330717392900877980:=d4
def tw8594529439053172892:=d4
def tw1017151252006107642:=d4
def tw16217085442077977092:=d4
def tw14887838197981406133:=d4
def tw11613789453443856988:=d4
def tw2334580530208733976:=d4
def tw3295181578687675257:=d4
def tw5656952439661831869:=d4
def tw7555158667244862026:=d4
def tw15165928971945550335:=d4
def tw2641250220564472730:=d4
def tw16772254776327915561:=d4
def tw9816798844182598668:=d4
def tw5830506716555380136:=d4
def tw1055333827154742915:=d4
def tw2352781202390023028:=d4
def tw18380057304758855259:=d4
def tw3760283599750612225:=d4
def tw18345574599297548405:=d4
def tw14635382286887269555:=d4
def tw5985667587847924050:=d4
def tw17965328301414558699:=d4
def tw15903341549907030891:=d4
def tw10713297678903849877:=d4
def tw179999327571469482:=d4
def tw1412114095232383981:=d4
def tw17804588831872433559:=d4
def tw7942307852338734743:=d4
def tw17410869753485457014:=d4
def tw13736021263048194765:=d4
def tw5429861458432776955:=d4
def tw8207618083585104378:=d4
def tw17227996957967021210:=d4
def tw9791900820675913712:=d4
def tw9704227127977525014:=d4
def tw3308090594954503855:=d4
def tw13567457548173856794:=d4
def tw9694457433300720946:=d4
def tw18341807290666598725:=d4
def tw18057182523279770396:=d4
def tw11843388661689948470:=d4
def tw12431234724194571255:=d4
def tw15935859043141140483:=d4
def tw6003660578070980962:=d4
def tw8712973097265153460:=d4
def tw18101348152530790516:=d4
def tw8220653891646348315:=d4
def tw5613860150830447719:=d4
def tw6035479172015807645:=d4
def tw4306142646971119636:=d4
def tw2340799449716345276:=d4
def tw13766176917364876454:=d4
def tw9709727702251056701:=d4
def tw13469731044772902826:=d4
def tw11398418937082324162:=d4
def tw4385156622674401546:=d4
def tw453948467233724349:=d4
def tw1420761372668971364:=d4
def tw10472613297205386147:=d4
def tw13434755805120763027:=d4
def tw11023391875234031769:=d4
def tw10249725195852899768:=d4
def tw18401279996145846961:=d4
def tw4163881883456625064:=d4
def tw10575425709268976903:=d4
def tw5111009484367554067:=d4
def tw5562743655449808146:=d4
def tw15097824636363611845:=d4
def tw8838946432948584332:=d4
def tw10943365991906064411:=d4
def tw2629185507741336415:=d4
def tw10647611172326161017:=d4
def tw6951117415539764671:=d4
def tw1732439916604220800:=d4
def tw17230318720539962267:=d4
def tw18076503417770610634:=d4
def tw16512965943814227020:=d4
def tw1689549208628688810:=d4
def tw3147167066757800462:=d4
def tw4729804311855883031:=d4
def tw5813649890339911528:=d4
def tw4698122561644751264:=d4
def tw7875276200726322180:=d4
def tw17183230035144057543:=d4
def tw9045124631603071150:=d4
def tw18431226713236834590:=d4
def tw2846676152557229475:=d4
def tw17847967692560096505:=d4
def tw9096803105172854347:=d4
def tw16781525609445255982:=d4
def tw17535838913184497476:=d4
def tw5915686596641428404:=d4
def tw424511915520059571:=d4
def tw8827388828610755474:=d4
def tw738501595935735919:=d4
def tw2023342157182142320:=d4
def tw6114751246280470251:=d4
def tw15799639516608242068:=d4
def tw11676918413711230406:=d4
def tw9064853180779350480:=d4
def tw17652919758090403385:=d4
def tw3239244627044854319:=d4
def tw7588133690151222330:=d4
def tw18362272532755356965:=d4
def tw10410862551135290368:=d4
def tw6590024312706736387:=d4
def tw15384640892340116304:=d4
def tw7220511915434058860:=d4
def tw14326838792839507553:=d4
def tw1376359309777427572:=d4
def tw15576720328651241262:=d4
def tw6607183898842311018:=d4
def tw12172121403584386072:=d4
def tw2403996209787662523:=d4
def tw78349943872989085:=d4
def tw748820667938498607:=d4
def tw13935847748721925123:=d4
def tw16754443035428698280:=d4
def tw10430992083922454690:=d4
def tw6904066279755640882:=d4
def tw5823556516270568164:=d4
def tw10848887096317457318:=d4
def tw424877695366969508:=d4
def tw9499163455644839099:=d4
def tw13425789195472865215:=d4
def tw7994449291020739477:=d4
def tw7569206658438189401:=d4
def tw17485316538690344055:=d4
def tw12286173634750946069:=d4
def tw14296092363633593735:=d4
def tw11340789897491027805:=d4
def tw2605927554405748709:=d4
def tw13720832389937459472:=d4
def tw12931445173456409665:=d4
def tw12739546624746765501:=d4
def tw14994984200381657566:=d4
def tw17271040874747150088:=d4
def tw1965127902838084369:=d4
def tw17781669280962776348:=d4
def tw12666317527188788032:=d4
def tw1603303286950572716:=d4
def tw2284745377997528216:=d4
def tw17023130847781508456:=d4
def tw5456979132590653550:=d4
def tw8288181151698904117:=d4
def tw12312900106576903409:=d4
def tw13704526483509781889:=d4
def tw16067634417600698130:=d4
def tw8203198629015461601:=d4
def tw4574888615995535182:=d4
def tw16085498329598799319:=d4
def tw3005486681826405171:=d4
def tw2498498693210945626:=d4
def tw14954948448276267640:=d4
def tw13663195826663714042:=d4
def tw102961663528034005:=d4
def tw5846411502855561286:=d4
def tw4101336790671963176:=d4
def tw6731817839397559046:=d4
def tw7705404557800836872:=d4
def tw1957979769443174013:=d4
def tw14433047767130355598:=d4
def tw3830048989119862569:=d4
def tw277040999809149875:=d4
def tw8524505122388535139:=d4
def tw11062050051751130155:=d4
def tw16959123603561706823:=d4
def tw4154986221923594687:=d4
def tw8451515475134338595:=d4
def tw7155408647363126483:=d4
def tw15086632711457392942:=d4
def tw4488125040939591982:=d4
def tw15435101027111364410:=d4
def tw11349947039484302671:=d4
def tw8723731965599347808:=d4
def tw562222467470786916:=d4
def tw6939669252265567007:=d4
def tw2542403760491250484:=d4
def tw14598702875358712297:=d4
def tw4015178680555641671:=d4
def tw8978555992567386721:=d4
def tw17926474475587277252:=d4
def tw18031633443123755060:=d4
def tw14124428372595629355:=d4
def tw5203105715834891764:=d4
def tw14619247421654297426:=d4
def tw17975087135936539773:=d4
def tw4674134982216010563:=d4
def tw639990520520753524:=d4
def tw6072467494066369512:=d4
def tw12153943819940977160:=d4
def tw6116824948460824751:=d4
def tw4499786698617449240:=d4
def tw4443655243190935577:=d4
def tw17844116087441726115:=d4
def tw11950838141140613951:=d4
def tw15615000443507521650:=d4
def tw7248163597810965432:=d4
def tw3171853543125558310:=d4
def tw11488823128030060446:=d4
def tw16013537820429961915:=d4
def tw1401817359157089928:=d4
def tw16181534216639835155:=d4
def tw11323291138647490201:=d4
def tw5809740867101663810:=d4
def tw4922333971033485133:=d4
def tw3995184014580248047:=d4
def tw17492493708141324225:=d4
def tw13522942443555506162:=d4
def tw6759615183815524407:=d4
def tw15641914964138109591:=d4
def tw8972979946398877276:=d4
def tw9373925496497059619:=d4
def tw4476251945482182221:=d4
def tw1439705122944305332:=d4
def tw4292118462030342712:=d4
def tw1485930962701204541:=d4
def tw15421437442184710913:=d4
def tw2829608509282642470:=d4
def tw1565027661706750785:=d4
def tw11704573189935848354:=d4
def tw2611477716440898311:=d4
def tw10932190401245827513:=d4
def tw3169221256763294777:=d4
def tw2370085593377106571:=d4
def tw5938114949086237593:=d4
def tw7635785302507689442:=d4
def tw11118785987364200828:=d4
def tw10875750574168069515:=d4
def tw1529214690260153990:=d4
def tw14798575900034999009:=d4
def tw3380903194358358242:=d4
def tw975630112473383572:=d4
def tw9054201731451760239:=d4
def tw11212377674712221901:=d4
def tw11504767030779023077:=d4
def tw2933241075443526003:=d4
def tw4332675090239396479:=d4
def tw9632375314611592893:=d4
def tw8529325869646969913:=d4
def tw12238993911216247300:=d4
def tw18423548983807229305:=d4
def tw18305412311070699806:=d4
def tw14009257684429963660:=d4
def tw7859509359473997565:=d4
def tw11843803579987280602:=d4
def tw3450956331303693480:=d4
def tw10909044560810368512:=d4
def tw16338682702227600839:=d4
def tw8670988856633394490:=d4
def tw16169814166976595717:=d4
def tw16849008535387520607:=d4
def tw11954772299602593743:=d4
def tw17821511872960549875:=d4
def tw9106132581109084436:=d4
def tw16898719114197247157:=d4
def tw14188286880657808969:=d4
def tw3909456347476421008:=d4
def tw11965703383825236987:=d4
def tw11078618736398536342:=d4
def tw12060849755644216500:=d4
def tw8996062127924477497:=d4
def tw17922101149981043165:=d4
def tw7554220073291384119:=d4
def tw8652165299751177513:=d4
def tw15584591755897480941:=d4
def tw7147191728232266701:=d4
def tw16792469255756588457:=d4
def tw5487807572748877527:=d4
def tw4863807542451180655:=d4
def tw6735802376684576140:=d4
def tw6430312402789884504:=d4
def tw15727420048306075456:=d4
def tw199113170327732886:=d4
def tw12286815091137008370:=d4
def tw13429427174554716176:=d4
def tw14309002871224430951:=d4
def tw7754838028273028616:=d4
def tw833405008885916801:=d4
def tw13280202535178241762:=d4
def tw175896285382462547:=d4
def tw1951136691912468690:=d4
def tw17294074700708588604:=d4
def tw15474277719637098044:=d4
def tw15023757285296606306:=d4
def tw13575370162458213394:=d4
def tw5503531871654983832:=d4
def tw4507415944454128969:=d4
def tw1417874846769761936:=d4
def tw4680316865409759133:=d4
def tw13721477283959144672:=d4
def tw15800140546556124783:=d4
def tw1135531363605039966:=d4
def tw17953847917221733627:=d4
def tw14894112831727023856:=d4
def tw2017490933547879982:=d4
def tw2575458304783382974:=d4
def tw240171918048677365:=d4
def tw1544562453114174476:=d4
def tw9647329395190076447:=d4
def tw4550848296161454573:=d4
def tw644049108267883819:=d4
def tw5447825599821472010:=d4
def tw17623487667640101320:=d4
def tw10229953732377910486:=d4
def tw686702410949319367:=d4
def tw6240010303857069157:=d4
def tw9046604825509436473:=d4
end PySem.W.Fast
def PySem.W.Fast.tw8929283369619064328:PySem.Program:=PySem.Challenge.pw_manyreaders_k16_what_can_not_be_done
def PySem.W.Fast.te8929283369619064328:PySem.Challenge.pw_manyreaders_k16_what_can_not_be_done=W.Fast.tw8929283369619064328:=rfl
namespace K16
def c0:Uo:=fj 0
def c5:Uo:=fj 5
def c6:Uo:=fj 6
def c7:Uo:=fj 7
def c8:Uo:=fj 8
def c13:Uo:=fj 13
def c14:Uo:=fj 14
def c15:Uo:=fj 15
def c24:Uo:=fj 24
def c25:Uo:=fj 25
def c26:Uo:=fj 26
def c27:Uo:=fj 27
def c28:Uo:=fj 28
def c29:Uo:=fj 29
def c30:Uo:=fj 30
def c31:Uo:=fj 31
def c45:Uo:=fj 45
def c46:Uo:=fj 46
def pw2:Of:={ PySem.Challenge.pw_manyreaders_k16_what_can_not_be_done with main:={ PySem.Challenge.pw_manyreaders_k16_what_can_not_be_done.main with body:=[c0,io,eR,jt,dQ,c5,c6,c7,c8,dR,gi,dh,jp,c13,c14,c15,le,js,ip,gk,jq,lc,eS,lb,c24,c25,c26,c27,c28,c29,c30,c31,ju,lf,gj,qK,gl,iq,eW,dS,eV,eU,im,kZ,cS,c45,c46,dk,gu,iy,gn,gm,gx,ir,dW,gq,iu,di,iz,dU,gv,eX,cI,iA,iw,dj,xG] } }
def lw:W.OpenLaw:={ PySem.Challenge.rw_manyreaders_k16_what_can_not_be_done with prog:=pw2 }
def lw_eq:PySem.Challenge.rw_manyreaders_k16_what_can_not_be_done=lw:=by kernel_rfl
end K16
namespace K16
open L2 MI M
def lD:Str:="law_manyreaders_k16_what_can_not_be_done"
def Uu:Str:="manyreaders.rooms"
def Ec:Str:="manyreaders.doors"
def rW:Str:="manyreaders.deeds"
def Ut:Str:="manyreaders.kinds"
def md5:Str:="manyreaders.errors"
def kf0(P:Params):adf:=[(3,⟨.type "dict",Y,.dict #[kE P "__name__" 165 (.str "law_manyreaders_k16_what_can_not_be_done" 606),kE P "__doc__" 166 .none,kE P "__package__" 167 .none,kE P "__loader__" 168 (.builtin "__main__.__loader__#opaque"),kE P "__spec__" 169 .none,kE P "__annotations__" 170 (.ref 6),kE P "__builtins__" 171 (.ref 4),kE P "__file__" 173 (.str "/claim/cut.py" 172),kE P "__cached__" 174 .none,kE P "is_whole" 195 (.ref 21),kE P "is_between" 204 (.ref 28),kE P "is_word" 212 (.ref 35),kE P "is_tuple_of" 220 (.ref 42),kE P "WRITING_WORDS" 225 (.ref 43),kE P "WANTS" 228 (.ref 44),kE P "GREATEST_LEFT" 230 (.int 9 229),kE P "guests_with" 236 (.ref 49),kE P "with_word" 247 (.ref 56),kE P "without_wait" 253 (.ref 61),kE P "waiting" 262 (.ref 68),kE P "FAVOURED" 276 (.ref 69),kE P "WORD_WITHIN" 283 (.ref 70),kE P "can_go" 289 (.ref 75),kE P "next_in" 298 (.ref 82),kE P "foremost" 304 (.ref 87),kE P "next_past" 316 (.ref 94),kE P "settled" 326 (.ref 101),kE P "coming" 335 (.ref 108),kE P "brought_by" 346 (.ref 115),kE P "let_in" 352 (.ref 120),kE P "GuestError" 372 (.ref 130),kE P "NoDeed" 397 (.ref 150),kE P "NoText" 422 (.ref 169),kE P "TooMany" 438 (.ref 181),kE P "NoLine" 454 (.ref 193),kE P "GUEST_WORDS" 461 (.ref 196),kE P "is_deed" 472 (.ref 203),kE P "can_do" 483 (.ref 210),kE P "stepped" 493 (.ref 217),kE P "done" 503 (.ref 224),kE P "bring_ask" 519 (.ref 231),kE P "bring_up" 530 (.ref 238),kE P "bring_down" 540 (.ref 245),kE P "bring_leave" 550 (.ref 252),kE P "bring_stop" 561 (.ref 259),kE P "bring_tick" 567 (.ref 264),kE P "one_less" 574 (.ref 271),kE P "turned" 580 (.ref 276),kE P "settled_behind" 590 (.ref 283),kE P "BRINGS" 605 (.ref 284),kE P "_law_cell_at" 615 (.ref 291),kE P "_law_left" 625 (.ref 298),kE P "_law_far" 633 (.ref 305),kE P "_law_pick" 642 (.ref 312),kE P "_law_rule" 652 (.ref 319),kE P "_law_deed" 662 (.ref 326),kE P "_law_row" 677 (.ref 333),kE P "_law_fronts" 683 (.ref 338),kE P "_law_lets" 693 (.ref 345),kE P "_law_put" 702 (.ref 352),kE P "_law_settled" 708 (.ref 357),kE P "_law_can" 714 (.ref 362),kE P "_law_marked" 720 (.ref 367),kE P "_law_done" 726 (.ref 372),kE P "_law_asked" 732 (.ref 377),kE P "_law_same" 738 (.ref 382),kE P "_law_all" 744 (.ref 387),kE P "_law_odd" 755 (.ref 394),kE P "_law_refused" 767 (.ref 401),kE P "law" 773 (.ref 406)] 70,#[]⟩),(20,kC "is_whole" 189 2 1 15 16 (.ref 17) (.ref 18) 19 193),(21,kF "is_whole" io Ut 187 20),(27,kC "is_between" 196 4 3 22 23 (.ref 24) (.ref 25) 26 202),(28,kF "is_between" eR Ut 187 27),(34,kC "is_word" 205 6 2 29 30 (.ref 31) (.ref 32) 33 210),(35,kF "is_word" jt Ut 187 34),(41,kC "is_tuple_of" 213 8 2 36 37 (.ref 38) (.ref 39) 40 218)]
def kf1(P:Params):adf:=[(42,kF "is_tuple_of" dQ Ut 187 41),(43,⟨.type "tuple",Y,.seq #[.str "writes" 223,.str "raised" 224] 0,#[]⟩),(44,⟨.type "tuple",Y,.seq #[.str "read" 226,.str "write" 227] 0,#[]⟩),(48,kC "guests_with" 231 14 2 45 46 .none .none 47 234),(49,kF "guests_with" dR Uu 221 48),(55,kC "with_word" 237 16 3 50 51 (.ref 52) (.ref 53) 54 245),(56,kF "with_word" gi Uu 221 55),(60,kC "without_wait" 248 19 2 57 58 .none .none 59 251)]
def kf2(P:Params):adf:=[(61,kF "without_wait" dh Uu 221 60),(67,kC "waiting" 254 22 2 62 63 (.ref 64) (.ref 65) 66 260),(68,kF "waiting" jp Uu 221 67),(69,⟨.type "dict",Y,.dict #[kE P "rows" 265 .none,kE P "readers" 266 (.str "read" 267),kE P "writers" 268 (.str "write" 269),kE P "turns" 270 (.str "write" 271)] 4,#[]⟩),(70,⟨.type "dict",Y,.dict #[kE P "read" 277 (.str "reads" 278),kE P "write" 279 (.str "writes" 280)] 2,#[]⟩),(74,kC "can_go" 284 32 3 71 72 .none .none 73 287),(75,kF "can_go" le Ec 263 74),(81,kC "next_in" 290 41 2 76 77 (.ref 78) (.ref 79) 80 296)]
def kf3(P:Params):adf:=[(82,kF "next_in" js Ec 263 81),(86,kC "foremost" 299 46 2 83 84 .none .none 85 302),(87,kF "foremost" ip Ec 263 86),(93,kC "next_past" 305 51 2 88 89 (.ref 90) (.ref 91) 92 314),(94,kF "next_past" gk Ec 263 93),(100,kC "settled" 317 58 2 95 96 (.ref 97) (.ref 98) 99 324),(101,kF "settled" jq Ec 263 100),(107,kC "coming" 327 66 2 102 103 (.ref 104) (.ref 105) 106 333)]
def kf4(P:Params):adf:=[(108,kF "coming" lc Ec 263 107),(114,kC "brought_by" 336 72 3 109 110 (.ref 111) (.ref 112) 113 344),(115,kF "brought_by" eS Ec 263 114),(119,kC "let_in" 347 77 3 116 117 .none .none 118 350),(120,kF "let_in" lb Ec 263 119),(129,⟨.type "dict",Y,.dict #[kE P "__module__" 362 (.str "manyreaders.errors" 353),kE P "__firstlineno__" 366 (.int 85 365),kE P "__static_attributes__" 367 (.ref 128),kE P "__weakref__" 369 (.ref 131),kE P "__doc__" 370 .none] 3,#[]⟩),(130,kX "GuestError" 130 129 [.type "ValueError"] HT.kj [.ref 150,.ref 169,.ref 181,.ref 193] 121 355 363),(146,⟨.type "code",Y,.fields #[.str "__init__" 385,.str "NoDeed.__init__" 386,.str "/claim/cut.py" 387,.int 89 0,.int 2 0,.int 0 0,.int 0 0,.int 3 0,.ref 141,.bool true,.int 181 0,.ref 142,.none,.ref 143,.ref 144,.ref 145,.int 390 0,.int 89 0,.str "/claim/cut.py" 391],#[]⟩)]
def kf5(P:Params):adf:=[(147,kI "NoDeed.__init__" LU md5 353 146),(149,⟨.type "dict",Y,.dict #[kE P "__module__" 380 (.str "manyreaders.errors" 353),kE P "__firstlineno__" 384 (.int 87 383),kE P "__init__" 392 (.ref 147),kE P "__static_attributes__" 394 (.ref 148),kE P "__doc__" 395 .none] 2,#[]⟩),(150,kX "NoDeed" 150 149 [.ref 130] (.ref 130::HT.kj) [] 134 373 381),(169,kX "NoText" 169 168 [.ref 130] (.ref 130::HT.kj) [] 153 398 406),(181,kX "TooMany" 181 180 [.ref 130] (.ref 130::HT.kj) [] 172 423 431),(193,kX "NoLine" 193 192 [.ref 130] (.ref 130::HT.kj) [] 184 439 447),(196,⟨.type "tuple",Y,.seq #[.str "up" 457,.str "down" 458,.str "leave" 459,.str "stop" 460] 0,#[]⟩),(202,kC "is_deed" 462 101 2 197 198 (.ref 199) (.ref 200) 201 470)]
def kf6(P:Params):adf:=[(203,kF "is_deed" ju rW 455 202),(209,kC "can_do" 473 110 2 204 205 (.ref 206) (.ref 207) 208 481),(210,kF "can_do" lf rW 455 209),(216,kC "stepped" 484 124 4 211 212 (.ref 213) (.ref 214) 215 491),(217,kF "stepped" gj rW 455 216),(223,kC "done" 494 128 3 218 219 (.ref 220) (.ref 221) 222 501),(224,kF "done" qK rW 455 223),(230,kC "bring_ask" 504 131 3 225 226 (.ref 227) (.ref 228) 229 517)]
def kf7(P:Params):adf:=[(231,kF "bring_ask" gl rW 455 230),(237,kC "bring_up" 520 141 3 232 233 (.ref 234) (.ref 235) 236 528),(238,kF "bring_up" iq rW 455 237),(244,kC "bring_down" 531 149 3 239 240 (.ref 241) (.ref 242) 243 538),(245,kF "bring_down" eW rW 455 244),(251,kC "bring_leave" 541 152 3 246 247 (.ref 248) (.ref 249) 250 548),(252,kF "bring_leave" dS rW 455 251),(258,kC "bring_stop" 551 155 3 253 254 (.ref 255) (.ref 256) 257 559)]
def kf8(P:Params):adf:=[(259,kF "bring_stop" eV rW 455 258),(263,kC "bring_tick" 562 162 3 260 261 .none .none 262 565),(264,kF "bring_tick" eU rW 455 263),(270,kC "one_less" 568 168 1 265 266 (.ref 267) (.ref 268) 269 572),(271,kF "one_less" im rW 455 270),(275,kC "turned" 575 170 3 272 273 .none .none 274 578),(276,kF "turned" kZ rW 455 275),(282,kC "settled_behind" 581 175 3 277 278 (.ref 279) (.ref 280) 281 588)]
def kf9(P:Params):adf:=[(283,kF "settled_behind" cS rW 455 282),(284,⟨.type "dict",Y,.dict #[kE P "read" 591 (.ref 231),kE P "write" 592 (.ref 231),kE P "up" 593 (.ref 238),kE P "down" 594 (.ref 245),kE P "leave" 595 (.ref 252),kE P "stop" 596 (.ref 259),kE P "tick" 597 (.ref 264)] 7,#[]⟩),(290,kC "_law_cell_at" 608 180 2 285 286 (.ref 287) (.ref 288) 289 613),(291,kF "_law_cell_at" dk lD 606 290),(297,kC "_law_left" 616 184 2 292 293 (.ref 294) (.ref 295) 296 623),(298,kF "_law_left" gu lD 606 297),(304,kC "_law_far" 626 191 0 299 300 (.ref 301) (.ref 302) 303 631),(305,kF "_law_far" iy lD 606 304)]
def kf10(P:Params):adf:=[(311,kC "_law_pick" 634 196 2 306 307 (.ref 308) (.ref 309) 310 640),(312,kF "_law_pick" gn lD 606 311),(318,kC "_law_rule" 643 204 1 313 314 (.ref 315) (.ref 316) 317 650),(319,kF "_law_rule" gm lD 606 318),(325,kC "_law_deed" 653 209 2 320 321 (.ref 322) (.ref 323) 324 660),(326,kF "_law_deed" gx lD 606 325),(332,kC "_law_row" 663 217 4 327 328 (.ref 329) (.ref 330) 331 675),(333,kF "_law_row" ir lD 606 332)]
def kf11(P:Params):adf:=[(337,kC "_law_fronts" 678 227 2 334 335 .none .none 336 681),(338,kF "_law_fronts" dW lD 606 337),(344,kC "_law_lets" 684 238 3 339 340 (.ref 341) (.ref 342) 343 691),(345,kF "_law_lets" gq lD 606 344),(351,kC "_law_put" 694 245 3 346 347 (.ref 348) (.ref 349) 350 700),(352,kF "_law_put" iu lD 606 351),(356,kC "_law_settled" 703 247 2 353 354 .none .none 355 706),(357,kF "_law_settled" di lD 606 356)]
def kf12(P:Params):adf:=[(361,kC "_law_can" 709 263 2 358 359 .none .none 360 712),(362,kF "_law_can" iz lD 606 361),(366,kC "_law_marked" 715 272 3 363 364 .none .none 365 718),(367,kF "_law_marked" dU lD 606 366),(371,kC "_law_done" 721 276 3 368 369 .none .none 370 724),(372,kF "_law_done" gv lD 606 371),(376,kC "_law_asked" 727 299 3 373 374 .none .none 375 730),(377,kF "_law_asked" eX lD 606 376)]
def kf13(P:Params):adf:=[(381,kC "_law_same" 733 308 2 378 379 .none .none 380 736),(382,kF "_law_same" cI lD 606 381),(386,kC "_law_all" 739 325 1 383 384 .none .none 385 742),(387,kF "_law_all" iA lD 606 386),(393,kC "_law_odd" 745 330 2 388 389 (.ref 390) (.ref 391) 392 753),(394,kF "_law_odd" iw lD 606 393),(400,kC "_law_refused" 756 336 4 395 396 (.ref 397) (.ref 398) 399 765),(401,kF "_law_refused" dj lD 606 400)]
def kf14(P:Params):adf:=[(405,kC "law" 768 347 1 402 403 .none .none 404 771),(406,kF "law" xG lD 606 405)]
def eh(P:Params):adf:=(((kf0 P)++((kf1 P)++(kf2 P)))++(((kf3 P)++(kf4 P))++((kf5 P)++(kf6 P))))++((((kf7 P)++(kf8 P))++((kf9 P)++(kf10 P)))++(((kf11 P)++(kf12 P))++((kf13 P)++(kf14 P))))
def kads:List tx:=[3,20,21,27,28,34,35,41,42,43,44,48,49,55,56,60,61,67,68,69,70,74,75,81,82,86,87,93,94,100,101,107,108,114,115,119,120,129,130,146,147,149,150,169,181,193,196,202,203,209,210,216,217,223,224,230,231,237,238,244,245,251,252,258,259,263,264,270,271,275,276,282,283,284,290,291,297,298,304,305,311,312,318,319,325,326,332,333,337,338,344,345,351,352,356,357,361,362,366,367,371,372,376,377,381,382,386,387,393,394,400,401,405,406]
def ownX:KY (eh P) cX:=⟨⟨by kernel_rfl,by kernel_rfl,by kernel_rfl⟩,by kernel_rfl,by kernel_rfl,by kernel_rfl,by kernel_rfl,by kernel_rfl⟩
theorem txt{w:RG}(X:(eh w.params).In h)(G:h.Ns adb mg):iS w (eh w.params) mg:=
 ⟨cP X G lD 291 606 290,cP X G lD 305 606 304,cP X G lD 298 606 297,cP X G lD 312 606 311,cP X G lD 319 606 318,cP X G lD 326 606 325,cP X G lD 352 606 351,cP X G lD 338 606 337,cP X G lD 345 606 344,cP X G lD 357 606 356,cP X G lD 362 606 361,cP X G lD 377 606 376,cP X G lD 367 606 366,cP X G lD 372 606 371,cP X G lD 333 606 332,cP X G lD 382 606 381,cP X G lD 387 606 386,cP X G Uu 49 221 48,cP X G Ec 87 263 86,cP X G Uu 68 221 67,cP X G Ec 75 263 74,cP X G Ec 94 263 93,cP X G Ec 82 263 81,cP X G Ec 108 263 107,cP X G Uu 56 221 55,cP X G Ec 120 263 119,cP X G Ec 115 263 114,cP X G Ec 101 263 100,cP X G Uu 61 221 60,cP X G rW 231 455 230,cP X G rW 238 455 237,cP X G rW 283 455 282,cP X G rW 276 455 275,cP X G rW 245 455 244,cP X G rW 252 455 251,cP X G rW 259 455 258,cP X G rW 271 455 270,cP X G rW 264 455 263,cP X G rW 224 455 223,cP X G Ut 42 187 41,cP X G Ut 35 187 34,cP X G Ut 21 187 20,cP X G Ut 28 187 27,cP X G rW 203 455 202,cP X G rW 210 455 209,cP X G rW 217 455 216,cP X G lD 401 606 400,cP X G lD 394 606 393,cP X G lD 406 606 405,ZI X G (by kernel_rfl),ZI X G (by kernel_rfl),ZI X G (by kernel_rfl),ZI X G (by kernel_rfl),ZI X G (by kernel_rfl),ZI X G (by kernel_rfl),ZI X G (by kernel_rfl),ZI X G (by kernel_rfl),ZI X G (by kernel_rfl),ZI X G (by kernel_rfl),ZI X G (by kernel_rfl),ZI X G (by kernel_rfl),ZI X G (by kernel_rfl),ZI X G (by kernel_rfl),Xg (aaz X G (show W.nsIn (eh w.params) adb "BRINGS" = U (U (.ref 284)) by kernel_rfl)) (show(eh w.params).lookup 284=U ⟨.type "dict",Y,.dict #[⟨PyData.keyHash w.params "read",.str "read" 591,.ref 231⟩,⟨PyData.keyHash w.params "write",.str "write" 592,.ref 231⟩,⟨PyData.keyHash w.params "up",.str "up" 593,.ref 238⟩,⟨PyData.keyHash w.params "down",.str "down" 594,.ref 245⟩,⟨PyData.keyHash w.params "leave",.str "leave" 595,.ref 252⟩,⟨PyData.keyHash w.params "stop",.str "stop" 596,.ref 259⟩,⟨PyData.keyHash w.params "tick",.str "tick" 597,.ref 264⟩] 7,#[]⟩ by kernel_rfl) (.cons (.cons (.cons (.cons (.cons (.cons (.cons (.nil)))))))) (show List.Nodup ([.inr "read",.inr "write",.inr "up",.inr "down",.inr "leave",.inr "stop",.inr "tick"]:List bD) by decide +kernel) (.cons (aaz X G (show W.nsIn (eh w.params) adb "bring_ask" = U (U (.ref 231)) by kernel_rfl)) (.cons (aaz X G (show W.nsIn (eh w.params) adb "bring_ask" = U (U (.ref 231)) by kernel_rfl)) (.cons (aaz X G (show W.nsIn (eh w.params) adb "bring_up" = U (U (.ref 238)) by kernel_rfl)) (.cons (aaz X G (show W.nsIn (eh w.params) adb "bring_down" = U (U (.ref 245)) by kernel_rfl)) (.cons (aaz X G (show W.nsIn (eh w.params) adb "bring_leave" = U (U (.ref 252)) by kernel_rfl)) (.cons (aaz X G (show W.nsIn (eh w.params) adb "bring_stop" = U (U (.ref 259)) by kernel_rfl)) (.cons (aaz X G (show W.nsIn (eh w.params) adb "bring_tick" = U (U (.ref 264)) by kernel_rfl)) (.nil)))))))),Lu (aaz X G (show W.nsIn (eh w.params) adb "FAVOURED" = U (U (.ref 69)) by kernel_rfl)) (show(eh w.params).lookup 69=U ⟨.type "dict",Y,.dict #[⟨PyData.keyHash w.params "rows",.str "rows" 265,.none⟩,⟨PyData.keyHash w.params "readers",.str "readers" 266,.str "read" 267⟩,⟨PyData.keyHash w.params "writers",.str "writers" 268,.str "write" 269⟩,⟨PyData.keyHash w.params "turns",.str "turns" 270,.str "write" 271⟩] 4,#[]⟩ by kernel_rfl) (.cons (.cons (.cons (.cons (.nil))))) (show List.Nodup ([.inr "rows",.inr "readers",.inr "writers",.inr "turns"]:List bD) by decide +kernel) (.cons .non rfl (λ_ _ _=>.non) (.cons (V.str "read") ⟨_,rfl⟩ (λ_ _ _=>.str _) (.cons (V.str "write") ⟨_,rfl⟩ (λ_ _ _=>.str _) (.cons (V.str "write") ⟨_,rfl⟩ (λ_ _ _=>.str _) (.nil))))),⟨_,V.int 9,aaz X G (show W.nsIn (eh w.params) adb "GREATEST_LEFT" = U (U (.int 9 229)) by kernel_rfl),⟨_,rfl⟩,λμ H=>.int _⟩,⟨_,.ref 196,aaz X G (show W.nsIn (eh w.params) adb "GUEST_WORDS" = U (U (.ref 196)) by kernel_rfl),rfl,λμ H=>.ktup (vs:=[V.str "up",V.str "down",V.str "leave",V.str "stop"]) ⟨_,_,_,(show(eh w.params).lookup 196=U ⟨.type "tuple",Y,.seq #[.str "up" 457,.str "down" 458,.str "leave" 459,.str "stop" 460] 0,#[]⟩ by kernel_rfl),rfl,rfl,rfl,(show 4<=acY by decide),.cons ⟨_,rfl⟩ (.cons ⟨_,rfl⟩ (.cons ⟨_,rfl⟩ (.cons ⟨_,rfl⟩ (.nil))))⟩ (.cons (.str _) (.cons (.str _) (.cons (.str _) (.cons (.str _) (.nil)))))⟩,⟨_,.ref 44,aaz X G (show W.nsIn (eh w.params) adb "WANTS" = U (U (.ref 44)) by kernel_rfl),rfl,λμ H=>.ktup (vs:=[V.str "read",V.str "write"]) ⟨_,_,_,(show(eh w.params).lookup 44=U ⟨.type "tuple",Y,.seq #[.str "read" 226,.str "write" 227] 0,#[]⟩ by kernel_rfl),rfl,rfl,rfl,(show 2<=acY by decide),.cons ⟨_,rfl⟩ (.cons ⟨_,rfl⟩ (.nil))⟩ (.cons (.str _) (.cons (.str _) (.nil)))⟩,Lu (aaz X G (show W.nsIn (eh w.params) adb "WORD_WITHIN" = U (U (.ref 70)) by kernel_rfl)) (show(eh w.params).lookup 70=U ⟨.type "dict",Y,.dict #[⟨PyData.keyHash w.params "read",.str "read" 277,.str "reads" 278⟩,⟨PyData.keyHash w.params "write",.str "write" 279,.str "writes" 280⟩] 2,#[]⟩ by kernel_rfl) (.cons (.cons (.nil))) (show List.Nodup ([.inr "read",.inr "write"]:List bD) by decide +kernel) (.cons (V.str "reads") ⟨_,rfl⟩ (λ_ _ _=>.str _) (.cons (V.str "writes") ⟨_,rfl⟩ (λ_ _ _=>.str _) (.nil))),⟨_,.ref 43,aaz X G (show W.nsIn (eh w.params) adb "WRITING_WORDS" = U (U (.ref 43)) by kernel_rfl),rfl,λμ H=>.ktup (vs:=[V.str "writes",V.str "raised"]) ⟨_,_,_,(show(eh w.params).lookup 43=U ⟨.type "tuple",Y,.seq #[.str "writes" 223,.str "raised" 224] 0,#[]⟩ by kernel_rfl),rfl,rfl,rfl,(show 2<=acY by decide),.cons ⟨_,rfl⟩ (.cons ⟨_,rfl⟩ (.nil))⟩ (.cons (.str _) (.cons (.str _) (.nil)))⟩,rseK X G (q:="NoDeed.__init__") (g:="GuestError") (a:="self") (b:="place") (st:=LU) md5 150 149 130 129 147 146 353 134 373 381 121 355 363 [] [.ref 150,.ref 169,.ref 181,.ref 193] rfl ⟨rfl,rfl,rfl,by decide +kernel,rfl,by decide +kernel,by decide +kernel⟩ (cA λ_=>cA λ_=>jg rfl) (by decide) (by decide) (by decide) (by decide) (by kernel_rfl) (by kernel_rfl),hndK X G (x:="NoDeed") 150 149 130 129 134 373 381 121 355 363 [.ref 130] (.ref 130::HT.kj) [.type "ValueError"] HT.kj [] [.ref 150,.ref 169,.ref 181,.ref 193] (by kernel_rfl),Tx X G cX 150 ownX (by kernel_rfl),Tx X G cX 193 ownX (by kernel_rfl),Tx X G cX 169 ownX (by kernel_rfl),Tx X G cX 181 ownX (by kernel_rfl),clsT X G (T:="ValueError") cX ownX (by decide) rfl (by kernel_rfl),⟨ownX.wy,by kernel_rfl,by kernel_rfl⟩⟩
end K16
open PySem.W
set_option maxRecDepth 100000 in
set_option maxHeartbeats 0 in
theorem PySem.Challenge.cw_manyreaders_k16_what_can_not_be_done_holds : PySem.Challenge.rw_manyreaders_k16_what_can_not_be_done.Holds := by
 rw[K16.lw_eq];w_on;o_law;o_head (kHook K16.eh K16.kads (λ_=>by kernel_rfl));(case hw=>w_witness2)
 exact K16.walk (l:=K16.lw) rfl rfl rfl (λw h Y0=>PySem.W.kIn_of Y0) K16.Nr λw mg h KX G=>K16.txt KX G

end
