import PyProof.Rows.All
import Wide.All
import OpenK.AllK
import Wide.FinOn
import Lean
import KE.KDictSum
import PyProof.EqAt
import PyProof.EqKinds
import PyProof.TupleCall
import PySem.Challenge.RW_manyreaders_k36_a_rule_and_itself
set_option genSizeOf false
set_option genSizeOfSpec false
set_option compiler.extract_closed false
set_option bootstrap.genMatcherCode false
open Option renaming some -> U,none -> Y
local macro_rules|`(tactic|ac_rfl)=>`(tactic|exact⟨rfl,rfl,rfl,by decide +kernel,rfl,by decide +kernel,by decide +kernel⟩)
noncomputable section
set_option Elab.async false
set_option linter.all false
set_option maxRecDepth 100000
open PySem renaming Value -> bd,Shared -> gV,Addr -> td,Expr -> tx,Program -> vx,World -> Gs,Stmt -> He,Around -> IN,Heap -> Jq,sizeLine -> KY,starEach -> KZ,foldedSetIterable -> Ld,mainGlobals -> Lg,compareOp -> Mc,binaryOp -> PN,wpAny -> Qs
open PySem.W renaming Frag -> QF
open List renaming replicate -> Si
open Bool renaming false_ne_true -> Sn
open PySem PySem.Spec PyProof.Rows
section
local macro_rules|`(command|def $x:declId $y:optDeclSig $v:declVal)=>`(command|noncomputable def $x:declId $y:optDeclSig $v:declVal)
def Xc:=@Option.bind_eq_some_iff
def Xd:=@wpAny_bind
def Xe:=@List.getElem?_eq_some_iff
def Xf:=@List.mem_cons_of_mem
def Xg:=@List.size_toArray
def Xh:=@Heap.get?_push_of_some
def Xi:=@List.mem_cons_self
def Xj:=@wpAny_pure
def Xk:=@Bool.and_eq_true
def Xl:=@List.getElem?_eq_getElem
def Xm:=@Nat.le_refl
def Xn:=@List.length_map
def Xo:=@Heap.lt_size
def Xp:=@List.map_cons
def Xq:=@if_pos
def Xr:=@Heap.get?_push_size
def Xs:=@decide_eq_true
def Xt:=@decide_eq_false
def Xu:=@List.all_eq_true
def Xv:=@List.getElem?_append_left
def Xw:=@List.length_cons
def Xx:=@List.mem_append
def Xy:=@Heap.get?_update_other
def Xz:=@List.mem_of_getElem?
def XA:=@List.mem_singleton
def XB:=@Nat.lt_of_lt_of_le
def XC:=@Option.some.inj
def XD:=@List.mem_cons
def XE:=@List.getElem?_set_ne
def XF:=@List.getElem?_set_self
def XG:=@Heap.get?_update_self
def XH:=@List.mem_map
def XI:=@wpAny_newObj_type
def XJ:=@List.getElem?_append_right
def XM:=@List.length_append
def XN:=@Nat.le_trans
def XO:=@List.replicate_succ
def XQ:=@wpAny_mono
def XR:=@Bool.false_eq_true
def XS:=@List.filterMap_cons
def XT:=@Nat.ne_of_lt
def XU:=@List.append_assoc
def XV:=@of_decide_eq_true
def XW:=@List.append_nil
def XX:=@List.mem_append_right
def XY:=@wpAny_field
def XZ:=@List.not_mem_nil
def Ya:=@List.map_append
def Yb:=@wpAny_setField
def Yc:=@List.mem_of_mem_take
def Yd:=@List.mem_append_left
def Ye:=@Nat.ne_of_gt
def Yf:=@List.length_take
def Yg:=@wpAny_callSpecial?_slot
def Yh:=@List.mem_filter
def Yi:=@List.find?_cons
def Yj:=@List.filter_cons
def Yk:=@Heap.SameBut.update
def Yl:=@List.getElem?_map
def Ym:=@List.all_cons
def Yn:=@Bool.eq_iff_iff
def Yo:=@W.mg_none_of
def Yp:=@List.length_drop
def Yq:=@List.flatten_cons
def Yr:=@Heap.get?_update_ne
def Ys:=@Bool.not_true
def Yt:=@Obj.data_mapFields
def Yu:=@wpAny_call_entry
def Yv:=@List.eq_nil_of_length_eq_zero
def Yw:=@List.any_eq_true
def Yx:=@wpAny_holding
def Yy:=@Eq.trans
def Yz:=@decide_eq_true_eq
def YA:=@List.nodup_append
def YB:=@Int.toNat_natCast
def YC:=@beq_eq_false_iff_ne
def YD:=@PyProof.Rows.callWith_type1
def YE:=@Option.map_eq_some_iff
def YF:=@wpAny_Call_Name_kw
def YG:=@if_false
def YH:=@Obj.isFreed_of_fields
def YI:=@List.length_filter_le
def YJ:=@Heap.size_push
def YK:=@Bool.not_false
def YL:=@W.kia_one
def YM:=@PyProof.Rows.slot_tuple_getitem
def YN:=@Option.isSome_iff_exists
def YO:=@List.forIn_cons
def YQ:=@List.map_map
def YR:=@PySem.mem_of_lookup
def YS:=@Nat.lt_irrefl
def YT:=@List.filter_eq_self
def YU:=@List.filter_cons_of_pos
def YV:=@List.filter_cons_of_neg
def YW:=@wpAny_typeNameOfWhole_keyiter
def YX:=@List.zipIdx_cons
def YY:=@wpAny_seqItems
def YZ:=@call_meets
def Za:=@List.findIdx?_cons
def Zb:=@F.slot_dict_keyiterator_next
def Zc:=@wpAny_passesOwn
def Zd:=@List.nodup_cons
def Ze:=@List.any_cons
def Zf:=@F.slot_tuple_iterator_next
def Zg:=@Array.getElem?_eq_some_iff
def Zh:=@List.mem_of_mem_drop
def Zi:=@W.mg_of
def Zj:=@Nat.zero_le
def Zk:=@wpAny_typeNameOf_keyiter
def Zl:=@codeAny_mono
def Zm:=@wpAny_pyIter_tuple
def Zn:=@wpAny_execs_nil
def Zo:=@Int.emod_nonneg
def Zp:=@Nat.le_of_succ_le_succ
def Zq:=@List.take_of_length_le
def Zr:=@Option.some.injEq
def Zs:=@Bool.false_and
def Zt:=@Bool.and_false
def Zu:=@List.take_append_drop
def Zv:=@List.lookup_cons
def Zw:=@wpAny_attempt
def Zx:=@decide_true
def Zy:=@List.length_nil
def Zz:=@List.count_cons
def ZA:=@Bool.or_eq_true
def ZB:=@Array.length_toList
def ZC:=@Calls.Name_function_global
def ZD:=@List.drop_eq_getElem_cons
def ZE:=@List.reverse_cons
def ZF:=@List.filter_congr
def ZG:=@AutoSeq1.sub_tuple_tuple
def ZH:=@or_false
def ZI:=@List.map_take
def ZJ:=@List.map_drop
def ZK:=@List.getElem?_cons_succ
def ZL:=@Bool.and_true
def ZM:=@List.range_succ_eq_map
def ZN:=@Calls.callWith_builtin
def ZO:=@decide_false
def ZP:=@Nat.zero_add
def ZQ:=@List.mem_iff_getElem?
def ZR:=@List.length_singleton
def ZS:=@List.cons.injEq
def ZT:=@F.slot_zip_next
def ZU:=@F.slot_int_rmul
def ZV:=@Nat.not_lt
def ZW:=@Calls.evalArgs_plain
def ZX:=@List.mem_range
def ZY:=@List.drop_zero
def ZZ:=@if_true
def aaa:=@List.map_congr_left
def aab:=@wpAny_standAt
def aac:=@wpAny_onRaise
def aad:=@assignInOrder_cons
def aae:=@Paired.length
def aaf:=@Nat.lt_of_le_of_lt
def aag:=@List.findIdx?_eq_some_iff_getElem
def aah:=@Int.emod_lt_of_pos
def aai:=@F.slot_list_extend
def aaj:=@F.args_tuple_add_2
def aak:=@wpAny_truthy_bool
def aal:=@wpAny_rule
def aam:=@wpAny_pyIter_list
def aan:=@wpAny_dictEntries
def aao:=@typeIs_int
def aap:=@eqIsQuiet_byValue
def aaq:=@F.entry_tuple_add
def aar:=@wpAny_typeOf
def aas:=@Nat.mul_comm
def aat:=@Nat.le_of_lt
def aau:=@Nat.le_of_eq
def aav:=@List.map_nil
def aaw:=@F.args_dict_keyiterator_next_1
def aax:=@wpAny_isInstance
def aay:=@wpAny_execs_cons
def aaz:=@noFill_tuple_add
def aaA:=@decide_eq_decide
def aaB:=@List.drop_length
def aaC:=@F.slot_tuple_add
def aaD:=@F.entry_dict_keyiterator_next
def aaE:=@AutoSeq1.idx_int
def aaF:=@Around.in1_units
def aaG:=@List.countP_eq_length_filter
def aaH:=@F.args_tuple_iterator_next_1
def aaI:=@wpAny_updateSeq
def aaJ:=@wpAny_of_eq
def aaK:=@wpAny_dictEpoch
def aaL:=@sizeLine_eq
def aaM:=@boot_isinstance
def aaN:=@W.kitx_list
def aaO:=@PassesOwn.never
def aaP:=@Nat.min_eq_left
def aaQ:=@List.of_mem_zip
def aaR:=@List.nil_append
def aaS:=@F.entry_tuple_iterator_next
def aaT:=@wpAny_bindName
def aaU:=@wpAny_binaryOp_repeat_ref
def aaV:=@List.getElem?_eq_none_iff
def aaW:=@List.findIdx?_eq_none_iff
def aaX:=@Bool.and_assoc
def aaY:=@wpAny_comprehension_free
def aaZ:=@wpAny_call
def aba:=@intBits_le
def abb:=@List.getElem?_take_of_lt
def abc:=@seq_tuple_add
def abd:=@List.getElem?_cons_zero
def abe:=@Calls.loadGlobal_global
def abf:=@Bool.true_and
def abg:=@wpAny_Call_method_late
def abh:=@subscriptTail_builtinR
def abi:=@wpAny_isOneOf_keyiter
def abj:=@seqIndex_neg
def abk:=@concat_meets
def abl:=@callType_new
def abm:=@W.callWith_K
def abn:=@Nat.succ.inj
def abo:=@Nat.add_zero
def abp:=@List.any_map
def abq:=@List.all_map
def abr:=@Int.le_trans
def abt:=@wpAny_loadName_local
def abu:=@List.getElem_toArray
def abv:=@F.args_object_init_2
def abw:=@F.args_list_extend_2
def abx:=@Bool.and_eq_true_iff
def aby:=@Array.toArray_toList
def abz:=@wpAny_loadName_cell
def abA:=@wpAny_isSubtype_exc
def abB:=@seqIndex_of
def abC:=@entry_tuple_getitem
def abD:=@W.kitx_dict
def abE:=@Nat.mul_le_mul_left
def abF:=@List.toList_toArray
def abG:=@List.mem_map_of_mem
def abH:=@F.slot_list_reverse
def abI:=@F.entry_list_extend
def abJ:=@wpAny_entryPlaceOf
def abK:=@tail_any
def abL:=@congrFun
def abM:=@args_tuple_getitem
def abN:=@List.mem_filterMap
def abO:=@F.slot_list_insert
def abP:=@F.slot_list_append
def abQ:=@Calls.Constant_str
def abR:=@Array.forIn_toList
def abS:=@Array.append_assoc
namespace L2
noncomputable abbrev bC:=Sum Int Str
def vU:bC->bd->Bool
 | .inl k,v=>Value.isInt k v
 | .inr x,v=>Value.isStrOf x v
def keyH(w:Gs):bC->Int
 | .inl k=>hashInt k
 | .inr x=>hashStr w x
theorem cS:∀ {k:bC} {v:bd},vU k v=true->(∃ i t,k=Sum.inl i/\v=Value.int i t)\/(∃ x t,k=Sum.inr x/\v=Value.str x t)
 | .inl i,v,h=>by
  obtain⟨t,e⟩:=Value.isInt_shape (k:=i) (v:=v) h
  exact .inl ⟨i,t,rfl,e⟩
 | .inr x,v,h=>by
  obtain⟨t,e⟩:=Value.isStrOf_shape (x:=x) (v:=v) h
  exact .inr ⟨x,t,rfl,e⟩
theorem Hv(i:Int)(t:Tok):vU (.inl i) (.int i t)=true:=by simp[vU,Value.isInt]
theorem Hu(x:Str)(t:Tok):vU (.inr x) (.str x t)=true:=by simp[vU,Value.isStrOf]
theorem US(a b:Int):decide ((Sum.inl a:bC)=Sum.inl b)=(a==b):=by
 by_cases e:a=b
 ·subst e;simp
 ·have h:¬ (Sum.inl a:bC)=Sum.inl b:=λq=>e (Sum.inl.inj q)
  rw[Xt h]
  exact(YC.mpr e).symm
theorem UP(a b:Str):decide ((Sum.inr a:bC)=Sum.inr b)=decide (a=b):=by
 by_cases e:a=b
 ·subst e;simp
 ·have h:¬ (Sum.inr a:bC)=Sum.inr b:=λq=>e (Sum.inr.inj q)
  rw[Xt h,Xt e]
theorem UR(a:Int)(b:Str):decide ((Sum.inl a:bC)=Sum.inr b)=false:=Xt (λq=>nomatch q)
theorem UQ(a:Str)(b:Int):decide ((Sum.inr a:bC)=Sum.inl b)=false:=Xt (λq=>nomatch q)
def cr(prog:vx)(w:Gs):PySem.KeyKind prog w bC where
 is:=vU
 hash:=keyH w
 inj:=λv a b ha hb=>by
  rcases cS ha with ⟨i,t,rfl,rfl⟩ | ⟨x,t,rfl,rfl⟩
  ·rcases cS hb with ⟨j,u,rfl,e⟩ | ⟨y,u,rfl,e⟩
   ·injection e with e1 _;rw[e1]
   ·exact nomatch e
  ·rcases cS hb with ⟨j,u,rfl,e⟩ | ⟨y,u,rfl,e⟩
   ·exact nomatch e
   ·injection e with e1 _;rw[e1]
 byValue:=λk v h=>by
  rcases cS h with ⟨i,t,rfl,rfl⟩ | ⟨x,t,rfl,rfl⟩<;>rfl
 pyHash:=λhv h=>by
  rcases cS hv with ⟨i,t,rfl,rfl⟩ | ⟨x,t,rfl,rfl⟩
  ·exact wpAny_pyHash_int h
  ·exact wpAny_pyHash_str h
 eqBool:=λhu hv h=>by
  rcases cS hu with ⟨i,t,rfl,rfl⟩ | ⟨x,t,rfl,rfl⟩
  ·rcases cS hv with ⟨j,u,rfl,rfl⟩ | ⟨y,u,rfl,rfl⟩
   ·rw[US] at h;exact wpAny_eqBool_int h
   ·rw[UR] at h;exact SeqAt.EqAt.int_str i t y u _ _ _ _ h
  ·rcases cS hv with ⟨j,u,rfl,rfl⟩ | ⟨y,u,rfl,rfl⟩
   ·rw[UQ] at h;exact SeqAt.EqAt.str_int x t j u _ _ _ _ h
   ·rw[UP] at h;exact wpAny_eqBool_str h
 «strs»:=λk x t v h=>by
  rcases cS h with ⟨i,u,rfl,e⟩ | ⟨y,u,rfl,e⟩
  ·exact nomatch e
  ·injection e with e1 _
   subst e1
   cases v<;>rfl
theorem zY(prog:vx)(w:Gs)(i:Int)(t:Tok):(cr prog w).is (.inl i) (.int i t)=true:=Hv i t
theorem zX(prog:vx)(w:Gs)(x:Str)(t:Tok):(cr prog w).is (.inr x) (.str x t)=true:=Hu x t
open PySem.W SeqAt
inductive DK where
 | non | int (i:Int) | str (s:Str) | tup (l:List DK)
mutual
def DK.beq:DK->DK->Bool
 | .non,.non=>true
 | .int i,.int j=>decide (i=j)
 | .str x,.str y=>decide (x=y)
 | .tup l,.tup m=>DK.beqs l m
 | _,_=>false
def DK.beqs:List DK->List DK->Bool
 | [],[]=>true
 | k::l,k'::m=>DK.beq k k'&&DK.beqs l m
 | _,_=>false
end
mutual
theorem DK.beq_iff:∀ k l:DK,DK.beq k l=true↔k=l
 | .non,l=>by cases l<;>simp[DK.beq]
 | .int i,l=>by cases l<;>simp[DK.beq]
 | .str x,l=>by cases l<;>simp[DK.beq]
 | .tup l,m=>by
  cases m with
  | tup m=>rw[DK.beq,DK.beqs_iff l m];simp
  | _=>simp[DK.beq]
theorem DK.beqs_iff:∀ l m:List DK,DK.beqs l m=true↔l=m
 | [],m=>by cases m<;>simp[DK.beqs]
 | k::l,m=>by
  cases m with
  | nil=>simp[DK.beqs]
  | cons k' m=>rw[DK.beqs,Xk,DK.beq_iff k k',DK.beqs_iff l m];simp
end
noncomputable instance:DecidableEq DK:=λk l=>decidable_of_iff _ (DK.beq_iff k l)
mutual
inductive IsDK(h:Jq):DK->bd->Prop
 | non:IsDK h .non .none
 | int (i:Int) (t:Tok):IsDK h (.int i) (.int i t)
 | str (x:Str) (t:Tok):IsDK h (.str x) (.str x t)
 | tup {l:List DK} {a:td} {its:List bd} (e:h.IsTuple a its.toArray) (r:IsDKs h l its):IsDK h (.tup l) (.ref a)
inductive IsDKs(h:Jq):List DK->List bd->Prop
 | nil:IsDKs h [] []
 | cons {k:DK} {v:bd} {l:List DK} {vs:List bd} (e:IsDK h k v) (r:IsDKs h l vs):IsDKs h (k::l) (v::vs)
end
mutual
def DK.depth:DK->Nat
 | .tup l=>DK.depths l+1
 | _=>0
def DK.depths:List DK->Nat
 | []=>0
 | k::l=>max k.depth (DK.depths l)
end
mutual
def DK.draws:DK->Nat
 | .tup l=>DK.drawsL l+1
 | _=>1
def DK.drawsL:List DK->Nat
 | []=>0
 | k::l=>k.draws+DK.drawsL l
end
mutual
def DK.hash(w:Gs):DK->Int
 | .non=>0xFCA86420
 | .int i=>hashInt i
 | .str x=>hashStr w x
 | .tup l=>reduceHash (Builtin.Tuple.tupleHashOf (DK.hashes w l))
def DK.hashes(w:Gs):List DK->List Int
 | []=>[]
 | k::l=>k.hash w::DK.hashes w l
end
section
variable{prog:vx}{w:Gs}{E:bd->gV->Prop}
mutual
theorem vE:∀ (k:DK) (v:bd) (A:IN) (s:gV) (Q:Int->gV->Prop),IsDK s.heap k v->A.units+k.depth<cLine->Q (k.hash w) { s with toks:=s.toks+k.draws }->Qs (model prog w) A (pyHash v) Q E s
 | .non,_,A,s,Q,x,hu,h=>by
  cases x
  exact pyHash_slot (T:="NoneType") rfl F.slot_NoneType_hash F.entry_NoneType_hash (F.args_NoneType_hash_1 _) (beq_builtin_none _) (.inr (by omega)) (Xd (Xj (Xd (wpAny_mkInt (Xj ⟨_,_,rfl,h⟩)))))
 | .int i,_,A,s,Q,x,hu,h=>by cases x;exact wpAny_pyHash_int h
 | .str y,_,A,s,Q,x,hu,h=>by cases x;exact wpAny_pyHash_str h
 | .tup l,_,A,s,Q,x,hu,h=>by
  cases x with
  | @tup _ a its e r=>
   obtain⟨o,ho,hc,n,hd⟩:=e
   refine pyHash_slot (T:="tuple") ⟨_,ho,hc⟩ F.slot_tuple_hash F.entry_tuple_hash (F.args_tuple_hash_1 _) (beq_builtin_none _) (.inr (by omega)) ?_
   show Qs _ _ (Builtin.Tuple.tupleItemsOf (.ref a) >>= _) _ _ s
   refine Xd (wpAny_tupleItemsOf ho hd ?_)
   refine Xd ?_
   rw[<- abR]
   refine hash_loop l its A.in1 s #[] _ r (by simp only[DK.depth,aaF] at hu ⊢;omega) λb hb=>?_
   show Qs _ _ (retInt (Builtin.Tuple.tupleHashOf b.toList)) _ _ _
   rw[hb]
   refine Xd (wpAny_mkInt (Xj ⟨_,_,rfl,?_⟩))
   simpa[DK.hash,DK.draws,Nat.add_assoc] using h
theorem hash_loop:∀ (l:List DK) (vs:List bd) (A:IN) (s:gV) (b:Array Int) (Q:Array Int->gV->Prop),IsDKs s.heap l vs->A.units+DK.depths l<cLine ->
  (∀ b',b'.toList=b.toList++DK.hashes w l->Q b' { s with toks:=s.toks+DK.drawsL l }) ->
  Qs (model prog w) A (forIn vs b λx r=>do let h <- pyHash x;pure PUnit.unit;pure (ForInStep.yield (r.push h))) Q E s
 | [],_,A,s,b,Q,x,_,h=>by cases x;exact Xj (by simpa[DK.drawsL] using h b (by simp[DK.hashes]))
 | k::l,_,A,s,b,Q,x,hu,h=>by
  cases x with
  | cons x1 x2=>
   simp only[DK.depths] at hu
   rw[YO]
   refine Xd (Xd (vE k _ A s _ x1 (by omega) ?_))
   refine Xd (Xj (Xj ?_))
   exact hash_loop l _ A _ _ Q x2 (by omega) λb' hb=>by
    have:=h b' (by simp[hb,DK.hashes])
    simpa[DK.drawsL,Nat.add_assoc] using this
end
mutual
theorem IsDK.inj:∀ {h:Jq} {x y:DK} {v:bd},IsDK h x v->IsDK h y v->x=y
 | h,.non,y,v,a,b=>by cases a;cases b;rfl
 | h,.int i,y,v,a,b=>by cases a;cases b;rfl
 | h,.str i,y,v,a,b=>by cases a;cases b;rfl
 | h,.tup l,y,v,a,b=>by
  cases a with
  | tup e r=>
   cases b with
   | tup e' r'=>
    obtain⟨o,ho,_,n,hd⟩:=e
    obtain⟨o',ho',_,n',hd'⟩:=e'
    rw[ho] at ho';cases ho'
    rw[hd] at hd'
    injection hd' with h1 h2
    have:(_:List bd)=_:=congrArg Array.toList h1
    simp only[abF] at this
    subst this
    rw[IsDKs.inj r r']
theorem IsDKs.inj:∀ {h:Jq} {x y:List DK} {vs:List bd},IsDKs h x vs->IsDKs h y vs->x=y
 | h,[],y,vs,a,b=>by cases a;cases b;rfl
 | h,k::l,y,vs,a,b=>by
  cases a with
  | cons e r=>
   cases b with
   | cons e' r'=>rw[IsDK.inj e e',IsDKs.inj r r']
end
mutual
theorem IsDK.keeps{h h':Jq}(hk:∀ a its,h.IsTuple a its->h'.IsTuple a its):∀ {k:DK} {v:bd},IsDK h k v->IsDK h' k v
 | .non,_,x=>by cases x;exact .non
 | .int _,_,x=>by cases x;exact .int _ _
 | .str _,_,x=>by cases x;exact .str _ _
 | .tup l,_,x=>by cases x with | tup e r=>exact .tup (hk _ _ e) (IsDKs.keeps hk r)
theorem IsDKs.keeps{h h':Jq}(hk:∀ a its,h.IsTuple a its->h'.IsTuple a its):∀ {l:List DK} {vs:List bd},IsDKs h l vs->IsDKs h' l vs
 | [],_,x=>by cases x;exact .nil
 | k::l,_,x=>by cases x with | cons e r=>exact .cons (IsDK.keeps hk e) (IsDKs.keeps hk r)
end
variable{A:IN}{s:gV}
theorem IsDKs.len:∀ {h:Jq} {l:List DK} {vs:List bd},IsDKs h l vs->l.length=vs.length
 | h,[],_,x=>by cases x;rfl
 | h,k::l,_,x=>by cases x with | cons e r=>rw[Xw,Xw,r.len]
theorem IsDKs.at:∀ {h:Jq} {l:List DK} {vs:List bd} {j:Nat} {x:DK} {u:bd},IsDKs h l vs->l[j]?=U x->vs[j]?=U u->IsDK h x u
 | h,[],_,j,x,u,r,h1,h2=>by cases h1
 | h,k::l,_,j,x,u,r,h1,h2=>by
  cases r with
  | cons e r=>
   cases j with
   | zero=>cases h1;cases h2;exact e
   | succ j=>exact IsDKs.at r h1 h2
def Nu(l m:List DK)(j:Nat):Bool:=match l[j]?,m[j]? with | some x,U y=>decide (x=y) | _,_=>true
theorem Nt:∀ (l m:List DK),((List.range (min l.length m.length)).all (Nu l m)&&l.length==m.length)=decide (l=m)
 | [],m=>by cases m<;>simp
 | k::l,[]=>by simp
 | k::l,k'::m=>by
  have ih:=Nt l m
  have e:(List.range (min (k::l).length (k'::m).length)).all (Nu (k::l) (k'::m))=(decide (k=k')&&(List.range (min l.length m.length)).all (Nu l m)):=by
   rw[Xw,Xw,Nat.succ_min_succ,ZM,Ym,abq]
   rfl
  rw[e,Xw,Xw,aaX,show(l.length+1==m.length+1)=(l.length==m.length) by simp,ih]
  by_cases h1:k=k'<;>by_cases h2:l=m<;>simp[h1,h2]
mutual
theorem SS:∀ (k l:DK) (u v:bd) (A:IN),IsDK s.heap k u->IsDK s.heap l v->A.units+k.depth<cLine->EqAt A s u v (decide (k=l))
 | .non,l,u,v,A,x,y,hu=>by
  cases x
  cases y with
  | non=>exact EqAt.same _
  | int i t=>exact EqAt.none_int i t
  | str z t=>exact EqAt.none_str z t
  | tup e r=>exact EqAt.none_tuple e (by omega)
 | .int i,l,u,v,A,x,y,hu=>by
  cases x with
  | int i t=>
   cases y with
   | non=>exact EqAt.int_none i t
   | int j t'=>
    have:=EqAt.int_int (A:=A) (s:=s) i t j t'
    rw[show decide (DK.int i=DK.int j)=(i==j) by by_cases h:i=j<;>simp[h]]
    exact this
   | str z t'=>exact EqAt.int_str i t z t'
   | tup e r=>exact EqAt.int_tuple i t e (by omega)
 | .str z,l,u,v,A,x,y,hu=>by
  cases x with
  | str z t=>
   cases y with
   | non=>exact EqAt.str_none z t
   | int j t'=>exact EqAt.str_int z t j t'
   | str z' t'=>
    have:=EqAt.str_str (A:=A) (s:=s) z t z' t'
    rw[show decide (DK.str z=DK.str z')=(z==z') by by_cases h:z=z'<;>simp[h]]
    exact this
   | tup e r=>exact EqAt.str_tuple z t e (by omega)
 | .tup l,m,u,v,A,x,y,hu=>by
  cases x with
  | @tup _ a its e r=>
   simp only[DK.depth] at hu
   cases y with
   | non=>exact EqAt.tuple_none e (by omega)
   | int j t=>exact EqAt.tuple_int j t e (by omega)
   | str z t=>exact EqAt.tuple_str z t e (by omega)
   | @tup m b its' e' r'=>
    have all:∀ j (h1:j<its.toArray.size) (h2:j<its'.toArray.size),EqAt A.in1 s its.toArray[j] its'.toArray[j] (Nu l m j):=λj h1 h2=>by
     rw[Xg] at h1 h2
     have l1:j<l.length:=by rw[r.len];exact h1
     have l2:j<m.length:=by rw[r'.len];exact h2
     have:=eq_dks l its A.in1 r (by rw[aaF];omega) j l[j] its[j] m[j] its'[j] (Xl l1) (Xl h1) (IsDKs.at r' (Xl l2) (Xl h2))
     unfold Nu
     rw[Xl l1,Xl l2]
     simpa using this
    have key:=RcAt.tuples (A:=A) (s:=s) e e' (by omega) all
    rw[Xg,Xg,<- r.len,<- r'.len,Nt] at key
    rw[show decide (DK.tup l=DK.tup m)=decide (l=m) by by_cases h:l=m<;>simp[h]]
    by_cases hl:a=b
    ·subst hl
     obtain⟨o,ho,_,n,hd⟩:=e
     obtain⟨o',ho',_,n',hd'⟩:=e'
     rw[ho] at ho';cases ho'
     rw[hd] at hd'
     injection hd' with h1 h2
     have:(_:List bd)=_:=congrArg Array.toList h1
     simp only[abF] at this
     subst this
     rw[IsDKs.inj r r',Xs rfl]
     exact EqAt.same _
    ·exact EqAt.of_refs hl key
theorem eq_dks:∀ (l:List DK) (vs:List bd) (A:IN),IsDKs s.heap l vs->A.units+DK.depths l<cLine->∀ (j:Nat) (x:DK) (u:bd) (y:DK) (v:bd),l[j]?=U x->vs[j]?=U u->IsDK s.heap y v->EqAt A s u v (decide (x=y))
 | [],_,A,r,hu,j,x,u,y,v,h1,h2,h3=>by cases h1
 | k::l,_,A,r,hu,j,x,u,y,v,h1,h2,h3=>by
  simp only[DK.depths] at hu
  cases r with
  | cons e r=>
   cases j with
   | zero=>cases h1;cases h2;exact SS k y _ _ A e h3 (by omega)
   | succ j=>exact eq_dks l _ A r (by omega) j x u y v h1 h2 h3
end
mutual
theorem zG:∀ (k:DK) (v:bd) (n:Nat) (Q:Bool->gV->Prop),IsDK s.heap k v->k.depth<=n->Q true s->Qs (model prog w) A (eqIsQuiet n v) Q E s
 | .non,_,n,Q,x,_,h=>by cases x;rw[aap n rfl];exact Xj h
 | .int _,_,n,Q,x,_,h=>by cases x;rw[aap n rfl];exact Xj h
 | .str _,_,n,Q,x,_,h=>by cases x;rw[aap n rfl];exact Xj h
 | .tup l,_,n,Q,x,hn,h=>by
  cases x with
  | @tup _ a its e r=>
   simp only[DK.depth] at hn
   obtain⟨m,rfl⟩:∃ m,n=m+1:=⟨n - 1,by omega⟩
   obtain⟨o,ho,hc,n',hd⟩:=e
   have hT:s.TypeIs (.ref a) "tuple":=⟨o,ho,hc⟩
   unfold eqIsQuiet
   refine Xd (wpAny_specialOf hT F.slot_tuple_eq.lookup ?_)
   show Qs _ _ (isInstance (.ref a) (.type "tuple") >>= _) _ _ s
   refine Xd (aax hT isSubtype_tuple_tuple ?_)
   simp only[Ys,XR,YG]
   refine Xd (YY ho hd ?_)
   refine Xd ?_
   show Qs _ _ (forIn its.toArray _ _) _ _ s
   rw[<- abR]
   refine wpAny_forIn_list _ (λrest r s'=>r.1=Y/\s'=s/\∀ v∈rest,∀ Q:Bool->gV->Prop,Q true s->Qs (model prog w) A (eqIsQuiet m v) Q E s) _ ?_ ?_ _ _ ⟨rfl,rfl,quiet_dks l its m r (by omega)⟩
   ·rintro v rest r s' ⟨hr,rfl,hall⟩
    refine Xd (hall v Xi _ ?_)
    simp only[Ys,XR,YG]
    exact Xj ⟨rfl,rfl,λu hu'=>hall u (Xf _ hu')⟩
   ·rintro⟨r1,r2⟩ s' ⟨hr,rfl,_⟩
    simp only at hr
    subst hr
    exact Xj h
theorem quiet_dks:∀ (l:List DK) (vs:List bd) (n:Nat),IsDKs s.heap l vs->DK.depths l<=n->∀ v∈vs,∀ Q:Bool->gV->Prop,Q true s->Qs (model prog w) A (eqIsQuiet n v) Q E s
 | [],_,n,r,_,v,hv,Q,h=>by cases r;cases hv
 | k::l,_,n,r,hn,v,hv,Q,h=>by
  simp only[DK.depths] at hn
  cases r with
  | cons e r=>
   rcases XD.mp hv with rfl | hv
   ·exact zG k _ n Q e (by omega) h
   ·exact quiet_dks l _ n r (by omega) v hv Q h
end
end
def gR(prog:vx)(w:Gs):HeapKind prog w DK where
 is:=λh k a=>IsDK h k (.ref a)/\k.depth<=8
 hash:=DK.hash w
 draws:=DK.draws
 room:=λA=>A.units+8<cLine
 inj:=λhx hy=>hx.1.inj hy.1
 keeps:=λx ho hd hs=>⟨x.1.keeps λb its e=>(by
  obtain⟨o',ho',hc,n,hd'⟩:=e
  refine⟨o',(hs.2 b ?_).trans ho',hc,n,hd'⟩
  rintro rfl
  obtain rfl:=XC (ho'.symm.trans ho)
  rw[hd] at hd';exact(nomatch hd')),x.2⟩
 pyHash:=λhu hk h=>vE _ _ _ _ _ hk.1 (by have:=hk.2;omega) h
 eqBool:=λhu hx hy h=>SS _ _ _ _ _ hx.1 hy.1 (by have:=hx.2;omega) _ _ _ _ h
 quiet:=λhk h=>zG _ _ 8 _ hk.1 hk.2 h
inductive V where
 | non | bl (b:Bool) | int (i:Int) | str (x:Str) | byt (b:Array UInt8) | flt (b:UInt64) | ref (a:td) | ty (n:String)
 deriving DecidableEq
def RelV:V->bd->Prop
 | .non,u=>u=Value.none
 | .bl b,u=>u=Value.bool b
 | .int i,u=>∃ t,u=Value.int i t
 | .str x,u=>∃ t,u=Value.str x t
 | .byt b,u=>∃ t,u=Value.bytes b t
 | .flt b,u=>∃ t,u=Value.float b t
 | .ref a,u=>u=Value.ref a
 | .ty n,u=>u=Value.type n
noncomputable abbrev Vals:List V->List bd->Prop:=Paired RelV
theorem Vals.length{xs:List V}{us:List bd}(r:Vals xs us):xs.length=us.length:=aae r
theorem Vals.get:∀ {xs:List V} {us:List bd} {i:Nat} {x:V},Vals xs us->xs[i]?=U x->∃ u,us[i]?=U u/\RelV x u
 | _,_,_,_,.nil,e=>by simp at e
 | _,_,0,_,.cons r _,e=>by simp at e;subst e;exact⟨_,rfl,r⟩
 | _,_,i+1,x,.cons _ t,e=>by
  obtain⟨u,h1,h2⟩:=Vals.get (i:=i) (x:=x) t (by simpa using e)
  exact⟨u,by simpa using h1,h2⟩
theorem Vals.set(r:RelV x u):∀ {xs:List V} {us:List bd} (i:Nat),Vals xs us->Vals (xs.set i x) (us.set i u)
 | _,_,_,.nil=>.nil
 | _,_,0,.cons _ t=>.cons r t
 | _,_,i+1,.cons q t=>.cons q (Vals.set r i t)
theorem Vals.append:∀ {xs ys:List V} {us ws:List bd},Vals xs us->Vals ys ws->Vals (xs++ys) (us++ws)
 | _,_,_,_,.nil,s=>s
 | _,_,_,_,.cons r t,s=>.cons r (Vals.append t s)
theorem Vals.take:∀ {xs:List V} {us:List bd} (n:Nat),Vals xs us->Vals (xs.take n) (us.take n)
 | _,_,0,_=>.nil
 | _,_,_+1,.nil=>.nil
 | _,_,n+1,.cons r t=>.cons r (Vals.take n t)
theorem Vals.drop:∀ {xs:List V} {us:List bd} (n:Nat),Vals xs us->Vals (xs.drop n) (us.drop n)
 | _,_,0,r=>r
 | _,_,_+1,.nil=>.nil
 | _,_,n+1,.cons _ t=>Vals.drop n t
def RelO:Option V->Option bd->Prop
 | some v,U u=>RelV v u
 | none,Y=>True
 | _,_=>False
def KV{κ:Type}:List (κ×V)->List (κ×bd)->Prop:=Paired λ(p:κ×V) (q:κ×bd)=>p.1=q.1/\RelV p.2 q.2
def kV:bC->V
 | .inl i=>.int i
 | .inr x=>.str x
inductive HO where
 | lst (xs:List V)
 | tup (xs:List V)
 | dK (kvs:List (bC×V)) | dT (kvs:List (DK×td×V))
 | set (S:Int->Bool) (n:Nat)
 | ins (C dx:td) (fs:List (Str×V))
 | own (x:td)
 | xd (fs:List (Str×V))
 | met (f x:td)
 | rng (lo hi:Int)
 | frz (o:Obj) (u:HO)
 | tbl (ps:Array bd)
 | ext (φ:Jq->Prop)
noncomputable abbrev Hp:=td->Option HO
def upd(H:Hp)(a:td)(o:HO):Hp:=λb=>if b=a then U o else H b
theorem aV:upd H a o a=U o:=by unfold upd;rw[Xq rfl]
theorem aO{a b:td}(h:b≠a):upd H a o b=H b:=by unfold upd;rw[if_neg h]
theorem bR{H:Hp}{o:HO}(h:H a=U o)(h':H b=Y):a≠b:=by
 intro e;subst e;rw[h] at h';cases h'
def IsTupN(h:Jq)(a:td)(items:Array bd):Prop:=∃ o,h.get? a=U o/\o.cls=.type "tuple"/\(∃ n,o.data=.seq items n)/\o.dict=Y
theorem IsTupN.up(x:IsTupN h a items):IsTup h a items:=by
 obtain⟨o,e,c,d,_⟩:=x
 exact⟨o,e,c,d⟩
theorem IsTupN.lt(x:IsTupN h a items):a<h.objs.size:=x.up.lt
theorem IsTupN.new(h:Jq)(items:Array bd):IsTupN (h.push { cls:=.type "tuple",data:=.seq items }) h.objs.size items:=⟨_,Xr _ rfl,rfl,⟨_,rfl⟩,rfl⟩
section
variable(P:vx)(w:Gs)
def ObjOk(H:Hp)(h:Jq)(a:td):HO->Prop
 | .lst xs=>xs.length<=KY/\∃ (its:List bd) (n:Nat),Vals xs its/\h.get? a=U { cls:=.type "list",data:=.seq its.toArray n }
 | .tup xs=>xs.length<=KY/\∃ its:List bd,Vals xs its/\IsTupN h a its.toArray
 | .dK kvs=>kvs.length<=KY/\(a==sysModules)=false/\∃ vs,KV kvs vs/\h.DictOf (cr P w) a vs
 | .dT kvs=>kvs.length<=KY/\(a==sysModules)=false/\∃ xs:List (DK×td×bd),
   Paired (λ(p:DK×td×V) (q:DK×td×bd)=>p.1=q.1/\p.2.1=q.2.1/\RelV p.2.2 q.2.2) kvs xs /\
   ∃ o es ep,h.get? a=U o/\o.ExactDict/\o.data=.dict es ep/\es.toList=xs.map (entryOfKey (gR P w))/\(xs.map (·.1)).Nodup
 | .set S n=>h.SetOf (intKind P w) a S n
 | .ins C dx fs=>H dx=U (.own a)/\fs.length<=1000/\dx≠a/\h.get? a=U (W.instObj C dx) /\
   ∃ mA,h.Ns1 dx mA/\(∀ f,RelO (fs.lookup f) (mA f))/\PySem.Within mA (fs.map (·.1))
 | .own _=>∃ o,h.get? a=U o
 | .xd fs=>∃ mA,h.Ns1 a mA/\∀ f,RelO (fs.lookup f) (mA f)
 | .rng lo hi=>∃ t u v,h.get? a=U { cls:=.type "range",data:=.fields #[.int lo t,.int hi u,.int 1 v] }
 | .frz o u=>h.get? a=U o/\ObjOk H h a u
 | .tbl ps=>h.get? a=U { cls:=.none,data:=.fields ps }
 | .met f x=>h.get? a=U (W.methodObj (.ref f) (.ref x))
 | .ext φ=>φ h/\(∃ o,h.get? a=U o)/\∀ h1 h2:Jq,φ h1->(∀ o,h1.get? a=U o->h2.get? a=U o)->φ h2
def HOk(H:Hp)(h:Jq):Prop:=∀ a o,H a=U o->ObjOk P w H h a o
end
section
variable{P:vx}{w:Gs}{H H':Hp}{h h':Jq}{a:td}{o:HO}
theorem ObjOk.lt(x:ObjOk P w H h a o):a<h.objs.size:=by
 cases o with
 | lst xs=>obtain⟨_,_,_,_,e⟩:=x;exact Xo e
 | tup xs=>obtain⟨_,_,_,p⟩:=x;exact p.lt
 | dK kvs=>obtain⟨_,_,_,_,o,_,_,e,_⟩:=x;exact Xo e
 | dT kvs=>obtain⟨_,_,_,_,o,_,_,e,_⟩:=x;exact Xo e
 | set S n=>obtain⟨o,_,_,_,e,_⟩:=x;exact Xo e
 | ins C dx fs=>obtain⟨_,_,_,e,_⟩:=x;exact Xo e
 | own y=>obtain⟨_,e⟩:=x;exact Xo e
 | xd fs=>obtain⟨_,⟨_,_,_,e,_⟩,_⟩:=x;exact Xo e
 | rng lo hi=>obtain⟨_,_,_,e⟩:=x;exact Xo e
 | frz ob u=>obtain⟨e,_⟩:=x;exact Xo e
 | tbl ps=>exact Xo (show h.get? a=U _ from x)
 | met f y=>exact Xo (show h.get? a=U _ from x)
 | ext φ=>obtain⟨_,⟨_,e⟩,_⟩:=x;exact Xo e
theorem ObjOk.stay(x:ObjOk P w H h a o)(k:∀ b u,(b=a\/H b=U (.own a))->h.get? b=U u->h'.get? b=U u)
  (ho:∀ b,H b=U (.own a)->H' b=U (.own a)) (ht:∀ b xs,H b=U (.tup xs)->H' b=U (.tup xs)):ObjOk P w H' h' a o:=by
 induction o with
 | lst xs=>obtain⟨z,its,n,r,e⟩:=x;exact⟨z,its,n,r,k _ _ (.inl rfl) e⟩
 | tup xs=>obtain⟨z,its,r,ob,e,c⟩:=x;exact⟨z,its,r,ob,k _ _ (.inl rfl) e,c⟩
 | dK kvs=>obtain⟨z,y,vs,r,ob,es,ep,e,c⟩:=x;exact⟨z,y,vs,r,ob,es,ep,k _ _ (.inl rfl) e,c⟩
 | dT kvs=>
  obtain⟨z,y,xs,r,ob,es,ep,e,c⟩:=x
  exact⟨z,y,xs,r,ob,es,ep,k _ _ (.inl rfl) e,c⟩
 | set S n=>obtain⟨ob,es,ep,t,e,c⟩:=x;exact⟨ob,es,ep,t,k _ _ (.inl rfl) e,c⟩
 | ins C dx fs=>
  obtain⟨d,z,ne,e,mA,⟨od,es,ep,e2,c⟩,r⟩:=x
  exact⟨ho _ d,z,ne,k _ _ (.inl rfl) e,mA,⟨od,es,ep,k _ _ (.inr d) e2,c⟩,r⟩
 | own y=>obtain⟨ob,e⟩:=x;exact⟨ob,k _ _ (.inl rfl) e⟩
 | xd fs=>obtain⟨mA,⟨od,es,ep,e,c⟩,r⟩:=x;exact⟨mA,⟨od,es,ep,k _ _ (.inl rfl) e,c⟩,r⟩
 | rng lo hi=>obtain⟨t,u,v,e⟩:=x;exact⟨t,u,v,k _ _ (.inl rfl) e⟩
 | frz ob u ih=>obtain⟨e,q⟩:=x;exact⟨k _ _ (.inl rfl) e,ih q⟩
 | tbl ps=>
  have e:h.get? a=U { cls:=.none,data:=.fields ps }:=x
  show h'.get? a=U { cls:=.none,data:=.fields ps }
  exact k a _ (.inl rfl) e
 | met f y=>
  have e:h.get? a=U (W.methodObj (.ref f) (.ref y)):=x
  show h'.get? a=U (W.methodObj (.ref f) (.ref y))
  exact k a _ (.inl rfl) e
 | ext φ=>obtain⟨p,⟨o,e⟩,st⟩:=x;exact⟨st _ _ p λo q=>k _ _ (.inl rfl) q,⟨o,k _ _ (.inl rfl) e⟩,st⟩
theorem HOk.lt(x:HOk P w H h)(e:H a=U o):a<h.objs.size:=(x a o e).lt
theorem HOk.fresh(x:HOk P w H h)(e:h.objs.size<=a):H a=Y:=by
 cases q:H a with
 | none=>rfl
 | some u=>exact absurd (XB (x.lt q) e) (YS _)
theorem HOk.kept(x:HOk P w H h)(k:∀ b u,h.get? b=U u->h'.get? b=U u):HOk P w H h':=λa o e=>
 (x a o e).stay (λb u _ q=>k b u q) (λ_ q=>q) λ_ _ q=>q
theorem HOk.laid(x:HOk P w H h)(k:∀ b u,h.get? b=U u->h'.get? b=U u)(hp:h.objs.size<=a)(new:ObjOk P w (upd H a o) h' a o):HOk P w (upd H a o) h':=λb u e=>by
 have hn:=x.fresh hp
 by_cases hb:b=a
 ·subst hb;rw[aV] at e;cases e;exact new
 ·rw[aO hb] at e
  exact(x b u e).stay (λc v _ q=>k c v q) (λc q=>by rw[aO (bR q hn)];exact q) λc xs q=>by rw[aO (bR q hn)];exact q
end
def Rd(H:Hp)(a:td)(u:HO):Prop:=H a=U u\/∃ o,H a=U (.frz o u)
theorem Rd.ok(r:Rd H a u)(x:HOk P w H h):ObjOk P w H h a u:=by
 rcases r with r | ⟨o,r⟩
 ·exact x a u r
 ·obtain⟨_,q⟩:=x a _ r
  exact q
def Mut:Option HO->Prop
 | some (.lst _)=>True
 | some (.dK _)=>True
 | some (.dT _)=>True
 | some (.set _ _)=>True
 | some (.ins _ _ _)=>True
 | some (.ext _)=>True
 | _=>False
section
variable{P:vx}{w:Gs}{H:Hp}{h h':Jq}{x e:td}{o':HO}
theorem HOk.write(ok:HOk P w H h)(mu:Mut (H x))(he:e=x\/H e=U (.own x))(k:∀ b u,b≠e->h.get? b=U u->h'.get? b=U u)(heo:∃ u,h'.get? e=U u)
  (new:ObjOk P w (upd H x o') h' x o'):HOk P w (upd H x o') h':=λb u q=>by
 have nown:∀ c y,H c=U (.own y)->c≠x:=λc y r z=>by subst z;rw[r] at mu;exact mu
 have ntup:∀ c xs,H c=U (.tup xs)->c≠x:=λc xs r z=>by subst z;rw[r] at mu;exact mu
 by_cases hb:b=x
 ·subst hb;rw[aV] at q;cases q;exact new
 ·rw[aO hb] at q
  by_cases hbe:b=e
  ·have q':H b=U (.own x):=by
    rcases he with z | z
    ·exact absurd (hbe.trans z) hb
    ·rw[hbe];exact z
   rw[q] at q';cases q'
   obtain⟨v,hv⟩:=heo
   exact⟨v,by rw[hbe];exact hv⟩
  ·refine(ok b u q).stay (λc v hc r=>k c v ?_ r) (λc r=>by rw[aO (nown c b r)];exact r) λc xs r=>by rw[aO (ntup c xs r)];exact r
   rcases hc with rfl | hc
   ·exact hbe
   ·rintro rfl
    rcases he with z | z
    ·exact nown c b hc z
    ·rw[hc] at z;cases z;exact hb rfl
end
structure Un(fs ex:List td)(H H':Hp)(h h':Jq):Prop where
 keep:∀ b o,h.get? b=U o->H b=Y->b∉fs->b∉ex->h'.get? b=U o
 slot:∀ b o,h.get? b=U o->H b=Y->b∈fs->b∉ex->∃ sl,h'.get? b=U { o with slots:=sl }
 free:∀ b o,h.get? b=U o->H b=Y->b∉ex->H' b=Y
 there:∀ b o,h.get? b=U o->b∉ex->∃ o',h'.get? b=U o'
 tups:∀ b xs,H b=U (.tup xs)->H' b=U (.tup xs)
 frzs:∀ b o u,H b=U (.frz o u)->H' b=U (.frz o u)
 tbls:∀ b ps,H b=U (.tbl ps)->∃ more,H' b=U (.tbl (ps++more))
section
variable{fs fs' ex ex':List td}{H H1 H2:Hp}{h h1 h2 h':Jq}{a x e:td}{o:HO}
theorem Un.any(u:Un fs ex H H1 h h1){ob:Obj}(q:h.get? b=U ob)(n:H b=Y)(hx:b∉ex):∃ sl,h1.get? b=U { ob with slots:=sl }:=by
 by_cases hb:b∈fs
 ·exact u.slot b ob q n hb hx
 ·exact⟨ob.slots,u.keep b ob q n hb hx⟩
theorem Un.kept(k:∀ b u,h.get? b=U u->h'.get? b=U u):Un fs ex H H h h':=
 ⟨λb ob q _ _ _=>k b ob q,λb ob q _ _ _=>⟨ob.slots,k b ob q⟩,λ_ _ _ n _=>n,λb ob q _=>⟨ob,k b ob q⟩,λ_ _ q=>q,λ_ _ _ q=>q,λ_ ps q=>⟨#[],by rw[q];simp⟩⟩
theorem Un.refl:Un fs ex H H h h:=Un.kept λ_ _ q=>q
theorem Un.laid(k:∀ b u,h.get? b=U u->h'.get? b=U u)(hp:h.objs.size<=a)(hn:H a=Y):Un fs ex H (upd H a o) h h' where
 keep:=λb u q _ _ _=>k b u q
 slot:=λb u q _ _ _=>⟨u.slots,k b u q⟩
 free:=λb u q n _=>by rw[aO (XT (XB (Xo q) hp))];exact n
 there:=λb u q _=>⟨u,k b u q⟩
 tups:=λb xs q=>by rw[aO (bR q hn)];exact q
 frzs:=λb u xs q=>by rw[aO (bR q hn)];exact q
 tbls:=λb ps q=>⟨#[],by rw[aO (bR q hn),q];simp⟩
theorem Un.write(mu:Mut (H x))(he:e=x\/H e=U (.own x))(k:∀ b u,b≠e->h.get? b=U u->h'.get? b=U u)(heo:∃ u,h'.get? e=U u):Un fs ex H (upd H x o) h h':=by
 have hx:∀ b,H b=Y->b≠x:=λb n z=>by subst z;rw[n] at mu;exact mu
 have hb:∀ b,H b=Y->b≠e:=λb n z=>by
  subst z
  rcases he with r | r
  ·exact hx b n r
  ·rw[n] at r;cases r
 have hm:∀ b u,H b=U u->¬ Mut (U u)->b≠x:=λb u q nm z=>by subst z;rw[q] at mu;exact nm mu
 refine⟨λb u q n _ _=>k b u (hb b n) q,λb u q n _ _=>⟨u.slots,k b u (hb b n) q⟩,λb u q n _=>by rw[aO (hx b n)];exact n,λb u q _=>?_,
  λb xs q=>by rw[aO (hm b _ q λz=>z)];exact q,λb u xs q=>by rw[aO (hm b _ q λz=>z)];exact q,λb ps q=>⟨#[],by rw[aO (hm b _ q λz=>z),q];simp⟩⟩
 by_cases hbe:b=e
 ·subst hbe;exact heo
 ·exact⟨u,k b u hbe q⟩
end
def trk(h:Jq)(H:Hp):List td:=(List.range h.objs.size).filter λa=>(H a).isSome
def yk(h:Jq)(H:Hp):Jq:=W.hideAll h (trk h H)
theorem HH(h:Jq)(H:Hp):(yk h H).objs.size=h.objs.size:=W.hideAll_size _ _
theorem LR{h:Jq}{H:Hp}{o:Obj}(e:h.get? b=U o)(n:H b=Y):(yk h H).get? b=U o:=
 W.hideAll_get _ e λhm=>by
  have q:(H b).isSome=true:=(Yh.mp hm).2
  rw[n] at q;simp at q
theorem PK{o:Obj}(e:(yk h H).get? b=U o):h.get? b=U o/\H b=Y:=by
 have e':h.get? b=U o:=W.of_hideAll (trk h H) e
 refine⟨e',?_⟩
 cases q:H b with
 | none=>rfl
 | some x=>
  have hm:b∈trk h H:=Yh.mpr ⟨ZX.mpr (Xo e'),by simp[q]⟩
  have z:(yk h H).get? b=Y:=W.hideAll_none (trk h H) hm
  rw[z] at e;cases e
structure Mod(K:QF)(mg:Str->Option bd)(base:Jq):Prop where
 kin:K.In base
 glob:base.Ns Lg mg
 blt:∃ mb,base.Ns builtinsNs mb/\∀ x:Str,x≠"__name__"->mb x=bootBuiltins x
 nolimit:base.NoLimit
structure Cx where
 prog:vx
 w:Gs
 K:QF
 mg:Str->Option bd
 base:Jq
 A:IN
 N:List Str
 s₀:gV
 H₀:Hp
 env:Env
 outer:List Env
 stack:List Env
 ex:List td
 fn:Str->Bool
 calm:Bool
 pn:List (td×Obj)
 xe:bd->gV->Prop
def tK(l:List Env):List td:=l.filterMap (·.frame)
noncomputable abbrev Cx.fs(X:Cx):List td:=tK X.outer
def Tf(sc:Scope)(x:Str):Prop:=sc.names.lookup x=U .local\/sc.names.lookup x=U .cell\/sc.names.lookup x=U .free
def Gi(sc:Scope)(x:Str):Prop:=sc.names.lookup x=U .local\/sc.names.lookup x=U .cell
def Look(env:Env)(h:Jq)(m:Str->Option bd)(x:Str)(u:bd):Prop:=
 (env.kindOf x=U .local/\m x=U u)\/((env.kindOf x=U .cell\/env.kindOf x=U .free)/\∃ c,env.cells.lookup x=U c/\h.IsCell c (U u))
structure Cx.Ok(X:Cx):Prop where
 mod:Mod X.K X.mg X.base
 kind:X.env.scope.kind=.function
 glob:X.env.globals=Lg
 blt:X.env.builtins=builtinsNs
 above:X.s₀.heap.objs.size<=X.env.locals
 inj:∀ x y c,X.env.cells.lookup x=U c->X.env.cells.lookup y=U c->x=y
 has:∀ x,(X.env.kindOf x=U .cell\/X.env.kindOf x=U .free)->∃ c,X.env.cells.lookup x=U c
 cab:∀ x c,X.fn x=true->X.env.cells.lookup x=U c->X.s₀.heap.objs.size<=c
 hd:X.calm=true->X.A.handled=Y
 frames:X.A.frames=U X.stack
 stk:X.stack=X.outer\/(X.stack=X.env::X.outer/\X.env.frame=U X.env.locals)
 exf:∀ b∈X.ex,b≠X.env.locals/\∀ x c,X.env.cells.lookup x=U c->c≠b
 bs:∀ b o,X.base.get? b=U o->X.s₀.heap.get? b=U o/\X.H₀ b=Y
 bsz:X.base.objs.size<=X.s₀.heap.objs.size
 noex:∀ b o,X.base.get? b=U o->b∉X.ex
 exfs:∀ b∈X.ex,b∉X.fs
 funs:X.s₀.heap.FunFrames X.base X.outer
 frf:∀ b∈X.fs,X.H₀ b=Y
structure Inv(X:Cx)(pins:List (td×Obj))(σ:List (Option V))(H:Hp)(s:gV):Prop where
 ok:X.Ok
 os:s.os=X.s₀.os
 bare:AllBare s.gens
 base:Un X.fs X.ex X.H₀ H X.s₀.heap s.heap
 loc:∃ m,s.heap.Ns X.env.locals m/\∀ (i:Nat) (x:Str) (v:V),X.N[i]?=U x->σ[i]?=U (U v)->Tf X.env.scope x->∃ u,RelV v u/\Look X.env s.heap m x u
 cell:∀ x c,X.env.cells.lookup x=U c->∃ v,s.heap.IsCell c v
 free:H X.env.locals=Y
 freeC:∀ x c,X.env.cells.lookup x=U c->H c=Y
 pin:∀ p∈X.pn++pins,s.heap.get? p.1=U p.2/\H p.1=Y/\p.1≠X.env.locals/\p.1∉X.fs/\∀ v,p.2.data≠.cell v
 hok:HOk X.prog X.w H s.heap
 len:σ.length=X.N.length
section
variable{X:Cx}{pins:List (td×Obj)}{σ:List (Option V)}{H H':Hp}{s:gV}{h':Jq}
theorem Cx.Ok.nofr(ok:X.Ok){o:Obj}(e:X.base.get? b=U o):b∉X.fs:=λhb=>by
 have:=(ok.funs.mem hb).1
 rw[e] at this;cases this
theorem Inv.bs(I:Inv X pins σ H s):∀ b o,X.base.get? b=U o->s.heap.get? b=U o/\H b=Y:=λb o e=>
 ⟨I.base.keep b o (I.ok.bs b o e).1 (I.ok.bs b o e).2 (I.ok.nofr e) (I.ok.noex b o e),I.base.free b o (I.ok.bs b o e).1 (I.ok.bs b o e).2 (I.ok.noex b o e)⟩
theorem Inv.bk(I:Inv X pins σ H s):∀ b o,X.base.get? b=U o->s.heap.get? b=U o:=λb o e=>(I.bs b o e).1
theorem Inv.mod(I:Inv X pins σ H s):Mod X.K X.mg X.base:=I.ok.mod
theorem Inv.kIn(I:Inv X pins σ H s):X.K.In s.heap:=I.ok.mod.kin.keeps I.bk
theorem Inv.lt(I:Inv X pins σ H s):X.env.locals<s.heap.objs.size:=let ⟨_,hn,_⟩:=I.loc;hn.lt
theorem Inv.sz(I:Inv X pins σ H s):X.s₀.heap.objs.size<=s.heap.objs.size:=XN I.ok.above (aat I.lt)
theorem Inv.nofs(I:Inv X pins σ H s){a:td}(h:s.heap.objs.size<=a):a∉X.fs:=λhb=>by
 obtain⟨_,o,ho,_⟩:=I.ok.funs.mem hb
 exact absurd (XB (Xo ho) (XN I.sz h)) (YS _)
theorem Inv.cne(I:Inv X pins σ H s):∀ x c,X.env.cells.lookup x=U c->c≠X.env.locals:=λx c e z=>by
 obtain⟨v,o,ho,hd⟩:=I.cell x c e
 obtain⟨m,⟨o',es,ep,ho',hd',_⟩,_⟩:=I.loc
 rw[z,ho'] at ho;cases ho;rw[hd'] at hd;cases hd
theorem Inv.funs(I:Inv X pins σ H s):s.heap.FunFrames X.base X.outer:=by
 have all:∀ (l:List Env),(∀ b∈tK l,b∈X.fs)->X.s₀.heap.FunFrames X.base l->s.heap.FunFrames X.base l:=by
  intro l
  induction l with
  | nil=>intro _ _;trivial
  | cons env r ih=>
   intro hs hl
   obtain⟨hk,⟨L,o,hf,hn,ho,hd⟩,hr⟩:=hl
   have hL:L∈X.fs:=hs L (by unfold tK;rw[XS,hf];exact Xi)
   obtain⟨sl,e⟩:=I.base.slot L o ho (I.ok.frf L hL) hL λz=>I.ok.exfs L z hL
   exact⟨hk,⟨L,_,hf,hn,e,hd⟩,ih (λb hb=>hs b (by unfold tK;rw[XS,hf];exact Xf _ hb)) hr⟩
 exact all X.outer (λ_ hb=>hb) I.ok.funs
theorem Inv.stack(I:Inv X pins σ H s):s.heap.FunFrames X.base X.stack:=by
 rcases I.ok.stk with e | ⟨e,hf⟩
 ·rw[e];exact I.funs
 ·rw[e]
  obtain⟨m,hn,_⟩:=I.loc
  refine .cons (by rw[I.ok.kind];decide) hf hn ?_ I.funs
  exact Heap.get?_none_of_le (XN I.ok.bsz I.ok.above)
theorem Inv.stkSub(I:Inv X pins σ H s):∀ b∈tK X.stack,b∈X.env.locals::X.fs:=λb hb=>by
 rcases I.ok.stk with e | ⟨e,hf⟩
 ·rw[e] at hb;exact Xf _ hb
 ·rw[e] at hb
  unfold tK at hb
  rw[XS,hf] at hb
  exact hb
theorem Inv.stkFree(I:Inv X pins σ H s):∀ b∈tK X.stack,H b=Y:=λb hb=>by
 rcases XD.mp (I.stkSub b hb) with e | hb
 ·rw[e];exact I.free
 ·obtain⟨_,o,ho,_⟩:=I.ok.funs.mem hb
  exact I.base.free b o ho (I.ok.frf b hb) λz=>I.ok.exfs b z hb
theorem Inv.step{t':Nat}{d':Drawn}{ch:List td}(I:Inv X pins σ H s)
  (hch:∀ b∈ch,(b∈X.ex\/X.s₀.heap.objs.size<=b)/\b≠X.env.locals/\(∀ x c,X.env.cells.lookup x=U c->c≠b)/\∀ p∈X.pn++pins,p.1≠b)
  (keep:∀ b o,b≠X.env.locals->b∉X.fs->b∉ch->s.heap.get? b=U o->H b=Y->h'.get? b=U o)
  (slot:∀ b o,b≠X.env.locals->b∈X.fs->b∉ch->s.heap.get? b=U o->H b=Y->∃ sl,h'.get? b=U { o with slots:=sl }) (free:∀ b o,b∉ch->s.heap.get? b=U o->H b=Y->H' b=Y)
  (there:∀ b o,b∉ch->s.heap.get? b=U o->∃ o',h'.get? b=U o')
  (tups:∀ b xs,H b=U (.tup xs)->H' b=U (.tup xs)) (frzs:∀ b o u,H b=U (.frz o u)->H' b=U (.frz o u)) (tbls:∀ b ps,H b=U (.tbl ps)->∃ more,H' b=U (.tbl (ps++more)))
  (ns:∀ m,s.heap.Ns X.env.locals m->h'.Ns X.env.locals m) (hok:HOk X.prog X.w H' h') (hg:AllBare g') :
  Inv X pins σ H' { s with heap:=h',gens:=g',drawn:=d',toks:=t' }:=by
 have neL:∀ b o,X.s₀.heap.get? b=U o->b≠X.env.locals:=λb o e=>XT (XB (Xo e) I.ok.above)
 have neC:∀ b o,X.s₀.heap.get? b=U o->b∉X.ex->b∉ch:=λb o e hx hb=>by
  rcases(hch b hb).1 with z | z
  ·exact hx z
  ·exact absurd (XB (Xo e) z) (YS _)
 have cellK:∀ x c,X.env.cells.lookup x=U c->∀ v,s.heap.IsCell c v->h'.IsCell c v:=λx c e v z0=>by
  obtain⟨o,ho,hd⟩:=z0
  have nch:c∉ch:=λz=>(hch c z).2.2.1 x c e rfl
  by_cases hc:c∈X.fs
  ·obtain⟨sl,q⟩:=slot c o (I.cne x c e) hc nch ho (I.freeC x c e)
   exact⟨_,q,hd⟩
  ·exact⟨o,keep c o (I.cne x c e) hc nch ho (I.freeC x c e),hd⟩
 refine⟨I.ok,I.os,hg,⟨λb o e n hb hx=>?_,λb o e n hb hx=>?_,λb o e n hx=>?_,λb o e hx=>?_,λb xs e=>tups b xs (I.base.tups b xs e),λb o xs e=>frzs b o xs (I.base.frzs b o xs e),λb ps e=>?_⟩,?_,λx c e=>?_,?_,λx c e=>?_,λp hp=>?_,hok,I.len⟩
 ·exact keep b o (neL b o e) hb (neC b o e hx) (I.base.keep b o e n hb hx) (I.base.free b o e n hx)
 ·obtain⟨sl,e1⟩:=I.base.slot b o e n hb hx
  obtain⟨sl',e2⟩:=slot b _ (neL b o e) hb (neC b o e hx) e1 (I.base.free b o e n hx)
  exact⟨sl',e2⟩
 ·obtain⟨o',e1⟩:=I.base.there b o e hx
  exact free b o' (neC b o e hx) e1 (I.base.free b o e n hx)
 ·obtain⟨o',e1⟩:=I.base.there b o e hx
  exact there b o' (neC b o e hx) e1
 ·obtain⟨m1,e1⟩:=I.base.tbls b ps e
  obtain⟨m2,e2⟩:=tbls b _ e1
  exact⟨m1++m2,by rw[e2,abS]⟩
 ·obtain⟨m,hn,hl⟩:=I.loc
  refine⟨m,ns m hn,λi x v e1 e2 e3=>?_⟩
  obtain⟨u,r,l⟩:=hl i x v e1 e2 e3
  refine⟨u,r,?_⟩
  rcases l with l | ⟨k,c,e,z⟩
  ·exact .inl l
  ·exact .inr ⟨k,c,e,cellK x c e _ z⟩
 ·obtain⟨v,z⟩:=I.cell x c e
  exact⟨v,cellK x c e v z⟩
 ·obtain⟨m,⟨o,_,_,ho,_⟩,_⟩:=I.loc
  exact free _ o (λz=>(hch _ z).2.1 rfl) ho I.free
 ·obtain⟨v,o,ho,hd⟩:=I.cell x c e
  exact free c o (λz=>(hch c z).2.2.1 x c e rfl) ho (I.freeC x c e)
 ·obtain⟨e,n,ne,nf,d⟩:=I.pin p hp
  have nch:p.1∉ch:=λz=>(hch p.1 z).2.2.2 p hp rfl
  exact⟨keep p.1 p.2 ne nf nch e n,free p.1 p.2 nch e n,ne,nf,d⟩
theorem Inv.un{t':Nat}(I:Inv X pins σ H s)(u:Un X.fs [] H H' s.heap h')(hok:HOk X.prog X.w H' h'):Inv X pins σ H' { s with heap:=h',toks:=t' }:=by
 obtain⟨m,⟨o,es,ep,ho,r⟩,_⟩:=id I.loc
 obtain⟨sl,hL⟩:=u.any ho I.free (by simp)
 exact I.step (g':=s.gens) (d':=s.drawn) (ch:=[]) (λ_ z=>nomatch z) (λb o _ hb _ e n=>u.keep b o e n hb (by simp)) (λb o _ hb _ e n=>u.slot b o e n hb (by simp)) (λb o _ e n=>u.free b o e n (by simp)) (λb o _ e=>u.there b o e (by simp)) u.tups u.frzs u.tbls (λm' hm=>by
  obtain⟨o',es',ep',ho',r'⟩:=hm
  rw[ho] at ho';cases ho'
  exact⟨_,es',ep',hL,r'⟩) hok I.bare
theorem Inv.call{t':Nat}{d':Drawn}(I:Inv X pins σ H s)(u:Un (tK X.stack) ch H H' s.heap h')(hok:HOk X.prog X.w H' h')(hg:AllBare g')
  (hch:∀ b∈ch,(b∈X.ex\/X.s₀.heap.objs.size<=b)/\b≠X.env.locals/\(∀ x c,X.env.cells.lookup x=U c->c≠b)/\∀ p∈X.pn++pins,p.1≠b) :
  Inv X pins σ H' { s with heap:=h',gens:=g',drawn:=d',toks:=t' }:=by
 obtain⟨m,⟨o,es,ep,ho,r⟩,_⟩:=id I.loc
 obtain⟨sl,hL⟩:=u.any ho I.free λz=>(hch _ z).2.1 rfl
 exact I.step (ch:=ch) hch (λb o hL hb hc e n=>u.keep b o e n (λz=>(XD.mp (I.stkSub b z)).elim hL hb) hc) (λb o _ _ hc e n=>u.any e n hc) (λb o hc e n=>u.free b o e n hc) (λb o hc e=>u.there b o e hc) u.tups u.frzs u.tbls (λm' hm=>by
  obtain⟨o',es',ep',ho',r'⟩:=hm
  rw[ho] at ho';cases ho'
  exact⟨_,es',ep',hL,r'⟩) hok hg
theorem Inv.turned{t':Nat}{it:td}(I:Inv X pins σ H s)(k:∀ b o,b≠it->s.heap.get? b=U o->h'.get? b=U o)(hn:H it=Y)(hL:it≠X.env.locals)
  (h1:it∈X.ex\/X.s₀.heap.objs.size<=it) (h2:∀ x c,X.env.cells.lookup x=U c->c≠it) (h3:∀ p∈X.pn++pins,p.1≠it):Inv X pins σ H { s with heap:=h',toks:=t' }:=by
 have nit:∀ b u,H b=U u->b≠it:=λb u e z=>by rw[z,hn] at e;cases e
 refine I.step (g':=s.gens) (d':=s.drawn) (ch:=[it]) (λb hb=>?_) (λb o _ _ hc e _=>k b o (λz=>hc (by simp[z])) e) (λb o _ _ hc e _=>⟨o.slots,k b o (λz=>hc (by simp[z])) e⟩) (λ_ _ _ _ n=>n)
  (λb o hc e=>⟨o,k b o (λz=>hc (by simp[z])) e⟩) (λ_ _ e=>e) (λ_ _ _ e=>e) (λb ps e=>⟨#[],by rw[e];simp⟩) (λm hm=>?_) (λb u e=>?_) I.bare
 ·have e:b=it:=by simpa using hb
  subst e
  exact⟨h1,hL,h2,h3⟩
 ·obtain⟨o,es,ep,ho,r⟩:=hm
  exact⟨o,es,ep,k _ o (Ne.symm hL) ho,r⟩
 ·refine(I.hok b u e).stay (λc v hc q=>k c v ?_ q) (λ_ q=>q) λ_ _ q=>q
  rcases hc with z | z
  ·rw[z];exact nit b u e
  ·exact nit c _ z
theorem Inv.tok(I:Inv X pins σ H s)(t:Nat):Inv X pins σ H { s with toks:=t }:=I.un (h':=s.heap) (t':=t) Un.refl I.hok
theorem Inv.kept{t':Nat}(I:Inv X pins σ H s)(k:∀ b u,s.heap.get? b=U u->h'.get? b=U u):Inv X pins σ H { s with heap:=h',toks:=t' }:=I.un (Un.kept k) (I.hok.kept k)
theorem Inv.laid{a:td}{t':Nat}(I:Inv X pins σ H s)(k:∀ b u,s.heap.get? b=U u->h'.get? b=U u)(hp:s.heap.objs.size<=a)(new:ObjOk X.prog X.w (upd H a o) h' a o) :
  Inv X pins σ (upd H a o) { s with heap:=h',toks:=t' }:=I.un (Un.laid k hp (I.hok.fresh hp)) (I.hok.laid k hp new)
theorem Inv.write{e:td}{t':Nat}(I:Inv X pins σ H s)(mu:Mut (H x))(he:e=x\/H e=U (.own x))(k:∀ b u,b≠e->s.heap.get? b=U u->h'.get? b=U u)(heo:∃ u,h'.get? e=U u)
  (new:ObjOk X.prog X.w (upd H x o) h' x o):Inv X pins σ (upd H x o) { s with heap:=h',toks:=t' }:=I.un (Un.write mu he k heo) (I.hok.write mu he k heo new)
theorem Inv.pins_of{pins':List (td×Obj)}(I:Inv X pins σ H s)(h:∀ p∈pins',s.heap.get? p.1=U p.2/\H p.1=Y/\p.1≠X.env.locals/\p.1∉X.fs/\∀ v,p.2.data≠.cell v):Inv X pins' σ H s:=
 ⟨I.ok,I.os,I.bare,I.base,I.loc,I.cell,I.free,I.freeC,λp hp=>(Xx.mp hp).elim (λz=>I.pin p (Yd _ z)) (h p),I.hok,I.len⟩
theorem sB{N:List Str}(hN:N.Nodup){i j:Nat}{x:Str}(a:N[i]?=U x)(b:N[j]?=U x):i=j:=by
 obtain⟨h1,e1⟩:=Xe.mp a
 obtain⟨h2,e2⟩:=Xe.mp b
 exact(List.getElem_inj hN).mp (e1.trans e2.symm)
theorem vw{A:IN}{i:Nat}{x:Str}{Q:Unit->gV->Prop}(I:Inv X pins σ H s)(hN:X.N.Nodup)(hi:X.N[i]?=U x)(hx:Gi X.env.scope x)(r:RelV v u)
  (h:∀ s',Inv X pins (σ.set i (U v)) H s'->(∃ a,Heap.SameBut a s.heap s'.heap/\(a=X.env.locals\/X.env.cells.lookup x=U a))->Q () s') (hf:X.fn x=true\/X.env.scope.names.lookup x=U .local:=by first | exact .inl rfl | exact .inr rfl | assumption):Qs M A (storeName X.env x u) Q E s:=by
 obtain⟨m,hn,hl⟩:=id I.loc
 have hcls:(X.env.scope.kind==.class||(X.env.scope.kind==.module&&X.env.locals != X.env.globals))=false:=by rw[I.ok.kind];rfl
 have hiσ:i < σ.length:=by rw[I.len];exact(Xe.mp hi).1
 have cne:=I.cne
 have tracked:∀ {a:td} {h':Jq},(∃ o,s.heap.get? a=U o/\H a=Y)->Heap.SameBut a s.heap h'->HOk X.prog X.w H h':=λ{a h'} ha hs b ob e=>by
  obtain⟨_,_,hfree⟩:=ha
  refine(I.hok b ob e).stay (λc w' hc q=>(hs.2 c ?_).trans q) (λ_ q=>q) λ_ _ q=>q
  rintro rfl
  rcases hc with rfl | hc
  ·rw[hfree] at e;cases e
  ·rw[hfree] at hc;cases hc
 rcases hx with hk | hk
 ·refine wpAny_storeName_local hk hn (λh' hn' hs=>?_) hcls
  obtain⟨oL,_,_,hoL,_⟩:=id hn
  refine h _ ⟨I.ok,I.os,I.bare,⟨λb o e n hb hx=>?_,λb o e n hb hx=>?_,I.base.free,λb o e hx=>?_,I.base.tups,I.base.frzs,I.base.tbls⟩,⟨_,hn',λj y v' e1 e2 e3=>?_⟩,λy c e=>?_,I.free,I.freeC,λp hp=>?_,tracked ⟨oL,hoL,I.free⟩ hs,by simpa using I.len⟩ ⟨_,hs,.inl rfl⟩
  ·exact(hs.2 b (XT (XB (Xo e) I.ok.above))).trans (I.base.keep b o e n hb hx)
  ·obtain⟨sl,e1⟩:=I.base.slot b o e n hb hx
   exact⟨sl,(hs.2 b (XT (XB (Xo e) I.ok.above))).trans e1⟩
  ·obtain⟨o',e1⟩:=I.base.there b o e hx
   exact⟨o',(hs.2 b (XT (XB (Xo e) I.ok.above))).trans e1⟩
  ·by_cases hj:j=i
   ·subst hj
    rw[hi] at e1;cases e1
    rw[XF hiσ] at e2
    cases e2
    exact⟨u,r,.inl ⟨hk,by simp⟩⟩
   ·rw[XE (Ne.symm hj)] at e2
    obtain⟨u',r',q⟩:=hl j y v' e1 e2 e3
    refine⟨u',r',?_⟩
    rcases q with ⟨k,e⟩ | ⟨k,c,e,z⟩
    ·refine .inl ⟨k,?_⟩
     have:y≠x:=λe=>hj (sB hN e1 (e ▸ hi))
     simp[this,e]
    ·exact .inr ⟨k,c,e,z.sameBut hs (cne y c e)⟩
  ·obtain⟨w',z⟩:=I.cell y c e
   exact⟨w',z.sameBut hs (cne y c e)⟩
  ·obtain⟨e,n,ne,nf,d⟩:=I.pin p hp
   exact⟨(hs.2 p.1 ne).trans e,n,ne,nf,d⟩
 ·have hfn:X.fn x=true:=by
   rcases hf with z | z
   ·exact z
   ·rw[z] at hk;cases hk
  obtain⟨c,hc⟩:=I.ok.has x (.inl hk)
  obtain⟨w',z⟩:=I.cell x c hc
  refine wpAny_storeName_cell I.ok.kind hk hc z (λh' hc' hs=>?_)
  obtain⟨oc,hoc,hocd⟩:=id z
  refine h { s with heap:=h' } ⟨I.ok,I.os,I.bare,⟨λb o e n hb hx=>?_,λb o e n hb hx=>?_,I.base.free,λb o e hx=>?_,I.base.tups,I.base.frzs,I.base.tbls⟩,⟨m,hn.sameBut hs (Ne.symm (cne x c hc)),λj y v' e1 e2 e3=>?_⟩,λy c' e=>?_,I.free,I.freeC,λp hp=>?_,tracked ⟨oc,hoc,I.freeC x c hc⟩ hs,by simpa using I.len⟩ ⟨c,hs,.inr hc⟩
  ·exact(hs.2 b (XT (XB (Xo e) (I.ok.cab x c hfn hc)))).trans (I.base.keep b o e n hb hx)
  ·obtain⟨sl,e1⟩:=I.base.slot b o e n hb hx
   exact⟨sl,(hs.2 b (XT (XB (Xo e) (I.ok.cab x c hfn hc)))).trans e1⟩
  ·obtain⟨o',e1⟩:=I.base.there b o e hx
   exact⟨o',(hs.2 b (XT (XB (Xo e) (I.ok.cab x c hfn hc)))).trans e1⟩
  ·by_cases hj:j=i
   ·subst hj
    rw[hi] at e1;cases e1
    rw[XF hiσ] at e2
    cases e2
    exact⟨u,r,.inr ⟨.inl hk,c,hc,hc'⟩⟩
   ·rw[XE (Ne.symm hj)] at e2
    obtain⟨u',r',q⟩:=hl j y v' e1 e2 e3
    refine⟨u',r',?_⟩
    rcases q with q | ⟨k,c',e,z'⟩
    ·exact .inl q
    ·refine .inr ⟨k,c',e,z'.sameBut hs ?_⟩
     rintro rfl
     exact hj (sB hN e1 (I.ok.inj _ _ _ e hc ▸ hi))
  ·by_cases hcc:c'=c
   ·subst hcc;exact⟨_,hc'⟩
   ·obtain⟨w2,z2⟩:=I.cell y c' e
    exact⟨w2,z2.sameBut hs hcc⟩
  ·obtain⟨e,n,ne,nf,d⟩:=I.pin p hp
   refine⟨(hs.2 p.1 ?_).trans e,n,ne,nf,d⟩
   intro q
   rw[q,hoc] at e
   have q':oc=p.2:=XC e
   exact d w' (by rw[<- q'];exact hocd)
theorem gN{A:IN}{i:Nat}{x:Str}{Q:Unit->gV->Prop}(I:Inv X pins σ H s)(hN:X.N.Nodup)(hi:X.N[i]?=U x)(hx:Gi X.env.scope x)(r:RelV v u)
  (h:∀ s',Inv X pins (σ.set i (U v)) H s'->Q () s') (hf:X.fn x=true\/X.env.scope.names.lookup x=U .local:=by first | exact .inl rfl | exact .inr rfl | assumption):Qs M A (storeName X.env x u) Q E s:=
 vw I hN hi hx r (λs' I' _=>h s' I') hf
theorem Inv.call'{s':gV}(I:Inv X pins σ H s)(ho:s'.os=s.os)(u:Un (tK X.stack) ch H H' s.heap s'.heap)(hok:HOk X.prog X.w H' s'.heap)(hg:AllBare s'.gens)
  (hch:∀ b∈ch,(b∈X.ex\/X.s₀.heap.objs.size<=b)/\b≠X.env.locals/\(∀ x c,X.env.cells.lookup x=U c->c≠b)/\∀ p∈X.pn++pins,p.1≠b):Inv X pins σ H' s':=by
 obtain⟨h',g',d',t',o'⟩:=s'
 have e:o'=s.os:=ho
 subst e
 exact I.call (g':=g') (t':=t') (d':=d') u hok hg hch
end
noncomputable abbrev XK:=bd->Option td->Hp->Prop
noncomputable abbrev St:=List (Option V)
noncomputable abbrev VK:=V->Hp->Prop
noncomputable abbrev TE:=St->Hp->VK->Prop
noncomputable abbrev TT:=St->Hp->(Bool->Hp->Prop)->Prop
noncomputable abbrev TA:=St->Hp->(List V->Hp->Prop)->Prop
structure oh where
 nx:St->Hp->Prop
 rt:VK
 bk:St->Hp->Prop:=λ_ _=>False
 ct:St->Hp->Prop:=λ_ _=>False
noncomputable abbrev TS:=oh->St->Hp->Prop
def EP(X:Cx)(pins:List (td×Obj))(σ:St)(Q:VK)(u:bd)(s':gV):Prop:=∃ v H',Inv X pins σ H' s'/\RelV v u/\Q v H'
def TP(X:Cx)(pins:List (td×Obj))(σ:St)(Q:Bool->Hp->Prop)(b:Bool)(s':gV):Prop:=∃ H',Inv X pins σ H' s'/\Q b H'
def AP(X:Cx)(pins:List (td×Obj))(σ:St)(Q:List V->Hp->Prop)(us:List bd)(s':gV):Prop:=∃ vs H',Inv X pins σ H' s'/\Vals vs us/\Q vs H'
def SP(X:Cx)(pins:List (td×Obj))(D:oh)(f:Flow)(s':gV):Prop:=
 match f with
 | .next=>∃ σ' H',Inv X pins σ' H' s'/\D.nx σ' H'
 | .brk=>∃ σ' H',Inv X pins σ' H' s'/\D.bk σ' H'
 | .cont=>∃ σ' H',Inv X pins σ' H' s'/\D.ct σ' H'
 | .ret u=>∃ v σ' H',Inv X pins σ' H' s'/\RelV v u/\D.rt v H'
def PE(X:Cx)(e:tx)(t:TE):Prop:=
 ∀ (pins:List (td×Obj)) (s:gV) (σ:St) (H:Hp) (Q:VK),Inv X pins σ H s->t σ H Q->Qs (model X.prog X.w) X.A (eval e X.env) (EP X pins σ Q) X.xe s
def PT(X:Cx)(e:tx)(t:TT):Prop:=
 ∀ (pins:List (td×Obj)) (s:gV) (σ:St) (H:Hp) (Q:Bool->Hp->Prop),Inv X pins σ H s->t σ H Q->Qs (model X.prog X.w) X.A (isTrue e X.env (eval e X.env)) (TP X pins σ Q) X.xe s
def PW(X:Cx)(e:tx)(t:TT):Prop:=
 ∀ (whole:Sem bd) (pins:List (td×Obj)) (s:gV) (σ:St) (H:Hp) (Q:Bool->Hp->Prop),Inv X pins σ H s->t σ H Q->Qs (model X.prog X.w) X.A (isTrue e X.env whole) (TP X pins σ Q) X.xe s
theorem PW.pt(h:PW X e t):PT X e t:=h _
def PA(X:Cx)(es:List tx)(t:TA):Prop:=
 ∀ (pos:Pos) (pins:List (td×Obj)) (s:gV) (σ:St) (H:Hp) (Q:List V->Hp->Prop),Inv X pins σ H s->t σ H Q->Qs (model X.prog X.w) X.A (spliced (backTo pos (KZ es X.env))) (AP X pins σ Q) X.xe s
def PS(X:Cx)(st:He)(t:TS):Prop:=
 ∀ (pins:List (td×Obj)) (s:gV) (σ:St) (H:Hp) (D:oh),Inv X pins σ H s->t D σ H->Qs (model X.prog X.w) X.A (exec st X.env) (SP X pins D) X.xe s
def PSs(X:Cx)(st:List He)(t:TS):Prop:=
 ∀ (pins:List (td×Obj)) (s:gV) (σ:St) (H:Hp) (D:oh),Inv X pins σ H s->t D σ H->Qs (model X.prog X.w) X.A (execs st X.env) (SP X pins D) X.xe s
theorem dA{α:Type}{t:Sem α}{Q Q':α->gV->Prop}{M:Model}{A:IN}{E:bd->gV->Prop}{s:gV}(h:Qs M A t Q E s)(hQ:∀ a s,Q a s->Q' a s):Qs M A t Q' E s:=XQ h hQ λ_ _ x=>x
section
variable{X:Cx}
def tVar(i:Nat):TE:=λσ H Q=>∃ v,σ[i]?=U (U v)/\Q v H
def tC(v:V):TE:=λ_ H Q=>Q v H
theorem Ka{i:Nat}{x:Str}(hN:X.N[i]?=U x)(hv:Tf X.env.scope x)(hd:(x==("__debug__":Str))=false:=by decide)(hcd:(x==("__classdict__":Str))=false:=by decide):PE X (.Name x pos) (tVar i):=by
 intro pins s σ H Q I h
 obtain⟨v,e,h⟩:=h
 obtain⟨m,hn,hl⟩:=I.loc
 obtain⟨u,r,l⟩:=hl i x v hN e hv
 have fin:EP X pins σ Q u s:=⟨v,H,I,r,h⟩
 rcases l with ⟨hk,hm⟩ | ⟨hk,c,hc,hcell⟩
 ·exact wpAny_Name (abt I.ok.kind hk hn hm fin) hd
 ·rcases hk with hk | hk
  ·exact wpAny_Name (abz I.ok.kind hk hc hcell fin) hd
  ·exact wpAny_Name (wpAny_loadName_free I.ok.kind hk hc hcell fin hcd) hd
theorem Ug{i j pos}:PE X (.Constant (.int i) j pos) (tC (.int i)):=λ_ _ _ H _ I h=>wpAny_Constant_int ⟨.int i,H,I.tok _,⟨_,rfl⟩,h⟩
theorem pe_bl{b j pos}:PE X (.Constant (.bool b) j pos) (tC (.bl b)):=λ_ _ _ H _ I h=>Constant_bool ⟨.bl b,H,I,rfl,h⟩
theorem Uf{j pos}:PE X (.Constant .none j pos) (tC .non):=λ_ _ _ H _ I h=>Constant_none ⟨.non,H,I,rfl,h⟩
theorem Uc{x j pos}:PE X (.Constant (.str x) j pos) (tC (.str x)):=λ_ _ _ H _ I h=>abQ ⟨.str x,H,I.tok _,⟨_,rfl⟩,h⟩
def Gl(X:Cx)(x:Str):Prop:=X.env.kindOf x=U .globalImplicit
theorem oR{s:gV}{u:bd}{Q:bd->gV->Prop}(I:Inv X pins σ H s)(hg:Gl X x)(hm:X.mg x=U u)(h:Q u s)
  (hd:(x==("__debug__":Str))=false:=by decide):Qs (model X.prog X.w) X.A (eval (.Name x pos) X.env) Q E s:=
 ZC I.ok.kind hg (abe (by rw[I.ok.glob];exact I.mod.glob.keeps I.bk) hm h) hd
theorem nJ{s:gV}{u:bd}{Q:bd->gV->Prop}(I:Inv X pins σ H s)(hg:Gl X x)(hm:X.mg x=Y)(hv:bootBuiltins x=U u)(h:Q u s)
  (hn:x≠"__name__":=by decide) (hd:(x==("__debug__":Str))=false:=by decide):Qs (model X.prog X.w) X.A (eval (.Name x pos) X.env) Q E s:=by
 obtain⟨mb,h1,h2⟩:=I.mod.blt
 exact ZC I.ok.kind hg (Calls.loadGlobal_builtin (by rw[I.ok.glob];exact I.mod.glob.keeps I.bk) hm (by rw[I.ok.blt];exact h1.keeps I.bk) ((h2 x hn).trans hv) h) hd
theorem rm{u:bd}(hg:Gl X x)(hm:X.mg x=U u)(r:RelV v u)(hd:(x==("__debug__":Str))=false:=by decide):PE X (.Name x pos) (tC v):=
 λ_ _ _ H _ I h=>oR I hg hm ⟨v,H,I,r,h⟩ hd
theorem EA{u:bd}(hg:Gl X x)(hm:X.mg x=Y)(hv:bootBuiltins x=U u)(r:RelV v u)(hn:x≠"__name__":=by decide)(hd:(x==("__debug__":Str))=false:=by decide):PE X (.Name x pos) (tC v):=
 λ_ _ _ H _ I h=>nJ I hg hm hv ⟨v,H,I,r,h⟩ hn hd
variable{a b:tx}{ta tb:TE}{pos:Pos}
variable{tA tB':TT}{rest:List tx}
def tAnd(t u:TT):TT:=λσ H Q=>t σ H λc H1=>if c=true then u σ H1 Q else Q false H1
def tOr(t u:TT):TT:=λσ H Q=>t σ H λc H1=>if c=true then Q true H1 else u σ H1 Q
def tNot(t:TT):TT:=λσ H Q=>t σ H λc H1=>Q (!c) H1
theorem OZ(ha:PT X a tA):PW X (.BoolOp .And [a] pos) tA:=by
 intro wh pins s σ H Q I h
 refine isTrue_and (dA (ha pins s σ H Q I h) λc s1 e=>?_)
 cases c with
 | true=>exact isTrue_and_nil e
 | false=>exact e
theorem TM(ha:PT X a tA):PW X (.BoolOp .Or [a] pos) tA:=by
 intro wh pins s σ H Q I h
 refine isTrue_or (dA (ha pins s σ H Q I h) λc s1 e=>?_)
 cases c with
 | false=>exact isTrue_or_nil e
 | true=>exact e
theorem TN(ha:PT X a tA)(hb:PW X (.BoolOp .And (b::rest) pos) tB'):PW X (.BoolOp .And (a::b::rest) pos) (tAnd tA tB'):=by
 intro wh pins s σ H Q I h
 refine isTrue_and (dA (ha pins s σ H _ I h) λc s1 ⟨H1,I1,q1⟩=>?_)
 cases c with
 | true=>exact hb wh pins s1 σ H1 Q I1 q1
 | false=>exact⟨H1,I1,q1⟩
theorem pw_or(ha:PT X a tA)(hb:PW X (.BoolOp .Or (b::rest) pos) tB'):PW X (.BoolOp .Or (a::b::rest) pos) (tOr tA tB'):=by
 intro wh pins s σ H Q I h
 refine isTrue_or (dA (ha pins s σ H _ I h) λc s1 ⟨H1,I1,q1⟩=>?_)
 cases c with
 | true=>exact⟨H1,I1,q1⟩
 | false=>exact hb wh pins s1 σ H1 Q I1 q1
theorem TQ(ha:PT X a tA):PT X (.UnaryOp .Not a pos) (tNot tA):=by
 intro pins s σ H Q I h
 exact isTrue_not (ha pins s σ H (λc H1=>Q (!c) H1) I h)
theorem Ue{op}(h:PE X a t):PE X (.BoolOp op [a] pos) t:=λpins s σ H Q I hw=>BoolOp_one (h pins s σ H Q I hw)
def tIf(t:TT)(ta tb:TE):TE:=λσ H Q=>t σ H λc H1=>if c=true then ta σ H1 Q else tb σ H1 Q
theorem Ke(hc:PT X c tA)(ha:PE X a ta)(hb:PE X b tb):PE X (.IfExp c a b pos) (tIf tA ta tb):=by
 intro pins s σ H Q I h
 refine wpAny_IfExp (dA (hc pins s σ H _ I h) λd s1 ⟨H1,I1,q1⟩=>?_)
 cases d with
 | true=>exact ha pins s1 σ H1 Q I1 q1
 | false=>exact hb pins s1 σ H1 Q I1 q1
end
def mT(K:QF)(H:Hp)(a:td)(xs:List V):Prop:=
 Rd H a (.lst xs) \/
  ∃ (o:Obj) (its:Array bd) (n:Nat),K.lookup a=U o/\o.cls=.type "list"/\o.dict=Y/\o.data=.seq its n/\its.size<=KY/\Vals xs its.toList
def lv(K:QF)(H:Hp)(a:td)(xs:List V):Prop:=
 Rd H a (.tup xs) \/
  ∃ (o:Obj) (its:Array bd) (n:Nat),K.lookup a=U o/\o.cls=.type "tuple"/\o.dict=Y/\o.data=.seq its n/\its.size<=KY/\Vals xs its.toList
def absV:bd->Option V
 | .none=>U .non
 | .bool b=>U (.bl b)
 | .int i _=>U (.int i)
 | .str x _=>U (.str x)
 | .bytes b _=>U (.byt b)
 | .float b _=>U (.flt b)
 | .ref a=>U (.ref a)
 | .type n=>U (.ty n)
 | _=>Y
theorem RelV.abs(r:RelV x u):absV u=U x:=by
 cases x with
 | non=>cases r;rfl
 | bl _=>cases r;rfl
 | int _=>obtain⟨t,rfl⟩:=r;rfl
 | str _=>obtain⟨t,rfl⟩:=r;rfl
 | byt _=>obtain⟨t,rfl⟩:=r;rfl
 | flt _=>obtain⟨t,rfl⟩:=r;rfl
 | ref _=>cases r;rfl
 | ty _=>cases r;rfl
theorem RelV.inj(r:RelV x u)(q:RelV y u):x=y:=XC (r.abs.symm.trans q.abs)
theorem Vals.inj:∀ {xs ys:List V} {us:List bd},Vals xs us->Vals ys us->xs=ys
 | _,_,_,.nil,.nil=>rfl
 | _,_,_,.cons r t,.cons r' t'=>by rw[r.inj r',Vals.inj t t']
section
variable{X:Cx}{pins:List (td×Obj)}{σ:St}{H:Hp}{s:gV}{a:td}{xs ys:List V}
theorem Inv.list(I:Inv X pins σ H s)(h:mT X.K H a xs):∃ its:List bd,Vals xs its/\PlainL s.heap a its.toArray/\xs.length<=KY:=by
 rcases h with h | ⟨o,its,n,hk,hc,hd,hs,hz,r⟩
 ·obtain⟨z,its,n,r,e⟩:=h.ok I.hok
  exact⟨its,r,⟨_,n,e,rfl,rfl,rfl⟩,z⟩
 ·refine⟨its.toList,r,⟨o,n,I.kIn a o hk,hc,hd,by simpa using hs⟩,?_⟩
  have e:=r.length
  simp only[ZB] at e
  omega
theorem Inv.tuple(I:Inv X pins σ H s)(h:lv X.K H a xs):∃ its:List bd,Vals xs its/\IsTup s.heap a its.toArray/\xs.length<=KY:=by
 rcases h with h | ⟨o,its,n,hk,hc,hdn,hs,hz,r⟩
 ·obtain⟨z,its,r,p⟩:=h.ok I.hok
  exact⟨its,r,p.up,z⟩
 ·refine⟨its.toList,r,⟨o,I.kIn a o hk,hc,n,by simpa using hs⟩,?_⟩
  have e:=r.length
  simp only[ZB] at e
  omega
theorem Inv.list_inj(I:Inv X pins σ H s)(h:mT X.K H a xs)(h':mT X.K H a ys):xs=ys:=by
 obtain⟨its,r,⟨o,n,e,_,_,d⟩,_⟩:=I.list h
 obtain⟨its',r',⟨o',n',e',_,_,d'⟩,_⟩:=I.list h'
 rw[e] at e';cases e'
 rw[d] at d'
 injection d' with d1 _
 have:its=its':=by simpa using congrArg Array.toList d1
 subst this
 exact r.inj r'
theorem Inv.tuple_inj(I:Inv X pins σ H s)(h:lv X.K H a xs)(h':lv X.K H a ys):xs=ys:=by
 obtain⟨its,r,⟨o,e,_,n,d⟩,_⟩:=I.tuple h
 obtain⟨its',r',⟨o',e',_,n',d'⟩,_⟩:=I.tuple h'
 rw[e] at e';cases e'
 rw[d] at d'
 injection d' with d1 _
 have:its=its':=by simpa using congrArg Array.toList d1
 subst this
 exact r.inj r'
end
noncomputable abbrev Cx.wish(X:Cx)(E:bd->gV->Prop):Cx:={ X with xe:=E }
noncomputable abbrev Cx.nox(X:Cx):Cx:=X.wish λ_ _=>False
theorem Cx.Ok.wish{X:Cx}(ok:X.Ok)(E:bd->gV->Prop):(X.wish E).Ok:=
 ⟨ok.mod,ok.kind,ok.glob,ok.blt,ok.above,ok.inj,ok.has,ok.cab,ok.hd,ok.frames,ok.stk,ok.exf,ok.bs,ok.bsz,ok.noex,ok.exfs,ok.funs,ok.frf⟩
theorem Cx.Ok.unwish{X:Cx}(ok:(X.wish E).Ok):X.Ok:=
 ⟨ok.mod,ok.kind,ok.glob,ok.blt,ok.above,ok.inj,ok.has,ok.cab,ok.hd,ok.frames,ok.stk,ok.exf,ok.bs,ok.bsz,ok.noex,ok.exfs,ok.funs,ok.frf⟩
section
variable{X:Cx}{pins:List (td×Obj)}{σ:St}{H:Hp}{s:gV}{E:bd->gV->Prop}
theorem Inv.wish(I:Inv X pins σ H s)(E:bd->gV->Prop):Inv (X.wish E) pins σ H s:=⟨I.ok.wish E,I.os,I.bare,I.base,I.loc,I.cell,I.free,I.freeC,I.pin,I.hok,I.len⟩
theorem Inv.unwish(I:Inv (X.wish E) pins σ H s):Inv X pins σ H s:=⟨I.ok.unwish,I.os,I.bare,I.base,I.loc,I.cell,I.free,I.freeC,I.pin,I.hok,I.len⟩
theorem SP.unwish{D:oh}(h:SP (X.wish E) pins D f s'):SP X pins D f s':=by
 cases f with
 | next=>obtain⟨σ',H',I,q⟩:=h;exact⟨σ',H',I.unwish,q⟩
 | brk=>obtain⟨σ',H',I,q⟩:=h;exact⟨σ',H',I.unwish,q⟩
 | cont=>obtain⟨σ',H',I,q⟩:=h;exact⟨σ',H',I.unwish,q⟩
 | ret u=>obtain⟨v,σ',H',I,r,q⟩:=h;exact⟨v,σ',H',I.unwish,r,q⟩
theorem PSs.nox{st:List He}(h:PSs X.nox st t):PSs X st t:=λpins s σ H D I hw=>
 XQ (h pins s σ H D (I.wish _) hw) (λ_ _ q=>q.unwish) λ_ _ z=>False.elim z
end
section
variable{X:Cx}{st:He}{rest:List He}{t u:TS}{e:tx}{te:TE}{pos:Pos}
def Jk:TS:=λD σ H=>D.nx σ H
def tSeq(t u:TS):TS:=λD σ H=>t { D with nx:=u D } σ H
theorem Pd:PSs X [] Jk:=λ_ _ σ H _ I h=>Zn ⟨σ,H,I,h⟩
theorem sf(h1:PS X st t)(h2:PSs X rest u):PSs X (st::rest) (tSeq t u):=by
 intro pins s σ H D I h
 refine aay (dA (h1 pins s σ H { D with nx:=u D } I h) λf s1 q=>?_)
 cases f with
 | next=>
  obtain⟨σ',H',I',q⟩:=q
  exact h2 pins s1 σ' H' D I' q
 | ret v=>exact q
 | brk=>exact q
 | cont=>exact q
theorem xi(h1:PS X st t):PSs X [st] t:=by
 intro pins s σ H D I h
 refine aay (dA (h1 pins s σ H D I h) λf s1 q=>?_)
 cases f with
 | next=>exact Zn q
 | ret v=>exact q
 | brk=>exact q
 | cont=>exact q
def Tz:TS:=λD σ H=>D.bk σ H
def tCont:TS:=λD σ H=>D.ct σ H
theorem Ph:PS X (.Pass pos) Jk:=λ_ _ σ H _ I h=>wpAny_Pass ⟨σ,H,I,h⟩
theorem JW:PS X (.Break pos) Tz:=λ_ _ σ H _ I h=>wpAny_Break ⟨σ,H,I,h⟩
theorem zK:PS X (.Continue pos) tCont:=λ_ _ σ H _ I h=>wpAny_Continue ⟨σ,H,I,h⟩
theorem Inv.quiet{s:gV}(I:Inv X pins σ H s):interactive X.env=false:=by simp[interactive,I.ok.kind]
theorem TV{x j pos pos'}:PS X (.Expr (.Constant (.str x) j pos) pos') Jk:=λ_ s σ H _ I h=>wpAny_Expr (abQ (show SP X _ _ .next { s with toks:=s.toks+1 } from ⟨σ,H,I.tok _,h⟩)) I.quiet
def tDrop(te:TE):TS:=λD σ H=>te σ H λ_ H1=>D.nx σ H1
theorem Pi(he:PE X e te)(hs:swapsWith e Y pos.line X.env=pure false:=by rfl):PS X (.Expr e pos) (tDrop te):=by
 intro pins s σ H D I h
 exact wpAny_Expr_any (dA (he pins s σ H _ I h) λv s1 ⟨x,H1,I1,r1,q1⟩=>⟨σ,H1,I1,q1⟩) I.quiet hs
def tRet(te:TE):TS:=λD σ H=>te σ H D.rt
theorem JU(he:PE X e te):PS X (.Return (U e) pos) (tRet te):=by
 intro pins s σ H D I h
 exact wpAny_Return_some (dA (he pins s σ H _ I h) λv s1 ⟨x,H1,I1,r1,q1⟩=>⟨x,σ,H1,I1,r1,q1⟩)
def tRetN:TS:=λD _ H=>D.rt .non H
theorem Pf:PS X (.Return Y pos) tRetN:=λ_ _ σ H _ I h=>wpAny_Return_none ⟨.non,σ,H,I,rfl,h⟩
def tIfS(c:TT)(t u:TS):TS:=λD σ H=>c σ H λb H1=>if b=true then t D σ H1 else u D σ H1
theorem Sk(hc:PT X c tc)(ha:PSs X a t)(hb:PSs X b u):PS X (.If c a b pos) (tIfS tc t u):=by
 intro pins s σ H D I h
 refine wpAny_If (dA (hc pins s σ H _ I h) λd s1 ⟨H1,I1,q1⟩=>?_)
 cases d with
 | true=>exact ha pins s1 σ H1 D I1 q1
 | false=>exact hb pins s1 σ H1 D I1 q1
end
noncomputable abbrev TG:=V->St->Hp->(St->Hp->Prop)->Prop
noncomputable abbrev Tg:=List V->St->Hp->(St->Hp->Prop)->Prop
def PG(X:Cx)(target:tx)(t:TG):Prop:=
 ∀ (pins:List (td×Obj)) (s:gV) (σ:St) (H:Hp) (v:V) (u:bd) (Q:St->Hp->Prop),Inv X pins σ H s->RelV v u->t v σ H Q ->
  Qs (model X.prog X.w) X.A (assign target X.env u) (λ_ s'=>∃ σ' H',Inv X pins σ' H' s'/\Q σ' H') X.xe s
def PGs(X:Cx)(ts:List tx)(t:Tg):Prop:=
 ∀ (pins:List (td×Obj)) (s:gV) (σ:St) (H:Hp) (vs:List V) (us:List bd) (Q:St->Hp->Prop),Inv X pins σ H s->Vals vs us->t vs σ H Q ->
  Qs (model X.prog X.w) X.A (assignInOrder ((assignEach ts X.env).map (·.2)) us) (λ_ s'=>∃ σ' H',Inv X pins σ' H' s'/\Q σ' H') X.xe s
noncomputable abbrev WQ:=V->V->V->Hp->(Hp->Prop)->Prop
def WV(X:Cx)(t:WQ):Prop:=
 ∀ (pins:List (td×Obj)) (s:gV) (σ:St) (H:Hp) (o i v:V) (ov iv u:bd) (Q:Hp->Prop),Inv X pins σ H s->RelV o ov->RelV i iv->RelV v u->t o i v H Q ->
  Qs (model X.prog X.w) X.A (setItem ov iv u) (λ_ s'=>∃ H',Inv X pins σ H' s'/\Q H') X.xe s
noncomputable abbrev TIp:=V->V->Hp->VK->Prop
def PIp(X:Cx)(op:Operator)(t:TIp):Prop:=
 ∀ (pins:List (td×Obj)) (s:gV) (σ:St) (H:Hp) (x y:V) (v u:bd) (Q:VK),Inv X pins σ H s->RelV x v->RelV y u->t x y H Q ->
  Qs (model X.prog X.w) X.A (inplaceOp op v u) (EP X pins σ Q) X.xe s
section
variable{X:Cx}{pos:Pos}
def FE(i:Nat):TG:=λv σ H Q=>Q (σ.set i (U v)) H
theorem Po{i:Nat}{x:Str}(hN:X.N.Nodup)(hi:X.N[i]?=U x)(hx:Gi X.env.scope x)(hf:X.fn x=true\/X.env.scope.names.lookup x=U .local:=by first | exact .inl rfl | exact .inr rfl | assumption):PG X (.Name x pos) (FE i):=by
 intro pins s σ H v u Q I r h
 exact wpAny_assign_Name (gN I hN hi hx r (λs' I'=>⟨_,H,I',h⟩) hf)
def gNil:Tg:=λvs σ H Q=>vs=[]/\Q σ H
def gCons(t:TG)(u:Tg):Tg:=λvs σ H Q=>∃ v r,vs=v::r/\t v σ H λσ' H'=>u r σ' H' Q
theorem Pn:PGs X [] gNil:=by
 intro pins s σ H vs us Q I r h
 obtain⟨e,h⟩:=h
 subst e
 cases r
 exact assignInOrder_nil ⟨σ,H,I,h⟩
theorem JY{e:tx}(h1:PG X e t)(h2:PGs X es u)
  (hs:(assignEach (e::es) X.env).map (·.2)=assign e X.env::(assignEach es X.env).map (·.2):=by rfl):PGs X (e::es) (gCons t u):=by
 intro pins s σ H vs us Q I r h
 obtain⟨v,vr,e1,h⟩:=h
 subst e1
 cases r with
 | cons r rr=>
  rw[hs]
  refine aad (dA (h1 pins s σ H _ _ _ I r h) λ_ s1 ⟨σ1,H1,I1,q1⟩=>?_)
  exact h2 pins s1 σ1 H1 _ _ Q I1 rr q1
def gTup(K:QF)(n:Nat)(t:Tg):TG:=λv σ H Q=>∃ a xs,v=.ref a/\lv K H a xs/\xs.length=n/\t xs σ H Q
theorem Ub{k:Nat}{n:Nat}(hc:X.calm=true)(h:PGs X es t)
  (hn:(assignEach es X.env).length=n:=by rfl) (hst:(assignEach es X.env).findIdx? (·.1)=Y:=by rfl):PG X (.Tuple es k pos) (gTup X.K n t):=by
 intro pins s σ H v u Q I r hw
 obtain⟨a,xs,e1,hq,hl,hw⟩:=hw
 subst e1
 cases r
 obtain⟨its,rv,ht,hz⟩:=I.tuple hq
 refine assign_Tuple_tuple (I.ok.hd hc) ht (by simp[hn,<- hl,rv.length]) hst λh' hx=>?_
 have I1:Inv X pins σ H { s with heap:=h' }:=I.kept (t':=s.toks) λb o e=>hx b o (XT (Xo e)) e
 exact h pins _ σ H xs _ Q I1 (by simpa using rv) hw
def gSub(to ti:TE)(t:WQ):TG:=λv σ H Q=>to σ H λo H1=>ti σ H1 λi H2=>t o i v H2 λH3=>Q σ H3
theorem JZ{to:TE}(ho:PE X o to)(hi:PE X i ti)(hs:WV X t)
  (ha:∀ v,assign (.Subscript o i pos) X.env v=(do
   let ov <- holding [v] (eval o X.env)
   let iv <- holding [v,ov] (eval i X.env)
   standAt pos
   holding [v,ov,iv] (setItem ov iv v)
   release [v,ov,iv] []):=by intro _;rfl):PG X (.Subscript o i pos) (gSub to ti t):=by
 intro pins s σ H v u Q I r h
 rw[ha]
 refine Xd (Yx (dA (ho pins s σ H _ I h) λov s1 ⟨x,H1,I1,r1,q1⟩=>?_))
 refine Xd (Yx (dA (hi pins s1 σ H1 _ I1 q1) λiv s2 ⟨y,H2,I2,r2,q2⟩=>?_))
 refine Xd (aab (Xd (Yx (dA (hs pins s2 σ H2 x y v ov iv u _ I2 r1 r2 r q2) λ_ s3 ⟨H3,I3,q3⟩=>?_))))
 exact wpAny_release ⟨σ,H3,I3,q3⟩
def Jn(te:TE)(g:TG):TS:=λD σ H=>te σ H λx H1=>g x σ H1 D.nx
theorem TX(he:PE X e te)(hg:PG X tg g)(hs:swapsWithSole [tg] e pos.line X.env=pure false:=by rfl)(hw:swappedStores [tg] e X.env=pure Y:=by rfl)
  (h1:(assignEach [tg] X.env).map (·.2)=[assign tg X.env]:=by rfl):PS X (.Assign [tg] e pos) (Jn te g):=by
 intro pins s σ H D I h
 refine wpAny_Assign_stores (dA (he pins s σ H _ I h) λv s1 ⟨x,H1,I1,r1,q1⟩=>?_) hs hw
 rw[h1]
 exact dA (hg pins s1 σ H1 x v _ I1 r1 q1) λ_ s2 q=>q
theorem JT{i:Nat}{x:Str}(hN:X.N.Nodup)(hi:X.N[i]?=U x)(hx:Gi X.env.scope x)(he:PE X e te)(hs:swapsWith e (U (.Name x pos')) pos.line X.env=pure false:=by rfl)(hf:X.fn x=true\/X.env.scope.names.lookup x=U .local:=by first | exact .inl rfl | exact .inr rfl | assumption) :
  PS X (.Assign [.Name x pos'] e pos) (Jn te (FE i)):=by
 intro pins s σ H D I h
 refine wpAny_Assign_Name (dA (he pins s σ H _ I h) λv s1 ⟨y,H1,I1,r1,q1⟩=>?_) hs
 exact gN I1 hN hi hx r1 (λs2 I2=>⟨_,H1,I2,q1⟩) hf
def tPar(i j:Nat)(ta:TA):TS:=λD σ H=>ta σ H λvs H1=>∃ v w,vs=[v,w]/\D.nx ((σ.set i (U v)).set j (U w)) H1
theorem TR{i j:Nat}{x y:Str}{a b:tx}{pt:Pos}{kt k2 pt2}(hc:X.calm=true)(hN:X.N.Nodup)(hi:X.N[i]?=U x)(hj:X.N[j]?=U y)(hij:i≠j)
  (hx:X.env.scope.names.lookup x=U .local) (hy:X.env.scope.names.lookup y=U .local) (ha:PA X [a,b] ta)
  (hw:swappedStores [.Tuple [.Name x px,.Name y py] kt pt] (.Tuple [a,b] k2 pt2) X.env=pure (U [x,y]))
  (hs:swapsWithSole [.Tuple [.Name x px,.Name y py] kt pt] (.Tuple [a,b] k2 pt2) pos.line X.env=pure false:=by rfl) :
  PS X (.Assign [.Tuple [.Name x px,.Name y py] kt pt] (.Tuple [a,b] k2 pt2) pos) (tPar i j ta):=by
 intro pins s σ H D I h
 rw[exec_Assign_arm]
 refine Xd (aab ?_)
 rw[hs]
 refine Xd (Xj ?_)
 rw[if_neg (by decide)]
 refine Xd (Tuple_ (dA (ha _ pins s σ H _ I h) λus s1 ⟨vs,H1,I1,r1,q1⟩=>?_))
 obtain⟨v,w,e1,q1⟩:=q1
 subst e1
 obtain⟨u1,u2,rfl,rv,rw'⟩:∃ u1 u2,us=[u1,u2]/\RelV v u1/\RelV w u2:=by
  cases r1 with
  | cons p q=>
   cases q with
   | cons p' q'=>
    cases q'
    exact⟨_,_,rfl,p,p'⟩
 refine XI ?_ (by show 2<=KY;decide)
 have I2:Inv X pins σ H1 { s1 with heap:=s1.heap.push { cls:=.type "tuple",data:=.seq [u1,u2].toArray } }:=I1.kept (t':=s1.toks) λb o e=>Xh _ e
 rw[hw]
 refine Xd (Xj ?_)
 show Qs (model X.prog X.w) X.A (do rule "assign.swapped-stores";let items <- unpackItems (.ref s1.heap.objs.size) 2 Y;assignInOrder [λv=>bindName X.env y v,λv=>bindName X.env x v] items.reverse;pure Flow.next) _ _ _
 refine Xd (aal (Xd (unpackItems_tuple (items:=#[u1,u2]) (I.ok.hd hc) (IsTup.new s1.heap _) λh' hx'=>?_)))
 have I3:=I2.kept (h':=h') (t':=s1.toks) λb o e=>hx' b o (XT (Xo e)) e
 show Qs _ _ (assignInOrder [λv=>bindName X.env y v,λv=>bindName X.env x v] [u2,u1] >>= λ_=>pure Flow.next) _ _ _
 refine Xd (aad (aaT (gN I3 hN hj (.inl hy) rw' (λs2 I4=>?_) (.inr hy))))
 refine aad (aaT (gN I4 hN hi (.inl hx) rv (λs3 I5=>assignInOrder_nil (Xj ?_)) (.inr hx)))
 rw[List.set_comm _ _ (Ne.symm hij)] at I5
 exact⟨_,H1,I5,q1⟩
def tAug(i:Nat)(te:TE)(ti:TIp):TS:=λD σ H=>∃ x,σ[i]?=U (U x)/\te σ H λy H1=>ti x y H1 λz H2=>D.nx (σ.set i (U z)) H2
theorem TW{i:Nat}{x:Str}(hN:X.N.Nodup)(hi:X.N[i]?=U x)(hx:Gi X.env.scope x)(he:PE X e te)(ho:PIp X op ti)(hf:X.fn x=true\/X.env.scope.names.lookup x=U .local:=by first | exact .inl rfl | exact .inr rfl | assumption) :
  PS X (.AugAssign (.Name x pos') op e pos) (tAug i te ti):=by
 intro pins s σ H D I h
 obtain⟨v,e1,h⟩:=h
 obtain⟨m,hn,hl⟩:=I.loc
 have vis:Tf X.env.scope x:=by rcases hx with k | k;exact .inl k;exact .inr (.inl k)
 obtain⟨u,r,l⟩:=hl i x v hi e1 vis
 refine wpAny_AugAssign_Name ?_
 have go:Qs (model X.prog X.w) X.A (eval e X.env) (λw s₂=>Qs (model X.prog X.w) X.A (inplaceOp op u w) (λr s₃=>Qs (model X.prog X.w) X.A (storeName X.env x r) (λ_=>SP X pins D .next) X.xe s₃) X.xe s₂) X.xe s:=by
  refine dA (he pins s σ H _ I h) λw s1 ⟨y,H1,I1,r1,q1⟩=>?_
  refine dA (ho pins s1 σ H1 v y u w _ I1 r r1 q1) λz s2 ⟨zv,H2,I2,r2,q2⟩=>?_
  exact gN I2 hN hi hx r2 (λs3 I3=>⟨_,H2,I3,q2⟩) hf
 rcases l with ⟨hk,hm⟩ | ⟨hk,c,hc,hcell⟩
 ·exact abt I.ok.kind hk hn hm go
 ·rcases hk with hk | hk
  ·exact abz I.ok.kind hk hc hcell go
  ·rcases hx with k | k
   ·have:X.env.scope.names.lookup x=U .free:=hk
    rw[k] at this;cases this
   ·have:X.env.scope.names.lookup x=U .free:=hk
    rw[k] at this;cases this
def ipI(f:Int->Int->Int):TIp:=λx y H Q=>∃ i j,x=.int i/\y=.int j/\Q (.int (f i j)) H
theorem Vm:PIp X .Add (ipI λi j=>i+j):=by
 intro pins s σ H x y v u Q I r1 r2 h
 obtain⟨i,j,e1,e2,q⟩:=h
 subst e1;subst e2
 obtain⟨t,rfl⟩:=r1
 obtain⟨t',rfl⟩:=r2
 exact iadd_int ⟨.int _,H,I.tok _,⟨_,rfl⟩,q⟩
end
section
variable{X:Cx}{pos:Pos}
def Tt(c:TT)(tb:TS):TS:=λD σ H=>∃ W:Nat->St->Hp->Prop,(∃ m,W m σ H)/\∀ m σ H,W m σ H ->
 c σ H λb H1=>if b=true then ∃ N:St->Hp->Prop,(∀ σ' H',N σ' H'->∃ m',m'<m/\W m' σ' H')/\tb { D with nx:=N,ct:=N,bk:=D.nx } σ H1 else D.nx σ H1
theorem zI(hp:PassesOwn (model X.prog X.w) X.A X.env X.xe)(hc:PT X c tc)(hb:PSs X body tb):PS X (.While c body [] pos) (Tt tc tb):=by
 intro pins s σ H D I h
 obtain⟨W,⟨m0,w0⟩,turn⟩:=h
 refine wpAny_While (codeAny_whileLoop (λn s'=>∃ σ' H',Inv X pins σ' H' s'/\W n σ' H') ?_ m0 ⟨σ,H,I,w0⟩)
 rintro n s1 ⟨σ1,H1,I1,w1⟩
 refine Zc hp (dA (hc pins s1 σ1 H1 _ I1 (turn n σ1 H1 w1)) λb s2 ⟨H2,I2,q2⟩=>?_)
 cases b with
 | true=>
  obtain⟨N,hN,q2⟩:=q2
  rw[Xq rfl]
  refine Zc hp (dA (hb pins s2 σ1 H2 _ I2 q2) λf s3 q3=>?_)
  cases f with
  | next=>
   obtain⟨σ3,H3,I3,n3⟩:=q3
   obtain⟨m',hm,w3⟩:=hN σ3 H3 n3
   exact⟨m',hm,σ3,H3,I3,w3⟩
  | cont=>
   obtain⟨σ3,H3,I3,n3⟩:=q3
   obtain⟨m',hm,w3⟩:=hN σ3 H3 n3
   exact⟨m',hm,σ3,H3,I3,w3⟩
  | brk=>exact q3
  | ret v=>exact q3
 | false=>
  rw[if_neg Sn]
  exact Zn ⟨σ1,H2,I2,q2⟩
end
structure It where
 go:Nat->Hp->Prop
 yld:Nat->Hp->V->Hp->Prop
 stop:Nat->Hp->Prop
def qo(X:Cx)(pins:List (td×Obj))(H:Hp)(b:td):Prop:=
 H b=Y/\b≠X.env.locals/\b∉X.fs/\(b∈X.ex\/X.s₀.heap.objs.size<=b)/\(∀ x c,X.env.cells.lookup x=U c->c≠b)/\∀ p∈X.pn++pins,p.1≠b
theorem Inv.fpOk{H':Hp}{s:gV}{b:td}(I:Inv X pins σ H s)(hb:s.heap.objs.size<=b)(hn:H' b=Y):qo X pins H' b:=by
 refine⟨hn,Ye (XB I.lt hb),I.nofs hb,.inr (XN I.sz hb),λx c e z=>?_,λp hp z=>?_⟩
 ·obtain⟨v,q⟩:=I.cell x c e
  exact absurd (XB q.lt (by rw[z];exact hb)) (YS _)
 ·exact absurd (XB (Xo (I.pin p hp).1) (by rw[z];exact hb)) (YS _)
structure Ef(P:vx)(w:Gs)(K:QF)(tg:tx)(J:It)(fp:List td)(it:td)(tn:Nat->Jq->Prop):Prop where
 mem:it∈fp
 obj:∀ i h,tn i h->∀ b∈fp,∃ o,h.get? b=U o/\∀ v,o.data≠.cell v
 keep:∀ i h h',tn i h->(∀ b∈fp,∀ o,h.get? b=U o->h'.get? b=U o)->tn i h'
 item:∀ (X:Cx),X.prog=P->X.w=w->X.K=K->X.calm=true->∀ (i:Nat) (pins:List (td×Obj)) (s:gV) (σ:St) (H:Hp) (E:bd->gV->Prop),Inv X pins σ H s->(∀ b∈fp,qo X pins H b)->tn i s.heap->J.go i H ->
  Qs (model P w) X.A (pyNext (.ref it)) (λr s1=>∃ u,r=U u /\
   Qs (model P w) X.A (letOwnedTupleGo tg (.ref it) u) (λ_ s2=>∃ x H',Inv X pins σ H' s2/\RelV x u/\J.yld i H x H'/\tn (i+1) s2.heap/\∀ b∈fp,H' b=Y) E s1) E s
 done:∀ (X:Cx),X.prog=P->X.w=w->X.K=K->X.calm=true->∀ (i:Nat) (pins:List (td×Obj)) (s:gV) (σ:St) (H:Hp) (E:bd->gV->Prop),Inv X pins σ H s->(∀ b∈fp,qo X pins H b)->tn i s.heap->J.stop i H ->
  Qs (model P w) X.A (pyNext (.ref it)) (λr s1=>r=Y/\Inv X pins σ H s1) E s
 self:∀ (A:IN) (i:Nat) (s:gV) (Q:bd->gV->Prop) (E:bd->gV->Prop),tn i s.heap->Q (.ref it) s->Qs (model P w) A (pyIter (.ref it)) Q E s
noncomputable abbrev TI:=St->Hp->(It->Hp->Prop)->Prop
def PIE(X:Cx)(pins:List (td×Obj))(σ:St)(tg:tx)(R:It->Hp->Prop)(itv:bd)(s2:gV):Prop:=
 ∃ (it:td) (fp:List td) (tn:Nat->Jq->Prop) (J:It) (H':Hp),itv=.ref it/\Inv X pins σ H' s2/\Ef X.prog X.w X.K tg J fp it tn/\tn 0 s2.heap/\(∀ b∈fp,qo X pins H' b)/\R J H'
def PI(X:Cx)(tg iter:tx)(wi:TI):Prop:=
 ∀ (pins:List (td×Obj)) (s:gV) (σ:St) (H:Hp) (R:It->Hp->Prop),Inv X pins σ H s->wi σ H R ->
  Qs (model X.prog X.w) X.A (eval iter X.env) (λv s1=>Qs (model X.prog X.w) X.A (pyIter v) (PIE X pins σ tg R) X.xe s1) X.xe s
theorem LS{A:IN}{s:gV}{o:Obj}{Q:Unit->gV->Prop}(ho:s.heap.get? it=U o)(hc:o.cls=.type n)(hd:o.data=.fields vs)
  (hn:["enumerate","zip","dict_itemiterator","dict_reverseitemiterator","odict_iterator","itertools.zip_longest","itertools.pairwise"].contains n=false) (hQ:Q () s):Qs M A (letOwnedTupleGo tg (.ref it) u) Q E s:=by
 unfold letOwnedTupleGo
 cases tg<;>first
  | exact Xj hQ
  | (cases u<;>first
    | exact Xj hQ
    | (refine Xd (wpAny_load ho ?_); rw[hc,hd]; show Qs M A (if (["enumerate","zip","dict_itemiterator","dict_reverseitemiterator","odict_iterator","itertools.zip_longest","itertools.pairwise"].contains n&&vs[0]?==U (rawInt _))=true then _ else _) Q E s; rw[if_neg (by intro h;rw[hn,Zs] at h;cases h)]; exact Xj hQ))
def Itl(K:QF)(a:td):It:=
 ⟨λi H=>∃ xs x,mT K H a xs/\xs[i]?=U x,λi H x H'=>H'=H/\∀ xs,mT K H a xs->xs[i]?=U x,λi H=>∃ xs,mT K H a xs/\xs.length<=i⟩
def Itt(K:QF)(a:td):It:=
 ⟨λi H=>∃ xs x,lv K H a xs/\xs[i]?=U x,λi H x H'=>H'=H/\∀ xs,lv K H a xs->xs[i]?=U x,λi H=>∃ xs,lv K H a xs/\xs.length<=i⟩
def Itr(lo:Int)(n:Nat):It:=⟨λi _=>i<n,λi H x H'=>H'=H/\x=.int (lo+i),λi _=>n<=i⟩
theorem vq{K:QF}(a it:td):Ef P w K tg (Itl K a) [it] it (λi h=>h.IsListIter it a i) where
 mem:=by simp
 obj:=λi h st b hb=>by
  have e:b=it:=by simpa using hb
  subst e
  obtain⟨o,e,c,d⟩:=st
  exact⟨o,e,λv z=>by rw[d] at z;cases z⟩
 keep:=λi h h' st k=>st.at λo e=>k it (by simp) o e
 item:=by
  intro X hP hw hK hc i pins s σ H E I hf st hg
  subst hP hw hK
  obtain⟨xs,x,hq,hx⟩:=hg
  obtain⟨its,rv,p,hz⟩:=I.list hq
  obtain⟨u,hu,ru⟩:=rv.get hx
  obtain⟨f0,f1,f2,f3,f4,f5⟩:=hf it (by simp)
  refine wpAny_pyNext_list_item st p.isList (x:=u) (by simpa using hu) λh' st' sb=>?_
  have I1:Inv X pins σ H { s with heap:=h' }:=I.turned (t':=s.toks) (λb o hb e=>(sb.2 b hb).trans e) f0 f1 f3 f4 f5
  obtain⟨o,e,c,d⟩:=id st'
  exact⟨u,rfl,LS (s:={ s with heap:=h' }) e c d (by decide) ⟨x,H,I1,ru,⟨rfl,λys hy=>by rw[I.list_inj hy hq];exact hx⟩,st',λb hb=>(hf b hb).1⟩⟩
 done:=by
  intro X hP hw hK hc i pins s σ H E I hf st hg
  subst hP hw hK
  obtain⟨xs,hq,hx⟩:=hg
  obtain⟨its,rv,p,hz⟩:=I.list hq
  obtain⟨f0,f1,f2,f3,f4,f5⟩:=hf it (by simp)
  have hl:=rv.length
  exact wpAny_pyNext_list_end (I.ok.hd hc) st p.isList (by simp;omega) λh' eb=>⟨rfl,I.turned (t':=s.toks) (λb o hb e=>eb b o hb e) f0 f1 f3 f4 f5⟩
 self:=λ_ _ _ _ _ st h=>wpAny_pyIter_listiter st h
theorem Ca{K:QF}(a it:td):Ef P w K tg (Itt K a) [it] it (λi h=>h.IsTupleIter it a i) where
 mem:=by simp
 obj:=λi h st b hb=>by
  have e:b=it:=by simpa using hb
  subst e
  obtain⟨o,e,c,d⟩:=st
  exact⟨o,e,λv z=>by rw[d] at z;cases z⟩
 keep:=λi h h' st k=>st.at λo e=>k it (by simp) o e
 item:=by
  intro X hP hw hK hc i pins s σ H E I hf st hg
  subst hP hw hK
  obtain⟨xs,x,hq,hx⟩:=hg
  obtain⟨its,rv,p,hz⟩:=I.tuple hq
  obtain⟨u,hu,ru⟩:=rv.get hx
  obtain⟨f0,f1,f2,f3,f4,f5⟩:=hf it (by simp)
  refine wpAny_pyNext_tuple_item st (show s.heap.IsTuple a its.toArray from p) (x:=u) (by simpa using hu) λh' st' sb=>?_
  have I1:Inv X pins σ H { s with heap:=h' }:=I.turned (t':=s.toks) (λb o hb e=>(sb.2 b hb).trans e) f0 f1 f3 f4 f5
  obtain⟨o,e,c,d⟩:=id st'
  exact⟨u,rfl,LS (s:={ s with heap:=h' }) e c d (by decide) ⟨x,H,I1,ru,⟨rfl,λys hy=>by rw[I.tuple_inj hy hq];exact hx⟩,st',λb hb=>(hf b hb).1⟩⟩
 done:=by
  intro X hP hw hK hc i pins s σ H E I hf st hg
  subst hP hw hK
  obtain⟨xs,hq,hx⟩:=hg
  obtain⟨its,rv,p,hz⟩:=I.tuple hq
  obtain⟨f0,f1,f2,f3,f4,f5⟩:=hf it (by simp)
  have hl:=rv.length
  exact wpAny_pyNext_tuple_end (I.ok.hd hc) st (show s.heap.IsTuple a its.toArray from p) (by simp;omega) λh' eb=>⟨rfl,I.turned (t':=s.toks) (λb o hb e=>eb b o hb e) f0 f1 f3 f4 f5⟩
 self:=λ_ _ _ _ _ st h=>wpAny_pyIter_tupleiter st h
theorem Cb{K:QF}(it:td)(lo:Int)(n:Nat):Ef P w K tg (Itr lo n) [it] it (λi h=>IsRangeIter h it (lo+(i:Nat)*1) ((n:Int) - (i:Nat)) 1) where
 mem:=by simp
 obj:=λi h st b hb=>by
  have e:b=it:=by simpa using hb
  subst e
  exact⟨_,st,λv z=>by
   have z':Data.fields _=Data.cell v:=z
   cases z'⟩
 keep:=λi h h' st k=>k it (by simp) _ st
 item:=by
  intro X hP hw hK hc i pins s σ H E I hf st hg
  subst hP hw hK
  obtain⟨f0,f1,f2,f3,f4,f5⟩:=hf it (by simp)
  have W:=Walks.range (prog:=X.prog) (w:=X.w) (I.ok.hd hc) it lo 1 n
  refine W.item i s _ _ hg st λv h' tk hv st' kk=>?_
  obtain⟨t,rfl⟩:=hv
  have I1:Inv X pins σ H { s with heap:=h',toks:=tk }:=I.turned (λb o hb e=>kk b o (by simpa using hb) e) f0 f1 f3 f4 f5
  refine⟨_,rfl,LS (s:={ s with heap:=h',toks:=tk }) (n:="range_iterator") st' rfl rfl (by decide) ⟨.int (lo+i),H,I1,⟨t,?_⟩,⟨rfl,rfl⟩,st',λb hb=>(hf b hb).1⟩⟩
  rw[Int.mul_one]
 done:=by
  intro X hP hw hK hc i pins s σ H E I hf st hg
  subst hP hw hK
  obtain⟨f0,f1,f2,f3,f4,f5⟩:=hf it (by simp)
  exact wpAny_pyNext_range_end (I.ok.hd hc) st (by have:n<=i:=hg;omega) λh' eb=>⟨rfl,I.turned (t':=s.toks) (λb o hb e=>eb b o hb e) f0 f1 f3 f4 f5⟩
 self:=λ_ _ _ _ _ st h=>wpAny_pyIter_rangeiter st h
section
variable{X:Cx}{tg:tx}
def SG(K:QF)(tl:TE):TI:=λσ H R=>tl σ H λx H1=>∃ a,x=.ref a/\(∃ xs,mT K H1 a xs)/\R (Itl K a) H1
theorem xn(hl:PE X l tl):PI X tg l (SG X.K tl):=by
 intro pins s σ H R I h
 refine dA (hl pins s σ H _ I h) λv s1 ⟨x,H1,I1,r1,q1⟩=>?_
 obtain⟨a,e,⟨xs,hq⟩,q⟩:=q1
 subst e
 cases r1
 obtain⟨its,rv,p,hz⟩:=I1.list hq
 refine aam p.isList ?_
 refine⟨s1.heap.objs.size,[s1.heap.objs.size],_,_,H1,rfl,I1.kept (t':=s1.toks) λb o e=>Xh _ e,vq a _,⟨_,Xr _ rfl,rfl,rfl⟩,λb hb=>?_,q⟩
 have e:b=s1.heap.objs.size:=by simpa using hb
 subst e
 exact I1.fpOk (Xm _) (I1.hok.fresh (Xm _))
theorem JP{s:gV}{R:It->Hp->Prop}{lo hi:Int}{tk:Nat}(I:Inv X pins σ H s)(h1:-(2^62)<=lo)(h2:lo<2^62)(h3:-(2^62)<=hi)(h4:hi<2^62)
  (q:R (Itr lo (hi - lo).toNat) H):Qs (model X.prog X.w) X.A (pyIter (.ref s.heap.objs.size)) (PIE X pins σ tg R) E { s with heap:=s.heap.push { cls:=.type "range",data:=.fields #[.int lo t,.int hi u,.int 1 v] },toks:=tk }:=by
 refine wpAny_pyIter_range (IsRange.new ..) (small_one h1 h2 h3 h4) ?_
 have I1:Inv X pins σ H { s with heap:=s.heap.push { cls:=.type "range",data:=.fields #[.int lo t,.int hi u,.int 1 v] },toks:=tk }:=I.kept λb o e=>Xh _ e
 refine⟨(s.heap.push { cls:=.type "range",data:=.fields #[.int lo t,.int hi u,.int 1 v] }).objs.size,[(s.heap.push { cls:=.type "range",data:=.fields #[.int lo t,.int hi u,.int 1 v] }).objs.size],_,_,H,rfl,
  I1.kept (t':=tk) λb o e=>Xh _ e,Cb _ lo (hi - lo).toNat,?_,λb hb=>?_,q⟩
 ·have e1:lo+((0:Nat):Int)*1=lo:=by simp
  have e2:(((hi - lo).toNat:Nat):Int) - ((0:Nat):Int)=Builtin.Range.rangeSize lo hi 1:=by rw[rangeSize_one];split<;>omega
  show IsRangeIter _ _ (lo+((0:Nat):Int)*1) ((((hi - lo).toNat:Nat):Int) - ((0:Nat):Int)) 1
  rw[e1,e2]
  exact Xr _ rfl
 ·have e:b=(s.heap.push { cls:=.type "range",data:=.fields #[.int lo t,.int hi u,.int 1 v] }).objs.size:=by simpa using hb
  subst e
  exact I1.fpOk (Xm _) (I1.hok.fresh (Xm _))
def iRng1(ta:TA):TI:=λσ H R=>ta σ H λvs H1=>∃ j:Int,vs=[.int j]/\-(2^62)<=j/\j<2^62/\R (Itr 0 j.toNat) H1
theorem GO{a:tx}{p:Pos}(hg:Gl X "range")(hm:X.mg "range" = Y)(ha:PA X [a] ta)(hs:KZ [a] X.env=[(false,eval a X.env)]:=by rfl):PI X tg (.Call (.Name "range" p) [a] [] pos) (iRng1 ta):=by
 intro pins s σ H R I h
 refine Call_ (nJ I hg hm boot_range (YD (dA (ha pos pins s σ H _ I h) λus s1 ⟨vs,H1,I1,r1,q1⟩=>?_) hs rfl))
 obtain⟨j,e,q1,q2,q⟩:=q1
 subst e
 cases r1 with
 | cons r rr=>
  cases rr
  obtain⟨t,rfl⟩:=r
  exact call_range_1 (JP I1 (by omega) (by omega) q1 q2 (by simpa using q))
def tFor(wi:TI)(g:TG)(tb:TS):TS:=λD σ H=>wi σ H λJ H1=>∃ W:Nat->Nat->St->Hp->Prop,(∃ m,W 0 m σ H1)/\∀ i m σ H,W i m σ H ->
 (J.stop i H/\D.nx σ H)\/(J.go i H/\∃ N:St->Hp->Prop,(∀ σ' H',N σ' H'->∃ m',m'<m/\W (i+1) m' σ' H')/\∀ x H',J.yld i H x H'->g x σ H' λσ2 H2=>tb { D with nx:=N,ct:=N,bk:=D.nx } σ2 H2)
def sj(fp:List td)(h:Jq):List (td×Obj):=fp.filterMap λb=>(h.get? b).map λo=>(b,o)
theorem kn{fp:List td}{h:Jq}{b:td}{o:Obj}(hb:b∈fp)(e:h.get? b=U o):(b,o)∈sj fp h:=abN.mpr ⟨b,hb,by rw[e];rfl⟩
theorem GV{p:td×Obj}(hp:p∈sj fp h):p.1∈fp/\h.get? p.1=U p.2:=by
 obtain⟨b,hb,e⟩:=abN.mp hp
 cases q:h.get? b with
 | none=>rw[q] at e;cases e
 | some o=>
  rw[q] at e
  have e':(b,o)=p:=XC e
  subst e'
  exact⟨hb,q⟩
theorem Inv.pinned{s:gV}{fp:List td}(I:Inv X pins σ H s)(hf:∀ b∈fp,qo X pins H b)(ho:∀ b∈fp,∃ o,s.heap.get? b=U o/\∀ v,o.data≠.cell v):Inv X (pins++sj fp s.heap) σ H s:=
 I.pins_of λp hp=>(Xx.mp hp).elim (λz=>I.pin p (XX _ z)) λz=>by
  obtain⟨hb,e⟩:=GV z
  obtain⟨f0,f1,f2,_⟩:=hf p.1 hb
  obtain⟨o,e',d⟩:=ho p.1 hb
  rw[e] at e';cases e'
  exact⟨e,f0,f1,f2,d⟩
theorem Inv.unpinned{pins pl:List (td×Obj)}{s:gV}(I:Inv X (pins++pl) σ H s):Inv X pins σ H s:=I.pins_of λp hp=>I.pin p (XX _ (Yd _ hp))
theorem Cy{iter:tx}(hp:PassesOwn (model X.prog X.w) X.A X.env X.xe)(hc:X.calm=true)(hi:PI X tg iter wi)(hg:PG X tg g)(hb:PSs X body tb)
  (hs:∀ x,Ld iter X.env x=pure x:=by intro _;rfl):PS X (.For tg iter body [] pos) (tFor wi g tb):=by
 intro pins s σ H D I h
 refine wpAny_For (dA (hi pins s σ H _ I h) λv s1 h1=>dA h1 λitv s2 h2=>?_) hs
 obtain⟨it,fp,tn,J,H2,e,I2,T,st2,f2,W,⟨m0,w0⟩,turn⟩:=h2
 subst e
 have stat:∀ {H':Hp},(∀ b∈fp,H' b=Y)->∀ b∈fp,qo X pins H' b:=λhn b hb=>⟨hn b hb,(f2 b hb).2⟩
 refine codeAny_forLoop_any (λn s'=>∃ i σ' H',Inv X pins σ' H' s'/\tn i s'.heap/\(∀ b∈fp,H' b=Y)/\W i n σ' H') ?_ m0 ⟨0,σ,H2,I2,st2,λb hb=>(f2 b hb).1,w0⟩
 rintro n s3 ⟨i,σ3,H3,I3,st3,fr3,w3⟩
 rcases turn i n σ3 H3 w3 with ⟨stop,qn⟩ | ⟨go,N,hN,step⟩
 ·refine Zc hp (dA (T.done X rfl rfl rfl hc i pins s3 σ3 H3 X.xe I3 (stat fr3) st3 stop) λr s4 ⟨hr,I4⟩=>?_)
  subst hr
  exact Zn ⟨σ3,H3,I4,qn⟩
 ·refine Zc hp (dA (T.item X rfl rfl rfl hc i pins s3 σ3 H3 X.xe I3 (stat fr3) st3 go) λr s4 ⟨u,hr,h4⟩=>?_)
  subst hr
  refine Zc hp (dA h4 λ_ s5 ⟨x,H5,I5,r5,y5,st5,fr5⟩=>?_)
  have I5':=I5.pinned (stat fr5) (T.obj _ _ st5)
  refine Zc hp (dA (hg _ s5 σ3 H5 x u _ I5' r5 (step x H5 y5)) λ_ s6 ⟨σ6,H6,I6,q6⟩=>?_)
  refine Zc hp (dA (hb _ s6 σ6 H6 _ I6 q6) λf s7 q7=>?_)
  have again:∀ {σ7:St} {H7:Hp},Inv X (pins++sj fp s5.heap) σ7 H7 s7->N σ7 H7->∃ m,m<n/\∃ i σ' H',Inv X pins σ' H' s7/\tn i s7.heap/\(∀ b∈fp,H' b=Y)/\W i m σ' H':=λ{σ7 H7} I7 n7=>by
   obtain⟨m',hm,w7⟩:=hN σ7 H7 n7
   refine⟨m',hm,i+1,σ7,H7,I7.unpinned,T.keep _ _ _ st5 λb hb o e=>(I7.pin (b,o) (XX _ (XX _ (kn hb e)))).1,λb hb=>?_,w7⟩
   obtain⟨o,e,d⟩:=T.obj _ _ st5 b hb
   exact(I7.pin (b,o) (XX _ (XX _ (kn hb e)))).2.1
  cases f with
  | next=>obtain⟨σ7,H7,I7,n7⟩:=q7;exact again I7 n7
  | cont=>obtain⟨σ7,H7,I7,n7⟩:=q7;exact again I7 n7
  | brk=>obtain⟨σ7,H7,I7,q7⟩:=q7;exact⟨σ7,H7,I7.unpinned,q7⟩
  | ret v=>obtain⟨x7,σ7,H7,I7,r7,q7⟩:=q7;exact⟨x7,σ7,H7,I7.unpinned,r7,q7⟩
end
noncomputable abbrev R2:=V->V->Hp->VK->Prop
def OpR(X:Cx)(f:bd->bd->Sem bd)(r:R2):Prop:=
 ∀ (pins:List (td×Obj)) (s:gV) (σ:St) (H:Hp) (x y:V) (v u:bd) (Q:VK),Inv X pins σ H s->RelV x v->RelV y u->r x y H Q ->
  Qs (model X.prog X.w) X.A (f v u) (EP X pins σ Q) X.xe s
def UnR(X:Cx)(f:bd->Sem bd)(r:V->Hp->VK->Prop):Prop:=
 ∀ (pins:List (td×Obj)) (s:gV) (σ:St) (H:Hp) (x:V) (v:bd) (Q:VK),Inv X pins σ H s->RelV x v->r x H Q ->
  Qs (model X.prog X.w) X.A (f v) (EP X pins σ Q) X.xe s
def CallR(X:Cx)(f:bd)(r:List V->Hp->VK->Prop):Prop:=
 ∀ (pins:List (td×Obj)) (s:gV) (σ:St) (H:Hp) (xs:List V) (us:List bd) (Q:VK),Inv X pins σ H s->Vals xs us->r xs H Q ->
  Qs (model X.prog X.w) X.A (call f us) (EP X pins σ Q) X.xe s
def TruR(X:Cx)(r:V->Hp->(Bool->Hp->Prop)->Prop):Prop:=
 ∀ (pins:List (td×Obj)) (s:gV) (σ:St) (H:Hp) (x:V) (v:bd) (Q:Bool->Hp->Prop),Inv X pins σ H s->RelV x v->r x H Q ->
  Qs (model X.prog X.w) X.A (truthy v) (TP X pins σ Q) X.xe s
def tOp(r:R2)(ta tb:TE):TE:=λσ H Q=>ta σ H λx H1=>tb σ H1 λy H2=>r x y H2 Q
def tUn(r:V->Hp->VK->Prop)(ta:TE):TE:=λσ H Q=>ta σ H λx H1=>r x H1 Q
def rI(C:Int->Int->Prop)(g:Int->Int->V):R2:=λx y H Q=>∃ i j,x=.int i/\y=.int j/\C i j/\Q (g i j) H
def OW(g:Int->Int->V):R2:=λx y H Q=>∃ i j,x=.int i/\y=.int j/\Q (g i j) H
def rU(g:Int->V):V->Hp->VK->Prop:=λx H Q=>∃ i,x=.int i/\Q (g i) H
section
variable{X:Cx}{a b c:tx}{ta tb tc:TE}{pos:Pos}
theorem WJ(ha:PE X a ta)(hb:PE X b tb){s:gV}{R:V->V->Hp->Prop}(I:Inv X pins σ H s)
  (h:ta σ H λx H1=>tb σ H1 λy H2=>R x y H2) {f:bd->bd->Sem bd}
  (hf:∀ v u s2 x y H2,Inv X pins σ H2 s2->RelV x v->RelV y u->R x y H2->Qs (model X.prog X.w) X.A (f v u) Q X.xe s2) :
  Qs (model X.prog X.w) X.A (eval a X.env) (λv s₁=>Qs (model X.prog X.w) X.A (eval b X.env) (λu s₂=>Qs (model X.prog X.w) X.A (f v u) Q X.xe s₂) X.xe s₁) X.xe s:=by
 refine dA (ha pins s σ H _ I h) λv s1 ⟨x,H1,I1,r1,q1⟩=>?_
 refine dA (hb pins s1 σ H1 _ I1 q1) λu s2 ⟨y,H2,I2,r2,q2⟩=>?_
 exact hf v u s2 x y H2 I2 r1 r2 q2
theorem Sl(ho:OpR X (PN op) r)(ha:PE X a ta)(hb:PE X b tb):PE X (.BinOp a op b pos) (tOp r ta tb):=by
 intro pins s σ H Q I h
 exact wpAny_BinOp (WJ ha hb I h λv u s2 x y H2 I2 rx ry q=>ho pins s2 σ H2 x y v u Q I2 rx ry q)
theorem pe_un(ho:UnR X (unaryOp op) r)(ha:PE X a ta):PE X (.UnaryOp op a pos) (tUn r ta):=by
 intro pins s σ H Q I h
 exact UnaryOp_ (dA (ha pins s σ H _ I h) λv s1 ⟨x,H1,I1,r1,q1⟩=>ho pins s1 σ H1 x v Q I1 r1 q1)
theorem opI{f:bd->bd->Sem bd}{C:Int->Int->Prop}{g:Int->Int->Int}
  (rule:∀ (i j:Int) (t u:Tok) (s:gV) (Q:bd->gV->Prop) (E:bd->gV->Prop),C i j->Q (.int (g i j) s.toks) { s with toks:=s.toks+1 }->Qs (model X.prog X.w) X.A (f (.int i t) (.int j u)) Q E s) :
  OpR X f (rI C λi j=>.int (g i j)):=by
 intro pins s σ H x y v u Q I rx ry h
 obtain⟨i,j,rfl,rfl,hc,q⟩:=h
 obtain⟨t,rfl⟩:=rx
 obtain⟨t',rfl⟩:=ry
 exact rule i j t t' s _ _ hc ⟨.int (g i j),H,I.tok _,⟨_,rfl⟩,q⟩
theorem opI0{f:bd->bd->Sem bd}{g:Int->Int->Int}
  (rule:∀ (i j:Int) (t u:Tok) (s:gV) (Q:bd->gV->Prop) (E:bd->gV->Prop),Q (.int (g i j) s.toks) { s with toks:=s.toks+1 }->Qs (model X.prog X.w) X.A (f (.int i t) (.int j u)) Q E s) :
  OpR X f (OW λi j=>.int (g i j)):=by
 intro pins s σ H x y v u Q I rx ry h
 obtain⟨i,j,rfl,rfl,q⟩:=h
 obtain⟨t,rfl⟩:=rx
 obtain⟨t',rfl⟩:=ry
 exact rule i j t t' s _ _ ⟨.int (g i j),H,I.tok _,⟨_,rfl⟩,q⟩
theorem PJ{f:bd->bd->Sem bd}{g:Int->Int->Bool}
  (rule:∀ (i j:Int) (t u:Tok) (s:gV) (Q:bd->gV->Prop) (E:bd->gV->Prop),Q (.bool (g i j)) s->Qs (model X.prog X.w) X.A (f (.int i t) (.int j u)) Q E s) :
  OpR X f (OW λi j=>.bl (g i j)):=by
 intro pins s σ H x y v u Q I rx ry h
 obtain⟨i,j,rfl,rfl,q⟩:=h
 obtain⟨t,rfl⟩:=rx
 obtain⟨t',rfl⟩:=ry
 exact rule i j t t' s _ _ ⟨.bl (g i j),H,I,rfl,q⟩
def CDiv(i j:Int):Prop:=0<j/\j<1073741824
def CPow(i j:Int):Prop:=0<=j/\j<=1000000/\i.natAbs<2^64
theorem Ur:OpR X (PN .Add) (OW λi j=>.int (i+j)):=opI0 λ_ _ _ _ _ _ _ q=>add_int q
theorem Um:OpR X (PN .Sub) (OW λi j=>.int (i - j)):=opI0 λ_ _ _ _ _ _ _ q=>sub_int q
theorem Pz:OpR X (PN .FloorDiv) (rI CDiv λi j=>.int (i / j)):=opI λi j _ _ _ _ _ hc q=>by
 have h1:(0:Int)<j:=hc.1
 have h2:j<1073741824:=hc.2
 exact floordiv_int (by omega) (by rw[Int.fdiv_eq_ediv_of_nonneg i (by omega)];exact q) (.inl (PyProof.noPylong_small (by omega)))
theorem Uq:OpR X (PN .Mod) (rI (λ_ j=>0<j) λi j=>.int (i%j)):=opI λi j _ _ _ _ _ hc q=>by
 have h1:(0:Int)<j:=hc
 exact mod_int' (by omega) (by rw[Int.fmod_eq_emod_of_nonneg i (by omega)];exact q)
theorem Up:OpR X (PN .Pow) (rI CPow λi j=>.int (i^j.toNat)):=opI λ_ _ _ _ _ _ _ hc q=>pow_int_small hc.1 hc.2.1 hc.2.2 q
theorem unI{f:bd->Sem bd}{g:Int->Int}
  (rule:∀ (i:Int) (t:Tok) (s:gV) (Q:bd->gV->Prop) (E:bd->gV->Prop),Q (.int (g i) s.toks) { s with toks:=s.toks+1 }->Qs (model X.prog X.w) X.A (f (.int i t)) Q E s) :
  UnR X f (rU λi=>.int (g i)):=by
 intro pins s σ H x v Q I rx h
 obtain⟨i,rfl,q⟩:=h
 obtain⟨t,rfl⟩:=rx
 exact rule i t s _ _ ⟨.int (g i),H,I.tok _,⟨_,rfl⟩,q⟩
theorem To:UnR X (unaryOp .USub) (rU λi=>.int (-i)):=unI λ_ _ _ _ _ q=>neg_int q
end
section
variable{X:Cx}{a b c:tx}{ta tb tc:TE}{pos:Pos}
theorem op_lt:OpR X (Mc .Lt) (OW λi j=>.bl (decide (i<j))):=PJ λ_ _ _ _ _ _ _ q=>lt_int q
theorem op_le:OpR X (Mc .LtE) (OW λi j=>.bl (decide (i<=j))):=PJ λ_ _ _ _ _ _ _ q=>le_int q
theorem op_gt:OpR X (Mc .Gt) (OW λi j=>.bl (decide (j<i))):=PJ λ_ _ _ _ _ _ _ q=>gt_int q
theorem op_ge:OpR X (Mc .GtE) (OW λi j=>.bl (decide (j<=i))):=PJ λ_ _ _ _ _ _ _ q=>ge_int q
theorem OpR.or(h:OpR X f r)(h':OpR X f r'):OpR X f (λx y H Q=>r x y H Q\/r' x y H Q):=by
 intro pins s σ H x y v u Q I rx ry q
 rcases q with q | q
 ·exact h pins s σ H x y v u Q I rx ry q
 ·exact h' pins s σ H x y v u Q I rx ry q
theorem Pq(ho:OpR X (Mc op) r)(ha:PE X a ta)(hb:PE X b tb)(hm:behindInMarks op b=false):PE X (.Compare a [op] [b] pos) (tOp r ta tb):=by
 intro pins s σ H Q I h
 exact wpAny_Compare1 (WJ ha hb I h λv u s2 x y H2 I2 rx ry q=>ho pins s2 σ H2 x y v u Q I2 rx ry q) hm
def tTest(t:TE):TT:=λσ H Q=>t σ H λx H'=>∃ k,x=.bl k/\Q k H'
theorem Pc(ho:OpR X (Mc op) r)(ha:PE X a ta)(hb:PE X b tb)(hm:behindInMarks op b=false):PT X (.Compare a [op] [b] pos) (tTest (tOp r ta tb)):=by
 intro pins s σ H Q I h
 refine wpAny_isTrue_Compare1 (dA (ha pins s σ H _ I h) λv s1 ⟨x,H1,I1,r1,q1⟩=>dA (hb pins s1 σ H1 _ I1 q1) λu s2 ⟨y,H2,I2,r2,q2⟩=>
  dA (ho pins s2 σ H2 x y v u _ I2 r1 r2 q2) λc s3 ⟨z,H3,I3,r3,k,e,q3⟩=>?_) hm
 subst e
 cases r3
 exact aak ⟨H3,I3,q3⟩
def IM(K:QF)(x:V)(H:Hp)(k:Bool):Prop:=
 match x with
 | .non=>k=false
 | .bl b=>k=b
 | .int i=>k=(i != 0)
 | .str y=>y.length<=KY/\k=((y.length:Int) != 0)
 | .byt y=>y.size<=KY/\k=((y.size:Int) != 0)
 | .ref p=>(∃ xs,mT K H p xs/\k = !xs.isEmpty)\/(∃ xs,lv K H p xs/\k = !xs.isEmpty)\/∃ kvs,H p=U (.dK kvs)/\k = !kvs.isEmpty
 | _=>False
theorem Dq{κ:Type}{kvs:List (κ×V)}{vs:List (κ×bd)}(r:KV kvs vs):(!vs.isEmpty) = !kvs.isEmpty:=by
 cases r<;>rfl
theorem tq{xs:List V}{its:List bd}(r:Vals xs its):(!its.toArray.isEmpty) = !xs.isEmpty:=by
 cases r<;>simp
theorem pW:(KY:Nat)<2^63:=by rw[aaL];decide
theorem wL:TruR X (λx H Q=>∃ k,IM X.K x H k/\Q k H):=by
 intro pins s σ H x v Q I rx h
 obtain⟨k,e,q⟩:=h
 have hl:=pW
 have hs:KY=16777216:=aaL
 cases x with
 | non=>
  cases rx
  have e':k=false:=e
  subst e'
  exact truthy_none ⟨H,I,q⟩
 | bl b=>
  cases rx
  have e':k=b:=e
  subst e'
  exact aak ⟨H,I,q⟩
 | int i=>
  obtain⟨t,rfl⟩:=rx
  have e':k=(i != 0):=e
  subst e'
  exact PySem.P.truthy_int ⟨H,I,q⟩
 | str y=>
  obtain⟨t,rfl⟩:=rx
  obtain⟨hy,e'⟩:y.length<=KY/\k=((y.length:Int) != 0):=e
  subst e'
  exact PySem.P.truthy_str (by omega) ⟨H,I.tok _,q⟩
 | byt y=>
  obtain⟨t,rfl⟩:=rx
  obtain⟨hy,e'⟩:y.size<=KY/\k=((y.size:Int) != 0):=e
  subst e'
  exact W.truthy_bytes (by omega) ⟨H,I.tok _,q⟩
 | ref p=>
  cases rx
  have e':(∃ xs,mT X.K H p xs/\k = !xs.isEmpty)\/(∃ xs,lv X.K H p xs/\k = !xs.isEmpty)\/∃ kvs,H p=U (.dK kvs)/\k = !kvs.isEmpty:=e
  rcases e' with ⟨xs,hx,e'⟩ | ⟨xs,hx,e'⟩ | ⟨kvs,hx,e'⟩
  ·subst e'
   obtain⟨its,r,pl,hz⟩:=I.list hx
   have hlen:=r.length
   exact wpAny_truthy_list pl.isList (by simp only[Xg];omega) ⟨H,I.tok _,by rw[tq r];exact q⟩
  ·subst e'
   obtain⟨its,r,pl,hz⟩:=I.tuple hx
   have hlen:=r.length
   exact truthy_tuple pl (by simp only[Xg];omega) ⟨H,I.tok _,by rw[tq r];exact q⟩
  ·subst e'
   obtain⟨hz,hS,vs,r,m⟩:kvs.length<=KY/\(p==sysModules)=false/\∃ vs,KV kvs vs/\s.heap.DictOf (cr X.prog X.w) p vs:=I.hok p _ hx
   have hlen:kvs.length=vs.length:=aae r
   exact wpAny_truthy_dict hS m (by omega) ⟨H,I.tok _,by rw[Dq r];exact q⟩
 | _=>exact(show False from e).elim
theorem JR(ha:PE X a ta)(he:∀ whole,isTrue a X.env whole=(do let v <- whole;standAt a.pos;holding [v] (truthy v))) :
  PT X a (λσ H Q=>ta σ H λx H'=>∃ k,IM X.K x H' k/\Q k H'):=by
 intro pins s σ H Q I h
 exact isTrue_plain (dA (ha pins s σ H _ I h) λv s1 ⟨x,H1,I1,r1,q1⟩=>wL pins s1 σ H1 x v Q I1 r1 q1) (he _)
theorem CG:OpR X (PN .Add) (λx y H Q=>∃ i j,x=.str i/\y=.str j/\i.length+j.length<=KY/\Q (.str (i++j)) H):=by
 intro pins s σ H x y v u Q I rx ry h
 obtain⟨i,j,rfl,rfl,hz,q⟩:=h
 obtain⟨t,rfl⟩:=rx
 obtain⟨t',rfl⟩:=ry
 exact add_str (λt' tk=>⟨.str (i++j),H,I.tok _,⟨_,rfl⟩,q⟩) hz
theorem oq{x:V}(r:Vals [x] us):∃ u,us=[u]/\RelV x u:=by
 cases r with
 | cons r1 r2=>cases r2;exact⟨_,rfl,r1⟩
theorem zh{x y:V}(r:Vals [x,y] us):∃ u w',us=[u,w']/\RelV x u/\RelV y w':=by
 cases r with
 | cons r1 r2=>
  cases r2 with
  | cons r3 r4=>cases r4;exact⟨_,_,rfl,r1,r3⟩
theorem IE(hc:X.calm=true):CallR X (.builtin "max") (λxs H Q=>∃ i j,xs=[.int i,.int j]/\Q (.int (if j>i then j else i)) H):=by
 intro pins s σ H xs us Q I r h
 obtain⟨i,j,rfl,q⟩:=h
 obtain⟨u,w',rfl,⟨t,rfl⟩,⟨t',rfl⟩⟩:=zh r
 refine max_two_ints (I.ok.hd hc) λh' tk k=>⟨_,H,I.kept k,?_,q⟩
 by_cases hj:j>i
 ·rw[Xq hj,Xq hj];exact⟨_,rfl⟩
 ·rw[if_neg hj,if_neg hj];exact⟨_,rfl⟩
theorem IC(hc:X.calm=true):CallR X (.builtin "min") (λxs H Q=>∃ i j,xs=[.int i,.int j]/\Q (.int (if j<i then j else i)) H):=by
 intro pins s σ H xs us Q I r h
 obtain⟨i,j,rfl,q⟩:=h
 obtain⟨u,w',rfl,⟨t,rfl⟩,⟨t',rfl⟩⟩:=zh r
 refine min_two_ints (I.ok.hd hc) λh' tk k=>⟨_,H,I.kept k,?_,q⟩
 by_cases hj:j<i
 ·rw[Xq hj,Xq hj];exact⟨_,rfl⟩
 ·rw[if_neg hj,if_neg hj];exact⟨_,rfl⟩
theorem IF:CallR X (.type "int") (λxs H Q=>(∃ i,xs=[.int i]/\Q (.int i) H)\/∃ k,xs=[.bl k]/\Q (.int (if k then 1 else 0)) H):=by
 intro pins s σ H xs us Q I r h
 rcases h with ⟨i,rfl,q⟩ | ⟨k,rfl,q⟩
 ·obtain⟨u,rfl,t,rfl⟩:=oq r
  exact call_int_int ⟨.int i,H,I,⟨_,rfl⟩,q⟩
 ·obtain⟨u,rfl,r1⟩:=oq r
  cases r1
  exact call_int_bool ⟨.int (if k then 1 else 0),H,I.tok _,⟨_,rfl⟩,q⟩
end
theorem RelO.some_of{v:V}(r:RelO (U v) o):∃ u,o=U u/\RelV v u:=by
 cases o with
 | none=>exact(show False from r).elim
 | some u=>exact⟨u,rfl,r⟩
structure Room(k:Nat)(A:IN):Prop where
 hd:A.handled=Y
 dp:A.depth+3*k+5<recursionLimit
 un:A.units+16*k+200<cLine
theorem Room.mono{j k:Nat}{A:IN}(r:Room k A)(h:j<=k):Room j A:=⟨r.hd,by have:=r.dp;omega,by have:=r.un;omega⟩
theorem Room.deeper{k:Nat}{A:IN}(r:Room (k+1) A)(env:Env):Room k (A.deeper env):=
 ⟨r.hd,by have:=r.dp;show A.depth+1+3*k+5<_;omega,by have:=r.un;show A.units+3+16*k+200<_;omega⟩
theorem Room.depth{k:Nat}{A:IN}(r:Room k A):A.depth<recursionLimit:=by have:=r.dp;omega
theorem Room.units{k:Nat}{A:IN}(r:Room k A):A.units+64<cLine:=by have:=r.un;omega
def tNil:TA:=λ_ H Q=>Q [] H
def tCons(ta:TE)(tr:TA):TA:=λσ H Q=>ta σ H λx H1=>tr σ H1 λxs H2=>Q (x::xs) H2
section
variable{X:Cx}{e:tx}{es:List tx}{te:TE}{t:TA}{pos:Pos}
theorem sk:PA X [] tNil:=λ_ _ _ _ H Q I h=>Calls.spliced_nil ⟨[],H,I,.nil,h⟩
theorem ja(ha:PE X e te)(hr:PA X es t)(hs:KZ (e::es) X.env=(false,eval e X.env)::KZ es X.env:=by rfl):PA X (e::es) (tCons te t):=by
 intro pos pins s σ H Q I h
 rw[hs]
 show Qs _ _ (spliced ((false,eval e X.env)::backTo pos (KZ es X.env))) _ _ s
 refine Calls.spliced_cons (dA (ha pins s σ H _ I h) λu s1 ⟨x,H1,I1,r1,q1⟩=>?_)
 exact dA (hr pos pins s1 σ H1 _ I1 q1) λus s2 ⟨xs,H2,I2,r2,q2⟩=>⟨x::xs,H2,I2,.cons r1 r2,q2⟩
def tTup(t:TA):TE:=λσ H Q=>t σ H λxs H1=>xs.length<=KY/\∀ p,H1 p=Y->Q (.ref p) (upd H1 p (.tup xs))
def tLst(t:TA):TE:=λσ H Q=>t σ H λxs H1=>xs.length<=KY/\∀ p,H1 p=Y->Q (.ref p) (upd H1 p (.lst xs))
theorem Kb{x1}(h:PA X es t):PE X (.Tuple es x1 pos) (tTup t):=by
 intro pins s σ H Q I hq
 refine wpAny_Tuple_spliced (dA (h pos pins s σ H _ I hq) λus s1 ⟨xs,H1,I1,r,z,q⟩=>⟨by rw[<- r.length];exact z,?_⟩)
 have hf:H1 s1.heap.objs.size=Y:=I1.hok.fresh (Xm _)
 refine⟨.ref s1.heap.objs.size,upd H1 s1.heap.objs.size (.tup xs),I1.laid (t':=s1.toks) (λb u e=>Xh _ e) (Xm _) ?_,rfl,q _ hf⟩
 exact⟨z,us,r,⟨_,Xr _ rfl,rfl,⟨_,rfl⟩,rfl⟩⟩
theorem Kd(h:PA X es t):PE X (.List es pos) (tLst t):=by
 intro pins s σ H Q I hq
 refine wpAny_List_spliced (dA (h pos pins s σ H _ I hq) λus s1 ⟨xs,H1,I1,r,z,q⟩=>⟨by rw[<- r.length];exact z,?_⟩)
 have hf:H1 s1.heap.objs.size=Y:=I1.hok.fresh (Xm _)
 refine⟨.ref s1.heap.objs.size,upd H1 s1.heap.objs.size (.lst xs),I1.laid (t':=s1.toks) (λb u e=>Xh _ e) (Xm _) ?_,rfl,q _ hf⟩
 exact⟨z,us,0,r,Xr _ rfl⟩
end
noncomputable abbrev Sp:=List V->Hp->VK->XK->Prop
noncomputable abbrev IQ:=List Env->Hp->gV->XK->bd->gV->Prop
structure RS(P:vx)(w:Gs)(K:QF)(mg:Str->Option bd)(base:Jq)(A:IN)(outer:List Env)(s:gV)(H:Hp):Prop where
 frames:A.frames=U outer
 mod:Mod K mg base
 bs:∀ b o,base.get? b=U o->s.heap.get? b=U o/\H b=Y
 bsz:base.objs.size<=s.heap.objs.size
 funs:s.heap.FunFrames base outer
 frf:∀ b∈tK outer,H b=Y
 hok:HOk P w H s.heap
 bare:AllBare s.gens
def CE(outer:List Env)(P:vx)(w:Gs)(H:Hp)(s:gV)(Q:VK)(u:bd)(s':gV):Prop:=
 ∃ v H',s'.os=s.os/\AllBare s'.gens/\Un (tK outer) [] H H' s.heap s'.heap/\HOk P w H' s'.heap/\RelV v u/\Q v H'
def CR(CX:IQ)(outer:List Env)(P:vx)(w:Gs)(H:Hp)(s:gV)(Q:VK)(E:XK)(r:Result)(s':gV):Prop:=
 match r with
 | .ok (.ret u)=>CE outer P w H s Q u s'
 | .ok _=>False
 | .error e=>CX outer H s E e s'
structure FnOk(P:vx)(w:Gs)(K:QF)(mg:Str->Option bd)(base:Jq)(CX:IQ)(k:Nat)(f:td)(fd:FuncData)(ps:List Str)(sp:Sp):Prop where
 len:∀ vs H Q E,sp vs H Q E->vs.length=ps.length
 run:∀ (A:IN) (outer:List Env) (s:gV) (H:Hp) (args:Args) (us:List bd) (vs:List V) (Q:VK) (E:XK),Room k A->RS P w K mg base A outer s H->BindsTo s fd args (ps.zip us)->Vals vs us->sp vs H Q E ->
  codeAny (model P w) A (.call (.ref f) args) (CR CX outer P w H s Q E) s
theorem FnOk.mono{K:QF}{k:Nat}(F:FnOk P w K mg base CX j f fd ps sp)(h:j<=k) :
  FnOk P w K mg base CX k f fd ps sp:=⟨F.len,λA outer s H args us vs Q E hr=>F.run A outer s H args us vs Q E (hr.mono h)⟩
section
variable{X:Cx}{pins:List (td×Obj)}{σ:St}{H:Hp}{s s':gV}
theorem Inv.env0(I:Inv X pins σ H s):RS X.prog X.w X.K X.mg X.base X.A X.stack s H:=
 ⟨I.ok.frames,I.ok.mod,I.bs,XN I.ok.bsz I.sz,I.stack,I.stkFree,I.hok,I.bare⟩
theorem Inv.after(I:Inv X pins σ H s)(h:CE X.stack X.prog X.w H s Q u s'):EP X pins σ Q u s':=by
 obtain⟨v,H',os,bare,un,hok,r,q⟩:=h
 obtain⟨hh,g,d,t,os'⟩:=s'
 obtain rfl:os'=s.os:=os
 exact⟨v,H',I.call (h':=hh) (g':=g) (d':=d) (t':=t) (ch:=[]) un hok bare (λb z=>absurd z (by simp)),r,q⟩
end
def zq(sp:Sp)(dvs:List V)(E:XK)(t:TA):TE:=λσ H Q=>t σ H λvs H1=>sp (vs++dvs) H1 Q E
def Binds(K:QF)(fd:FuncData)(ps:List Str)(ds:List bd):Prop:=
 ∀ (s:gV) (us:List bd),K.In s.heap->(us++ds).length=ps.length->BindsTo s fd ⟨us,[]⟩ (ps.zip (us++ds))
theorem Binds.all{K:QF}{ps:List Str}(h:∀ us:List bd,us.length=ps.length->bindArgs fd ⟨us,[]⟩=pure (ps.zip us)):Binds K fd ps []:=λs us _ hl=>by
 rw[XW] at hl ⊢
 exact .of_eq (h us hl)
def yW(CX:IQ)(X:Cx)(E:XK):Prop:=∀ (pins:List (td×Obj)) (σ:St) (H:Hp) (s:gV) (e:bd) (s':gV),Inv X pins σ H s->CX X.stack H s E e s'->X.xe e s'
section
variable{X:Cx}{CX:IQ}{k:Nat}{f C:td}{fd:FuncData}{ps:List Str}{sp:Sp}{dvs:List V}{ds:List bd}{E:XK}{x m:Str}{p pos apos:Pos}{e o:tx}{es:List tx}{ta:TE}{t:TA}
theorem Cr{s:gV}(F:FnOk X.prog X.w X.K X.mg X.base CX k f fd ps sp)(hr:Room k X.A)(hb:Binds X.K fd ps ds)(hd:Vals dvs ds)(hx:yW CX X E)
  (I:Inv X pins σ H s) (r:Vals vs us) (h:sp (vs++dvs) H Q E):Qs (model X.prog X.w) X.A (call (.ref f) us) (EP X pins σ Q) X.xe s:=by
 have r2:Vals (vs++dvs) (us++ds):=r.append hd
 have hl:(us++ds).length=ps.length:=by rw[<- r2.length];exact F.len _ _ _ _ h
 refine aaZ (Zl (F.run X.A X.stack s H ⟨us,[]⟩ (us++ds) (vs++dvs) Q E hr I.env0 (hb s us I.kIn hl) r2 h) λr s' hq=>?_)
 cases r with
 | error e=>exact hx pins σ H s e s' I hq
 | ok fl=>
  cases fl with
  | ret u=>exact I.after hq
  | next=>exact False.elim hq
  | brk=>exact False.elim hq
  | cont=>exact False.elim hq
theorem Ps(F:FnOk X.prog X.w X.K X.mg X.base CX k f fd ps sp)(hr:Room k X.A)(hg:Gl X x)(hm:X.mg x=U (.ref f))(hk:W.keepIn X.K (.ref f)=true)(hb:Binds X.K fd ps ds)(hd:Vals dvs ds)(hx:yW CX X E)
  (ha:PA X (e::es) t) (hdb:(x==("__debug__":Str))=false:=by decide) (he:KZ (e::es) X.env=(false,eval e X.env)::KZ es X.env:=by rfl) (hpl:(backTo pos (KZ es X.env)).any (·.1)=false:=by rfl) :
  PE X (.Call (.Name x p) (e::es) [] pos) (zq sp dvs E t):=by
 intro pins s σ H Q I h
 refine YF (oR I hg hm ?_ hdb)
 refine abm (h₀:=X.base) I.ok.mod.kin hk (dA (ha pos pins s σ H _ I h) λus s1 ⟨vs,H1,I1,r,q⟩=>⟨I1.kIn,?_⟩) he hpl
 exact Cr F hr hb hd hx I1 r q
theorem Kj(F:FnOk X.prog X.w X.K X.mg X.base CX k f fd ps sp)(hr:Room k X.A)(hg:Gl X x)(hm:X.mg x=U (.ref f))(hk:W.keepIn X.K (.ref f)=true)(hb:Binds X.K fd ps ds)(hd:Vals dvs ds)(hx:yW CX X E)
  (hdb:(x==("__debug__":Str))=false:=by decide):PE X (.Call (.Name x p) [] [] pos) (zq sp dvs E tNil):=by
 intro pins s σ H Q I h
 refine YF (oR I hg hm ?_ hdb)
 exact W.callWith_K0 I.kIn hk (Cr (us:=[]) F hr hb hd hx I .nil h)
end
structure aN(N P:List Str)(sc:Scope):Prop where
 kind:sc.kind=.function
 co:sc.isCoroutine=false
 gen:sc.isGenerator=false
 nd:N.Nodup
 pre:N.take P.length=P
 par:∀ x∈P,sc.names.lookup x=U .local\/sc.names.lookup x=U .cell
 nofree:∀ y∈sc.names,y.2≠.free
theorem wD{kindOf:Str->Option NameKind}{x:Str}:∀ {binds:List (Str×bd)} {m:Str->Option bd},(∀ v,(x,v)∉binds)->bindL kindOf binds m x=m x
 | [],_,_=>rfl
 | (n,v)::r,m,h=>by
  unfold bindL
  rw[wD λw hw=>h w (Xf _ hw)]
  split
  ·have:x≠n:=by rintro rfl;exact h v Xi
   simp[this]
  ·rfl
theorem wF{kindOf:Str->Option NameKind}{x:Str}:∀ {binds:List (Str×bd)} {m:Str->Option bd},(∀ v,(x,v)∉binds)->bindC kindOf binds m x=m x
 | [],_,_=>rfl
 | (n,v)::r,m,h=>by
  unfold bindC
  rw[wF λw hw=>h w (Xf _ hw)]
  split
  ·rfl
  ·have:x≠n:=by rintro rfl;exact h v Xi
   simp[this]
theorem wE{kindOf:Str->Option NameKind}{x:Str}{v:bd}:∀ {P:List Str} {vs:List bd} {i:Nat} {m:Str->Option bd},P.Nodup->P[i]?=U x->vs[i]?=U v->kindOf x=U .local ->
  bindL kindOf (P.zip vs) m x=U v
 | [],_,_,_,_,h,_,_=>by simp at h
 | _::_,[],_,_,_,_,h,_=>by simp at h
 | p::P,w::vs,0,m,nd,h1,h2,hk=>by
  simp at h1 h2;subst h1;subst h2
  show bindL kindOf ((p,w)::P.zip vs) m p=_
  unfold bindL
  rw[wD λv hv=>(Zd.mp nd).1 (aaQ hv).1,Xq hk]
  simp
 | p::P,w::vs,i+1,m,nd,h1,h2,hk=>by
  show bindL kindOf ((p,w)::P.zip vs) m x=_
  unfold bindL
  exact wE (i:=i) (Zd.mp nd).2 (by simpa using h1) (by simpa using h2) hk
theorem wG{kindOf:Str->Option NameKind}{x:Str}{v:bd}:∀ {P:List Str} {vs:List bd} {i:Nat} {m:Str->Option bd},P.Nodup->P[i]?=U x->vs[i]?=U v->kindOf x≠U .local ->
  bindC kindOf (P.zip vs) m x=U v
 | [],_,_,_,_,h,_,_=>by simp at h
 | _::_,[],_,_,_,_,h,_=>by simp at h
 | p::P,w::vs,0,m,nd,h1,h2,hk=>by
  simp at h1 h2;subst h1;subst h2
  show bindC kindOf ((p,w)::P.zip vs) m p=_
  unfold bindC
  rw[wF λv hv=>(Zd.mp nd).1 (aaQ hv).1,if_neg hk]
  simp
 | p::P,w::vs,i+1,m,nd,h1,h2,hk=>by
  show bindC kindOf ((p,w)::P.zip vs) m x=_
  unfold bindC
  exact wG (i:=i) (Zd.mp nd).2 (by simpa using h1) (by simpa using h2) hk
def start(N:List Str)(vs:List V):St:=vs.map U++Si (N.length - vs.length) Y
def qW(CX:IQ)(P:vx)(w:Gs)(K:QF)(mg:Str->Option bd)(base:Jq)(N:List Str)(qual:Str)(scope:Scope)(f:td)(cd:bd)(A:IN)(outer:List Env)(s:gV)(H:Hp)(E:XK):Cx where
 prog:=P
 w:=w
 K:=K
 mg:=mg
 base:=base
 A:=A.deeper (envOfC qual scope s.heap.objs.size f cd)
 N:=N
 s₀:=s
 H₀:=H
 env:=envOfC qual scope s.heap.objs.size f cd
 outer:=outer
 stack:=envOfC qual scope s.heap.objs.size f cd::outer
 ex:=[]
 calm:=true
 fn:=λ_=>true
 pn:=[]
 xe:=λe s'=>Qs (model P w) (A.deeper (envOfC qual scope s.heap.objs.size f cd)) (leaving (envOfC qual scope s.heap.objs.size f cd) e) (λ_ s''=>CX outer H s E e s'') (λe' s''=>CX outer H s E e' s'') s'
theorem BA{sc:Scope}(h:sc.names.lookup x=U .cell):∃ c,(cellsFrom n sc.names []).lookup x=U c:=by
 have q:=W.cellsFrom_some sc.names n [] (.inl h)
 exact YN.mp q
theorem HE{K:QF}{A:IN}{s:gV}{vs:List V}
  (S:aN N ps scope) (hd:A.handled=Y) (e0:RS P w K mg base A outer s H) (hl:vs.length=ps.length) (r:Vals vs us)
  (x:InCallC s s.heap.objs.size (bindL (envOfC qual scope s.heap.objs.size f cd).kindOf (ps.zip us) λ_=>Y) (cellsFrom (s.heap.objs.size+1) scope.names []) (bindC (envOfC qual scope s.heap.objs.size f cd).kindOf (ps.zip us) λ_=>Y) s1) :
  Inv (qW CX P w K mg base N qual scope f cd A outer s H E) [] (start N vs) H s1:=by
 have hpl:ps.length<=N.length:=by have:=congrArg List.length S.pre;rw[Yf] at this;omega
 obtain⟨h1,tk,rfl,hk⟩:=x.done
 have noA:∀ b:td,b∉(qW CX P w K mg base N qual scope f cd A outer s H E).ex:=λb z=>absurd (show b∈([]:List td) from z) (by simp)
 refine⟨⟨e0.mod,S.kind,rfl,rfl,Xm _,λy z c h1 h2=>?_,λy hy=>?_,λy c _ h=>?_,λ_=>hd,Around.frames_deeper e0.frames,.inr ⟨rfl,rfl⟩,λb z=>absurd z (noA b),e0.bs,e0.bsz,λb _ _=>noA b,λb z=>absurd z (noA b),e0.funs,e0.frf⟩,
  rfl,e0.bare,Un.kept hk,⟨_,x.toInCall.ns,λi y v h1 h2 h3=>?_⟩,λy c h=>⟨_,x.cell y c h⟩,e0.hok.fresh (Xm _),λy c h=>?_,λp hp=>absurd (show p∈([]:List (td×Obj)) from hp) (by simp),e0.hok.kept hk,?_⟩
 ·exact name_of_addr x.apart (YR h1) (YR h2)
 ·have hy:scope.names.lookup y=U .cell\/scope.names.lookup y=U .free:=hy
  rcases hy with hy | hy
  ·exact BA hy
  ·exact absurd rfl (S.nofree _ (YR hy))
 ·exact aat (x.above y c (YR h))
 ·have hi:i<vs.length:=by
   unfold start at h2
   by_cases hi:i<vs.length
   ·exact hi
   ·rw[XJ (by simpa using hi)] at h2
    rw[List.getElem?_replicate] at h2
    split at h2<;>cases h2
  have ha:vs[i]?=U v:=by
   unfold start at h2
   rw[Xv (by simpa using hi),Yl] at h2
   cases e:vs[i]? with
   | none=>rw[e] at h2;cases h2
   | some a=>rw[e] at h2;cases h2;rfl
  obtain⟨u,hu,rv⟩:=r.get ha
  have hp:ps[i]?=U y:=by
   rw[<- S.pre,abb (by omega)];exact h1
  have ndP:ps.Nodup:=by rw[<- S.pre];exact S.nd.sublist (List.take_sublist _ _)
  refine⟨u,rv,?_⟩
  rcases S.par y (Xz hp) with k | k
  ·exact .inl ⟨k,wE ndP hp hu k⟩
  ·obtain⟨c,e⟩:=BA (n:=s.heap.objs.size+1) k
   refine .inr ⟨.inl k,c,e,?_⟩
   have q:=x.cell y c e
   rw[wG ndP hp hu (by show scope.names.lookup y≠_;rw[k];decide)] at q
   exact q
 ·exact e0.hok.fresh (aat (x.above y c (YR h)))
 ·unfold start
  show _=N.length
  rw[XM,Xn,List.length_replicate]
  omega
theorem SK{K:QF}{k:Nat}{kV oc:bd}{od:Option td}
  {osl:Array (Option bd)} {sp:Sp} (lk:K.lookup f=U ⟨oc,od,.func (W.fnOf name qual params body scope dV kV doc pm an cdv ct),osl⟩) (hcd:W.codeIn K cdv qual=true) (S:aN N ps scope)
  (len:∀ vs H Q E,sp vs H Q E->vs.length=ps.length)
  (hbody:∀ (A:IN) (outer:List Env) (s:gV) (H:Hp) (vs:List V) (Q:VK) (E:XK),Room k (A.deeper (envOfC qual scope s.heap.objs.size f cdv))->sp vs H Q E ->
   ∃ t,PSs (qW CX P w K mg base N qual scope f cdv A outer s H E) body t/\t { nx:=λ_ H'=>Q .non H',rt:=Q } (start N vs) H) :
  FnOk P w K mg base CX (k+1) f (W.fnOf name qual params body scope dV kV doc pm an cdv ct) ps sp:=by
 refine⟨len,λA outer s H args us vs Q E hr e0 hb r hsp=>?_⟩
 have hl:=len _ _ _ _ hsp
 have KX:K.In s.heap:=e0.mod.kin.keeps λb o e=>(e0.bs b o e).1
 have lim:s.heap.NoLimit:=e0.mod.nolimit.keeps λb o e=>(e0.bs b o e).1
 have hkind:∀ y∈ps.zip us,scope.names.lookup y.1=U .local\/(scope.names.lookup y.1=U .cell/\((cellsFrom (s.heap.objs.size+1) scope.names []).lookup y.1).isSome=true):=λ⟨n,v⟩ hy=>by
  rcases S.par n (aaQ hy).1 with q | q
  ·exact .inl q
  ·exact .inr ⟨q,W.cellsFrom_some _ _ _ (.inl q)⟩
 refine codeAny_call_function hr.depth (KX _ _ lk) rfl S.co S.gen rfl (W.codeRec_of KX hcd) (hb _ _ _ _ ?_)
 refine wpAny_newFunctionEnv_cells S.kind hkind λenv he s1 x=>?_
 subst he
 refine⟨lim.keeps x.toInCall.keep,codeAny_func ?_⟩
 obtain⟨t,ht,hq⟩:=hbody A outer s H vs Q E (hr.deeper _) hsp
 have I:Inv (qW CX P w K mg base N qual scope f cdv A outer s H E) [] (start N vs) H s1:=HE S hr.hd e0 hl r x
 refine XQ (ht [] s1 (start N vs) H _ I hq) (λfl s' hs=>?_) λe s' hs=>hs
 have fin:∀ {σ':St} {H':Hp} {v:V} {u:bd},Inv (qW CX P w K mg base N qual scope f cdv A outer s H E) [] σ' H' s'->RelV v u->Q v H'->CE outer P w H s Q u s':=
  λ{σ' H' v u} J rv q=>⟨v,H',J.os,J.bare,J.base,J.hok,rv,q⟩
 cases fl with
 | ret u=>
  obtain⟨v,σ',H',J,rv,q⟩:=hs
  exact fin J rv q
 | next=>
  obtain⟨σ',H',J,q⟩:=hs
  exact fin (v:=V.non) (u:=Value.none) J rfl q
 | brk=>
  obtain⟨_,_,_,q⟩:=hs
  exact False.elim q
 | cont=>
  obtain⟨_,_,_,q⟩:=hs
  exact False.elim q
section
variable{X:Cx}{x:Str}{p pos:Pos}{e:tx}{es:List tx}{t:TA}{id T:String}{r:List V->Hp->VK->Prop}
def tCB(r:List V->Hp->VK->Prop)(t:TA):TE:=λσ H Q=>t σ H λvs H1=>r vs H1 Q
theorem oD(hc:CallR X (.builtin id) r)(hg:Gl X x)(hm:X.mg x=Y)(hv:bootBuiltins x=U (.builtin id))(ha:PA X (e::es) t)(hn:x≠"__name__":=by decide)(hdb:(x==("__debug__":Str))=false:=by decide)
  (he:KZ (e::es) X.env=(false,eval e X.env)::KZ es X.env:=by rfl) (hpl:(backTo pos (KZ es X.env)).any (·.1)=false:=by rfl):PE X (.Call (.Name x p) (e::es) [] pos) (tCB r t):=by
 intro pins s σ H Q I h
 refine YF (nJ I hg hm hv ?_ hn hdb)
 exact PyProof.Rows.callWith_builtin1 (dA (ha pos pins s σ H _ I h) λus s1 ⟨vs,H1,I1,r1,q1⟩=>hc pins s1 σ H1 vs us Q I1 r1 q1) he hpl
theorem GP(hc:CallR X (.type T) r)(hg:Gl X x)(hm:X.mg x=Y)(hv:bootBuiltins x=U (.type T))(ha:PA X (e::es) t)(hn:x≠"__name__":=by decide)(hdb:(x==("__debug__":Str))=false:=by decide)
  (he:KZ (e::es) X.env=(false,eval e X.env)::KZ es X.env:=by rfl) (hpl:(backTo pos (KZ es X.env)).any (·.1)=false:=by rfl):PE X (.Call (.Name x p) (e::es) [] pos) (tCB r t):=by
 intro pins s σ H Q I h
 refine YF (nJ I hg hm hv ?_ hn hdb)
 exact YD (dA (ha pos pins s σ H _ I h) λus s1 ⟨vs,H1,I1,r1,q1⟩=>hc pins s1 σ H1 vs us Q I1 r1 q1) he hpl
end
end L2
namespace HT
section
variable{prog:vx}{w:Gs}{A:IN}{E:bd->gV->Prop}{s:gV}
theorem RD{vs ws:List bd}{Q:bd->gV->Prop}(ht:IsTup s.heap t vs.toArray)(hb:IsTup s.heap b ws.toArray)(hv:vs≠[])
  (h1:ws=[]->Q (.ref t) s) (h2:ws≠[]->Q (.ref s.heap.objs.size) { s with heap:=s.heap.push { cls:=.type "tuple",data:=.seq (vs++ws).toArray } })
  (hsz:vs.length+ws.length<=KY):Qs (model prog w) A (PN .Add (.ref t) (.ref b)) Q E s:=by
 obtain⟨⟨cls,dd,data,sl⟩,ho,hc,n,hd⟩:=id ht
 obtain⟨⟨cls2,dd2,data2,sl2⟩,ho2,hc2,n2,hd2⟩:=id hb
 simp only at hc hd hc2 hd2
 subst hc hd hc2 hd2
 have e:vs.toArray++ws.toArray=(vs++ws).toArray:=by simp
 by_cases hw:ws=[]
 ·exact abk ⟨_,ho,rfl⟩ ⟨_,ho2,rfl⟩ aaz abc aaC aaq (aaj _ _)
   (tuple_addW1 t b vs.toArray ws.toArray n n2 dd dd2 sl sl2 (by simpa using hv) (by simp[hw])) ⟨ho,ho2,h1 hw⟩
 ·refine abk ⟨_,ho,rfl⟩ ⟨_,ho2,rfl⟩ aaz abc aaC aaq (aaj _ _)
   (tuple_addW2 t b vs.toArray ws.toArray n n2 dd dd2 sl sl2 (by simpa using hv) (by simpa using hw) (by rw[Xg,Xg];exact hsz)) ⟨ho,ho2,?_⟩
  rw[e]
  exact h2 hw
def eK(n d:Nat):Option Int->Nat
 | none=>d
 | some v=>if v<0 then(v+(n:Int)).toNat else min v.toNat n
theorem TK(n d:Nat)(hd:d<=n)(o:Option Int):eK n d o<=n:=by
 cases o with
 | none=>exact hd
 | some v=>
  show(if v<0 then(v+(n:Int)).toNat else min v.toNat n)<=n
  by_cases hv:v<0
  ·rw[Xq hv];omega
  ·rw[if_neg hv];exact Nat.min_le_right _ _
theorem FX(v:Int)(n d:Nat):(if v<0 then max (v+(n:Int)) 0 else min v (n:Int))=((eK n d (U v):Nat):Int):=by
 show(if v<0 then max (v+(n:Int)) 0 else min v (n:Int))=(((if v<0 then(v+(n:Int)).toNat else min v.toNat n):Nat):Int)
 by_cases hv:v<0
 ·simp only[Xq hv];omega
 ·simp only[if_neg hv];omega
theorem Ec(lo hi:Option Int)(n:Nat):Builtin.Slice.sliceAdjust lo hi 1 (n:Int)=(((eK n 0 lo:Nat):Int),((eK n n hi:Nat):Int)):=by
 have h1:¬ ((1:Int)<0):=by omega
 unfold Builtin.Slice.sliceAdjust
 simp only[h1,YG]
 refine Prod.ext ?_ ?_
 ·cases lo with
  | none=>rfl
  | some v=>exact FX v n 0
 ·cases hi with
  | none=>rfl
  | some v=>exact FX v n n
theorem CD(i j:Nat):Builtin.Slice.slicePlaces (i:Int) (j:Int) 1=j - i:=by
 unfold Builtin.Slice.slicePlaces
 have h1:(1:Int)>0:=by omega
 simp only[h1,ZZ,Int.ediv_one]
 split<;>omega
theorem rV{Q:Option Int->gV->Prop}(p:IsPart v o)(h:Q o s):Qs (model prog w) A (Builtin.Slice.slicePartIndex v) Q E s:=by
 cases p with
 | none=>exact slicePart_none h
 | int i t=>exact slicePart_int h
theorem jD{lo:Option Int}{n:Nat}{Q:Int×Int×Nat->gV->Prop}(hs:s.heap.IsSliceOf sl vl vu .none)(pl:IsPart vl lo)(pu:IsPart vu hi)
  (h:Q (((eK n 0 lo:Nat):Int),1,eK n n hi - eK n 0 lo) s):Qs (model prog w) A (Builtin.Slice.sliceApplied (.ref sl) (pure (n:Int))) Q E s:=by
 obtain⟨os,hos,hcs,hds⟩:=id hs
 unfold Builtin.Slice.sliceApplied Builtin.Slice.sliceFields
 refine Xd (Xd (XY hos hds (x:=vl) rfl (Xd (XY hos hds (x:=vu) rfl (Xd (XY hos hds (x:=.none) rfl (Xj ?_)))))))
 refine Xd (slicePart_none ?_)
 show Qs _ _ (if ((1:Int)==0)=true then _ else _) _ _ s
 rw[if_neg (by decide)]
 refine Xd (rV pl (Xd (rV pu (Xd (Xj ?_)))))
 show Qs _ _ (match Builtin.Slice.sliceAdjust lo hi 1 (n:Int) with | (lo,hi)=>pure (lo,(1:Int),Builtin.Slice.slicePlaces lo hi 1)) _ _ s
 rw[Ec lo hi n]
 show Qs _ _ (pure (((eK n 0 lo:Nat):Int),(1:Int),Builtin.Slice.slicePlaces ((eK n 0 lo:Nat):Int) ((eK n n hi:Nat):Int) 1)) _ _ s
 rw[CD]
 exact Xj h
theorem JX(xs:Array bd)(i k:Nat):((List.range k).filterMap λ(m:Nat)=>xs[((i:Int)+(m:Int)*1).toNat]?).toArray=((xs.toList.drop i).take k).toArray:=by
 have e:(λ(m:Nat)=>xs[((i:Int)+(m:Int)*1).toNat]?)=λm=>xs[i+m]?:=by
  funext m
  have:((i:Int)+(m:Int)*1).toNat=i+m:=by omega
  rw[this]
 rw[e]
 have:=pick_run xs i k
 rw[List.filterMap_map] at this
 have e2:((λx=>xs[x]?) ∘ λx=>i+x)=λm=>xs[i+m]?:=rfl
 rw[e2] at this
 rw[this]
theorem oX{lo:Option Int}{Q:bd->gV->Prop}(ht:IsTup s.heap t items)(hs:s.heap.IsSliceOf sl vl vu .none)(pl:IsPart vl lo)(pu:IsPart vu hi)
  (hw:¬ (eK items.size 0 lo=0/\eK items.size items.size hi=items.size))
  (h:Q (.ref s.heap.objs.size) { s with heap:=s.heap.push { cls:=.type "tuple",data:=.seq ((items.toList.drop (eK items.size 0 lo)).take (eK items.size items.size hi - eK items.size 0 lo)).toArray } })
  (hsz:items.size<=KY):Qs (model prog w) A (getItem (.ref t) (.ref sl)) Q E s:=by
 have htake:sizeOk (.seq ((items.toList.drop (eK items.size 0 lo)).take (eK items.size items.size hi - eK items.size 0 lo)).toArray):=by
  show((items.toList.drop (eK items.size 0 lo)).take (eK items.size items.size hi - eK items.size 0 lo)).toArray.size<=KY
  rw[Xg,Yf,Yp,ZB]
  omega
 have hj:eK items.size items.size hi<=items.size:=TK _ _ (Xm _) hi
 obtain⟨os,hos,hcs,hds⟩:=id hs
 have hTs:s.TypeIs (.ref sl) "slice":=⟨os,hos,hcs⟩
 unfold getItem
 try with_reducible refine Yx ?_
 first | refine Xd (Xj ?_) | skip
 refine Xd (wpAny_sequenceKey ht.typeIs (by decide) ?_)
 refine Xd (Yg (name:=Str.ofString "__getitem__") ht.typeIs YM
  (Yu YM ht.typeIs abC ?_ (abM _ _)))
 show Qs _ _ (Builtin.Tuple.tupleItemsOf (.ref t) >>= _) _ _ s
 refine Xd (tupleItemsOf_ ht ?_)
 refine Xd (aar hTs ?_)
 rw[Xq (by decide)]
 refine Xd (jD hs pl pu ?_)
 have hno:¬ ((((eK items.size 0 lo:Nat):Int)==0&&(1:Int)==1&&(eK items.size items.size hi - eK items.size 0 lo)==items.size)=true):=by
  intro q
  rw[Xk,Xk] at q
  have q1:((eK items.size 0 lo:Nat):Int)=0:=eq_of_beq q.1.1
  have q2:eK items.size items.size hi - eK items.size 0 lo=items.size:=eq_of_beq q.2
  exact hw ⟨by omega,by omega⟩
 show Qs _ _ (if (((eK items.size 0 lo:Nat):Int)==0&&(1:Int)==1&&(eK items.size items.size hi - eK items.size 0 lo)==items.size)=true then _ else _) _ _ s
 rw[if_neg hno,JX]
 first
  | exact Xd (m:=Builtin.Tuple.tupleExact _) (XI (Xj ⟨_,rfl,Xj h⟩) htake)
  | exact Xd (m:=Builtin.Tuple.tupleExact _) (XI (Xd (Xj (Xj ⟨_,rfl,Xj h⟩))) htake)
  | exact Xd (Xd (m:=Builtin.Tuple.tupleExact _) (XI (Xj (Xj ⟨_,rfl,Xj h⟩)) htake))
  | exact Xd (Xd (m:=Builtin.Tuple.tupleExact _) (XI (Xj ⟨_,rfl,Xj h⟩) htake))
end
end HT
namespace L2
noncomputable abbrev TO:=St->Hp->(Option Int->Hp->Prop)->Prop
def PO(X:Cx)(e:Option tx)(t:TO):Prop:=
 ∀ (pins:List (td×Obj)) (s:gV) (σ:St) (H:Hp) (Q:Option Int->Hp->Prop),Inv X pins σ H s->t σ H Q ->
  Qs (model X.prog X.w) X.A (evalPart e X.env) (λu s'=>∃ o H',Inv X pins σ H' s'/\IsPart u o/\Q o H') X.xe s
def OD:TO:=λ_ H Q=>Q Y H
def tPart(t:TE):TO:=λσ H Q=>t σ H λx H1=>∃ i,x=.int i/\Q (U i) H1
section
variable{X:Cx}{e:tx}{te:TE}{lo hi:Option tx}{tl th:TO}{pos p2:Pos}
theorem Pl:PO X Y OD:=by
 intro pins s σ H Q I h
 rw[evalPart_none]
 exact Xj ⟨Y,H,I,.none,h⟩
theorem Pj(h:PE X e te):PO X (U e) (tPart te):=by
 intro pins s σ H Q I hw
 rw[evalPart_some]
 refine dA (h pins s σ H _ I hw) λu s1 ⟨x,H1,I1,r1,q1⟩=>?_
 obtain⟨i,rfl,q⟩:=q1
 obtain⟨t,rfl⟩:=r1
 exact⟨U i,H1,I1,.int i t,q⟩
def SlR(X:Cx)(r:V->Option Int->Option Int->Hp->VK->Prop):Prop:=
 ∀ (pins:List (td×Obj)) (s:gV) (σ:St) (H:Hp) (x:V) (v vl vu:bd) (lo hi:Option Int) (sl:td) (Q:VK),Inv X pins σ H s->RelV x v->s.heap.IsSliceOf sl vl vu .none->IsPart vl lo->IsPart vu hi->r x lo hi H Q ->
  ∃ T id,typeLookup (.type T) "__getitem__" = pure (U (.builtin id))/\s.TypeIs v T/\Qs (model X.prog X.w) X.A (getItem v (.ref sl)) (EP X pins σ Q) X.xe s
theorem SlR.or(h:SlR X r)(h':SlR X r'):SlR X (λx lo hi H Q=>r x lo hi H Q\/r' x lo hi H Q):=by
 intro pins s σ H x v vl vu lo hi sl Q I rx hs pl pu q
 rcases q with q | q
 ·exact h pins s σ H x v vl vu lo hi sl Q I rx hs pl pu q
 ·exact h' pins s σ H x v vl vu lo hi sl Q I rx hs pl pu q
def tSl(r:V->Option Int->Option Int->Hp->VK->Prop)(te:TE)(tl th:TO):TE:=λσ H Q=>te σ H λx H1=>tl σ H1 λl H2=>th σ H2 λu H3=>r x l u H3 Q
theorem Kc(hr:SlR X r)(he:PE X e te)(hl:PO X lo tl)(hu:PO X hi th):PE X (.Subscript e (.Slice lo hi Y p2) pos) (tSl r te tl th):=by
 intro pins s σ H Q I h
 refine Subscript_ (dA (he pins s σ H _ I h) λv s1 ⟨x,H1,I1,r1,q1⟩=>?_)
 refine wpAny_Slice (dA (hl pins s1 σ H1 _ I1 q1) λvl s2 ⟨l,H2,I2,pl,q2⟩=>dA (hu pins s2 σ H2 _ I2 q2) λvu s3 ⟨u,H3,I3,pu,q3⟩=>?_)
 rw[evalPart_none]
 refine Xj ?_
 have I4:Inv X pins σ H3 { s3 with heap:=s3.heap.push { cls:=.type "slice",data:=.fields #[vl,vu,.none] } }:=I3.kept (t':=s3.toks) λb ob q=>Xh _ q
 obtain⟨T,id,hT,ht,hg⟩:=hr pins { s3 with heap:=s3.heap.push { cls:=.type "slice",data:=.fields #[vl,vu,.none] } } σ H3 x v vl vu l u s3.heap.objs.size Q I4 r1 (Heap.IsSliceOf.new ..) pl pu q3
 show Qs (model X.prog X.w) X.A (subscriptTail e (.Slice lo hi Y p2) v (.ref s3.heap.objs.size)) (EP X pins σ Q) X.xe { s3 with heap:=s3.heap.push { cls:=.type "slice",data:=.fields #[vl,vu,.none] } }
 exact abK (ops:=[.ref s3.heap.objs.size,v]) ht hT hg (by with_unfolding_all rfl)
def By(xs:List V)(lo hi:Option Int):List V:=(xs.drop (HT.eK xs.length 0 lo)).take (HT.eK xs.length xs.length hi - HT.eK xs.length 0 lo)
theorem qH(xs:List V)(lo hi:Option Int):(By xs lo hi).length<=xs.length:=by
 unfold By
 rw[Yf,Yp]
 omega
def rSlT(K:QF):V->Option Int->Option Int->Hp->VK->Prop:=λx lo hi H Q=>∃ a xs,x=.ref a/\lv K H a xs /\
 ¬ (HT.eK xs.length 0 lo=0/\HT.eK xs.length xs.length hi=xs.length)/\∀ p,H p=Y->Q (.ref p) (upd H p (.tup (By xs lo hi)))
theorem TC:SlR X (rSlT X.K):=by
 intro pins s σ H x v vl vu lo hi sl Q I rx hs pl pu h
 obtain⟨a,xs,rfl,hx,hw,q⟩:=h
 cases rx
 obtain⟨its,r,ht,hz⟩:=I.tuple hx
 have hlen:its.toArray.size=xs.length:=by rw[Xg];exact r.length.symm
 refine⟨"tuple",_,PyProof.Rows.slot_tuple_getitem.lookup,ht.typeIs,?_⟩
 refine HT.oX ht hs pl pu (by rw[hlen];exact hw) ?_ (by rw[hlen];exact hz)
 rw[hlen]
 refine⟨.ref s.heap.objs.size,_,I.laid (t':=s.toks) (o:=.tup (By xs lo hi)) (λb ob q=>Xh _ q) (Xm _) ?_,rfl,q _ (I.hok.fresh (Xm _))⟩
 exact⟨XN (qH xs lo hi) hz,_,(r.drop (HT.eK xs.length 0 lo)).take (HT.eK xs.length xs.length hi - HT.eK xs.length 0 lo),IsTupN.new _ _⟩
def rCatT(K:QF):R2:=λx y H Q=>∃ a b xs ys,x=.ref a/\y=.ref b/\lv K H a xs/\lv K H b ys/\xs≠[]/\xs.length+ys.length<=KY /\
 (ys=[]->Q (.ref a) H)/\(ys≠[]->∀ p,H p=Y->Q (.ref p) (upd H p (.tup (xs++ys))))
theorem Vals.nil_iff(r:Vals xs us):us=[]↔xs=[]:=by
 cases r with
 | nil=>simp
 | cons _ _=>simp
theorem PC:OpR X (PN .Add) (rCatT X.K):=by
 intro pins s σ H x y v u Q I rx ry h
 obtain⟨a,b,xs,ys,rfl,rfl,ha,hb,hx,hz,q1,q2⟩:=h
 cases rx
 cases ry
 obtain⟨its,r1,p1,_⟩:=I.tuple ha
 obtain⟨its2,r2,p2,_⟩:=I.tuple hb
 refine HT.RD p1 p2 (λz=>hx (r1.nil_iff.mp z)) (λz=>⟨.ref a,H,I,rfl,q1 (r2.nil_iff.mp z)⟩) (λz=>?_) (by rw[<- r1.length,<- r2.length];exact hz)
 refine⟨.ref s.heap.objs.size,_,I.laid (t':=s.toks) (o:=.tup (xs++ys)) (λb ob q=>Xh _ q) (Xm _) ?_,rfl,q2 (λw=>z (r2.nil_iff.mpr w)) _ (I.hok.fresh (Xm _))⟩
 exact⟨by rw[XM];exact hz,_,r1.append r2,IsTupN.new _ _⟩
end
def HB(n:Nat)(i:Int):Option Nat:=if 0<=i then(if i<n then U i.toNat else Y) else if -(n:Int)<=i then U (i+n).toNat else Y
def oo{α:Type}(xs:List α)(i:Int):Option α:=(HB xs.length i).bind λj=>xs[j]?
theorem Fu{j:Nat}(h:HB n i=U j):seqIndex? i n=U j/\j<n/\-(n:Int)<=i/\i<n:=by
 unfold HB at h
 by_cases h0:0<=i
 ·rw[Xq h0] at h
  by_cases h1:i<n
  ·rw[Xq h1] at h
   have e:i.toNat=j:=XC h
   exact⟨by rw[abB h0 h1,e],by omega,by omega,h1⟩
  ·rw[if_neg h1] at h;cases h
 ·rw[if_neg h0] at h
  by_cases h1:-(n:Int)<=i
  ·rw[Xq h1] at h
   have e:(i+n).toNat=j:=XC h
   exact⟨by rw[abj (by omega) h1,e],by omega,h1,by omega⟩
  ·rw[if_neg h1] at h;cases h
theorem Gb{α:Type}{xs:List α}{i:Int}{v:α}(h:oo xs i=U v):∃ j,seqIndex? i xs.length=U j/\xs[j]?=U v/\j<xs.length/\-(xs.length:Int)<=i/\i<xs.length:=by
 unfold oo at h
 cases e:HB xs.length i with
 | none=>rw[e] at h;cases h
 | some j=>
  rw[e] at h
  obtain⟨h1,h2,h3,h4⟩:=Fu e
  exact⟨j,h1,h,h2,h3,h4⟩
def kY(b:tx):Prop:=∀ o i,subscripted b false o i=operate [o,i] (getItem o i)
def IxR(X:Cx)(r:R2):Prop:=
 ∀ (value slice:tx) (pins:List (td×Obj)) (s:gV) (σ:St) (H:Hp) (x y:V) (v u:bd) (Q:VK),Inv X pins σ H s->RelV x v->RelV y u->r x y H Q ->
  subscripted slice false v u=operate [v,u] (getItem v u)->Qs (model X.prog X.w) X.A (subscriptTail value slice v u) (EP X pins σ Q) X.xe s
def MtR(X:Cx)(id:String)(r:V->List V->Hp->VK->Prop):Prop:=
 ∀ (pins:List (td×Obj)) (s:gV) (σ:St) (H:Hp) (x:V) (xs:List V) (v:bd) (us:List bd) (Q:VK),Inv X pins σ H s->RelV x v->Vals xs us->r x xs H Q ->
  Qs (model X.prog X.w) X.A (call (.builtin id) (v::us)) (EP X pins σ Q) X.xe s
section
variable{X:Cx}{a b:tx}{ta tb:TE}{pos:Pos}
theorem IxR.or(h:IxR X r)(h':IxR X r'):IxR X (λx y H Q=>r x y H Q\/r' x y H Q):=by
 intro value slice pins s σ H x y v u Q I rx ry q hs
 rcases q with q | q
 ·exact h value slice pins s σ H x y v u Q I rx ry q hs
 ·exact h' value slice pins s σ H x y v u Q I rx ry q hs
theorem Ex(hr:IxR X r)(ha:PE X a ta)(hb:PE X b tb)(hs:kY b):PE X (.Subscript a b pos) (tOp r ta tb):=by
 intro pins s σ H Q I h
 exact Subscript_ (WJ ha hb I h λv u s2 x y H2 I2 rx ry q=>hr a b pins s2 σ H2 x y v u Q I2 rx ry q (hs _ _))
def rIxL(K:QF):R2:=λx y H Q=>∃ p xs i v,x=.ref p/\y=.int i/\mT K H p xs/\oo xs i=U v/\Q v H
def rIxT(K:QF):R2:=λx y H Q=>∃ p xs i v,x=.ref p/\y=.int i/\lv K H p xs/\oo xs i=U v/\Q v H
theorem ix_list:IxR X (rIxL X.K):=by
 intro value slice pins s σ H x y v u Q I rx ry h hs
 obtain⟨p,xs,i,z,rfl,rfl,hq,he,q⟩:=h
 cases rx
 obtain⟨t,rfl⟩:=ry
 obtain⟨its,r,pl,hz⟩:=I.list hq
 obtain⟨j,h1,h2,h3,h4,h5⟩:=Gb he
 obtain⟨w,ew,rw'⟩:=r.get h2
 have hl:=r.length
 have hn:=pW
 have fin:EP X pins σ Q w s:=⟨z,H,I,rw',q⟩
 by_cases h0:0<=i
 ·have hj:i.toNat=j:=by
   rw[abB h0 h5] at h1
   exact XC h1
  exact item_listR pl.isList h0 (by omega) (by rw[hj];simpa using ew) fin hs
 ·have hj:(i+(its.toArray.size:Int)).toNat=j:=by
   rw[abj (by omega) h4] at h1
   rw[Xg,<- hl]
   exact XC h1
  exact abh (x:=w) pl.isList.typeIs slot_list_getitem.lookup
   (wpAny_getItem_list_neg (Q:=λr s'=>r=w/\EP X pins σ Q r s') pl.isList (by omega) (by rw[Xg]<;>omega) (by omega) (by rw[hj];simpa using ew) ⟨rfl,fin⟩) hs
theorem Vl:IxR X (rIxT X.K):=by
 intro value slice pins s σ H x y v u Q I rx ry h hs
 obtain⟨p,xs,i,z,rfl,rfl,hq,he,q⟩:=h
 cases rx
 obtain⟨t,rfl⟩:=ry
 obtain⟨its,r,pl,hz⟩:=I.tuple hq
 obtain⟨j,h1,h2,h3,h4,h5⟩:=Gb he
 obtain⟨w,ew,rw'⟩:=r.get h2
 have hl:=r.length
 have hn:=pW
 have fin:EP X pins σ Q w s:=⟨z,H,I,rw',q⟩
 exact abh (x:=w) pl.typeIs slot_tuple_getitem.lookup
  (getItem_tuple (j:=j) (Q:=λr s'=>r=w/\EP X pins σ Q r s') pl (by omega) (by omega) (by rw[Xg,<- hl];exact h1) (by simpa using ew) ⟨rfl,fin⟩) hs
theorem CT(its:List bd)(n j:Nat)(u:bd):Obj.mapSeq (·.setIfInBounds j u) { cls:=.type "list",data:=.seq its.toArray n } = { cls:=.type "list",data:=.seq (its.set j u).toArray n }:=by
 simp[Obj.mapSeq]
theorem Inv.lst{s:gV}(I:Inv X pins σ H s)(h:H p=U (.lst xs)) :
  ∃ (its:List bd) (n:Nat),Vals xs its/\s.heap.get? p=U { cls:=.type "list",data:=.seq its.toArray n }/\xs.length<=KY:=by
 obtain⟨z,its,n,r,e⟩:=I.hok p _ h
 exact⟨its,n,r,e,z⟩
theorem Inv.lstUpd{s:gV}{its its':List bd}{f:Obj->Obj}(I:Inv X pins σ H s)(h:H p=U (.lst xs))
  (ho:s.heap.get? p=U { cls:=.type "list",data:=.seq its.toArray n }) (hf:f { cls:=.type "list",data:=.seq its.toArray n } = { cls:=.type "list",data:=.seq its'.toArray n' }) (r:Vals ys its') (hz:ys.length<=KY) (t:Nat) :
  Inv X pins σ (upd H p (.lst ys)) { s with heap:=s.heap.update p f,toks:=t }:=by
 have e:(s.heap.update p f).get? p=U { cls:=.type "list",data:=.seq its'.toArray n' }:=by
  rw[XG f ho (by rw[hf]<;>rfl),hf]
 refine I.write (x:=p) (e:=p) (by rw[h];trivial) (.inl rfl) (λb u hb q=>(Xy _ _ (Ne.symm hb)).trans q) ⟨_,e⟩ ?_
 exact⟨hz,its',n',r,e⟩
def rSetL:V->V->V->Hp->(Hp->Prop)->Prop:=λo i v H Q=>∃ p xs k j,o=.ref p/\i=.int k/\H p=U (.lst xs)/\HB xs.length k=U j/\Q (upd H p (.lst (xs.set j v)))
theorem Jz:WV X rSetL:=by
 intro pins s σ H o i v ov iv u Q I ro ri rv h
 obtain⟨p,xs,k,j,rfl,rfl,hp,hj,q⟩:=h
 cases ro
 obtain⟨t,rfl⟩:=ri
 obtain⟨its,n,r,ho,hz⟩:=I.lst hp
 obtain⟨h1,h2,h3,h4⟩:=Fu hj
 have hl:=r.length
 have hn:=pW
 have I':Inv X pins σ (upd H p (.lst (xs.set j v))) { s with heap:=s.heap.update p (Obj.mapSeq (·.setIfInBounds j u)) }:=
  I.lstUpd hp ho (CT its n j u) (r.set rv j) (by rw[List.length_set];exact hz) s.toks
 by_cases h0:0<=k
 ·have hk:k.toNat=j:=by
   rw[abB h0 h4] at h1
   exact XC h1
  exact W.ki_setAt ho h0 (by omega) (by rw[Xg,<- hl];exact h4) (by rw[hk];exact⟨_,I',q⟩)
 ·have hk:(k+(its.toArray.size:Int)).toNat=j:=by
   rw[abj (by omega) h3] at h1
   rw[Xg,<- hl]
   exact XC h1
  exact W.ki_setBack ho (by omega) (by rw[Xg,<- hl];exact h3) (by omega) (by rw[hk];exact⟨_,I',q⟩)
theorem wO(lo hi:Option Int)(n:Nat):(sliceBounds lo hi Y n).1=((HT.eK n 0 lo:Nat):Int)/\(sliceBounds lo hi Y n).2.1=((HT.eK n n hi:Nat):Int)/\(sliceBounds lo hi Y n).2.2=1:=by
 refine⟨?_,?_,rfl⟩
 ·cases lo with
  | none=>simp[sliceBounds,HT.eK]
  | some i=>
   simp only[sliceBounds,HT.eK,Option.getD_none,show(1:Int)>0 by decide,ZZ]
   by_cases h:i<0
   ·simp only[h,ZZ]<;>omega
   ·simp only[h,YG]<;>omega
 ·cases hi with
  | none=>simp[sliceBounds,HT.eK]
  | some i=>
   simp only[sliceBounds,HT.eK,Option.getD_none,show(1:Int)>0 by decide,ZZ]
   by_cases h:i<0
   ·simp only[h,ZZ]<;>omega
   ·simp only[h,YG]<;>omega
theorem uA(its:List bd)(lo hi:Option Int):slicePick its.toArray lo hi Y=((its.drop (HT.eK its.length 0 lo)).take (HT.eK its.length its.length hi - HT.eK its.length 0 lo)).toArray:=by
 obtain⟨h1,h2,h3⟩:=wO lo hi its.toArray.size
 unfold slicePick
 rw[h1,h2,h3]
 simp only[sliceRange_one,pick_run,Xg]<;>rfl
def rSlL(K:QF):V->Option Int->Option Int->Hp->VK->Prop:=λx lo hi H Q=>∃ a xs,x=.ref a/\mT K H a xs/\∀ p,H p=Y->Q (.ref p) (upd H p (.lst (By xs lo hi)))
theorem OJ:SlR X (rSlL X.K):=by
 intro pins s σ H x v vl vu lo hi sl Q I rx hs pl pu h
 obtain⟨a,xs,rfl,hx,q⟩:=h
 cases rx
 obtain⟨its,r,ht,hz⟩:=I.list hx
 have hlen:=r.length
 refine⟨"list",_,slot_list_getitem.lookup,ht.isList.typeIs,?_⟩
 refine wpAny_getItem_list_slice ht.isList hs pl pu .none (by simp) ?_ (by rw[Xg]<;>omega)
 rw[uA,<- hlen]
 refine⟨.ref s.heap.objs.size,_,I.laid (t':=s.toks) (o:=.lst (By xs lo hi)) (λb ob q=>Xh _ q) (Xm _) ?_,rfl,q _ (I.hok.fresh (Xm _))⟩
 exact⟨XN (qH xs lo hi) hz,_,0,(r.drop (HT.eK xs.length 0 lo)).take (HT.eK xs.length xs.length hi - HT.eK xs.length 0 lo),Xr _ rfl⟩
theorem call_len_seq:CallR X (.builtin "len") (λxs H Q=>∃ p ys,xs=[.ref p]/\(mT X.K H p ys\/lv X.K H p ys)/\Q (.int ys.length) H):=by
 intro pins s σ H xs us Q I r h
 obtain⟨p,ys,rfl,hq,q⟩:=h
 obtain⟨u,rfl,rx⟩:=oq r
 cases rx
 have hn:=pW
 rcases hq with hq | hq
 ·obtain⟨its,r',pl,hz⟩:=I.list hq
  have hlen:=r'.length
  exact Calls.call_len_list pl.isList (by simp only[Xg]<;>omega) ⟨.int ys.length,H,I.tok _,⟨s.toks+1,by rw[Xg,hlen]⟩,q⟩
 ·obtain⟨its,r',pl,hz⟩:=I.tuple hq
  have hlen:=r'.length
  exact len_tuple pl (by simp only[Xg]<;>omega) ⟨.int ys.length,H,I.tok _,⟨s.toks+1,by rw[Xg,hlen]⟩,q⟩
theorem yQ:CallR X (.builtin "len") (λxs H Q=>∃ z,xs=[.str z]/\z.length<=KY/\Q (.int z.length) H):=by
 intro pins s σ H xs us Q I r h
 obtain⟨z,rfl,hz,q⟩:=h
 obtain⟨u,rfl,t,rfl⟩:=oq r
 have hn:=pW
 exact len_str (by omega) ⟨.int z.length,H,I.tok _,⟨_,rfl⟩,q⟩
theorem CallR.or(h:CallR X f r)(h':CallR X f r'):CallR X f (λxs H Q=>r xs H Q\/r' xs H Q):=by
 intro pins s σ H xs us Q I rs q
 rcases q with q | q
 ·exact h pins s σ H xs us Q I rs q
 ·exact h' pins s σ H xs us Q I rs q
theorem yP:CallR X (.type "list") (λxs H Q=>∃ p ys,xs=[.ref p]/\(mT X.K H p ys\/lv X.K H p ys)/\∀ l,H l=Y->Q (.ref l) (upd H l (.lst ys))):=by
 intro pins s σ H xs us Q I r h
 obtain⟨p,ys,rfl,hq,q⟩:=h
 obtain⟨u,rfl,rx⟩:=oq r
 cases rx
 have fin:∀ (its:List bd),Vals ys its->ys.length<=KY->∀ (h':Jq) (c':Nat),(∀ b o',s.heap.get? b=U o'->h'.get? b=U o') ->
   h'.get? s.heap.objs.size=U { cls:=.type "list",dict:=Y,data:=.seq its.toArray c',slots:=#[] }->EP X pins σ Q (.ref s.heap.objs.size) { s with heap:=h' }:=λits r' hz h' c' kp e=>
  ⟨.ref s.heap.objs.size,_,I.laid (t':=s.toks) kp (Xm _) (show ObjOk X.prog X.w _ h' _ (.lst ys) from ⟨hz,its,c',r',e⟩),rfl,q _ (I.hok.fresh (Xm _))⟩
 rcases hq with hq | hq
 ·obtain⟨its,r',pl,hz⟩:=I.list hq
  have hlen:=r'.length
  obtain⟨o,ho,hc,n,hd⟩:=pl.isList
  exact call_list_seq p (.inl rfl) ho hc hd (λh' c' kp e=>fin its r' hz h' c' kp e) (by simp only[Xg]<;>omega)
 ·obtain⟨its,r',pl,hz⟩:=I.tuple hq
  have hlen:=r'.length
  obtain⟨o,ho,hc,n,hd⟩:=pl
  exact call_list_seq p (.inr rfl) ho hc hd (λh' c' kp e=>fin its r' hz h' c' kp e) (by simp only[Xg]<;>omega)
theorem vi:CallR X (.type "tuple") (λxs H Q=>∃ p ys,xs=[.ref p]/\((mT X.K H p ys/\∀ l,H l=Y->Q (.ref l) (upd H l (.tup ys)))\/(lv X.K H p ys/\Q (.ref p) H))):=by
 intro pins s σ H xs us Q I r h
 obtain⟨p,ys,rfl,h⟩:=h
 obtain⟨u,rfl,rx⟩:=oq r
 cases rx
 rcases h with ⟨hq,q⟩ | ⟨hq,q⟩
 ·obtain⟨its,r',pl,hz⟩:=I.list hq
  have hlen:=r'.length
  refine call_tuple_list pl.isList (λh' kp=>?_) (by simp only[Xg]<;>omega)
  have I1:Inv X pins σ H { s with heap:=h' }:=I.kept (t':=s.toks) kp
  have I2:Inv X pins σ (upd H h'.objs.size (.tup ys)) { s with heap:=h'.push { cls:=.type "tuple",data:=.seq its.toArray } }:=
   I1.laid (t':=s.toks) (λb o e=>Xh _ e) (Xm _) (show ObjOk X.prog X.w _ _ _ (.tup ys) from ⟨hz,its,r',IsTupN.new _ _⟩)
  exact⟨.ref h'.objs.size,_,I2,rfl,q _ (I1.hok.fresh (Xm _))⟩
 ·obtain⟨its,r',pl,hz⟩:=I.tuple hq
  exact call_tuple_same pl ⟨.ref p,H,I,rfl,q⟩
def tyV(K:QF)(T:String)(x:V)(H:Hp):Prop:=match x with
 | .str _=>T = "str"
 | .int _=>T = "int"
 | .ref p=>(T = "list"/\∃ xs,mT K H p xs)\/(T = "tuple"/\∃ o,K.lookup p=U o/\o.cls=.type "tuple"/\o.dict=Y) \/
   (T = "dict"/\((∃ kvs,H p=U (.dK kvs))\/∃ kvs,H p=U (.dT kvs)))\/(T = "set"/\∃ S n,H p=U (.set S n))
 | _=>False
theorem Je{s:gV}(I:Inv X pins σ H s)(r:RelV x v)(ty:tyV X.K T x H) :
  s.TypeIs v T/\∀ a,v=.ref a->∃ ob,s.heap.get? a=U ob/\ob.dict=Y:=by
 cases x with
 | str z=>
  obtain⟨t,rfl⟩:=r
  cases(show T = "str" from ty)
  exact⟨typeIs_str s z t,λ_ e=>nomatch e⟩
 | int i=>
  obtain⟨t,rfl⟩:=r
  cases(show T = "int" from ty)
  exact⟨aao s i t,λ_ e=>nomatch e⟩
 | ref p=>
  cases r
  rcases ty with ⟨rfl,xs,hq⟩ | ⟨rfl,o,hk,hc,hd⟩ | ⟨rfl,hk⟩ | ⟨rfl,S,n,hk⟩
  ·obtain⟨its,_,pl,_⟩:=I.list hq
   refine⟨pl.isList.typeIs,λa e=>?_⟩
   cases e
   obtain⟨o,n,e,c,hd,_⟩:=pl
   exact⟨o,e,hd⟩
  ·refine⟨⟨o,I.kIn p o hk,hc⟩,λa e=>?_⟩
   cases e
   exact⟨o,I.kIn _ o hk,hd⟩
  ·have z:∃ o,s.heap.get? p=U o/\o.ExactDict:=by
    rcases hk with ⟨kvs,hk⟩ | ⟨kvs,hk⟩
    ·obtain⟨_,_,_,_,o,_,_,e,ex,_⟩:=I.hok p _ hk
     exact⟨o,e,ex⟩
    ·obtain⟨_,_,_,_,o,_,_,e,ex,_⟩:=I.hok p _ hk
     exact⟨o,e,ex⟩
   obtain⟨o,e,ex⟩:=z
   refine⟨⟨o,e,ex.1⟩,λa e2=>?_⟩
   cases e2
   exact⟨o,e,ex.2.1⟩
  ·obtain⟨o,_,_,_,e,ex,_⟩:=I.hok p _ hk
   refine⟨⟨o,e,ex.1⟩,λa e2=>?_⟩
   cases e2
   exact⟨o,e,ex.2.1⟩
 | _=>exact False.elim ty
def tBM0(K:QF)(T:String)(r:V->List V->Hp->VK->Prop)(to:TE):TE:=λσ H Q=>to σ H λx H1=>tyV K T x H1/\r x [] H1 Q
def tBM(K:QF)(T:String)(r:V->List V->Hp->VK->Prop)(to:TE)(t:TA):TE:=λσ H Q=>to σ H λx H1=>tyV K T x H1/\t σ H1 λxs H2=>r x xs H2 Q
variable{o e:tx}{es:List tx}{to:TE}{t:TA}{name:Str}{apos cpos:Pos}{T id:String}{r:V->List V->Hp->VK->Prop}
theorem Ui(pa:PlainAttrs T)(slot:Slot T name id)(hty:typeOf (.builtin id)=pure (.type "method_descriptor"))(hm:MtR X id r)(ho:PE X o to)
  (hbase:attributeBase o name X.env (eval o X.env)=eval o X.env:=by rfl) (hline:(apos.endLine==cpos.line)=true:=by rfl):PE X (.Call (.Attribute o name apos) [] [] cpos) (tBM0 X.K T r to):=by
 intro pins s σ H Q I h
 refine wpAny_Call_method0_late hbase hline (dA (ho pins s σ H _ I h) λv s1 ⟨x,H1,I1,r1,ty,q1⟩=>?_)
 obtain⟨h1,h2⟩:=Je I1 r1 ty
 exact⟨T,id,pa,slot,hty,h1,h2,ZN rfl (PySem.evalArgs_none (hm pins s1 σ H1 x [] v [] Q I1 r1 .nil q1))⟩
theorem pe_bm(pa:PlainAttrs T)(slot:Slot T name id)(hty:typeOf (.builtin id)=pure (.type "method_descriptor"))(hm:MtR X id r)(ho:PE X o to)(ha:PA X (e::es) t)
  (hbase:attributeBase o name X.env (eval o X.env)=eval o X.env:=by rfl)
  (hfew:((backTo cpos (KZ (e::es) X.env)).all (λx=>!x.1)&&(backToKw cpos (keywordEach [] X.env)).all (λx=>x.1.isSome)
  &&decide ((e::es).length+([]:List Keyword).length+(if ([]:List Keyword).isEmpty then 0 else 1)<30))=true:=by rfl)
  (hline:(apos.endLine==cpos.line)=true:=by rfl) (hs:KZ (e::es) X.env=(false,eval e X.env)::KZ es X.env:=by rfl) (hplain:(backTo cpos (KZ es X.env)).any (·.1)=false:=by rfl) :
  PE X (.Call (.Attribute o name apos) (e::es) [] cpos) (tBM X.K T r to t):=by
 intro pins s σ H Q I h
 refine abg hbase hfew hline rfl (dA (ho pins s σ H _ I h) λv s1 ⟨x,H1,I1,r1,ty,q1⟩=>?_)
 obtain⟨h1,h2⟩:=Je I1 r1 ty
 refine⟨T,id,pa,slot,hty,h1,h2,?_⟩
 have hA:=ha cpos pins s1 σ H1 _ I1 q1
 rw[hs] at hA ⊢
 refine ZN (by show(false||(backTo cpos (KZ es X.env)).any (·.1))=false;rw[hplain]<;>rfl) (ZW ?_)
 exact dA hA λus s2 ⟨vs,H2,I2,r2,q2⟩=>hm pins s2 σ H2 x vs v us Q I2 r1 r2 q2
end
def MtM(X:Cx)(id:String)(r:V->List V->Hp->VK->Prop):Prop:=
 ∀ (pins:List (td×Obj)) (s:gV) (σ:St) (H:Hp) (x:V) (xs:List V) (v:bd) (us:List bd) (Q:VK),Inv X pins σ H s->RelV x v->Vals xs us->r x xs H Q ->
  Qs (model X.prog X.w) X.A (call (.builtin id) (v::us)) (EP X pins σ Q) X.xe s
theorem Vals.one:∀ {x:V} {us:List bd},Vals [x] us->∃ u,us=[u]/\RelV x u:=by
 intro x us h;cases h with | cons r t=>cases t;exact⟨_,rfl,r⟩
theorem Vals.two:∀ {x y:V} {us:List bd},Vals [x,y] us->∃ u v,us=[u,v]/\RelV x u/\RelV y v:=by
 intro x y us h;cases h with | cons r t=>cases t with | cons q t=>cases t;exact⟨_,_,rfl,r,q⟩
theorem Vals.zero:∀ {us:List bd},Vals [] us->us=[]
 | _,.nil=>rfl
theorem Vals.reverse(h:Vals xs us):Vals xs.reverse us.reverse:=by
 induction h with
 | nil=>exact .nil
 | cons r t ih=>rw[ZE,ZE];exact Vals.append ih (.cons r .nil)
theorem Vals.rep(h:Vals xs us):∀ k:Nat,Vals (Si k xs).flatten (Si k us).flatten
 | 0=>.nil
 | k+1=>by
  rw[XO,XO,Yq,Yq]
  exact Vals.append h (Vals.rep h k)
theorem wf(its:List bd):∀ (k:Nat) (acc:List bd),
  List.foldl (λx1 x2=>x1++x2) acc.toArray (Si k its.toArray)=(acc++(Si k its).flatten).toArray
 | 0,acc=>by simp
 | k+1,acc=>by
  have e:acc.toArray++its.toArray=(acc++its).toArray:=by simp
  have e2:(acc++its)++(Si k its).flatten=acc++(Si (k+1) its).flatten:=by
   rw[XO,Yq,XU]
  rw[<- e2,<- wf its k (acc++its),<- e,XO,List.foldl_cons]
section
variable{X:Cx}{pins:List (td×Obj)}{σ:St}{H:Hp}{s:gV}{l b:td}{xs ys zs:List V}
theorem Inv.lset{its its':List bd}{f:Array bd->Array bd}{t':Nat}(I:Inv X pins σ H s)(hH:H l=U (.lst xs))
  (e:s.heap.get? l=U { cls:=.type "list",data:=.seq its.toArray n }) (hf:f its.toArray=its'.toArray) (hv:Vals ys its') (hz:ys.length<=KY) :
  Inv X pins σ (upd H l (.lst ys)) { s with heap:=s.heap.update l (Obj.mapSeq f),toks:=t' }:=by
 have q:=PySem.IsL.update e f
 rw[hf] at q
 refine I.write (x:=l) (e:=l) (by rw[hH];exact trivial) (.inl rfl) (λb' u hb hu=>(Xy s.heap (Obj.mapSeq f) (Ne.symm hb)).trans hu) ⟨_,q⟩ ?_
 exact⟨hz,its',_,hv,q⟩
theorem Inv.lnew{t':Nat}(I:Inv X pins σ H s)(hv:Vals ys its)(hz:ys.length<=KY) :
  Inv X pins σ (upd H s.heap.objs.size (.lst ys)) { s with heap:=s.heap.push { cls:=.type "list",data:=.seq its.toArray },toks:=t' }:=
 I.laid (λ_ _ q=>Xh _ q) (Xm _) ⟨hz,its,0,hv,Xr _ rfl⟩
theorem Inv.fresh(I:Inv X pins σ H s):H s.heap.objs.size=Y:=I.hok.fresh (Xm _)
theorem Inv.lstM(I:Inv X pins σ H s)(hH:H l=U (.lst xs)):xs.length<=KY/\∃ (its:List bd) (n:Nat),Vals xs its/\xs.length=its.length/\s.heap.get? l=U { cls:=.type "list",data:=.seq its.toArray n }:=by
 obtain⟨z,its,n,r,e⟩:=I.hok l _ hH
 exact⟨z,its,n,r,r.length,e⟩
theorem sA{n:Nat}(h:n<=KY):Builtin.List.listTooLong n=false:=by
 unfold Builtin.List.listTooLong
 exact Xt (by omega)
end
section
variable{X:Cx}
def OY:V->List V->Hp->VK->Prop:=λx vs H Q=>∃ l xs y,x=.ref l/\vs=[y]/\H l=U (.lst xs)/\xs.length<KY/\Q .non (upd H l (.lst (xs++[y])))
theorem vI:MtM X "list.append" OY:=by
 intro pins s σ H x vs v us Q I rx rv h
 obtain⟨l,xs,y,rfl,rfl,hH,hz,q⟩:=h
 cases rx
 obtain⟨u,rfl,ru⟩:=rv.one
 obtain⟨z,its,n,r,hl,e⟩:=I.lstM hH
 refine YZ abP ⟨_,e,rfl⟩ F.entry_list_append (F.args_list_append_2 _ _) (PySem.list_append l its.toArray n u (by rw[Xg];omega)) ⟨e,?_⟩
 refine⟨.non,_,I.lset (its':=its++[u]) hH e (by simp) (r.append (.cons ru .nil)) ?_,rfl,q⟩
 rw[XM,ZR]
 omega
def OX:V->List V->Hp->VK->Prop:=λx vs H Q=>∃ l b xs zs,x=.ref l/\vs=[.ref b]/\H l=U (.lst xs)/\H b=U (.lst zs)/\xs.length+zs.length<=KY/\Q .non (upd H l (.lst (xs++zs)))
theorem GZ:MtM X "list.extend" OX:=by
 intro pins s σ H x vs v us Q I rx rv h
 obtain⟨l,b,xs,zs,rfl,rfl,hH,hB,hz,q⟩:=h
 cases rx
 obtain⟨u,rfl,ru⟩:=rv.one
 cases ru
 obtain⟨z,its,n,r,hl,e⟩:=I.lstM hH
 obtain⟨z2,its2,n2,r2,hl2,e2⟩:=I.lstM hB
 have hsz:its.toArray.size+its2.toArray.size<=KY:=by rw[Xg,Xg];omega
 have hlong:¬ (!its.toArray.isEmpty&&Builtin.List.listTooLong (its.toArray.size+its2.toArray.size))=true:=by
  rw[sA hsz,Zt]
  exact Sn
 refine YZ aai ⟨_,e,rfl⟩ abI (abw _ _)
  (AutoSeq1.list_extend_list_list_0 l its.toArray n b its2.toArray n2 hlong (by rw[Xg];omega) (by omega)) ⟨e,e2,?_⟩
 refine⟨.non,_,I.lset (its':=its++its2) hH e (by simp) (r.append r2) ?_,rfl,q⟩
 rw[XM]
 omega
def JQ:V->List V->Hp->VK->Prop:=λx vs H Q=>∃ l xs,x=.ref l/\vs=[]/\H l=U (.lst xs)/\Q .non (upd H l (.lst xs.reverse))
theorem CO:MtM X "list.reverse" JQ:=by
 intro pins s σ H x vs v us Q I rx rv h
 obtain⟨l,xs,rfl,rfl,hH,q⟩:=h
 cases rx
 have hus:=rv.zero
 subst hus
 obtain⟨z,its,n,r,hl,e⟩:=I.lstM hH
 refine YZ abH ⟨_,e,rfl⟩ F.entry_list_reverse (F.args_list_reverse_1 _) (AutoSeq1.list_reverse_list_0 l its.toArray n (by rw[Xg];omega)) ⟨e,?_⟩
 refine⟨.non,_,I.lset (its':=its.reverse) hH e (by simp) r.reverse ?_,rfl,q⟩
 rw[List.length_reverse]
 omega
def rCat:R2:=λx y H Q=>∃ l b xs zs,x=.ref l/\y=.ref b/\H l=U (.lst xs)/\H b=U (.lst zs)/\xs.length+zs.length<=KY/\∀ p,H p=Y->Q (.ref p) (upd H p (.lst (xs++zs)))
theorem CF:OpR X (PN .Add) rCat:=by
 intro pins s σ H x y v u Q I rx ry h
 obtain⟨l,b,xs,zs,rfl,rfl,hH,hB,hz,q⟩:=h
 cases rx
 cases ry
 obtain⟨z,its,n,r,hl,e⟩:=I.lstM hH
 obtain⟨z2,its2,n2,r2,hl2,e2⟩:=I.lstM hB
 refine PySem.P.add_list e e2 ?_ (by rw[Xg,Xg];omega)
 have ea:its.toArray++its2.toArray=(its++its2).toArray:=by simp
 rw[ea]
 exact⟨.ref _,_,I.lnew (t':=s.toks) (r.append r2) (by rw[XM];omega),rfl,q _ I.fresh⟩
def rRep:R2:=λx y H Q=>∃ l k xs,x=.ref l/\y=.int k/\H l=U (.lst xs)/\-(2^63)<=k/\k<2^63/\xs.length*k.toNat<=KY /\
 ∀ p,H p=Y->Q (.ref p) (upd H p (.lst (Si k.toNat xs).flatten))
theorem ya{α:Type}(xs:List α)(k:Nat):(Si k xs).flatten.length=k*xs.length:=by
 induction k with
 | zero=>simp
 | succ k ih=>rw[XO,Yq,XM,ih,Nat.succ_mul,Nat.add_comm]
theorem Uo:OpR X (PN .Mult) rRep:=by
 intro pins s σ H x y v u Q I rx ry h
 obtain⟨l,k,xs,rfl,rfl,hH,h1,h2,hz,q⟩:=h
 cases rx
 obtain⟨t,rfl⟩:=ry
 obtain⟨z,its,n,r,hl,e⟩:=I.lstM hH
 have hlen:its.toArray.size*k.toNat<=KY:=by rw[Xg,<- hl];exact hz
 have hcap:¬ its.toArray.size*k.toNat>(2^63 - 1) / 8:=by
  have:(KY:Nat)<=(2^63 - 1) / 8:=by decide
  omega
 have hfit:¬ (!Builtin.List.listFitsIndex k)=true:=by
  rw[fitsIndex_both h1 h2]
  exact Sn
 have hlong:¬ Builtin.List.listTooLong (its.toArray.size*k.toNat)=true:=by
  rw[sA hlen]
  exact Sn
 have hnew:List.foldl (λx1 x2=>x1++x2) #[] (Si (if its.toArray.isEmpty=true then 0 else k.toNat) its.toArray)=(Si k.toNat its).flatten.toArray:=by
  have f0:∀ m:Nat,List.foldl (λx1 x2=>x1++x2) #[] (Si m its.toArray)=(Si m its).flatten.toArray:=λm=>by
   have:=wf its m []
   rw[aaR] at this
   exact this
  rw[f0]
  cases its with
  | nil=>simp
  | cons a r'=>rw[if_neg (by simp)]
 refine aaU (T:="list") (U:="int") (by decide) ⟨_,e,rfl⟩ (λs'=>aao s' k t) noFill_list_mul F.fills_int_mul ZU repeat_list F.slot_int_index.lookup
  (YZ ZU (aao s k t) F.entry_int_rmul (F.args_int_rmul_2 _ _) (int___rmul___int_list k t l its.toArray n)
   ⟨e,rfl,⟨_,e,rfl⟩,YZ F.slot_list_mul ⟨_,e,rfl⟩ F.entry_list_mul (F.args_list_mul_2 _ _) (AutoListH.list___mul___list_int_3 l its.toArray n k t hfit hcap hlong) ⟨e,?_⟩⟩)
 rw[hnew]
 exact⟨.ref _,_,I.lnew (t':=s.toks) (r.rep k.toNat) (by rw[ya,aas];exact hz),rfl,q _ I.fresh⟩
end
section
variable{κ:Type}[DecidableEq κ]
def wJ(kvs:List (κ×V))(k:κ):Option V:=(kvs.find? λkv=>decide (kv.1=k)).map (·.2)
def uN(kvs:List (κ×V))(k:κ)(v:V):List (κ×V):=
 if (kvs.any λkv=>decide (kv.1=k))=true then kvs.map (λkv=>if kv.1=k then(kv.1,v) else kv) else kvs++[(k,v)]
theorem zi{p:κ×V}{r:List (κ×V)}{k:κ}(e:p.1=k):wJ (p::r) k=U p.2:=by simp[wJ,Yi,e]
theorem zj{p:κ×V}{r:List (κ×V)}{k:κ}(e:¬ p.1=k):wJ (p::r) k=wJ r k:=by simp[wJ,Yi,e]
theorem AG(kvs:List (κ×V))(k:κ)(v:V):(uN kvs k v).length<=kvs.length+1:=by
 unfold uN
 split
 ·rw[Xn];omega
 ·rw[XM,Xw,Zy];omega
theorem RelO.isSome_eq(r:RelO o u):o.isSome=u.isSome:=by
 cases o with
 | none=>cases u with
  | none=>rfl
  | some _=>exact(show False from r).elim
 | some _=>cases u with
  | none=>exact(show False from r).elim
  | some _=>rfl
theorem KV.val(r:KV kvs vs)(k:κ):RelO (wJ kvs k) (valueAt vs k):=by
 unfold KV at r
 induction r with
 | nil=>exact True.intro
 | @cons p q ps qs h t ih=>
  obtain⟨h1,h2⟩:=h
  by_cases e:p.1=k
  ·have e':q.1=k:=h1.symm.trans e
   have b:valueAt (q::qs) k=U q.2:=by simp[valueAt,Yi,e']
   rw[zi e,b];exact h2
  ·have e':¬ q.1=k:=λz=>e (h1.trans z)
   have b:valueAt (q::qs) k=valueAt qs k:=by simp[valueAt,Yi,e']
   rw[zj e,b];exact ih
theorem KV.any(r:KV kvs vs)(k:κ):(kvs.any λkv=>decide (kv.1=k))=vs.any λkv=>decide (kv.1=k):=by
 unfold KV at r
 induction r with
 | nil=>rfl
 | cons h t ih=>rw[Ze,Ze,ih,h.1]
theorem KV.repl(r:KV kvs vs)(k:κ)(ry:RelV y u) :
  KV (kvs.map λkv=>if kv.1=k then(kv.1,y) else kv) (vs.map λkv=>if kv.1=k then(kv.1,u) else kv):=by
 unfold KV at r ⊢
 induction r with
 | nil=>exact .nil
 | @cons p q ps qs h t ih=>
  rw[Xp,Xp]
  refine .cons ?_ ih
  obtain⟨h1,h2⟩:=h
  by_cases e:p.1=k
  ·rw[Xq e,Xq (h1.symm.trans e)];exact⟨h1,ry⟩
  ·rw[if_neg e,if_neg (λz=>e (h1.trans z))];exact⟨h1,h2⟩
theorem KV.put(r:KV kvs vs)(k:κ)(ry:RelV y u):KV (uN kvs k y) (stored vs k u):=by
 unfold uN stored
 rw[r.any k]
 by_cases e:(vs.any λkv=>decide (kv.1=k))=true
 ·rw[Xq e,Xq e];exact r.repl k ry
 ·rw[if_neg e,if_neg e];exact Paired.snoc r ⟨rfl,ry⟩
end
theorem AL{k:bC}(r:RelV (kV k) u):(cr P w).is k u=true:=by
 cases k with
 | inl i=>obtain⟨t,e⟩:=(show ∃ t,u=Value.int i t from r);subst e;exact zY P w i t
 | inr x=>obtain⟨t,e⟩:=(show ∃ t,u=Value.str x t from r);subst e;exact zX P w x t
section
variable{P:vx}{w:Gs}{H:Hp}{h:Jq}{a:td}
theorem Sj(ok:HOk P w H h)(e:Rd H a u):ObjOk P w H h a u:=e.ok ok
theorem FQ(ok:HOk P w H h)(e:Rd H a (.dK kvs)):kvs.length<=KY/\(a==sysModules)=false/\∃ vs,KV kvs vs/\h.DictOf (cr P w) a vs:=
 show ObjOk P w H h a (.dK kvs) from Sj ok e
theorem SV(ok:HOk P w H h)(e:H a=U (.dK kvs)):kvs.length<=KY/\(a==sysModules)=false/\∃ vs,KV kvs vs/\h.DictOf (cr P w) a vs:=FQ ok (.inl e)
end
def DGet(H:Hp)(a:td)(y:V)(r:Option V):Prop:=
 ∃ kvs k,Rd H a (.dK kvs)/\y=kV k/\r=wJ kvs k
theorem DGet.k{H:Hp}{k:bC}(e:H a=U (.dK kvs)):DGet H a (kV k) (wJ kvs k):=⟨kvs,k,.inl e,rfl,rfl⟩
section
variable{X:Cx}{pins:List (td×Obj)}{σ:St}{H:Hp}{s:gV}{a:td}{y v:V}{u r:bd}{o:Option V}{A:IN}{E:bd->gV->Prop}
theorem Inv.big(I:Inv X pins σ H s):sysModules<s.heap.objs.size:=by
 have h:Lg<s.heap.objs.size:=(I.mod.glob.keeps I.bk).lt
 exact Nat.lt_trans (by decide) h
theorem Iq{Q:bd->gV->Prop}(hu:A.units+1<cLine)(I:Inv X pins σ H s)(g:DGet H a y (U v))(ry:RelV y u)(h:∀ w' s',Inv X pins σ H s'->RelV v w'->Q w' s') :
  Qs (model X.prog X.w) A (getItem (.ref a) u) Q E s:=by
 obtain⟨kvs,k,e,ey,l⟩:=g
 ·subst ey
  obtain⟨z,hd,vs,rel,dd⟩:=FQ I.hok e
  obtain⟨w',hw,rw'⟩:=RelO.some_of (v:=v) (o:=valueAt vs k) (by rw[l];exact rel.val k)
  exact wpAny_getItem_of (AL ry) dd.mapOf hw (h w' _ (I.tok _) rw')
theorem yM{t':Nat}{ob:HO}(I:Inv X pins σ H s)(mu:Mut (H a))(hs:Heap.SameBut a s.heap h')(he:∃ q,h'.get? a=U q)(new:ObjOk X.prog X.w (upd H a ob) h' a ob) :
  Inv X pins σ (upd H a ob) { s with heap:=h',toks:=t' }:=
 I.write (x:=a) (e:=a) mu (.inl rfl) (λb q hb z=>(hs.2 b hb).trans z) he new
theorem Wh{h':Jq}{kvs:List (bC×V)}(z:kvs.length<=KY)(hd:(a==sysModules)=false)(rel:KV kvs vs)(dd:h'.DictOf (cr P w) a vs) :
  ObjOk P w H' h' a (.dK kvs):=⟨z,hd,vs,rel,dd⟩
end
theorem Bv{s:gV}(I:Inv X pins σ H s)(g:DGet H a y o):s.TypeIs (.ref a) "dict":=by
 obtain⟨kvs,k,e,_,_⟩:=g
 ·obtain⟨_,_,vs,_,dd⟩:=FQ I.hok e
  exact dd.typeIs
theorem ud(h:Jq)(hb:sysModules<h.objs.size):ObjOk P w H (h.push { cls:=.type "dict",data:=.dict #[] }) h.objs.size (.dK []):=
 ⟨Zj _,YC.mpr (Ne.symm (XT hb)),[],.nil,Heap.DictOf.new h⟩
def Tx:TE:=λ_ H Q=>∀ p,H p=Y->Q (.ref p) (upd H p (.dK []))
section
variable{X:Cx}{pos:Pos}
theorem Kf:PE X (.Dict [] [] pos) Tx:=λpins s σ H Q I h=>
 wpAny_Dict_empty ⟨.ref s.heap.objs.size,_,I.laid (a:=s.heap.objs.size) (o:=.dK []) (t':=s.toks) (λ_ _ q=>Xh _ q) (Xm _) (ud s.heap I.big),rfl,h _ (I.hok.fresh (Xm _))⟩
end
def rR:List (TE×TE)->St->Hp->(List (V×V)->Hp->Prop)->Prop
 | [],_,H,Q=>Q [] H
 | (tk,tv)::r,σ,H,Q=>tk σ H λx H1=>tv σ H1 λy H2=>rR r σ H2 λps H3=>Q ((x,y)::ps) H3
noncomputable abbrev VV:List (V×V)->List (bd×bd)->Prop:=Paired λp q=>RelV p.1 q.1/\RelV p.2 q.2
def PPs(X:Cx)(pos:Pos)(keys:List (Option tx))(values:List tx)(trs:List (TE×TE)):Prop:=
 ∀ (pins:List (td×Obj)) (s:gV) (σ:St) (H:Hp) (Q:List (V×V)->Hp->Prop),Inv X pins σ H s->rR trs σ H Q ->
  Qs (model X.prog X.w) X.A (evalPairs (pairTrees keys values X.env pos)) (λvs s'=>∃ ps H',Inv X pins σ H' s'/\VV ps vs/\Q ps H') X.xe s
theorem Ew:PPs X pos [] [] []:=λpins s σ H Q I h=>pairTrees_nil_walk ⟨[],H,I,.nil,h⟩
theorem zL{k:tx}(hk:PE X k tk)(hv:PE X v tv)(hr:PPs X pos ks vs trs) :
  PPs X pos (U k::ks) (v::vs) ((tk,tv)::trs):=λpins s σ H Q I h=>
 pairTrees_cons_walk (dA (hk pins s σ H _ I h) λu s1 ⟨x,H1,I1,rx,q1⟩=>dA (hv pins s1 σ H1 _ I1 q1) λw2 s2 ⟨y,H2,I2,ry,q2⟩=>
  dA (hr pins s2 σ H2 _ I2 q2) λws s3 ⟨ps,H3,I3,rel,q3⟩=>⟨(x,y)::ps,H3,I3,.cons ⟨rx,ry⟩ rel,q3⟩)
def lG(kvs more:List (bC×V)):List (bC×V):=more.foldl (λacc kv=>uN acc kv.1 kv.2) kvs
theorem KV.merge:∀ {more:List (bC×V)} {rs:List (bC×bd)} {kvs:List (bC×V)} {vs:List (bC×bd)},KV more rs->KV kvs vs->KV (lG kvs more) (merged vs rs):=by
 intro more rs kvs vs r
 unfold KV at r
 induction r generalizing kvs vs with
 | nil=>intro q;exact q
 | @cons p q ps qs h t ih=>
  intro r0
  have e:KV (uN kvs p.1 p.2) (stored vs q.1 q.2):=by
   have:=r0.put p.1 h.2
   rw[<- h.1];exact this
  exact ih e
theorem mX:∀ (more kvs:List (bC×V)),(lG kvs more).length<=kvs.length+more.length
 | [],kvs=>by show kvs.length<=kvs.length+0;omega
 | p::r,kvs=>by
  have h1:=mX r (uN kvs p.1 p.2)
  have h2:=AG kvs p.1 p.2
  show(lG (uN kvs p.1 p.2) r).length<=_
  rw[Xw];omega
theorem uh:∀ {kvs:List (bC×V)} {ws:List (bd×bd)},VV (kvs.map λkv=>(kV kv.1,kv.2)) ws->∃ rs,Carries (cr P w) ws rs/\KV kvs rs
 | [],_,r=>by rw[aav] at r;cases r;exact⟨[],True.intro,.nil⟩
 | p::kvs,_,r=>by
  rw[Xp] at r
  cases r with
  | @cons a b as bs h t=>
   obtain⟨rs,c,q⟩:=uh (P:=P) (w:=w) t
   obtain⟨b1,b2⟩:=b
   exact⟨(p.1,b2)::rs,⟨AL h.1,rfl,c⟩,.cons ⟨rfl,h.2⟩ q⟩
def tDisp(trs:List (TE×TE)):TE:=λσ H Q=>∀ p,H p=Y->rR trs σ (upd H p (.dK [])) λps H2=>H2 p=U (.dK [])/\∃ kvs:List (bC×V),ps=kvs.map (λkv=>(kV kv.1,kv.2))/\kvs.length<=15/\Q (.ref p) (upd H2 p (.dK (lG [] kvs)))
theorem Ey{keys:List (Option tx)}(h:PPs X pos keys values trs)(hall:keys.all (·.isSome)=true)(hl:keys.length=values.length)(h0:keys≠[])
  (h15:keys.length<=15):PE X (.Dict keys values pos) (tDisp trs):=by
 intro pins s σ H Q I q
 have hn:=I.hok.fresh (Xm s.heap.objs.size)
 have I1:=I.laid (a:=s.heap.objs.size) (o:=.dK []) (h':=s.heap.push { cls:=.type "dict",data:=.dict #[] }) (t':=s.toks) (λ_ _ q=>Xh _ q) (Xm _) (ud s.heap I.big)
 refine wpAny_Dict_walk (knd:=cr X.prog X.w) hall hl h0 h15 (dA (h pins _ σ _ _ I1 (q _ hn)) λws s2 ⟨ps,H2,I2,rel,e,kvs,ep,lk,q2⟩=>?_)
 subst ep
 obtain⟨rs,c,rk⟩:=uh (P:=X.prog) (w:=X.w) rel
 obtain⟨z,hd,vs0,r0,dd⟩:=SV I2.hok e
 cases r0
 refine⟨rs,c,dd,λh' dd' hs=>⟨.ref s.heap.objs.size,_,?_,rfl,q2⟩⟩
 have hz:(lG [] kvs).length<=KY:=by
  have h1:=mX kvs []
  rw[Zy] at h1
  rw[aaL];omega
 have he:∃ q,h'.get? s.heap.objs.size=U q:=let ⟨q,_,_,hq,_⟩:=dd';⟨q,hq⟩
 exact yM I2 (by rw[e];exact True.intro) hs he (Wh hz hd (rk.merge .nil) dd')
def IsD(H:Hp)(a:td):Prop:=(∃ kvs,Rd H a (.dK kvs))\/∃ kvs,Rd H a (.dT kvs)
theorem LN{s:gV}(I:Inv X pins σ H s)(d:IsD H a) :
  s.TypeIs (.ref a) "dict"/\(∀ b,Value.ref a=.ref b->∃ ob,s.heap.get? b=U ob/\ob.dict=Y)/\(a==sysModules)=false:=by
 rcases d with ⟨kvs,e⟩ | ⟨kvs,e⟩
 ·obtain⟨_,hd,vs,_,dd⟩:=FQ I.hok e
  refine⟨dd.typeIs,λb q=>?_,hd⟩
  cases q
  obtain⟨ob,_,_,h1,h2,_⟩:=dd
  exact⟨ob,h1,h2.2.1⟩
 ·obtain⟨_,hd,xs,_,ob,es,ep,h1,h2,_⟩:=(show ObjOk X.prog X.w H s.heap a (.dT kvs) from Sj I.hok e)
  refine⟨⟨ob,h1,h2.1⟩,λb q=>?_,hd⟩
  cases q
  exact⟨ob,h1,h2.2.1⟩
end L2
namespace Att
open PySem.W PySem.Calls
theorem qS:∀ (ns:List Int) (vs:List bd),WellAll P h vs (ns.map WData.int)->IntsAre vs ns:=by
 intro ns
 induction ns with
 | nil=>
  intro vs w
  rw[aav] at w
  cases w
  exact .nil
 | cons n ns ih=>
  intro vs w
  rw[Xp] at w
  cases w with
  | cons a b=>
   cases a
   exact .cons _ _ (ih _ b)
theorem Gw{l:OpenLaw}{n:Nat}(hn:l.most=U n)
  (hpre:l.row.toRowW.claim.pre args=true) (hwl:WellAll P h vals args) :
  ∃ a vs ns,vals=[Value.ref a]/\args=[WData.list (ns.map WData.int)]/\h.get? a=U { cls:=.type "list",data:=.seq vs.toArray }/\IntsAre vs ns/\ns.length<=n:=by
 have hsh:WShape.hasAll [] args [.list .int]=true:=(pre_splitW hpre).1
 have hc:l.pre.holds [] { args:=args } = true:=(pre_splitW hpre).2
 obtain⟨d,r,rfl,h1,h2⟩:=hasAllW_cons hsh
 obtain rfl:=hasAllW_nil h2
 obtain⟨xs,rfl,h3⟩:=hasW_list h1
 obtain⟨ns,rfl⟩:=items_int h3
 have hlen:ns.length<=n:=by
  unfold OpenLaw.pre at hc
  have h4:(WTm.not (.lt (.lit (.int (n:Int))) (.len (.arg 0)))).holds [] { args:=[.list (ns.map .int)] } = true:=by
   have h4:=(holds_andW hc).1
   rw[hn] at h4
   exact h4
  have h5:=condW_of h4 (w_not (w_lt w_lit (w_len_list (w_arg rfl))))
  rw[Xn] at h5
  refine Nat.le_of_not_lt λq=>?_
  have q':(n:Int)<((ns.length:Nat):Int):=by omega
  first
   | (rw[Xs q'] at h5;exact absurd h5 (by decide))
   | (simp at h5;omega)
 cases hwl with
 | cons w1 w2=>
  cases w2
  cases w1 with
  | list ho hall=>exact⟨_,_,ns,rfl,rfl,ho,qS ns _ hall,hlen⟩
theorem GM(l:OpenLaw)(args:List WData):l.row.toRowW.claim.post args (.bool true) args=true:=
 postW_of (r:=l.row.toRowW) (X:=(true==true))
  (show WShape.has [] (.bool true) .bool=true by first | rfl | decide | simp[WShape.has,WShape.arms,WShape.armsAll])
  (show(WTm.eq .res (.lit (.bool true))).value [] { args:=args,res:=U (.bool true),after:=args } = U (.bool (true==true)) from w_eq_bool (w_res rfl) w_lit) rfl
theorem BI{l:OpenLaw}{n:Nat}{YP:Gs->Jq->Prop}{d:DefRec}
  (hn:l.most=U n) (hdf:d.params.defaults=[])
  (call:∀ (w:Gs) (s₀ s₁:gV) (mg mb:Str->Option bd) (fa:td) (o:Obj) (pm cd doc:bd) (a:td) (vs:List bd) (ns:List Int),
   Ground q loose [] XP w s₀ mg mb s₁.heap->YP w s₁.heap ->
   s₁.heap.get? fa=U o->o.data=.func (docDef d.name d.params d.body d.scope pm cd doc)->s₁.heap.CodeRec cd d.name->mg d.name=U (.ref fa) ->
   s₁.heap.get? a=U { cls:=.type "list",data:=.seq vs.toArray }->IntsAre vs ns->ns.length<=n->s₁.gens = #[] ->
   codeAny (model l.prog w) callerA (.call (.ref fa) ⟨[.ref a],[]⟩) (λr s'=>r=.ok (.ret (.bool true))/\OldK s₁.heap s'.heap/\s'.os=s₁.os/\AllBare s'.gens) s₁) :
  WalkO q loose XP YP l.row.toRowW d [] (λf vs=>PySem.call f vs):=by
 intro w s₀ s₁ mg mb G Y0 fa o pm cd doc dV kV ho hd hcd hD hmg hg args vals as hpre hlay hrd hwl hlo
 obtain rfl:dV=.none:=Dflts.none hD hdf
 obtain rfl:kV=.none:=Dflts.noKw hD
 obtain⟨a,vs,ns,rfl,rfl,hobj,hints,hlen⟩:=Gw hn hpre hwl
 refine enter_call (Zl (call w s₀ s₁ mg mb fa o pm cd doc a vs ns G Y0 ho (fd_plain hd) hcd hmg hobj hints hlen hg) λr s' hq=>?_)
 obtain⟨rfl,h2,h3,h4⟩:=hq
 exact⟨.inl ⟨.bool true,.bool true,[],rfl,λ_=>rfl,.bool true,GM l _,λ_=>⟨List.Pairwise.nil,λ_ hm=>(nomatch hm)⟩⟩,h2,h3,h4⟩
end Att
namespace L2
theorem vn:∀ {vs:List bd} {ns:List Int},IntsAre vs ns->Vals (ns.map V.int) vs
 | _,_,.nil=>.nil
 | _,_,.cons n t h=>.cons ⟨t,rfl⟩ (vn h)
def WX(H:Hp):Prop:=∀ b,H b=Y\/∃ o xs,H b=U (.frz o (.lst xs))
theorem Ll{K:QF}{k:Nat}{x:Str}{s₁:gV}{vs:List bd}
  (KX:K.In s₁.heap) (hns:s₁.heap.Ns Lg mg) (hb:s₁.heap.Ns builtinsNs mb) (hbb:∀ x:Str,x≠"__name__"->mb x=bootBuiltins x) (hlim:s₁.heap.NoLimit) (hg:s₁.gens = #[])
  (ha:s₁.heap.get? a=U { cls:=.type "list",data:=.seq vs.toArray }) (hi:IntsAre vs ns) (hl:ns.length<=KY) (hr:Room k callerA)
  (F:∀ base:Jq,K.In base->base.Ns Lg mg->FnOk P w K mg base CX k fa fd [x] sp) (hbind:∀ (s:gV) (u:bd),BindsTo s fd ⟨[u],[]⟩ [(x,u)])
  (hsp:∀ H:Hp,WX H->mT K H a (ns.map V.int)->sp [.ref a] H (λv _=>v=.bl true) λ_ _ _=>False)
  (hCX:∀ H e s',CX [] H s₁ (λ_ _ _=>False) e s'->False) :
  codeAny (model P w) callerA (.call (.ref fa) ⟨[.ref a],[]⟩) (λr s'=>r=.ok (.ret (.bool true))/\OldK s₁.heap s'.heap/\s'.os=s₁.os/\AllBare s'.gens) s₁:=by
 have rv:=vn hi
 have lenV:=hi.length
 have core:∀ H:Hp,WX H->mT K H a (ns.map V.int)->HOk P w H s₁.heap->(∀ b,H b≠Y->b=a)->(H a≠Y->K.lookup a=Y) ->
   codeAny (model P w) callerA (.call (.ref fa) ⟨[.ref a],[]⟩) (λr s'=>r=.ok (.ret (.bool true))/\OldK s₁.heap s'.heap/\s'.os=s₁.os/\AllBare s'.gens) s₁:=by
  intro H hO hS hok hA hK
  have base_of:∀ {b:td} {o:Obj},s₁.heap.get? b=U o->H b=Y->(yk s₁.heap H).get? b=U o:=λe n=>LR e n
  have noA:∀ {b:td} {o:Obj} {es:Array DictEntry} {ep:Nat},s₁.heap.get? b=U o->o.data=.dict es ep->H b=Y:=λ{b o es ep} e d=>by
   cases q:H b with
   | none=>rfl
   | some u=>
    have e':b=a:=hA b (by rw[q];simp)
    subst e'
    rw[ha] at e;cases e
    have d':Data.seq vs.toArray _=Data.dict es ep:=d
    cases d'
  have nsK:∀ {b:td} {m:Str->Option bd},s₁.heap.Ns b m->(yk s₁.heap H).Ns b m:=λ{b m} ⟨o,es,ep,e,d,r⟩=>⟨o,es,ep,base_of e (noA e d),d,r⟩
  have hKb:K.In (yk s₁.heap H):=λb o e=>base_of (KX b o e) (by
   cases q:H b with
   | none=>rfl
   | some u=>
    have e':b=a:=hA b (by rw[q];simp)
    subst e'
    rw[hK (by rw[q];simp)] at e;cases e)
  have hM:Mod K mg (yk s₁.heap H):=⟨hKb,nsK hns,⟨mb,nsK hb,hbb⟩,let ⟨mc,h1,h2⟩:=hlim;⟨mc,nsK h1,h2⟩⟩
  have e0:RS P w K mg (yk s₁.heap H) callerA [] s₁ H:=⟨rfl,hM,λb o e=>PK e,aau (HH _ _),trivial,λb hb=>absurd (show b∈([]:List td) from hb) (by simp),hok,.of_eq hg⟩
  refine Zl ((F _ hKb (nsK hns)).run callerA [] s₁ H ⟨[.ref a],[]⟩ [.ref a] [.ref a] _ _ hr e0 (hbind s₁ (.ref a)) (.cons rfl .nil) (hsp H hO hS)) λr s' h=>?_
  cases r with
  | error e=>exact(hCX H e s' h).elim
  | ok fl=>
   cases fl with
   | next=>exact False.elim h
   | brk=>exact False.elim h
   | cont=>exact False.elim h
   | ret u=>
    obtain⟨v,H',os,bare,un,hok',r',q⟩:=h
    have q':v=.bl true:=q
    subst q'
    obtain rfl:u=Value.bool true:=r'
    refine⟨rfl,OldK.of_keep λb o e=>?_,os,bare⟩
    cases q:H b with
    | none=>exact un.keep b o e q (by intro z;exact absurd (show b∈([]:List td) from z) (by simp)) (by simp)
    | some u=>
     rcases hO b with z | ⟨ob,xs,z⟩
     ·rw[q] at z;cases z
     ·have z2:=un.frzs b ob _ z
      obtain⟨e1,_⟩:=hok b _ z
      obtain⟨e2,_⟩:=hok' b _ z2
      rw[e] at e1;cases e1
      exact e2
 cases hk:K.lookup a with
 | some o=>
  have e:=KX a o hk
  rw[ha] at e
  cases e
  refine core (λ_=>Y) (λ_=>.inl rfl) (.inr ⟨_,vs.toArray,_,hk,rfl,rfl,rfl,by rw[Xg,lenV];exact hl,by simpa using rv⟩) (λb u z=>by have z':(Y:Option HO)=U u:=z;cases z') (λb z=>absurd rfl z) λz=>absurd rfl z
 | none=>
  refine core (λb=>if b=a then U (.frz { cls:=.type "list",data:=.seq vs.toArray } (.lst (ns.map V.int))) else Y) (λb=>?_) (.inl (.inr ⟨{ cls:=.type "list",data:=.seq vs.toArray },Xq rfl⟩)) (λb u z=>?_) (λb z=>?_) λ_=>hk
  ·by_cases hb:b=a
   ·exact .inr ⟨_,_,Xq hb⟩
   ·exact .inl (if_neg hb)
  ·by_cases hb:b=a
   ·have z':=(Xq hb).symm.trans z
    cases z'
    subst hb
    exact⟨ha,by rw[Xn];exact hl,vs,_,rv,ha⟩
   ·have z':=(if_neg hb).symm.trans z
    cases z'
  ·by_cases hb:b=a
   ·exact hb
   ·exact absurd (if_neg hb) z
theorem Ow{l:W.OpenLaw}{n k:Nat}{YP:Gs->Jq->Prop}{d:DefRec}{K:Params->QF}{CX:Gs->IQ}{sp:Gs->Sp}{x:Str}
  (hn:l.most=U n) (hn2:n<=KY) (hdf:d.params.defaults=[]) (hr:Room k callerA)
  (hY:∀ (w:Gs) (h:Jq),YP w h->(K w.params).In h)
  (F:∀ (w:Gs) (mg:Str->Option bd) (fa:td) (h:Jq),(K w.params).In h->h.Ns Lg mg->mg d.name=U (.ref fa) ->
   ∃ fd:FuncData,(∀ (s:gV) (u:bd),BindsTo s fd ⟨[u],[]⟩ [(x,u)]) /\
    ∀ base:Jq,(K w.params).In base->base.Ns Lg mg->FnOk l.prog w (K w.params) mg base (CX w) k fa fd [x] (sp w))
  (hsp:∀ (w:Gs) (H:Hp) (a:td) (ns:List Int),ns.length<=n->WX H->mT (K w.params) H a (ns.map V.int)->sp w [.ref a] H (λv _=>v=.bl true) λ_ _ _=>False)
  (hCX:∀ (w:Gs) (H:Hp) (s:gV) (e:bd) (s':gV),CX w [] H s (λ_ _ _=>False) e s'->False) :
  W.WalkO q loose XP YP l.row.toRowW d [] (λf vs=>PySem.call f vs):=by
 refine Att.BI hn hdf λw s₀ s₁ mg mb fa o pm cd doc a vs ns G Y0 ho hd hcd hmg hobj hints hlen hg=>?_
 have KX:=hY w _ Y0
 obtain⟨fd,hb,hF⟩:=F w mg fa _ KX G.T.g hmg
 exact Ll KX G.T.g G.T.b G.T.builtins G.T.nolimit hg hobj hints (XN hlen hn2) hr hF hb (λH hO hS=>hsp w H a ns hlen hO hS) λH e s'=>hCX w H s₁ e s'
def ie(s:He):Arguments:=match s with
 | .FunctionDef _ a _ _ _ _ _ _ _ _=>a
 | _=>{ posonlyargs:=[],args:=[],vararg:=Y,kwonlyargs:=[],kw_defaults:=[],kwarg:=Y,defaults:=[] }
def aD(s:He):List He:=match s with
 | .FunctionDef _ _ b _ _ _ _ _ _ _=>b
 | _=>[]
def ar(s:He):Scope:=match s with
 | .FunctionDef _ _ _ _ _ _ sc _ _ _=>sc
 | _=>{ kind:=.function,names:=[],isGenerator:=false,isCoroutine:=false }
noncomputable abbrev Gj:IQ:=λ_ _ _ _ _ _=>False
noncomputable abbrev E0:XK:=λ_ _ _=>False
theorem Kl:yW Gj X E0:=λ_ _ _ _ _ _ _ h=>h.elim
structure Fun(K:QF)(x qual:Str)(st:He)(f:td)(fd:FuncData):Prop where
 ex:∃ (oc:bd) (od:Option td) (kV doc pm:bd) (an:Option td) (cdv ct:bd) (osl:Array (Option bd)),
  fd=W.fnOf x qual (ie st) (aD st) (ar st) .none kV doc pm an cdv ct/\K.lookup f=U ⟨oc,od,.func fd,osl⟩/\W.codeIn K cdv qual=true
 kp:W.keepIn K (.ref f)=true
section
variable{P:vx}{w:Gs}{K:QF}{mg:Str->Option bd}{base:Jq}
theorem Fun.ok{st:He}{k:Nat}{sp:Sp}(F:Fun K x qual st f fd)(S:aN N ps (ar st))(len:∀ vs H Q E,sp vs H Q E->vs.length=ps.length)
  (hbody:∀ (cdv:bd) (A:IN) (outer:List Env) (s:gV) (H:Hp) (vs:List V) (Q:VK) (E:XK),Room k (A.deeper (envOfC qual (ar st) s.heap.objs.size f cdv))->sp vs H Q E ->
   ∃ t,PSs (qW Gj P w K mg base N qual (ar st) f cdv A outer s H E).nox (aD st) t/\t { nx:=λ_ H'=>Q .non H',rt:=Q } (start N vs) H):FnOk P w K mg base Gj (k+1) f fd ps sp:=by
 obtain⟨oc,od,kV,doc,pm,an,cdv,ct,osl,rfl,lk,hcd⟩:=F.ex
 refine SK lk hcd S len λA outer s H vs Q E hr hsp=>?_
 obtain⟨t,h,q⟩:=hbody cdv A outer s H vs Q E hr hsp
 exact⟨t,h.nox,q⟩
theorem Fun.binds{st:He}{ps:List Str}(F:Fun K x qual st f fd)
  (h:∀ (kV doc pm:bd) (an:Option td) (cdv ct:bd) (us:List bd),us.length=ps.length->bindArgs (W.fnOf x qual (ie st) (aD st) (ar st) .none kV doc pm an cdv ct) ⟨us,[]⟩=pure (ps.zip us)):Binds K fd ps []:=by
 obtain⟨oc,od,kV,doc,pm,an,cdv,ct,osl,rfl,lk,hcd⟩:=F.ex
 exact .all (h kV doc pm an cdv ct)
theorem Vu{st:He}{oc:bd}{od:Option td}{osl:Array (Option bd)}{kV:bd}(l:K.lookup f=U ⟨oc,od,.func (W.fnOf x qual (ie st) (aD st) (ar st) .none kV doc pm an cdv ct),osl⟩)
  (c:W.codeIn K cdv qual=true) (k:W.keepIn K (.ref f)=true):Fun K x qual st f (W.fnOf x qual (ie st) (aD st) (ar st) .none kV doc pm an cdv ct):=⟨⟨oc,od,kV,doc,pm,an,cdv,ct,osl,rfl,l,c⟩,k⟩
end
def mO(kvs:List (DK×td×V))(k:DK):Option V:=match kvs with
 | []=>Y
 | p::r=>if p.1=k then U p.2.2 else mO r k
def qM(kvs:List (DK×td×V))(k:DK)(b:td)(v:V):List (DK×td×V):=if (mO kvs k).isSome then kvs.map (λp=>if p.1=k then(p.1,p.2.1,v) else p) else kvs++[(k,b,v)]
theorem AH(kvs:List (DK×td×V))(k:DK)(b:td)(v:V):(qM kvs k b v).length<=kvs.length+1:=by
 unfold qM
 split
 ·rw[Xn];omega
 ·simp
noncomputable abbrev KA:List (DK×td×V)->List (DK×td×bd)->Prop:=Paired λp q=>p.1=q.1/\p.2.1=q.2.1/\RelV p.2.2 q.2.2
theorem KA.val(r:KA kvs xs)(k:DK):RelO (mO kvs k) ((atKey xs k).map (·.2)):=by
 induction r with
 | nil=>exact True.intro
 | @cons p q ps qs h t ih=>
  obtain⟨h1,_,h2⟩:=h
  unfold mO
  by_cases e:p.1=k
  ·have e':q.1=k:=h1.symm.trans e
   have b:atKey (q::qs) k=U q.2:=by simp[atKey,Yi,e']
   rw[Xq e,b];exact h2
  ·have e':¬ q.1=k:=λz=>e (h1.trans z)
   have b:atKey (q::qs) k=atKey qs k:=by simp[atKey,Yi,e']
   rw[if_neg e,b];exact ih
theorem KA.put(r:KA kvs xs)(k:DK)(ry:RelV y u):KA (qM kvs k b y) (storedH xs k b u):=by
 have e:(mO kvs k).isSome=(atKey xs k).isSome:=by rw[(r.val k).isSome_eq,Option.isSome_map]
 unfold qM storedH
 rw[e]
 by_cases q:(atKey xs k).isSome=true
 ·rw[Xq q,Xq q]
  clear e q
  induction r with
  | nil=>exact .nil
  | @cons p q ps qs h t ih=>
   rw[Xp,Xp]
   refine .cons ?_ ih
   obtain⟨h1,h2,h3⟩:=h
   unfold putAt
   by_cases e:p.1=k
   ·rw[Xq e,Xq (h1.symm.trans e)];exact⟨h1,h2,ry⟩
   ·rw[if_neg e,if_neg (λz=>e (h1.trans z))];exact⟨h1,h2,h3⟩
 ·rw[if_neg q,if_neg q];exact Paired.snoc r ⟨rfl,rfl,ry⟩
section
variable{X:Cx}{pins:List (td×Obj)}{σ:St}{H:Hp}{s:gV}{a:td}{kvs:List (DK×td×V)}{k:DK}{b:td}{y v d:V}{u r:bd}{A:IN}{E:bd->gV->Prop}
def KeyAt(X:Cx)(H:Hp)(k:DK)(y:V):Prop:=k.depth<=8/\∀ (pins:List (td×Obj)) (σ:St) (s:gV) (u:bd),Inv X pins σ H s->RelV y u->IsDK s.heap k u
structure lZ(X:Cx)(H:Hp)(a:td)(kvs:List (DK×td×V)):Prop where
 e:H a=U (.dT kvs)
 ks:∀ p∈kvs,KeyAt X H p.1 (.ref p.2.1)
theorem KeyAt.is(I:Inv X pins σ H s)(h:KeyAt X H k (.ref b)):(gR X.prog X.w).is s.heap k b:=⟨h.2 _ _ _ _ I rfl,h.1⟩
theorem yL(I:Inv X pins σ H s)(g:lZ X H a kvs):kvs.length<=KY/\(a==sysModules)=false/\∃ xs,KA kvs xs/\s.heap.DictOfH (gR X.prog X.w) a xs:=by
 obtain⟨z,y,xs,r,o,es,ep,h1,h2,h3,h4,h5⟩:=(show ObjOk X.prog X.w H s.heap a (.dT kvs) from I.hok a _ g.e)
 refine⟨z,y,xs,r,o,es,ep,h1,h2,h3,h4,λx hx=>?_,h5⟩
 have all:∀ {l:List (DK×td×V)} {m:List (DK×td×bd)},KA l m->(∀ p∈l,KeyAt X H p.1 (.ref p.2.1))->∀ x∈m,(gR X.prog X.w).is s.heap x.1 x.2.1:=by
  intro l m q
  induction q with
  | nil=>intro _ x hx;exact absurd hx XZ
  | @cons p q ps qs hq t ih=>
   intro hk x hx
   rcases XD.mp hx with e | hx
   ·subst e
    have:=(hk p (by simp)).is I
    rw[hq.1,hq.2.1] at this
    exact this
   ·exact ih (λp hp=>hk p (Xf _ hp)) x hx
 exact all r g.ks x hx
theorem JJ(hu:A.units+9<cLine):(gR X.prog X.w).room A.in1:=by show A.in1.units+8<cLine;rw[aaF];omega
theorem DQ{Q:bd->gV->Prop}(hu:A.units+9<cLine)(I:Inv X pins σ H s)(g:lZ X H a kvs)(hk:KeyAt X H k (.ref b))(l:mO kvs k=U v)(h:∀ w' s',Inv X pins σ H s'->RelV v w'->Q w' s') :
  Qs (model X.prog X.w) A (getItem (.ref a) (.ref b)) Q E s:=by
 obtain⟨z,hd,xs,rel,dd⟩:=yL I g
 obtain⟨w',hw,rw'⟩:=RelO.some_of (v:=v) (o:=(atKey xs k).map (·.2)) (by rw[<- l];exact rel.val k)
 obtain⟨p,hp,hp2⟩:=YE.mp hw
 refine wpAny_getItem_heap (JJ hu) (hk.is I) dd hp ?_
 rw[hp2]
 exact h w' _ (I.tok _) rw'
theorem NJ{Q:bd->gV->Prop}(hu:A.units+9<cLine)(I:Inv X pins σ H s)(g:lZ X H a kvs)(hk:KeyAt X H k (.ref b))(h:∀ s',Inv X pins σ H s'->Q (.bool (!(mO kvs k).isSome)) s') :
  Qs (model X.prog X.w) A (Mc .NotIn (.ref b) (.ref a)) Q E s:=by
 obtain⟨z,hd,xs,rel,dd⟩:=yL I g
 refine wpAny_notIn_heap (JJ hu) (hk.is I) hd dd ?_
 have q:=(rel.val k).isSome_eq
 rw[Option.isSome_map] at q
 rw[<- q]
 exact h _ (I.tok _)
theorem DP{Q:Unit->gV->Prop}(hu:A.units+9<cLine)(I:Inv X pins σ H s)(g:lZ X H a kvs)(hk:KeyAt X H k (.ref b))(hl:kvs.length<KY)(rv:RelV v r)(h:∀ s',Inv X pins σ (upd H a (.dT (qM kvs k b v))) s'->Q () s') :
  Qs (model X.prog X.w) A (setItem (.ref a) (.ref b) r) Q E s:=by
 obtain⟨z,hd,xs,rel,dd⟩:=yL I g
 have hz:xs.length<=KY:=by rw[<- aae rel];exact z
 have hl':(qM kvs k b v).length<=KY:=by have:=AH kvs k b v;omega
 refine wpAny_setItem_heap (hsz:=hz) (JJ hu) (hk.is I) dd λh' dd' hs=>h _ ?_
 obtain⟨q,es,ep,hq,h2,h3,h4,_,h5⟩:=dd'
 exact yM I (by rw[g.e];exact True.intro) hs ⟨q,hq⟩ ⟨hl',hd,_,rel.put k rv,q,es,ep,hq,h2,h3,h4,h5⟩
end
def lT(cells:List (Str×td)):List (Str×NameKind)->List (Str×td)->List (Str×td)
 | [],acc=>acc
 | (n,k)::r,acc=>if k==.free then lT cells r ((n,(cells.lookup n).getD 0)::acc) else lT cells r acc
theorem hV{env:Env}:∀ (names:List (Str×NameKind)) (acc:List (Str×td)),(∀ x∈names,x.2=.free->(env.cells.lookup x.1).isSome=true) ->
  (forIn names acc λ(x:Str×NameKind) (r:List (Str×td))=>(do
   if x.2==.free then do let c <- cellOf env x.1;pure (ForInStep.yield ((x.1,c)::r)) else pure (ForInStep.yield r):Sem (ForInStep (List (Str×td)))))=pure (lT env.cells names acc)
 | [],acc,_=>rfl
 | (n,k)::r,acc,h=>by
  rw[YO]
  cases hk:k==NameKind.free with
  | true=>
   have e:k=.free:=by simpa using hk
   have hs:=h (n,k) Xi e
   obtain⟨c,hc⟩:=YN.mp hs
   have hc':env.cells.lookup n=U c:=hc
   have hce:cellOf env n=pure c:=by unfold cellOf;rw[hc']
   simp only[ZZ,hce,hc',Option.getD_some,pure_bind,lT,hk]
   rw[hV r _ λx hx=>h x (Xf _ hx)]
  | false=>
   simp only[XR,YG,pure_bind,lT,hk]
   exact hV r _ λx hx=>h x (Xf _ hx)
theorem ny{scope:Scope}{env:Env}(h:∀ x∈scope.names,x.2=.free->(env.cells.lookup x.1).isSome=true):closureFor scope env=pure (lT env.cells scope.names []):=by
 have q:=hV (env:=env) scope.names [] h
 unfold closureFor
 refine Yy ?_ (Yy (congrArg (λ(m:Sem (List (Str×td)))=>m >>= λcs=>pure cs) q) ?_)
 ·rfl
 ·rfl
theorem qh(cells:List (Str×td)):∀ (names:List (Str×NameKind)) (acc:List (Str×td)),(∀ x∈names,x.2=.free->(cells.lookup x.1).isSome=true)->(∀ y c,acc.lookup y=U c->cells.lookup y=U c) ->
  ∀ y c,(lT cells names acc).lookup y=U c->cells.lookup y=U c
 | [],_,_,ha=>ha
 | (n,k)::r,acc,h,ha=>by
  unfold lT
  split
  ·rename_i hk
   refine qh cells r _ (λx hx=>h x (Xf _ hx)) λy c e=>?_
   rw[Zv] at e
   split at e
   ·rename_i hy
    have hy':y=n:=by simpa using hy
    subst hy'
    obtain⟨c',hc'⟩:=YN.mp (h (y,k) Xi (by simpa using hk))
    have hc'':cells.lookup y=U c':=hc'
    rw[hc''] at e ⊢
    exact e
   ·exact ha y c e
  ·exact qh cells r _ (λx hx=>h x (Xf _ hx)) ha
theorem nX(cells:List (Str×td)):∀ (names:List (Str×NameKind)) (acc:List (Str×td)) (y:Str),(acc.lookup y).isSome=true->((lT cells names acc).lookup y).isSome=true
 | [],_,_,h=>h
 | (n,k)::r,acc,y,h=>by
  unfold lT
  split
  ·refine nX cells r _ y ?_
   rw[Zv]
   split
   ·rfl
   ·exact h
  ·exact nX cells r _ y h
theorem pA(cells:List (Str×td)):∀ (names:List (Str×NameKind)) (acc:List (Str×td)) (y:Str),(y,NameKind.free)∈names->((lT cells names acc).lookup y).isSome=true
 | [],_,_,h=>by simp at h
 | (n,k)::r,acc,y,h=>by
  unfold lT
  rcases XD.mp h with e | h
  ·cases e
   rw[Xq (by rfl)]
   exact nX cells r _ _ (by rw[Zv];simp)
  ·split
   ·exact pA cells r _ y h
   ·exact pA cells r _ y h
theorem ke{scope:Scope}{env:Env}{y:Str}:∀ {names:List (Str×NameKind)},
  ((names.map λ(n,k)=>if (k==NameKind.free&&env.scope.kind==.function&&env.kindOf n==U .cell) then(n,NameKind.cell) else(n,k)).lookup y=U .cell \/
  (names.map λ(n,k)=>if (k==NameKind.free&&env.scope.kind==.function&&env.kindOf n==U .cell) then(n,NameKind.cell) else(n,k)).lookup y=U .free) ->
  (∀ x∈names,x.2≠.cell)->(y,NameKind.free)∈names
 | [],h,_=>by simp at h
 | (n,k)::r,h,hc=>by
  have ih:=@ke scope env y r
  have hr:∀ x∈r,x.2≠.cell:=λx hx=>hc x (Xf _ hx)
  rw[Xp] at h
  by_cases hq:(k==NameKind.free&&env.scope.kind==.function&&env.kindOf n==U .cell)=true
  ·have hk:k=.free:=by
    have:=hq
    simp only[Xk] at this
    simpa using this.1.1
   simp only[hq,ZZ] at h
   simp only[Zv] at h
   cases hy:y==n with
   | true=>
    have e:y=n:=by simpa using hy
    rw[e,hk]
    exact Xi
   | false=>
    simp only[hy] at h
    exact Xf _ (ih h hr)
  ·simp only[hq,XR,YG] at h
   simp only[Zv] at h
   cases hy:y==n with
   | true=>
    simp only[hy] at h
    have e:y=n:=by simpa using hy
    rcases h with h | h
    ·exact absurd (XC h) (hc (n,k) Xi)
    ·rw[e,<- XC h]
     exact Xi
   | false=>
    simp only[hy] at h
    exact Xf _ (ih h hr)
def mI(X:Cx)(N':List Str)(scope:Scope)(C:td)(s:gV)(H:Hp)(fp:List td):Cx:=
 {X with N:=N',s₀:=s,H₀:=H,env:=compEnvC scope (lT X.env.cells scope.names []) C X.env,outer:=X.stack,ex:=fp,fn:=λ_=>false,pn:=[],xe:=λ_ _=>False }
def RQ(X:Cx)(ifs:List tx)(t:TT):Prop:=
 ∀ (pins:List (td×Obj)) (s:gV) (σ:St) (H:Hp) (Q:Bool->Hp->Prop),Inv X pins σ H s->t σ H Q->Qs (model X.prog X.w) X.A (forIn ifs true λc r=>if r=true then do let ok <- isTrue c X.env (eval c X.env);pure (ForInStep.yield ok) else pure (ForInStep.yield r)) (TP X pins σ Q) X.xe s
theorem Pb:RQ X [] (λ_ H Q=>Q true H):=λ_ _ _ H _ I h=>wpAny_tests_nil ⟨H,I,h⟩
theorem Pa(h:PT X c t):RQ X [c] t:=λpins s σ H Q I q=>wpAny_tests_one (h pins s σ H Q I q)
def rP(e tg:tx)(p0:Pos)(ifs:List tx)(d:Nat)(it acc:bd)(env:Env)(bc:Sem Unit):Sem Fin:=do
 standAt p0
 let r <- pyNext it
 match r with
 | none=>pure (Fin.done Flow.next)
 | some v=>do
  letOwnedTupleGo tg it v
  assign tg env v
  let ok <- forIn ifs true λc r=>if r=true then do let ok <- isTrue c env (eval c env);pure (ForInStep.yield ok) else pure (ForInStep.yield r)
  if ok=true then do bc;again (.compLoop e d it acc env) else again (.compLoop e d it acc env)
def VT(elt:tx)(acc:bd)(env:Env):Sem Unit:=do
 let x <- eval elt env
 let _ <- call (.builtin "list.append") [acc,x]
 pure ()
section
variable{prog:vx}{w:Gs}{A:IN}{R:Result->gV->Prop}{s:gV}
theorem lS{e:tx}{d:Nat}(he:e=.ListComp elt gens scope pos)(htn:compTurn e d it acc env=rP e tg p0 ifs d it acc env bc)(I:Nat->gV->Prop)
  (turn:∀ n s,I n s->Qs (model prog w) A (pyNext it) (λr s₁=>match r with
   | none=>R (.ok .next) s₁
   | some v=>Qs (model prog w) A (letOwnedTupleGo tg it v) (λ_ s₁'=>Qs (model prog w) A (assign tg env v) (λ_ s₂=>
     Qs (model prog w) A (forIn ifs true λc r=>if r=true then do let ok <- isTrue c env (eval c env);pure (ForInStep.yield ok) else pure (ForInStep.yield r)) (λok s₃=>
      if ok=true then Qs (model prog w) A bc (λ_ s₅=>∃ m,m<n/\I m s₅) (λ_ _=>False) s₃
      else ∃ m,m<n/\I m s₃) (λ_ _=>False) s₂) (λ_ _=>False) s₁') (λ_ _=>False) s₁) (λ_ _=>False) s)
  (n:Nat) (h:I n s) :
  codeAny (model prog w) A (.compLoop e d it acc env) R s:=by
 refine codeAny_loop rfl I (λn s hI=>?_) n h
 subst he
 show Qs _ A ((compTurn (.ListComp elt gens scope pos) d it acc env).onRaise (λx=>do noteFrame x env;theTreesLotGoes x)) _ _ s
 refine wpAny_noted ?_
 rw[htn]
 refine Xd (aab (Xd (XQ (turn n s hI) (λr s₁ h₁=>?_) λ_ _ h'=>h'.elim)))
 cases r with
 | none=>exact Xj h₁
 | some v=>
  refine Xd (XQ h₁ (λ_ s₁' h₁'=>?_) λ_ _ h'=>h'.elim)
  refine Xd (XQ h₁' (λ_ s₂ h₂=>Xd (XQ h₂ (λok s₃ h₃=>?_) λ_ _ h'=>h'.elim)) λ_ _ h'=>h'.elim)
  cases ok with
  | false=>exact Xj ⟨rfl,h₃⟩
  | true=>exact Xd (XQ h₃ (λ_ s₅ h₅=>Xj ⟨rfl,h₅⟩) λ_ _ h'=>h'.elim)
end
noncomputable abbrev TB:=St->Hp->(St->Hp->Prop)->Prop
def PB(X:Cx)(m:Sem Unit)(tb:TB):Prop:=
 ∀ (pins:List (td×Obj)) (s:gV) (σ:St) (H:Hp) (Q:St->Hp->Prop),Inv X pins σ H s->tb σ H Q->Qs (model X.prog X.w) X.A m (λ_ s'=>∃ σ' H',Inv X pins σ' H' s'/\Q σ' H') X.xe s
def tEm(te:TE)(p:td):TB:=λσ H Q=>te σ H λy H5=>∃ ys,H5 p=U (.lst ys)/\ys.length<KY/\Q σ (upd H5 p (.lst (ys++[y])))
theorem EB(he:PE X elt te):PB X (VT elt (.ref p) X.env) (tEm te p):=λpins s σ H Q I h=>by
 refine Xd (dA (he pins s σ H _ I h) λxv s8 ⟨y,H8,J8,r8,q8⟩=>?_)
 obtain⟨ys,hy,hz,q9⟩:=q8
 refine Xd (dA (vI _ s8 σ H8 (.ref p) [y] (.ref p) [xv] (λ_ H9=>H9=upd H8 p (.lst (ys++[y]))) J8 rfl (.cons r8 .nil) ⟨_,ys,y,rfl,rfl,hy,hz,rfl⟩) λ_ s9 ⟨_,H9,J9,_,e9⟩=>?_)
 subst e9
 exact Xj ⟨_,_,J9,q9⟩
def Jl(J:It)(g:TG)(tt:TT)(tb:TB)(σ:St)(H:Hp)(Q:St->Hp->Prop):Prop:=∃ W:Nat->Nat->St->Hp->Prop,(∃ m,W 0 m σ H)/\∀ i m σ' H',W i m σ' H' ->
 (J.stop i H'/\Q σ' H')\/(J.go i H'/\∀ x H2,J.yld i H' x H2->g x σ' H2 λσ2 H3=>tt σ2 H3 λok H4=>
  if ok=true then tb σ2 H4 λσ3 H5=>∃ m',m'<m/\W (i+1) m' σ3 H5 else ∃ m',m'<m/\W (i+1) m' σ2 H4)
theorem Iv{X:Cx}{e:tx}{d:Nat}
  (hc:X.calm=true) (hx:∀ e s,X.xe e s->False) (hl:e=.ListComp elt gens scope pos) (htn:compTurn e d (.ref it) acc X.env=rP e tg p0 ifs d (.ref it) acc X.env bc) (hg:PG X tg g) (ht:RQ X ifs tt) (hb:PB X bc tb) (T:Ef X.prog X.w X.K tg J fp it tn) {s:gV} (I:Inv X pins σ H s) (st:tn 0 s.heap) (f2:∀ b∈fp,qo X pins H b) (h:Jl J g tt tb σ H Q) :
  codeAny (model X.prog X.w) X.A (.compLoop e d (.ref it) acc X.env) (λr s'=>∃ σ' H',r=.ok .next/\Inv X pins σ' H' s'/\Q σ' H') s:=by
 obtain⟨W,⟨m0,w0⟩,turn⟩:=h
 have no:∀ e s,X.xe e s->(λ(_:bd) (_:gV)=>False) e s:=hx
 have stat:∀ {H':Hp},(∀ b∈fp,H' b=Y)->∀ b∈fp,qo X pins H' b:=λhn b hb=>⟨hn b hb,(f2 b hb).2⟩
 refine lS hl htn (λn s'=>∃ i σ' H',Inv X pins σ' H' s'/\tn i s'.heap/\(∀ b∈fp,H' b=Y)/\W i n σ' H') ?_ m0 ⟨0,_,_,I,st,λb hb=>(f2 b hb).1,w0⟩
 rintro n s3 ⟨i,σ3,H3,J3,st3,fr3,w3⟩
 rcases turn i n σ3 H3 w3 with ⟨stop,qn⟩ | ⟨go,step⟩
 ·refine dA (T.done X rfl rfl rfl hc i pins s3 σ3 H3 _ J3 (stat fr3) st3 stop) λr s4 ⟨hr,J4⟩=>?_
  subst hr
  exact⟨σ3,H3,rfl,J4,qn⟩
 ·refine dA (T.item X rfl rfl rfl hc i pins s3 σ3 H3 _ J3 (stat fr3) st3 go) λr s4 ⟨u,hr,h4⟩=>?_
  subst hr
  refine dA h4 λ_ s5 ⟨x,H5,J5,r5,y5,st5,fr5⟩=>?_
  have J5':=J5.pinned (stat fr5) (T.obj _ _ st5)
  refine XQ (hg _ s5 σ3 H5 x u _ J5' r5 (step x H5 y5)) (λ_ s6 ⟨σ6,H6,J6,q6⟩=>?_) no
  refine XQ (ht _ s6 σ6 H6 _ J6 q6) (λok s7 ⟨H7,J7,q7⟩=>?_) no
  have again:∀ {s':gV} {σ7:St} {H7:Hp},Inv X (pins++sj fp s5.heap) σ7 H7 s'->(∃ m',m'<n/\W (i+1) m' σ7 H7)->∃ m,m<n/\∃ i σ' H',Inv X pins σ' H' s'/\tn i s'.heap/\(∀ b∈fp,H' b=Y)/\W i m σ' H':=λ{s' σ7 H7} J7 n7=>by
   obtain⟨m',hm,w7⟩:=n7
   refine⟨m',hm,i+1,σ7,H7,J7.unpinned,T.keep _ _ _ st5 λb hb o e=>(J7.pin (b,o) (XX _ (XX _ (kn hb e)))).1,λb hb=>?_,w7⟩
   obtain⟨o,e,d⟩:=T.obj _ _ st5 b hb
   exact(J7.pin (b,o) (XX _ (XX _ (kn hb e)))).2.1
  cases ok with
  | false=>
   rw[if_neg Sn] at q7 ⊢
   exact again J7 q7
  | true=>
   rw[Xq rfl] at q7 ⊢
   exact XQ (hb _ s7 σ6 H7 _ J7 q7) (λ_ s9 ⟨σ9,H9,J9,q9⟩=>again J9 q9) no
structure BlockOk(X:Cx)(N':List Str)(scope:Scope)(cap:List (Option Nat)):Prop where
 kind:scope.kind=.function
 nocell:∀ x∈scope.names,x.2≠.cell
 names:∀ x∈scope.names,x.2=.local->scope.names.lookup x.1=U .local
 free:∀ x∈scope.names,x.2=.free->(X.env.kindOf x.1=U .cell\/X.env.kindOf x.1=U .free)
 nd:N'.Nodup
 len:cap.length=N'.length
 cap:∀ (j i:Nat),cap[j]?=U (U i)->∃ y,N'[j]?=U y/\X.N[i]?=U y/\Tf X.env.scope y/\(X.env.kindOf y=U .cell\/X.env.kindOf y=U .free)/\((relabel scope X.env).names.lookup y=U .cell\/(relabel scope X.env).names.lookup y=U .free)
def σB(cap:List (Option Nat))(σ:St):St:=cap.map λo=>o.bind λi=>(σ[i]?).join
section
variable{X:Cx}{pins:List (td×Obj)}{σ:St}{H:Hp}{s:gV}{N':List Str}{scope:Scope}{cap:List (Option Nat)}{C:td}{fp:List td}
theorem BlockOk.cells(B:BlockOk X N' scope cap)(ok:X.Ok):∀ x∈scope.names,x.2=.free->(X.env.cells.lookup x.1).isSome=true:=λx hx hf=>by
 obtain⟨c,e⟩:=ok.has x.1 (B.free x hx hf)
 rw[e];rfl
theorem BlockOk.cl(B:BlockOk X N' scope cap)(ok:X.Ok):∀ y c,(lT X.env.cells scope.names []).lookup y=U c->X.env.cells.lookup y=U c:=
 qh _ _ _ (B.cells ok) λy c e=>by simp at e
theorem Inv.notStk(I:Inv X pins σ H s){b:td}(h1:b≠X.env.locals)(h2:b∉X.fs):b∉tK X.stack:=λz=>(XD.mp (I.stkSub b z)).elim h1 h2
theorem Inv.block{h4:Jq}{tk:Nat}(I:Inv X pins σ H s)(B:BlockOk X N' scope cap)(hfp:∀ b∈fp,qo X pins H b/\b<s.heap.objs.size)(hC:s.heap.objs.size<=C)
  (hk:∀ b o,s.heap.get? b=U o->h4.get? b=U o) (hn:h4.Ns C m0):Inv (mI X N' scope C s H fp) [] (σB cap σ) H { s with heap:=h4,toks:=tk }:=by
 have okX:=I.ok
 have hcl:=B.cl okX
 have cellC:∀ x c,(lT X.env.cells scope.names []).lookup x=U c->∃ v,s.heap.IsCell c v:=λx c e=>I.cell x c (hcl x c e)
 have neC:∀ b o,s.heap.get? b=U o->b≠C:=λb o e=>XT (XB (Xo e) hC)
 refine⟨⟨okX.mod,B.kind,okX.glob,okX.blt,hC,λx y c e1 e2=>okX.inj x y c (hcl x c e1) (hcl y c e2),λx hx=>?_,λx c e _=>(by cases e),okX.hd,okX.frames,.inl rfl,λb hb=>⟨λz=>?_,λx c e z=>?_⟩,λb o e=>I.bs b o e,XN okX.bsz I.sz,λb o e hb=>?_,λb hb z=>?_,I.stack,I.stkFree⟩,
  rfl,I.bare,Un.kept hk,⟨m0,hn,λj y v e1 e2 e3=>?_⟩,λx c e=>?_,I.hok.fresh hC,λx c e=>I.freeC x c (hcl x c e),λp hp=>absurd (show p∈([]:List (td×Obj)) from hp) (by simp),I.hok.kept hk,?_⟩
 ·have q:=ke (scope:=scope) (env:=X.env) (y:=x) (names:=scope.names) hx B.nocell
  exact YN.mp (pA _ _ _ _ q)
 ·have z':b=C:=z
  exact absurd (hfp b hb).2 (by rw[z'];exact ZV.mpr hC)
 ·exact(hfp b hb).1.2.2.2.2.1 x c (hcl x c e) z
 ·obtain⟨h0,h1,h2,h3,h4',h5⟩:=(hfp b hb).1
  rcases h3 with h3 | h3
  ·exact okX.noex b o e h3
  ·have:=(okX.bs b o e).1
   exact absurd (XB (Xo this) h3) (YS _)
 ·obtain⟨h0,h1,h2,h3,h4',h5⟩:=(hfp b hb).1
  exact I.notStk h1 h2 z
 ·have e1':N'[j]?=U y:=e1
  unfold σB at e2
  rw[Yl] at e2
  cases ec:cap[j]? with
  | none=>rw[ec] at e2;cases e2
  | some o=>
   rw[ec] at e2
   cases o with
   | none=>cases e2
   | some i=>
    obtain⟨y',n1,n2,vis,kx,kb⟩:=B.cap j i ec
    rw[e1'] at n1;cases n1
    have e2':(σ[i]?).join=U v:=XC e2
    have e2'':σ[i]?=U (U v):=by
     cases q:σ[i]? with
     | none=>rw[q] at e2';cases e2'
     | some z=>rw[q] at e2';exact congrArg U e2'
    obtain⟨m,hm,hl⟩:=I.loc
    obtain⟨u,ru,lk⟩:=hl i y v n2 e2'' vis
    refine⟨u,ru,.inr ⟨kb,?_⟩⟩
    rcases lk with ⟨k,_⟩ | ⟨k,c,ec',z⟩
    ·rcases kx with kx | kx
     ·rw[kx] at k;cases k
     ·rw[kx] at k;cases k
    ·have q:=ke (scope:=scope) (env:=X.env) (y:=y) (names:=scope.names) kb B.nocell
     obtain⟨c',hc'⟩:=YN.mp (pA X.env.cells scope.names [] y q)
     have:=hcl y c' hc'
     rw[ec'] at this;cases this
     exact⟨c,hc',z.keeps hk⟩
 ·obtain⟨v,z⟩:=cellC x c e
  exact⟨v,z.keeps hk⟩
 ·show(σB cap σ).length=N'.length
  unfold σB
  rw[Xn,B.len]
theorem Inv.unblock(I:Inv X pins σ H s)(hfp:∀ b∈fp,qo X pins H b)(J:Inv (mI X N' scope C s H fp) pins' σ' Hf s'):Inv X pins σ Hf s':=
 I.call' (ch:=fp) J.os J.base J.hok J.bare λb hb=>by
  obtain⟨h0,h1,h2,h3,h4,h5⟩:=hfp b hb
  exact⟨h3,h1,h4,h5⟩
end
def wN(wi:TI)(g:TG)(tt:TT)(tb:td->TB)(cap:List (Option Nat)):TE:=λσ H Q=>wi σ H λJ H1=>∀ p,H1 p=Y->Jl J g tt (tb p) (σB cap σ) (upd H1 p (.lst [])) λ_ H'=>Q (.ref p) H'
def Es(wi:TI)(g:TG)(tt:TT)(te:TE)(cap:List (Option Nat)):TE:=wN wi g tt (tEm te) cap
def Behind(X:Cx)(pins:List (td×Obj))(σ:St)(Q:VK)(acc:bd)(C:td)(r:Result)(s':gV):Prop:=
 ∃ p Hf m,r=.ok .next/\acc=.ref p/\Inv X pins σ Hf s'/\Q (.ref p) Hf/\s'.heap.Ns C m/\Hf C=Y/\C≠X.env.locals/\X.s₀.heap.objs.size<=C/\(∀ x c,X.env.cells.lookup x=U c->c≠C)/\(∀ q∈X.pn++pins,q.1≠C)
theorem ue{X:Cx}{rest:List Comprehension}{tb:td->TB}{bc:bd->Env->Sem Unit}
  (hc:X.calm=true) (B:BlockOk X N' scope cap) (hi:PI X tg iter wi) (hg:∀ C s H fp,PG (mI X N' scope C s H fp) tg g) (ht:∀ C s H fp,RQ (mI X N' scope C s H fp) ifs tt)
  (htn:∀ it acc env,compTurn (.ListComp elt (⟨tg,iter,ifs,0⟩::rest) scope pos) 0 it acc env=rP (.ListComp elt (⟨tg,iter,ifs,0⟩::rest) scope pos) tg iter.pos ifs 0 it acc env (bc acc env))
  (hb:∀ C s H fp p,PB (mI X N' scope C s H fp) (bc (.ref p) (mI X N' scope C s H fp).env) (tb p)) {s:gV} (I:Inv X pins σ H s) (h:wN wi g tt tb cap σ H Q) {E:bd->gV->Prop} (hE:∀ e s,X.xe e s->E e s) :
  Qs (model X.prog X.w) X.A (eval iter X.env) (λx s₁=>Qs (model X.prog X.w) X.A (pyIter x) (λit s₂=>Qs (model X.prog X.w) X.A (newList []) (λacc s₃=>
   Qs (model X.prog X.w) X.A (newFunctionEnv scope X.env.globals (lT X.env.cells scope.names []) [] X.env.qual Y .none (U X.env)) (λcenv s₄=>
    codeAny (model X.prog X.w) X.A (.compStart (.ListComp elt (⟨tg,iter,ifs,0⟩::rest) scope pos) 0 it acc { cenv with scope:=relabel scope X.env }) (Behind X pins σ Q acc cenv.locals) s₄) E s₃) E s₂) E s₁) E s:=by
 refine XQ (hi pins s σ H _ I h) (λv s1 h1=>XQ h1 (λitv s2 h2=>?_) hE) hE
 obtain⟨it,fp,tn,J,H1,e,I2,T,st2,f2,hW⟩:=h2
 subst e
 refine XI (wpAny_newFunctionEnv B.nocell (by intro y hy;simp at hy) (λh₁ hns₁ hsb₁=>?_) B.kind)
 dsimp only at hns₁ hsb₁ ⊢
 have hp1:H1 s2.heap.objs.size=Y:=I2.hok.fresh (Xm _)
 have hL:=hW s2.heap.objs.size hp1
 have I3:Inv X pins σ (upd H1 s2.heap.objs.size (.lst [])) { s2 with heap:=s2.heap.push { cls:=.type "list",dict:=Y,data:=.seq ([]:List bd).toArray },toks:=s2.toks }:=
  I2.laid (λb o e=>Xh _ e) (Xm _) ⟨Zj _,[],_,.nil,Xr _ rfl⟩
 generalize hH2:s2.heap.push { cls:=.type "list",dict:=Y,data:=.seq ([]:List bd).toArray } = H2 at hns₁ hsb₁ I3 ⊢
 have hC:H2.objs.size=s2.heap.objs.size+1:=by rw[<- hH2,YJ]
 have ltfp:∀ b∈fp,b<s2.heap.objs.size:=λb hb=>by
  obtain⟨o,e,_⟩:=T.obj _ _ st2 b hb
  exact Xo e
 have hf3:∀ b∈fp,qo X pins (upd H1 s2.heap.objs.size (.lst [])) b/\b<H2.objs.size:=λb hb=>by
  obtain⟨a0,a⟩:=f2 b hb
  refine⟨⟨?_,a⟩,by rw[hC];exact Nat.lt_succ_of_lt (ltfp b hb)⟩
  rw[aO (XT (ltfp b hb))];exact a0
 have up:∀ b o,H2.get? b=U o->h₁.get? b=U o:=λb o e=>hsb₁.extBut b o (XT (Xo e)) (Xh _ e)
 have I4:=I3.block (C:=H2.objs.size) (fp:=fp) (h4:=h₁) (tk:=s2.toks+([]:List (Str×bd)).length) B hf3 (Xm _) up hns₁
 have st4:tn 0 h₁:=T.keep _ _ _ st2 λb hb o e=>up b o (by rw[<- hH2];exact Xh _ e)
 have loop:codeAny (model X.prog X.w) X.A (.compLoop (.ListComp elt (⟨tg,iter,ifs,0⟩::rest) scope pos) 0 (.ref it) (.ref s2.heap.objs.size) (compEnvC scope (lT X.env.cells scope.names []) H2.objs.size X.env))
    (Behind X pins σ Q (.ref s2.heap.objs.size) H2.objs.size) { s2 with heap:=h₁,toks:=s2.toks+([]:List (Str×bd)).length }:=by
  refine Zl (Iv (X:=mI X N' scope H2.objs.size { s2 with heap:=H2,toks:=s2.toks } (upd H1 s2.heap.objs.size (.lst [])) fp) hc (λ_ _ z=>z) rfl (htn _ _ _) (hg _ _ _ _) (ht _ _ _ _) (hb _ _ _ _ _) T I4 st4 (λb hb=>?_) hL) λr s4 ⟨σ4,H4,hr,J4,qn⟩=>?_
  ·obtain⟨h0,h1,h2,h3,h4',h5⟩:=(hf3 b hb).1
   exact⟨h0,XT (hf3 b hb).2,I3.notStk h1 h2,.inl hb,λx c e=>h4' x c (B.cl I3.ok x c e),λp hp=>absurd (show p∈([]:List (td×Obj)) from hp) (by simp)⟩
  ·obtain⟨m,hm,_⟩:=J4.loc
   have IX:=I3.unblock (λb hb=>(hf3 b hb).1) J4
   refine⟨_,H4,m,hr,rfl,IX,qn,hm,J4.free,?_,?_,λx c e z=>?_,λq hq z=>?_⟩
   ·exact Ne.symm (XT I3.lt)
   ·exact I3.sz
   ·obtain⟨v,q⟩:=I3.cell x c e
    exact absurd q.lt (by rw[z];exact YS _)
   ·exact absurd (Xo (I3.pin q hq).1) (by rw[z];exact YS _)
 exact codeAny_compStart_list loop (T.self _ 0 _ _ _ st4 loop)
theorem Kh{X:Cx}{iter:tx}{rest:List Comprehension}{tb:td->TB}{bc:bd->Env->Sem Unit}
  (hc:X.calm=true) (B:BlockOk X N' scope cap) (hi:PI X tg iter wi) (hg:∀ C s H fp,PG (mI X N' scope C s H fp) tg g) (ht:∀ C s H fp,RQ (mI X N' scope C s H fp) ifs tt) (htn:∀ it acc env,compTurn (.ListComp elt (⟨tg,iter,ifs,0⟩::rest) scope pos) 0 it acc env=rP (.ListComp elt (⟨tg,iter,ifs,0⟩::rest) scope pos) tg iter.pos ifs 0 it acc env (bc acc env))
  (hb:∀ C s H fp p,PB (mI X N' scope C s H fp) (bc (.ref p) (mI X N' scope C s H fp).env) (tb p))
  (hs:∀ x,Ld iter X.env x=pure x:=by intro _;rfl):PE X (.ListComp elt (⟨tg,iter,ifs,0⟩::rest) scope pos) (wN wi g tt tb cap):=by
 intro pins s σ H Q I h
 rw[eval_ListComp]
 refine aaY (use:=Y) rfl hs (ny (B.cells I.ok)) B.kind B.names ?_
 refine XQ (ue hc B hi hg ht htn hb I h λ_ _ x=>x) (λx s1 h1=>XQ h1 (λit s2 h2=>XQ h2 (λacc s3 h3=>XQ h3 (λcenv s4 h4=>Zl h4 λr s' hr=>?_) λ_ _ x=>x) λ_ _ x=>x) λ_ _ x=>x) λ_ _ x=>x
 obtain⟨p,Hf,m,rfl,rfl,J,q,hn,c1,c2,c3,c4,c5⟩:=hr
 exact⟨m,hn,λh' sb=>⟨_,Hf,J.turned (t':=s'.toks) (λb o hb e=>(sb.2 b hb).trans e) c1 c2 (.inr c3) c4 c5,(show RelV (.ref p) (.ref p) from rfl),q⟩⟩
theorem zJ{X:Cx}{iter:tx}{rest:List Comprehension}{spos:Pos}{tb:td->TB}{bc:bd->Env->Sem Unit}{y:Str}{i:Nat}
  (hN:X.N.Nodup) (hy:X.N[i]?=U y) (hx:Gi X.env.scope y)
  (hc:X.calm=true) (B:BlockOk X N' scope cap) (hi:PI X tg iter wi) (hg:∀ C s H fp,PG (mI X N' scope C s H fp) tg g) (ht:∀ C s H fp,RQ (mI X N' scope C s H fp) ifs tt) (htn:∀ it acc env,compTurn (.ListComp elt (⟨tg,iter,ifs,0⟩::rest) scope pos) 0 it acc env=rP (.ListComp elt (⟨tg,iter,ifs,0⟩::rest) scope pos) tg iter.pos ifs 0 it acc env (bc acc env))
  (hb:∀ C s H fp p,PB (mI X N' scope C s H fp) (bc (.ref p) (mI X N' scope C s H fp).env) (tb p))
  (hsw:swapsWith (.ListComp elt (⟨tg,iter,ifs,0⟩::rest) scope pos) (U (.Name y py)) spos.line X.env=pure true:=by rfl)
  (hs:∀ x,Ld iter X.env x=pure x:=by intro _;rfl) (hf:X.fn y=true\/X.env.scope.names.lookup y=U .local:=by first | exact .inl rfl | exact .inr rfl | assumption) :
  PS X (.Assign [.Name y py] (.ListComp elt (⟨tg,iter,ifs,0⟩::rest) scope pos) spos) (Jn (wN wi g tt tb cap) (FE i)):=by
 intro pins s σ H D I h
 rw[exec_Assign_Name_used _ _ _ _ hsw]
 refine Xd (aab (Xd ?_))
 show Qs _ _ (do let _ <- comprehension (.ListComp elt (⟨tg,iter,ifs,0⟩::rest) scope pos) scope X.env _ (newList []) false (eval iter X.env) (U (assign (.Name y py) X.env))) _ _ s
 refine Xd (XQ (aaY (use:=U (assign (.Name y py) X.env)) (Q:=λ_ s'=>SP X pins D .next s') rfl hs (ny (B.cells I.ok)) B.kind B.names
  (XQ (ue hc B hi hg ht htn hb I h λ_ _ x=>x) (λx s1 h1=>XQ h1 (λit s2 h2=>XQ h2 (λacc s3 h3=>XQ h3 (λcenv s4 h4=>Zl h4 λr s' hr=>?_) λ_ _ x=>x) λ_ _ x=>x) λ_ _ x=>x) λ_ _ x=>x))
  (λ_ s' hq=>Xj (Xj hq)) λ_ _ e=>e)
 obtain⟨p,Hf,m,rfl,rfl,J,q,hn,c1,c2,c3,c4,c5⟩:=hr
 refine wpAny_assign_Name (vw J hN hy hx (v:=.ref p) rfl (λs2 J2 ⟨a,sb,ha⟩=>?_) hf)
 refine⟨m,hn.sameBut sb ?_,λh' sb2=>⟨_,Hf,J2.turned (t':=s2.toks) (λb o hb e=>(sb2.2 b hb).trans e) c1 c2 (.inr c3) c4 c5,q⟩⟩
 rcases ha with rfl | ha
 ·exact c2
 ·exact Ne.symm (c4 _ _ ha)
theorem Ez{X:Cx}{iter:tx}
  (hc:X.calm=true) (B:BlockOk X N' scope cap) (hi:PI X tg iter wi) (hg:∀ C s H fp,PG (mI X N' scope C s H fp) tg g) (ht:∀ C s H fp,RQ (mI X N' scope C s H fp) ifs tt) (he:∀ C s H fp,PE (mI X N' scope C s H fp) elt te)
  (hs:∀ x,Ld iter X.env x=pure x:=by intro _;rfl):PE X (.ListComp elt [⟨tg,iter,ifs,0⟩] scope pos) (Es wi g tt te cap):=
 Kh hc B hi hg ht (λ_ _ _=>compTurn_list ..) (λC s H fp p=>EB (he C s H fp)) hs
theorem sg{X:Cx}{iter:tx}{spos:Pos}{y:Str}{i:Nat}
  (hN:X.N.Nodup) (hy:X.N[i]?=U y) (hx:Gi X.env.scope y)
  (hc:X.calm=true) (B:BlockOk X N' scope cap) (hi:PI X tg iter wi) (hg:∀ C s H fp,PG (mI X N' scope C s H fp) tg g) (ht:∀ C s H fp,RQ (mI X N' scope C s H fp) ifs tt) (he:∀ C s H fp,PE (mI X N' scope C s H fp) elt te)
  (hsw:swapsWith (.ListComp elt [⟨tg,iter,ifs,0⟩] scope pos) (U (.Name y py)) spos.line X.env=pure true:=by rfl)
  (hs:∀ x,Ld iter X.env x=pure x:=by intro _;rfl) (hf:X.fn y=true\/X.env.scope.names.lookup y=U .local:=by first | exact .inl rfl | exact .inr rfl | assumption) :
  PS X (.Assign [.Name y py] (.ListComp elt [⟨tg,iter,ifs,0⟩] scope pos) spos) (Jn (Es wi g tt te cap) (FE i)):=
 zJ hN hy hx hc B hi hg ht (λ_ _ _=>compTurn_list ..) (λC s H fp p=>EB (he C s H fp)) hsw hs hf
def pk(x C:td)(dx:Option td)(h:Jq):Prop:=∃ oe vs,h.get? x=U oe/\oe.cls=.ref C/\oe.dict=dx/\oe.data=.fields vs
end L2
namespace M
open L2
def SE(a:td)(h:Jq):Prop:=∃ o,h.get? a=U o/\o.cls=.type "dict"
inductive D where
 | non
 | bl (b:Bool)
 | int (i:Int)
 | str (x:Str)
 | tup (xs:List D)
 | lst (xs:List D)
 | rol (xs:List D)
 | dct (ks:List bC) (vs:List D)
 | ref (r:Nat)
 | txt
 | obj
 | exc (C:td)
 | fn (a:td)
inductive Cell where
 | lst (xs:List D)
 | dct (ks:List bC) (vs:List D)
 | deep (ks:List DK) (vs:List D)
noncomputable abbrev aa:=List Cell
structure Fp where
 cs:List td
 fb:List td
def Fp.no(μ:Fp)(a:td):Prop:=a∉μ.cs/\a∉μ.fb
noncomputable abbrev aE:=List (Option D)
theorem EK{α:Type}{N:List α}(hN:N.Nodup){i j:Nat}{x:α}(a:N[i]?=U x)(b:N[j]?=U x):i=j:=by
 obtain⟨h1,e1⟩:=Xe.mp a
 obtain⟨h2,e2⟩:=Xe.mp b
 exact(List.getElem_inj hN).mp (e1.trans e2.symm)
def KList(K:QF)(a:td)(xs:List V):Prop:=∃ (o:Obj) (its:Array bd) (n:Nat),K.lookup a=U o/\o.cls=.type "list"/\o.dict=Y/\o.data=.seq its n/\its.size<=KY/\Vals xs its.toList
def KTup(K:QF)(a:td)(xs:List V):Prop:=∃ (o:Obj) (its:Array bd) (n:Nat),K.lookup a=U o/\o.cls=.type "tuple"/\o.dict=Y/\o.data=.seq its n/\its.size<=KY/\Vals xs its.toList
mutual
inductive Rep(K:QF)(μ:Fp)(H:Hp):V->D->Prop
 | non:Rep K μ H .non .non
 | bl (b:Bool):Rep K μ H (.bl b) (.bl b)
 | int (i:Int):Rep K μ H (.int i) (.int i)
 | str (x:Str):Rep K μ H (.str x) (.str x)
 | tup {a:td} {vs:List V} {ds:List D} (h:H a=U (.tup vs)) (n:μ.no a) (r:Reps K μ H vs ds):Rep K μ H (.ref a) (.tup ds)
 | ktup {a:td} {vs:List V} {ds:List D} (h:KTup K a vs) (r:Reps K μ H vs ds):Rep K μ H (.ref a) (.tup ds)
 | lst {a:td} {vs:List V} {ds:List D} (h:H a=U (.lst vs)) (n:μ.no a) (r:Reps K μ H vs ds):Rep K μ H (.ref a) (.lst ds)
 | rol {a:td} {vs:List V} {ds:List D} (h:Rd H a (.lst vs)) (n:μ.no a) (r:Reps K μ H vs ds):Rep K μ H (.ref a) (.rol ds)
 | krol {a:td} {vs:List V} {ds:List D} (h:KList K a vs) (r:Reps K μ H vs ds):Rep K μ H (.ref a) (.rol ds)
 | dct {a:td} {kvs:List (bC×V)} {ds:List D} (h:H a=U (.dK kvs)) (n:μ.no a) (r:Reps K μ H (kvs.map (·.2)) ds):Rep K μ H (.ref a) (.dct (kvs.map (·.1)) ds)
 | ref {a:td} {r:Nat} (h:μ.cs[r]?=U a):Rep K μ H (.ref a) (.ref r)
 | txt (x:Str):Rep K μ H (.str x) .txt
 | obj {a:td} (h:H a=U (.ext (SE a))) (n:μ.no a):Rep K μ H (.ref a) .obj
 | exc {a C:td} (h:H a=U (.ext (pk a C Y))) (n:μ.no a):Rep K μ H (.ref a) (.exc C)
 | fn (a:td):Rep K μ H (.ref a) (.fn a)
inductive Reps(K:QF)(μ:Fp)(H:Hp):List V->List D->Prop
 | nil:Reps K μ H [] []
 | cons {v:V} {d:D} {vs:List V} {ds:List D} (h:Rep K μ H v d) (t:Reps K μ H vs ds):Reps K μ H (v::vs) (d::ds)
end
structure Ext(μ:Fp)(H:Hp)(μ':Fp)(H':Hp):Prop where
 fb:μ'.fb = μ.fb
 pre:∃ l,μ'.cs = μ.cs++l/\∀ a∈l,H a=Y
 keep:∀ a o,a∉μ.cs->H a=U o->H' a=U o
 dom:∀ a∈μ'.cs,H' a≠Y
section
variable{K:QF}{μ μ' μ'':Fp}{H H' H'':Hp}
theorem Ext.stays(e:Ext μ H μ' H'){o:HO}(h:H a=U o)(n:μ.no a):H' a=U o/\μ'.no a:=by
 refine⟨e.keep a o n.1 h,λz=>?_,by rw[e.fb];exact n.2⟩
 obtain⟨l,q,hl⟩:=e.pre
 rw[q] at z
 rcases Xx.mp z with z | z
 ·exact n.1 z
 ·rw[hl a z] at h;cases h
theorem Ext.keeps(e:Ext μ H μ' H'){o:HO}(h:H a=U o)(n:a∉μ.cs):H' a=U o/\a∉μ'.cs:=by
 refine⟨e.keep a o n h,λz=>?_⟩
 obtain⟨l,q,hl⟩:=e.pre
 rw[q] at z
 rcases Xx.mp z with z | z
 ·exact n z
 ·rw[hl a z] at h;cases h
theorem Ext.trans(e:Ext μ H μ' H')(f:Ext μ' H' μ'' H''):Ext μ H μ'' H'':=by
 obtain⟨l,q,hl⟩:=e.pre
 obtain⟨l',q',hl'⟩:=f.pre
 refine⟨f.fb.trans e.fb,⟨l++l',by rw[q',q,XU],λa ha=>?_⟩,λa o n h=>?_,f.dom⟩
 ·rcases Xx.mp ha with ha | ha
  ·exact hl a ha
  ·have h1:=hl' a ha
   cases q2:H a with
   | none=>rfl
   | some o=>
    by_cases hm:a∈μ.cs
    ·exact absurd h1 (e.dom a (by rw[q];exact Yd _ hm))
    ·rw[e.keep a o hm q2] at h1;cases h1
 ·have:=e.keeps h n
  exact f.keep a o this.2 this.1
theorem Ext.refl(h:∀ a∈μ.cs,H a≠Y):Ext μ H μ H:=⟨rfl,⟨[],by simp,λ_ z=>by simp at z⟩,λ_ _ _ h=>h,h⟩
def kids:D->List D
 | .tup xs=>xs
 | .lst xs=>xs
 | .rol xs=>xs
 | .dct _ xs=>xs
 | _=>[]
theorem Rep.to{P:D->Prop}(hc:∀ d,P d->∀ x∈kids d,P x)(hk:∀ {a:td} {o:HO},H a=U o->μ.no a->H' a=U o/\μ'.no a)(hr:∀ {r:Nat} {a:td},P (.ref r)->μ.cs[r]?=U a->μ'.cs[r]?=U a){d:D}(r:Rep K μ H v d):P d->Rep K μ' H' v d:=
 Rep.rec (motive_1:=λv d _=>P d->Rep K μ' H' v d) (motive_2:=λvs ds _=>(∀ d∈ds,P d)->Reps K μ' H' vs ds)
  (λ_=>.non) (λb _=>.bl b) (λi _=>.int i) (λx _=>.str x) (λh n _ ih p=>.tup (hk h n).1 (hk h n).2 (ih (hc _ p))) (λh _ ih p=>.ktup h (ih (hc _ p)))
  (λh n _ ih p=>.lst (hk h n).1 (hk h n).2 (ih (hc _ p))) (λh n _ ih p=>.rol (h.imp (λh=>(hk h n).1) λ⟨o,h⟩=>⟨o,(hk h n).1⟩) (h.elim (λh=>(hk h n).2) λ⟨_,h⟩=>(hk h n).2) (ih (hc _ p))) (λh _ ih p=>.krol h (ih (hc _ p)))
  (λh n _ ih p=>.dct (hk h n).1 (hk h n).2 (ih (hc _ p))) (λh p=>.ref (hr p h)) (λx _=>.txt x) (λh n _=>.obj (hk h n).1 (hk h n).2) (λh n _=>.exc (hk h n).1 (hk h n).2)
  (λa _=>.fn a)
  (λ_=>.nil) (λ_ _ i1 i2 p=>.cons (i1 (p _ Xi)) (i2 λx hx=>p x (Xf _ hx))) r
theorem Reps.ind{Q:List V->List D->Prop}(h0:Q [] [])(h1:∀ {v:V} {d:D} {vs:List V} {ds:List D},Rep K μ H v d->Reps K μ H vs ds->Q vs ds->Q (v::vs) (d::ds)):∀ {vs:List V} {ds:List D},Reps K μ H vs ds->Q vs ds
 | _,_,.nil=>h0
 | _,_,.cons h t=>h1 h t (Reps.ind h0 h1 t)
theorem Reps.to{P:D->Prop}(hR:∀ {v:V} {d:D},Rep K μ H v d->P d->Rep K μ' H' v d)(r:Reps K μ H vs ds):(∀ d∈ds,P d)->Reps K μ' H' vs ds:=
 Reps.ind (Q:=λvs ds=>(∀ d∈ds,P d)->Reps K μ' H' vs ds) (λ_=>.nil) (λh _ i p=>.cons (hR h (p _ Xi)) (i λx hx=>p x (Xf _ hx))) r
theorem Rep.imp(hk:∀ {a:td} {o:HO},H a=U o->μ.no a->H' a=U o/\μ'.no a)(hr:∀ {r:Nat} {a:td},μ.cs[r]?=U a->μ'.cs[r]?=U a){d:D}(r:Rep K μ H v d):Rep K μ' H' v d:=Rep.to (P:=λ_=>True) (λ_ _ _ _=>trivial) hk (λ_=>hr) r trivial
theorem Reps.imp(hk:∀ {a:td} {o:HO},H a=U o->μ.no a->H' a=U o/\μ'.no a)(hr:∀ {r:Nat} {a:td},μ.cs[r]?=U a->μ'.cs[r]?=U a)(r:Reps K μ H vs ds):Reps K μ' H' vs ds:=Reps.to (P:=λ_=>True) (λr _=>r.imp hk hr) r λ_ _=>trivial
theorem yS{l m:List td}{k:List td}(q:k=l++m){r:Nat}{a:td}(h:l[r]?=U a):k[r]?=U a:=by
 rw[q,Xv (Xe.mp h).1];exact h
theorem Ext.ix(e:Ext μ H μ' H'){r:Nat}{a:td}(h:μ.cs[r]?=U a):μ'.cs[r]?=U a:=by
 obtain⟨l,q,_⟩:=e.pre
 exact yS q h
theorem Rep.mono(e:Ext μ H μ' H'){d:D}(r:Rep K μ H v d):Rep K μ' H' v d:=r.imp e.stays e.ix
theorem Reps.mono(e:Ext μ H μ' H')(r:Reps K μ H vs ds):Reps K μ' H' vs ds:=r.imp e.stays e.ix
theorem Reps.length{vs:List V}{ds:List D}(r:Reps K μ H vs ds):vs.length=ds.length:=Reps.ind (Q:=λvs ds=>vs.length=ds.length) rfl (λ_ _ i=>congrArg (· + 1) i) r
theorem Reps.get:∀ {vs:List V} {ds:List D} {i:Nat} {d:D},Reps K μ H vs ds->ds[i]?=U d->∃ v,vs[i]?=U v/\Rep K μ H v d
 | _,_,_,_,.nil,e=>by simp at e
 | _,_,0,_,.cons h _,e=>by simp at e;subst e;exact⟨_,rfl,h⟩
 | _,_,i+1,d,.cons _ t,e=>by
  obtain⟨u,h1,h2⟩:=Reps.get (i:=i) (d:=d) t (by simpa using e)
  exact⟨u,by simpa using h1,h2⟩
theorem Reps.append(r:Reps K μ H vs ds)(s:Reps K μ H ws es):Reps K μ H (vs++ws) (ds++es):=Reps.ind (Q:=λvs ds=>Reps K μ H (vs++ws) (ds++es)) s (λr _ i=>.cons r i) r
theorem Reps.take:∀ {vs:List V} {ds:List D} (n:Nat),Reps K μ H vs ds->Reps K μ H (vs.take n) (ds.take n)
 | _,_,0,_=>.nil
 | _,_,_+1,.nil=>.nil
 | _,_,n+1,.cons r t=>.cons r (Reps.take n t)
theorem Reps.drop:∀ {vs:List V} {ds:List D} (n:Nat),Reps K μ H vs ds->Reps K μ H (vs.drop n) (ds.drop n)
 | _,_,0,r=>r
 | _,_,_+1,.nil=>.nil
 | _,_,n+1,.cons _ t=>Reps.drop n t
theorem Reps.set{d:D}(r:Rep K μ H x d):∀ {vs:List V} {ds:List D} (i:Nat),Reps K μ H vs ds->Reps K μ H (vs.set i x) (ds.set i d)
 | _,_,_,.nil=>.nil
 | _,_,0,.cons _ t=>.cons r t
 | _,_,i+1,.cons q t=>.cons q (Reps.set r i t)
theorem Reps.flat:∀ (k:Nat) {ds:List D},Reps K μ H xs ds->Reps K μ H (Si k xs).flatten (Si k ds).flatten
 | 0,_,_=>.nil
 | k+1,_,r=>by rw[XO,XO,Yq,Yq];exact r.append (Reps.flat k r)
mutual
def IU:DK->D
 | .non=>.non
 | .int i=>.int i
 | .str x=>.str x
 | .tup l=>.tup (dkDs l)
def dkDs:List DK->List D
 | []=>[]
 | k::l=>IU k::dkDs l
end
def CellOk(K:QF)(μ:Fp)(H:Hp)(a:td):Cell->Prop
 | .lst ds=>∃ vs,H a=U (.lst vs)/\Reps K μ H vs ds
 | .dct ks ds=>∃ kvs,H a=U (.dK kvs)/\ks=kvs.map (·.1)/\Reps K μ H (kvs.map (·.2)) ds
 | .deep ks ds=>∃ kvs:List (DK×td×V),H a=U (.dT kvs)/\ks=kvs.map (·.1)/\Reps K μ H (kvs.map λp=>.ref p.2.1) (dkDs ks)/\Reps K μ H (kvs.map (·.2.2)) ds
structure SOk(K:QF)(μ:Fp)(S:aa)(H:Hp):Prop where
 nd:μ.cs.Nodup
 len:μ.cs.length=S.length
 cell:∀ (r:Nat) (a:td) (c:Cell),μ.cs[r]?=U a->S[r]?=U c->CellOk K μ H a c
 fdom:∀ a∈μ.fb,H a≠Y
 disj:∀ a∈μ.fb,a∉μ.cs
theorem CellOk.ne_none(h:CellOk K μ H a c):H a≠Y:=by
 cases c with
 | lst ds=>obtain⟨vs,h,_⟩:=h;rw[h];simp
 | dct ks ds=>obtain⟨vs,h,_⟩:=h;rw[h];simp
 | deep ks ds=>obtain⟨vs,h,_⟩:=h;rw[h];simp
theorem CellOk.mono(e:Ext μ H μ' H')(he:H' a=H a)(h:CellOk K μ H a c):CellOk K μ' H' a c:=by
 cases c with
 | lst ds=>obtain⟨vs,h,r⟩:=h;exact⟨vs,he.trans h,r.mono e⟩
 | dct ks ds=>obtain⟨vs,h,q,r⟩:=h;exact⟨vs,he.trans h,q,r.mono e⟩
 | deep ks ds=>obtain⟨vs,h,q,r,r'⟩:=h;exact⟨vs,he.trans h,q,r.mono e,r'.mono e⟩
theorem SOk.dom(s:SOk K μ S H):∀ a∈μ.cs,H a≠Y:=λa ha=>by
 obtain⟨r,hr⟩:=ZQ.mp ha
 have hl:=(Xe.mp hr).1
 rw[s.len] at hl
 exact(s.cell r a S[r] hr (by simp[hl])).ne_none
theorem SOk.ext(s:SOk K μ S H):Ext μ H μ H:=.refl s.dom
theorem SOk.notMem(s:SOk K μ S H)(h:H p=Y):μ.no p:=⟨λz=>s.dom p z h,λz=>s.fdom p z h⟩
theorem SOk.laid(s:SOk K μ S H)(h:H p=Y):Ext μ H μ (upd H p o)/\SOk K μ S (upd H p o):=by
 have e:Ext μ H μ (upd H p o):=⟨rfl,⟨[],by simp,λ_ z=>by simp at z⟩,λa o' _ q=>by rw[aO (bR q h)];exact q,λa ha=>by
  by_cases z:a=p
  ·subst z;rw[aV];simp
  ·rw[aO z];exact s.dom a ha⟩
 refine⟨e,s.nd,s.len,λr a c h1 h2=>(s.cell r a c h1 h2).mono e ?_,λa ha=>?_,s.disj⟩
 case refine_2=>
  by_cases z:a=p
  ·subst z;rw[aV];simp
  ·rw[aO z];exact s.fdom a ha
 have:=(s.cell r a c h1 h2).ne_none
 refine aO λz=>?_
 rw[z] at this
 exact this h
theorem SOk.alloc(s:SOk K μ S H)(h:H p=Y)(r:Reps K μ H vs ds):Ext μ H ⟨μ.cs++[p],μ.fb⟩ (upd H p (.lst vs))/\SOk K ⟨μ.cs++[p],μ.fb⟩ (S++[.lst ds]) (upd H p (.lst vs)):=by
 have hp:=s.notMem h
 have e:Ext μ H ⟨μ.cs++[p],μ.fb⟩ (upd H p (.lst vs)):=⟨rfl,⟨[p],rfl,λa z=>by rw[XA.mp z];exact h⟩,λa o' _ q=>by rw[aO (bR q h)];exact q,λa ha=>by
  by_cases z:a=p
  ·subst z;rw[aV];simp
  ·rw[aO z]
   rcases Xx.mp ha with q | q
   ·exact s.dom a q
   ·exact absurd (XA.mp q) z⟩
 refine⟨e,?_,by simp[s.len],λi a c h1 h2=>?_,λa ha=>?_,λa ha z=>?_⟩
 case refine_3=>
  by_cases z:a=p
  ·subst z;rw[aV];simp
  ·rw[aO z];exact s.fdom a ha
 case refine_4=>
  rcases Xx.mp z with q | q
  ·exact s.disj a ha q
  ·rw[XA.mp q] at ha;exact hp.2 ha
 ·show(μ.cs++[p]).Nodup
  rw[YA]
  exact⟨s.nd,by simp,λa ha b hb=>by rw[XA.mp hb];rintro rfl;exact hp.1 ha⟩
 ·have h1:(μ.cs++[p])[i]?=U a:=h1
  by_cases hi:i < μ.cs.length
  ·rw[Xv hi] at h1
   rw[Xv (by rw[<- s.len];exact hi)] at h2
   have q:=s.cell i a c h1 h2
   refine q.mono e (aO λz=>?_)
   exact hp.1 (z ▸ Xz h1)
  ·have hl:i = μ.cs.length:=by
    have:=(Xe.mp h1).1
    simp at this;omega
   subst hl
   rw[XJ (Xm _)] at h1
   rw[s.len,XJ (Xm _)] at h2
   simp at h1 h2
   subst h1 h2
   exact⟨vs,aV,r.mono e⟩
theorem SOk.write(s:SOk K μ S H){i:Nat}{a:td}(hi:μ.cs[i]?=U a)(h:H a=U (.lst vs))(r:Reps K μ H vs' ds):Ext μ H μ (upd H a (.lst vs'))/\SOk K μ (S.set i (.lst ds)) (upd H a (.lst vs')):=by
 have ha:=Xz hi
 have e:Ext μ H μ (upd H a (.lst vs')):=⟨rfl,⟨[],by simp,λ_ z=>by simp at z⟩,λb o' n q=>by rw[aO (by rintro rfl;exact n ha)];exact q,λb hb=>by
  by_cases z:b=a
  ·subst z;rw[aV];simp
  ·rw[aO z];exact s.dom b hb⟩
 refine⟨e,s.nd,by simp[s.len],λj b c h1 h2=>?_,λb hb=>?_,s.disj⟩
 case refine_2=>
  by_cases z:b=a
  ·subst z;rw[aV];simp
  ·rw[aO z];exact s.fdom b hb
 by_cases hj:j=i
 ·subst hj
  rw[hi] at h1;cases h1
  have hl:j<S.length:=by rw[<- s.len];exact(Xe.mp hi).1
  rw[XF hl] at h2
  cases h2
  exact⟨vs',aV,r.mono e⟩
 ·rw[XE (Ne.symm hj)] at h2
  refine(s.cell j b c h1 h2).mono e (aO λz=>hj ?_)
  subst z
  exact EK s.nd h1 hi
inductive EOk(K:QF)(μ:Fp)(H:Hp):L2.St->aE->Prop
 | nil:EOk K μ H [] []
 | no {x:Option V} {σ:L2.St} {env:aE} (t:EOk K μ H σ env):EOk K μ H (x::σ) (Y::env)
 | yes {v:V} {d:D} {σ:L2.St} {env:aE} (h:Rep K μ H v d) (t:EOk K μ H σ env):EOk K μ H (U v::σ) (U d::env)
theorem EOk.to(hR:∀ {v:V} {d:D},Rep K μ H v d->Rep K μ' H' v d)(h:EOk K μ H σ env):EOk K μ' H' σ env:=by
 induction h with
 | nil=>exact .nil
 | no _ ih=>exact .no ih
 | yes h _ ih=>exact .yes (hR h) ih
theorem EOk.mono(e:Ext μ H μ' H')(h:EOk K μ H σ env):EOk K μ' H' σ env:=h.to (·.mono e)
theorem EOk.get:∀ {σ:L2.St} {env:aE} {i:Nat} {d:D},EOk K μ H σ env->env[i]?=U (U d)->∃ v,σ[i]?=U (U v)/\Rep K μ H v d
 | _,_,_,_,.nil,h=>by simp at h
 | _,_,0,_,.no _,h=>by simp at h
 | _,_,0,_,.yes h _,q=>by simp at q;subst q;exact⟨_,rfl,h⟩
 | _,_,i+1,d,.no t,h=>by
  obtain⟨v,h1,h2⟩:=EOk.get (i:=i) (d:=d) t (by simpa using h)
  exact⟨v,by simpa using h1,h2⟩
 | _,_,i+1,d,.yes _ t,h=>by
  obtain⟨v,h1,h2⟩:=EOk.get (i:=i) (d:=d) t (by simpa using h)
  exact⟨v,by simpa using h1,h2⟩
theorem EOk.set{d:D}(r:Rep K μ H v d):∀ {σ:L2.St} {env:aE} (i:Nat),EOk K μ H σ env->EOk K μ H (σ.set i (Option.some v)) (env.set i (Option.some d))
 | _,_,_,.nil=>.nil
 | _,_,0,.no t=>.yes r t
 | _,_,0,.yes _ t=>.yes r t
 | _,_,i+1,.no t=>.no (EOk.set r i t)
 | _,_,i+1,.yes h t=>.yes h (EOk.set r i t)
theorem EOk.length{σ:L2.St}{env:aE}(h:EOk K μ H σ env):σ.length=env.length:=by induction h<;>simp[*]
theorem EOk.start{N:Nat}:∀ {vs:List V} {ds:List D},Reps K μ H vs ds->EOk K μ H (vs.map Option.some++Si N Option.none) (ds.map Option.some++Si N Option.none)
 | _,_,.nil=>by
  induction N with
  | zero=>exact .nil
  | succ n ih=>exact .no ih
 | _,_,.cons h t=>.yes h (EOk.start t)
theorem EOk.block(h:EOk K μ H σ env):∀ (cap:List (Option Nat)),EOk K μ H (σB cap σ) (cap.map λo=>o.bind λi=>(env[i]?).join)
 | []=>.nil
 | Option.none::r=>.no (EOk.block h r)
 | Option.some i::r=>by
  show EOk K μ H ((σ[i]?).join::σB r σ) ((env[i]?).join::_)
  cases q:(env[i]?).join with
  | none=>exact .no (EOk.block h r)
  | some d=>
   have q':env[i]?=Option.some (Option.some d):=by
    cases z:env[i]? with
    | none=>rw[z] at q;cases q
    | some y=>rw[z] at q;exact congrArg Option.some q
   obtain⟨v,h1,h2⟩:=h.get q'
   rw[h1]
   exact .yes h2 (EOk.block h r)
theorem EM{p:td}{cs fb:List td}(n:(⟨cs,p::fb⟩:Fp).no a):(⟨cs,fb⟩:Fp).no a:=⟨n.1,λz=>n.2 (Xf _ z)⟩
theorem Rep.less{p:td}{cs fb:List td}{d:D}(r:Rep K ⟨cs,p::fb⟩ H v d):Rep K ⟨cs,fb⟩ H v d:=r.imp (λh n=>⟨h,EM n⟩) λh=>h
theorem Reps.less{p:td}{cs fb:List td}{d:List D}(r:Reps K ⟨cs,p::fb⟩ H v d):Reps K ⟨cs,fb⟩ H v d:=r.imp (λh n=>⟨h,EM n⟩) λh=>h
theorem EL{cs fb:List td}(hp:H p=Y){o':HO}(h:H a=U o')(n:(⟨cs,fb⟩:Fp).no a):upd H p o a=U o'/\(⟨cs,p::fb⟩:Fp).no a:=⟨(aO (bR h hp)).trans h,n.1,λz=>(XD.mp z).elim (bR h hp) n.2⟩
theorem Rep.more{cs fb:List td}(hp:H p=Y){d:D}(r:Rep K ⟨cs,fb⟩ H v d):Rep K ⟨cs,p::fb⟩ (upd H p o) v d:=r.imp (EL hp) λh=>h
theorem Reps.more{cs fb:List td}(hp:H p=Y){d:List D}(r:Reps K ⟨cs,fb⟩ H v d):Reps K ⟨cs,p::fb⟩ (upd H p o) v d:=r.imp (EL hp) λh=>h
theorem Fp.no.ne{μ:Fp}{p:td}(n:μ.no a)(hp:p∈μ.fb):a≠p:=λz=>n.2 (by rw[z];exact hp)
theorem Rep.chg{p:td}(hp:p∈μ.fb){d:D}(r:Rep K μ H v d):Rep K μ (upd H p o) v d:=r.imp (λh n=>⟨(aO (n.ne hp)).trans h,n⟩) λh=>h
theorem Reps.chg{p:td}(hp:p∈μ.fb){d:List D}(r:Reps K μ H v d):Reps K μ (upd H p o) v d:=r.imp (λh n=>⟨(aO (n.ne hp)).trans h,n⟩) λh=>h
theorem EOk.more{cs fb:List td}(hp:H p=Y)(h:EOk K ⟨cs,fb⟩ H σ env):EOk K ⟨cs,p::fb⟩ (upd H p o) σ env:=h.to (·.more hp)
theorem EOk.chg{p:td}(hp:p∈μ.fb)(h:EOk K μ H σ env):EOk K μ (upd H p o) σ env:=h.to (·.chg hp)
theorem CellOk.upd{p a:td}(μ':Fp)(hpa:a≠p)(h:CellOk K μ H a c)(f:∀ vs ds,Reps K μ H vs ds->Reps K μ' (upd H p o) vs ds):CellOk K μ' (upd H p o) a c:=by
 cases c with
 | lst ds=>obtain⟨vs,h,r⟩:=h;exact⟨vs,(aO hpa).trans h,f _ _ r⟩
 | dct ks ds=>obtain⟨vs,h,q,r⟩:=h;exact⟨vs,(aO hpa).trans h,q,f _ _ r⟩
 | deep ks ds=>obtain⟨vs,h,q,r,r'⟩:=h;exact⟨vs,(aO hpa).trans h,q,f _ _ r,f _ _ r'⟩
theorem SOk.less{p:td}{cs fb:List td}(s:SOk K ⟨cs,p::fb⟩ S H):SOk K ⟨cs,fb⟩ S H:=
 ⟨s.nd,s.len,λr a c h1 h2=>by
  have:=s.cell r a c h1 h2
  cases c with
  | lst ds=>obtain⟨vs,h,r⟩:=this;exact⟨vs,h,r.less⟩
  | dct ks ds=>obtain⟨vs,h,q,r⟩:=this;exact⟨vs,h,q,r.less⟩
  | deep ks ds=>obtain⟨vs,h,q,r,r'⟩:=this;exact⟨vs,h,q,r.less,r'.less⟩,λa ha=>s.fdom a (Xf _ ha),λa ha=>s.disj a (Xf _ ha)⟩
theorem SOk.more{cs fb:List td}(s:SOk K ⟨cs,fb⟩ S H)(hp:H p=Y):SOk K ⟨cs,p::fb⟩ S (upd H p o):=by
 have hn:=s.notMem hp
 refine⟨s.nd,s.len,λr a c h1 h2=>(s.cell r a c h1 h2).upd _ (λz=>?_) λvs ds r=>r.more hp,λa ha=>?_,λa ha z=>?_⟩
 ·exact hn.1 (z ▸ Xz h1)
 ·by_cases z:a=p
  ·subst z;rw[aV];simp
  ·rw[aO z];exact s.fdom a ((XD.mp ha).resolve_left z)
 ·rcases XD.mp ha with rfl | ha
  ·exact hn.1 z
  ·exact s.disj a ha z
theorem SOk.chg{p:td}(s:SOk K μ S H)(hp:p∈μ.fb):SOk K μ S (upd H p o):=by
 refine⟨s.nd,s.len,λr a c h1 h2=>(s.cell r a c h1 h2).upd _ (λz=>?_) λvs ds r=>r.chg hp,λa ha=>?_,s.disj⟩
 ·exact s.disj p hp (z ▸ Xz h1)
 ·by_cases z:a=p
  ·subst z;rw[aV];simp
  ·rw[aO z];exact s.fdom a ha
end
noncomputable abbrev ME:=aE->aa->Option (D×aa)
noncomputable abbrev MT:=aE->aa->Option (Bool×aa)
noncomputable abbrev MA:=aE->aa->Option (List D×aa)
inductive mU where
 | nx (env:aE) (S:aa)
 | rt (d:D) (S:aa)
 | bk (env:aE) (S:aa)
 | ct (env:aE) (S:aa)
noncomputable abbrev MS:=aE->aa->Option mU
def Post(K:QF)(μ:Fp)(H:Hp)(S':aa)(d:D)(Q:VK):Prop:=∀ v H' μ',Ext μ H μ' H'->SOk K μ' S' H'->Rep K μ' H' v d->Q v H'
def PostT(K:QF)(μ:Fp)(H:Hp)(S':aa)(b:Bool)(Q:Bool->Hp->Prop):Prop:=∀ H' μ',Ext μ H μ' H'->SOk K μ' S' H'->Q b H'
def PostA(K:QF)(μ:Fp)(H:Hp)(S':aa)(ds:List D)(Q:List V->Hp->Prop):Prop:=∀ vs H' μ',Ext μ H μ' H'->SOk K μ' S' H'->Reps K μ' H' vs ds->Q vs H'
def PostN(K:QF)(μ:Fp)(H:Hp)(S':aa)(env':aE)(Q:L2.St->Hp->Prop):Prop:=∀ σ' H' μ',Ext μ H μ' H'->SOk K μ' S' H'->EOk K μ' H' σ' env'->Q σ' H'
def PostS(K:QF)(μ:Fp)(H:Hp)(o:mU)(E:oh):Prop:=match o with
 | .nx env' S'=>PostN K μ H S' env' E.nx
 | .rt d S'=>Post K μ H S' d E.rt
 | .bk env' S'=>PostN K μ H S' env' E.bk
 | .ct env' S'=>PostN K μ H S' env' E.ct
inductive tM(K:QF)(m:ME)(σ:L2.St)(H:Hp)(Q:VK):Prop
 | mk (μ:Fp) (S:aa) (env:aE) (d:D) (S':aa) (hS:SOk K μ S H) (hE:EOk K μ H σ env) (h:m env S=U (d,S')) (post:Post K μ H S' d Q)
inductive Cg(K:QF)(m:MT)(σ:L2.St)(H:Hp)(Q:Bool->Hp->Prop):Prop
 | mk (μ:Fp) (S:aa) (env:aE) (b:Bool) (S':aa) (hS:SOk K μ S H) (hE:EOk K μ H σ env) (h:m env S=U (b,S')) (post:PostT K μ H S' b Q)
inductive tMA(K:QF)(m:MA)(σ:L2.St)(H:Hp)(Q:List V->Hp->Prop):Prop
 | mk (μ:Fp) (S:aa) (env:aE) (ds:List D) (S':aa) (hS:SOk K μ S H) (hE:EOk K μ H σ env) (h:m env S=U (ds,S')) (post:PostA K μ H S' ds Q)
inductive Tv(K:QF)(m:MS)(E:oh)(σ:L2.St)(H:Hp):Prop
 | mk (μ:Fp) (S:aa) (env:aE) (o:mU) (hS:SOk K μ S H) (hE:EOk K μ H σ env) (h:m env S=U o) (post:PostS K μ H o E)
inductive on(K:QF)(f:aa->D->D->Option D)(x y:V)(H:Hp)(Q:VK):Prop
 | mk (μ:Fp) (S:aa) (dx dy dz:D) (hS:SOk K μ S H) (h1:Rep K μ H x dx) (h2:Rep K μ H y dy) (h3:f S dx dy=U dz) (post:Post K μ H S dz Q)
inductive rM1(K:QF)(f:aa->D->Option D)(x:V)(H:Hp)(Q:VK):Prop
 | mk (μ:Fp) (S:aa) (dx dz:D) (hS:SOk K μ S H) (h1:Rep K μ H x dx) (h3:f S dx=U dz) (post:Post K μ H S dz Q)
inductive GJ(K:QF)(f:List D->aa->Option (D×aa))(vs:List V)(H:Hp)(Q:VK):Prop
 | mk (μ:Fp) (S:aa) (ds:List D) (d:D) (S':aa) (hS:SOk K μ S H) (h1:Reps K μ H vs ds) (h3:f ds S=U (d,S')) (post:Post K μ H S' d Q)
def DE(X:Cx)(e:tx)(m:ME):Prop:=PE X e (tM X.K m)
def DT(X:Cx)(e:tx)(m:MT):Prop:=PT X e (Cg X.K m)
def DW(X:Cx)(e:tx)(m:MT):Prop:=PW X e (Cg X.K m)
def DA(X:Cx)(es:List tx)(m:MA):Prop:=PA X es (tMA X.K m)
def DS(X:Cx)(st:He)(m:MS):Prop:=PS X st (Tv X.K m)
def vj(X:Cx)(st:List He)(m:MS):Prop:=PSs X st (Tv X.K m)
section
variable{X:Cx}{K:QF}{μ μ':Fp}{H H':Hp}{S S':aa}
theorem Post.ext{d:D}(e:Ext μ H μ' H')(p:Post K μ H S' d Q):Post K μ' H' S' d Q:=λv H2 μ2 e2 s r=>p v H2 μ2 (e.trans e2) s r
theorem Post.here{d:D}(p:Post K μ H S d Q)(s:SOk K μ S H)(r:Rep K μ H v d):Q v H:=p v H μ s.ext s r
theorem PE.imp{t':TE}(h:PE X e t)(i:∀ σ H Q,t' σ H Q->t σ H Q):PE X e t':=λpins s σ H Q I q=>h pins s σ H Q I (i σ H Q q)
theorem PT.imp{t':TT}(h:PT X e t)(i:∀ σ H Q,t' σ H Q->t σ H Q):PT X e t':=λpins s σ H Q I q=>h pins s σ H Q I (i σ H Q q)
theorem PW.imp{t':TT}(h:PW X e t)(i:∀ σ H Q,t' σ H Q->t σ H Q):PW X e t':=λw pins s σ H Q I q=>h w pins s σ H Q I (i σ H Q q)
theorem PA.imp{t':TA}(h:PA X e t)(i:∀ σ H Q,t' σ H Q->t σ H Q):PA X e t':=λpos pins s σ H Q I q=>h pos pins s σ H Q I (i σ H Q q)
theorem PS.imp{t':TS}(h:PS X e t)(i:∀ E σ H,t' E σ H->t E σ H):PS X e t':=λpins s σ H E I q=>h pins s σ H E I (i E σ H q)
theorem PSs.imp{t':TS}(h:PSs X e t)(i:∀ E σ H,t' E σ H->t E σ H):PSs X e t':=λpins s σ H E I q=>h pins s σ H E I (i E σ H q)
theorem OpR.imp{r':R2}(h:OpR X f r)(i:∀ x y H Q,r' x y H Q->r x y H Q):OpR X f r':=λpins s σ H x y v u Q I rx ry q=>h pins s σ H x y v u Q I rx ry (i x y H Q q)
theorem UnR.imp{r':V->Hp->VK->Prop}(h:UnR X f r)(i:∀ x H Q,r' x H Q->r x H Q):UnR X f r':=λpins s σ H x v Q I rx q=>h pins s σ H x v Q I rx (i x H Q q)
theorem CallR.imp{r':List V->Hp->VK->Prop}(h:CallR X f r)(i:∀ x H Q,r' x H Q->r x H Q):CallR X f r':=λpins s σ H x v Q I rx q=>h pins s σ H x v Q I rx (i x H Q q)
theorem IxR.imp{r':R2}(h:IxR X r)(i:∀ x y H Q,r' x y H Q->r x y H Q):IxR X r':=λva sl pins s σ H x y v u Q I rx ry q=>h va sl pins s σ H x y v u Q I rx ry (i x y H Q q)
def af(i:Nat):ME:=λenv S=>(env[i]?).join.bind λd=>U (d,S)
def mC(d:D):ME:=λ_ S=>U (d,S)
theorem vV{α:Type}{o:Option (Option α)}{a:α}(h:o.join=U a):o=U (U a):=by
 cases o with
 | none=>cases h
 | some o=>exact congrArg U h
theorem Nz{i:Nat}{x:Str}(hN:X.N[i]?=U x)(hv:Tf X.env.scope x)(hd:(x==("__debug__":Str))=false:=by decide)(hcd:(x==("__classdict__":Str))=false:=by decide):DE X (.Name x pos) (af i):=
 PE.imp (Ka hN hv hd hcd) λσ H Q z0=>by
  obtain⟨μ,S,env,d,S',hS,hE,hm,post⟩:=z0
  obtain⟨d',h1,h2⟩:=Xc.mp hm
  cases h2
  obtain⟨v,e,r⟩:=hE.get (vV h1)
  exact⟨v,e,post.here hS r⟩
theorem lR{d:D}(h:PE X e (tC v))(r:∀ μ H,Rep X.K μ H v d):DE X e (mC d):=
 PE.imp h λσ H Q ⟨μ,S,env,d',S',hS,hE,hm,post⟩=>by cases hm;exact post.here hS (r μ H)
theorem Wv{j pos}:DE X (.Constant (.int i) j pos) (mC (.int i)):=lR Ug λ_ _=>.int i
theorem de_bl{b j pos}:DE X (.Constant (.bool b) j pos) (mC (.bl b)):=lR pe_bl λ_ _=>.bl b
theorem Wq{j pos}:DE X (.Constant .none j pos) (mC .non):=lR Uf λ_ _=>.non
theorem Wn{x j pos}:DE X (.Constant (.str x) j pos) (mC (.str x)):=lR Uc λ_ _=>.str x
structure GC(K:QF)(mg:Str->Option bd)(x:Str)(d:D):Prop where
 ex:∃ u v,mg x=U u/\RelV v u/\∀ μ H,Rep K μ H v d
theorem Rp{d:D}(g:GC X.K X.mg x d)(hg:Gl X x:=by rfl)(hd:(x==("__debug__":Str))=false:=by decide):DE X (.Name x pos) (mC d):=by
 obtain⟨u,v,h1,h2,h3⟩:=g.ex
 exact lR (rm hg h1 h2 hd) h3
def aH(f:aa->D->D->Option D)(a b:ME):ME:=λenv S=>(a env S).bind λp=>(b env p.2).bind λq=>(f q.2 p.1 q.1).bind λz=>U (z,q.2)
theorem KU{S S':aa}{d:D}(h:aH f a b env S=U (d,S')):∃ x S1 y,a env S=U (x,S1)/\b env S1=U (y,S')/\f S' x y=U d:=by
 obtain⟨⟨x,S1⟩,h1,h⟩:=Xc.mp h
 obtain⟨⟨y,S2⟩,h2,h⟩:=Xc.mp h
 obtain⟨z,h3,h⟩:=Xc.mp h
 cases h
 exact⟨x,S1,y,h1,h2,h3⟩
theorem rS(h:tM K (aH f ma mb) σ H Q):tOp (on K f) (tM K ma) (tM K mb) σ H Q:=by
 obtain⟨μ,S,env,d,S',hS,hE,hm,post⟩:=h
 obtain⟨x,S1,y,h1,h2,h3⟩:=KU hm
 exact⟨μ,S,env,x,S1,hS,hE,h1,λv H1 μ1 e1 s1 r1=>⟨μ1,S1,env,y,S',s1,hE.mono e1,h2,λw H2 μ2 e2 s2 r2=>⟨μ2,S',x,y,d,s2,r1.mono e2,r2,h3,(post.ext e1).ext e2⟩⟩⟩
section
variable{a b c:tx}{ma mb mc:ME}{pos:Pos}
theorem wu(ho:OpR X (PN op) (on X.K f))(ha:DE X a ma)(hb:DE X b mb):DE X (.BinOp a op b pos) (aH f ma mb):=
 PE.imp (Sl ho ha hb) λ_ _ _ h=>rS h
theorem Ww(ho:OpR X (Mc op) (on X.K f))(ha:DE X a ma)(hb:DE X b mb)(hm:behindInMarks op b=false):DE X (.Compare a [op] [b] pos) (aH f ma mb):=
 PE.imp (Pq ho ha hb hm) λ_ _ _ h=>rS h
def az(m:ME):MT:=λenv S=>(m env S).bind λp=>match p.1 with | .bl k=>U (k,p.2) | _=>Y
theorem Da{S S':aa}{k:Bool}(h:az m env S=U (k,S')):m env S=U (.bl k,S'):=by
 obtain⟨⟨x,S1⟩,h1,h⟩:=Xc.mp h
 cases x<;>first | (cases h;exact h1) | cases h
theorem Rep.bl_inv{k:Bool}(h:Rep K μ H v (.bl k)):v=.bl k:=by cases h;rfl
theorem Rep.int_inv{k:Int}(h:Rep K μ H v (.int k)):v=.int k:=by cases h;rfl
theorem Rep.str_inv{k:Str}(h:Rep K μ H v (.str k)):v=.str k:=by cases h;rfl
theorem VX(ho:OpR X (Mc op) (on X.K f))(ha:DE X a ma)(hb:DE X b mb)(hm:behindInMarks op b=false):DT X (.Compare a [op] [b] pos) (az (aH f ma mb)):=
 PT.imp (Pc ho ha hb hm) λσ H Q z0=>by
  obtain⟨μ,S,env,k,S',hS,hE,hm,post⟩:=z0
  have h:=Da hm
  refine rS ⟨μ,S,env,_,S',hS,hE,h,λv H' μ' e s r=>?_⟩
  exact⟨k,r.bl_inv,post H' μ' e s⟩
def rQ(S:aa):D->Option Bool
 | .non=>U false
 | .bl b=>U b
 | .int i=>U (i != 0)
 | .str y=>if y.length<=KY then U ((y.length:Int) != 0) else Y
 | .tup xs=>U (!xs.isEmpty)
 | .lst xs=>U (!xs.isEmpty)
 | .rol xs=>U (!xs.isEmpty)
 | .dct ks _=>U (!ks.isEmpty)
 | .ref r=>match S[r]? with
  | some (.lst xs)=>U (!xs.isEmpty)
  | some (.dct ks _)=>U (!ks.isEmpty)
  | _=>Y
 | .txt=>Y
 | .obj=>Y
 | .exc _=>Y
 | .fn _=>Y
theorem Reps.isEmpty{vs:List V}{ds:List D}(r:Reps K μ H vs ds):(!ds.isEmpty) = !vs.isEmpty:=by cases r<;>rfl
theorem qv{α β:Type}(f:α->β)(l:List α):(!(l.map f).isEmpty) = !l.isEmpty:=by cases l<;>rfl
theorem rh{d:D}{k:Bool}(s:SOk K μ S H)(r:Rep K μ H x d)(h:rQ S d=U k):IM K x H k:=by
 cases r with
 | non=>cases h;rfl
 | bl b=>cases h;rfl
 | int i=>cases h;rfl
 | str y=>
  simp only[rQ] at h
  split at h
  ·rename_i hy;cases h;exact⟨hy,rfl⟩
  ·cases h
 | @tup a vs ds h' n r=>cases h;exact .inr (.inl ⟨vs,.inl (.inl h'),r.isEmpty⟩)
 | @ktup a vs ds h' r=>cases h;exact .inr (.inl ⟨vs,.inr h',r.isEmpty⟩)
 | @lst a vs ds h' n r=>cases h;exact .inl ⟨vs,.inl (.inl h'),r.isEmpty⟩
 | @rol a vs ds h' n r=>cases h;exact .inl ⟨vs,.inl h',r.isEmpty⟩
 | @krol a vs ds h' r=>cases h;exact .inl ⟨vs,.inr h',r.isEmpty⟩
 | @dct a kvs ds h' n r=>cases h;exact .inr (.inr ⟨kvs,h',qv _ _⟩)
 | txt x=>cases h
 | obj h' n=>cases h
 | exc h' n=>cases h
 | fn a=>cases h
 | @ref a i h'=>
  simp only[rQ] at h
  cases q:S[i]? with
  | none=>rw[q] at h;cases h
  | some c=>
   rw[q] at h
   have ck:=s.cell i a c h' q
   cases c with
   | lst xs=>cases h;obtain⟨vs,e,r⟩:=ck;exact .inl ⟨vs,.inl (.inl e),r.isEmpty⟩
   | dct ks xs=>cases h;obtain⟨kvs,e,rfl,r⟩:=ck;exact .inr (.inr ⟨kvs,e,qv _ _⟩)
   | deep ks xs=>cases h
def cP(m:ME):MT:=λenv S=>(m env S).bind λp=>(rQ p.2 p.1).bind λk=>U (k,p.2)
theorem Bq(ha:DE X a ma)(he:∀ whole,isTrue a X.env whole=(do let v <- whole;standAt a.pos;holding [v] (truthy v)):=by intro _;rfl):DT X a (cP ma):=
 PT.imp (JR ha he) λσ H Q z0=>by
  obtain⟨μ,S,env,k,S',hS,hE,hm,post⟩:=z0
  obtain⟨⟨x,S1⟩,h1,hm⟩:=Xc.mp hm
  obtain⟨k',h2,hm⟩:=Xc.mp hm
  cases hm
  exact⟨μ,S,env,x,S1,hS,hE,h1,λv H' μ' e s r=>⟨k,rh s r h2,post H' μ' e s⟩⟩
variable{ta tb tc:MT}{rest:List tx}
def eU(a b:MT):MT:=λenv S=>(a env S).bind λp=>if p.1=true then b env p.2 else U (false,p.2)
def fP(a b:MT):MT:=λenv S=>(a env S).bind λp=>if p.1=true then U (true,p.2) else b env p.2
def fF(a:MT):MT:=λenv S=>(a env S).bind λp=>U (!p.1,p.2)
theorem OF(h:Cg K (eU ta tb) σ H Q):tAnd (Cg K ta) (Cg K tb) σ H Q:=by
 obtain⟨μ,S,env,k,S',hS,hE,hm,post⟩:=h
 obtain⟨⟨x,S1⟩,h1,hm⟩:=Xc.mp hm
 refine⟨μ,S,env,x,S1,hS,hE,h1,λH1 μ1 e1 s1=>?_⟩
 cases x with
 | true=>rw[Xq rfl] at hm ⊢;exact⟨μ1,S1,env,k,S',s1,hE.mono e1,hm,λH2 μ2 e2 s2=>post H2 μ2 (e1.trans e2) s2⟩
 | false=>rw[if_neg Sn] at hm ⊢;cases hm;exact post H1 μ1 e1 s1
theorem Tu(h:Cg K (fP ta tb) σ H Q):tOr (Cg K ta) (Cg K tb) σ H Q:=by
 obtain⟨μ,S,env,k,S',hS,hE,hm,post⟩:=h
 obtain⟨⟨x,S1⟩,h1,hm⟩:=Xc.mp hm
 refine⟨μ,S,env,x,S1,hS,hE,h1,λH1 μ1 e1 s1=>?_⟩
 cases x with
 | false=>rw[if_neg Sn] at hm ⊢;exact⟨μ1,S1,env,k,S',s1,hE.mono e1,hm,λH2 μ2 e2 s2=>post H2 μ2 (e1.trans e2) s2⟩
 | true=>rw[Xq rfl] at hm ⊢;cases hm;exact post H1 μ1 e1 s1
theorem FN(ha:DT X a ta):DW X (.BoolOp .And [a] pos) ta:=OZ ha
theorem Nb(ha:DT X a ta):DW X (.BoolOp .Or [a] pos) ta:=TM ha
theorem Nc(ha:DT X a ta)(hb:DW X (.BoolOp .And (b::rest) pos) tb):DW X (.BoolOp .And (a::b::rest) pos) (eU ta tb):=PW.imp (TN ha hb) λ_ _ _ h=>OF h
theorem SU(ha:DT X a ta)(hb:DW X (.BoolOp .Or (b::rest) pos) tb):DW X (.BoolOp .Or (a::b::rest) pos) (fP ta tb):=PW.imp (pw_or ha hb) λ_ _ _ h=>Tu h
theorem QT(h:DW X a ta):DT X a ta:=PW.pt h
theorem VW(ha:DT X a ta):DT X (.UnaryOp .Not a pos) (fF ta):=PT.imp (TQ ha) λσ H Q z0=>by
 obtain⟨μ,S,env,k,S',hS,hE,hm,post⟩:=z0
 obtain⟨⟨x,S1⟩,h1,hm⟩:=Xc.mp hm
 cases hm
 exact⟨μ,S,env,x,S1,hS,hE,h1,λH1 μ1 e1 s1=>post H1 μ1 e1 s1⟩
def iG(a b:ME):ME:=λenv S=>(a env S).bind λp=>match p.1 with | .bl true=>b env p.2 | .bl false=>U (.bl false,p.2) | _=>Y
def Ho(a b:ME):ME:=λenv S=>(a env S).bind λp=>match p.1 with | .bl false=>b env p.2 | .bl true=>U (.bl true,p.2) | _=>Y
theorem NC{op}(h:DE X a ma):DE X (.BoolOp op [a] pos) ma:=Ue h
def lh(a:ME):ME:=λenv S=>(a env S).bind λp=>match p.1 with | .bl k=>U (.bl (!k),p.2) | _=>Y
def sQ(t:MT)(a b:ME):ME:=λenv S=>(t env S).bind λp=>if p.1=true then a env p.2 else b env p.2
theorem de_if(hc:DT X c tc)(ha:DE X a ma)(hb:DE X b mb):DE X (.IfExp c a b pos) (sQ tc ma mb):=PE.imp (Ke hc ha hb) λσ H Q z0=>by
 obtain⟨μ,S,env,d,S',hS,hE,hm,post⟩:=z0
 obtain⟨⟨x,S1⟩,h1,hm⟩:=Xc.mp hm
 refine⟨μ,S,env,x,S1,hS,hE,h1,λH1 μ1 e1 s1=>?_⟩
 cases x with
 | true=>rw[Xq rfl] at hm ⊢;exact⟨μ1,S1,env,d,S',s1,hE.mono e1,hm,post.ext e1⟩
 | false=>rw[if_neg Sn] at hm ⊢;exact⟨μ1,S1,env,d,S',s1,hE.mono e1,hm,post.ext e1⟩
variable{es:List tx}{ms:MA}
def ai:MA:=λ_ S=>U ([],S)
def ac(a:ME)(r:MA):MA:=λenv S=>(a env S).bind λp=>(r env p.2).bind λq=>U (p.1::q.1,q.2)
theorem Wx:DA X [] ai:=PA.imp sk λσ H Q ⟨μ,S,env,d,S',hS,hE,hm,post⟩=>by cases hm;exact post [] H μ hS.ext hS .nil
theorem Rz(ha:DE X a ma)(hr:DA X es ms)(hs:KZ (a::es) X.env=(false,eval a X.env)::KZ es X.env:=by rfl):DA X (a::es) (ac ma ms):=PA.imp (ja ha hr hs) λσ H Q z0=>by
 obtain⟨μ,S,env,ds,S',hS,hE,hm,post⟩:=z0
 obtain⟨⟨x,S1⟩,h1,hm⟩:=Xc.mp hm
 obtain⟨⟨xs,S2⟩,h2,hm⟩:=Xc.mp hm
 cases hm
 exact⟨μ,S,env,x,S1,hS,hE,h1,λv H1 μ1 e1 s1 r1=>⟨μ1,S1,env,xs,S2,s1,hE.mono e1,h2,λvs H2 μ2 e2 s2 r2=>post (v::vs) H2 μ2 (e1.trans e2) s2 (.cons (r1.mono e2) r2)⟩⟩
def bj(ms:MA):ME:=λenv S=>(ms env S).bind λp=>if p.1.length<=KY then U (.tup p.1,p.2) else Y
def fR(ms:MA):ME:=λenv S=>(ms env S).bind λp=>if p.1.length<=KY then U (.lst p.1,p.2) else Y
def cQ(ms:MA):ME:=λenv S=>(ms env S).bind λp=>if p.1.length<=KY then U (.ref p.2.length,p.2++[.lst p.1]) else Y
theorem Post.tup(post:Post K μ H S (.tup ds) Q)(s:SOk K μ S H)(hp:H p=Y)(r:Reps K μ H vs ds):Q (.ref p) (upd H p (.tup vs)):=by
 obtain⟨e,s'⟩:=s.laid (o:=.tup vs) hp
 exact post _ _ _ e s' (.tup aV (s.notMem hp) (r.mono e))
theorem Post.lst(post:Post K μ H S (.lst ds) Q)(s:SOk K μ S H)(hp:H p=Y)(r:Reps K μ H vs ds):Q (.ref p) (upd H p (.lst vs)):=by
 obtain⟨e,s'⟩:=s.laid (o:=.lst vs) hp
 exact post _ _ _ e s' (.lst aV (s.notMem hp) (r.mono e))
theorem Post.lstR(post:Post K μ H (S++[.lst ds]) (.ref S.length) Q)(s:SOk K μ S H)(hp:H p=Y)(r:Reps K μ H vs ds):Q (.ref p) (upd H p (.lst vs)):=by
 obtain⟨e,s'⟩:=s.alloc hp r
 exact post _ _ _ e s' (.ref (by rw[<- s.len,XJ (Xm _)];simp))
theorem Wm{k}(h:DA X es ms):DE X (.Tuple es k pos) (bj ms):=PE.imp (Kb h) λσ H Q z0=>by
 obtain⟨μ,S,env,d,S',hS,hE,hm,post⟩:=z0
 obtain⟨⟨xs,S1⟩,h1,hm⟩:=Xc.mp hm
 dsimp only at hm
 split at hm
 ·rename_i hl
  cases hm
  exact⟨μ,S,env,_,_,hS,hE,h1,λvs H1 μ1 e1 s1 r1=>⟨by rw[r1.length];exact hl,λp hp=>(post.ext e1).tup s1 hp r1⟩⟩
 ·cases hm
theorem Wr(h:DA X es ms):DE X (.List es pos) (fR ms):=PE.imp (Kd h) λσ H Q z0=>by
 obtain⟨μ,S,env,d,S',hS,hE,hm,post⟩:=z0
 obtain⟨⟨xs,S1⟩,h1,hm⟩:=Xc.mp hm
 dsimp only at hm
 split at hm
 ·rename_i hl
  cases hm
  exact⟨μ,S,env,_,_,hS,hE,h1,λvs H1 μ1 e1 s1 r1=>⟨by rw[r1.length];exact hl,λp hp=>(post.ext e1).lst s1 hp r1⟩⟩
 ·cases hm
theorem Rk(h:DA X es ms):DE X (.List es pos) (cQ ms):=PE.imp (Kd h) λσ H Q z0=>by
 obtain⟨μ,S,env,d,S',hS,hE,hm,post⟩:=z0
 obtain⟨⟨xs,S1⟩,h1,hm⟩:=Xc.mp hm
 dsimp only at hm
 split at hm
 ·rename_i hl
  cases hm
  exact⟨μ,S,env,_,_,hS,hE,h1,λvs H1 μ1 e1 s1 r1=>⟨by rw[r1.length];exact hl,λp hp=>(post.ext e1).lstR s1 hp r1⟩⟩
 ·cases hm
theorem Rq:DE X (.Dict [] [] pos) (mC (.dct [] [])):=PE.imp Kf λσ H Q z0=>by
 obtain⟨μ,S,env,d,S',hS,hE,hm,post⟩:=z0
 cases hm
 intro p hp
 obtain⟨e,s'⟩:=hS.laid (o:=.dK []) hp
 exact post _ _ _ e s' (.dct (kvs:=[]) aV (hS.notMem hp) .nil)
end
end
mutual
def iX:D->D->Bool
 | .non,.non=>true
 | .bl a,.bl b=>a==b
 | .bl a,.int b=>(if a then 1 else 0)==b
 | .int a,.bl b=>a==(if b then 1 else 0)
 | .int a,.int b=>a==b
 | .str a,.str b=>a==b
 | .tup xs,.tup ys=>eqDs xs ys
 | .lst xs,.lst ys=>eqDs xs ys
 | _,_=>false
def eqDs:List D->List D->Bool
 | [],[]=>true
 | x::xs,y::ys=>iX x y&&eqDs xs ys
 | _,_=>false
end
def bS:Nat->D->Bool
 | _,.non=>true
 | _,.bl _=>true
 | _,.int _=>true
 | _,.str _=>true
 | n+1,.tup xs=>xs.all (bS n)
 | n+1,.lst xs=>xs.all (bS n)
 | _,_=>false
theorem lF:∀ {n m:Nat} {d:D},n<=m->bS n d=true->bS m d=true
 | n,m,.non,_,_=>by simp[bS]
 | n,m,.bl _,_,_=>by simp[bS]
 | n,m,.int _,_,_=>by simp[bS]
 | n,m,.str _,_,_=>by simp[bS]
 | 0,m,.tup _,_,h=>by simp[bS] at h
 | 0,m,.lst _,_,h=>by simp[bS] at h
 | n+1,m+1,.tup xs,hl,h=>by
  simp only[bS,Xu] at h ⊢
  exact λd hd=>lF (Zp hl) (h d hd)
 | n+1,m+1,.lst xs,hl,h=>by
  simp only[bS,Xu] at h ⊢
  exact λd hd=>lF (Zp hl) (h d hd)
 | n+1,0,.tup _,hl,_=>absurd hl (by omega)
 | n+1,0,.lst _,hl,_=>absurd hl (by omega)
 | n,m,.rol _,_,h=>by cases n<;>simp[bS] at h
 | n,m,.txt,_,h=>by cases n<;>simp[bS] at h
 | n,m,.obj,_,h=>by cases n<;>simp[bS] at h
 | n,m,.exc _,_,h=>by cases n<;>simp[bS] at h
 | n,m,.fn _,_,h=>by cases n<;>simp[bS] at h
 | n,m,.dct _ _,_,h=>by cases n<;>simp[bS] at h
 | n,m,.ref _,_,h=>by cases n<;>simp[bS] at h
theorem yF:∀ (xs ys:List D),eqDs xs ys=((List.range (min xs.length ys.length)).all (λj=>match xs[j]?,ys[j]? with | some a,U b=>iX a b | _,_=>true)&&xs.length==ys.length)
 | [],[]=>rfl
 | [],y::ys=>by simp[eqDs]
 | x::xs,[]=>by simp[eqDs]
 | x::xs,y::ys=>by
  have ih:=yF xs ys
  rw[eqDs,ih]
  have hm:min (x::xs).length (y::ys).length=min xs.length ys.length+1:=by simp only[Xw];omega
  rw[hm,ZM,Ym,abq]
  simp only[abd,Xw,aaX]
  congr 1
  congr 1
  rw[Yn];simp
section
variable{X:Cx}{pins:List (td×Obj)}{σ:L2.St}{H:Hp}{s:gV}{μ:Fp}{A:IN}
theorem Rep.sqT{K:QF}(r:Rep K μ H v (.tup ds)):∃ a vs,v=.ref a/\lv K H a vs/\Reps K μ H vs ds:=by
 cases r with
 | tup h n r=>exact⟨_,_,rfl,.inl (.inl h),r⟩
 | ktup h r=>exact⟨_,_,rfl,.inr h,r⟩
theorem Rep.sqL{K:QF}(r:Rep K μ H v (.lst ds)):∃ a vs,v=.ref a/\H a=U (.lst vs)/\μ.no a/\Reps K μ H vs ds:=by
 cases r with
 | lst h n r=>exact⟨_,_,rfl,h,n,r⟩
theorem Rep.sqR{K:QF}(r:Rep K μ H v (.rol ds)):∃ a vs,v=.ref a/\mT K H a vs/\Reps K μ H vs ds:=by
 cases r with
 | rol h n r=>exact⟨_,_,rfl,.inl h,r⟩
 | krol h r=>exact⟨_,_,rfl,.inr h,r⟩
theorem ntl(I:Inv X pins σ H s)(h:lv X.K H a xs)(h':mT X.K H a ys):False:=by
 obtain⟨its,_,⟨o,e,c,_⟩,_⟩:=I.tuple h
 obtain⟨its',_,⟨o',n',e',c',_⟩,_⟩:=I.list h'
 rw[e] at e';cases e'
 rw[c] at c'
 exact absurd c' (by simp)
theorem Rep.non_inv{K:QF}(h:Rep K μ H v .non):v=.non:=by cases h;rfl
theorem EE:bS n (.rol xs)=false:=by cases n<;>rfl
theorem EI:bS n (.dct ks xs)=false:=by cases n<;>rfl
theorem EF:bS n (.ref r)=false:=by cases n<;>rfl
theorem ED:bS n .txt=false:=by cases n<;>rfl
theorem EG:bS n .obj=false:=by cases n<;>rfl
theorem EH:bS n (.exc C)=false:=by cases n<;>rfl
theorem Ks:bS n (.fn a)=false:=by cases n<;>rfl
theorem rn(h:bS n (.tup xs)=true):∃ m,m+1=n/\∀ x∈xs,bS m x=true:=by
 cases n with
 | zero=>cases h
 | succ n=>exact⟨n,rfl,Xu.mp h⟩
theorem rq(h:bS n (.lst xs)=true):∃ m,m+1=n/\∀ x∈xs,bS m x=true:=by
 cases n with
 | zero=>cases h
 | succ n=>exact⟨n,rfl,Xu.mp h⟩
inductive Fm(K:QF)(μ:Fp)(H:Hp):D->V->Prop
 | non:Fm K μ H .non .non
 | bl (b:Bool):Fm K μ H (.bl b) (.bl b)
 | int (i:Int):Fm K μ H (.int i) (.int i)
 | str (x:Str):Fm K μ H (.str x) (.str x)
 | tup {xs:List D} {l:td} {vs:List V} (q:lv K H l vs) (r:Reps K μ H vs xs):Fm K μ H (.tup xs) (.ref l)
 | lst {xs:List D} {l:td} {vs:List V} (q:mT K H l vs) (r:Reps K μ H vs xs):Fm K μ H (.lst xs) (.ref l)
theorem qG{K:QF}(hx:bS n x=true)(r:Rep K μ H a x):Fm K μ H x a:=by
 cases x with
 | non=>rw[r.non_inv];exact .non
 | bl b=>rw[r.bl_inv];exact .bl b
 | int b=>rw[r.int_inv];exact .int b
 | str b=>rw[r.str_inv];exact .str b
 | tup xs=>obtain⟨l,vs,rfl,q,r⟩:=r.sqT;exact .tup q r
 | lst xs=>obtain⟨l,vs,rfl,q,_,r⟩:=r.sqL;exact .lst (.inl (.inl q)) r
 | rol _=>rw[EE] at hx;cases hx
 | dct _ _=>rw[EI] at hx;cases hx
 | ref _=>rw[EF] at hx;cases hx
 | txt=>rw[ED] at hx;cases hx
 | obj=>rw[EG] at hx;cases hx
 | exc C=>rw[EH] at hx;cases hx
 | fn a=>rw[Ks] at hx;cases hx
theorem Reps.injN{K:QF}(ih:∀ {v:V} {x y:D},bS n x=true->bS n y=true->Rep K μ H v x->Rep K μ H v y->x=y):∀ {vs:List V} {xs ys:List D},(∀ x∈xs,bS n x=true)->(∀ y∈ys,bS n y=true)->Reps K μ H vs xs->Reps K μ H vs ys->xs=ys
 | _,_,_,_,_,.nil,.nil=>rfl
 | _,_,_,hx,hy,.cons h t,.cons h' t'=>by
  rw[ih (hx _ Xi) (hy _ Xi) h h',Reps.injN ih (λx m=>hx x (Xf _ m)) (λx m=>hy x (Xf _ m)) t t']
theorem AU(I:Inv X pins σ H s)(n:Nat)(ih:∀ m,m+1=n->∀ {v:V} {x y:D},bS m x=true->bS m y=true->Rep X.K μ H v x->Rep X.K μ H v y->x=y)(hx:bS n x=true)(hy:bS n y=true)(rx:Rep X.K μ H v x)(ry:Rep X.K μ H v y):x=y:=by
 have fy:=qG hy ry
 cases x with
 | tup xs=>
  obtain⟨a,vs,rfl,q,r⟩:=rx.sqT
  obtain⟨m,hm,ox⟩:=rn hx
  cases fy with
  | tup q' r'=>
   cases I.tuple_inj q' q
   obtain⟨m',hm',oy⟩:=rn hy
   have:m'=m:=by omega
   subst this
   rw[Reps.injN (ih m' hm) ox oy r r']
  | lst q' _=>exact(ntl I q q').elim
 | lst xs=>
  obtain⟨a,vs,rfl,q,_,r⟩:=rx.sqL
  obtain⟨m,hm,ox⟩:=rq hx
  cases y with
  | lst ys=>
   obtain⟨m',hm',oy⟩:=rq hy
   have:m'=m:=by omega
   subst this
   obtain⟨a',vs',e,q',_,r'⟩:=ry.sqL
   cases e
   rw[q] at q';cases q'
   rw[Reps.injN (ih m' hm) ox oy r r']
  | _=>cases fy<;>exact(ntl I (by assumption) (.inl (.inl q))).elim
 | non=>rw[rx.non_inv] at fy;cases fy;rfl
 | bl b=>rw[rx.bl_inv] at fy;cases fy;rfl
 | int b=>rw[rx.int_inv] at fy;cases fy;rfl
 | str b=>rw[rx.str_inv] at fy;cases fy;rfl
 | rol _=>rw[EE] at hx;cases hx
 | dct _ _=>rw[EI] at hx;cases hx
 | ref _=>rw[EF] at hx;cases hx
 | txt=>rw[ED] at hx;cases hx
 | obj=>rw[EG] at hx;cases hx
 | exc C=>rw[EH] at hx;cases hx
 | fn a=>rw[Ks] at hx;cases hx
theorem Rep.inj(I:Inv X pins σ H s)(n:Nat):∀ {v:V} {x y:D},bS n x=true->bS n y=true->Rep X.K μ H v x->Rep X.K μ H v y->x=y:=by
 induction n with
 | zero=>exact λhx hy rx ry=>AU I 0 (λm h=>absurd h (Nat.succ_ne_zero m)) hx hy rx ry
 | succ n ih=>exact λhx hy rx ry=>AU I (n+1) (λm h=>by cases h;exact ih) hx hy rx ry
theorem lP:∀ (n:Nat) (x:D),bS n x=true->iX x x=true
 | n,.non,_=>rfl
 | n,.bl _,_=>by simp[iX]
 | n,.int _,_=>by simp[iX]
 | n,.str _,_=>by simp[iX]
 | 0,.tup _,h=>by simp[bS] at h
 | 0,.lst _,h=>by simp[bS] at h
 | n+1,.tup xs,h=>by
  simp only[bS,Xu] at h
  rw[iX]
  induction xs with
  | nil=>rfl
  | cons x xs ih=>rw[eqDs,lP n x (h x Xi),ih λy m=>h y (Xf _ m)];rfl
 | n+1,.lst xs,h=>by
  simp only[bS,Xu] at h
  rw[iX]
  induction xs with
  | nil=>rfl
  | cons x xs ih=>rw[eqDs,lP n x (h x Xi),ih λy m=>h y (Xf _ m)];rfl
 | n,.rol _,h=>by cases n<;>simp[bS] at h
 | n,.txt,h=>by cases n<;>simp[bS] at h
 | n,.obj,h=>by cases n<;>simp[bS] at h
 | n,.exc _,h=>by cases n<;>simp[bS] at h
 | n,.fn _,h=>by cases n<;>simp[bS] at h
 | n,.dct _ _,h=>by cases n<;>simp[bS] at h
 | n,.ref _,h=>by cases n<;>simp[bS] at h
open PySem.SeqAt
theorem in1_units(A:IN):A.in1.units=A.units+1:=rfl
theorem vX{P:bd->bd->Bool->Prop}(r1:Vals vs its)(q1:Reps X.K μ H vs xs)(r2:Vals ws its2)(q2:Reps X.K μ H ws ys)
  (h:∀ (j:Nat) (v w:V) (u u':bd) (x y:D),xs[j]?=U x->ys[j]?=U y->Rep X.K μ H v x->Rep X.K μ H w y->RelV v u->RelV w u'->P u u' (iX x y)) :
  ∀ j (h1:j<its.toArray.size) (h2:j<its2.toArray.size),P its.toArray[j] its2.toArray[j] (match xs[j]?,ys[j]? with | some a,U b=>iX a b | _,_=>true):=λj h1 h2=>by
 have l1:=r1.length
 have l2:=r2.length
 have m1:=q1.length
 have m2:=q2.length
 have h1':j<its.length:=by simpa using h1
 have h2':j<its2.length:=by simpa using h2
 have hx:xs[j]?=U xs[j]:=Xl (by omega)
 have hy:ys[j]?=U ys[j]:=Xl (by omega)
 obtain⟨v,e1,p1⟩:=q1.get hx
 obtain⟨w,e2,p2⟩:=q2.get hy
 obtain⟨u,f1,g1⟩:=r1.get e1
 obtain⟨u',f2,g2⟩:=r2.get e2
 rw[hx,hy]
 have:=h j v w u u' _ _ hx hy p1 p2 g1 g2
 have f1':its.toArray[j]=u:=by simpa[Xl h1'] using f1
 have f2':its2.toArray[j]=u':=by simpa[Xl h2'] using f2
 rw[f1',f2']
 exact this
structure Xb(A:IN)(s:gV)(u v:bd)(b:Bool):Prop where
 eq:EqAt A s u v b
 rc:RcAt A s u v b
 ne:RcNeAt A s u v (!b)
theorem FL(I:Inv X pins σ H s)(n:Nat)(ih:∀ m,m+1=n->∀ (A:IN) {a b:V} {u v:bd} {x y:D},A.units+m<cLine->bS m x=true->bS m y=true->Rep X.K μ H a x->Rep X.K μ H b y->RelV a u->RelV b v->Xb A s u v (iX x y))
  (A:IN) (hn:A.units+n<cLine) (hx:bS n x=true) (hy:bS n y=true) (rx:Rep X.K μ H a x) (ry:Rep X.K μ H b y) (ra:RelV a u) (rb:RelV b v):Xb A s u v (iX x y):=by
 have hu:A.units<cLine:=by omega
 cases qG hx rx with
 | non=>
  cases ra
  cases qG hy ry with
  | non=>cases rb;exact⟨EqAt.same _,RcAt.none_none,RcNeAt.none_none⟩
  | bl b=>cases rb;exact⟨EqAt.none_bool b,RcAt.none_bool b,RcNeAt.none_bool b⟩
  | int b=>obtain⟨t,rfl⟩:=rb;exact⟨EqAt.none_int b t,RcAt.none_int b t,RcNeAt.none_int b t⟩
  | str b=>obtain⟨t,rfl⟩:=rb;exact⟨EqAt.none_str b t,RcAt.none_str b t,RcNeAt.none_str b t⟩
  | tup q r=>cases rb;obtain⟨its,rv,p,_⟩:=I.tuple q;exact⟨EqAt.none_tuple p hu,RcAt.none_tuple p hu,RcNeAt.none_tuple p hu⟩
  | lst q r=>cases rb;obtain⟨its,rv,p,_⟩:=I.list q;exact⟨EqAt.none_list p.isList hu,RcAt.none_list p.isList hu,RcNeAt.none_list p.isList hu⟩
 | bl a=>
  cases ra
  cases qG hy ry with
  | non=>cases rb;exact⟨EqAt.bool_none a,RcAt.bool_none a,RcNeAt.bool_none a⟩
  | bl b=>cases rb;exact⟨EqAt.bool_bool a b,RcAt.bool_bool a b,RcNeAt.bool_bool a b⟩
  | int b=>obtain⟨t,rfl⟩:=rb;exact⟨EqAt.bool_int a b t,RcAt.bool_int a b t,RcNeAt.bool_int a b t⟩
  | str b=>obtain⟨t,rfl⟩:=rb;exact⟨EqAt.bool_str a b t,RcAt.bool_str a b t,RcNeAt.bool_str a b t⟩
  | tup q r=>cases rb;obtain⟨its,rv,p,_⟩:=I.tuple q;exact⟨EqAt.bool_tuple a p hu,RcAt.bool_tuple a p hu,RcNeAt.bool_tuple a p hu⟩
  | lst q r=>cases rb;obtain⟨its,rv,p,_⟩:=I.list q;exact⟨EqAt.bool_list a p.isList hu,RcAt.bool_list a p.isList hu,RcNeAt.bool_list a p.isList hu⟩
 | int a=>
  obtain⟨t',rfl⟩:=ra
  cases qG hy ry with
  | non=>cases rb;exact⟨EqAt.int_none a t',RcAt.int_none a t',RcNeAt.int_none a t'⟩
  | bl b=>cases rb;exact⟨EqAt.int_bool a t' b,RcAt.int_bool a t' b,RcNeAt.int_bool a t' b⟩
  | int b=>obtain⟨t,rfl⟩:=rb;exact⟨EqAt.int_int a t' b t,RcAt.int_int a t' b t,RcNeAt.int_int a t' b t⟩
  | str b=>obtain⟨t,rfl⟩:=rb;exact⟨EqAt.int_str a t' b t,RcAt.int_str a t' b t,RcNeAt.int_str a t' b t⟩
  | tup q r=>cases rb;obtain⟨its,rv,p,_⟩:=I.tuple q;exact⟨EqAt.int_tuple a t' p hu,RcAt.int_tuple a t' p hu,RcNeAt.int_tuple a t' p hu⟩
  | lst q r=>cases rb;obtain⟨its,rv,p,_⟩:=I.list q;exact⟨EqAt.int_list a t' p.isList hu,RcAt.int_list a t' p.isList hu,RcNeAt.int_list a t' p.isList hu⟩
 | str a=>
  obtain⟨t',rfl⟩:=ra
  cases qG hy ry with
  | non=>cases rb;exact⟨EqAt.str_none a t',RcAt.str_none a t',RcNeAt.str_none a t'⟩
  | bl b=>cases rb;exact⟨EqAt.str_bool a t' b,RcAt.str_bool a t' b,RcNeAt.str_bool a t' b⟩
  | int b=>obtain⟨t,rfl⟩:=rb;exact⟨EqAt.str_int a t' b t,RcAt.str_int a t' b t,RcNeAt.str_int a t' b t⟩
  | str b=>obtain⟨t,rfl⟩:=rb;exact⟨EqAt.str_str a t' b t,RcAt.str_str a t' b t,RcNeAt.str_str a t' b t⟩
  | tup q r=>cases rb;obtain⟨its,rv,p,_⟩:=I.tuple q;exact⟨EqAt.str_tuple a t' p hu,RcAt.str_tuple a t' p hu,RcNeAt.str_tuple a t' p hu⟩
  | lst q r=>cases rb;obtain⟨its,rv,p,_⟩:=I.list q;exact⟨EqAt.str_list a t' p.isList hu,RcAt.str_list a t' p.isList hu,RcNeAt.str_list a t' p.isList hu⟩
 | @tup xs l vs q r=>
  cases ra
  obtain⟨its,rv,p,_⟩:=I.tuple q
  cases qG hy ry with
  | non=>cases rb;exact⟨EqAt.tuple_none p hu,RcAt.tuple_none p hu,RcNeAt.tuple_none p hu⟩
  | bl b=>cases rb;exact⟨EqAt.tuple_bool b p hu,RcAt.tuple_bool b p hu,RcNeAt.tuple_bool b p hu⟩
  | int b=>obtain⟨t,rfl⟩:=rb;exact⟨EqAt.tuple_int b t p hu,RcAt.tuple_int b t p hu,RcNeAt.tuple_int b t p hu⟩
  | str b=>obtain⟨t,rfl⟩:=rb;exact⟨EqAt.tuple_str b t p hu,RcAt.tuple_str b t p hu,RcNeAt.tuple_str b t p hu⟩
  | @tup ys l' vs' q' r'=>
   cases rb
   obtain⟨its',rv',p',_⟩:=I.tuple q'
   obtain⟨m,hm,ox⟩:=rn hx
   obtain⟨m',hm',oy⟩:=rn hy
   have:m'=m:=by omega
   subst this
   have all:=vX (P:=λu u' b=>EqAt A.in1 s u u' b) rv r rv' r' λj v w u u' x y hx' hy' q1 q2 g1 g2=>
    (ih m' hm A.in1 (by rw[in1_units];omega) (ox x (Xz hx')) (oy y (Xz hy')) q1 q2 g1 g2).eq
   have e0:its.toArray.size=xs.length:=by rw[Xg,<- rv.length,r.length]
   have e1:its'.toArray.size=ys.length:=by rw[Xg,<- rv'.length,r'.length]
   have key:=RcAt.tuples (A:=A) (s:=s) p p' hu all
   have kne:=RcNeAt.tuples (A:=A) (s:=s) p p' hu all
   rw[e0,e1,<- yF] at key kne
   refine⟨?_,key,kne⟩
   by_cases hl:l=l'
   ·subst hl
    rw[<- Rep.inj I n hx hy rx ry,lP _ _ hx]
    exact EqAt.same _
   ·exact EqAt.of_refs hl key
  | lst q' r'=>cases rb;obtain⟨its',rv',p',_⟩:=I.list q';exact⟨EqAt.tuple_list p p'.isList hu,RcAt.tuple_list p p'.isList hu,RcNeAt.tuple_list p p'.isList hu⟩
 | @lst xs l vs q r=>
  cases ra
  obtain⟨its,rv,p0,_⟩:=I.list q
  have p:=p0.isList
  cases qG hy ry with
  | non=>cases rb;exact⟨EqAt.list_none p hu,RcAt.list_none p hu,RcNeAt.list_none p hu⟩
  | bl b=>cases rb;exact⟨EqAt.list_bool b p hu,RcAt.list_bool b p hu,RcNeAt.list_bool b p hu⟩
  | int b=>obtain⟨t,rfl⟩:=rb;exact⟨EqAt.list_int b t p hu,RcAt.list_int b t p hu,RcNeAt.list_int b t p hu⟩
  | str b=>obtain⟨t,rfl⟩:=rb;exact⟨EqAt.list_str b t p hu,RcAt.list_str b t p hu,RcNeAt.list_str b t p hu⟩
  | tup q' r'=>cases rb;obtain⟨its',rv',p',_⟩:=I.tuple q';exact⟨EqAt.list_tuple p p' hu,RcAt.list_tuple p p' hu,RcNeAt.list_tuple p p' hu⟩
  | @lst ys l' vs' q' r'=>
   cases rb
   obtain⟨its',rv',p0',_⟩:=I.list q'
   have p':=p0'.isList
   obtain⟨m,hm,ox⟩:=rq hx
   obtain⟨m',hm',oy⟩:=rq hy
   have:m'=m:=by omega
   subst this
   have all:=vX (P:=λu u' b=>EqAt A.in1 s u u' b) rv r rv' r' λj v w u u' x y hx' hy' q1 q2 g1 g2=>
    (ih m' hm A.in1 (by rw[in1_units];omega) (ox x (Xz hx')) (oy y (Xz hy')) q1 q2 g1 g2).eq
   have e0:its.toArray.size=xs.length:=by rw[Xg,<- rv.length,r.length]
   have e1:its'.toArray.size=ys.length:=by rw[Xg,<- rv'.length,r'.length]
   have key:RcAt A s (.ref l) (.ref l') (eqDs xs ys)/\RcNeAt A s (.ref l) (.ref l') (!eqDs xs ys):=by
    rw[yF]
    by_cases hlen:xs.length=ys.length
    ·have k1:=RcAt.lists (A:=A) (s:=s) p p' (by rw[e0,e1,hlen]) hu all
     have k2:=RcNeAt.lists (A:=A) (s:=s) p p' (by rw[e0,e1,hlen]) hu all
     rw[e0] at k1 k2
     rw[<- hlen,Nat.min_self,beq_self_eq_true,ZL]
     exact⟨k1,k2⟩
    ·rw[show(xs.length==ys.length)=false from YC.mpr hlen,Zt]
     exact⟨RcAt.lists_lengths (A:=A) (s:=s) p p' (by rw[e0,e1];exact bne_iff_ne.mpr hlen) hu,RcNeAt.lists_lengths (A:=A) (s:=s) p p' (by rw[e0,e1];exact bne_iff_ne.mpr hlen) hu⟩
   refine⟨?_,key.1,key.2⟩
   by_cases hl:l=l'
   ·subst hl
    rw[<- Rep.inj I n hx hy rx ry,lP _ _ hx]
    exact EqAt.same _
   ·exact EqAt.of_refs hl key.1
theorem Wz(I:Inv X pins σ H s)(n:Nat):∀ (A:IN) {a b:V} {u v:bd} {x y:D},A.units+n<cLine->bS n x=true->bS n y=true->Rep X.K μ H a x->Rep X.K μ H b y->RelV a u->RelV b v->Xb A s u v (iX x y):=by
 induction n with
 | zero=>exact λA _ _ _ _ _ _ hn hx hy rx ry ra rb=>FL I 0 (λm h=>absurd h (Nat.succ_ne_zero m)) A hn hx hy rx ry ra rb
 | succ n ih=>exact λA _ _ _ _ _ _ hn hx hy rx ry ra rb=>FL I (n+1) (λm h=>by cases h;exact ih) A hn hx hy rx ry ra rb
theorem eqRc(I:Inv X pins σ H s)(n:Nat)(A:IN)(hn:A.units+n<cLine)(hx:bS n x=true)(hy:bS n y=true)(rx:Rep X.K μ H a x)(ry:Rep X.K μ H b y)(ra:RelV a u)(rb:RelV b v) :
  EqAt A s u v (iX x y)/\RcAt A s u v (iX x y):=⟨(Wz I n A hn hx hy rx ry ra rb).eq,(Wz I n A hn hx hy rx ry ra rb).rc⟩
theorem neRc(I:Inv X pins σ H s)(n:Nat)(A:IN)(hn:A.units+n<cLine)(hx:bS n x=true)(hy:bS n y=true)(rx:Rep X.K μ H a x)(ry:Rep X.K μ H b y)(ra:RelV a u)(rb:RelV b v) :
  RcNeAt A s u v (!iX x y):=(Wz I n A hn hx hy rx ry ra rb).ne
end
def fO(S:aa):D->Option (List D)
 | .tup xs=>U xs
 | .lst xs=>U xs
 | .rol xs=>U xs
 | .ref r=>match S[r]? with | some (.lst xs)=>U xs | _=>Y
 | _=>Y
section
variable{X:Cx}{K:QF}{μ:Fp}{H:Hp}{S:aa}
theorem iZ{d:D}{ds:List D}(s:SOk K μ S H)(r:Rep K μ H x d)(h:fO S d=U ds):∃ a vs,x=.ref a/\(mT K H a vs\/lv K H a vs)/\Reps K μ H vs ds:=by
 cases r with
 | tup h' n r=>cases h;exact⟨_,_,rfl,.inr (.inl (.inl h')),r⟩
 | ktup h' r=>cases h;exact⟨_,_,rfl,.inr (.inr h'),r⟩
 | lst h' n r=>cases h;exact⟨_,_,rfl,.inl (.inl (.inl h')),r⟩
 | rol h' n r=>cases h;exact⟨_,_,rfl,.inl (.inl h'),r⟩
 | krol h' r=>cases h;exact⟨_,_,rfl,.inl (.inr h'),r⟩
 | @ref a i h'=>
  simp only[fO] at h
  cases q:S[i]? with
  | none=>rw[q] at h;cases h
  | some c=>
   rw[q] at h
   have ck:=s.cell i a c h' q
   cases c with
   | lst xs=>cases h;obtain⟨vs,e,r⟩:=ck;exact⟨_,vs,rfl,.inl (.inl (.inl e)),r⟩
   | dct ks xs=>cases h
   | deep ks xs=>cases h
 | _=>cases h
theorem Rep.free{d:D}(h:bS n d=true)(r:Rep K μ H v d):Rep K ⟨[],[]⟩ H v d:=
 Rep.to (P:=λd=>∃ n,bS n d=true) (λd ⟨n,h⟩ x hx=>by
  cases n with
  | zero=>cases d<;>first | (cases hx;done) | (simp[bS] at h;done)
  | succ n=>cases d<;>first | (cases hx;done) | exact⟨n,Xu.mp h x hx⟩ | (simp[bS] at h;done)) (λh _=>⟨h,by simp,by simp⟩) (λ⟨n,h⟩=>by cases n<;>simp[bS] at h) r ⟨n,h⟩
theorem Reps.free{ds:List D}(h:ds.all (bS n)=true)(r:Reps K μ H vs ds):Reps K ⟨[],[]⟩ H vs ds:=Reps.to (P:=λd=>bS n d=true) (λr h=>Rep.free h r) r (Xu.mp h)
def lQ(S:aa):D->D
 | .ref r=>match S[r]? with | some (.lst xs)=>.lst xs | _=>.ref r
 | d=>d
theorem rK{d:D}(h:bS n d=true):lQ S d=d:=by
 cases d<;>first | rfl | (cases n<;>simp[bS] at h)
theorem pq{d:D}(s:SOk K μ S H)(r:Rep K μ H v d)(h:bS n (lQ S d)=true):Rep K ⟨[],[]⟩ H v (lQ S d):=by
 by_cases hd:lQ S d=d
 ·rw[hd] at h ⊢;exact Rep.free h r
 ·cases r with
  | @ref a i h'=>
   cases q:S[i]? with
   | none=>exact absurd (by simp only[lQ,q]) hd
   | some c=>
    cases c with
    | dct ks vs=>exact absurd (by simp only[lQ,q]) hd
    | deep ks vs=>exact absurd (by simp only[lQ,q]) hd
    | lst xs=>
     have e:lQ S (.ref i)=.lst xs:=by simp only[lQ,q]
     rw[e] at h ⊢
     obtain⟨vs,e,r⟩:=s.cell i a _ h' q
     cases n with
     | zero=>simp[bS] at h
     | succ n=>exact .lst e ⟨by simp,by simp⟩ (Reps.free (n:=n) h r)
  | _=>exact absurd rfl hd
def cY(S:aa)(x y:D):Option D:=if bS 40 (lQ S x)=true/\bS 40 (lQ S y)=true then U (.bl (iX (lQ S x) (lQ S y))) else Y
def mE(S:aa)(x y:D):Option D:=if bS 40 (lQ S x)=true/\bS 40 (lQ S y)=true then U (.bl (!iX (lQ S x) (lQ S y))) else Y
theorem op_Eq(hu:X.A.units+64<cLine):OpR X (Mc .Eq) (on X.K cY):=by
 intro pins s σ H x y v u Q I rx ry h
 obtain⟨μ,S,dx,dy,dz,hS,h1,h2,h3,post⟩:=h
 simp only[cY] at h3
 split at h3
 ·rename_i hk
  cases h3
  exact(eqRc I 40 X.A (by omega) hk.1 hk.2 (pq hS h1 hk.1) (pq hS h2 hk.2) rx ry).2 X.prog X.w X.xe _ ⟨.bl _,H,I,rfl,post.here hS (.bl _)⟩
 ·cases h3
theorem op_Ne(hu:X.A.units+64<cLine):OpR X (Mc .NotEq) (on X.K mE):=by
 intro pins s σ H x y v u Q I rx ry h
 obtain⟨μ,S,dx,dy,dz,hS,h1,h2,h3,post⟩:=h
 simp only[mE] at h3
 split at h3
 ·rename_i hk
  cases h3
  exact neRc I 40 X.A (by omega) hk.1 hk.2 (pq hS h1 hk.1) (pq hS h2 hk.2) rx ry X.prog X.w X.xe _ ⟨.bl _,H,I,rfl,post.here hS (.bl _)⟩
 ·cases h3
open Classical in
def eN(K:QF)(μ:Fp)(H:Hp)(x:D)(u:bd):Bool:=decide (∃ v d,RelV v u/\Rep K μ H v d/\bS 39 d=true/\iX d x=true)
open Classical in
theorem po{s:gV}(I:Inv X pins σ H s){d:D}(rv:RelV v u)(r:Rep X.K μ H v d)(ok:bS 39 d=true):eN X.K μ H x u=iX d x:=by
 unfold eN
 cases e:iX d x with
 | true=>exact Xs ⟨v,d,rv,r,ok,e⟩
 | false=>
  refine Xt ?_
  rintro⟨v',d',rv',r',ok',e'⟩
  cases rv.inj rv'
  rw[Rep.inj I 39 ok ok' r r'] at e
  rw[e] at e';cases e'
theorem jS{s:gV}(I:Inv X pins σ H s):∀ {vs:List V} {us:List bd} {ds:List D},Vals vs us->Reps X.K μ H vs ds->(∀ d∈ds,bS 39 d=true) ->
  us.any (eN X.K μ H x)=ds.any λd=>iX d x
 | _,_,_,.nil,.nil,_=>rfl
 | _,_,_,.cons rv tv,.cons r t,ok=>by
  rw[Ze,Ze,po I rv r (ok _ Xi),jS I tv t λd m=>ok d (Xf _ m)]
theorem gK{s:gV}(I:Inv X pins σ H s){A:IN}(hu:A.units+40<cLine)(rx:RelV v u)(rD:Rep X.K μ H v x)(okx:bS 40 x=true) :
  ∀ {vs:List V} {us:List bd} {ds:List D},Vals vs us->Reps X.K μ H vs ds->(∀ d∈ds,bS 39 d=true)->∀ w∈us,SeqAt.EqAt A s w u (eN X.K μ H x w)
 | _,_,_,.nil,.nil,_=>λw hw=>by cases hw
 | _,_,_,.cons rv tv,.cons r t,ok=>λw hw=>by
  rcases XD.mp hw with rfl | hw
  ·rw[po I rv r (ok _ Xi)]
   exact(eqRc I 40 A hu (lF (by decide) (ok _ Xi)) okx r rD rv rx).1
  ·exact gK I hu rx rD okx tv t (λd m=>ok d (Xf _ m)) w hw
def BV(S:aa)(x y:D):Option D:=(fO S y).bind λds=>if bS 40 x=true/\ds.all (bS 39)=true then U (.bl (ds.any λd=>iX d x)) else Y
def qb(S:aa)(x y:D):Option D:=(fO S y).bind λds=>if bS 40 x=true/\ds.all (bS 39)=true then U (.bl (!ds.any λd=>iX d x)) else Y
theorem op_In(hu:X.A.units+64<cLine):OpR X (Mc .In) (on X.K BV):=by
 intro pins s σ H x y v u Q I rx ry h
 obtain⟨μ,S,dx,dy,dz,hS,h1,h2,h3,post⟩:=h
 obtain⟨ds,e,h3⟩:=Xc.mp h3
 split at h3
 ·rename_i hk
  cases h3
  obtain⟨a,vs,rfl,hq,r⟩:=iZ hS h2 e
  cases ry
  have ok:=Xu.mp hk.2
  rcases hq with hq | hq
  ·obtain⟨its,rv,pl,hz⟩:=I.list hq
   refine SeqAt.in_listAt (eN X.K μ H dx) pl.isList (λw hw=>gK I (by show X.A.units+1+40<cLine;omega) rx h1 hk.1 rv r ok w (by simpa using hw)) ⟨.bl _,H,I,rfl,?_⟩
   rw[show its.toArray.any (eN X.K μ H dx)=its.any (eN X.K μ H dx) by simp,jS I rv r ok]
   exact post.here hS (.bl _)
  ·obtain⟨its,rv,pl,hz⟩:=I.tuple hq
   refine SeqAt.in_tupleAt (eN X.K μ H dx) pl (λw hw=>gK I (by show X.A.units+1+40<cLine;omega) rx h1 hk.1 rv r ok w (by simpa using hw)) ⟨.bl _,H,I,rfl,?_⟩
   rw[show its.toArray.any (eN X.K μ H dx)=its.any (eN X.K μ H dx) by simp,jS I rv r ok]
   exact post.here hS (.bl _)
 ·cases h3
theorem Kn(hu:X.A.units+64<cLine):OpR X (Mc .NotIn) (on X.K qb):=by
 intro pins s σ H x y v u Q I rx ry h
 obtain⟨μ,S,dx,dy,dz,hS,h1,h2,h3,post⟩:=h
 obtain⟨ds,e,h3⟩:=Xc.mp h3
 split at h3
 ·rename_i hk
  cases h3
  obtain⟨a,vs,rfl,hq,r⟩:=iZ hS h2 e
  cases ry
  have ok:=Xu.mp hk.2
  rcases hq with hq | hq
  ·obtain⟨its,rv,pl,hz⟩:=I.list hq
   refine SeqAt.notIn_listAt (eN X.K μ H dx) pl.isList (λw hw=>gK I (by show X.A.units+1+40<cLine;omega) rx h1 hk.1 rv r ok w (by simpa using hw)) ⟨.bl _,H,I,rfl,?_⟩
   rw[show its.toArray.any (eN X.K μ H dx)=its.any (eN X.K μ H dx) by simp,jS I rv r ok]
   exact post.here hS (.bl _)
  ·obtain⟨its,rv,pl,hz⟩:=I.tuple hq
   refine SeqAt.notIn_tupleAt (eN X.K μ H dx) pl (λw hw=>gK I (by show X.A.units+1+40<cLine;omega) rx h1 hk.1 rv r ok w (by simpa using hw)) ⟨.bl _,H,I,rfl,?_⟩
   rw[show its.toArray.any (eN X.K μ H dx)=its.any (eN X.K μ H dx) by simp,jS I rv r ok]
   exact post.here hS (.bl _)
 ·cases h3
def mY:D->D->Bool
 | .non,.non=>true
 | .bl a,.bl b=>a==b
 | _,_=>false
def zd(S:aa)(x y:D):Option D:=match y with | .non=>U (.bl (mY x y)) | .bl _=>U (.bl (mY x y)) | _=>Y
def nS(S:aa)(x y:D):Option D:=match y with | .non=>U (.bl (!mY x y)) | .bl _=>U (.bl (!mY x y)) | _=>Y
theorem LM(h1:Rep K μ H x dx)(h2:Rep K μ H y dy)(rx:RelV x v)(ry:RelV y u)(hy:dy=.non\/∃ b,dy=.bl b):plainIs v u=true/\(v==u)=mY dx dy:=by
 rcases hy with rfl | ⟨b,rfl⟩
 ·cases h2;cases ry
  cases h1<;>first | (cases rx;exact⟨rfl,rfl⟩) | (obtain⟨t,rfl⟩:=rx;exact⟨rfl,rfl⟩)
 ·cases h2;cases ry
  cases h1<;>first | (cases rx;exact⟨rfl,rfl⟩) | (obtain⟨t,rfl⟩:=rx;exact⟨rfl,rfl⟩) | (cases rx;rename_i c;refine⟨rfl,?_⟩;cases b<;>cases c<;>rfl)
theorem op_Is:OpR X (Mc .Is) (on X.K zd):=by
 intro pins s σ H x y v u Q I rx ry h
 obtain⟨μ,S,dx,dy,dz,hS,h1,h2,h3,post⟩:=h
 have hy:(dy=.non\/∃ b,dy=.bl b)/\dz=.bl (mY dx dy):=by
  cases dy<;>first | (cases h3;exact⟨.inl rfl,rfl⟩) | (cases h3;exact⟨.inr ⟨_,rfl⟩,rfl⟩) | cases h3
 obtain⟨p,e⟩:=LM h1 h2 rx ry hy.1
 cases hy.2
 exact wpAny_is_plain p ⟨.bl _,H,I,congrArg Value.bool e,post.here hS (.bl _)⟩
theorem Ko:OpR X (Mc .IsNot) (on X.K nS):=by
 intro pins s σ H x y v u Q I rx ry h
 obtain⟨μ,S,dx,dy,dz,hS,h1,h2,h3,post⟩:=h
 have hy:(dy=.non\/∃ b,dy=.bl b)/\dz=.bl (!mY dx dy):=by
  cases dy<;>first | (cases h3;exact⟨.inl rfl,rfl⟩) | (cases h3;exact⟨.inr ⟨_,rfl⟩,rfl⟩) | cases h3
 obtain⟨p,e⟩:=LM h1 h2 rx ry hy.1
 cases hy.2
 exact wpAny_isNot_plain p ⟨.bl _,H,I,congrArg (λb=>Value.bool (!b)) e,post.here hS (.bl _)⟩
end
end M
namespace HT
section
variable{prog:vx}{w:Gs}{A:IN}{E:bd->gV->Prop}{s:gV}
theorem RE{ws:List bd}{Q:bd->gV->Prop}(ht:IsTup s.heap t #[])(hb:IsTup s.heap b ws.toArray)(h:Q (.ref b) s):Qs (model prog w) A (PN .Add (.ref t) (.ref b)) Q E s:=by
 obtain⟨⟨cls,dd,data,sl⟩,ho,hc,n,hd⟩:=id ht
 obtain⟨⟨cls2,dd2,data2,sl2⟩,ho2,hc2,n2,hd2⟩:=id hb
 simp only at hc hd hc2 hd2
 subst hc hd hc2 hd2
 exact abk ⟨_,ho,rfl⟩ ⟨_,ho2,rfl⟩ aaz abc aaC aaq (aaj _ _)
   (tuple_addW0 t b #[] ws.toArray n n2 dd dd2 sl sl2 rfl) ⟨ho,ho2,h⟩
theorem mS{lo:Option Int}{Q:bd->gV->Prop}(ht:IsTup s.heap t items)(hs:s.heap.IsSliceOf sl vl vu .none)(pl:IsPart vl lo)(pu:IsPart vu hi)
  (hw:eK items.size 0 lo=0/\eK items.size items.size hi=items.size) (h:Q (.ref t) s):Qs (model prog w) A (getItem (.ref t) (.ref sl)) Q E s:=by
 obtain⟨os,hos,hcs,hds⟩:=id hs
 have hTs:s.TypeIs (.ref sl) "slice":=⟨os,hos,hcs⟩
 unfold getItem
 try with_reducible refine Yx ?_
 first | refine Xd (Xj ?_) | skip
 refine Xd (wpAny_sequenceKey ht.typeIs (by decide) ?_)
 refine Xd (Yg (name:=Str.ofString "__getitem__") ht.typeIs YM
  (Yu YM ht.typeIs abC ?_ (abM _ _)))
 show Qs _ _ (Builtin.Tuple.tupleItemsOf (.ref t) >>= _) _ _ s
 refine Xd (tupleItemsOf_ ht ?_)
 refine Xd (aar hTs ?_)
 rw[Xq (by decide)]
 refine Xd (jD hs pl pu ?_)
 have hyes:(((eK items.size 0 lo:Nat):Int)==0&&(1:Int)==1&&(eK items.size items.size hi - eK items.size 0 lo)==items.size)=true:=by
  rw[hw.1,hw.2];simp
 show Qs _ _ (if (((eK items.size 0 lo:Nat):Int)==0&&(1:Int)==1&&(eK items.size items.size hi - eK items.size 0 lo)==items.size)=true then _ else _) _ _ s
 rw[Xq hyes]
 unfold Builtin.Tuple.tupleIsExact
 refine Xd (Xd (aar ht.typeIs (Xj ?_)))
 rw[Xq (by decide)]
 exact Xd (aal (Xd (Xj (Xj ⟨_,rfl,Xj h⟩))))
end
end HT
namespace M
open L2
section
variable{X:Cx}{K:QF}{μ μ':Fp}{H H':Hp}{S:aa}
def HU(g:Int->Int->D)(S:aa)(x y:D):Option D:=match x,y with | .int i,.int j=>U (g i j) | _,_=>Y
def Bo(C:Int->Int->Bool)(g:Int->Int->D)(S:aa)(x y:D):Option D:=match x,y with | .int i,.int j=>if C i j=true then U (g i j) else Y | _,_=>Y
theorem oE{g':Int->Int->D}(h:OpR X f (OW g))(hg:∀ i j μ H,Rep X.K μ H (g i j) (g' i j)):OpR X f (on X.K (HU g')):=
 OpR.imp h λx y H Q z0=>by
  obtain⟨μ,S,dx,dy,dz,hS,h1,h2,h3,post⟩:=z0
  cases dx<;>first | (cases h3;done) | (cases dy<;>first | cases h3 | skip)
  exact⟨_,_,h1.int_inv,h2.int_inv,post.here hS (hg _ _ _ _)⟩
theorem xo{C':Int->Int->Bool}{g':Int->Int->D}(h:OpR X f (rI C g))(hC:∀ i j,C' i j=true->C i j)(hg:∀ i j μ H,Rep X.K μ H (g i j) (g' i j)):OpR X f (on X.K (Bo C' g')):=
 OpR.imp h λx y H Q z0=>by
  obtain⟨μ,S,dx,dy,dz,hS,h1,h2,h3,post⟩:=z0
  cases dx<;>first | (cases h3;done) | (cases dy<;>first | cases h3 | skip)
  simp only[Bo] at h3
  split at h3
  ·rename_i hc
   cases h3
   exact⟨_,_,h1.int_inv,h2.int_inv,hC _ _ hc,post.here hS (hg _ _ _ _)⟩
  ·cases h3
def HQ:=HU λi j=>.int (i - j)
def HS:=HU λi j=>.bl (decide (i<j))
def fLe:=HU λi j=>.bl (decide (i<=j))
def FH:=HU λi j=>.bl (decide (j<i))
def fGe:=HU λi j=>.bl (decide (j<=i))
theorem Us:OpR X (PN .Sub) (on X.K HQ):=oE Um λ_ _ _ _=>.int _
theorem op_Lt:OpR X (Mc .Lt) (on X.K HS):=oE op_lt λ_ _ _ _=>.bl _
theorem op_Le:OpR X (Mc .LtE) (on X.K fLe):=oE op_le λ_ _ _ _=>.bl _
theorem op_Gt:OpR X (Mc .Gt) (on X.K FH):=oE op_gt λ_ _ _ _=>.bl _
theorem op_Ge:OpR X (Mc .GtE) (on X.K fGe):=oE op_ge λ_ _ _ _=>.bl _
def kQ:=Bo (λ_ j=>decide (0<j)) λi j=>.int (i%j)
def HW:=Bo (λ_ j=>decide (0<j)&&decide (j<1073741824)) λi j=>.int (i / j)
def vg:=Bo (λi j=>decide (0<=j)&&decide (j<=1000000)&&decide (i.natAbs<2^64)) λi j=>.int (i^j.toNat)
theorem Uv:OpR X (PN .Mod) (on X.K kQ):=xo Uq (λ_ _ h=>XV h) λ_ _ _ _=>.int _
theorem Uw:OpR X (PN .FloorDiv) (on X.K HW):=xo Pz (λ_ _ h=>by simpa[CDiv] using h) λ_ _ _ _=>.int _
theorem Ut:OpR X (PN .Pow) (on X.K vg):=xo Up (λi j h=>by
 simp only[Xk,Yz] at h
 exact⟨h.1.1,h.1.2,h.2⟩) λ_ _ _ _=>.int _
def oI(i j:Int):Bool:=decide (i.natAbs<18446744073709551616)||decide (j.natAbs<18446744073709551616)||(decide (i.natAbs<2^4000)&&decide (j.natAbs<2^4000))
theorem PR(h:oI i j=true):IntMulOk i j:=by
 unfold oI at h
 simp only[ZA,Xk,Yz] at h
 rcases h with (h | h) | h
 ·exact .of_left (aba (k:=64) (by omega))
 ·exact .of_right (aba (k:=64) (by omega))
 ·exact .of_bits (XN (aba (k:=4000) h.1) (by decide)) (XN (aba (k:=4000) h.2) (by decide))
theorem Py:OpR X (PN .Mult) (rI (λi j=>oI i j=true) λi j=>.int (i*j)):=opI λ_ _ _ _ _ _ _ hc q=>mul_int q (PR hc)
def VE(S:aa)(x y:D):Option D:=match x,y with
 | .int i,.int j=>if oI i j=true then U (.int (i*j)) else Y
 | _,_=>Y
theorem Uu:OpR X (PN .Mult) (on X.K VE):=OpR.imp Py λx y H Q z0=>by
 obtain⟨μ,S,dx,dy,dz,hS,h1,h2,h3,post⟩:=z0
 cases dx<;>first | (cases h3;done) | (cases dy<;>first | cases h3 | skip)
 simp only[VE] at h3
 split at h3
 ·rename_i hc
  cases h3
  exact⟨_,_,h1.int_inv,h2.int_inv,hc,post.here hS (.int _)⟩
 ·cases h3
def Mp(S:aa)(x y:D):Option D:=match x,y with
 | .int i,.int j=>U (.int (i+j))
 | .str i,.str j=>if i.length+j.length<=KY then U (.str (i++j)) else Y
 | .tup xs,.tup ys=>if xs.length+ys.length<=KY then U (.tup (xs++ys)) else Y
 | .lst xs,.lst ys=>if xs.length+ys.length<=KY then U (.lst (xs++ys)) else Y
 | _,_=>Y
theorem Ux:OpR X (PN .Add) (on X.K Mp):=by
 intro pins s σ H x y v u Q I rx ry h
 obtain⟨μ,S,dx,dy,dz,hS,h1,h2,h3,post⟩:=h
 cases dx<;>first | (cases h3;done) | (cases dy<;>first | cases h3 | skip)
 case int.int i j=>exact Ur pins s σ H x y v u Q I rx ry ⟨_,_,h1.int_inv,h2.int_inv,post.here hS (.int _)⟩
 case str.str i j=>
  simp only[Mp] at h3
  split at h3
  ·rename_i hl;cases h3
   exact CG pins s σ H x y v u Q I rx ry ⟨_,_,h1.str_inv,h2.str_inv,hl,post.here hS (.str _)⟩
  ·cases h3
 case tup.tup xs ys=>
  simp only[Mp] at h3
  split at h3
  ·rename_i hl;cases h3
   have h2':=h2
   have h1':=h1
   obtain⟨a,vs,rfl,q1,r1⟩:=h1.sqT
   obtain⟨b,ws,rfl,q2,r2⟩:=h2.sqT
   have e1:=r1.length
   have e2:=r2.length
   by_cases hv:vs=[]
   ·subst hv
    have hx:xs=[]:=Yv (by simpa using e1.symm)
    subst hx
    cases rx;cases ry
    obtain⟨its,rv,p1,_⟩:=I.tuple q1
    obtain⟨its2,rv2,p2,_⟩:=I.tuple q2
    have:its=[]:=rv.nil_iff.mpr rfl
    subst this
    exact HT.RE p1 p2 ⟨.ref b,H,I,rfl,post.here hS h2'⟩
   ·refine PC pins s σ H _ _ v u Q I rx ry ⟨a,b,vs,ws,rfl,rfl,q1,q2,hv,by omega,λhw=>?_,λhw p hp=>post.tup hS hp (r1.append r2)⟩
    subst hw
    have hy:ys=[]:=Yv (by simpa using e2.symm)
    subst hy
    rw[XW] at post
    exact post.here hS h1'
  ·cases h3
 case lst.lst xs ys=>
  simp only[Mp] at h3
  split at h3
  ·rename_i hl;cases h3
   obtain⟨a,vs,rfl,q1,n1,r1⟩:=h1.sqL
   obtain⟨b,ws,rfl,q2,n2,r2⟩:=h2.sqL
   have e1:=r1.length
   have e2:=r2.length
   exact CF pins s σ H _ _ v u Q I rx ry ⟨a,b,vs,ws,rfl,rfl,q1,q2,by omega,λp hp=>post.lst hS hp (r1.append r2)⟩
  ·cases h3
theorem Tp:UnR X (unaryOp .USub) (rM1 X.K λ_ x=>match x with | .int i=>U (.int (-i)) | _=>Y):=UnR.imp To λx H Q z0=>by
 obtain⟨μ,S,dx,dz,hS,h1,h3,post⟩:=z0
 cases dx<;>first | cases h3 | skip
 exact⟨_,h1.int_inv,post.here hS (.int _)⟩
def ES(f:aa->D->Option D)(a:ME):ME:=λenv S=>(a env S).bind λp=>(f p.2 p.1).bind λz=>U (z,p.2)
theorem de_un(ho:UnR X (unaryOp op) (rM1 X.K f))(ha:DE X a ma):DE X (.UnaryOp op a pos) (ES f ma):=
 PE.imp (pe_un ho ha) λσ H Q z0=>by
  obtain⟨μ,S,env,d,S',hS,hE,hm,post⟩:=z0
  obtain⟨⟨x,S1⟩,h1,hm⟩:=Xc.mp hm
  obtain⟨z,h2,hm⟩:=Xc.mp hm
  cases hm
  exact⟨μ,S,env,x,_,hS,hE,h1,λv H1 μ1 e1 s1 r1=>⟨μ1,_,x,_,s1,r1,h2,post.ext e1⟩⟩
theorem RM{d:D}(r:Reps K μ H vs ds)(h:oo ds i=U d):∃ v,oo vs i=U v/\Rep K μ H v d:=by
 unfold oo at h ⊢
 rw[r.length]
 obtain⟨j,h1,h2⟩:=Xc.mp h
 obtain⟨v,h3,h4⟩:=r.get h2
 exact⟨v,by rw[h1];exact h3,h4⟩
def fIx(S:aa)(x y:D):Option D:=match y with | .int i=>(fO S x).bind λxs=>oo xs i | _=>Y
theorem ix_D:IxR X (on X.K fIx):=IxR.imp (ix_list.or Vl) λx y H Q z0=>by
 obtain⟨μ,S,dx,dy,dz,hS,h1,h2,h3,post⟩:=z0
 cases dy<;>first | cases h3 | skip
 rename_i i
 obtain⟨xs,e,h3⟩:=Xc.mp h3
 obtain⟨a,vs,rfl,hq,r⟩:=iZ hS h1 e
 obtain⟨v,h4,h5⟩:=RM r h3
 rcases hq with hq | hq
 ·exact .inl ⟨a,vs,i,v,rfl,h2.int_inv,hq,h4,post.here hS h5⟩
 ·exact .inr ⟨a,vs,i,v,rfl,h2.int_inv,hq,h4,post.here hS h5⟩
def iS{α:Type}(xs:List α)(lo hi:Option Int):List α:=(xs.drop (HT.eK xs.length 0 lo)).take (HT.eK xs.length xs.length hi - HT.eK xs.length 0 lo)
noncomputable abbrev MO:=aE->aa->Option (Option Int×aa)
def cA:MO:=λ_ S=>U (Y,S)
def dB(m:ME):MO:=λenv S=>(m env S).bind λp=>match p.1 with | .int i=>U (U i,p.2) | _=>Y
inductive tMO(K:QF)(m:MO)(σ:L2.St)(H:Hp)(Q:Option Int->Hp->Prop):Prop
 | mk (μ:Fp) (S:aa) (env:aE) (o:Option Int) (S':aa) (hS:SOk K μ S H) (hE:EOk K μ H σ env) (h:m env S=U (o,S')) (post:∀ H' μ',Ext μ H μ' H'->SOk K μ' S' H'->Q o H')
def DO(X:Cx)(e:Option tx)(m:MO):Prop:=PO X e (tMO X.K m)
theorem PO.imp{t':TO}(h:PO X e t)(i:∀ σ H Q,t' σ H Q->t σ H Q):PO X e t':=λpins s σ H Q I q=>h pins s σ H Q I (i σ H Q q)
theorem Rc:DO X Y cA:=PO.imp Pl λσ H Q ⟨μ,S,env,d,S',hS,hE,hm,post⟩=>by cases hm;exact post H μ hS.ext hS
theorem Rb(h:DE X e m):DO X (U e) (dB m):=PO.imp (Pj h) λσ H Q z0=>by
 obtain⟨μ,S,env,d,S',hS,hE,hm,post⟩:=z0
 obtain⟨⟨x,S1⟩,h1,hm⟩:=Xc.mp hm
 cases x<;>first | cases hm | skip
 exact⟨μ,S,env,_,_,hS,hE,h1,λv H1 μ1 e1 s1 r1=>⟨_,r1.int_inv,post H1 μ1 e1 s1⟩⟩
def cn(a:ME)(lo hi:MO):ME:=λenv S=>(a env S).bind λp=>(lo env p.2).bind λl=>(hi env l.2).bind λh=>match p.1 with
 | .tup xs=>U (.tup (iS xs l.1 h.1),h.2)
 | .lst xs=>U (.lst (iS xs l.1 h.1),h.2)
 | .rol xs=>U (.lst (iS xs l.1 h.1),h.2)
 | .ref r=>match h.2[r]? with | some (.lst xs)=>U (.lst (iS xs l.1 h.1),h.2) | _=>Y
 | _=>Y
theorem rL{lo:Option Int}(r:Reps K μ H vs ds):Reps K μ H (By vs lo hi) (iS ds lo hi):=by
 unfold By iS
 rw[r.length]
 exact(r.drop _).take _
theorem OI:SlR X (λx lo hi H Q=>∃ a xs,x=.ref a/\lv X.K H a xs/\(HT.eK xs.length 0 lo=0/\HT.eK xs.length xs.length hi=xs.length)/\Q (.ref a) H):=by
 intro pins s σ H x v vl vu lo hi sl Q I rx hs pl pu h
 obtain⟨a,xs,rfl,hx,hw,q⟩:=h
 cases rx
 obtain⟨its,r,ht,hz⟩:=I.tuple hx
 have hlen:its.toArray.size=xs.length:=by rw[Xg];exact r.length.symm
 refine⟨"tuple",_,PyProof.Rows.slot_tuple_getitem.lookup,ht.typeIs,?_⟩
 exact HT.mS ht hs pl pu (by rw[hlen];exact hw) ⟨.ref a,H,I,rfl,q⟩
theorem NB{lo:Option tx}(ha:DE X a ma)(hl:DO X lo ml)(hh:DO X hi mh):DE X (.Subscript a (.Slice lo hi Y p2) pos) (cn ma ml mh):=
 PE.imp (Kc (SlR.or OI (SlR.or TC OJ)) ha hl hh) λσ H Q z0=>by
  obtain⟨μ,S,env,d,S',hS,hE,hm,post⟩:=z0
  obtain⟨⟨x,S1⟩,h1,hm⟩:=Xc.mp hm
  obtain⟨⟨l,S2⟩,h2,hm⟩:=Xc.mp hm
  obtain⟨⟨h,S3⟩,h3,hm⟩:=Xc.mp hm
  refine⟨μ,S,env,x,S1,hS,hE,h1,λv H1 μ1 e1 s1 r1=>⟨μ1,S1,env,l,S2,s1,hE.mono e1,h2,λH2 μ2 e2 s2=>⟨μ2,S2,env,h,S3,s2,(hE.mono e1).mono e2,h3,λH3 μ3 e3 s3=>?_⟩⟩⟩
  have r3:=(r1.mono e2).mono e3
  have e:=(e1.trans e2).trans e3
  cases x with
  | tup xs=>
   cases hm
   have r3':=r3
   obtain⟨a,vs,rfl,q1,r⟩:=r3.sqT
   by_cases hw:HT.eK vs.length 0 l=0/\HT.eK vs.length vs.length h=vs.length
   ·refine .inl ⟨a,vs,rfl,q1,hw,?_⟩
    have:iS xs l h=xs:=by unfold iS;rw[<- r.length,hw.1,hw.2];simp[r.length]
    rw[this] at post
    exact post _ H3 μ3 e s3 r3'
   ·exact .inr (.inl ⟨a,vs,rfl,q1,hw,λp hp=>(post.ext e).tup s3 hp (rL r)⟩)
  | lst xs=>
   cases hm
   obtain⟨a,vs,rfl,q1,n1,r⟩:=r3.sqL
   exact .inr (.inr ⟨a,vs,rfl,.inl (.inl q1),λp hp=>(post.ext e).lst s3 hp (rL r)⟩)
  | rol xs=>
   cases hm
   obtain⟨a,vs,rfl,q1,r⟩:=r3.sqR
   exact .inr (.inr ⟨a,vs,rfl,q1,λp hp=>(post.ext e).lst s3 hp (rL r)⟩)
  | ref r=>
   dsimp only at hm
   split at hm
   ·rename_i xs q
    cases hm
    cases r3 with
    | @ref a _ ha=>
     obtain⟨vs,hv,rv⟩:=s3.cell r a _ ha q
     exact .inr (.inr ⟨a,vs,rfl,.inl (.inl hv),λp hp=>(post.ext e).lst s3 hp (rL rv)⟩)
   ·cases hm
  | _=>cases hm
end
section
variable{X:Cx}{K:QF}{μ μ':Fp}{H H':Hp}{S:aa}
def bo(f:List D->aa->Option (D×aa))(ms:MA):ME:=λenv S=>(ms env S).bind λp=>f p.1 p.2
theorem Jm(h:tM K (bo f ms) σ H Q):tCB (GJ K f) (tMA K ms) σ H Q:=by
 obtain⟨μ,S,env,d,S',hS,hE,hm,post⟩:=h
 obtain⟨⟨xs,S1⟩,h1,hm⟩:=Xc.mp hm
 exact⟨μ,S,env,xs,S1,hS,hE,h1,λvs H1 μ1 e1 s1 r1=>⟨μ1,S1,xs,d,S',s1,r1,hm,post.ext e1⟩⟩
section
variable{x:Str}{p pos:Pos}{e:tx}{es:List tx}{ms:MA}{id T:String}{f:List D->aa->Option (D×aa)}
theorem pv(hc:CallR X (.builtin id) (GJ X.K f))(hm:X.mg x=Y)(hv:bootBuiltins x=U (.builtin id))(ha:DA X (e::es) ms)(hg:Gl X x:=by rfl)(hn:x≠"__name__":=by decide)(hdb:(x==("__debug__":Str))=false:=by decide)
  (he:KZ (e::es) X.env=(false,eval e X.env)::KZ es X.env:=by rfl) (hpl:(backTo pos (KZ es X.env)).any (·.1)=false:=by rfl):DE X (.Call (.Name x p) (e::es) [] pos) (bo f ms):=
 PE.imp (oD hc hg hm hv ha hn hdb he hpl) λ_ _ _ h=>Jm h
theorem qg(hc:CallR X (.type T) (GJ X.K f))(hm:X.mg x=Y)(hv:bootBuiltins x=U (.type T))(ha:DA X (e::es) ms)(hg:Gl X x:=by rfl)(hn:x≠"__name__":=by decide)(hdb:(x==("__debug__":Str))=false:=by decide)
  (he:KZ (e::es) X.env=(false,eval e X.env)::KZ es X.env:=by rfl) (hpl:(backTo pos (KZ es X.env)).any (·.1)=false:=by rfl):DE X (.Call (.Name x p) (e::es) [] pos) (bo f ms):=
 PE.imp (GP hc hg hm hv ha hn hdb he hpl) λ_ _ _ h=>Jm h
end
theorem Reps.one{d:D}(r:Reps K μ H vs [d]):∃ v,vs=[v]/\Rep K μ H v d:=by
 cases r with
 | cons h t=>cases t;exact⟨_,rfl,h⟩
theorem Reps.two{d e:D}(r:Reps K μ H vs [d,e]):∃ v w,vs=[v,w]/\Rep K μ H v d/\Rep K μ H w e:=by
 cases r with
 | cons h t=>cases t with | cons h' t=>cases t;exact⟨_,_,rfl,h,h'⟩
def aI(f:aa->List D->Option D):List D->aa->Option (D×aa):=λds S=>(f S ds).bind λd=>U (d,S)
theorem dq{S S':aa}{d:D}(h:aI f ds S=U (d,S')):S'=S/\f S ds=U d:=by
 obtain⟨z,h1,h⟩:=Xc.mp h
 cases h
 exact⟨rfl,h1⟩
def eQ(S:aa):List D->Option D
 | [.str z]=>if z.length<=KY then U (.int z.length) else Y
 | [d]=>(fO S d).bind λxs=>U (.int xs.length)
 | _=>Y
theorem NV:CallR X (.builtin "len") (GJ X.K (aI eQ)):=CallR.imp (call_len_seq.or yQ) λxs H Q z0=>by
 obtain⟨μ,S,ds,d,S',hS,hr,hm,post⟩:=z0
 obtain⟨rfl,hm⟩:=dq hm
 match ds,hr,hm with
 | [D.str z],hr,hm=>
  obtain⟨v,rfl,r⟩:=hr.one
  simp only[eQ] at hm
  split at hm
  ·rename_i hl;cases hm;exact .inr ⟨z,by rw[r.str_inv],hl,post.here hS (.int _)⟩
  ·cases hm
 | [D.non],hr,hm=>cases hm
 | [D.bl _],hr,hm=>cases hm
 | [D.int _],hr,hm=>cases hm
 | [D.dct _ _],hr,hm=>cases hm
 | [D.tup xs],hr,hm=>
  obtain⟨v,rfl,r⟩:=hr.one
  cases hm
  obtain⟨a,vs,rfl,hq,r⟩:=iZ hS r rfl
  exact .inl ⟨a,vs,rfl,hq,by rw[r.length];exact post.here hS (.int _)⟩
 | [D.lst xs],hr,hm=>
  obtain⟨v,rfl,r⟩:=hr.one
  cases hm
  obtain⟨a,vs,rfl,hq,r⟩:=iZ hS r rfl
  exact .inl ⟨a,vs,rfl,hq,by rw[r.length];exact post.here hS (.int _)⟩
 | [D.rol xs],hr,hm=>
  obtain⟨v,rfl,r⟩:=hr.one
  cases hm
  obtain⟨a,vs,rfl,hq,r⟩:=iZ hS r rfl
  exact .inl ⟨a,vs,rfl,hq,by rw[r.length];exact post.here hS (.int _)⟩
 | [D.ref i],hr,hm=>
  obtain⟨v,rfl,r⟩:=hr.one
  obtain⟨xs,h1,hm⟩:=Xc.mp hm
  cases hm
  obtain⟨a,vs,rfl,hq,r⟩:=iZ hS r h1
  exact .inl ⟨a,vs,rfl,hq,by rw[r.length];exact post.here hS (.int _)⟩
 | [],hr,hm=>cases hm
 | a::b::c,hr,hm=>simp[eQ] at hm
def jP(S:aa):List D->Option D
 | [.int i]=>U (.int i)
 | [.bl k]=>U (.int (if k then 1 else 0))
 | _=>Y
theorem NW:CallR X (.type "int") (GJ X.K (aI jP)):=CallR.imp IF λxs H Q z0=>by
 obtain⟨μ,S,ds,d,S',hS,hr,hm,post⟩:=z0
 obtain⟨rfl,hm⟩:=dq hm
 match ds,hr,hm with
 | [D.int i],hr,hm=>obtain⟨v,rfl,r⟩:=hr.one;cases hm;exact .inl ⟨i,by rw[r.int_inv],post.here hS (.int _)⟩
 | [D.bl k],hr,hm=>obtain⟨v,rfl,r⟩:=hr.one;cases hm;exact .inr ⟨k,by rw[r.bl_inv],post.here hS (.int _)⟩
 | [D.non],hr,hm=>cases hm
 | [D.str _],hr,hm=>cases hm
 | [D.dct _ _],hr,hm=>cases hm
 | [D.tup _],hr,hm=>cases hm
 | [D.lst _],hr,hm=>cases hm
 | [D.rol _],hr,hm=>cases hm
 | [D.ref _],hr,hm=>cases hm
 | [],hr,hm=>cases hm
 | a::b::c,hr,hm=>simp[jP] at hm
def SM(S:aa):List D->Option D
 | [.int i,.int j]=>U (.int (if j>i then j else i))
 | _=>Y
def Mk(S:aa):List D->Option D
 | [.int i,.int j]=>U (.int (if j<i then j else i))
 | _=>Y
theorem SF{ds:List D}{f:Int->Int->D}{d:D}(h:(match ds with | [.int i,.int j]=>U (f i j) | _=>Y)=U d):∃ i j,ds=[.int i,.int j]/\d=f i j:=by
 split at h
 ·cases h;exact⟨_,_,rfl,rfl⟩
 ·cases h
theorem IJ(hc:X.calm=true):CallR X (.builtin "max") (GJ X.K (aI SM)):=CallR.imp (IE hc) λxs H Q z0=>by
 obtain⟨μ,S,ds,d,S',hS,hr,hm,post⟩:=z0
 obtain⟨rfl,hm⟩:=dq hm
 obtain⟨i,j,rfl,rfl⟩:=SF (f:=λi j=>.int (if j>i then j else i)) hm
 obtain⟨v,w,rfl,r1,r2⟩:=hr.two
 exact⟨i,j,by rw[r1.int_inv,r2.int_inv],post.here hS (.int _)⟩
theorem IH(hc:X.calm=true):CallR X (.builtin "min") (GJ X.K (aI Mk)):=CallR.imp (IC hc) λxs H Q z0=>by
 obtain⟨μ,S,ds,d,S',hS,hr,hm,post⟩:=z0
 obtain⟨rfl,hm⟩:=dq hm
 obtain⟨i,j,rfl,rfl⟩:=SF (f:=λi j=>.int (if j<i then j else i)) hm
 obtain⟨v,w,rfl,r1,r2⟩:=hr.two
 exact⟨i,j,by rw[r1.int_inv,r2.int_inv],post.here hS (.int _)⟩
def cD(c:List D->D)(S:aa):List D->Option D
 | [d]=>(fO S d).bind λxs=>U (c xs)
 | _=>Y
theorem tQ{S:aa}{d:D}(h:cD c S ds=U d):∃ x xs,ds=[x]/\fO S x=U xs/\d=c xs:=by
 match ds,h with
 | [x],h=>
  obtain⟨xs,h1,h⟩:=Xc.mp h
  cases h
  exact⟨x,xs,rfl,h1,rfl⟩
 | [],h=>cases h
 | _::_::_,h=>cases h
theorem IK:CallR X (.type "list") (GJ X.K (aI (cD .lst))):=CallR.imp yP λxs H Q z0=>by
 obtain⟨μ,S,ds,d,S',hS,hr,hm,post⟩:=z0
 obtain⟨rfl,hm⟩:=dq hm
 obtain⟨x,ys,rfl,h1,rfl⟩:=tQ hm
 obtain⟨v,rfl,r⟩:=hr.one
 obtain⟨a,vs,rfl,hq,r⟩:=iZ hS r h1
 exact⟨a,vs,rfl,hq,λl hl=>post.lst hS hl r⟩
theorem nY:CallR X (.type "tuple") (GJ X.K (aI (cD .tup))):=CallR.imp vi λxs H Q z0=>by
 obtain⟨μ,S,ds,d,S',hS,hr,hm,post⟩:=z0
 obtain⟨rfl,hm⟩:=dq hm
 obtain⟨x,ys,rfl,h1,rfl⟩:=tQ hm
 obtain⟨v,rfl,r⟩:=hr.one
 cases x with
 | tup zs=>
  cases h1
  have r':=r
  obtain⟨a,vs,rfl,q,r⟩:=r.sqT
  exact⟨a,vs,rfl,.inr ⟨q,post.here hS r'⟩⟩
 | lst zs=>
  cases h1
  obtain⟨a,vs,rfl,q,n,r⟩:=r.sqL
  exact⟨a,vs,rfl,.inl ⟨.inl (.inl q),λl hl=>post.tup hS hl r⟩⟩
 | rol zs=>
  cases h1
  obtain⟨a,vs,rfl,q,r⟩:=r.sqR
  exact⟨a,vs,rfl,.inl ⟨q,λl hl=>post.tup hS hl r⟩⟩
 | ref i=>
  simp only[fO] at h1
  cases r with
  | @ref a _ h'=>
   cases q:S'[i]? with
   | none=>rw[q] at h1;cases h1
   | some c=>
    rw[q] at h1
    have ck:=hS.cell i a c h' q
    cases c with
    | lst xs=>cases h1;obtain⟨vs,e,r⟩:=ck;exact⟨a,vs,rfl,.inl ⟨.inl (.inl e),λl hl=>post.tup hS hl r⟩⟩
    | dct ks xs=>cases h1
    | deep ks xs=>cases h1
 | _=>cases h1
def kW:List D->Option (List Bool)
 | []=>U []
 | .bl b::r=>(kW r).bind λbs=>U (b::bs)
 | _=>Y
def yA(S:aa):List D->Option D
 | [.lst xs]=>(kW xs).bind λbs=>U (.bl (bs.all id))
 | _=>Y
theorem qJ:∀ {vs:List V} {ds:List D} {us:List bd} {bs:List Bool},Reps K μ H vs ds->Vals vs us->kW ds=U bs->LSm.BoolsAre us bs
 | _,_,_,_,.nil,.nil,h=>by cases h;exact .nil
 | _,_,_,_,.cons (d:=d) r t,.cons rv tv,h=>by
  cases d<;>first | cases h | skip
  obtain⟨cs,h1,h⟩:=Xc.mp h
  cases h
  cases r;cases rv
  exact .cons _ (qJ t tv h1)
theorem NY(hc:X.calm=true):CallR X (.builtin "all") (GJ X.K (aI yA)):=by
 intro pins s σ H xs us Q I rv h
 obtain⟨μ,S,ds,d,S',hS,hr,hm,post⟩:=h
 obtain⟨rfl,hm⟩:=dq hm
 match ds,hr,hm with
 | [D.lst zs],hr,hm=>
  obtain⟨v,rfl,r⟩:=hr.one
  obtain⟨bs,h1,hm⟩:=Xc.mp hm
  cases hm
  obtain⟨u,rfl,ru⟩:=oq rv
  obtain⟨a,vs,rfl,q,n,r⟩:=r.sqL
  cases ru
  obtain⟨its,rv',pl,hz⟩:=I.list (.inl (.inl q))
  have hl:=pl.isList
  have hb:=qJ r rv' h1
  have hlt:a<s.heap.objs.size:=by obtain⟨_,e,_⟩:=hl;exact Xo e
  refine call_all_walk (aam hl ?_)
  refine⟨s.heap.objs.size,[s.heap.objs.size,a],[s.heap.objs.size],its.toArray.size,_,_,λi=>(bs[i]?).getD true,rfl,Walks.list (A:=X.A.in1) (I.ok.hd hc) _ a (XT hlt) its.toArray,
   ⟨⟨_,Xr _ rfl,rfl,rfl⟩,hl.push _⟩,λi v s' Q' E' hP hQ=>?_,λh' tk hk=>?_⟩
  ·obtain⟨b,e,rfl⟩:=hb.get i v (by simpa using hP)
   simp only[e,Option.getD_some] at hQ
   exact aak hQ
  ·have e:((List.range its.toArray.size).all λi=>(bs[i]?).getD true)=bs.all id:=by
    rw[Xg,hb.length];exact LSm.range_all bs
   rw[e]
   exact⟨.bl _,H,I.kept (LSm.kept_iter hk),rfl,post.here hS (.bl _)⟩
 | [D.non],hr,hm=>cases hm
 | [D.bl _],hr,hm=>cases hm
 | [D.int _],hr,hm=>cases hm
 | [D.str _],hr,hm=>cases hm
 | [D.dct _ _],hr,hm=>cases hm
 | [D.tup _],hr,hm=>cases hm
 | [D.rol _],hr,hm=>cases hm
 | [D.ref _],hr,hm=>cases hm
 | [],hr,hm=>cases hm
 | a::b::c,hr,hm=>simp[yA] at hm
def tyD(S:aa):D->Option String
 | .non=>U "NoneType"
 | .bl _=>U "bool"
 | .int _=>U "int"
 | .str _=>U "str"
 | .tup _=>U "tuple"
 | .lst _=>U "list"
 | .rol _=>U "list"
 | .dct _ _=>U "dict"
 | .ref r=>match S[r]? with | some (.lst _)=>U "list" | some (.dct _ _)=>U "dict" | _=>Y
 | .txt=>U "str"
 | .obj=>U "dict"
 | .exc _=>Y
 | .fn _=>Y
def LK(T:String)(t:String):Bool:=t==T||(t=="bool"&&T=="int")
def lu(T:String)(S:aa)(d:D):Option D:=(tyD S d).bind λt=>U (.bl (LK T t))
def fg(T:String)(m:ME):ME:=λenv S=>(m env S).bind λp=>(lu T p.2 p.1).bind λd=>U (d,p.2)
theorem Go{S:aa}{d:D}{t:String}(h:tyD S d=U t):t = "NoneType"\/t = "bool"\/t = "int"\/t = "str"\/t = "tuple"\/t = "list"\/t = "dict":=by
 cases d<;>simp only[tyD] at h<;>first | (cases h;simp) | (split at h<;>first | (cases h;simp) | cases h) | cases h
theorem Qc(K:QF){T t:String}(hT:T = "int"\/T = "bool"\/T = "str"\/T = "tuple"\/T = "list"\/T = "dict")(ht:t = "NoneType"\/t = "bool"\/t = "int"\/t = "str"\/t = "tuple"\/t = "list"\/t = "dict") :
  W.kitOne K (.type t) (.type T)=U (LK T t):=by
 rcases hT with rfl | rfl | rfl | rfl | rfl | rfl<;>rcases ht with rfl | rfl | rfl | rfl | rfl | rfl | rfl<;>rfl
theorem kia_D{s:gV}{d:D}{t:String}{b:Bool}{Q:bd->gV->Prop}(I:Inv X pins σ H s)(hS:SOk X.K μ S H)(r:Rep X.K μ H v d)(ru:RelV v u)(ht:tyD S d=U t)
  (e:W.kitOne X.K (.type t) c=U b) (h:∀ tk,Q (.bool b) { s with toks:=tk }):Qs (model X.prog X.w) X.A (call (.builtin "isinstance") [u,c]) Q E s:=by
 have tupK:∀ {a:td} {vs:List V},lv X.K H a vs->W.KitAt a "tuple" s.heap:=λ{a vs} q=>by
  obtain⟨its,_,⟨o,h1,h2,_⟩,_⟩:=I.tuple q;exact⟨o,h1,h2⟩
 have lstK:∀ {a:td} {vs:List V},mT X.K H a vs->W.KitAt a "list" s.heap:=λ{a vs} q=>by
  obtain⟨its,_,⟨o,n,h1,h2,_⟩,_⟩:=I.list q;exact⟨o,h1,h2⟩
 have dK:∀ {a:td} {kvs:List (bC×V)},H a=U (.dK kvs)->W.KitAt a "dict" s.heap:=λ{a kvs} q=>by
  obtain⟨_,_,vs,_,p⟩:=(show ObjOk X.prog X.w H s.heap a (.dK kvs) from I.hok a _ q)
  obtain⟨o,es,ep,h1,h2,_⟩:=p
  exact⟨o,h1,h2.1⟩
 cases r with
 | non=>cases ht;cases ru;exact YL W.kitx_none I.kIn True.intro e (λz=>nomatch z) h
 | bl y=>cases ht;cases ru;exact YL W.kitx_bool I.kIn True.intro e (λz=>nomatch z) h
 | int i=>cases ht;obtain⟨t,rfl⟩:=ru;exact YL W.kitx_int I.kIn True.intro e (λz=>nomatch z) h
 | str y=>cases ht;obtain⟨t,rfl⟩:=ru;exact YL W.kitx_str I.kIn True.intro e (λz=>nomatch z) h
 | tup q n r=>cases ht;cases ru;exact YL W.kitx_tuple I.kIn (tupK (.inl (.inl q))) e (λz=>nomatch z) h
 | ktup q r=>cases ht;cases ru;exact YL W.kitx_tuple I.kIn (tupK (.inr q)) e (λz=>nomatch z) h
 | lst q n r=>cases ht;cases ru;exact YL aaN I.kIn (lstK (.inl (.inl q))) e (λz=>nomatch z) h
 | rol q n r=>cases ht;cases ru;exact YL aaN I.kIn (lstK (.inl q)) e (λz=>nomatch z) h
 | krol q r=>cases ht;cases ru;exact YL aaN I.kIn (lstK (.inr q)) e (λz=>nomatch z) h
 | dct q n r=>cases ht;cases ru;exact YL abD I.kIn (dK q) e (λz=>nomatch z) h
 | txt y=>cases ht;obtain⟨t,rfl⟩:=ru;exact YL W.kitx_str I.kIn True.intro e (λz=>nomatch z) h
 | obj q n=>cases ht;cases ru;exact YL abD I.kIn ((show ObjOk X.prog X.w H s.heap _ (.ext (SE _)) from I.hok _ _ q).1) e (λz=>nomatch z) h
 | exc q n=>cases ht
 | fn a=>cases ht
 | @ref a i h'=>
  cases ru
  simp only[tyD] at ht
  cases q:S[i]? with
  | none=>rw[q] at ht;cases ht
  | some c'=>
   rw[q] at ht
   have ck:=hS.cell i a c' h' q
   cases c' with
   | lst xs=>cases ht;obtain⟨vs,q,r⟩:=ck;exact YL aaN I.kIn (lstK (.inl (.inl q))) e (λz=>nomatch z) h
   | dct ks xs=>cases ht;obtain⟨kvs,q,r⟩:=ck;exact YL abD I.kIn (dK q) e (λz=>nomatch z) h
   | deep ks xs=>cases ht
theorem Ip{p:Pos}(hm:X.mg "isinstance" = Y)(hmT:X.mg x=Y)(hb:bootBuiltins x=U (.type T))(ha:DE X a ma)
  (hT:T = "int"\/T = "bool"\/T = "str"\/T = "tuple"\/T = "list"\/T = "dict":=by simp)
  (hg:Gl X "isinstance":=by rfl) (hgT:Gl X x:=by rfl) (hn:x≠"__name__":=by decide) (hd:(x==("__debug__":Str))=false:=by decide)
  (hs1:KZ [a,.Name x p2] X.env=(false,eval a X.env)::KZ [.Name x p2] X.env:=by rfl) (hs2:KZ [.Name x p2] X.env=(false,eval (.Name x p2) X.env)::KZ [] X.env:=by rfl) (hpl:(backTo pos (KZ [.Name x p2] X.env)).any (·.1)=false:=by rfl) :
  DE X (.Call (.Name "isinstance" p) [a,.Name x p2] [] pos) (fg T ma):=by
 have hc:CallR X (.builtin "isinstance") (λvs H Q=>∃ v μ S d t,vs=[v,.ty T]/\SOk X.K μ S H/\Rep X.K μ H v d/\tyD S d=U t/\Q (.bl (LK T t)) H):=by
  intro pins s σ H xs us Q I rv h
  obtain⟨v,μ,S,d,t,rfl,hS,r,ht,q⟩:=h
  obtain⟨u,w',rfl,r1,r2⟩:=zh rv
  cases r2
  exact kia_D I hS r r1 ht (Qc _ hT (Go ht)) λtk=>⟨.bl _,H,I.tok _,rfl,q⟩
 refine PE.imp (oD hc hg hm aaM (ja ha (ja (EA (v:=.ty T) hgT hmT hb rfl hn hd) sk hs2) hs1) (by decide) (by decide) hs1 hpl) λσ H Q ⟨μ,S,env,d,S',hS,hE,hm,post⟩=>?_
 obtain⟨⟨x,S1⟩,h1,hm⟩:=Xc.mp hm
 obtain⟨z,h2,hm⟩:=Xc.mp hm
 cases hm
 obtain⟨t,h3,h2⟩:=Xc.mp h2
 cases h2
 exact⟨μ,S,env,x,S1,hS,hE,h1,λv H1 μ1 e1 s1 r1=>⟨v,μ1,S1,x,t,rfl,s1,r1,h3,post _ H1 μ1 e1 s1 (.bl _)⟩⟩
end
section
variable{X:Cx}{K:QF}{μ μ':Fp}{H H':Hp}{S:aa}
def Jy(K:QF)(n:Nat)(f:List D->aa->Option (D×aa)):Sp:=λvs H Q _=>∃ μ S ds d S',SOk K μ S H/\Reps K μ H vs ds/\ds.length=n/\f ds S=U (d,S')/\Post K μ H S' d Q
structure Fn(P:vx)(w:Gs)(K:QF)(mg:Str->Option bd)(base:Jq)(k:Nat)(x:Str)(n:Nat)(f:List D->aa->Option (D×aa)):Prop where
 ex:∃ (a:td) (fd:FuncData) (ps:List Str),ps.length=n/\FnOk P w K mg base Gj k a fd ps (Jy K n f)/\mg x=U (.ref a)/\W.keepIn K (.ref a)=true/\Binds K fd ps []
def ao(n:Nat)(f:List D->aa->Option (D×aa))(ms:MA):ME:=λenv S=>(ms env S).bind λp=>if p.1.length=n then f p.1 p.2 else Y
theorem zp(h:tM K (ao n f ms) σ H Q):zq (Jy K n f) [] E0 (tMA K ms) σ H Q:=by
 obtain⟨μ,S,env,d,S',hS,hE,hm,post⟩:=h
 obtain⟨⟨xs,S1⟩,h1,hm⟩:=Xc.mp hm
 dsimp only at hm
 split at hm
 ·rename_i hn
  refine⟨μ,S,env,xs,S1,hS,hE,h1,λvs H1 μ1 e1 s1 r1=>?_⟩
  show Jy K n f (vs++[]) H1 Q E0
  rw[XW]
  exact⟨μ1,S1,xs,d,S',s1,r1,hn,hm,post.ext e1⟩
 ·cases hm
theorem Ru{k:Nat}{e:tx}{es:List tx}(F:Fn X.prog X.w X.K X.mg X.base k x n f)(hr:Room k X.A)(ha:DA X (e::es) ms)(hg:Gl X x:=by rfl)
  (hdb:(x==("__debug__":Str))=false:=by decide) (he:KZ (e::es) X.env=(false,eval e X.env)::KZ es X.env:=by rfl) (hpl:(backTo pos (KZ es X.env)).any (·.1)=false:=by rfl) :
  DE X (.Call (.Name x p) (e::es) [] pos) (ao n f ms):=by
 obtain⟨a,fd,ps,hn,F,hm,hk,hb⟩:=F.ex
 exact PE.imp (Ps F hr hg hm hk hb .nil Kl ha hdb he hpl) λ_ _ _ h=>zp h
theorem NI{k:Nat}(F:Fn X.prog X.w X.K X.mg X.base k x 0 f)(hr:Room k X.A)(hg:Gl X x:=by rfl)
  (hdb:(x==("__debug__":Str))=false:=by decide):DE X (.Call (.Name x p) [] [] pos) (ao 0 f ai):=by
 obtain⟨a,fd,ps,hn,F,hm,hk,hb⟩:=F.ex
 refine PE.imp (Kj F hr hg hm hk hb .nil Kl hdb) λσ H Q h=>?_
 obtain⟨μ,S,env,d,S',hS,hE,hm,post⟩:=h
 exact⟨μ,S,[],d,S',hS,.nil,rfl,hm,post⟩
mutual
def pz(n:Nat):D->Bool
 | .tup xs=>closDs n xs
 | .lst xs=>closDs n xs
 | .rol xs=>closDs n xs
 | .dct _ xs=>closDs n xs
 | .ref r=>decide (r<n)
 | _=>true
def closDs(n:Nat):List D->Bool
 | []=>true
 | d::ds=>pz n d&&closDs n ds
end
def wB(n:Nat):Cell->Bool
 | .lst xs=>closDs n xs
 | .dct _ xs=>closDs n xs
 | .deep ks xs=>closDs n (dkDs ks)&&closDs n xs
theorem nW:∀ {ds:List D},closDs n ds=true->∀ d∈ds,pz n d=true
 | _::_,c,_,.head _=>(Xk _ _ |>.mp c).1
 | _::_,c,_,.tail _ h=>nW (Xk _ _ |>.mp c).2 _ h
theorem Rep.trunc{cs l fb:List td}{d:D}(r:Rep K ⟨cs++l,fb⟩ H v d)(c:pz cs.length d=true):Rep K ⟨cs,fb⟩ H v d:=
 Rep.to (μ:=⟨cs++l,fb⟩) (μ':=⟨cs,fb⟩) (P:=λd=>pz cs.length d=true) (λd c x hx=>by cases d<;>first | (cases hx;done) | exact nW c x hx) (λh n=>⟨h,λz=>n.1 (Yd _ z),n.2⟩) (λc (h:(cs++l)[_]?=U _)=>by rw[Xv (XV c)] at h;exact h) r c
theorem Reps.trunc{cs l fb:List td}(r:Reps K ⟨cs++l,fb⟩ H vs ds)(c:closDs cs.length ds=true):Reps K ⟨cs,fb⟩ H vs ds:=Reps.to (μ:=⟨cs++l,fb⟩) (μ':=⟨cs,fb⟩) (P:=λd=>pz cs.length d=true) (λr c=>r.trunc c) r (nW c)
theorem Rep.closed{d:D}(r:Rep K μ H v d):pz μ.cs.length d=true:=
 Rep.rec (motive_1:=λ_ d _=>pz μ.cs.length d=true) (motive_2:=λ_ ds _=>closDs μ.cs.length ds=true) rfl (λ_=>rfl) (λ_=>rfl) (λ_=>rfl) (λ_ _ _ i=>i) (λ_ _ i=>i) (λ_ _ _ i=>i) (λ_ _ _ i=>i) (λ_ _ i=>i) (λ_ _ _ i=>i) (λh=>Xs (Xe.mp h).1) (λ_=>rfl) (λ_ _=>rfl) (λ_ _=>rfl) (λ_=>rfl) rfl (λ_ _ i j=>by rw[closDs,i,j];rfl) r
theorem Reps.closed:∀ {vs:List V} {ds:List D},Reps K μ H vs ds->closDs μ.cs.length ds=true
 | _,_,.nil=>rfl
 | _,_,.cons h t=>by rw[closDs,Rep.closed h,Reps.closed t];rfl
theorem SOk.closed(s:SOk K μ S H):∀ c∈S,wB S.length c=true:=λc hc=>by
 obtain⟨r,hr⟩:=ZQ.mp hc
 have hl:=(Xe.mp hr).1
 have hl':r < μ.cs.length:=by rw[s.len];exact hl
 have:=s.cell r _ c (Xl hl') hr
 cases c with
 | lst ds=>obtain⟨vs,_,q⟩:=this;rw[<- s.len];exact q.closed
 | dct ks ds=>obtain⟨vs,_,_,q⟩:=this;rw[<- s.len];exact q.closed
 | deep ks ds=>obtain⟨vs,_,_,q,q'⟩:=this;rw[<- s.len];exact abx.mpr ⟨q.closed,q'.closed⟩
theorem SOk.trunc{S' g:aa}(s:SOk K μ (S'++g) H)(hc:∀ c∈S',wB S'.length c=true):∃ cs l,μ.cs=cs++l/\cs.length=S'.length/\SOk K ⟨cs,μ.fb⟩ S' H:=by
 obtain⟨cs0,fb⟩:=μ
 have hlen:cs0.length=S'.length+g.length:=by have:=s.len;simpa using this
 have hcl:(cs0.take S'.length).length=S'.length:=by rw[Yf];omega
 refine⟨cs0.take S'.length,cs0.drop S'.length,(Zu _ _).symm,hcl,s.nd.sublist (List.take_sublist _ _),hcl,λr a c h1 h2=>?_,s.fdom,λa ha z=>s.disj a ha (Yc z)⟩
 have hr:=(Xe.mp h2).1
 have h1':cs0[r]?=U a:=by
  have h1:(cs0.take S'.length)[r]?=U a:=h1
  rwa[abb hr] at h1
 have ck:=s.cell r a c h1' (by rw[Xv hr];exact h2)
 have cc:=hc c (Xz h2)
 have e:cs0=cs0.take S'.length++cs0.drop S'.length:=(Zu _ _).symm
 cases c with
 | lst ds=>
  obtain⟨vs,q,r⟩:=ck
  have r':Reps K ⟨cs0.take S'.length++cs0.drop S'.length,fb⟩ H vs ds:=by rw[<- e];exact r
  exact⟨vs,q,r'.trunc (by rw[hcl];exact cc)⟩
 | dct ks ds=>
  obtain⟨vs,q,q2,r⟩:=ck
  have r':Reps K ⟨cs0.take S'.length++cs0.drop S'.length,fb⟩ H (vs.map (·.2)) ds:=by rw[<- e];exact r
  exact⟨vs,q,q2,r'.trunc (by rw[hcl];exact cc)⟩
 | deep ks ds=>
  obtain⟨vs,q,q2,r,u⟩:=ck
  have cc:=abx.mp cc
  have r':Reps K ⟨cs0.take S'.length++cs0.drop S'.length,fb⟩ H (vs.map λp=>.ref p.2.1) (dkDs ks):=by rw[<- e];exact r
  have u':Reps K ⟨cs0.take S'.length++cs0.drop S'.length,fb⟩ H (vs.map (·.2.2)) ds:=by rw[<- e];exact u
  exact⟨vs,q,q2,r'.trunc (by rw[hcl];exact cc.1),u'.trunc (by rw[hcl];exact cc.2)⟩
theorem Post.trunc{g:aa}{d:D}(post:Post K μ H S' d Q)(hd:pz S'.length d=true)(hc:∀ c∈S',wB S'.length c=true)(hl:μ.cs.length<=S'.length):Post K μ H (S'++g) d Q:=λv H' μ' e s r=>by
 obtain⟨cs,l,q,hcl,s'⟩:=s.trunc hc
 obtain⟨cs',fb'⟩:=μ'
 have q':cs'=cs++l:=q
 subst q'
 refine post v H' ⟨cs,fb'⟩ ⟨e.fb,?_,e.keep,λa ha=>e.dom a (Yd _ ha)⟩ s' (r.trunc (by rw[hcl];exact hd))
 obtain⟨l0,q0,h0⟩:=e.pre
 have q0:cs++l = μ.cs++l0:=q0
 have hle:μ.cs.length<=cs.length:=by rw[hcl];exact hl
 refine⟨cs.drop μ.cs.length,?_,λa ha=>h0 a ?_⟩
 ·have t1:(cs++l).take μ.cs.length = μ.cs:=by rw[q0];simp
  rw[List.take_append_of_le_length hle] at t1
  show cs = μ.cs++cs.drop μ.cs.length
  conv=>lhs;rw[<- Zu μ.cs.length cs,t1]
 ·have t2:(cs++l).drop μ.cs.length=l0:=by rw[q0];simp
  rw[<- t2,List.drop_append_of_le_length hle]
  exact Yd _ ha
def Runs(m:MS)(env:aE)(S:aa)(d:D)(S':aa):Prop:=
 ∃ o g,m env S=U o/\(g=[]\/(pz S'.length d=true/\(∀ c∈S',wB S'.length c=true)/\S.length<=S'.length))/\(o=.rt d (S'++g)\/(d=.non/\∃ env',o=.nx env' (S'++g)))
theorem Runs.ret{m:MS}{d:D}(h:m env S=U (.rt d S')):Runs m env S d S':=⟨_,[],h,.inl rfl,.inl (by rw[XW])⟩
def bt(N:List Str)(ds:List D):aE:=ds.map U++Si (N.length - ds.length) Y
theorem SJ{k:Nat}{st:He}{f:List D->aa->Option (D×aa)}
  (F:L2.Fun K x qual st a fd) (Sc:aN N ps (ar st))
  (hbody:∀ (cdv:bd) (A:IN) (outer:List PySem.Env) (s:gV) (H:Hp) (E:XK),Room k (A.deeper (envOfC qual (ar st) s.heap.objs.size a cdv)) ->
   ∃ m,vj (qW Gj P w K mg base N qual (ar st) a cdv A outer s H E).nox (aD st) m/\∀ ds S d S',ds.length=ps.length->(∀ c∈S,wB S.length c=true)->closDs S.length ds=true->f ds S=U (d,S')->Runs m (bt N ds) S d S') :
  FnOk P w K mg base Gj (k+1) a fd ps (Jy K ps.length f):=by
 refine F.ok Sc (λvs H Q E h=>?_) (λcdv A outer s H vs Q E hr h=>?_)
 ·obtain⟨μ,S,ds,d,S',hS,hr,hn,hf,post⟩:=h
  rw[hr.length,hn]
 ·obtain⟨m,hm,run⟩:=hbody cdv A outer s H E hr
  refine⟨_,hm,?_⟩
  obtain⟨μ,S,ds,d,S',hS,hrp,hn,hf,post⟩:=h
  obtain⟨o,g,ho,hg,hend⟩:=run ds S d S' hn hS.closed (by rw[<- hS.len];exact hrp.closed) hf
  have post':Post K μ H (S'++g) d Q:=by
   rcases hg with rfl | ⟨c1,c2,c3⟩
   ·rw[XW];exact post
   ·exact post.trunc c1 c2 (by rw[hS.len];exact c3)
  have hEnv:EOk K μ H (L2.start N vs) (bt N ds):=by unfold L2.start bt;rw[hrp.length];exact EOk.start hrp
  rcases hend with rfl | ⟨rfl,env',rfl⟩
  ·exact⟨μ,S,_,_,hS,hEnv,ho,post'⟩
  ·exact⟨μ,S,_,_,hS,hEnv,ho,λσ' H' μ' e s' _=>post' .non H' μ' e s' .non⟩
theorem SL{mg:Str->Option bd}{k:Nat}{st:He}{f:List D->aa->Option (D×aa)}
  (F:L2.Fun K x qual st a fd) (Sc:aN N ps (ar st)) (hmg:mg x=U (.ref a)) (hb:Binds K fd ps [])
  (hbody:∀ (cdv:bd) (A:IN) (outer:List PySem.Env) (s:gV) (H:Hp) (E:XK),Room k (A.deeper (envOfC qual (ar st) s.heap.objs.size a cdv)) ->
   ∃ m,vj (qW Gj P w K mg base N qual (ar st) a cdv A outer s H E).nox (aD st) m/\∀ ds S d S',ds.length=ps.length->(∀ c∈S,wB S.length c=true)->closDs S.length ds=true->f ds S=U (d,S')->Runs m (bt N ds) S d S') :
  Fn P w K mg base (k+1) x ps.length f:=⟨a,fd,ps,rfl,SJ F Sc hbody,hmg,F.kp,hb⟩
end
section
variable{X:Cx}{K:QF}{μ μ':Fp}{H H':Hp}{S:aa}
theorem PostN.ext(e:Ext μ H μ' H')(p:PostN K μ H S' env' Q):PostN K μ' H' S' env' Q:=λσ2 H2 μ2 e2 s r=>p σ2 H2 μ2 (e.trans e2) s r
theorem PostS.ext(e:Ext μ H μ' H')(p:PostS K μ H o E):PostS K μ' H' o E:=by
 cases o with
 | nx env S=>exact PostN.ext e p
 | rt d S=>exact Post.ext e p
 | bk env S=>exact PostN.ext e p
 | ct env S=>exact PostN.ext e p
def aU:MS:=λenv S=>U (.nx env S)
def aB(a b:MS):MS:=λenv S=>(a env S).bind λo=>match o with | .nx env' S'=>b env' S' | o=>U o
theorem FP:vj X [] aU:=PSs.imp Pd λE σ H ⟨μ,S,env,o,hS,hE,hm,post⟩=>by cases hm;exact post σ H μ hS.ext hS hE
theorem OC(h:Tv K (aB a b) E σ H):tSeq (Tv K a) (Tv K b) E σ H:=by
 obtain⟨μ,S,env,o,hS,hE,hm,post⟩:=h
 obtain⟨o1,h1,hm⟩:=Xc.mp hm
 refine⟨μ,S,env,o1,hS,hE,h1,?_⟩
 cases o1 with
 | nx env' S'=>exact λσ' H' μ' e s r=>⟨μ',S',env',o,s,r,hm,post.ext e⟩
 | rt d S'=>cases hm;exact post
 | bk env' S'=>cases hm;exact post
 | ct env' S'=>cases hm;exact post
theorem Ng{st:He}(h1:DS X st a)(h2:vj X rest b):vj X (st::rest) (aB a b):=PSs.imp (sf h1 h2) λ_ _ _ h=>OC h
theorem FO{st:He}(h1:DS X st a):vj X [st] a:=xi h1
variable{pos:Pos}{e c:tx}{m:ME}{mt:MT}{a b:List He}{ma mb:MS}
theorem QW:DS X (.Pass pos) aU:=PS.imp Ph λE σ H ⟨μ,S,env,o,hS,hE,hm,post⟩=>by cases hm;exact post σ H μ hS.ext hS hE
theorem Nj:DS X (.Break pos) (λenv S=>U (.bk env S)):=PS.imp JW λE σ H ⟨μ,S,env,o,hS,hE,hm,post⟩=>by cases hm;exact post σ H μ hS.ext hS hE
theorem Bs:DS X (.Continue pos) (λenv S=>U (.ct env S)):=PS.imp zK λE σ H ⟨μ,S,env,o,hS,hE,hm,post⟩=>by cases hm;exact post σ H μ hS.ext hS hE
theorem Wb{x j p}:DS X (.Expr (.Constant (.str x) j p) pos) aU:=PS.imp TV λE σ H ⟨μ,S,env,o,hS,hE,hm,post⟩=>by cases hm;exact post σ H μ hS.ext hS hE
def bn(m:ME):MS:=λenv S=>(m env S).bind λp=>U (.rt p.1 p.2)
theorem VZ(he:DE X e m):DS X (.Return (U e) pos) (bn m):=PS.imp (JU he) λE σ H z0=>by
 obtain⟨μ,S,env,o,hS,hE,hm,post⟩:=z0
 obtain⟨⟨d,S1⟩,h1,hm⟩:=Xc.mp hm
 cases hm
 exact⟨μ,S,env,d,S1,hS,hE,h1,post⟩
theorem QV:DS X (.Return Y pos) (λ_ S=>U (.rt .non S)):=PS.imp Pf λE σ H ⟨μ,S,env,o,hS,hE,hm,post⟩=>by cases hm;exact Post.here post hS .non
def cR(m:ME):MS:=λenv S=>(m env S).bind λp=>U (.nx env p.2)
theorem QZ(he:DE X e m)(hs:swapsWith e Y pos.line X.env=pure false:=by rfl):DS X (.Expr e pos) (cR m):=PS.imp (Pi he hs) λE σ H z0=>by
 obtain⟨μ,S,env,o,hS,hE,hm,post⟩:=z0
 obtain⟨⟨d,S1⟩,h1,hm⟩:=Xc.mp hm
 cases hm
 exact⟨μ,S,env,d,S1,hS,hE,h1,λv H' μ' ex s r=>post σ H' μ' ex s (hE.mono ex)⟩
def bN(t:MT)(a b:MS):MS:=λenv S=>(t env S).bind λp=>if p.1=true then a env p.2 else b env p.2
theorem ds_if(hc:DT X c mt)(ha:vj X a ma)(hb:vj X b mb):DS X (.If c a b pos) (bN mt ma mb):=PS.imp (Sk hc ha hb) λE σ H z0=>by
 obtain⟨μ,S,env,o,hS,hE,hm,post⟩:=z0
 obtain⟨⟨k,S1⟩,h1,hm⟩:=Xc.mp hm
 refine⟨μ,S,env,k,S1,hS,hE,h1,λH1 μ1 e1 s1=>?_⟩
 cases k with
 | true=>rw[Xq rfl] at hm ⊢;exact⟨μ1,S1,env,o,s1,hE.mono e1,hm,post.ext e1⟩
 | false=>rw[if_neg Sn] at hm ⊢;exact⟨μ1,S1,env,o,s1,hE.mono e1,hm,post.ext e1⟩
noncomputable abbrev MG:=D->aE->aa->Option (aE×aa)
noncomputable abbrev uw:=List D->aE->aa->Option (aE×aa)
inductive Sd(K:QF)(g:MG)(v:V)(σ:L2.St)(H:Hp)(Q:L2.St->Hp->Prop):Prop
 | mk (μ:Fp) (S:aa) (env:aE) (d:D) (env':aE) (S':aa) (hS:SOk K μ S H) (hE:EOk K μ H σ env) (h1:Rep K μ H v d) (h:g d env S=U (env',S')) (post:PostN K μ H S' env' Q)
inductive tMGs(K:QF)(g:uw)(vs:List V)(σ:L2.St)(H:Hp)(Q:L2.St->Hp->Prop):Prop
 | mk (μ:Fp) (S:aa) (env:aE) (ds:List D) (env':aE) (S':aa) (hS:SOk K μ S H) (hE:EOk K μ H σ env) (h1:Reps K μ H vs ds) (h:g ds env S=U (env',S')) (post:PostN K μ H S' env' Q)
def DG(X:Cx)(tg:tx)(g:MG):Prop:=PG X tg (Sd X.K g)
def Xa(X:Cx)(tg:List tx)(g:uw):Prop:=PGs X tg (tMGs X.K g)
theorem PG.imp{t':TG}(h:PG X tg t)(i:∀ v σ H Q,t' v σ H Q->t v σ H Q):PG X tg t':=λpins s σ H v u Q I r q=>h pins s σ H v u Q I r (i v σ H Q q)
theorem PGs.imp{t':Tg}(h:PGs X tg t)(i:∀ v σ H Q,t' v σ H Q->t v σ H Q):PGs X tg t':=λpins s σ H v u Q I r q=>h pins s σ H v u Q I r (i v σ H Q q)
def ag(i:Nat):MG:=λd env S=>U (env.set i (U d),S)
theorem FR{i:Nat}{x:Str}(hN:X.N.Nodup)(hi:X.N[i]?=U x)(hx:Gi X.env.scope x)(hf:X.fn x=true\/X.env.scope.names.lookup x=U .local:=by first | exact .inl rfl | exact .inr rfl | assumption):DG X (.Name x pos) (ag i):=
 PG.imp (Po hN hi hx hf) λv σ H Q ⟨μ,S,env,d,env',S',hS,hE,hr,hm,post⟩=>by cases hm;exact post _ H μ hS.ext hS (hE.set hr i)
def aY:uw:=λds env S=>match ds with | []=>U (env,S) | _=>Y
def ah(g:MG)(gs:uw):uw:=λds env S=>match ds with | d::r=>(g d env S).bind λp=>gs r p.1 p.2 | []=>Y
theorem Rf:Xa X [] aY:=PGs.imp Pn λv σ H Q z0=>by
 obtain⟨μ,S,env,ds,env',S',hS,hE,hr,hm,post⟩:=z0
 cases hr with
 | nil=>cases hm;exact⟨rfl,post σ H μ hS.ext hS hE⟩
 | cons _ _=>cases hm
theorem Nv{t:tx}(h1:DG X t g)(h2:Xa X ts gs)(hs:(assignEach (t::ts) X.env).map (·.2)=assign t X.env::(assignEach ts X.env).map (·.2):=by rfl):Xa X (t::ts) (ah g gs):=
 PGs.imp (JY h1 h2 hs) λv σ H Q z0=>by
  obtain⟨μ,S,env,ds,env',S',hS,hE,hr,hm,post⟩:=z0
  cases hr with
  | nil=>cases hm
  | @cons v d vs ds h t=>
   obtain⟨⟨env1,S1⟩,h1,hm⟩:=Xc.mp hm
   exact⟨v,vs,rfl,μ,S,env,d,env1,S1,hS,hE,h,h1,λσ1 H1 μ1 e1 s1 r1=>⟨μ1,S1,env1,ds,env',S',s1,r1,t.mono e1,hm,post.ext e1⟩⟩
def bi(n:Nat)(gs:uw):MG:=λd env S=>match d with | .tup xs=>if xs.length=n then gs xs env S else Y | _=>Y
theorem Nw{k n:Nat}(hc:X.calm=true)(h:Xa X es gs)(hn:(assignEach es X.env).length=n:=by rfl)(hst:(assignEach es X.env).findIdx? (·.1)=Y:=by rfl):DG X (.Tuple es k pos) (bi n gs):=
 PG.imp (Ub hc h hn hst) λv σ H Q z0=>by
  obtain⟨μ,S,env,d,env',S',hS,hE,hr,hm,post⟩:=z0
  cases d with
  | tup xs=>
   simp only[bi] at hm
   split at hm
   ·rename_i hl
    obtain⟨a,vs,rfl,q,r⟩:=hr.sqT
    exact⟨a,vs,rfl,q,by rw[r.length];exact hl,μ,S,env,xs,env',S',hS,hE,r,hm,post⟩
   ·cases hm
  | _=>cases hm
def ge(o i:ME):MG:=λd env S=>(o env S).bind λp=>(i env p.2).bind λq=>match p.1,q.1 with
 | .ref r,.int k=>match q.2[r]? with
  | some (.lst xs)=>(HB xs.length k).bind λj=>U (env,q.2.set r (.lst (xs.set j d)))
  | _=>Y
 | _,_=>Y
theorem Wj(ho:DE X o mo)(hi:DE X i mi)(ha:∀ v,assign (.Subscript o i pos) X.env v=(do
   let ov <- holding [v] (eval o X.env)
   let iv <- holding [v,ov] (eval i X.env)
   standAt pos
   holding [v,ov,iv] (setItem ov iv v)
   release [v,ov,iv] []):=by intro _;rfl):DG X (.Subscript o i pos) (ge mo mi):=
 PG.imp (JZ ho hi Jz ha) λv σ H Q z0=>by
  obtain⟨μ,S,env,d,env',S',hS,hE,hr,hm,post⟩:=z0
  obtain⟨⟨x,S1⟩,h1,hm⟩:=Xc.mp hm
  obtain⟨⟨y,S2⟩,h2,hm⟩:=Xc.mp hm
  refine⟨μ,S,env,x,S1,hS,hE,h1,λv1 H1 μ1 e1 s1 r1=>⟨μ1,S1,env,y,S2,s1,hE.mono e1,h2,λv2 H2 μ2 e2 s2 r2=>?_⟩⟩
  cases x with
  | ref r=>
   cases y with
   | int k=>
    dsimp only at hm
    cases q:S2[r]? with
    | none=>rw[q] at hm;cases hm
    | some c=>
     rw[q] at hm
     cases c with
     | lst xs=>
      obtain⟨j,h3,hm⟩:=Xc.mp hm
      cases hm
      have r1':=r1.mono e2
      cases r1' with
      | @ref a _ h'=>
       obtain⟨vs,hv,rv⟩:=s2.cell r a _ h' q
       have rd:=(hr.mono e1).mono e2
       obtain⟨e3,s3⟩:=s2.write h' hv (rv.set rd j)
       exact⟨a,vs,k,j,rfl,r2.int_inv,hv,by rw[rv.length];exact h3,post σ _ μ2 ((e1.trans e2).trans e3) s3 (hE.mono ((e1.trans e2).trans e3))⟩
     | dct ks xs=>cases hm
     | deep ks xs=>cases hm
   | _=>cases hm
  | _=>cases hm
def ay(m:ME)(g:MG):MS:=λenv S=>(m env S).bind λp=>(g p.1 env p.2).bind λq=>U (.nx q.1 q.2)
theorem OE(h:Tv K (ay m g) E σ H):Jn (tM K m) (Sd K g) E σ H:=by
 obtain⟨μ,S,env,o,hS,hE,hm,post⟩:=h
 obtain⟨⟨d,S1⟩,h1,hm⟩:=Xc.mp hm
 obtain⟨⟨env2,S2⟩,h2,hm⟩:=Xc.mp hm
 cases hm
 exact⟨μ,S,env,d,S1,hS,hE,h1,λv H1 μ1 e1 s1 r1=>⟨μ1,S1,env,d,env2,S2,s1,hE.mono e1,r1,h2,PostN.ext e1 post⟩⟩
theorem Nm(he:DE X e m)(hg:DG X tg g)(hs:swapsWithSole [tg] e pos.line X.env=pure false:=by rfl)(hw:swappedStores [tg] e X.env=pure Y:=by rfl)
  (h1:(assignEach [tg] X.env).map (·.2)=[assign tg X.env]:=by rfl):DS X (.Assign [tg] e pos) (ay m g):=PS.imp (TX he hg hs hw h1) λ_ _ _ h=>OE h
theorem yG{i:Nat}{x:Str}(hN:X.N.Nodup)(hi:X.N[i]?=U x)(hx:Gi X.env.scope x)(he:DE X e m)(hs:swapsWith e (U (.Name x pos')) pos.line X.env=pure false:=by rfl)(hf:X.fn x=true\/X.env.scope.names.lookup x=U .local:=by first | exact .inl rfl | exact .inr rfl | assumption) :
  DS X (.Assign [.Name x pos'] e pos) (ay m (ag i)):=PS.imp (JT hN hi hx he hs hf) λE σ H h=>by
 obtain⟨μ,S,env,o,hS,hE,hm,post⟩:=h
 obtain⟨⟨d,S1⟩,h1,hm⟩:=Xc.mp hm
 cases hm
 exact⟨μ,S,env,d,S1,hS,hE,h1,λv H1 μ1 e1 s1 r1=>post _ H1 μ1 e1 s1 ((hE.mono e1).set r1 i)⟩
structure ExtP(μ:Fp)(H:Hp)(μ':Fp)(H':Hp):Prop where
 fb:∃ l,μ'.fb=l++μ.fb/\∀ a∈l,H a=Y
 pre:∃ l,μ'.cs = μ.cs++l/\∀ a∈l,H a=Y
 keep:∀ a o,a∉μ.cs->H a=U o->H' a=U o
 dom:∀ a∈μ'.cs,H' a≠Y
theorem Ext.toP(e:Ext μ H μ' H'):ExtP μ H μ' H':=⟨⟨[],by rw[e.fb];rfl,λ_ z=>by simp at z⟩,e.pre,e.keep,e.dom⟩
theorem ExtP.stays(e:ExtP μ H μ' H'){a:td}{o:HO}(h:H a=U o)(n:μ.no a):H' a=U o/\μ'.no a:=by
 refine⟨e.keep a o n.1 h,λz=>?_,λz=>?_⟩
 ·obtain⟨l,q,hl⟩:=e.pre
  rw[q] at z
  rcases Xx.mp z with z | z
  ·exact n.1 z
  ·rw[hl a z] at h;cases h
 ·obtain⟨l,q,hl⟩:=e.fb
  rw[q] at z
  rcases Xx.mp z with z | z
  ·rw[hl a z] at h;cases h
  ·exact n.2 z
theorem ExtP.then(e:ExtP μ H μ' H')(f:Ext μ' H' μ'' H''):ExtP μ H μ'' H'':=by
 obtain⟨l,q,hl⟩:=e.pre
 obtain⟨l',q',hl'⟩:=f.pre
 refine⟨by rw[f.fb];exact e.fb,⟨l++l',by rw[q',q,XU],λa ha=>?_⟩,λa o n h=>?_,f.dom⟩
 ·rcases Xx.mp ha with ha | ha
  ·exact hl a ha
  ·have h1:=hl' a ha
   cases q2:H a with
   | none=>rfl
   | some o=>
    by_cases hm:a∈μ.cs
    ·exact absurd h1 (e.dom a (by rw[q];exact Yd _ hm))
    ·rw[e.keep a o hm q2] at h1;cases h1
 ·have h1:=e.keep a o n h
  refine f.keep a o (λz=>?_) h1
  rw[q] at z
  rcases Xx.mp z with z | z
  ·exact n z
  ·rw[hl a z] at h;cases h
theorem ExtP.chg(e:ExtP μ H μ' H')(hp:H p=Y):ExtP μ H μ' (upd H' p o):=
 ⟨e.fb,e.pre,λa o' n h=>by rw[aO (bR h hp)];exact e.keep a o' n h,λa ha=>by
  by_cases z:a=p
  ·subst z;rw[aV];simp
  ·rw[aO z];exact e.dom a ha⟩
theorem ExtP.ix(e:ExtP μ H μ' H'){r:Nat}{a:td}(h:μ.cs[r]?=U a):μ'.cs[r]?=U a:=by
 obtain⟨l,q,_⟩:=e.pre
 exact yS q h
theorem Rep.monoP(e:ExtP μ H μ' H'){d:D}(r:Rep K μ H v d):Rep K μ' H' v d:=r.imp e.stays e.ix
def Ei(K:QF)(μ:Fp)(H:Hp)(J:It)(xs:List D):Prop:=
 ∀ μ' H' S',ExtP μ H μ' H'->SOk K μ' S' H'->∀ i,(∀ d,xs[i]?=U d->J.go i H'/\∀ x H2,J.yld i H' x H2->Ext μ' H' μ' H2/\SOk K μ' S' H2/\Rep K μ' H2 x d)/\(xs.length<=i->J.stop i H')
inductive iM(K:QF)(m:MA)(σ:L2.St)(H:Hp)(R:It->Hp->Prop):Prop
 | mk (μ:Fp) (S:aa) (env:aE) (xs:List D) (S':aa) (hS:SOk K μ S H) (hE:EOk K μ H σ env) (h:m env S=U (xs,S')) (post:∀ J H' μ',Ext μ H μ' H'->SOk K μ' S' H'->Ei K μ' H' J xs->R J H')
def DI(X:Cx)(tg iter:tx)(m:MA):Prop:=PI X tg iter (iM X.K m)
theorem PI.imp{t':TI}(h:PI X tg iter t)(i:∀ σ H R,t' σ H R->t σ H R):PI X tg iter t':=λpins s σ H R I q=>h pins s σ H R I (i σ H R q)
theorem vY{v:V}{a:td}{d:D}{xs:List D}(hd:d=.lst xs\/d=.rol xs)(r:Rep K μ H v d)(hv:v=.ref a):Ei K μ H (Itl K a) xs:=λμ' H' S' e s i=>by
 have r':=r.monoP e
 obtain⟨vs,q,rs⟩:∃ vs,mT K H' a vs/\Reps K μ' H' vs xs:=by
  subst hv
  rcases hd with rfl | rfl
  ·obtain⟨a',vs,ea,q,_,rs⟩:=r'.sqL;cases ea;exact⟨vs,.inl (.inl q),rs⟩
  ·obtain⟨a',vs,ea,q,rs⟩:=r'.sqR;cases ea;exact⟨vs,q,rs⟩
 refine⟨λd hd=>?_,λhl=>⟨vs,q,by rw[rs.length];exact hl⟩⟩
 obtain⟨v,hv,rv⟩:=rs.get hd
 refine⟨⟨vs,v,q,hv⟩,λx H2 ⟨e2,hy⟩=>?_⟩
 subst e2
 have:=hy vs q
 rw[hv] at this;cases this
 exact⟨s.ext,s,rv⟩
theorem LJ{a:td}{xs:List D}(r:Rep K μ H (.ref a) (.tup xs)):Ei K μ H (Itt K a) xs:=λμ' H' S' e s i=>by
 obtain⟨a',vs,ea,q,rs⟩:=(r.monoP e).sqT
 cases ea
 refine⟨λd hd=>?_,λhl=>⟨vs,q,by rw[rs.length];exact hl⟩⟩
 obtain⟨v,hv,rv⟩:=rs.get hd
 refine⟨⟨vs,v,q,hv⟩,λx H2 ⟨e2,hy⟩=>?_⟩
 subst e2
 have:=hy vs q
 rw[hv] at this;cases this
 exact⟨s.ext,s,rv⟩
variable{tg iter:tx}
def dH(lo:Int)(n:Nat):List D:=(List.range n).map λ(i:Nat)=>D.int (lo+(i:Int))
theorem Ct(lo:Int)(n i:Nat)(d:D)(h:(dH lo n)[i]?=U d):i<n/\d=.int (lo+(i:Int)):=by
 unfold dH at h
 rw[Yl] at h
 cases q:(List.range n)[i]? with
 | none=>rw[q] at h;cases h
 | some j=>
  rw[q] at h;cases h
  obtain⟨h1,h2⟩:=Xe.mp q
  simp at h1 h2
  exact⟨h1,by rw[h2]⟩
theorem Dn(lo:Int)(n:Nat):Ei K μ H (Itr lo n) (dH lo n):=λμ' H' S' e s i=>by
 refine⟨λd hd=>?_,λhl=>?_⟩
 ·obtain⟨h1,rfl⟩:=Ct lo n i d hd
  refine⟨h1,λx H2 ⟨e2,hy⟩=>?_⟩
  subst e2 hy
  exact⟨s.ext,s,.int _⟩
 ·have:(dH lo n).length=n:=by simp[dH]
  rw[this] at hl;exact hl
def cu(ms:MA):MA:=λenv S=>(ms env S).bind λp=>match p.1 with | [.int j]=>if -(2^62)<=j/\j<2^62 then U (dH 0 j.toNat,p.2) else Y | _=>Y
theorem Io{a:tx}{p:Pos}(hm:X.mg "range" = Y)(ha:DA X [a] ms)(hg:Gl X "range":=by rfl)(hs:KZ [a] X.env=[(false,eval a X.env)]:=by rfl):DI X tg (.Call (.Name "range" p) [a] [] pos) (cu ms):=
 PI.imp (GO hg hm ha hs) λσ H R z0=>by
  obtain⟨μ,S,env,xs,S',hS,hE,hm,post⟩:=z0
  obtain⟨⟨ds,S1⟩,h1,hm⟩:=Xc.mp hm
  refine⟨μ,S,env,ds,S1,hS,hE,h1,λvs H1 μ1 e1 s1 r1=>?_⟩
  dsimp only at hm
  split at hm
  ·split at hm
   ·rename_i hb
    cases hm
    obtain⟨v,rfl,r⟩:=r1.one
    exact⟨_,by rw[r.int_inv],hb.1,hb.2,post _ H1 μ1 e1 s1 (Dn 0 _)⟩
   ·cases hm
  ·cases hm
def cq(g:MG)(body:MS):List D->aE->aa->Option mU
 | [],env,S=>U (.nx env S)
 | d::ds,env,S=>(g d env S).bind λp=>(body p.1 p.2).bind λo=>match o with
  | .nx e s=>cq g body ds e s
  | .ct e s=>cq g body ds e s
  | .bk e s=>U (.nx e s)
  | .rt d s=>U (.rt d s)
def ls(mi:MA)(g:MG)(body:MS):MS:=λenv S=>(mi env S).bind λp=>cq g body p.1 env p.2
theorem Ni{mb:MS}(hp:PassesOwn (model X.prog X.w) X.A X.env X.xe)(hc:X.calm=true)(hi:DI X tg iter mi)(hg:DG X tg g)(hb:vj X body mb)
  (hs:∀ x,Ld iter X.env x=pure x:=by intro _;rfl):DS X (.For tg iter body [] pos) (ls mi g mb):=PS.imp (Cy hp hc hi hg hb hs) λE σ H z0=>by
 obtain⟨μ,S,env,o,hS,hE,hm,post⟩:=z0
 obtain⟨⟨xs,S1⟩,h1,hm⟩:=Xc.mp hm
 refine⟨μ,S,env,xs,S1,hS,hE,h1,λJ H1 μ1 e1 s1 it=>?_⟩
 refine⟨λi n σ H=>n=xs.length - i/\i<=xs.length/\∃ μ' S' env' o',Ext μ1 H1 μ' H/\SOk X.K μ' S' H/\EOk X.K μ' H σ env'/\cq g mb (xs.drop i) env' S'=U o'/\PostS X.K μ' H o' E,
  ⟨xs.length,by simp,Zj _,μ1,S1,env,o,s1.ext,s1,hE.mono e1,by rw[ZY];exact hm,post.ext e1⟩,?_⟩
 rintro i n σ' H' ⟨rfl,hi,μ',S',env',o',e',s',r',hl,post'⟩
 have iti:=it μ' H' S' e'.toP s' i
 by_cases hlt:i<xs.length
 ·refine .inr ⟨(iti.1 xs[i] (Xl hlt)).1,λσ2 H2=>∃ μ2 S2 env2 o2,Ext μ1 H1 μ2 H2/\SOk X.K μ2 S2 H2/\EOk X.K μ2 H2 σ2 env2/\cq g mb (xs.drop (i+1)) env2 S2=U o2/\PostS X.K μ2 H2 o2 E,
   λσ2 H2 ⟨μ2,S2,env2,o2,q1,q2,q3,q4,q5⟩=>⟨xs.length - (i+1),by omega,rfl,hlt,μ2,S2,env2,o2,q1,q2,q3,q4,q5⟩,λx H2 y=>?_⟩
  obtain⟨e2,s2,rx⟩:=(iti.1 xs[i] (Xl hlt)).2 x H2 y
  rw[ZD hlt] at hl
  obtain⟨⟨env3,S3⟩,h3,hl⟩:=Xc.mp hl
  obtain⟨o4,h4,hl⟩:=Xc.mp hl
  refine⟨μ',S',env',xs[i],env3,S3,s2,r'.mono e2,rx,h3,λσ3 H3 μ3 e3 s3 r3=>⟨μ3,S3,env3,o4,s3,r3,h4,?_⟩⟩
  have eT:Ext μ1 H1 μ3 H3:=(e'.trans e2).trans e3
  have pT:PostS X.K μ3 H3 o' E:=(post'.ext e2).ext e3
  cases o4 with
  | nx e5 s5=>exact λσ6 H6 μ6 e6 s6 r6=>⟨μ6,s5,e5,o',eT.trans e6,s6,r6,hl,pT.ext e6⟩
  | ct e5 s5=>exact λσ6 H6 μ6 e6 s6 r6=>⟨μ6,s5,e5,o',eT.trans e6,s6,r6,hl,pT.ext e6⟩
  | bk e5 s5=>cases hl;exact pT
  | rt d5 s5=>cases hl;exact pT
 ·have e:i=xs.length:=by omega
  subst e
  refine .inl ⟨iti.2 (Xm _),?_⟩
  rw[aaB] at hl
  cases hl
  exact post' σ' H' μ' s'.ext s' r'
def pB(cap:List (Option Nat))(env:aE):aE:=cap.map λo=>o.bind λi=>(env[i]?).join
def Oq(X:Cx)(ifs:List tx)(m:MT):Prop:=RQ X ifs (Cg X.K m)
theorem QS:Oq X [] (λ_ S=>U (true,S)):=λpins s σ H Q I ⟨μ,S,env,b,S',hS,hE,hm,post⟩=>by cases hm;exact Pb pins s σ H Q I (post H μ hS.ext hS)
theorem QR{c:tx}(h:DT X c t):Oq X [c] t:=Pa h
def dg(g:MG)(t:MT)(e:ME):List D->aE->aa->Option (List D×aa)
 | [],_,S=>U ([],S)
 | d::ds,env,S=>(g d env S).bind λp=>(t p.1 p.2).bind λb=>if b.1=true then(e p.1 b.2).bind λq=>(dg g t e ds p.1 q.2).bind λr=>U (q.1::r.1,r.2) else dg g t e ds p.1 b.2
def bV(mi:MA)(g:MG)(t:MT)(e:ME)(cap:List (Option Nat)):ME:=λenv S=>(mi env S).bind λp=>if p.1.length<=KY then(dg g t e p.1 (pB cap env) p.2).bind λq=>U (.lst q.1,q.2) else Y
inductive CpJ(K:QF)(μ1:Fp)(H1:Hp)(p:td)(R:aE->aa->List D->Prop)(ys:List D)(i:Nat)(σ:L2.St)(H:Hp):Prop
 | mk (cs:List td) (S:aa) (env:aE) (vs:List V) (zs rest:List D) (eP:ExtP μ1 H1 ⟨cs,p::μ1.fb⟩ H) (s:SOk K ⟨cs,p::μ1.fb⟩ S H) (r:EOk K ⟨cs,p::μ1.fb⟩ H σ env) (hp:H p=U (.lst vs)) (rz:Reps K ⟨cs,p::μ1.fb⟩ H vs zs) (hl:R env S rest) (hy:ys=zs++rest) (hv:vs.length<=i)
theorem CpJ.start{R:aE->aa->List D->Prop}(s1:SOk K μ1 S H1)(hE:EOk K μ1 H1 σ env)(hp:H1 p=Y)(h:R env S ys):CpJ K μ1 H1 p R ys 0 σ (upd H1 p (.lst [])):=
 .mk μ1.cs S env [] [] ys ⟨⟨[p],rfl,λa z=>by rw[XA.mp z];exact hp⟩,⟨[],by simp,λ_ z=>by simp at z⟩,λa o' n h=>by rw[aO (bR h hp)];exact h,λa ha=>by
  by_cases z:a=p
  ·subst z;rw[aV];simp
  ·rw[aO z];exact s1.dom a ha⟩ (s1.more hp) (hE.more hp) aV .nil h rfl (Xm _)
theorem zo{mi:MA}{g:MG}{t:MT}{e:ME}{cap:List (Option Nat)}{σ:L2.St}{Q:VK}(h:tM K (bV mi g t e cap) σ H Q):Es (iM K mi) (Sd K g) (Cg K t) (tM K e) cap σ H Q:=by
 obtain⟨μ,S,env,d,S',hS,hE,hm,post⟩:=h
 obtain⟨⟨xs,S1⟩,h1,hm⟩:=Xc.mp hm
 dsimp only at hm
 split at hm
 case isFalse=>cases hm
 rename_i hsz
 obtain⟨⟨ys,S2⟩,h2,hm⟩:=Xc.mp hm
 cases hm
 refine⟨μ,S,env,xs,S1,hS,hE,h1,λJ H1 μ1 e1 s1 it p hp=>?_⟩
 have hpn:=s1.notMem hp
 refine⟨λi n σ' H'=>n=xs.length - i/\i<=xs.length/\CpJ K μ1 H1 p (λenv S rest=>dg g t e (xs.drop i) env S=U (rest,S2)) ys i σ' H',⟨xs.length,by simp,Zj _,.start s1 ((hE.mono e1).block cap) hp (by rw[ZY];exact h2)⟩,?_⟩
 rintro i n σ' H' ⟨rfl,hi,c⟩
 cases c with | mk cs S' env' vs zs rest eP s' r' hpv rz hl hy hvl=>?_
 subst hy
 have iti:=it _ H' S' eP s' i
 by_cases hlt:i<xs.length
 ·refine .inr ⟨(iti.1 xs[i] (Xl hlt)).1,λx H2 y=>?_⟩
  obtain⟨e2,s2,rx⟩:=(iti.1 xs[i] (Xl hlt)).2 x H2 y
  rw[ZD hlt] at hl
  obtain⟨⟨env3,S3⟩,h3,hl⟩:=Xc.mp hl
  obtain⟨⟨b,S4⟩,h4,hl⟩:=Xc.mp hl
  refine⟨_,S',env',xs[i],env3,S3,s2,r'.mono e2,rx,h3,λσ3 H3 μ3 e3 s3 r3=>⟨μ3,S3,env3,b,S4,s3,r3,h4,λH4 μ4 e4 s4=>?_⟩⟩
  have eA:=(e2.trans e3).trans e4
  have pcs:p∉cs:=λz=>s'.disj p Xi z
  cases b with
  | false=>
   rw[if_neg Sn] at hl
   dsimp only
   rw[if_neg Sn]
   obtain⟨cs4,fb4⟩:=μ4
   have hfb:fb4=p::μ1.fb:=eA.fb
   subst hfb
   exact⟨xs.length - (i+1),by omega,rfl,hlt,.mk cs4 S4 env3 vs zs rest (eP.then eA) s4 (r3.mono e4) (eA.keeps hpv pcs).1 (rz.mono eA) hl rfl (by omega)⟩
  | true=>
   rw[Xq rfl] at hl
   dsimp only
   rw[Xq rfl]
   obtain⟨⟨dv,S5⟩,h5,hl⟩:=Xc.mp hl
   obtain⟨⟨rs,S6⟩,h6,hl⟩:=Xc.mp hl
   cases hl
   refine⟨μ4,S4,env3,dv,S5,s4,r3.mono e4,h5,λv H5 μ5 e5 s5 r5=>?_⟩
   have eB:=eA.trans e5
   obtain⟨cs5,fb5⟩:=μ5
   have hfb:fb5=p::μ1.fb:=eB.fb
   subst hfb
   refine⟨vs,(eB.keeps hpv pcs).1,by omega,xs.length - (i+1),by omega,rfl,hlt,.mk cs5 S5 env3 (vs++[v]) (zs++[dv]) rs ((eP.then eB).chg hp) (s5.chg Xi) (((r3.mono e4).mono e5).chg Xi) aV (Reps.chg Xi ((rz.mono eB).append (.cons r5 .nil))) h6 (by simp) (by rw[XM,ZR];omega)⟩
 ·have e:i=xs.length:=by omega
  subst e
  refine .inl ⟨iti.2 (Xm _),?_⟩
  rw[aaB] at hl
  cases hl
  have eF:Ext μ1 H1 ⟨cs,μ1.fb⟩ H':=⟨rfl,eP.pre,eP.keep,eP.dom⟩
  dsimp only at post
  rw[XW] at post
  exact post _ H' ⟨cs,μ1.fb⟩ (e1.trans eF) s'.less (.lst hpv ⟨λz=>s'.disj p Xi z,hpn.2⟩ rz.less)
theorem Rs
  (hc:X.calm=true) (B:BlockOk X N' scope cap) (hi:DI X tg iter mi) (hg:∀ C s H fp,DG (mI X N' scope C s H fp) tg g) (ht:∀ C s H fp,Oq (mI X N' scope C s H fp) ifs t) (he:∀ C s H fp,DE (mI X N' scope C s H fp) elt me)
  (hs:∀ x,Ld iter X.env x=pure x:=by intro _;rfl):DE X (.ListComp elt [⟨tg,iter,ifs,0⟩] scope pos) (bV mi g t me cap):=
 PE.imp (Ez (g:=Sd X.K g) (tt:=Cg X.K t) (te:=tM X.K me) hc B hi hg ht he hs) λ_ _ _ h=>zo h
theorem DL{spos:Pos}{y:Str}{i:Nat}
  (hN:X.N.Nodup) (hy:X.N[i]?=U y) (hx:Gi X.env.scope y)
  (hc:X.calm=true) (B:BlockOk X N' scope cap) (hi:DI X tg iter mi) (hg:∀ C s H fp,DG (mI X N' scope C s H fp) tg g) (ht:∀ C s H fp,Oq (mI X N' scope C s H fp) ifs t) (he:∀ C s H fp,DE (mI X N' scope C s H fp) elt me)
  (hsw:swapsWith (.ListComp elt [⟨tg,iter,ifs,0⟩] scope pos) (U (.Name y py)) spos.line X.env=pure true:=by rfl)
  (hs:∀ x,Ld iter X.env x=pure x:=by intro _;rfl) (hf:X.fn y=true\/X.env.scope.names.lookup y=U .local:=by first | exact .inl rfl | exact .inr rfl | assumption) :
  DS X (.Assign [.Name y py] (.ListComp elt [⟨tg,iter,ifs,0⟩] scope pos) spos) (ay (bV mi g t me cap) (ag i)):=
 PS.imp (sg (g:=Sd X.K g) (tt:=Cg X.K t) (te:=tM X.K me) hN hy hx hc B hi hg ht he hsw hs hf) λE σ H h=>by
  obtain⟨μ,S,env,o,hS,hE,hm,post⟩:=h
  obtain⟨⟨d,S1⟩,h1,hm⟩:=Xc.mp hm
  cases hm
  exact zo ⟨μ,S,env,d,S1,hS,hE,h1,λv H1 μ1 e1 s1 r1=>post _ H1 μ1 e1 s1 ((hE.mono e1).set r1 i)⟩
end
section
variable{X:Cx}{K:QF}{μ μ':Fp}{H H':Hp}{S:aa}{pos p2:Pos}{tg iter:tx}{m:ME}
def vh(N N':List Str)(kX kB:Str->Option NameKind):List (Option Nat)->List Str->Bool
 | [],[]=>true
 | none::r,_::s=>vh N N' kX kB r s
 | some i::r,y::s=>N[i]?==U y&&(kX y==U .cell||kX y==U .free)&&(kB y==U .cell||kB y==U .free)&&vh N N' kX kB r s
 | _,_=>false
theorem yN{kX:Str->Option NameKind}:∀ {cap:List (Option Nat)} {ys:List Str},vh N N' kX kB cap ys=true->cap.length=ys.length/\∀ (j i:Nat),cap[j]?=U (U i)->∃ y,ys[j]?=U y/\N[i]?=U y/\(kX y=U .cell\/kX y=U .free)/\(kB y=U .cell\/kB y=U .free)
 | [],[],_=>⟨rfl,λj i e=>by simp at e⟩
 | none::r,y::s,h=>by
  obtain⟨h1,h2⟩:=yN (cap:=r) (ys:=s) h
  refine⟨by simp[h1],λj i e=>?_⟩
  cases j with
  | zero=>simp at e
  | succ j=>simpa using h2 j i (by simpa using e)
 | some k::r,y::s,h=>by
  rw[vh,Xk,Xk,Xk,ZA,ZA] at h
  obtain⟨h1,h2⟩:=yN (cap:=r) (ys:=s) h.2
  refine⟨by simp[h1],λj i e=>?_⟩
  cases j with
  | zero=>
   simp at e;subst e
   refine⟨y,rfl,by simpa using h.1.1.1,?_,?_⟩
   ·exact h.1.1.2.imp (λz=>by simpa using z) λz=>by simpa using z
   ·exact h.1.2.imp (λz=>by simpa using z) λz=>by simpa using z
  | succ j=>simpa using h2 j i (by simpa using e)
 | [],_::_,h=>by simp[vh] at h
 | none::_,[],h=>by simp[vh] at h
 | some _::_,[],h=>by simp[vh] at h
theorem blk{N':List Str}{scope:Scope}(nd:N'.Nodup)(k:scope.kind=.function:=by rfl)(nc:(scope.names.all λx=>x.2 != .cell)=true:=by rfl)(nm:(scope.names.all λx=>x.2 != .local||scope.names.lookup x.1==U .local)=true:=by rfl)
  (fr:(scope.names.all λx=>x.2 != .free||X.env.kindOf x.1==U .cell||X.env.kindOf x.1==U .free)=true:=by rfl)
  (cp:vh X.N N' X.env.kindOf (λy=>(relabel scope X.env).names.lookup y) cap N'=true:=by rfl):BlockOk X N' scope cap:=by
 obtain⟨h1,h2⟩:=yN cp
 refine⟨k,λx hx=>?_,λx hx hl=>?_,λx hx hf=>?_,nd,h1,λj i e=>?_⟩
 ·have:=Xu.mp nc x hx
  simpa using this
 ·have:=Xu.mp nm x hx
  simpa[hl] using this
 ·have:=Xu.mp fr x hx
  simpa[hf] using this
 ·obtain⟨y,a,b,c,d⟩:=h2 j i e
  exact⟨y,a,b,.inr c,c,d⟩
theorem Ua(hl:PE X l tl):PI X tg l (λσ H R=>tl σ H λx H1=>∃ a,x=.ref a/\(((∃ xs,mT X.K H1 a xs)/\R (Itl X.K a) H1)\/((∃ xs,lv X.K H1 a xs)/\R (Itt X.K a) H1))):=by
 intro pins s σ H R I h
 refine dA (hl pins s σ H _ I h) λv s1 ⟨x,H1,I1,r1,q1⟩=>?_
 obtain⟨a,e,⟨⟨xs,hq⟩,q⟩ | ⟨⟨xs,hq⟩,q⟩⟩:=q1
 ·subst e
  cases r1
  obtain⟨its,rv,p,hz⟩:=I1.list hq
  refine aam p.isList ?_
  refine⟨s1.heap.objs.size,[s1.heap.objs.size],_,_,H1,rfl,I1.kept (t':=s1.toks) λb o e=>Xh _ e,vq a _,⟨_,Xr _ rfl,rfl,rfl⟩,λb hb=>?_,q⟩
  have e:b=s1.heap.objs.size:=by simpa using hb
  subst e
  exact I1.fpOk (Xm _) (I1.hok.fresh (Xm _))
 ·subst e
  cases r1
  obtain⟨its,rv,p,hz⟩:=I1.tuple hq
  refine Zm (show s1.heap.IsTuple a its.toArray from p) ?_
  refine⟨s1.heap.objs.size,[s1.heap.objs.size],_,_,H1,rfl,I1.kept (t':=s1.toks) λb o e=>Xh _ e,Ca a _,⟨_,Xr _ rfl,rfl,rfl⟩,λb hb=>?_,q⟩
  have e:b=s1.heap.objs.size:=by simpa using hb
  subst e
  exact I1.fpOk (Xm _) (I1.hok.fresh (Xm _))
def dU(m:ME):MA:=λenv S=>(m env S).bind λp=>match p.1 with | .lst xs=>U (xs,p.2) | .rol xs=>U (xs,p.2) | .tup xs=>U (xs,p.2) | _=>Y
theorem DN(h:DE X iter m):DI X tg iter (dU m):=PI.imp (Ua h) λσ H R z0=>by
 obtain⟨μ,S,env,xs,S',hS,hE,hm,post⟩:=z0
 obtain⟨⟨d,S1⟩,h1,hm⟩:=Xc.mp hm
 refine⟨μ,S,env,d,S1,hS,hE,h1,λv H1 μ1 e1 s1 r1=>?_⟩
 cases d with
 | lst ys=>
  cases hm
  have r1':=r1
  obtain⟨a,vs,rfl,q,_,rs⟩:=r1.sqL
  exact⟨a,rfl,.inl ⟨⟨vs,.inl (.inl q)⟩,post _ H1 μ1 e1 s1 (vY (.inl rfl) r1' rfl)⟩⟩
 | rol ys=>
  cases hm
  have r1':=r1
  obtain⟨a,vs,rfl,q,rs⟩:=r1.sqR
  exact⟨a,rfl,.inl ⟨⟨vs,q⟩,post _ H1 μ1 e1 s1 (vY (.inr rfl) r1' rfl)⟩⟩
 | tup ys=>
  cases hm
  have r1':=r1
  obtain⟨a,vs,rfl,q,rs⟩:=r1.sqT
  exact⟨a,rfl,.inr ⟨⟨vs,q⟩,post _ H1 μ1 e1 s1 (LJ r1')⟩⟩
 | _=>cases hm
end
def aT(N:List Str)(m:MS)(n:Nat):List D->aa->Option (D×aa):=λds S=>if ds.length=n then(m (bt N ds) S).bind λo=>match o with | .rt d S'=>U (d,S') | .nx _ S'=>U (.non,S') | _=>Y else Y
theorem vC{S':aa}{d:D}(h:aT N m n ds S=U (d,S')):Runs m (bt N ds) S d S':=by
 unfold aT at h
 split at h
 ·obtain⟨o,h1,h⟩:=Xc.mp h
  cases o with
  | rt d' S2=>cases h;exact .ret h1
  | nx e S2=>cases h;exact⟨_,[],h1,.inl rfl,.inr ⟨rfl,e,by rw[XW]⟩⟩
  | bk _ _=>cases h
  | ct _ _=>cases h
 ·cases h
structure bB(K:QF)(mg:Str->Option bd)(x:Str)(st:He):Prop where
 ex:∃ (a:td) (fd:FuncData),L2.Fun K x x st a fd/\mg x=U (.ref a)
def oi(x:Str)(st:He)(ps:List Str):Prop:=∀ (kV doc pm:bd) (an:Option td) (cdv ct:bd) (us:List bd),us.length=ps.length->bindArgs (W.fnOf x x (ie st) (aD st) (ar st) .none kV doc pm an cdv ct) ⟨us,[]⟩=pure (ps.zip us)
theorem Wl{K:QF}{k:Nat}{st:He}
  (F:bB K mg x st) (Sc:aN N ps (ar st)) (hb:oi x st ps)
  (hbody:∀ (a:td) (cdv:bd) (A:IN) (outer:List PySem.Env) (s:gV) (H:Hp) (E:XK),Room k (A.deeper (envOfC x (ar st) s.heap.objs.size a cdv)) ->
   vj (qW Gj P w K mg base N x (ar st) a cdv A outer s H E).nox (aD st) m) :
  Fn P w K mg base (k+1) x ps.length (aT N m ps.length):=by
 obtain⟨a,fd,F,hmg⟩:=F.ex
 exact SL F Sc hmg (F.binds hb) λcdv A outer s H E hr=>⟨m,hbody a cdv A outer s H E hr,λds S d S' hn hS hd h=>vC h⟩
theorem Fn.up{K:QF}{k k':Nat}(F:Fn P w K mg base k x n f)(h:k<=k':=by decide):Fn P w K mg base k' x n f:=by
 obtain⟨a,fd,ps,h1,h2,h3⟩:=F.ex
 exact⟨a,fd,ps,h1,h2.mono h,h3⟩
theorem UM{K:QF}{f:List D->aa->Option (D×aa)}(h:∀ ns:List Int,ns.length<=63->∃ S',f [.rol (ns.map .int)] []=U (.bl true,S')){ns:List Int}(hl:ns.length<=63)(hS:mT K H a (ns.map V.int)) :
  Jy K 1 f [.ref a] H (λv _=>v=.bl true) E:=by
 obtain⟨S',hf⟩:=h ns hl
 have hr:∀ l:List Int,Reps K ⟨[],[]⟩ H (l.map V.int) (l.map D.int):=λl=>by
  induction l with
  | nil=>exact .nil
  | cons x l ih=>exact .cons (.int x) ih
 refine⟨⟨[],[]⟩,[],_,_,S',⟨List.nodup_nil,rfl,λr a c h=>by simp at h,λa h=>by simp at h,λa h=>by simp at h⟩,.cons ?_ .nil,rfl,hf,λv H' μ' e s r=>r.bl_inv⟩
 rcases hS with hS | hS
 ·exact .rol hS ⟨by simp,by simp⟩ (hr ns)
 ·exact .krol hS (hr ns)
def VC(_:aa)(x:D):Option D:=match x with | .int i=>U (.int (-i)) | _=>Y
theorem Ox:UnR X (unaryOp .USub) (rM1 X.K VC):=Tp
def bU:MT:=λ_ S=>U (true,S)
theorem Nd:Oq X [] bU:=QS
theorem UN{K:QF}{k:Nat}{st:He}(F:bB K mg "law" st)(hfa:mg "law" = U (.ref fa))(Sc:aN N ["_law_script"] (ar st))
  (hbt:∀ (kV doc pm:bd) (an:Option td) (cdv ct v:bd),bindArgs (W.fnOf "law" "law" (ie st) (aD st) (ar st) .none kV doc pm an cdv ct) ⟨[v],[]⟩=pure [(("_law_script":Str),v)])
  (hbody:∀ (base:Jq) (a:td) (cdv:bd) (A:IN) (outer:List PySem.Env) (s:gV) (H:Hp) (E:XK),Room k (A.deeper (envOfC "law" (ar st) s.heap.objs.size a cdv)) ->
   vj (qW Gj P w K mg base N "law" (ar st) a cdv A outer s H E).nox (aD st) m) :
  ∃ fd:FuncData,(∀ (s:gV) (v:bd),BindsTo s fd ⟨[v],[]⟩ [("_law_script",v)])/\∀ base:Jq,K.In base->base.Ns Lg mg->FnOk P w K mg base Gj (k+1) fa fd ["_law_script"] (Jy K 1 (aT N m 1)):=by
 obtain⟨a,fd,F,hmg⟩:=F.ex
 rw[hfa] at hmg
 have e:fa=a:=by cases hmg;rfl
 subst e
 refine⟨fd,λs v=>?_,λbase _ _=>SJ F Sc λcdv A outer s H E hr=>⟨m,hbody base fa cdv A outer s H E hr,λds S d S' hn hS hd h=>vC h⟩⟩
 obtain⟨oc,od,kV,doc,pm,an,cdv,ct,osl,rfl,lk,hcd⟩:=F.ex
 exact .of_eq (hbt kV doc pm an cdv ct v)
end M
namespace HT
open AutoSeq1 (wpAny_loadPart')
theorem CL:fillsNumberSlot (.type "tuple") "mul" = pure false:=
 PySem.fillsNumberSlot_seq (id:="tuple.__mul__") (r:=U (.builtin "tuple.__rmul__"))
  F.slot_tuple_mul.lookup (by decide +kernel) F.slot_tuple_rmul.lookup (by decide +kernel)
theorem TL:seqRepeat? (.type "tuple")=pure (U (.builtin "tuple.__mul__")):=by
 unfold seqRepeat?
 rw[PySem.seqSlot_of (T:="tuple") (name:="__mul__") (id:="tuple.__mul__") F.slot_tuple_mul.lookup (by decide +kernel)]
 rw[PySem.seqSlot_of (T:="tuple") (name:="__rmul__") (id:="tuple.__rmul__") F.slot_tuple_rmul.lookup (by decide +kernel)]
 rfl
theorem JK(a:Int)(t:Tok)(l:td)(items:Array bd)(n:Nat)(dd:Option td)(sl:Array (Option bd)) :
  Meets (Builtin.«int.__rmul__» ⟨[.int a t,.ref l],[]⟩) (λ_ R s=>s.heap.get? l=U ⟨.type "tuple",dd,.seq items n,sl⟩/\R (.ok (.ret Value.notImplemented)) s):=
 .of_wp λprog w A R s h=>by
  obtain⟨hp,g,d,tk,os⟩:=s
  obtain⟨hl,h⟩:=h
  wp_walk
  exact⟨_,rfl,h⟩
theorem mulT0(l:td)(items:Array bd)(n:Nat)(k:Int)(t:Tok)(dd:Option td)(sl:Array (Option bd))(h1:¬ (decide (k < -(2^63))||decide (k≥2^63))=true)(hc:(items.isEmpty||k==1)=true) :
  Meets (Builtin.«tuple.__mul__» ⟨[.ref l,.int k t],[]⟩) (λ_ R s=>s.heap.get? l=U ⟨.type "tuple",dd,.seq items n,sl⟩/\R (.ok (.ret (.ref l))) s):=
 .of_wp λprog w A R s h=>by
  obtain⟨hp,g,d,tk,os⟩:=s
  obtain⟨hl,h⟩:=h
  have f1:=aaE
  have f2:=ZG
  wp_walk using wpAny_loadPart' hl
  rw[if_neg h1]
  wp_walk using wpAny_loadPart' hl
  exact⟨_,rfl,h⟩
theorem mulT1(l:td)(items:Array bd)(n:Nat)(k:Int)(t:Tok)(dd:Option td)(sl:Array (Option bd))(h1:¬ (decide (k < -(2^63))||decide (k≥2^63))=true)(hc:¬ (items.isEmpty||k==1)=true)(hk:(decide (k<=0)||items.isEmpty)=true) :
  Meets (Builtin.«tuple.__mul__» ⟨[.ref l,.int k t],[]⟩) (λ_ R s=>s.heap.get? l=U ⟨.type "tuple",dd,.seq items n,sl⟩/\R (.ok (.ret (.ref s.heap.objs.size))) { s with heap:=s.heap.push { cls:=.type "tuple",data:=.seq #[] },toks:=s.toks }):=
 .of_wp λprog w A R s h=>by
  obtain⟨hp,g,d,tk,os⟩:=s
  obtain⟨hl,h⟩:=h
  have f1:=aaE
  have f2:=ZG
  wp_walk using wpAny_loadPart' hl
  rw[if_neg h1]
  wp_walk using wpAny_loadPart' hl
  exact⟨_,rfl,h⟩
theorem mulT2(l:td)(items:Array bd)(n:Nat)(k:Int)(t:Tok)(dd:Option td)(sl:Array (Option bd))(h1:¬ (decide (k < -(2^63))||decide (k≥2^63))=true)(hc:¬ (items.isEmpty||k==1)=true)(hk:¬ (decide (k<=0)||items.isEmpty)=true)
  (hb:¬ ((items.size:Int)*k>(2^63 - 1) / 8)) (hm:¬ Builtin.Tuple.tupleTooMany ((items.size:Int)*k)=true) (hz:(List.foldl (λx1 x2=>x1++x2) #[] (Si k.toNat items)).size<=KY) :
  Meets (Builtin.«tuple.__mul__» ⟨[.ref l,.int k t],[]⟩) (λ_ R s=>s.heap.get? l=U ⟨.type "tuple",dd,.seq items n,sl⟩/\R (.ok (.ret (.ref s.heap.objs.size))) { s with heap:=s.heap.push { cls:=.type "tuple",data:=.seq (List.foldl (λx1 x2=>x1++x2) #[] (Si k.toNat items)) },toks:=s.toks }):=
 .of_wp λprog w A R s h=>by
  obtain⟨hp,g,d,tk,os⟩:=s
  obtain⟨hl,h⟩:=h
  have f1:=aaE
  have f2:=ZG
  wp_walk using wpAny_loadPart' hl
  rw[if_neg h1]
  wp_walk using wpAny_loadPart' hl
  rw[if_neg hb]
  wp_walk using wpAny_loadPart' hl
  exact⟨_,rfl,h⟩
end HT
namespace L2
section
variable{X:Cx}
theorem vrep(h:Vals xs us):∀ k:Nat,Vals (Si k xs).flatten (Si k us).flatten
 | 0=>.nil
 | k+1=>by rw[XO,XO,Yq,Yq];exact h.append (vrep h k)
theorem frep(its:List bd):∀ (m:Nat) (acc:List bd),List.foldl (λx1 x2=>x1++x2) acc.toArray (Si m its.toArray)=(acc++(Si m its).flatten).toArray
 | 0,acc=>by simp
 | m+1,acc=>by
  rw[XO,List.foldl_cons,List.append_toArray,frep its m (acc++its),XO,Yq,XU]
def rRepT(K:QF):R2:=λx y H Q=>∃ a k xs,x=.ref a/\y=.int k/\lv K H a xs/\-(2^62)<=k/\k<2^62/\xs.length*k.toNat<=KY /\
 ((xs=[]\/k=1)->Q (.ref a) H)/\((xs≠[]/\k≠1)->∀ p,H p=Y->Q (.ref p) (upd H p (.tup (Si k.toNat xs).flatten)))
theorem Px:OpR X (PN .Mult) (rRepT X.K):=by
 intro pins s σ H x y v u Q I rx ry h
 obtain⟨l,k,xs,rfl,rfl,hq,h1,h2,hz,q1,q2⟩:=h
 cases rx
 obtain⟨t,rfl⟩:=ry
 obtain⟨its,r,hT,hzz⟩:=I.tuple hq
 obtain⟨⟨cls,dd,data,sl⟩,e,hc,n,hd⟩:=id hT
 simp only at hc hd
 subst hc hd
 have hlen:xs.length=its.length:=r.length
 have g1:¬ (decide (k < -(2^63))||decide (k≥2^63))=true:=by simp;omega
 have road:∀ {S:PySem.Spec},Meets (Builtin.«tuple.__mul__» ⟨[.ref l,.int k t],[]⟩) S->S X.A (wants (EP X pins σ Q) X.xe) s->Qs (model X.prog X.w) X.A (PN .Mult (.ref l) (.int k t)) (EP X pins σ Q) X.xe s:=λM hS=>
  aaU (T:="tuple") (U:="int") (by decide) ⟨_,e,rfl⟩ (λs'=>aao s' k t) HT.CL F.fills_int_mul ZU HT.TL F.slot_int_index.lookup
   (YZ ZU (aao s k t) F.entry_int_rmul (F.args_int_rmul_2 _ _) (HT.JK k t l its.toArray n dd sl)
    ⟨e,rfl,⟨_,e,rfl⟩,YZ F.slot_tuple_mul ⟨_,e,rfl⟩ F.entry_tuple_mul (F.args_tuple_mul_2 _ _) M hS⟩)
 by_cases hs:xs=[]\/k=1
 ·have hcc:(its.toArray.isEmpty||k==1)=true:=by
   rcases hs with rfl | rfl
   ·cases r;rfl
   ·simp
  exact road (HT.mulT0 l its.toArray n k t dd sl g1 hcc) ⟨e,.ref l,H,I,rfl,q1 hs⟩
 ·have hx:xs≠[]:=λz=>hs (.inl z)
  have hk1:k≠1:=λz=>hs (.inr z)
  have hi:its≠[]:=λz=>by subst z;cases r;exact hx rfl
  have hcc:¬ (its.toArray.isEmpty||k==1)=true:=by simp[hi,hk1]
  by_cases hk:k<=0
  ·have hk':(decide (k<=0)||its.toArray.isEmpty)=true:=by simp[hk]
   have k0:k.toNat=0:=by omega
   refine road (HT.mulT1 l its.toArray n k t dd sl g1 hcc hk') ⟨e,.ref _,_,I.laid (o:=.tup []) (λ_ _ q=>Xh _ q) (Xm _) ⟨by simp,[],.nil,⟨_,Xr _ rfl,rfl,⟨0,rfl⟩,rfl⟩⟩,rfl,?_⟩
   have:=q2 ⟨hx,hk1⟩ s.heap.objs.size I.fresh
   rw[k0] at this
   exact this
  ·have hk':¬ (decide (k<=0)||its.toArray.isEmpty)=true:=by simp[hi];omega
   have km:(k.toNat:Int)=k:=by omega
   have hpr:((its.length:Int)*k)<=KY:=by rw[<- km,<- hlen];exact_mod_cast hz
   have hsl:((KY:Nat):Int)<=(2^63 - 1) / 8:=by decide
   have hf:=frep its k.toNat []
   rw[aaR] at hf
   have hf':List.foldl (λx1 x2=>x1++x2) #[] (Si k.toNat its.toArray)=(Si k.toNat its).flatten.toArray:=hf
   have hl2:(Si k.toNat its).flatten.length<=KY:=by rw[ya,<- hlen,aas];exact hz
   refine road (HT.mulT2 l its.toArray n k t dd sl g1 hcc hk' (by rw[Xg];omega) (by unfold Builtin.Tuple.tupleTooMany;rw[Xg];simp;omega) (by rw[hf',Xg];exact hl2)) ⟨e,?_⟩
   rw[hf']
   exact⟨.ref _,_,I.laid (o:=.tup (Si k.toNat xs).flatten) (λ_ _ q=>Xh _ q) (Xm _) ⟨by rw[ya,aas];exact hz,(Si k.toNat its).flatten,vrep r _,⟨_,Xr _ rfl,rfl,⟨0,rfl⟩,rfl⟩⟩,rfl,q2 ⟨hx,hk1⟩ _ I.fresh⟩
end
section
variable{X:Cx}
def Vn(n:Nat)(i:Int):Nat:=if i<0 then(i+(n:Int)).toNat else min i.toNat n
def kK{α:Type}(xs:List α)(i:Int)(y:α):List α:=xs.take (Vn xs.length i)++y::xs.drop (Vn xs.length i)
def OV:V->List V->Hp->VK->Prop:=λx vs H Q=>∃ l xs i y,x=.ref l/\vs=[.int i,y]/\H l=U (.lst xs)/\xs.length<KY/\-(2^62)<=i/\i<2^62/\Q .non (upd H l (.lst (kK xs i y)))
theorem GY:MtM X "list.insert" OV:=by
 intro pins s σ H x vs v us Q I rx rv h
 obtain⟨l,xs,i,y,rfl,rfl,hH,hz,h1,h2,q⟩:=h
 cases rx
 obtain⟨u1,u,rfl,⟨t,rfl⟩,ru⟩:=rv.two
 obtain⟨z,its,n,r,hl,e⟩:=I.lstM hH
 have hfit:¬ (!Builtin.List.listFitsIndex i)=true:=by
  rw[fitsIndex_both (by omega) (by omega)];exact Sn
 refine YZ abO ⟨_,e,rfl⟩ F.entry_list_insert (F.args_list_insert_3 _ _ _) (AutoListH.list_insert_list_int_val_1 l its.toArray n i t u hfit (by rw[Xg];omega)) ⟨e,?_⟩
 refine⟨.non,_,I.lset (its':=kK its i u) hH e ?_ (ys:=kK xs i y) ?_ ?_,rfl,q⟩
 ·unfold kK Vn
  simp
  rw[Zq (by rw[Yp];exact Xm _)]
 ·unfold kK
  rw[hl]
  exact(r.take _).append (.cons ru (r.drop _))
 ·unfold kK
  rw[XM,Xw,Yf,Yp]
  omega
end
end L2
namespace M
open L2
section
variable{X:Cx}{K:QF}{μ μ':Fp}{H H':Hp}{S:aa}
def cN(S:aa)(x y:D):Option D:=match x,y with
 | .tup xs,.int k=>if -(2^62)<=k/\k<2^62/\xs.length*k.toNat<=KY then U (.tup (Si k.toNat xs).flatten) else Y
 | .lst xs,.int k=>if -(2^62)<=k/\k<2^62/\xs.length*k.toNat<=KY then U (.lst (Si k.toNat xs).flatten) else Y
 | x,y=>VE S x y
theorem flat1{α:Type}(xs:List α):(Si 1 xs).flatten=xs:=by simp
theorem PD:OpR X (PN .Mult) (on X.K cN):=OpR.imp (OpR.or Uu (OpR.or Px Uo)) λx y H Q z0=>by
 obtain⟨μ,S,dx,dy,dz,hS,h1,h2,h3,post⟩:=z0
 unfold cN at h3
 split at h3
 ·rename_i xs k
  split at h3
  ·rename_i hk
   cases h3
   obtain⟨a,vs,rfl,q,r⟩:=h1.sqT
   have h1':=h1
   refine .inr (.inl ⟨a,k,vs,rfl,h2.int_inv,q,hk.1,hk.2.1,by rw[r.length];exact hk.2.2,λhs=>?_,λ_ p hp=>post.tup hS hp (Reps.flat _ r)⟩)
   have e:(Si k.toNat xs).flatten=xs:=by
    rcases hs with rfl | rfl
    ·cases r;simp
    ·exact flat1 xs
   rw[e] at post
   exact post.here hS h1'
  ·cases h3
 ·rename_i xs k
  split at h3
  ·rename_i hk
   cases h3
   obtain⟨a,vs,rfl,q,n,r⟩:=h1.sqL
   exact .inr (.inr ⟨a,k,vs,rfl,h2.int_inv,q,by omega,by omega,by rw[r.length];exact hk.2.2,λp hp=>post.lst hS hp (Reps.flat _ r)⟩)
  ·cases h3
 ·exact .inl ⟨μ,S,dx,dy,dz,hS,h1,h2,h3,post⟩
noncomputable abbrev MF:=D->List D->aa->Option (D×aa)
inductive OU(K:QF)(f:MF)(x:V)(vs:List V)(H:Hp)(Q:VK):Prop
 | mk (μ:Fp) (S:aa) (dx:D) (ds:List D) (d:D) (S':aa) (hS:SOk K μ S H) (h1:Rep K μ H x dx) (h2:Reps K μ H vs ds) (h3:f dx ds S=U (d,S')) (post:Post K μ H S' d Q)
theorem MtR.imp{id:String}{r':V->List V->Hp->VK->Prop}(h:MtR X id r)(i:∀ x xs H Q,r' x xs H Q->r x xs H Q):MtR X id r':=λpins s σ H x xs v us Q I rx rv q=>h pins s σ H x xs v us Q I rx rv (i x xs H Q q)
def bZ:MF:=λo ds S=>match o,ds with
 | .ref r,[y]=>match S[r]? with | some (.lst xs)=>if xs.length<KY then U (.non,S.set r (.lst (xs++[y]))) else Y | _=>Y
 | _,_=>Y
def jl:MF:=λo ds S=>match o,ds with
 | .ref r,[.int i,y]=>match S[r]? with | some (.lst xs)=>if xs.length<KY/\-(2^62)<=i/\i<2^62 then U (.non,S.set r (.lst (kK xs i y))) else Y | _=>Y
 | _,_=>Y
def yx:MF:=λo ds S=>match ds with
 | [x]=>(fO S o).bind λys=>if bS 40 x=true/\ys.all (bS 39)=true then U (.int (ys.countP λd=>iX d x),S) else Y
 | _=>Y
theorem Hc:MtR X "list.append" (OU X.K bZ):=MtR.imp vI λx vs H Q z0=>by
 obtain⟨μ,S,dx,ds,d,S',hS,r1,r2,h,post⟩:=z0
 unfold bZ at h
 split at h
 ·rename_i r y
  obtain⟨v,rfl,rv⟩:=r2.one
  cases q:S[r]? with
  | none=>rw[q] at h;cases h
  | some c=>
   rw[q] at h
   cases c with
   | dct _ _=>cases h
   | deep _ _=>cases h
   | lst xs=>
    dsimp only at h
    split at h
    ·rename_i hz
     cases h
     cases r1 with
     | @ref a _ h'=>
      obtain⟨ws,hw,rw'⟩:=hS.cell r a _ h' q
      obtain⟨e,s'⟩:=hS.write h' hw (rw'.append (.cons rv .nil))
      exact⟨a,ws,v,rfl,rfl,hw,by rw[rw'.length];exact hz,post _ _ μ e s' .non⟩
    ·cases h
 ·cases h
theorem LO{d:D}(r:Reps K μ H vs ds)(q:Rep K μ H v d):Reps K μ H (kK vs i v) (kK ds i d):=by
 unfold kK;rw[r.length]
 exact(r.take _).append (.cons q (r.drop _))
theorem Ha:MtR X "list.insert" (OU X.K jl):=MtR.imp GY λx vs H Q z0=>by
 obtain⟨μ,S,dx,ds,d,S',hS,r1,r2,h,post⟩:=z0
 unfold jl at h
 split at h
 ·rename_i r i y
  obtain⟨v,w,rfl,rv,rw0⟩:=r2.two
  cases q:S[r]? with
  | none=>rw[q] at h;cases h
  | some c=>
   rw[q] at h
   cases c with
   | dct _ _=>cases h
   | deep _ _=>cases h
   | lst xs=>
    dsimp only at h
    split at h
    ·rename_i hz
     cases h
     cases r1 with
     | @ref a _ h'=>
      obtain⟨ws,hw,rw'⟩:=hS.cell r a _ h' q
      obtain⟨e,s'⟩:=hS.write h' hw (LO (i:=i) rw' rw0)
      exact⟨a,ws,i,w,rfl,by rw[rv.int_inv],hw,by rw[rw'.length];exact hz.1,hz.2.1,hz.2.2,post _ _ μ e s' .non⟩
    ·cases h
 ·cases h
theorem qI{s:gV}(I:Inv X pins σ H s):∀ {vs:List V} {us:List bd} {ds:List D},Vals vs us->Reps X.K μ H vs ds->(∀ d∈ds,bS 39 d=true) ->
  us.countP (eN X.K μ H x)=ds.countP λd=>iX d x
 | _,_,_,.nil,.nil,_=>rfl
 | _,_,_,.cons rv tv,.cons r t,ok=>by
  rw[List.countP_cons,List.countP_cons,po I rv r (ok _ Xi),qI I tv t λd m=>ok d (Xf _ m)]
def sV(S:aa):D->Bool
 | .lst _=>true
 | .rol _=>true
 | .ref r=>match S[r]? with | some (.lst _)=>true | _=>false
 | _=>false
theorem oQ{d:D}(hS:SOk K μ S H)(r:Rep K μ H v d)(h:sV S d=true):∃ a vs ds,v=.ref a/\mT K H a vs/\fO S d=U ds/\Reps K μ H vs ds:=by
 cases r with
 | lst h' n r=>exact⟨_,_,_,rfl,.inl (.inl h'),rfl,r⟩
 | rol h' n r=>exact⟨_,_,_,rfl,.inl h',rfl,r⟩
 | krol h' r=>exact⟨_,_,_,rfl,.inr h',rfl,r⟩
 | @ref a i h'=>
  simp only[sV] at h
  cases q:S[i]? with
  | none=>rw[q] at h;cases h
  | some c=>
   rw[q] at h
   cases c with
   | dct _ _=>cases h
   | deep _ _=>cases h
   | lst xs=>
    obtain⟨vs,e,r⟩:=hS.cell i a _ h' q
    exact⟨a,vs,xs,rfl,.inl (.inl e),by simp only[fO,q],r⟩
 | _=>cases h
def yw:MF:=λo ds S=>if sV S o=true then yx o ds S else Y
theorem Kz(hu:X.A.units+64<cLine):MtR X "list.count" (OU X.K yw):=by
 intro pins s σ H x vs v us Q I rx rv h
 obtain⟨μ,S,dx,ds,d,S',hS,r1,r2,h,post⟩:=h
 unfold yw at h
 split at h
 ·rename_i hl
  unfold yx at h
  split at h
  ·rename_i y
   obtain⟨a,ws,es,rfl,hq,hse,re⟩:=oQ hS r1 hl
   rw[hse] at h
   dsimp only[Option.bind_some] at h
   split at h
   ·rename_i hk
    cases h
    cases rx
    obtain⟨w,rfl,rw0⟩:=r2.one
    obtain⟨u,rfl,ru⟩:=rv.one
    obtain⟨its,rvs,⟨⟨cls,dd,data,sl⟩,n,e,hc,hdd,hd⟩,hz⟩:=I.list hq
    simp only at hc hdd hd
    subst hc hdd hd
    have ok:=Xu.mp hk.2
    refine YZ F.slot_list_count ⟨_,e,rfl⟩ F.entry_list_count (F.args_list_count_2 _ _) (SeqAt.list_countAt a its.toArray n Y sl u (eN X.K μ H y)) ⟨e,λw' hw'=>?_,?_⟩
    ·exact gK I (by show X.A.units+1+40<cLine;omega) ru rw0 hk.1 rvs re ok w' (by simpa using hw')
    ·refine⟨.int _,H,I.tok _,⟨_,rfl⟩,?_⟩
     rw[qI I rvs re ok]
     exact post.here hS (.int _)
   ·cases h
  ·cases h
 ·cases h
def cZ(f:MF)(o:ME)(ms:MA):ME:=λenv S=>(o env S).bind λp=>if sV p.2 p.1=true then(ms env p.2).bind λq=>f p.1 q.1 q.2 else Y
theorem Rj{e:tx}{es:List tx}{name:Str}{id:String}{apos:Pos}(slot:Slot "list" name id)(hty:typeOf (.builtin id)=pure (.type "method_descriptor"))(hm:MtR X id (OU X.K f))(ho:DE X o mo)(ha:DA X (e::es) ms)
  (hbase:attributeBase o name X.env (eval o X.env)=eval o X.env)
  (hfew:((backTo cpos (KZ (e::es) X.env)).all (λx=>!x.1)&&(backToKw cpos (keywordEach [] X.env)).all (λx=>x.1.isSome)&&decide ((e::es).length+([]:List Keyword).length+(if ([]:List Keyword).isEmpty then 0 else 1)<30))=true)
  (hline:(apos.endLine==cpos.line)=true) (hs:KZ (e::es) X.env=(false,eval e X.env)::KZ es X.env) (hpl:(backTo cpos (KZ es X.env)).any (·.1)=false) :
  DE X (.Call (.Attribute o name apos) (e::es) [] cpos) (cZ f mo ms):=
 PE.imp (pe_bm F.plainAttrs_list slot hty hm ho ha hbase hfew hline hs hpl) λσ H Q z0=>by
  obtain⟨μ,S,env,d,S',hS,hE,h,post⟩:=z0
  obtain⟨⟨x,S1⟩,h1,h⟩:=Xc.mp h
  dsimp only at h
  split at h
  ·rename_i hl
   obtain⟨⟨xs,S2⟩,h2,h⟩:=Xc.mp h
   refine⟨μ,S,env,x,S1,hS,hE,h1,λv H1 μ1 e1 s1 r1=>⟨?_,μ1,S1,env,xs,S2,s1,hE.mono e1,h2,λvs H2 μ2 e2 s2 r2=>⟨μ2,S2,x,xs,d,S',s2,r1.mono e2,r2,h,(post.ext e1).ext e2⟩⟩⟩
   obtain⟨a,ws,es,rfl,hq,_,_⟩:=oQ s1 r1 hl
   exact .inl ⟨rfl,ws,hq⟩
  ·cases h
end
end M
namespace HT
open AutoSeq1 (wpAny_loadPart')
section
variable{prog:vx}{w:Gs}{A:IN}{E:bd->gV->Prop}{s:gV}
theorem DM{x:bd}{Q:bd->gV->Prop}(hit:s.heap.IsTupleIter it t i)(ht:s.heap.IsTuple t items)(hx:items[i]?=U x)
  (hQ:∀ h',h'.IsTupleIter it t (i+1)->Heap.SameBut it s.heap h'->Q x { s with heap:=h' }):Qs (model prog w) A (Builtin.SmallTypes.nextOf (.ref it)) Q E s:=by
 obtain⟨o,ho,hc,hd⟩:=id hit;obtain⟨ol,hol,_,nl,hdl⟩:=ht
 unfold Builtin.SmallTypes.nextOf
 refine Xd (Yg (name:=Str.ofString "__next__") hit.typeIs Zf (Yu Zf hit.typeIs aaS ?_ (aaH _)))
 show Qs _ _ (field (.ref it) 0 >>= _) _ _ s;refine Xd (XY ho hd (x:=.ref t) rfl ?_)
 show Qs _ _ (if (Value.ref t==Value.none)=true then _ else _) _ _ s;rw[if_neg (show ¬ ((Value.ref t==Value.none)=true) from Sn)]
 show Qs _ _ (field (.ref it) 1 >>= _) _ _ s;refine Xd (XY ho hd (x:=.int i 0) rfl ?_)
 show Qs _ _ (seqItems? (.ref t) >>= _) _ _ s;refine Xd (YY hol hdl ?_);simp only[YB,hx]
 refine Xd (Yb ho hd (by simp) (Xj ⟨x,rfl,Xj (hQ _ ⟨_,XG _ ho (YH (Yt hd _)),(Obj.cls_mapFields ..).trans hc,?_⟩ (Yk ..))⟩))
 rw[Yt hd];simp[rawInt]
theorem qe(hh:A.handled=Y)(hit:s.heap.IsTupleIter it t i)(ht:s.heap.IsTuple t items)(hx:items[i]?=Y)
  (hE:∀ h' e,Heap.ExtBut it s.heap h'->(∃ o,h'.get? e=U o/\o.cls=.type "StopIteration")->E (.ref e) { s with heap:=h' }):Qs (model prog w) A (Builtin.SmallTypes.nextOf (.ref it)) Q E s:=by
 obtain⟨o,ho,hc,hd⟩:=id hit;obtain⟨ol,hol,_,nl,hdl⟩:=ht
 unfold Builtin.SmallTypes.nextOf
 refine Xd (Yg (name:=Str.ofString "__next__") hit.typeIs Zf (Yu Zf hit.typeIs aaS ?_ (aaH _)))
 show Qs _ _ (field (.ref it) 0 >>= _) _ _ s;refine Xd (XY ho hd (x:=.ref t) rfl ?_)
 show Qs _ _ (if (Value.ref t==Value.none)=true then _ else _) _ _ s;rw[if_neg (show ¬ ((Value.ref t==Value.none)=true) from Sn)]
 show Qs _ _ (field (.ref it) 1 >>= _) _ _ s;refine Xd (XY ho hd (x:=.int i 0) rfl ?_)
 show Qs _ _ (seqItems? (.ref t) >>= _) _ _ s;refine Xd (YY hol hdl ?_);simp only[YB,hx]
 refine Xd (aal (Xd (Yb ho hd (by simp) ?_)));show Qs _ _ (newExc (.type "StopIteration") [] >>= _) _ _ _
 refine Xd ?_;simp only[newExc,newTuple];refine Xd (XI ?_ (by size_fits))
 refine Xd (m:=firstArgMember _ _) (aaJ (a:=Value.none) (by first | rfl | (simp only[firstArgMember];rfl)) (XI ?_ (by size_fits)))
 simp only[raiseNew];refine Xd (wpAny_handled ?_);(first | rw[show A.in1.handled=Y from hh] | rw[hh])
 refine Xd (Xj (wpAny_throw (hE _ _ (((Yk ..).extBut.push _).push _) ⟨_,Xr _ rfl,rfl⟩)))
end
theorem yH{A:IN}(hh:A.handled=Y)(it t:td)(hne:t≠it)(items:Array bd) :
  Draws prog w A it [it,t] items.size (λi v=>items[i]?=U v) (λi h=>h.IsTupleIter it t i/\h.IsTuple t items) where
 live:=λ_ _ st=>by obtain⟨o,ho,_⟩:=st.1;exact⟨o,ho⟩
 frame:=λ_ _ _ st hk=>by
  obtain⟨⟨o,ho,r⟩,⟨o2,ho2,r2⟩⟩:=st
  exact⟨⟨o,hk it (by simp) o ho,r⟩,⟨o2,hk t (by simp) o2 ho2,r2⟩⟩
 item:=λi s Q E hi st hQ=>DM st.1 st.2 (x:=items[i]) (by simp[hi]) λh' hit' hs'=>hQ _ h' s.toks (by simp[hi]) ⟨hit',st.2.extBut hs'.extBut hne⟩ hs'
 done:=λs Q E st hE=>qe hh st.1 st.2 (by simp) hE
theorem Il(l:td)(items:Array bd)(n:Nat)(dct:Option td)(sl:Array (Option bd)) :
  Meets (Builtin.«enumerate.__new__» ⟨[.type "enumerate",.ref l],[]⟩) (λ_ R s=>s.heap.get? l=U ⟨.type "tuple",dct,.seq items n,sl⟩ /\
   R (.ok (.ret (.ref (s.heap.push { cls:=.type "tuple_iterator",data:=.fields #[.ref l,.int 0 0] }).objs.size)))
    {s with heap:=(s.heap.push { cls:=.type "tuple_iterator",data:=.fields #[.ref l,.int 0 0] }).push { cls:=.type "enumerate",data:=.fields #[.none,.bool false,.ref s.heap.objs.size,rawInt 0,.none,.none] } }):=
 .of_wp λprog w A R s h=>by
  obtain⟨hp,g,d,tk,os⟩:=s
  obtain⟨hl,h⟩:=h
  have hsub:=sub_enumerate
  have hL:Heap.IsTuple (Shared.heap ⟨hp,g,d,tk,os⟩) l items:=⟨_,hl,rfl,n,rfl⟩
  wp_walk using wpAny_loadPart' hl
  refine wpAny_stack_any λst=>Xj ?_
  split
  ·rename_i c _ _ _ _ _
   cases(c==Value.type "enumerate")<;>(wp_walk using wpAny_loadPart' hl,Zm hL;exact⟨_,rfl,h⟩)
  ·wp_walk using wpAny_loadPart' hl,Zm hL
   exact⟨_,rfl,h⟩
end HT
namespace HT
section
variable{prog:vx}{w:Gs}{A:IN}{E:bd->gV->Prop}{s:gV}
theorem DX{Q:bd->gV->Prop}(hL:s.heap.IsTuple l items)
  (h:∀ h':Jq,IsEnum h' (s.heap.objs.size+1) s.heap.objs.size 0 .none->h'.IsTupleIter s.heap.objs.size l 0->h'.objs.size=s.heap.objs.size+2->(∀ b o,s.heap.get? b=U o->h'.get? b=U o)->Q (.ref (s.heap.objs.size+1)) { s with heap:=h' }) :
  Qs (model prog w) A (call (.type "enumerate") [.ref l]) Q E s:=by
 obtain⟨⟨c,dct,dt,sl⟩,hl,hc,n,hd⟩:=hL
 simp only at hc hd
 subst hc hd
 refine abl F.called_enumerate (by decide) (F.typeCall_enumerate_1 _) (F.newCall_enumerate_1 _) (λobj=>abv obj _) F.entry_enumerate_new (Il l items n dct sl) ⟨hl,?_⟩
 have hz:(s.heap.push { cls:=.type "tuple_iterator",data:=.fields #[.ref l,.int 0 0] }).objs.size=s.heap.objs.size+1:=YJ ..
 show _/\_
 rw[hz]
 have he:IsEnum ((s.heap.push { cls:=.type "tuple_iterator",data:=.fields #[.ref l,.int 0 0] }).push { cls:=.type "enumerate",data:=.fields #[.none,.bool false,.ref s.heap.objs.size,rawInt 0,.none,.none] }) (s.heap.objs.size+1) s.heap.objs.size 0 .none:=by
  have q:=Xr (s.heap.push { cls:=.type "tuple_iterator",data:=.fields #[.ref l,.int 0 0] }) (o:={ cls:=.type "enumerate",data:=.fields #[.none,.bool false,.ref s.heap.objs.size,rawInt 0,.none,.none] }) rfl
  rw[hz] at q
  exact q
 exact⟨⟨_,he,rfl⟩,h _ he ⟨_,Xh _ (Xr _ rfl),rfl,rfl⟩ (by rw[YJ,hz]) λb o x=>Xh _ (Xh _ x)⟩
end
end HT
namespace L2
section
variable{X:Cx}{pins:List (td×Obj)}{σ:St}{H:Hp}{s:gV}{h':Jq}
theorem Inv.turnLaid{fp:List td}{a:td}{o:HO}{t':Nat}(I:Inv X pins σ H s)(k:∀ b o,b∉fp->s.heap.get? b=U o->h'.get? b=U o)(hf:∀ b∈fp,qo X pins H b)(hp:s.heap.objs.size<=a)
  (new:ObjOk X.prog X.w (upd H a o) h' a o):Inv X pins σ (upd H a o) { s with heap:=h',toks:=t' }:=by
 have hn:H a=Y:=I.hok.fresh hp
 have st:∀ b u,H b=U u->upd H a o b=U u:=λb u e=>(aO (bR e hn)).trans e
 have nfp:∀ b u,H b=U u->b∉fp:=λb u e z=>by rw[(hf b z).1] at e;cases e
 refine I.step (g':=s.gens) (d':=s.drawn) (ch:=fp) (λb hb=>?_) (λb o _ _ hc e _=>k b o hc e) (λb o _ _ hc e _=>⟨o.slots,k b o hc e⟩) (λb u _ e n=>?_) (λb o hc e=>⟨o,k b o hc e⟩) (λb xs e=>st b _ e) (λb o u e=>st b _ e) (λb ps e=>⟨#[],by rw[st b _ e];simp⟩) (λm hm=>?_) (λb u e=>?_) I.bare
 ·obtain⟨f0,f1,f2,f3,f4,f5⟩:=hf b hb
  exact⟨f3,f1,f4,f5⟩
 ·rw[aO (XT (XB (Xo e) hp))];exact n
 ·obtain⟨o',es,ep,ho,r⟩:=hm
  exact⟨o',es,ep,k _ o' (λz=>(hf _ z).2.1 rfl) ho,r⟩
 ·by_cases hb:b=a
  ·subst hb
   rw[aV] at e
   cases e
   exact new
  ·rw[aO hb] at e
   refine(I.hok b u e).stay (λc v hc q=>k c v ?_ q) (λ_ q=>st _ _ q) λ_ _ q=>st _ _ q
   rcases hc with z | z
   ·rw[z];exact nfp b u e
   ·exact nfp c _ z
theorem Inv.turnedL{fp:List td}{t':Nat}(I:Inv X pins σ H s)(k:∀ b o,b∉fp->s.heap.get? b=U o->h'.get? b=U o)(hf:∀ b∈fp,qo X pins H b):Inv X pins σ H { s with heap:=h',toks:=t' }:=by
 have nfp:∀ b u,H b=U u->b∉fp:=λb u e z=>by rw[(hf b z).1] at e;cases e
 refine I.step (g':=s.gens) (d':=s.drawn) (ch:=fp) (λb hb=>?_) (λb o _ _ hc e _=>k b o hc e) (λb o _ _ hc e _=>⟨o.slots,k b o hc e⟩) (λb u _ e n=>n) (λb o hc e=>⟨o,k b o hc e⟩) (λb xs e=>e) (λb o u e=>e) (λb ps e=>⟨#[],by rw[e];simp⟩) (λm hm=>?_) (λb u e=>?_) I.bare
 ·obtain⟨f0,f1,f2,f3,f4,f5⟩:=hf b hb
  exact⟨f3,f1,f4,f5⟩
 ·obtain⟨o',es,ep,ho,r⟩:=hm
  exact⟨o',es,ep,k _ o' (λz=>(hf _ z).2.1 rfl) ho,r⟩
 ·refine(I.hok b u e).stay (λc v hc q=>k c v ?_ q) (λ_ q=>q) λ_ _ q=>q
  rcases hc with z | z
  ·rw[z];exact nfp b u e
  ·exact nfp c _ z
def Ite(K:QF)(a:td):It:=
 ⟨λi H=>∃ xs x,lv K H a xs/\xs[i]?=U x,λi H x H'=>∃ p v,x=.ref p/\H p=Y/\H'=upd H p (.tup [.int (i:Nat),v])/\∀ xs,lv K H a xs->xs[i]?=U v,λi H=>∃ xs,lv K H a xs/\xs.length<=i⟩
theorem Gp{K:QF}{k:Nat}(a e it:td)(hei:e≠it):Ef P w K (.Tuple es k pos) (Ite K a) [e,it] e (λi h=>(∃ old,IsEnum h e it i old)/\h.IsTupleIter it a i) where
 mem:=by simp
 obj:=λi h st b hb=>by
  obtain⟨⟨old,he⟩,⟨o,ho,hc,hd⟩⟩:=st
  simp only[XD,XZ,ZH] at hb
  rcases hb with rfl | rfl
  ·exact⟨_,he,λv z=>by cases z⟩
  ·exact⟨o,ho,λv z=>by rw[hd] at z;cases z⟩
 keep:=λi h h' st kk=>by
  obtain⟨⟨old,he⟩,⟨o,ho,r⟩⟩:=st
  exact⟨⟨old,kk e (by simp) _ he⟩,⟨o,kk it (by simp) _ ho,r⟩⟩
 item:=by
  intro X hP hw hK hc i pins s σ H E I hf st hg
  subst hP hw hK
  obtain⟨xs,x,hq,hx⟩:=hg
  obtain⟨its,rv,p,hz⟩:=I.tuple hq
  have hT:s.heap.IsTuple a its.toArray:=p
  have hh:=I.ok.hd hc
  have ne1:a≠e:=λz=>by
   obtain⟨⟨old,he⟩,_⟩:=st
   obtain⟨o,ho,hcl,_⟩:=hT
   rw[z,he] at ho;cases ho;exact absurd (show Value.type "enumerate" = Value.type "tuple" from hcl) (by decide)
  have ne2:a≠it:=λz=>by
   obtain⟨_,⟨o',ho',hc',_⟩⟩:=st
   obtain⟨o,ho,hcl,_⟩:=hT
   rw[z,ho'] at ho;cases ho;rw[hc'] at hcl;exact absurd hcl (by decide)
  have W:=WalksT.enumerateD (HT.yH (prog:=X.prog) (w:=X.w) (A:=X.A.in1) hh it a ne2 its.toArray) e hei (by simp;exact⟨hei,λz=>ne1 z.symm⟩) (by simp)
  have hi:i<its.toArray.size:=by rw[Xg,<- rv.length];exact(Xe.mp hx).1
  obtain⟨⟨old,he⟩,hit⟩:=st
  have Te:s.heap.objs.size≠e:=Ye (Xo he)
  have Ti:s.heap.objs.size≠it:=by
   obtain⟨o,ho,_⟩:=hit
   exact Ye (Xo ho)
  refine wpAny_pyNext_enum_itemD (HT.yH (prog:=X.prog) (w:=X.w) (A:=X.A.in1) hh it a ne2 its.toArray) he ⟨hit,hT⟩ hi hei (by simp;exact⟨hei,λz=>ne1 z.symm⟩) λy h1 tk hy ho st1 hT1 hsz kk=>⟨_,rfl,?_⟩
  refine W.go es k pos i s.heap.objs.size _ _ _ ⟨⟨y,ho⟩,st1,Te,Ti⟩ λh2 st2 kk2=>?_
  generalize hTT:s.heap.objs.size=T at *
  obtain⟨u,hu,ru⟩:=rv.get hx
  have ey:y=u:=by
   rw[show its.toArray[i]?=its[i]? by simp,hu] at hy
   exact(XC hy).symm
  subst ey
  have apT:T∉[e,it]:=by simp;exact⟨Te,Ti⟩
  have kall:∀ b o,b∉[e,it]->s.heap.get? b=U o->h2.get? b=U o:=λb o hb q=>kk2 b o hb (kk b o (λz=>hb (by simp[z])) (λz=>hb (by simp[z])) q)
  have hT2:IsTupN h2 T #[.int i tk,y]:=⟨_,kk2 T _ apT hT1,rfl,⟨_,rfl⟩,rfl⟩
  have hTs:s.heap.objs.size<=T:=aau hTT
  refine⟨.ref T,upd H T (.tup [.int (i:Nat),x]),I.turnLaid kall hf hTs ⟨by show 2<=KY;decide,[.int i tk,y],.cons ⟨_,rfl⟩ (.cons ru .nil),hT2⟩,rfl,⟨T,x,rfl,I.hok.fresh hTs,rfl,λys hy=>by rw[I.tuple_inj hy hq];exact hx⟩,⟨st2.1,st2.2.1⟩,λb hb=>?_⟩
  have nb:b≠T:=λz=>apT (by rw[<- z];exact hb)
  rw[aO nb]
  exact(hf b hb).1
 done:=by
  intro X hP hw hK hc i pins s σ H E I hf st hg
  subst hP hw hK
  obtain⟨xs,hq,hx⟩:=hg
  obtain⟨its,rv,p,hz⟩:=I.tuple hq
  have hT:s.heap.IsTuple a its.toArray:=p
  have hh:=I.ok.hd hc
  have ne1:a≠e:=λz=>by
   obtain⟨⟨old,he⟩,_⟩:=st
   obtain⟨o,ho,hcl,_⟩:=hT
   rw[z,he] at ho;cases ho;exact absurd (show Value.type "enumerate" = Value.type "tuple" from hcl) (by decide)
  have D':Draws X.prog X.w X.A.in1 it [it,a] i (λ_ _=>True) (λj h=>j=i/\h.IsTupleIter it a i/\h.IsTuple a its.toArray):=
   {live:=λ_ _ q=>by obtain⟨_,⟨o,ho,_⟩,_⟩:=q;exact⟨o,ho⟩
    frame:=λ_ _ _ q hk=>by
     obtain⟨q0,⟨o,ho,r⟩,⟨o2,ho2,r2⟩⟩:=q
     exact⟨q0,⟨o,hk it (by simp) o ho,r⟩,⟨o2,hk a (by simp) o2 ho2,r2⟩⟩
    item:=λj _ _ _ hj q _=>absurd q.1 (XT hj)
    done:=λs Q E q hE=>HT.qe hh q.2.1 q.2.2 (by simp;have:=rv.length;omega) hE }
  have W:=WalksT.enumerateD D' e hei (by simp;exact⟨hei,λz=>ne1 z.symm⟩) (by simp)
  refine W.done s _ _ ⟨st.1,rfl,st.2,hT⟩ λh2 tk kk=>⟨rfl,I.turnedL kk hf⟩
 self:=λA i s Q E st h=>by
  obtain⟨⟨old,he⟩,_⟩:=st
  exact wpAny_pyIter_enum he h
def iEnum(K:QF)(t:TA):TI:=λσ H R=>t σ H λxs H1=>∃ a,xs=[.ref a]/\(∃ ys,lv K H1 a ys)/\R (Ite K a) H1
end
section
variable{X:Cx}
theorem Pm{a:tx}{k:Nat}{p:Pos}(hg:Gl X "enumerate")(hm:X.mg "enumerate" = Y)(ha:PA X [a] ta)(hs:KZ [a] X.env=[(false,eval a X.env)]) :
  PI X (.Tuple es k tp) (.Call (.Name "enumerate" p) [a] [] pos) (iEnum X.K ta):=by
 intro pins s σ H R I h
 refine Call_ (nJ I hg hm boot_enumerate (YD (dA (ha pos pins s σ H _ I h) λus s1 ⟨vs,H1,I1,r1,q1⟩=>?_) hs rfl))
 obtain⟨t,rfl,⟨ys,hq⟩,q⟩:=q1
 obtain⟨u,rfl,ru⟩:=r1.one
 cases ru
 obtain⟨its,rv,pt,hz⟩:=I1.tuple hq
 refine HT.DX pt λh' he hi hsz kk=>wpAny_pyIter_enum he ?_
 refine⟨s1.heap.objs.size+1,[s1.heap.objs.size+1,s1.heap.objs.size],_,_,H1,rfl,I1.kept (t':=s1.toks) kk,Gp t _ _ (Nat.succ_ne_self _),⟨⟨_,he⟩,hi⟩,λb hb=>?_,q⟩
 simp only[XD,XZ,ZH] at hb
 rcases hb with rfl | rfl
 ·exact I1.fpOk (Nat.le_succ _) (I1.hok.fresh (Nat.le_succ _))
 ·exact I1.fpOk (Xm _) (I1.hok.fresh (Xm _))
end
end L2
namespace M
open L2
section
variable{X:Cx}{K:QF}{μ μ':Fp}{H H':Hp}{S:aa}
def fL:Nat->List D->List D
 | _,[]=>[]
 | i,x::r=>.tup [.int (i:Nat),x]::fL (i+1) r
theorem mF:∀ (i:Nat) (xs:List D),(fL i xs).length=xs.length
 | _,[]=>rfl
 | i,_::r=>by rw[fL,Xw,Xw,mF (i+1) r]
theorem wn:∀ (k:Nat) (xs:List D) (i:Nat) (d:D),(fL k xs)[i]?=U d->∃ x,xs[i]?=U x/\d=.tup [.int ((k+i:Nat):Int),x]
 | _,[],i,d,h=>by simp[fL] at h
 | k,x::r,0,d,h=>by simp[fL] at h;exact⟨x,rfl,h.symm⟩
 | k,x::r,i+1,d,h=>by
  rw[fL,ZK] at h
  obtain⟨y,h1,h2⟩:=wn (k+1) r i d h
  refine⟨y,by simpa using h1,?_⟩
  rw[h2,show k+1+i=k+(i+1) by omega]
theorem HC(r:Rep K μ H (.ref a) (.tup xs)):Ei K μ H (Ite K a) (fL 0 xs):=λμ' H' S' e s i=>by
 have r':=r.monoP e
 obtain⟨b,vs,hb,hq,rs⟩:=r'.sqT
 cases hb
 refine⟨λd hd=>?_,λhl=>⟨vs,hq,by rw[rs.length];rw[mF] at hl;exact hl⟩⟩
 obtain⟨x,hx,rfl⟩:=wn 0 xs i d hd
 obtain⟨v,hv,rv⟩:=rs.get hx
 refine⟨⟨vs,v,hq,hv⟩,λy H2 hy=>?_⟩
 obtain⟨p,w,rfl,hp,rfl,hw⟩:=hy
 have ew:w=v:=by have:=hw vs hq;rw[hv] at this;exact(XC this).symm
 subst ew
 obtain⟨e2,s2⟩:=s.laid (o:=.tup [.int (i:Nat),w]) hp
 refine⟨e2,s2,?_⟩
 rw[ZP]
 exact .tup aV (s.notMem hp) (.cons (.int _) (.cons (rv.mono e2) .nil))
def hX(ms:MA):MA:=λenv S=>(ms env S).bind λp=>match p.1 with | [.tup xs]=>U (fL 0 xs,p.2) | _=>Y
theorem Re{a:tx}{k:Nat}{p:Pos}(hm:X.mg "enumerate" = Y)(ha:DA X [a] ms)(hg:Gl X "enumerate")(hs:KZ [a] X.env=[(false,eval a X.env)]) :
  DI X (.Tuple es k tp) (.Call (.Name "enumerate" p) [a] [] pos) (hX ms):=PI.imp (Pm hg hm ha hs) λσ H R z0=>by
 obtain⟨μ,S,env,xs,S',hS,hE,h,post⟩:=z0
 obtain⟨⟨ds,S1⟩,h1,h⟩:=Xc.mp h
 refine⟨μ,S,env,ds,S1,hS,hE,h1,λvs H1 μ1 e1 s1 r1=>?_⟩
 dsimp only at h
 split at h
 ·rename_i ys
  cases h
  obtain⟨v,rfl,rv⟩:=r1.one
  have rv':=rv
  obtain⟨b,ws,rfl,hq,rs⟩:=rv.sqT
  exact⟨b,rfl,⟨ws,hq⟩,post _ H1 μ1 e1 s1 (HC rv')⟩
 ·cases h
end
end M
namespace M
open L2
section
variable{X:Cx}{K:QF}{μ:Fp}{H:Hp}{S:aa}
theorem Reps.reverse:∀ {vs:List V} {ds:List D},Reps K μ H vs ds->Reps K μ H vs.reverse ds.reverse
 | _,_,.nil=>.nil
 | _,_,.cons h t=>by rw[ZE,ZE];exact(Reps.reverse t).append (.cons h .nil)
end
end M
namespace M
open L2
def nR:List D->Option (List Int)
 | []=>U []
 | .int i::r=>(nR r).bind λns=>U (i::ns)
 | _::_=>Y
theorem qw:∀ {ds:List D} {ns:List Int},nR ds=U ns->ds=ns.map D.int
 | [],ns,h=>by cases h;rfl
 | .int i::r,ns,h=>by
  obtain⟨ms,h1,h2⟩:=Xc.mp h
  cases h2
  rw[Xp,<- qw h1]
 | .non::_,ns,h=>by cases h
 | .bl _::_,ns,h=>by cases h
 | .str _::_,ns,h=>by cases h
 | .tup _::_,ns,h=>by cases h
 | .lst _::_,ns,h=>by cases h
 | .rol _::_,ns,h=>by cases h
 | .dct _ _::_,ns,h=>by cases h
 | .ref _::_,ns,h=>by cases h
section
variable{X:Cx}{K:QF}{μ:Fp}{H:Hp}{S:aa}
theorem vD:∀ {vs:List V} {ns:List Int},Reps K μ H vs (ns.map D.int)->vs=ns.map V.int
 | _,[],.nil=>rfl
 | _,n::ns,.cons h t=>by rw[h.int_inv,vD t];rfl
def qx(S:aa)(d:D):Option (List Int):=if sV S d=true then(fO S d).bind λds=>(nR ds).bind λns=>if ns.length<64 then U ns else Y else Y
theorem Dr{d:D}{ns:List Int}(hS:SOk K μ S H)(r:Rep K μ H v d)(h:qx S d=U ns):∃ a,v=.ref a/\mT K H a (ns.map V.int)/\ns.length<64:=by
 unfold qx at h
 split at h
 ·rename_i hl
  obtain⟨a,vs,ds,rfl,hq,hs,rs⟩:=oQ hS r hl
  rw[hs] at h
  have h:((nR ds).bind λns=>if ns.length<64 then U ns else Y)=U ns:=h
  obtain⟨ms,h1,h2⟩:=Xc.mp h
  split at h2
  ·rename_i h3
   cases h2
   have:=qw h1
   subst this
   exact⟨a,rfl,by rw[<- vD rs];exact hq,h3⟩
  ·cases h2
 ·cases h
end
section
variable{X:Cx}{K:QF}{μ:Fp}{H:Hp}{S:aa}
def lr(i j:Nat)(ms:MA):MS:=λenv S=>(ms env S).bind λp=>match p.1 with | [v,w]=>U (.nx ((env.set i (U v)).set j (U w)) p.2) | _=>Y
theorem Wa{i j:Nat}{x y:Str}{a b:tx}{pt:Pos}(hc:X.calm=true)(hN:X.N.Nodup)(hi:X.N[i]?=U x)(hj:X.N[j]?=U y)(hij:i≠j)
  (hx:X.env.scope.names.lookup x=U .local) (hy:X.env.scope.names.lookup y=U .local) (ha:DA X [a,b] ms)
  (hw:swappedStores [.Tuple [.Name x px,.Name y py] kt pt] (.Tuple [a,b] k2 pt2) X.env=pure (U [x,y])) :
  DS X (.Assign [.Tuple [.Name x px,.Name y py] kt pt] (.Tuple [a,b] k2 pt2) pos) (lr i j ms):=
 PS.imp (TR hc hN hi hj hij hx hy ha hw rfl) λE σ H z0=>by
  obtain⟨μ,S,env,o,hS,hE,h,post⟩:=z0
  obtain⟨⟨ds,S1⟩,h1,h⟩:=Xc.mp h
  refine⟨μ,S,env,ds,S1,hS,hE,h1,λvs H1 μ1 e1 s1 r1=>?_⟩
  dsimp only at h
  split at h
  ·rename_i v w
   cases h
   obtain⟨v',w',rfl,rv,rw'⟩:=r1.two
   exact⟨v',w',rfl,post _ H1 μ1 e1 s1 (((hE.mono e1).set rv i).set rw' j)⟩
  ·cases h
def si:tx->Bool
 | .Starred _ _=>false
 | _=>true
theorem Jo{px py pt:Pos}(hb:X.env.blockKind=.function)(hx:X.env.scope.names.lookup x=U .local)(hy:X.env.scope.names.lookup y=U .local)(hne:(x==y)=false)
  (hl:(py.line==px.line)=true) (ha:si a=true) (hb':si b=true) (hf:(foldedForSure 8 a&&foldedForSure 8 b)=false) (hcn:(constantsAlone 8 a&&constantsAlone 8 b)=false) :
  swappedStores [.Tuple [.Name x px,.Name y py] kt pt] (.Tuple [a,b] k2 pt2) X.env=pure (U [x,y]):=by
 have hkx:X.env.kindOf x=U .local:=hx
 have hky:X.env.kindOf y=U .local:=hy
 have hs:([a,b].any λe=>match e with | .Starred ..=>true | _=>false)=false:=by
  have q:∀ e:tx,si e=true->(match e with | .Starred ..=>true | _=>false:Bool)=false:=λe h=>by cases e<;>first | rfl | cases h
  simp only[Ze,List.any_nil,q a ha,q b hb',Bool.or_self]
 have hxy:(y==x)=false:=by
  rw[Bool.eq_false_iff] at hne ⊢
  intro z;exact hne (by rw[beq_iff_eq] at z ⊢;exact z.symm)
 have hed:([x,y]:List Str).eraseDups=[x,y]:=by simp[List.eraseDups_cons,hxy]
 have hl':py.line=px.line:=by simpa using hl
 unfold swappedStores
 simp only[Xw,Zy,hb]
 simp only[Ym,List.all_nil,ZL,hf,hcn]
 generalize hg:List.filterMap _ [Expr.Name x px,Expr.Name y py]=L
 have hL:L=[x,y]:=by
  rw[<- hg]
  have e0:(Option.map (λ(x:tx)=>x.pos.line) [Expr.Name x px,Expr.Name y py].head?).getD 0=px.line:=rfl
  rw[XS,XS]
  have e1:(Expr.Name x px).pos=px:=rfl
  simp[hkx,hky,e0,e1,hl']
 subst hL
 rw[if_neg (by decide)]
 rw[if_neg (by
  intro z
  have:([a,b].any λe=>match e with | .Starred ..=>true | _=>false)=true:=z
  rw[hs] at this;cases this)]
 rw[if_neg (by rw[hed];simp),if_neg Sn,if_neg Sn]
end
end M
namespace HT
section
variable{prog:vx}{w:Gs}{A:IN}{E:bd->gV->Prop}{s:gV}
structure Ee(z TI TO i1 i2:td)(fp1 fp2:List td):Prop where
 TIz:TI≠z
 TOz:TO≠z
 TITO:TI≠TO
 z1:z∉fp1
 z2:z∉fp2
 o1:TO∉fp1
 o2:TO∉fp2
 i12:i1∉fp2
 i21:i2∉fp1
 t1:TI≠i1
 t2:TI≠i2
 m1:i1∈fp1
 m2:i2∈fp2
theorem Gk{TI TO:td}{Q:bd->gV->Prop}
  (Z:Ee z TI TO i1 i2 fp1 fp2) (D1:Draws prog w A i1 fp1 n1 P1 St1) (D2:Draws prog w A i2 fp2 n2 P2 St2) (hz:IsZip s.heap z TI TO .none) (hTI:IsPair s.heap TI (.ref i1) (.ref i2)) (hTO:IsPair s.heap TO a b)
  (s1:St1 k1 s.heap) (s2:St2 k2 s.heap) (l1:k1<n1) (l2:k2<n2)
  (hQ:∀ x y h' tk,P1 k1 x->P2 k2 y->IsZip h' z TI TO (rawInt s.heap.objs.size)->IsPair h' TO x y->St1 (k1+1) h'->St2 (k2+1) h'->IsPair h' s.heap.objs.size x y->h'.objs.size=s.heap.objs.size+1 ->
   (∀ c o,c≠z->c≠TO->c≠i1->c≠i2->s.heap.get? c=U o->h'.get? c=U o)->Q (.ref s.heap.objs.size) { s with heap:=h',toks:=tk }) :
  Qs (model prog w) A (Builtin.«zip.__next__» ⟨[.ref z],[]⟩) (λfin s'=>∃ v,fin=.done (.ret v)/\Q v s') E s:=by
 unfold Builtin.«zip.__next__»
 show Qs _ _ (field (.ref z) 2 >>= _) _ _ s
 refine Xd (XY hz rfl (x:=.bool false) rfl ?_)
 refine Xd (XY hz rfl (x:=.ref TI) rfl ?_)
 refine Xd (YY hTI rfl ?_)
 show Qs _ _ (Builtin.SmallTypes.ownedTupleIsFree (.ref z) >>= _) _ _ s
 refine Xd ?_
 unfold Builtin.SmallTypes.ownedTupleIsFree
 refine Xd (XY hz rfl (x:=.none) rfl (Xj ?_))
 show Qs _ _ (rule "zip.__next__.owned-tuple-again" >>= _) _ _ s
 refine Xd (aal ?_)
 refine Xd (XY hz rfl (x:=.ref TO) rfl ?_)
 refine Xd (Yb hz rfl (by simp) ?_)
 refine Xd ?_
 show Qs _ _ (forIn [((Value.ref i1,0):bd×Nat),(Value.ref i2,1)] _ _) _ _ _
 rw[YO]
 refine Xd ?_
 refine Xd (aac ?_)
 refine Xd ?_
 have ez:(s.heap.update z (Obj.mapFields λvs=>vs.setIfInBounds 0 .ellipsis)).get? z=U { cls:=.type "zip",data:=.fields #[.ellipsis,.bool false,.bool false,.ref TI,.ref TO] }:=XG _ hz rfl
 have ne0:∀ c,c≠z->(s.heap.update z (Obj.mapFields λvs=>vs.setIfInBounds 0 .ellipsis)).get? c=s.heap.get? c:=λc hc=>Yr _ _ _ _ hc
 have sz0:(s.heap.update z (Obj.mapFields λvs=>vs.setIfInBounds 0 .ellipsis)).objs.size=s.heap.objs.size:=(Yk ..).1
 generalize (s.heap.update z (Obj.mapFields λvs=>vs.setIfInBounds 0 .ellipsis))=h0 at ez ne0 sz0 ⊢
 have zi1:z≠i1:=λe=>Z.z1 (e ▸ Z.m1)
 have zi2:z≠i2:=λe=>Z.z2 (e ▸ Z.m2)
 have oi1:TO≠i1:=λe=>Z.o1 (e ▸ Z.m1)
 have oi2:TO≠i2:=λe=>Z.o2 (e ▸ Z.m2)
 refine D1.item k1 { s with heap:=h0 } _ _ l1 (D1.frame _ _ _ s1 λc hc o ho=>(ne0 c (λe=>Z.z1 (e ▸ hc))).trans ho) λx h1 tk1 px st1 sb1=>Xj ?_
 have o1:h1.get? TO=U { cls:=.type "tuple",data:=.seq #[a,b] }:=(sb1.2 TO oi1).trans ((ne0 TO Z.TOz).trans hTO)
 show Qs _ _ (seqItems? (Value.ref TO) >>= _) _ _ _
 refine Xd (YY o1 rfl ?_)
 refine Xd (aaI o1 rfl ?_ (by show 2<=KY;decide) (by simp;decide))
 refine Xd (wpAny_letGo (Xj ?_))
 have eo:(h1.update TO (Obj.mapSeq λvs=>vs.setIfInBounds 0 x)).get? TO=U { cls:=.type "tuple",data:=.seq #[x,b] }:=XG _ o1 rfl
 have ne1:∀ c,c≠TO->(h1.update TO (Obj.mapSeq λvs=>vs.setIfInBounds 0 x)).get? c=h1.get? c:=λc hc=>Yr _ _ _ _ hc
 have sz1:(h1.update TO (Obj.mapSeq λvs=>vs.setIfInBounds 0 x)).objs.size=s.heap.objs.size:=(Yk ..).1.trans (sb1.1.trans sz0)
 generalize (h1.update TO (Obj.mapSeq λvs=>vs.setIfInBounds 0 x))=h2 at eo ne1 sz1 ⊢
 show Qs _ _ (forIn [((Value.ref i2,1):bd×Nat)] _ _) _ _ _
 rw[YO]
 refine Xd ?_
 refine Xd (aac ?_)
 refine Xd ?_
 refine D2.item k2 { s with heap:=h2,toks:=tk1 } _ _ l2 (D2.frame _ _ _ s2 λc hc o ho=>(ne1 c (λe=>Z.o2 (e ▸ hc))).trans ((sb1.2 c (λe=>Z.i12 (e ▸ hc))).trans ((ne0 c (λe=>Z.z2 (e ▸ hc))).trans ho))) λy h3 tk2 py st2 sb2=>Xj ?_
 have o2:h3.get? TO=U { cls:=.type "tuple",data:=.seq #[x,b] }:=(sb2.2 TO oi2).trans eo
 show Qs _ _ (seqItems? (Value.ref TO) >>= _) _ _ _
 refine Xd (YY o2 rfl ?_)
 refine Xd (aaI o2 rfl ?_ (by show 2<=KY;decide) (by simp;decide))
 refine Xd (wpAny_letGo (Xj ?_))
 have eo2:(h3.update TO (Obj.mapSeq λvs=>vs.setIfInBounds 1 y)).get? TO=U { cls:=.type "tuple",data:=.seq #[x,y] }:=XG _ o2 rfl
 have ne2:∀ c,c≠TO->(h3.update TO (Obj.mapSeq λvs=>vs.setIfInBounds 1 y)).get? c=h3.get? c:=λc hc=>Yr _ _ _ _ hc
 have sz2:(h3.update TO (Obj.mapSeq λvs=>vs.setIfInBounds 1 y)).objs.size=s.heap.objs.size:=(Yk ..).1.trans (sb2.1.trans sz1)
 generalize (h3.update TO (Obj.mapSeq λvs=>vs.setIfInBounds 1 y))=h4 at eo2 ne2 sz2 ⊢
 show Qs _ _ (pure _) _ _ _
 refine Xj ?_
 show Qs _ _ (seqItems? (Value.ref TO) >>= _) _ _ _
 refine Xd (YY eo2 rfl ?_)
 show Qs _ _ (newTuple [x,y] >>= _) _ _ _
 refine Xd ?_
 simp only[newTuple]
 refine XI ?_ (by size_fits)
 have ez4:h4.get? z=U { cls:=.type "zip",data:=.fields #[.ellipsis,.bool false,.bool false,.ref TI,.ref TO] }:=(ne2 z Z.TOz.symm).trans ((sb2.2 z zi2).trans ((ne1 z Z.TOz.symm).trans ((sb1.2 z zi1).trans ez)))
 have ez5:=Xh { cls:=.type "tuple",data:=.seq #[x,y] } ez4
 have et5:=Xr h4 (o:={ cls:=.type "tuple",data:=.seq #[x,y] }) rfl
 have kk5:∀ c o,h4.get? c=U o->(h4.push { cls:=.type "tuple",data:=.seq #[x,y] }).get? c=U o:=λc o=>Xh _
 have sz5:(h4.push { cls:=.type "tuple",data:=.seq #[x,y] }).objs.size=s.heap.objs.size+1:=by rw[YJ,sz2]
 dsimp only
 show Qs _ _ _ _ _ { s with heap:=h4.push { cls:=.type "tuple",data:=.seq #[x,y] },toks:=tk2 }
 generalize (h4.push { cls:=.type "tuple",data:=.seq #[x,y] })=h5 at ez5 et5 kk5 sz5 ⊢
 rw[sz2] at et5 ⊢
 show Qs _ _ ((setField (.ref z) 0 (rawInt s.heap.objs.size) >>= λ_=>setField (.ref z) 1 (.bool false)) >>= _) _ _ _
 refine Xd (Xd (Yb ez5 rfl (by simp) ?_))
 have ez6:(h5.update z (Obj.mapFields λvs=>vs.setIfInBounds 0 (rawInt s.heap.objs.size))).get? z=U { cls:=.type "zip",data:=.fields #[rawInt s.heap.objs.size,.bool false,.bool false,.ref TI,.ref TO] }:=XG _ ez5 rfl
 have ne6:∀ c,c≠z->(h5.update z (Obj.mapFields λvs=>vs.setIfInBounds 0 (rawInt s.heap.objs.size))).get? c=h5.get? c:=λc hc=>Yr _ _ _ _ hc
 have sz6:(h5.update z (Obj.mapFields λvs=>vs.setIfInBounds 0 (rawInt s.heap.objs.size))).objs.size=s.heap.objs.size+1:=(Yk ..).1.trans sz5
 generalize (h5.update z (Obj.mapFields λvs=>vs.setIfInBounds 0 (rawInt s.heap.objs.size)))=h6 at ez6 ne6 sz6 ⊢
 refine Yb ez6 rfl (by simp) ?_
 have ez7:(h6.update z (Obj.mapFields λvs=>vs.setIfInBounds 1 (.bool false))).get? z=U { cls:=.type "zip",data:=.fields #[rawInt s.heap.objs.size,.bool false,.bool false,.ref TI,.ref TO] }:=XG _ ez6 rfl
 have ne7:∀ c,c≠z->(h6.update z (Obj.mapFields λvs=>vs.setIfInBounds 1 (.bool false))).get? c=h6.get? c:=λc hc=>Yr _ _ _ _ hc
 have sz7:(h6.update z (Obj.mapFields λvs=>vs.setIfInBounds 1 (.bool false))).objs.size=s.heap.objs.size+1:=(Yk ..).1.trans sz6
 generalize (h6.update z (Obj.mapFields λvs=>vs.setIfInBounds 1 (.bool false)))=h7 at ez7 ne7 sz7 ⊢
 have k57:∀ c o,c≠z->h4.get? c=U o->h7.get? c=U o:=λc o hc ho=>(ne7 c hc).trans ((ne6 c hc).trans (kk5 c o ho))
 have newz:s.heap.objs.size≠z:=Ye (Xo hz)
 refine Xj ⟨_,rfl,hQ x y h7 tk2 px py ez7 (k57 TO _ Z.TOz eo2) ?_ ?_ ((ne7 _ newz).trans ((ne6 _ newz).trans et5)) sz7 λc o c1 c2 c3 c4 ho=>k57 c o c1 ((ne2 c c2).trans ((sb2.2 c c4).trans ((ne1 c c2).trans ((sb1.2 c c3).trans ((ne0 c c1).trans ho)))))⟩
 ·exact D1.frame _ _ _ st1 λc hc o ho=>k57 c o (λe=>Z.z1 (e ▸ hc)) ((ne2 c (λe=>Z.o1 (e ▸ hc))).trans ((sb2.2 c (λe=>Z.i21 (e ▸ hc))).trans ((ne1 c (λe=>Z.o1 (e ▸ hc))).trans ho)))
 ·exact D2.frame _ _ _ st2 λc hc o ho=>k57 c o (λe=>Z.z2 (e ▸ hc)) ((ne2 c (λe=>Z.o2 (e ▸ hc))).trans ho)
theorem Gm{TI TO:td}
  (Z:Ee z TI TO i1 i2 fp1 fp2) (D1:Draws prog w A i1 fp1 n1 P1 St1) (hz:IsZip s.heap z TI TO .none) (hTI:IsPair s.heap TI (.ref i1) (.ref i2)) (hTO:IsPair s.heap TO a b)
  (s1:St1 n1 s.heap)
  (hE:∀ h' e tk,(∀ c o,c≠z->c≠TO->c≠i1->c≠i2->s.heap.get? c=U o->h'.get? c=U o)->(∃ o,h'.get? e=U o/\o.cls=.type "StopIteration")->E (.ref e) { s with heap:=h',toks:=tk }) :
  Qs (model prog w) A (Builtin.«zip.__next__» ⟨[.ref z],[]⟩) Q E s:=by
 unfold Builtin.«zip.__next__»
 show Qs _ _ (field (.ref z) 2 >>= _) _ _ s
 refine Xd (XY hz rfl (x:=.bool false) rfl ?_)
 refine Xd (XY hz rfl (x:=.ref TI) rfl ?_)
 refine Xd (YY hTI rfl ?_)
 show Qs _ _ (Builtin.SmallTypes.ownedTupleIsFree (.ref z) >>= _) _ _ s
 refine Xd ?_
 unfold Builtin.SmallTypes.ownedTupleIsFree
 refine Xd (XY hz rfl (x:=.none) rfl (Xj ?_))
 show Qs _ _ (rule "zip.__next__.owned-tuple-again" >>= _) _ _ s
 refine Xd (aal ?_)
 refine Xd (XY hz rfl (x:=.ref TO) rfl ?_)
 refine Xd (Yb hz rfl (by simp) ?_)
 refine Xd ?_
 show Qs _ _ (forIn [((Value.ref i1,0):bd×Nat),(Value.ref i2,1)] _ _) _ _ _
 rw[YO]
 refine Xd ?_
 refine Xd (aac ?_)
 refine Xd ?_
 have ez:(s.heap.update z (Obj.mapFields λvs=>vs.setIfInBounds 0 .ellipsis)).get? z=U { cls:=.type "zip",data:=.fields #[.ellipsis,.bool false,.bool false,.ref TI,.ref TO] }:=XG _ hz rfl
 have ne0:∀ c,c≠z->(s.heap.update z (Obj.mapFields λvs=>vs.setIfInBounds 0 .ellipsis)).get? c=s.heap.get? c:=λc hc=>Yr _ _ _ _ hc
 generalize (s.heap.update z (Obj.mapFields λvs=>vs.setIfInBounds 0 .ellipsis))=h0 at ez ne0 ⊢
 have zi1:z≠i1:=λe=>Z.z1 (e ▸ Z.m1)
 have zi2:z≠i2:=λe=>Z.z2 (e ▸ Z.m2)
 have oi1:TO≠i1:=λe=>Z.o1 (e ▸ Z.m1)
 have oi2:TO≠i2:=λe=>Z.o2 (e ▸ Z.m2)
 refine D1.done { s with heap:=h0 } _ _ (D1.frame _ _ _ s1 λc hc o ho=>(ne0 c (λe=>Z.z1 (e ▸ hc))).trans ho) λh1 e xb ⟨o,ho,hc⟩=>?_
 have z1:=xb z _ zi1 ez
 refine Yb z1 rfl (by simp) (hE _ e s.toks (λc o c1 c2 c3 c4 ho=>(Yr _ _ _ _ c1).trans (xb c o c3 ((ne0 c c1).trans ho))) ?_)
 refine⟨o,(Yr _ _ _ _ λh=>?_).trans ho,hc⟩
 rw[h,z1] at ho;cases ho;exact absurd (show Value.type "zip" = Value.type "StopIteration" from hc) (by decide)
theorem zH{TI TO:td}{Q:Option bd->gV->Prop}
  (Z:Ee z TI TO i1 i2 fp1 fp2) (D1:Draws prog w A.in1 i1 fp1 n1 P1 St1) (D2:Draws prog w A.in1 i2 fp2 n2 P2 St2) (hz:IsZip s.heap z TI TO .none) (hTI:IsPair s.heap TI (.ref i1) (.ref i2)) (hTO:IsPair s.heap TO a b)
  (s1:St1 k1 s.heap) (s2:St2 k2 s.heap) (l1:k1<n1) (l2:k2<n2)
  (hQ:∀ x y h' tk,P1 k1 x->P2 k2 y->IsZip h' z TI TO (rawInt s.heap.objs.size)->IsPair h' TO x y->St1 (k1+1) h'->St2 (k2+1) h'->IsPair h' s.heap.objs.size x y->h'.objs.size=s.heap.objs.size+1 ->
   (∀ c o,c≠z->c≠TO->c≠i1->c≠i2->s.heap.get? c=U o->h'.get? c=U o)->Q (U (.ref s.heap.objs.size)) { s with heap:=h',toks:=tk }) :
  Qs (model prog w) A (pyNext (.ref z)) Q E s:=by
 unfold pyNext
 refine Xd (Zw ?_)
 refine Yg (name:=Str.ofString "__next__") (T:="zip") ?_ ZT (Yu ZT ?_ F.entry_zip_next (Gk Z D1 D2 hz hTI hTO s1 s2 l1 l2 λx y h' tk a1 a2 a3 a4 a5 a6 a7 a8 a9=>Xj (hQ x y h' tk a1 a2 a3 a4 a5 a6 a7 a8 a9)) (F.args_zip_next_1 _))<;>exact⟨_,hz,rfl⟩
end
end HT
namespace HT
section
variable{prog:vx}{w:Gs}{A:IN}{E:bd->gV->Prop}{s:gV}
theorem xh{TI TO:td}{Q:Option bd->gV->Prop}
  (Z:Ee z TI TO i1 i2 fp1 fp2) (D1:Draws prog w A.in1 i1 fp1 n1 P1 St1) (hz:IsZip s.heap z TI TO .none) (hTI:IsPair s.heap TI (.ref i1) (.ref i2)) (hTO:IsPair s.heap TO a b)
  (s1:St1 n1 s.heap) (hQ:∀ h' tk,(∀ c o,c≠z->c≠TO->c≠i1->c≠i2->s.heap.get? c=U o->h'.get? c=U o)->Q Y { s with heap:=h',toks:=tk }) :
  Qs (model prog w) A (pyNext (.ref z)) Q E s:=by
 unfold pyNext
 refine Xd (Zw ?_)
 refine Yg (name:=Str.ofString "__next__") (T:="zip") ⟨_,hz,rfl⟩ ZT (Yu ZT ⟨_,hz,rfl⟩ F.entry_zip_next (Gm Z D1 hz hTI hTO s1 λh' e tk kk hc=>?_) (F.args_zip_next_1 _))
 show Qs _ _ (isInstance (.ref e) (.type "StopIteration") >>= _) _ _ _
 exact Xd (aax (T:="StopIteration") (b:=true) hc (by first | exact sub_StopIteration | rfl) (Xj (hQ h' tk kk)))
end
theorem IW(l1 l2:td)(xs ys:Array bd) :
  Meets (Builtin.«zip.__new__» ⟨[.type "zip",.ref l1,.ref l2],[]⟩) (λ_ R s=>s.heap.IsTuple l1 xs/\s.heap.IsTuple l2 ys /\
   ∀ h',IsZip h' (s.heap.objs.size+4) (s.heap.objs.size+2) (s.heap.objs.size+3) .none->IsPair h' (s.heap.objs.size+2) (.ref s.heap.objs.size) (.ref (s.heap.objs.size+1))->IsPair h' (s.heap.objs.size+3) .none .none ->
    h'.IsTupleIter s.heap.objs.size l1 0->h'.IsTupleIter (s.heap.objs.size+1) l2 0->h'.objs.size=s.heap.objs.size+5->(∀ c o,s.heap.get? c=U o->h'.get? c=U o)->R (.ok (.ret (.ref (s.heap.objs.size+4)))) { s with heap:=h' }):=
 .of_wp λprog w A R s h=>by
  obtain⟨hl,hl2,h⟩:=h
  unfold Builtin.«zip.__new__»
  refine Xd ?_
  show Qs _ _ (isType (.type "zip") >>= _) _ _ _
  refine Xd (aaJ (a:=true) (by first | rfl | simp[isType]) ?_)
  show Qs _ _ (isSubtype (.type "zip") (.type "zip") >>= _) _ _ _
  refine Xd (aaJ sub_zip (Xj ?_))
  show Qs _ _ (Builtin.SmallTypes.iterAll [.ref l1,.ref l2] >>= _) _ _ _
  refine Xd ?_
  unfold Builtin.SmallTypes.iterAll
  refine Xd ?_
  rw[YO]
  refine Xd (Xd (Yx (Zm hl (Xj ?_))))
  have g1:=Xr s.heap (o:={ cls:=.type "tuple_iterator",data:=.fields #[.ref l1,.int 0 0] }) rfl
  have k1:∀ c o,s.heap.get? c=U o->(s.heap.push { cls:=.type "tuple_iterator",data:=.fields #[.ref l1,.int 0 0] }).get? c=U o:=λc o=>Xh _
  have z1:(s.heap.push { cls:=.type "tuple_iterator",data:=.fields #[.ref l1,.int 0 0] }).objs.size=s.heap.objs.size+1:=YJ ..
  generalize s.heap.push { cls:=.type "tuple_iterator",data:=.fields #[.ref l1,.int 0 0] } = h1 at g1 k1 z1 ⊢
  have hl2':h1.IsTuple l2 ys:=by obtain⟨o,ho,r⟩:=hl2;exact⟨o,k1 _ _ ho,r⟩
  show Qs _ _ (forIn [Value.ref l2] _ _) _ _ _
  rw[YO]
  refine Xd (Xd (Yx (Zm hl2' (Xj ?_))))
  dsimp only
  have g2:=Xr h1 (o:={ cls:=.type "tuple_iterator",data:=.fields #[.ref l2,.int 0 0] }) rfl
  have k2:∀ c o,h1.get? c=U o->(h1.push { cls:=.type "tuple_iterator",data:=.fields #[.ref l2,.int 0 0] }).get? c=U o:=λc o=>Xh _
  have z2:(h1.push { cls:=.type "tuple_iterator",data:=.fields #[.ref l2,.int 0 0] }).objs.size=s.heap.objs.size+2:=by rw[YJ,z1]
  generalize h1.push { cls:=.type "tuple_iterator",data:=.fields #[.ref l2,.int 0 0] } = h2 at g2 k2 z2 ⊢
  rw[z1] at g2 ⊢
  show Qs _ _ (pure _) _ _ _
  refine Xj (Xj ?_)
  show Qs _ _ (newTuple [.ref s.heap.objs.size,.ref (s.heap.objs.size+1)] >>= _) _ _ _
  refine Xd ?_
  simp only[newTuple]
  refine XI ?_ (by size_fits)
  have g3:=Xr h2 (o:={ cls:=.type "tuple",data:=.seq #[.ref s.heap.objs.size,.ref (s.heap.objs.size+1)] }) rfl
  have k3:∀ c o,h2.get? c=U o->(h2.push { cls:=.type "tuple",data:=.seq #[.ref s.heap.objs.size,.ref (s.heap.objs.size+1)] }).get? c=U o:=λc o=>Xh _
  have z3:(h2.push { cls:=.type "tuple",data:=.seq #[.ref s.heap.objs.size,.ref (s.heap.objs.size+1)] }).objs.size=s.heap.objs.size+3:=by rw[YJ,z2]
  dsimp only
  show Qs _ _ _ _ _ { s with heap:=h2.push { cls:=.type "tuple",data:=.seq #[.ref s.heap.objs.size,.ref (s.heap.objs.size+1)] } }
  generalize h2.push { cls:=.type "tuple",data:=.seq #[.ref s.heap.objs.size,.ref (s.heap.objs.size+1)] } = h3 at g3 k3 z3 ⊢
  rw[z2] at g3 ⊢
  refine Xd ?_
  show Qs _ _ (newObj (.type "tuple") (.seq #[.none,.none])) _ _ _
  refine XI ?_ (by size_fits)
  have g4:=Xr h3 (o:={ cls:=.type "tuple",data:=.seq #[.none,.none] }) rfl
  have k4:∀ c o,h3.get? c=U o->(h3.push { cls:=.type "tuple",data:=.seq #[.none,.none] }).get? c=U o:=λc o=>Xh _
  have z4:(h3.push { cls:=.type "tuple",data:=.seq #[.none,.none] }).objs.size=s.heap.objs.size+4:=by rw[YJ,z3]
  dsimp only
  generalize h3.push { cls:=.type "tuple",data:=.seq #[.none,.none] } = h4 at g4 k4 z4 ⊢
  rw[z3] at g4 ⊢
  refine Xd ?_
  show Qs _ _ (newObj (.type "zip") (.fields #[.none,.bool false,.bool false,.ref (s.heap.objs.size+2),.ref (s.heap.objs.size+3)])) _ _ _
  refine XI ?_ (by size_fits)
  have g5:=Xr h4 (o:={ cls:=.type "zip",data:=.fields #[.none,.bool false,.bool false,.ref (s.heap.objs.size+2),.ref (s.heap.objs.size+3)] }) rfl
  have k5:∀ c o,h4.get? c=U o->(h4.push { cls:=.type "zip",data:=.fields #[.none,.bool false,.bool false,.ref (s.heap.objs.size+2),.ref (s.heap.objs.size+3)] }).get? c=U o:=λc o=>Xh _
  have z5:(h4.push { cls:=.type "zip",data:=.fields #[.none,.bool false,.bool false,.ref (s.heap.objs.size+2),.ref (s.heap.objs.size+3)] }).objs.size=s.heap.objs.size+5:=by rw[YJ,z4]
  dsimp only
  generalize h4.push { cls:=.type "zip",data:=.fields #[.none,.bool false,.bool false,.ref (s.heap.objs.size+2),.ref (s.heap.objs.size+3)] } = h5 at g5 k5 z5 ⊢
  rw[z4] at g5 ⊢
  refine Xj ⟨_,rfl,h h5 g5 (k5 _ _ (k4 _ _ g3)) (k5 _ _ g4) ⟨_,k5 _ _ (k4 _ _ (k3 _ _ (k2 _ _ g1))),rfl,rfl⟩ ⟨_,k5 _ _ (k4 _ _ (k3 _ _ g2)),rfl,rfl⟩ z5 λc o e=>k5 _ _ (k4 _ _ (k3 _ _ (k2 _ _ (k1 _ _ e))))⟩
section
variable{prog:vx}{w:Gs}{A:IN}{E:bd->gV->Prop}{s:gV}
theorem IA{Q:bd->gV->Prop}(hL:s.heap.IsTuple l1 xs)(hL2:s.heap.IsTuple l2 ys)
  (h:∀ h':Jq,IsZip h' (s.heap.objs.size+4) (s.heap.objs.size+2) (s.heap.objs.size+3) .none->IsPair h' (s.heap.objs.size+2) (.ref s.heap.objs.size) (.ref (s.heap.objs.size+1))->IsPair h' (s.heap.objs.size+3) .none .none ->
    h'.IsTupleIter s.heap.objs.size l1 0->h'.IsTupleIter (s.heap.objs.size+1) l2 0->h'.objs.size=s.heap.objs.size+5->(∀ c o,s.heap.get? c=U o->h'.get? c=U o)->Q (.ref (s.heap.objs.size+4)) { s with heap:=h' }) :
  Qs (model prog w) A (call (.type "zip") [.ref l1,.ref l2]) Q E s:=by
 refine abl F.called_zip (by decide) (F.typeCall_zip_2 _ _) (F.newCall_zip_2 _ _) (λobj=>F.args_object_init_3 obj _ _) F.entry_zip_new (IW l1 l2 xs ys) ⟨hL,hL2,λh' a b c d e f g=>?_⟩
 exact⟨⟨_,a,rfl⟩,h h' a b c d e f g⟩
end
end HT
namespace L2
section
def Itz(K:QF)(a b:td):It:=
 ⟨λi H=>∃ xs ys x y,lv K H a xs/\lv K H b ys/\xs[i]?=U x/\ys[i]?=U y,
 λi H x H'=>∃ p v u,x=.ref p/\H p=Y/\H'=upd H p (.tup [v,u])/\(∀ xs,lv K H a xs->xs[i]?=U v)/\∀ ys,lv K H b ys->ys[i]?=U u,
 λi H=>∃ xs ys,lv K H a xs/\lv K H b ys/\xs.length<=i⟩
def TnZ(z TI TO i1 i2 a b:td)(i:Nat)(h:Jq):Prop:=IsZip h z TI TO .none/\IsPair h TI (.ref i1) (.ref i2)/\(∃ u v,IsPair h TO u v)/\h.IsTupleIter i1 a i/\h.IsTupleIter i2 b i
theorem No{A:IN}(hh:A.handled=Y)(it a:td)(items:Array bd)(i:Nat)(hx:items[i]?=Y) :
  Draws prog w A it [it,a] i (λ_ _=>True) (λj h=>j=i/\h.IsTupleIter it a i/\h.IsTuple a items):=
 {live:=λ_ _ q=>by obtain⟨_,⟨o,ho,_⟩,_⟩:=q;exact⟨o,ho⟩
  frame:=λ_ _ _ q hk=>by
   obtain⟨q0,⟨o,ho,r⟩,⟨o2,ho2,r2⟩⟩:=q
   exact⟨q0,⟨o,hk it (by simp) o ho,r⟩,⟨o2,hk a (by simp) o2 ho2,r2⟩⟩
  item:=λj _ _ _ hj q _=>absurd q.1 (XT hj)
  done:=λs Q E q hE=>HT.qe hh q.2.1 q.2.2 hx hE }
theorem Jf{K:QF}{k:Nat}(a b z TI TO i1 i2:td)(Z:HT.Ee z TI TO i1 i2 [i1,a] [i2,b]):Ef P w K (.Tuple es k pos) (Itz K a b) [z,TI,TO,i1,i2] z (TnZ z TI TO i1 i2 a b) where
 mem:=by simp
 obj:=λi h st c hc=>by
  obtain⟨hz,hTI,⟨u,v,hTO⟩,⟨o,ho,hc1,hd⟩,⟨o2,ho2,hc2,hd2⟩⟩:=st
  simp only[XD,XZ,ZH] at hc
  rcases hc with rfl | rfl | rfl | rfl | rfl
  ·exact⟨_,hz,λv z=>by cases z⟩
  ·exact⟨_,hTI,λv z=>by cases z⟩
  ·exact⟨_,hTO,λv z=>by cases z⟩
  ·exact⟨o,ho,λv z=>by rw[hd] at z;cases z⟩
  ·exact⟨o2,ho2,λv z=>by rw[hd2] at z;cases z⟩
 keep:=λi h h' st kk=>by
  obtain⟨hz,hTI,⟨u,v,hTO⟩,⟨o,ho,r⟩,⟨o2,ho2,r2⟩⟩:=st
  exact⟨kk z (by simp) _ hz,kk TI (by simp) _ hTI,⟨u,v,kk TO (by simp) _ hTO⟩,⟨o,kk i1 (by simp) _ ho,r⟩,⟨o2,kk i2 (by simp) _ ho2,r2⟩⟩
 item:=by
  intro X hP hw hK hc i pins s σ H E I hf st hg
  subst hP hw hK
  obtain⟨xs,ys,x,y,hq,hq2,hx,hy⟩:=hg
  obtain⟨its,rv,p,hz0⟩:=I.tuple hq
  obtain⟨its2,rv2,p2,hz2⟩:=I.tuple hq2
  have hT:s.heap.IsTuple a its.toArray:=p
  have hT2:s.heap.IsTuple b its2.toArray:=p2
  have hh:=I.ok.hd hc
  obtain⟨hz,hTI,⟨u0,v0,hTO⟩,hit1,hit2⟩:=st
  have li:i<its.toArray.size:=by rw[Xg,<- rv.length];exact(Xe.mp hx).1
  have li2:i<its2.toArray.size:=by rw[Xg,<- rv2.length];exact(Xe.mp hy).1
  have nea:a≠i1:=λe=>by
   obtain⟨o',ho',hc',_⟩:=hit1
   obtain⟨o,ho,hcl,_⟩:=hT
   rw[e,ho'] at ho;cases ho;rw[hc'] at hcl;exact absurd hcl (by decide)
  have neb:b≠i2:=λe=>by
   obtain⟨o',ho',hc',_⟩:=hit2
   obtain⟨o,ho,hcl,_⟩:=hT2
   rw[e,ho'] at ho;cases ho;rw[hc'] at hcl;exact absurd hcl (by decide)
  have Tn:∀ c,c∈[z,TI,TO,i1,i2]->s.heap.objs.size≠c:=λc hc=>by
   simp only[XD,XZ,ZH] at hc
   rcases hc with rfl | rfl | rfl | rfl | rfl
   ·exact Ye (Xo hz)
   ·exact Ye (Xo hTI)
   ·exact Ye (Xo hTO)
   ·obtain⟨o,ho,_⟩:=hit1;exact Ye (Xo ho)
   ·obtain⟨o,ho,_⟩:=hit2;exact Ye (Xo ho)
  refine HT.zH Z (HT.yH (prog:=X.prog) (w:=X.w) (A:=X.A.in1) hh i1 a nea its.toArray) (HT.yH (prog:=X.prog) (w:=X.w) (A:=X.A.in1) hh i2 b neb its2.toArray) hz hTI hTO ⟨hit1,hT⟩ ⟨hit2,hT2⟩ li li2 λx' y' h1 tk hx' hy' ez eo st1 st2 hT1 hsz kk=>⟨_,rfl,?_⟩
  refine wpAny_letOwnedTupleGo_zip ez λh2 ez2 sb=>?_
  generalize hTT:s.heap.objs.size=T at *
  obtain⟨u,hu,ru⟩:=rv.get hx
  obtain⟨u2,hu2,ru2⟩:=rv2.get hy
  have ex:x'=u:=by
   rw[show its.toArray[i]?=its[i]? by simp,hu] at hx'
   exact(XC hx').symm
  have ey:y'=u2:=by
   rw[show its2.toArray[i]?=its2[i]? by simp,hu2] at hy'
   exact(XC hy').symm
  subst ex ey
  have kall:∀ c o,c∉[z,TI,TO,i1,i2]->s.heap.get? c=U o->h2.get? c=U o:=λc o hb q=>by
   simp only[XD,XZ,ZH,not_or] at hb
   exact(sb.2 c hb.1).trans (kk c o hb.1 hb.2.2.1 hb.2.2.2.1 hb.2.2.2.2 q)
  have hTp:IsTupN h2 T #[x',y']:=⟨_,(sb.2 T (Tn z (by simp))).trans hT1,rfl,⟨_,rfl⟩,rfl⟩
  have hTs:s.heap.objs.size<=T:=aau hTT
  have TIi:TI≠i1/\TI≠i2:=⟨Z.t1,Z.t2⟩
  refine⟨.ref T,upd H T (.tup [x,y]),I.turnLaid kall hf hTs ⟨by show 2<=KY;decide,[x',y'],.cons ru (.cons ru2 .nil),hTp⟩,rfl,⟨T,x,y,rfl,I.hok.fresh hTs,rfl,λzs hz=>by rw[I.tuple_inj hz hq];exact hx,λzs hz=>by rw[I.tuple_inj hz hq2];exact hy⟩,⟨ez2,(sb.2 TI Z.TIz).trans (kk TI _ Z.TIz Z.TITO Z.t1 Z.t2 hTI),⟨x',y',(sb.2 TO Z.TOz).trans eo⟩,?_,?_⟩,λc hc=>?_⟩
  ·obtain⟨⟨o,ho,r⟩,_⟩:=st1
   exact⟨o,(sb.2 i1 (λe=>Z.z1 (by simp[e]))).trans ho,r⟩
  ·obtain⟨⟨o,ho,r⟩,_⟩:=st2
   exact⟨o,(sb.2 i2 (λe=>Z.z2 (by simp[e]))).trans ho,r⟩
  ·rw[aO (Tn c hc).symm]
   exact(hf c hc).1
 done:=by
  intro X hP hw hK hc i pins s σ H E I hf st hg
  subst hP hw hK
  obtain⟨xs,ys,hq,hq2,hl⟩:=hg
  obtain⟨its,rv,p,hz0⟩:=I.tuple hq
  obtain⟨its2,rv2,p2,hz2⟩:=I.tuple hq2
  have hT:s.heap.IsTuple a its.toArray:=p
  have hT2:s.heap.IsTuple b its2.toArray:=p2
  have hh:=I.ok.hd hc
  obtain⟨hz,hTI,⟨u0,v0,hTO⟩,hit1,hit2⟩:=st
  have fin:∀ h' tk,(∀ c o,c≠z->c≠TO->c≠i1->c≠i2->s.heap.get? c=U o->h'.get? c=U o)->(Y:Option bd)=Y/\Inv X pins σ H { s with heap:=h',toks:=tk }:=λh' tk kk=>⟨rfl,I.turnedL (fp:=[z,TI,TO,i1,i2]) (λc o hb q=>by
   simp only[XD,XZ,ZH,not_or] at hb
   exact kk c o hb.1 hb.2.2.1 hb.2.2.2.1 hb.2.2.2.2 q) hf⟩
  exact HT.xh Z (No (prog:=X.prog) (w:=X.w) (A:=X.A.in1) hh i1 a its.toArray i (by simp;have:=rv.length;omega)) hz hTI hTO ⟨rfl,hit1,hT⟩ fin
 self:=λA i s Q E st h=>wpAny_pyIter_zip st.1 h
def iZip(K:QF)(t:TA):TI:=λσ H R=>t σ H λxs H1=>∃ a b,xs=[.ref a,.ref b]/\(∃ ys,lv K H1 a ys)/\(∃ ys,lv K H1 b ys)/\R (Itz K a b) H1
variable{X:Cx}
theorem IV{n t t2:Nat}(h1:t<n)(h2:t2<n):HT.Ee (n+4) (n+2) (n+3) n (n+1) [n,t] [n+1,t2]:=by
 constructor<;>simp only[XD,XZ,ZH,not_or,ne_eq,true_or]<;>(try (show ¬ ((_:Nat)=_)))<;>(try omega)
 all_goals (refine⟨?_,?_⟩<;>(show ¬ ((_:Nat)=_))<;>omega)
theorem Os{n b:Nat}(h:b∈[n+4,n+2,n+3,n,n+1]):n<=b:=by
 simp only[XD,XZ,ZH] at h
 omega
theorem TZ{a b:tx}{k:Nat}{p:Pos}(hg:Gl X "zip")(hm:X.mg "zip" = Y)(ha:PA X [a,b] ta)(hs:KZ [a,b] X.env=[(false,eval a X.env),(false,eval b X.env)])(hs2:KZ [b] X.env=[(false,eval b X.env)]) :
  PI X (.Tuple es k tp) (.Call (.Name "zip" p) [a,b] [] pos) (iZip X.K ta):=by
 intro pins s σ H R I h
 refine Call_ (nJ I hg hm boot_zip (YD (dA (ha pos pins s σ H _ I h) λus s1 ⟨vs,H1,I1,r1,q1⟩=>?_) (by rw[hs,hs2]) (by rw[hs2];rfl)))
 obtain⟨t,t2,rfl,⟨ys,hq⟩,⟨ys2,hq2⟩,q⟩:=q1
 obtain⟨u,v,rfl,ru,rv⟩:=r1.two
 cases ru
 cases rv
 obtain⟨its,rv,pt,hz⟩:=I1.tuple hq
 obtain⟨its2,rv2,pt2,hz2⟩:=I1.tuple hq2
 have l1:t<s1.heap.objs.size:=by obtain⟨o,ho,_⟩:=pt;exact Xo ho
 have l2:t2<s1.heap.objs.size:=by obtain⟨o,ho,_⟩:=pt2;exact Xo ho
 refine HT.IA pt pt2 λh' hz hTI hTO hi1 hi2 hsz kk=>wpAny_pyIter_zip hz ?_
 have Z:HT.Ee (s1.heap.objs.size+4) (s1.heap.objs.size+2) (s1.heap.objs.size+3) s1.heap.objs.size (s1.heap.objs.size+1) [s1.heap.objs.size,t] [s1.heap.objs.size+1,t2]:=IV l1 l2
 refine⟨s1.heap.objs.size+4,[s1.heap.objs.size+4,s1.heap.objs.size+2,s1.heap.objs.size+3,s1.heap.objs.size,s1.heap.objs.size+1],_,_,H1,rfl,I1.kept (t':=s1.toks) kk,Jf t t2 _ _ _ _ _ Z,⟨hz,hTI,⟨_,_,hTO⟩,hi1,hi2⟩,λb hb=>?_,q⟩
 have hb':s1.heap.objs.size<=b:=Os hb
 exact I1.fpOk hb' (I1.hok.fresh hb')
end
end L2
namespace M
open L2
section
variable{X:Cx}{K:QF}{μ μ':Fp}{H H':Hp}{S:aa}
def jr:List D->List D->List D
 | x::r,y::q=>.tup [x,y]::jr r q
 | _,_=>[]
theorem zf:∀ (xs ys:List D) (i:Nat),xs.length<=ys.length->(jr xs ys).length<=i->xs.length<=i
 | [],_,i,_,_=>Zj _
 | _::_,[],i,h,_=>by simp at h
 | x::r,y::q,0,_,h=>by simp[jr] at h
 | x::r,y::q,i+1,hl,h=>Nat.succ_le_succ (zf r q i (Zp hl) (Zp h))
theorem zg:∀ (xs ys:List D) (i:Nat) (d:D),(jr xs ys)[i]?=U d->∃ x y,xs[i]?=U x/\ys[i]?=U y/\d=.tup [x,y]
 | [],_,i,d,h=>by simp[jr] at h
 | _::_,[],i,d,h=>by simp[jr] at h
 | x::r,y::q,0,d,h=>by simp[jr] at h;exact⟨x,y,rfl,rfl,h.symm⟩
 | x::r,y::q,i+1,d,h=>by
  rw[jr,ZK] at h
  simpa using zg r q i d h
theorem LI(r:Rep K μ H (.ref a) (.tup xs))(q:Rep K μ H (.ref b) (.tup ys))(hz:xs.length<=ys.length):Ei K μ H (Itz K a b) (jr xs ys):=λμ' H' S' e s i=>by
 have r':=r.monoP e
 have q':=q.monoP e
 obtain⟨b1,vs,hb,hq,rs⟩:=r'.sqT
 cases hb
 obtain⟨b2,ws,hb,hq2,qs⟩:=q'.sqT
 cases hb
 refine⟨λd hd=>?_,λhl=>⟨vs,ws,hq,hq2,by rw[rs.length];exact zf _ _ _ hz hl⟩⟩
 obtain⟨x,y,hx,hy,rfl⟩:=zg xs ys i d hd
 obtain⟨v,hv,rv⟩:=rs.get hx
 obtain⟨u,hu,ru⟩:=qs.get hy
 refine⟨⟨vs,ws,v,u,hq,hq2,hv,hu⟩,λy H2 hy=>?_⟩
 obtain⟨p,v',u',rfl,hp,rfl,hw,hw2⟩:=hy
 have ev:v'=v:=by have:=hw vs hq;rw[hv] at this;exact(XC this).symm
 have eu:u'=u:=by have:=hw2 ws hq2;rw[hu] at this;exact(XC this).symm
 subst ev eu
 obtain⟨e2,s2⟩:=s.laid (o:=.tup [v',u']) hp
 refine⟨e2,s2,?_⟩
 exact .tup aV (s.notMem hp) (.cons (rv.mono e2) (.cons (ru.mono e2) .nil))
def nH(ms:MA):MA:=λenv S=>(ms env S).bind λp=>match p.1 with | [.tup xs,.tup ys]=>if xs.length<=ys.length then U (jr xs ys,p.2) else Y | _=>Y
theorem Wi{a b:tx}{k:Nat}{p:Pos}(hm:X.mg "zip" = Y)(ha:DA X [a,b] ms)(hg:Gl X "zip")(hs:KZ [a,b] X.env=[(false,eval a X.env),(false,eval b X.env)])(hs2:KZ [b] X.env=[(false,eval b X.env)]) :
  DI X (.Tuple es k tp) (.Call (.Name "zip" p) [a,b] [] pos) (nH ms):=PI.imp (TZ hg hm ha hs hs2) λσ H R z0=>by
 obtain⟨μ,S,env,xs,S',hS,hE,h,post⟩:=z0
 obtain⟨⟨ds,S1⟩,h1,h⟩:=Xc.mp h
 refine⟨μ,S,env,ds,S1,hS,hE,h1,λvs H1 μ1 e1 s1 r1=>?_⟩
 dsimp only at h
 split at h
 ·rename_i xs ys
  split at h
  case isFalse=>cases h
  rename_i hz
  cases h
  obtain⟨v,u,rfl,rv,ru⟩:=r1.two
  have rv':=rv
  have ru':=ru
  obtain⟨b,ws,rfl,hq,rs⟩:=rv.sqT
  obtain⟨b2,ws2,rfl,hq2,rs2⟩:=ru.sqT
  exact⟨b,b2,rfl,⟨ws,hq⟩,⟨ws2,hq2⟩,post _ H1 μ1 e1 s1 (LI rv' ru' hz)⟩
 ·cases h
end
section
variable{X:Cx}{K:QF}{μ μ':Fp}{H H':Hp}{S S':aa}
def gB:D->Option bC
 | .int i=>U (.inl i)
 | .str x=>U (.inr x)
 | _=>Y
theorem my{d:D}{k:bC}(h:gB d=U k)(r:Rep K μ H v d):v=kV k:=by
 cases d<;>first | cases h | skip
 ·rw[r.int_inv];rfl
 ·rw[r.str_inv];rfl
def mM(kvs:List (bC×D))(k:bC):Option D:=match kvs with
 | []=>Y
 | p::r=>if p.1=k then U p.2 else mM r k
def HJ(kvs:List (bC×D))(k:bC):Bool:=match kvs with
 | []=>false
 | p::r=>if p.1=k then true else HJ r k
def OK(kvs:List (bC×D))(k:bC)(d:D):List (bC×D):=match kvs with
 | []=>[]
 | p::r=>(if p.1=k then(p.1,d) else p)::OK r k d
def GL(kvs:List (bC×D))(k:bC)(d:D):List (bC×D):=if HJ kvs k then OK kvs k d else kvs++[(k,d)]
def fe(kvs:List (bC×D)):List (bC×D)->List (bC×D)
 | []=>kvs
 | p::r=>fe (GL kvs p.1 p.2) r
inductive KR(K:QF)(μ:Fp)(H:Hp):List (bC×V)->List (bC×D)->Prop
 | nil:KR K μ H [] []
 | cons {k:bC} {v:V} {d:D} {vs:List (bC×V)} {ds:List (bC×D)} (h:Rep K μ H v d) (t:KR K μ H vs ds):KR K μ H ((k,v)::vs) ((k,d)::ds)
theorem KR.keys:∀ {vs ds},KR K μ H vs ds->vs.map (·.1)=ds.map (·.1)
 | _,_,.nil=>rfl
 | _,_,.cons _ t=>by rw[Xp,Xp,KR.keys t]
theorem KR.reps:∀ {vs ds},KR K μ H vs ds->Reps K μ H (vs.map (·.2)) (ds.map (·.2))
 | _,_,.nil=>.nil
 | _,_,.cons h t=>.cons h (KR.reps t)
theorem KR.length:∀ {vs ds},KR K μ H vs ds->vs.length=ds.length
 | _,_,.nil=>rfl
 | _,_,.cons _ t=>by rw[Xw,Xw,KR.length t]
theorem KR.less{p:td}{cs fb:List td}:∀ {vs ds},KR K ⟨cs,p::fb⟩ H vs ds->KR K ⟨cs,fb⟩ H vs ds
 | _,_,.nil=>.nil
 | _,_,.cons h t=>.cons h.less (KR.less t)
theorem KR.chg{p:td}(hp:p∈μ.fb):∀ {vs ds},KR K μ H vs ds->KR K μ (upd H p o) vs ds
 | _,_,.nil=>.nil
 | _,_,.cons h t=>.cons (h.chg hp) (KR.chg hp t)
theorem KR.of:∀ {kvs:List (bC×V)} {ks:List bC} {ds:List D},ks=kvs.map (·.1)->Reps K μ H (kvs.map (·.2)) ds->KR K μ H kvs (ks.zip ds)
 | [],_,_,e,r=>by subst e;cases r;exact .nil
 | p::q,_,_,e,r=>by
  subst e
  rw[Xp] at r
  cases r with | cons h t=>exact .cons h (KR.of rfl t)
theorem KR.val{k:bC}:∀ {vs ds},KR K μ H vs ds->∀ {d},mM ds k=U d->∃ v,wJ vs k=U v/\Rep K μ H v d
 | _,_,.nil,d,h=>by cases h
 | _,_,.cons (k:=k') h t,d,q=>by
  unfold mM at q
  split at q
  ·rename_i e;cases q;exact⟨_,zi e,h⟩
  ·rename_i e
   obtain⟨v,h1,h2⟩:=KR.val t q
   exact⟨v,(zj e).trans h1,h2⟩
theorem KR.has{k:bC}:∀ {vs ds},KR K μ H vs ds->(vs.any λkv=>decide (kv.1=k))=HJ ds k
 | _,_,.nil=>rfl
 | _,_,.cons (k:=k') h t=>by
  rw[Ze,KR.has t]
  unfold HJ
  by_cases e:k'=k
  ·simp[e]
  ·simp only[Xt e,Bool.false_or,if_neg e];cases t<;>rfl
theorem KR.setv{k:bC}{d:D}(r:Rep K μ H x d):∀ {vs ds},KR K μ H vs ds->KR K μ H (vs.map λkv=>if kv.1=k then(kv.1,x) else kv) (OK ds k d)
 | _,_,.nil=>.nil
 | _,_,.cons (k:=k') h t=>by
  rw[Xp]
  unfold OK
  by_cases e:k'=k
  ·simp only[Xq e];exact .cons r (KR.setv r t)
  ·simp only[if_neg e];exact .cons h (KR.setv r t)
theorem KR.snoc{k:bC}{d:D}(r:Rep K μ H x d):∀ {vs ds},KR K μ H vs ds->KR K μ H (vs++[(k,x)]) (ds++[(k,d)])
 | _,_,.nil=>.cons r .nil
 | _,_,.cons h t=>.cons h (KR.snoc r t)
theorem KR.put{k:bC}{d:D}{vs ds}(r:Rep K μ H x d)(t:KR K μ H vs ds):KR K μ H (uN vs k x) (GL ds k d):=by
 unfold uN GL
 rw[t.has]
 split
 ·exact t.setv r
 ·exact t.snoc r
theorem KR.merge:∀ {ws es vs ds},KR K μ H ws es->KR K μ H vs ds->KR K μ H (lG vs ws) (fe ds es)
 | _,_,_,_,.nil,t=>t
 | _,_,vs,ds,.cons (k:=k) (v:=v) (d:=d) h q,t=>by
  have:=KR.merge q (t.put (k:=k) h)
  exact this
noncomputable abbrev MP:=aE->aa->Option (List (bC×D)×aa)
def ju:List (ME×ME)->MP
 | []=>λ_ S=>U ([],S)
 | (a,b)::r=>λenv S=>(a env S).bind λp=>(gB p.1).bind λk=>(b env p.2).bind λq=>(ju r env q.2).bind λz=>U ((k,q.1)::z.1,z.2)
def DPs(X:Cx)(pos:Pos)(keys:List (Option tx))(values:List tx)(ms:List (ME×ME)):Prop:=PPs X pos keys values (ms.map λp=>(tM X.K p.1,tM X.K p.2))
theorem Ra:DPs X pos [] [] []:=Ew
theorem Np{k:tx}(hk:DE X k mk)(hv:DE X v mv)(hr:DPs X pos ks vs ms):DPs X pos (U k::ks) (v::vs) ((mk,mv)::ms):=zL hk hv hr
theorem pH:∀ {ms:List (ME×ME)} {μ:Fp} {H:Hp} {S S':aa} {kvs:List (bC×D)} {Q:List (V×V)->Hp->Prop},SOk K μ S H->EOk K μ H σ env->ju ms env S=U (kvs,S') ->
  (∀ vs H' μ',Ext μ H μ' H'->SOk K μ' S' H'->KR K μ' H' vs kvs->Q (vs.map λkv=>(kV kv.1,kv.2)) H')->rR (ms.map λp=>(tM K p.1,tM K p.2)) σ H Q
 | [],μ,H,S,S',kvs,Q,s,e,h,q=>by cases h;exact q [] H μ s.ext s .nil
 | (a,b)::r,μ,H,S,S',kvs,Q,s,e,h,q=>by
  obtain⟨⟨x,S1⟩,h1,h⟩:=Xc.mp h
  obtain⟨k,h2,h⟩:=Xc.mp h
  obtain⟨⟨y,S2⟩,h3,h⟩:=Xc.mp h
  obtain⟨⟨zs,S3⟩,h4,h⟩:=Xc.mp h
  cases h
  refine⟨μ,S,env,x,S1,s,e,h1,λv H1 μ1 e1 s1 r1=>⟨μ1,S1,env,y,S2,s1,e.mono e1,h3,λw H2 μ2 e2 s2 r2=>pH s2 ((e.mono e1).mono e2) h4 λvs H3 μ3 e3 s3 r3=>?_⟩⟩
  have:=q ((k,w)::vs) H3 μ3 ((e1.trans e2).trans e3) s3 (.cons (r2.mono e3) r3)
  rw[Xp] at this
  rw[my h2 r1]
  exact this
theorem Ext.shut{cs fb:List td}(hp:H p=Y)(hn:p∉fb)(e:Ext ⟨cs,p::fb⟩ (upd H p o) μ2 H2)(s:SOk K μ2 S2 H2) :
  Ext ⟨cs,fb⟩ H ⟨μ2.cs,fb⟩ (upd H2 p o')/\SOk K ⟨μ2.cs,fb⟩ S2 (upd H2 p o')/\(⟨μ2.cs,fb⟩:Fp).no p/\(∀ vs ds,KR K μ2 H2 vs ds->KR K ⟨μ2.cs,fb⟩ (upd H2 p o') vs ds)/\H2 p=U o:=by
 have pm:p∈μ2.fb:=by rw[e.fb];exact Xi
 have ncs:p∉μ2.cs:=s.disj p pm
 have ncs0:p∉cs:=λz=>ncs (by obtain⟨l,q,_⟩:=e.pre;rw[q];exact Yd _ z)
 have ef:μ2=⟨μ2.cs,p::fb⟩:=by have:=e.fb;obtain⟨a,b⟩:=μ2;simp only at this;rw[this]
 refine⟨⟨rfl,?_,λa o2 na ha=>?_,λa ha=>?_⟩,?_,⟨ncs,?_⟩,λvs ds r=>?_,e.keep p o ncs0 aV⟩
 ·obtain⟨l,q,hl⟩:=e.pre
  refine⟨l,q,λa ha=>?_⟩
  have:=hl a ha
  by_cases z:a=p
  ·subst z;exact hp
  ·rwa[aO z] at this
 ·have z:=bR ha hp
  rw[aO z]
  exact e.keep a o2 na ((aO z).trans ha)
 ·have z:a≠p:=λz=>ncs (z ▸ ha)
  rw[aO z];exact e.dom a ha
 ·have:=(s.chg (o:=o') pm)
  rw[ef] at this
  exact this.less
 ·exact hn
 ·have:=r.chg (o:=o') pm
  rw[ef] at this
  exact this.less
def jf(ms:List (ME×ME)):ME:=λenv S=>(ju ms env S).bind λz=>if z.1.length<=15 then U (.dct ((fe [] z.1).map (·.1)) ((fe [] z.1).map (·.2)),z.2) else Y
theorem Rr{keys:List (Option tx)}(h:DPs X pos keys values ms)(hall:keys.all (·.isSome)=true)(hl:keys.length=values.length)(h0:keys≠[])(h15:keys.length<=15) :
  DE X (.Dict keys values pos) (jf ms):=PE.imp (Ey h hall hl h0 h15) λσ H Q z0=>by
 obtain⟨μ,S,env,d,S',hS,hE,hm,post⟩:=z0
 obtain⟨⟨kvs,S1⟩,h1,hm⟩:=Xc.mp hm
 dsimp only at hm
 split at hm
 ·rename_i hl
  cases hm
  intro p hp
  obtain⟨cs,fb⟩:=μ
  refine pH (hS.more hp) (hE.more hp) h1 λvs H2 μ2 e2 s2 r2=>?_
  obtain⟨eF,sF,nF,rF,hF⟩:=Ext.shut (o':=.dK (lG [] vs)) hp (hS.notMem hp).2 e2 s2
  refine⟨hF,vs,rfl,by rw[r2.length];exact hl,post _ _ _ eF sF ?_⟩
  have rr:=(rF _ _ r2).merge KR.nil
  have:=Rep.dct (K:=X.K) (aV (H:=H2) (o:=.dK (lG [] vs))) nF rr.reps
  rw[rr.keys] at this
  exact this
 ·cases hm
def Gr(S:aa):D->Option (List (bC×D))
 | .dct ks vs=>U (ks.zip vs)
 | .ref r=>match S[r]? with | some (.dct ks vs)=>U (ks.zip vs) | _=>Y
 | _=>Y
theorem OB{d:D}{kvs:List (bC×D)}(s:SOk K μ S H)(r:Rep K μ H v d)(h:Gr S d=U kvs):∃ a vs,v=.ref a/\H a=U (.dK vs)/\KR K μ H vs kvs:=by
 cases r with
 | dct hd n rr=>cases h;exact⟨_,_,rfl,hd,KR.of rfl rr⟩
 | ref hr=>
  rename_i a i
  unfold Gr at h
  dsimp only at h
  cases q:S[i]? with
  | none=>rw[q] at h;cases h
  | some c=>
   rw[q] at h
   have ck:=s.cell _ _ _ hr q
   cases c with
   | lst _=>cases h
   | dct ks xs=>cases h;obtain⟨vs,e,hk,rr⟩:=ck;exact⟨a,vs,rfl,e,KR.of hk rr⟩
   | deep _ _=>cases h
 | _=>cases h
def aW(S:aa)(x y:D):Option D:=match Gr S x with
 | some kvs=>(gB y).bind λk=>mM kvs k
 | none=>fIx S x y
theorem Qp(hu:X.A.units+1<cLine):IxR X (λx y H Q=>∃ a v,x=.ref a/\DGet H a y (U v)/\Q v H):=by
 intro value slice pins s σ H x y v u Q I rx ry h hs
 obtain⟨a,z,rfl,g,q⟩:=h
 cases rx
 exact abK (Bv I g) F.slot_dict_getitem.lookup (Iq hu I g ry λw' s' I' rw'=>⟨z,H,I',rw',q⟩) hs
theorem SC(hu:X.A.units+1<cLine):IxR X (on X.K aW):=IxR.imp ((Qp hu).or ix_D) λx y H Q z0=>by
 obtain⟨μ,S,dx,dy,dz,hS,h1,h2,h3,post⟩:=z0
 unfold aW at h3
 split at h3
 ·rename_i kvs hk
  obtain⟨k,h4,h5⟩:=Xc.mp h3
  obtain⟨a,vs,rfl,ha,rr⟩:=OB hS h1 hk
  obtain⟨v,h6,h7⟩:=rr.val h5
  refine .inl ⟨a,v,rfl,?_,post.here hS h7⟩
  rw[my h4 h2,<- h6]
  exact DGet.k ha
 ·exact .inr ⟨μ,S,dx,dy,dz,hS,h1,h2,h3,post⟩
theorem Wt(hu:X.A.units+1<cLine)(ha:DE X a ma)(hb:DE X b mb)(hs:kY b:=by intro _ _;rfl):DE X (.Subscript a b pos) (aH aW ma mb):=
 PE.imp (Ex (SC hu) ha hb hs) λ_ _ _ h=>rS h
end
end M
namespace L2
section
variable{X:Cx}{o e:tx}{es:List tx}{to:TE}{t:TA}{name:Str}{apos cpos:Pos}{id:String}{r:V->List V->Hp->VK->Prop}
def tBD(r:V->List V->Hp->VK->Prop)(to:TE)(t:TA):TE:=λσ H Q=>to σ H λx H1=>(∃ p,x=.ref p/\IsD H1 p)/\t σ H1 λxs H2=>r x xs H2 Q
theorem Uh(slot:Slot "dict" name id)(hty:typeOf (.builtin id)=pure (.type "method_descriptor"))(hm:MtR X id r)(ho:PE X o to)(ha:PA X (e::es) t)
  (hbase:attributeBase o name X.env (eval o X.env)=eval o X.env)
  (hfew:((backTo cpos (KZ (e::es) X.env)).all (λx=>!x.1)&&(backToKw cpos (keywordEach [] X.env)).all (λx=>x.1.isSome)&&decide ((e::es).length+([]:List Keyword).length+(if ([]:List Keyword).isEmpty then 0 else 1)<30))=true)
  (hline:(apos.endLine==cpos.line)=true) (hs:KZ (e::es) X.env=(false,eval e X.env)::KZ es X.env) (hplain:(backTo cpos (KZ es X.env)).any (·.1)=false) :
  PE X (.Call (.Attribute o name apos) (e::es) [] cpos) (tBD r to t):=by
 intro pins s σ H Q I h
 refine abg hbase hfew hline rfl (dA (ho pins s σ H _ I h) λv s1 ⟨x,H1,I1,r1,ty,q1⟩=>?_)
 obtain⟨p,rfl,hq⟩:=ty
 cases r1
 obtain⟨t1,t2,_⟩:=LN I1 hq
 refine⟨"dict",id,F.plainAttrs_dict,slot,hty,t1,t2,?_⟩
 have hA:=ha cpos pins s1 σ H1 _ I1 q1
 rw[hs] at hA ⊢
 refine ZN (by show(false||(backTo cpos (KZ es X.env)).any (·.1))=false;rw[hplain]<;>rfl) (ZW ?_)
 exact dA hA λus s2 ⟨vs,H2,I2,r2,q2⟩=>hm pins s2 σ H2 (V.ref p) vs _ us Q I2 (show RelV (V.ref p) (Value.ref p) from rfl) r2 q2
end
end L2
namespace M
open L2
section
variable{X:Cx}{K:QF}{μ μ':Fp}{H H':Hp}{S S':aa}
theorem zU{p:td}{cs fb:List td}(n:(⟨cs,p::fb⟩:Fp).no a):(⟨cs++[p],fb⟩:Fp).no a:=
 ⟨λz=>(Xx.mp z).elim n.1 λz=>n.2 (by rw[XA.mp z];exact Xi),λz=>n.2 (Xf _ z)⟩
theorem Rep.adopt{p:td}{cs fb:List td}{d:D}(r:Rep K ⟨cs,p::fb⟩ H v d):Rep K ⟨cs++[p],fb⟩ H v d:=r.imp (λh n=>⟨h,zU n⟩) λh=>yS rfl h
theorem Reps.adopt{p:td}{cs fb:List td}{d:List D}(r:Reps K ⟨cs,p::fb⟩ H v d):Reps K ⟨cs++[p],fb⟩ H v d:=r.imp (λh n=>⟨h,zU n⟩) λh=>yS rfl h
theorem KR.adopt{p:td}{cs fb:List td}:∀ {vs ds},KR K ⟨cs,p::fb⟩ H vs ds->KR K ⟨cs++[p],fb⟩ H vs ds
 | _,_,.nil=>.nil
 | _,_,.cons h t=>.cons h.adopt (KR.adopt t)
theorem Ext.shutR{cs fb:List td}(hp:H p=Y)(hn:p∉fb)(e:Ext ⟨cs,p::fb⟩ (upd H p o) μ2 H2)(s:SOk K μ2 S2 H2)(r:KR K μ2 H2 vs kvs) :
  Ext ⟨cs,fb⟩ H ⟨μ2.cs++[p],fb⟩ (upd H2 p (.dK vs))/\SOk K ⟨μ2.cs++[p],fb⟩ (S2++[.dct (kvs.map (·.1)) (kvs.map (·.2))]) (upd H2 p (.dK vs))/\H2 p=U o:=by
 have pm:p∈μ2.fb:=by rw[e.fb];exact Xi
 have ncs:p∉μ2.cs:=s.disj p pm
 have ncs0:p∉cs:=λz=>ncs (by obtain⟨l,q,_⟩:=e.pre;rw[q];exact Yd _ z)
 have ef:μ2.fb=p::fb:=e.fb
 obtain⟨cs2,fb2⟩:=μ2
 simp only at ef pm ncs
 subst ef
 refine⟨⟨rfl,?_,λa o2 na ha=>?_,λa ha=>?_⟩,⟨?_,by simp[s.len],λi a c h1 h2=>?_,λa ha=>?_,λa ha z=>?_⟩,e.keep p o ncs0 aV⟩
 ·obtain⟨l,q,hl⟩:=e.pre
  simp only at q
  refine⟨l++[p],by rw[q,XU],λa ha=>?_⟩
  rcases Xx.mp ha with ha | ha
  ·have:=hl a ha
   by_cases z:a=p
   ·subst z;exact hp
   ·rwa[aO z] at this
  ·rw[XA.mp ha];exact hp
 ·have z:=bR ha hp
  rw[aO z]
  exact e.keep a o2 na ((aO z).trans ha)
 ·by_cases z:a=p
  ·subst z;rw[aV];simp
  ·rw[aO z]
   rcases Xx.mp ha with ha | ha
   ·exact e.dom a ha
   ·exact absurd (XA.mp ha) z
 ·exact YA.mpr ⟨s.nd,by simp,λa ha b hb=>by rw[XA.mp hb];exact λz=>ncs (z ▸ ha)⟩
 ·have sc:=s.chg (o:=.dK vs) pm
  by_cases hi:i<cs2.length
  ·rw[Xv hi] at h1
   rw[Xv (by rw[<- s.len];exact hi)] at h2
   have ck:=sc.cell i a c h1 h2
   cases c with
   | lst ds=>obtain⟨ws,h,r⟩:=ck;exact⟨ws,h,r.adopt⟩
   | dct ks ds=>obtain⟨ws,h,q,r⟩:=ck;exact⟨ws,h,q,r.adopt⟩
   | deep ks ds=>obtain⟨ws,h,q,r,r'⟩:=ck;exact⟨ws,h,q,r.adopt,r'.adopt⟩
  ·have hi':i=cs2.length:=by
    have:=(Xe.mp h1).1
    simp at this;omega
   subst hi'
   rw[XJ (Xm _)] at h1
   rw[show cs2.length=S2.length from s.len,XJ (Xm _)] at h2
   simp at h1 h2
   subst h1 h2
   have rc:=(r.chg (o:=.dK vs) pm).adopt
   exact⟨vs,aV,rc.keys.symm,rc.reps⟩
 ·by_cases z:a=p
  ·subst z;rw[aV];simp
  ·rw[aO z];exact s.fdom a (Xf _ ha)
 ·rcases Xx.mp z with z | z
  ·exact s.disj a (Xf _ ha) z
  ·exact hn (XA.mp z ▸ ha)
def gb(ms:List (ME×ME)):ME:=λenv S=>(ju ms env S).bind λz=>if z.1.length<=15 then U (.ref z.2.length,z.2++[.dct ((fe [] z.1).map (·.1)) ((fe [] z.1).map (·.2))]) else Y
theorem NF{keys:List (Option tx)}(h:DPs X pos keys values ms)(hall:keys.all (·.isSome)=true)(hl:keys.length=values.length)(h0:keys≠[])(h15:keys.length<=15) :
  DE X (.Dict keys values pos) (gb ms):=PE.imp (Ey h hall hl h0 h15) λσ H Q z0=>by
 obtain⟨μ,S,env,d,S',hS,hE,hm,post⟩:=z0
 obtain⟨⟨kvs,S1⟩,h1,hm⟩:=Xc.mp hm
 dsimp only at hm
 split at hm
 ·rename_i hl
  cases hm
  intro p hp
  obtain⟨cs,fb⟩:=μ
  refine pH (hS.more hp) (hE.more hp) h1 λvs H2 μ2 e2 s2 r2=>?_
  obtain⟨eF,sF,hF⟩:=Ext.shutR hp (hS.notMem hp).2 e2 s2 (r2.merge KR.nil)
  exact⟨hF,vs,rfl,by rw[r2.length];exact hl,post _ _ _ eF sF (.ref (by rw[<- s2.len];simp))⟩
 ·cases hm
def NL(S:aa):D->Bool
 | .dct _ _=>true
 | .ref r=>match S[r]? with | some (.dct _ _)=>true | _=>false
 | _=>false
theorem Rx{d:D}(s:SOk K μ S H)(r:Rep K μ H v d)(h:NL S d=true):∃ a,v=.ref a/\IsD H a:=by
 cases r with
 | dct hd n rr=>exact⟨_,rfl,.inl ⟨_,.inl hd⟩⟩
 | ref hr=>
  rename_i a i
  unfold NL at h
  dsimp only at h
  cases q:S[i]? with
  | none=>rw[q] at h;cases h
  | some c=>
   rw[q] at h
   have ck:=s.cell _ _ _ hr q
   cases c with
   | lst _=>cases h
   | dct ks xs=>obtain⟨vs,e,hk,rr⟩:=ck;exact⟨a,rfl,.inl ⟨_,.inl e⟩⟩
   | deep _ _=>cases h
 | _=>cases h
def fZ(f:MF)(o:ME)(ms:MA):ME:=λenv S=>(o env S).bind λp=>if NL p.2 p.1=true then(ms env p.2).bind λq=>f p.1 q.1 q.2 else Y
theorem ND{e:tx}{es:List tx}{name:Str}{id:String}{apos:Pos}(slot:Slot "dict" name id)(hty:typeOf (.builtin id)=pure (.type "method_descriptor"))(hm:MtR X id (OU X.K f))(ho:DE X o mo)(ha:DA X (e::es) ms)
  (hbase:attributeBase o name X.env (eval o X.env)=eval o X.env)
  (hfew:((backTo cpos (KZ (e::es) X.env)).all (λx=>!x.1)&&(backToKw cpos (keywordEach [] X.env)).all (λx=>x.1.isSome)&&decide ((e::es).length+([]:List Keyword).length+(if ([]:List Keyword).isEmpty then 0 else 1)<30))=true)
  (hline:(apos.endLine==cpos.line)=true) (hs:KZ (e::es) X.env=(false,eval e X.env)::KZ es X.env) (hpl:(backTo cpos (KZ es X.env)).any (·.1)=false) :
  DE X (.Call (.Attribute o name apos) (e::es) [] cpos) (fZ f mo ms):=
 PE.imp (Uh slot hty hm ho ha hbase hfew hline hs hpl) λσ H Q z0=>by
  obtain⟨μ,S,env,d,S',hS,hE,h,post⟩:=z0
  obtain⟨⟨x,S1⟩,h1,h⟩:=Xc.mp h
  dsimp only at h
  split at h
  ·rename_i hl
   obtain⟨⟨xs,S2⟩,h2,h⟩:=Xc.mp h
   refine⟨μ,S,env,x,S1,hS,hE,h1,λv H1 μ1 e1 s1 r1=>⟨?_,μ1,S1,env,xs,S2,s1,hE.mono e1,h2,λvs H2 μ2 e2 s2 r2=>⟨μ2,S2,x,xs,d,S',s2,r1.mono e2,r2,h,(post.ext e1).ext e2⟩⟩⟩
   exact Rx s1 r1 hl
  ·cases h
end
end M
namespace L2
section
variable{X:Cx}{a b:tx}{rest:List tx}{ta tb:TE}{pos:Pos}
def tAndX(K:QF)(ta tb:TE):TE:=λσ H Q=>ta σ H λx H1=>∃ c,IM K x H1 c/\if c=true then tb σ H1 Q else Q x H1
def tOrX(K:QF)(ta tb:TE):TE:=λσ H Q=>ta σ H λx H1=>∃ c,IM K x H1 c/\if c=true then Q x H1 else tb σ H1 Q
def tNotX(K:QF)(ta:TE):TE:=λσ H Q=>ta σ H λx H1=>∃ c,IM K x H1 c/\Q (.bl (!c)) H1
theorem Pt(ha:PE X a ta)(hb:PE X (.BoolOp .And (b::rest) pos) tb):PE X (.BoolOp .And (a::b::rest) pos) (tAndX X.K ta tb):=by
 intro pins s σ H Q I h
 refine BoolOp_and (dA (ha pins s σ H _ I h) λv s1 ⟨x,H1,I1,r1,q1⟩=>?_)
 obtain⟨c,tv,q1⟩:=q1
 refine dA (wL pins s1 σ H1 x v (λk H'=>k=c/\H'=H1) I1 r1 ⟨c,tv,rfl,rfl⟩) λk s2 z=>?_
 obtain⟨H2,I2,rfl,rfl⟩:=z
 cases k with
 | true=>exact hb pins s2 σ H2 Q I2 q1
 | false=>exact⟨x,H2,I2,r1,q1⟩
theorem Ud(ha:PE X a ta)(hb:PE X (.BoolOp .Or (b::rest) pos) tb):PE X (.BoolOp .Or (a::b::rest) pos) (tOrX X.K ta tb):=by
 intro pins s σ H Q I h
 refine BoolOp_or (dA (ha pins s σ H _ I h) λv s1 ⟨x,H1,I1,r1,q1⟩=>?_)
 obtain⟨c,tv,q1⟩:=q1
 refine dA (wL pins s1 σ H1 x v (λk H'=>k=c/\H'=H1) I1 r1 ⟨c,tv,rfl,rfl⟩) λk s2 z=>?_
 obtain⟨H2,I2,rfl,rfl⟩:=z
 cases k with
 | false=>exact hb pins s2 σ H2 Q I2 q1
 | true=>exact⟨x,H2,I2,r1,q1⟩
theorem Pp(ha:PE X a ta):PE X (.UnaryOp .Not a pos) (tNotX X.K ta):=by
 intro pins s σ H Q I h
 refine UnaryOp_ (dA (ha pins s σ H _ I h) λv s1 ⟨x,H1,I1,r1,q1⟩=>?_)
 obtain⟨c,tv,q1⟩:=q1
 refine not_of (dA (wL pins s1 σ H1 x v (λk H'=>k=c/\H'=H1) I1 r1 ⟨c,tv,rfl,rfl⟩) λk s2 z=>?_)
 obtain⟨H2,I2,rfl,rfl⟩:=z
 exact⟨.bl (!k),H2,I2,rfl,q1⟩
end
end L2
namespace M
open L2
section
variable{X:Cx}{K:QF}{μ μ':Fp}{H H':Hp}{S S':aa}{a b:tx}{ma mb:ME}{rest:List tx}{pos:Pos}
def Lh(a b:ME):ME:=λenv S=>(a env S).bind λp=>(rQ p.2 p.1).bind λk=>if k=true then b env p.2 else U (p.1,p.2)
def UF(a b:ME):ME:=λenv S=>(a env S).bind λp=>(rQ p.2 p.1).bind λk=>if k=true then U (p.1,p.2) else b env p.2
def KW(a:ME):ME:=λenv S=>(a env S).bind λp=>(rQ p.2 p.1).bind λk=>U (.bl (!k),p.2)
theorem Rv(ha:DE X a ma)(hb:DE X (.BoolOp .And (b::rest) pos) mb):DE X (.BoolOp .And (a::b::rest) pos) (Lh ma mb):=PE.imp (Pt ha hb) λσ H Q z0=>by
 obtain⟨μ,S,env,d,S',hS,hE,hm,post⟩:=z0
 obtain⟨⟨x,S1⟩,h1,hm⟩:=Xc.mp hm
 obtain⟨k,h2,hm⟩:=Xc.mp hm
 refine⟨μ,S,env,x,S1,hS,hE,h1,λv H1 μ1 e1 s1 r1=>⟨k,rh s1 r1 h2,?_⟩⟩
 cases k with
 | true=>rw[Xq rfl];exact⟨μ1,S1,env,d,S',s1,hE.mono e1,hm,post.ext e1⟩
 | false=>cases hm;rw[if_neg Sn];exact post _ H1 μ1 e1 s1 r1
theorem Wp(ha:DE X a ma)(hb:DE X (.BoolOp .Or (b::rest) pos) mb):DE X (.BoolOp .Or (a::b::rest) pos) (UF ma mb):=PE.imp (Ud ha hb) λσ H Q z0=>by
 obtain⟨μ,S,env,d,S',hS,hE,hm,post⟩:=z0
 obtain⟨⟨x,S1⟩,h1,hm⟩:=Xc.mp hm
 obtain⟨k,h2,hm⟩:=Xc.mp hm
 refine⟨μ,S,env,x,S1,hS,hE,h1,λv H1 μ1 e1 s1 r1=>⟨k,rh s1 r1 h2,?_⟩⟩
 cases k with
 | false=>rw[if_neg Sn];exact⟨μ1,S1,env,d,S',s1,hE.mono e1,hm,post.ext e1⟩
 | true=>cases hm;rw[Xq rfl];exact post _ H1 μ1 e1 s1 r1
theorem Ri(ha:DE X a ma):DE X (.UnaryOp .Not a pos) (KW ma):=PE.imp (Pp ha) λσ H Q z0=>by
 obtain⟨μ,S,env,d,S',hS,hE,hm,post⟩:=z0
 obtain⟨⟨x,S1⟩,h1,hm⟩:=Xc.mp hm
 obtain⟨k,h2,hm⟩:=Xc.mp hm
 cases hm
 exact⟨μ,S,env,x,_,hS,hE,h1,λv H1 μ1 e1 s1 r1=>⟨k,rh s1 r1 h2,post _ H1 μ1 e1 s1 (.bl _)⟩⟩
end
section
variable{X:Cx}{K:QF}{μ μ':Fp}{H H':Hp}{S S':aa}{tg iter:tx}{pos:Pos}
def dJ(g:MG)(body:MS)(r:Nat):Nat->Nat->aE->aa->Option mU
 | 0,_,_,_=>Y
 | f+1,i,env,S=>match S[r]? with
  | some (.lst xs)=>match xs[i]? with
   | none=>U (.nx env S)
   | some d=>(g d env S).bind λp=>(body p.1 p.2).bind λo=>match o with
    | .nx e s=>dJ g body r f (i+1) e s
    | .ct e s=>dJ g body r f (i+1) e s
    | .bk e s=>U (.nx e s)
    | .rt d s=>U (.rt d s)
  | _=>Y
def dC(m:ME)(g:MG)(body:MS):MS:=λenv S=>(m env S).bind λp=>match p.1 with
 | .ref r=>dJ g body r 2000 0 env p.2
 | .lst xs=>cq g body xs env p.2
 | .rol xs=>cq g body xs env p.2
 | .tup xs=>cq g body xs env p.2
 | _=>Y
def mForX(m:ME)(g:MG)(body:MS):MS:=λenv S=>(m env S).bind λp=>match p.1 with
 | .ref r=>dJ g body r 2000 0 env p.2
 | _=>Y
theorem QX(hp:PassesOwn (model X.prog X.w) X.A X.env X.xe)(hc:X.calm=true)(hi:DE X iter mi)(hg:DG X tg g)(hb:vj X body mb)
  (hs:∀ x,Ld iter X.env x=pure x):DS X (.For tg iter body [] pos) (mForX mi g mb):=PS.imp (Cy hp hc (xn hi) hg hb hs) λE σ H z0=>by
 obtain⟨μ,S,env,o,hS,hE,hm,post⟩:=z0
 obtain⟨⟨d,S1⟩,h1,hm⟩:=Xc.mp hm
 dsimp only at hm
 split at hm
 ·rename_i r
  refine⟨μ,S,env,_,S1,hS,hE,h1,λv H1 μ1 e1 s1 r1=>?_⟩
  cases r1 with
  | @ref a _ ha=>
   have cell:∀ {μ' H' S' xs},Ext μ1 H1 μ' H'->SOk X.K μ' S' H'->S'[r]?=U (.lst xs)->∃ vs,H' a=U (.lst vs)/\Reps X.K μ' H' vs xs:=λ{μ' H' S' xs} e s q=>by
    obtain⟨l,ql,_⟩:=e.pre
    have ha':μ'.cs[r]?=U a:=by rw[ql,Xv (Xe.mp ha).1];exact ha
    exact s.cell r a _ ha' q
   have hq0:∃ vs,mT X.K H1 a vs:=by
    unfold dJ at hm
    split at hm
    ·rename_i xs q
     obtain⟨vs,hv,_⟩:=cell s1.ext s1 q
     exact⟨vs,.inl (.inl hv)⟩
    ·cases hm
   refine⟨a,rfl,hq0,?_⟩
   refine⟨λi n σ H=>∃ μ' S' env' o',Ext μ1 H1 μ' H/\SOk X.K μ' S' H/\EOk X.K μ' H σ env'/\dJ g mb r n i env' S'=U o'/\PostS X.K μ' H o' E,
    ⟨2000,μ1,S1,env,o,s1.ext,s1,hE.mono e1,hm,post.ext e1⟩,?_⟩
   rintro i n σ' H' ⟨μ',S',env',o',e',s',r',hl,post'⟩
   cases n with
   | zero=>cases hl
   | succ n=>
    unfold dJ at hl
    split at hl
    ·rename_i xs q
     obtain⟨vs,hv,rv⟩:=cell e' s' q
     have hsq:mT X.K H' a vs:=.inl (.inl hv)
     split at hl
     ·rename_i hx
      cases hl
      refine .inl ⟨⟨vs,hsq,?_⟩,post' σ' H' μ' s'.ext s' r'⟩
      rw[rv.length];simpa using hx
     ·rename_i d hx
      obtain⟨w,hw,rw0⟩:=rv.get hx
      refine .inr ⟨⟨vs,w,hsq,hw⟩,λσ2 H2=>∃ μ2 S2 env2 o2,Ext μ1 H1 μ2 H2/\SOk X.K μ2 S2 H2/\EOk X.K μ2 H2 σ2 env2/\dJ g mb r n (i+1) env2 S2=U o2/\PostS X.K μ2 H2 o2 E,
       λσ2 H2 ⟨μ2,S2,env2,o2,q1,q2,q3,q4,q5⟩=>⟨n,by omega,μ2,S2,env2,o2,q1,q2,q3,q4,q5⟩,λx H2 y=>?_⟩
      obtain⟨e2,hy⟩:=y
      subst e2
      have ex:x=w:=by have:=hy vs hsq;rw[hw] at this;exact(XC this).symm
      subst ex
      obtain⟨⟨env3,S3⟩,h3,hl⟩:=Xc.mp hl
      obtain⟨o4,h4,hl⟩:=Xc.mp hl
      refine⟨μ',S',env',d,env3,S3,s',r',rw0,h3,λσ3 H3 μ3 e3 s3 r3=>⟨μ3,S3,env3,o4,s3,r3,h4,?_⟩⟩
      have eT:Ext μ1 H1 μ3 H3:=e'.trans e3
      have pT:PostS X.K μ3 H3 o' E:=post'.ext e3
      cases o4 with
      | nx e5 s5=>exact λσ6 H6 μ6 e6 s6 r6=>⟨μ6,s5,e5,o',eT.trans e6,s6,r6,hl,pT.ext e6⟩
      | ct e5 s5=>exact λσ6 H6 μ6 e6 s6 r6=>⟨μ6,s5,e5,o',eT.trans e6,s6,r6,hl,pT.ext e6⟩
      | bk e5 s5=>cases hl;exact pT
      | rt d5 s5=>cases hl;exact pT
    ·cases hl
 ·cases hm
theorem QY(hp:PassesOwn (model X.prog X.w) X.A X.env X.xe)(hc:X.calm=true)(hi:DE X iter mi)(hg:DG X tg g)(hb:vj X body mb)
  (hs:∀ x,Ld iter X.env x=pure x):DS X (.For tg iter body [] pos) (dC mi g mb):=by
 have hA:=QX (pos:=pos) hp hc hi hg hb hs
 have hB:=Ni (pos:=pos) hp hc (DN (tg:=tg) hi) hg hb hs
 intro pins s σ H E I ⟨μ,S,env,o,hS,hE,h,post⟩
 obtain⟨⟨x,S1⟩,h1,h⟩:=Xc.mp h
 cases x with
 | ref r=>exact hA pins s σ H E I ⟨μ,S,env,o,hS,hE,by show(mi env S).bind _=_;rw[h1];exact h,post⟩
 | lst xs=>exact hB pins s σ H E I ⟨μ,S,env,o,hS,hE,by show((mi env S).bind _).bind _=_;rw[h1];exact h,post⟩
 | rol xs=>exact hB pins s σ H E I ⟨μ,S,env,o,hS,hE,by show((mi env S).bind _).bind _=_;rw[h1];exact h,post⟩
 | tup xs=>exact hB pins s σ H E I ⟨μ,S,env,o,hS,hE,by show((mi env S).bind _).bind _=_;rw[h1];exact h,post⟩
 | _=>cases h
end
end M
namespace L2
section
variable{X:Cx}{pos:Pos}
theorem tw:∀ {ns:List Int} {us:List bd},Vals (ns.map V.int) us->∃ xs:List (Int×Tok),us=xs.map (λp=>Value.int p.1 p.2)/\xs.map (·.1)=ns
 | [],_,.nil=>⟨[],rfl,rfl⟩
 | n::ns,_,.cons ⟨t,e⟩ r=>by
  subst e
  obtain⟨xs,e1,e2⟩:=tw r
  exact⟨(n,t)::xs,by rw[e1];rfl,by rw[Xp,e2]⟩
theorem ID(hc:X.calm=true):CallR X (.builtin "max") (λxs H Q=>∃ p ns,xs=[.ref p]/\mT X.K H p (ns.map V.int)/\ns≠[]/\∀ m,m∈ns->(∀ a∈ns,a<=m)->Q (.int m) H):=by
 intro pins s σ H xs us Q I r h
 obtain⟨p,ns,rfl,hq,h0,q⟩:=h
 obtain⟨u,rfl,rx⟩:=oq r
 cases rx
 obtain⟨its,rv,pl,hz⟩:=I.list hq
 obtain⟨ps,e1,e2⟩:=tw rv
 have hl:s.heap.IsList p (intItems ps.toArray):=by
  have:=pl.isList
  rw[e1] at this
  have e:intItems ps.toArray=(ps.map (λp=>Value.int p.1 p.2)).toArray:=by simp[intItems]
  rw[e];exact this
 have hp:0<ps.toArray.size:=by
  rw[Xg]
  cases ps with
  | nil=>exact absurd e2.symm h0
  | cons _ _=>simp
 refine max_intList (I.ok.hd hc) hl hp λv h' tk hv kk=>?_
 obtain⟨g1,g2⟩:=argBest_gt (numAt ps.toArray) (ps.toArray.size - 1)
 generalize argBest (λi j=>decide (numAt ps.toArray i>numAt ps.toArray j)) (ps.toArray.size - 1)=b at hv g1 g2
 have hb:b<ps.length:=by rw[Xg] at g1 hp;omega
 have nb:∀ j (hj:j<ps.length),numAt ps.toArray j=ps[j].1:=λj hj=>by
  simp[numAt,hj]
 have ev:v=Value.int ps[b].1 ps[b].2:=by
  simp[intItems,hb] at hv
  exact hv.symm
 subst ev
 refine⟨.int ps[b].1,H,I.kept kk,⟨_,rfl⟩,q _ ?_ λa ha=>?_⟩
 ·rw[<- e2];exact XH.mpr ⟨_,List.getElem_mem hb,rfl⟩
 ·rw[<- e2] at ha
  obtain⟨x,hx,rfl⟩:=XH.mp ha
  obtain⟨j,hj,rfl⟩:=List.mem_iff_getElem.mp hx
  have:=g2 j (by rw[Xg];omega)
  rw[nb j hj,nb b hb] at this
  exact this
end
end L2
namespace M
open L2
section
variable{X:Cx}{K:QF}{μ μ':Fp}{H H':Hp}{S S':aa}{pos:Pos}
def qt(S:aa):D->Option (List D)
 | .lst xs=>U xs
 | .ref r=>match S[r]? with | some (.lst xs)=>U xs | _=>Y
 | _=>Y
theorem mw{d:D}{ds:List D}(s:SOk K μ S H)(r:Rep K μ H v d)(h:qt S d=U ds):∃ a vs,v=.ref a/\H a=U (.lst vs)/\Reps K μ H vs ds:=by
 cases r with
 | lst hd n rr=>cases h;exact⟨_,_,rfl,hd,rr⟩
 | ref hr=>
  rename_i a i
  unfold qt at h
  dsimp only at h
  cases q:S[i]? with
  | none=>rw[q] at h;cases h
  | some c=>
   rw[q] at h
   have ck:=s.cell _ _ _ hr q
   cases c with
   | lst xs=>cases h;obtain⟨vs,e,rr⟩:=ck;exact⟨a,vs,rfl,e,rr⟩
   | dct ks xs=>cases h
   | deep ks xs=>cases h
 | _=>cases h
def LL:D->Bool
 | .ref _=>true
 | _=>false
def bF(S:aa)(x y:D):Option D:=if LL x||LL y then(qt S x).bind λxs=>(qt S y).bind λys=>if xs.length+ys.length<=KY then U (.lst (xs++ys)) else Y else Mp S x y
theorem PH:OpR X (PN .Add) (on X.K bF):=OpR.imp (OpR.or CF Ux) λx y H Q z0=>by
 obtain⟨μ,S,dx,dy,dz,hS,h1,h2,h3,post⟩:=z0
 unfold bF at h3
 split at h3
 ·obtain⟨xs,e1,h3⟩:=Xc.mp h3
  obtain⟨ys,e2,h3⟩:=Xc.mp h3
  split at h3
  ·rename_i hl
   cases h3
   obtain⟨a,vs,rfl,q1,r1⟩:=mw hS h1 e1
   obtain⟨b,ws,rfl,q2,r2⟩:=mw hS h2 e2
   have l1:=r1.length
   have l2:=r2.length
   exact .inl ⟨a,b,vs,ws,rfl,rfl,q1,q2,by omega,λp hp=>post.lst hS hp (r1.append r2)⟩
  ·cases h3
 ·exact .inr ⟨μ,S,dx,dy,dz,hS,h1,h2,h3,post⟩
def lm:List Int->Int
 | []=>0
 | [a]=>a
 | a::r=>max a (lm r)
theorem pP:∀ {ns:List Int},ns≠[]->lm ns∈ns/\∀ a∈ns,a<=lm ns
 | [a],_=>⟨by simp[lm],λb hb=>by simp at hb;simp[lm,hb]⟩
 | a::b::r,_=>by
  obtain⟨h1,h2⟩:=pP (ns:=b::r) (by simp)
  show max a (lm (b::r))∈_/\∀ c∈_,c<=max a (lm (b::r))
  generalize lm (b::r)=m at h1 h2
  refine⟨?_,λc hc=>?_⟩
  ·by_cases h:m<=a
   ·rw[Int.max_eq_left h];exact Xi
   ·rw[Int.max_eq_right (by omega)];exact Xf _ h1
  ·rcases XD.mp hc with rfl | hc
   ·exact Int.le_max_left _ _
   ·exact abr (h2 c hc) (Int.le_max_right _ _)
theorem Ad{ns:List Int}{m:Int}(h0:ns≠[])(h1:m∈ns)(h2:∀ a∈ns,a<=m):m=lm ns:=by
 obtain⟨g1,g2⟩:=pP h0
 have:=h2 _ g1
 have:=g2 _ h1
 omega
def tS(S:aa):List D->Option D
 | [d]=>(qx S d).bind λns=>if ns.isEmpty then Y else U (.int (lm ns))
 | ds=>SM S ds
theorem CallR.or(h:CallR X f r)(h':CallR X f r'):CallR X f (λxs H Q=>r xs H Q\/r' xs H Q):=by
 intro pins s σ H xs us Q I rv q
 rcases q with q | q
 ·exact h pins s σ H xs us Q I rv q
 ·exact h' pins s σ H xs us Q I rv q
theorem II(hc:X.calm=true):CallR X (.builtin "max") (GJ X.K (aI tS)):=CallR.imp (CallR.or (ID hc) (IJ hc)) λxs H Q z0=>by
 obtain⟨μ,S,ds,d,S',hS,hr,hm,post⟩:=z0
 obtain⟨rfl,hm'⟩:=dq hm
 match ds,hr,hm,hm' with
 | [d0],hr,hm,hm'=>
  obtain⟨ns,h1,h2⟩:=Xc.mp hm'
  split at h2
  ·cases h2
  ·rename_i h0
   cases h2
   have h0:ns≠[]:=λz=>h0 (by rw[z];rfl)
   obtain⟨v,rfl,rv⟩:=hr.one
   obtain⟨b,rfl,hq,h64⟩:=Dr hS rv h1
   refine .inl ⟨b,ns,rfl,hq,h0,λm m1 m2=>?_⟩
   rw[Ad h0 m1 m2]
   exact post.here hS (.int _)
 | [],hr,hm,hm'=>cases hm'
 | _::_::_,hr,hm,hm'=>exact .inr ⟨μ,_,_,d,_,hS,hr,hm,post⟩
def fX(t:MT)(body:MS):Nat->aE->aa->Option mU
 | 0,_,_=>Y
 | f+1,env,S=>(t env S).bind λp=>if p.1=true then(body env p.2).bind λo=>match o with
   | .nx e s=>fX t body f e s
   | .ct e s=>fX t body f e s
   | .bk e s=>U (.nx e s)
   | .rt d s=>U (.rt d s)
  else U (.nx env p.2)
def eO(t:MT)(body:MS):MS:=fX t body 5000
theorem Nh(hp:PassesOwn (model X.prog X.w) X.A X.env X.xe)(hc:DT X c t)(hb:vj X body mb):DS X (.While c body [] pos) (eO t mb):=PS.imp (zI hp hc hb) λE σ H z0=>by
 obtain⟨μ,S,env,o,hS,hE,hm,post⟩:=z0
 refine⟨λn σ' H'=>∃ μ' S' env' o',Ext μ H μ' H'/\SOk X.K μ' S' H'/\EOk X.K μ' H' σ' env'/\fX t mb n env' S'=U o'/\PostS X.K μ' H' o' E,⟨5000,μ,S,env,o,hS.ext,hS,hE,hm,post⟩,?_⟩
 rintro n σ' H' ⟨μ',S',env',o',e',s',r',hl,post'⟩
 cases n with
 | zero=>cases hl
 | succ n=>
  obtain⟨⟨b,S1⟩,h1,hl⟩:=Xc.mp hl
  refine⟨μ',S',env',b,S1,s',r',h1,λH2 μ2 e2 s2=>?_⟩
  have eT:Ext μ H μ2 H2:=e'.trans e2
  have pT:PostS X.K μ2 H2 o' E:=post'.ext e2
  cases b with
  | false=>cases hl;dsimp only;rw[if_neg Sn];exact pT σ' H2 μ2 s2.ext s2 (r'.mono e2)
  | true=>
   dsimp only
   rw[Xq rfl]
   obtain⟨o4,h4,hl⟩:=Xc.mp hl
   refine⟨λσ2 H2=>∃ μ2 S2 env2 o2,Ext μ H μ2 H2/\SOk X.K μ2 S2 H2/\EOk X.K μ2 H2 σ2 env2/\fX t mb n env2 S2=U o2/\PostS X.K μ2 H2 o2 E,λσ2 H2 ⟨μ2,S2,env2,o2,q1,q2,q3,q4,q5⟩=>⟨n,by omega,μ2,S2,env2,o2,q1,q2,q3,q4,q5⟩,?_⟩
   refine⟨μ2,S1,env',o4,s2,r'.mono e2,h4,?_⟩
   cases o4 with
   | nx e5 s5=>exact λσ6 H6 μ6 e6 s6 r6=>⟨μ6,s5,e5,o',eT.trans e6,s6,r6,hl,pT.ext e6⟩
   | ct e5 s5=>exact λσ6 H6 μ6 e6 s6 r6=>⟨μ6,s5,e5,o',eT.trans e6,s6,r6,hl,pT.ext e6⟩
   | bk e5 s5=>cases hl;exact pT
   | rt d5 s5=>cases hl;exact pT
end
inductive TabRel:List (bC×bd)->List (bC×D)->Prop
 | nil:TabRel [] []
 | cons {k:bC} {v:bd} {d:D} {vs:List (bC×bd)} {ds:List (bC×D)} (x:V) (h:RelV x v) (r:∀ K μ H,Rep K μ H x d) (t:TabRel vs ds):TabRel ((k,v)::vs) ((k,d)::ds)
theorem TabRel.val{k:bC}:∀ {vs ds},TabRel vs ds->∀ {d},mM ds k=U d->∃ v x,valueAt vs k=U v/\RelV x v/\∀ K μ H,Rep K μ H x d
 | _,_,.nil,d,h=>by cases h
 | _,_,.cons (k:=k') (v:=v) x h r t,d,q=>by
  unfold mM at q
  split at q
  ·rename_i e;cases q;refine⟨v,x,?_,h,r⟩;simp only at e;simp[valueAt,e]
  ·rename_i e
   obtain⟨v',x',h1,h2,h3⟩:=TabRel.val t q
   refine⟨v',x',?_,h2,h3⟩
   simp only at e
   rw[<- h1]
   simp[valueAt,e]
structure uu(w:Gs)(K:QF)(mg:Str->Option bd)(x:Str)(l:List (bC×D)):Prop where
 ex:∃ (a:td) (vs:List (bC×bd)),mg x=U (.ref a)/\(∀ (P:vx) (h:Jq),K.In h->h.DictOf (cr P w) a vs)/\TabRel vs l
section
variable{X:Cx}
theorem LG(hd:∀ (P:vx) (h:Jq),X.K.In h->h.DictOf (cr P X.w) a vs):IxR X (λx y H Q=>∃ k v z,x=.ref a/\y=kV k/\valueAt vs k=U v/\RelV z v/\Q z H):=by
 intro value slice pins s σ H x y v u Q I rx ry h hs
 obtain⟨k,v',z,rfl,rfl,hv,rz,q⟩:=h
 cases rx
 have dd:=hd X.prog s.heap I.kIn
 exact abK dd.typeIs F.slot_dict_getitem.lookup (wpAny_getItem_of (AL ry) dd.mapOf hv ⟨z,H,I.tok _,rz,q⟩) hs
def dI(l:List (bC×D))(mi:ME):ME:=λenv S=>(mi env S).bind λp=>(gB p.1).bind λk=>(mM l k).bind λd=>U (d,p.2)
theorem NA(g:uu X.w X.K X.mg x l)(hg:Gl X x)(hx:(x==("__debug__":Str))=false)(hi:DE X i mi)(hs:kY i:=by intro _ _;rfl):DE X (.Subscript (.Name x p) i pos) (dI l mi):=by
 obtain⟨a,vs,h1,h2,h3⟩:=g.ex
 refine PE.imp (Ex (LG h2) (rm (v:=.ref a) hg h1 rfl hx) hi hs) λσ H Q ⟨μ,S,env,d,S',hS,hE,hm,post⟩=>?_
 obtain⟨⟨y,S1⟩,e1,hm⟩:=Xc.mp hm
 obtain⟨k,e2,hm⟩:=Xc.mp hm
 obtain⟨d',e3,hm⟩:=Xc.mp hm
 cases hm
 obtain⟨v,z,v1,v2,v3⟩:=h3.val e3
 exact⟨μ,S,env,y,_,hS,hE,e1,λu H1 μ1 ex s1 r1=>⟨k,v,z,rfl,my e2 r1,v1,v2,post _ H1 μ1 ex s1 (v3 _ _ _)⟩⟩
end
theorem zm{K:QF}(hl:K.lookup a=U ⟨.type "dict",Y,.dict es n,#[]⟩)(hp:∀ P,Pairs (cr P w) es.toList vs)(hk:∀ P,KeysOf (cr P w) es)(hn:(vs.map (·.1)).Nodup) :
  ∀ (P:vx) (h:Jq),K.In h->h.DictOf (cr P w) a vs:=λP h KX=>⟨_,es,n,KX a _ hl,⟨rfl,rfl,rfl⟩,rfl,hk P,hp P,hn⟩
inductive TabLit(w:Gs):List DictEntry->List (bC×bd)->Prop
 | nil:TabLit w [] []
 | cons {x:Str} {t:Tok} {v:bd} {es:List DictEntry} {vs:List (bC×bd)} (h:TabLit w es vs):TabLit w (⟨PyData.keyHash w.params x,.str x t,v⟩::es) ((.inr x,v)::vs)
theorem TabLit.pairs:∀ {es vs},TabLit w es vs->Pairs (cr P w) es vs
 | _,_,.nil=>.nil
 | _,_,.cons (x:=x) (t:=t) h=>.cons (AL (k:=.inr x) (show RelV (V.str x) (Value.str x t) from ⟨t,rfl⟩)) rfl h.pairs
theorem TabLit.keys:∀ {es vs},TabLit w es vs->∀ e∈es,∃ k,(cr P w).is k e.key=true/\e.hash=(cr P w).hash k
 | _,_,.nil,e,h=>by simp at h
 | _,_,.cons (x:=x) (t:=t) h,e,he=>by
  rcases XD.mp he with rfl | he
  ·exact⟨.inr x,AL (k:=.inr x) (show RelV (V.str x) (Value.str x t) from ⟨t,rfl⟩),rfl⟩
  ·exact h.keys e he
theorem Jj{K:QF}{mg:Str->Option bd}{es:List DictEntry}(hg:mg x=U (.ref a))(hl:K.lookup a=U ⟨.type "dict",Y,.dict es.toArray n,#[]⟩)(t:TabLit w es vs)(hn:(vs.map (·.1)).Nodup)(r:TabRel vs l):uu w K mg x l:=
 ⟨a,vs,hg,zm hl (λP=>by simpa using t.pairs) (λP e he=>t.keys e (by simpa using he)) hn,r⟩
section
variable{X:Cx}{K:QF}{μ:Fp}{H:Hp}{S:aa}
def lN:MF:=λo ds S=>match ds with
 | [x]=>if sV S o=true then(fO S o).bind λys=>if bS 40 x=true/\ys.all (bS 39)=true/\ys.length<=KY then(ys.findIdx? λd=>iX d x).bind λj=>U (.int (j:Nat),S) else Y else Y
 | _=>Y
theorem tZ{s:gV}(I:Inv X pins σ H s):∀ {vs:List V} {us:List bd} {ds:List D},Vals vs us->Reps X.K μ H vs ds->(∀ d∈ds,bS 39 d=true) ->
  us.map (eN X.K μ H x)=ds.map λd=>iX d x
 | _,_,_,.nil,.nil,_=>rfl
 | _,_,_,.cons rv tv,.cons r t,ok=>by
  rw[Xp,Xp,po I rv r (ok _ Xi),tZ I tv t λd m=>ok d (Xf _ m)]
theorem Kx(hu:X.A.units+64<cLine):MtR X "list.index" (OU X.K lN):=by
 intro pins s σ H x vs v us Q I rx rv h
 obtain⟨μ,S,dx,ds,d,S',hS,r1,r2,h,post⟩:=h
 unfold lN at h
 split at h
 ·rename_i y
  split at h
  ·rename_i hl
   obtain⟨a,ws,es,rfl,hq,hse,re⟩:=oQ hS r1 hl
   rw[hse] at h
   dsimp only[Option.bind_some] at h
   split at h
   ·rename_i hk
    obtain⟨j,hj,h⟩:=Xc.mp h
    cases h
    cases rx
    obtain⟨w,rfl,rw0⟩:=r2.one
    obtain⟨u,rfl,ru⟩:=rv.one
    obtain⟨its,rvs,⟨⟨cls,dd,data,sl⟩,n,e,hc,hdd,hd⟩,hz⟩:=I.list hq
    simp only at hc hdd hd
    subst hc hdd hd
    have ok:=Xu.mp hk.2.1
    have em:=tZ (x:=y) I rvs re ok
    have ln:its.length=es.length:=by rw[<- re.length,rvs.length]
    obtain⟨hj1,hj2,hj3⟩:=aag.mp hj
    have at_:∀ (m:Nat) (h1:m<its.length) (h2:m<es.length),eN X.K μ H y its[m]=iX es[m] y:=λm h1 h2=>by
     have:(its.map (eN X.K μ H y))[m]?=(es.map λd=>iX d y)[m]?:=by rw[em]
     rw[Yl,Yl,Xl h1,Xl h2] at this
     simpa using this
    have sz:KY<2^63 - 1:=by decide
    refine YZ F.slot_list_index ⟨_,e,rfl⟩ F.entry_list_index (F.args_list_index_2 _ _) (SeqAt.list_indexAt a its.toArray n Y sl u (eN X.K μ H y) j (by simpa[ln] using hj1) (by have:=hk.2.2;omega) ?_ ?_) ⟨e,λw' hw'=>?_,?_⟩
    ·rw[abu,at_ j (by omega) hj1];exact hj2
    ·intro m hm hmj
     rw[abu,at_ m (by simpa using hm) (by omega)]
     have:=hj3 m hmj
     simpa using this
    ·exact gK I (by show X.A.units+1+40<cLine;omega) ru rw0 hk.1 rvs re ok w' (by simpa using hw')
    ·exact⟨.int _,H,I.tok _,⟨_,rfl⟩,post.here hS (.int _)⟩
   ·cases h
  ·cases h
 ·cases h
def jm:MF:=λo ds S=>match o,ds with
 | .ref r,[.lst ys]=>(match S[r]? with | some (.lst xs)=>if xs.length+ys.length<=KY then U (.non,S.set r (.lst (xs++ys))) else Y | _=>Y)
 | .ref r,[.tup ys]=>(match S[r]? with | some (.lst xs)=>if xs.length+ys.length<=KY then U (.non,S.set r (.lst (xs++ys))) else Y | _=>Y)
 | _,_=>Y
theorem QG{items:Array bd}{ob:Obj}(hc:ob.cls=.type "tuple")(hd:ob.data=.seq items2 n2)(h0:¬(!items.isEmpty&&Builtin.List.listTooLong (items.size+items2.size))=true)(h1:items.size<=KY)(h2:(items++items2).size<=KY+1) :
  Meets (Builtin.«list.extend» ⟨[.ref l,.ref b],[]⟩) (λ_ R s=>s.heap.get? l=U { cls:=.type "list",data:=.seq items n }/\s.heap.get? b=U ob/\R (.ok (.ret .none)) { s with heap:=s.heap.update l (Obj.mapSeq (·++items2)) }):=
 .of_wp λprog w A R s z0=>by
  obtain⟨hl,hb,h⟩:=z0
  obtain⟨cls,dict,data,slots⟩:=ob
  simp only at hc hd
  subst hc hd
  have f2:=PyProof.Rows.sub_tuple_tuple
  have f4:=PyProof.Rows.sub_tuple_list
  cases s
  wp_walk using(aaI hl rfl (hz:=h1) (_hz':=h2)),AutoSeq1.wpAny_loadPart' hl,AutoSeq1.wpAny_loadPart' hb
  exact⟨_,rfl,h⟩
theorem PU:MtR X "list.extend" (λx vs H Q=>∃ l b xs zs,x=.ref l/\vs=[.ref b]/\H l=U (.lst xs)/\lv X.K H b zs/\xs.length+zs.length<=KY/\Q .non (upd H l (.lst (xs++zs)))):=by
 intro pins s σ H x vs v us Q I rx rv ⟨l,b,xs,zs,e1,e2,hH,hB,hz,q⟩
 subst e1 e2
 cases rx
 obtain⟨u,rfl,ru⟩:=rv.one
 cases ru
 obtain⟨z,its,n,r,hl,e⟩:=I.lstM hH
 obtain⟨its2,r2,⟨ob,e2,hc,n2,hd⟩,hl2⟩:=I.tuple hB
 have k1:=r.length
 have k2:=r2.length
 have hsz:its.toArray.size+its2.toArray.size<=KY:=by rw[Xg,Xg];omega
 refine YZ aai ⟨_,e,rfl⟩ abI (abw _ _)
  (QG hc hd (by rw[sA hsz,Zt];exact Sn) (by rw[Xg];omega) (by rw[Array.size_append];omega)) ⟨e,e2,?_⟩
 refine⟨.non,_,I.lset (its':=its++its2) hH e (by simp) (r.append r2) ?_,rfl,q⟩
 rw[XM]
 omega
theorem Hb:MtR X "list.extend" (OU X.K jm):=by
 intro pins s σ H x vs v us Q I rx rv ⟨μ,S,dx,ds,d,S',hS,r1,r2,h,post⟩
 have go:∀ r xs ys,dx=.ref r->S[r]?=U (.lst xs)->(if xs.length+ys.length<=KY then U (D.non,S.set r (.lst (xs++ys))) else Y)=U (d,S')->∀ b zs,vs=[.ref b]->Reps X.K μ H zs ys->∃ a ws,x=.ref a/\H a=U (.lst ws)/\ws.length+zs.length<=KY/\Q .non (upd H a (.lst (ws++zs))):=λr xs ys e q h0 b zs ev rz=>by
  subst e
  split at h0
  ·rename_i hz
   cases h0
   cases r1 with
   | @ref a _ h'=>
    obtain⟨ws,hw,rw'⟩:=hS.cell r a _ h' q
    obtain⟨e,s'⟩:=hS.write h' hw (rw'.append rz)
    exact⟨a,ws,rfl,hw,by rw[rw'.length,rz.length];exact hz,post _ _ μ e s' .non⟩
  ·cases h0
 unfold jm at h
 split at h
 ·rename_i r ys
  obtain⟨w,rfl,rw0⟩:=r2.one
  split at h
  ·rename_i xs q
   cases rw0 with
   | @lst b zs _ hb nb rz=>
    obtain⟨a,ws,h1,h2,h3,h4⟩:=go r xs ys rfl q h b zs rfl rz
    exact GZ pins s σ H x _ v us Q I rx rv ⟨a,b,ws,zs,h1,rfl,h2,hb,h3,h4⟩
  ·cases h
 ·rename_i r ys
  obtain⟨w,rfl,rw0⟩:=r2.one
  split at h
  ·rename_i xs q
   obtain⟨b,zs,e,hb,rz⟩:=rw0.sqT
   subst e
   obtain⟨a,ws,h1,h2,h3,h4⟩:=go r xs ys rfl q h b zs rfl rz
   exact PU pins s σ H x _ v us Q I rx rv ⟨a,b,ws,zs,h1,rfl,h2,hb,h3,h4⟩
  ·cases h
 ·cases h
end
section
variable{X:Cx}{K:QF}{μ μ':Fp}{H H':Hp}{S S':aa}{tg iter:tx}{pos:Pos}
def gc(g:MG)(t:MT)(e:ME)(r:Nat):Nat->Nat->aE->aa->Option (List D×aa)
 | 0,_,_,_=>Y
 | f+1,i,env,S=>match S[r]? with
  | some (.lst xs)=>match xs[i]? with
   | none=>U ([],S)
   | some d=>(g d env S).bind λp=>(t p.1 p.2).bind λb=>if b.1=true then(e p.1 b.2).bind λy=>(gc g t e r f (i+1) p.1 y.2).bind λz=>U (y.1::z.1,z.2) else gc g t e r f (i+1) p.1 b.2
  | _=>Y
def df(m:ME)(g:MG)(t:MT)(e:ME)(cap:List (Option Nat)):ME:=λenv S=>(m env S).bind λp=>match p.1 with
 | .ref r=>(gc g t e r 2000 0 (pB cap env) p.2).bind λz=>U (.ref z.2.length,z.2++[.lst z.1])
 | _=>Y
theorem Ext.take{cs fb:List td}(e:Ext μ H ⟨cs,fb⟩ H')(hp:H p=Y)(h:H' p≠Y):Ext μ H ⟨cs++[p],fb⟩ H':=
 ⟨e.fb,(by obtain⟨l,q,hl⟩:=e.pre;exact⟨l++[p],by show cs++[p]=_;rw[show cs = μ.cs++l from q,XU],λa ha=>by rcases Xx.mp ha with ha | ha;exact hl a ha;rw[XA.mp ha];exact hp⟩),e.keep,λa ha=>by
  rcases Xx.mp ha with ha | ha
  ·exact e.dom a ha
  ·rw[XA.mp ha];exact h⟩
theorem SOk.take{cs fb:List td}{p:td}(s:SOk K ⟨cs,p::fb⟩ S H)(h:H p=U (.lst vs))(r:Reps K ⟨cs,p::fb⟩ H vs zs)(hn:p∉fb):SOk K ⟨cs++[p],fb⟩ (S++[.lst zs]) H:=by
 have ncs:p∉cs:=s.disj p Xi
 refine⟨YA.mpr ⟨s.nd,by simp,λa ha b hb=>by rw[XA.mp hb];exact λz=>ncs (z ▸ ha)⟩,by have:cs.length=S.length:=s.len;simp[this],λi a c h1 h2=>?_,λa ha=>s.fdom a (Xf _ ha),λa ha z=>?_⟩
 ·have hl:cs.length=S.length:=s.len
  by_cases hi:i<cs.length
  ·rw[Xv hi] at h1
   rw[Xv (by rw[<- hl];exact hi)] at h2
   have ck:=s.cell i a c h1 h2
   cases c with
   | lst ds=>obtain⟨ws,h,r⟩:=ck;exact⟨ws,h,r.adopt⟩
   | dct ks ds=>obtain⟨ws,h,q,r⟩:=ck;exact⟨ws,h,q,r.adopt⟩
   | deep ks ds=>obtain⟨ws,h,q,r,r'⟩:=ck;exact⟨ws,h,q,r.adopt,r'.adopt⟩
  ·have hi':i=cs.length:=by
    have:=(Xe.mp h1).1
    simp at this;omega
   subst hi'
   rw[XJ (Xm _)] at h1
   rw[hl,XJ (Xm _)] at h2
   simp at h1 h2
   subst h1 h2
   exact⟨vs,h,r.adopt⟩
 ·rcases Xx.mp z with z | z
  ·exact s.disj a (Xf _ ha) z
  ·exact hn (XA.mp z ▸ ha)
theorem vv(h:tM K (df mi g t e cap) σ H Q):Es (SG K (tM K mi)) (Sd K g) (Cg K t) (tM K e) cap σ H Q:=by
 obtain⟨μ,S,env,d,S',hS,hE,hm,post⟩:=h
 obtain⟨⟨d0,S1⟩,h1,hm⟩:=Xc.mp hm
 dsimp only at hm
 split at hm
 case h_2=>cases hm
 rename_i r
 obtain⟨⟨ys,S2⟩,h2,hm⟩:=Xc.mp hm
 cases hm
 refine⟨μ,S,env,_,S1,hS,hE,h1,λv H1 μ1 e1 s1 r1=>?_⟩
 cases r1 with
 | @ref a _ ha=>
  have hq0:∃ vs,mT K H1 a vs:=by
   unfold gc at h2
   split at h2
   ·rename_i xs q
    obtain⟨vs,hv,_⟩:=s1.cell r a _ ha q
    exact⟨vs,.inl (.inl hv)⟩
   ·cases h2
  refine⟨a,rfl,hq0,λp hp=>?_⟩
  have hpn:=s1.notMem hp
  refine⟨λi n σ' H'=>n+i=2000/\CpJ K μ1 H1 p (λenv S rest=>gc g t e r n i env S=U (rest,S2)) ys i σ' H',⟨2000,rfl,.start s1 ((hE.mono e1).block cap) hp h2⟩,?_⟩
  rintro i n σ' H' ⟨hn,c⟩
  cases c with | mk cs S' env' vs zs rest eP s' r' hpv rz hl hy hvl=>?_
  subst hy
  have pcs:p∉cs:=λz=>s'.disj p Xi z
  cases n with
  | zero=>cases hl
  | succ n=>
   unfold gc at hl
   split at hl
   ·rename_i xs q
    have ha':(⟨cs,p::μ1.fb⟩:Fp).cs[r]?=U a:=eP.ix ha
    obtain⟨ws,hv,rv⟩:=s'.cell r a _ ha' q
    have hsq:mT K H' a ws:=.inl (.inl hv)
    split at hl
    ·rename_i hx
     cases hl
     have eF:Ext μ1 H1 ⟨cs,μ1.fb⟩ H':=⟨rfl,eP.pre,eP.keep,eP.dom⟩
     rw[XW] at post
     exact .inl ⟨⟨ws,hsq,by rw[rv.length];simpa using hx⟩,post _ H' ⟨cs++[p],μ1.fb⟩ (e1.trans (eF.take hp (by rw[hpv];simp))) (s'.take hpv rz hpn.2) (.ref (by rw[<- s'.len,XJ (Xm _)];simp))⟩
    ·rename_i dd hx
     obtain⟨w,hw,rw0⟩:=rv.get hx
     refine .inr ⟨⟨ws,w,hsq,hw⟩,λx H2 y=>?_⟩
     obtain⟨e2,hy⟩:=y
     subst e2
     have ex:x=w:=by have:=hy ws hsq;rw[hw] at this;exact(XC this).symm
     subst ex
     obtain⟨⟨env3,S3⟩,h3,hl⟩:=Xc.mp hl
     obtain⟨⟨b,S4⟩,h4,hl⟩:=Xc.mp hl
     refine⟨_,S',env',dd,env3,S3,s',r',rw0,h3,λσ3 H3 μ3 e3 s3 r3=>⟨μ3,S3,env3,b,S4,s3,r3,h4,λH4 μ4 e4 s4=>?_⟩⟩
     have eA:=e3.trans e4
     cases b with
     | false=>
      rw[if_neg Sn] at hl
      dsimp only
      rw[if_neg Sn]
      obtain⟨cs4,fb4⟩:=μ4
      have hfb:fb4=p::μ1.fb:=eA.fb
      subst hfb
      exact⟨n,Nat.lt_succ_self _,by omega,.mk cs4 S4 env3 vs zs rest (eP.then eA) s4 (r3.mono e4) (eA.keeps hpv pcs).1 (rz.mono eA) hl rfl (by omega)⟩
     | true=>
      rw[Xq rfl] at hl
      dsimp only
      rw[Xq rfl]
      obtain⟨⟨dv,S5⟩,h5,hl⟩:=Xc.mp hl
      obtain⟨⟨rs,S6⟩,h6,hl⟩:=Xc.mp hl
      cases hl
      refine⟨μ4,S4,env3,dv,S5,s4,r3.mono e4,h5,λv H5 μ5 e5 s5 r5=>?_⟩
      have eB:=eA.trans e5
      obtain⟨cs5,fb5⟩:=μ5
      have hfb:fb5=p::μ1.fb:=eB.fb
      subst hfb
      have sz:2000<KY:=by decide
      exact⟨vs,(eB.keeps hpv pcs).1,by omega,n,Nat.lt_succ_self _,by omega,.mk cs5 S5 env3 (vs++[v]) (zs++[dv]) rs ((eP.then eB).chg hp) (s5.chg Xi) (((r3.mono e4).mono e5).chg Xi) aV (Reps.chg Xi ((rz.mono eB).append (.cons r5 .nil))) h6 (by simp) (by rw[XM,ZR];omega)⟩
   ·cases hl
theorem NH
  (hc:X.calm=true) (B:BlockOk X N' scope cap) (hi:DE X iter mi) (hg:∀ C s H fp,DG (mI X N' scope C s H fp) tg g) (ht:∀ C s H fp,Oq (mI X N' scope C s H fp) ifs t) (he:∀ C s H fp,DE (mI X N' scope C s H fp) elt me)
  (hs:∀ x,Ld iter X.env x=pure x:=by intro _;rfl):DE X (.ListComp elt [⟨tg,iter,ifs,0⟩] scope pos) (df mi g t me cap):=
 PE.imp (Ez (g:=Sd X.K g) (tt:=Cg X.K t) (te:=tM X.K me) hc B (xn hi) hg ht he hs) λ_ _ _ h=>vv h
theorem Br{spos:Pos}{y:Str}{i:Nat}
  (hN:X.N.Nodup) (hy:X.N[i]?=U y) (hx:Gi X.env.scope y)
  (hc:X.calm=true) (B:BlockOk X N' scope cap) (hi:DE X iter mi) (hg:∀ C s H fp,DG (mI X N' scope C s H fp) tg g) (ht:∀ C s H fp,Oq (mI X N' scope C s H fp) ifs t) (he:∀ C s H fp,DE (mI X N' scope C s H fp) elt me)
  (hsw:swapsWith (.ListComp elt [⟨tg,iter,ifs,0⟩] scope pos) (U (.Name y py)) spos.line X.env=pure true:=by rfl)
  (hs:∀ x,Ld iter X.env x=pure x:=by intro _;rfl) (hf:X.fn y=true\/X.env.scope.names.lookup y=U .local:=by first | exact .inl rfl | exact .inr rfl | assumption) :
  DS X (.Assign [.Name y py] (.ListComp elt [⟨tg,iter,ifs,0⟩] scope pos) spos) (ay (df mi g t me cap) (ag i)):=
 PS.imp (sg (g:=Sd X.K g) (tt:=Cg X.K t) (te:=tM X.K me) hN hy hx hc B (xn hi) hg ht he hsw hs hf) λE σ H h=>by
  obtain⟨μ,S,env,o,hS,hE,hm,post⟩:=h
  obtain⟨⟨d,S1⟩,h1,hm⟩:=Xc.mp hm
  cases hm
  exact vv ⟨μ,S,env,d,S1,hS,hE,h1,λv H1 μ1 e1 s1 r1=>post _ H1 μ1 e1 s1 ((hE.mono e1).set r1 i)⟩
end
end M
namespace M
open L2
section
variable{X:Cx}{K:QF}{H:Hp}{pos:Pos}
variable{elt tg iter tg2 iter2:tx}{ifs ifs2:List tx}{scope:Scope}{spos py:Pos}{N':List Str}{cap:List (Option Nat)}{mi mi2:MA}{g g2:MG}{t t2:MT}{me:ME}{y:Str}{i:Nat}
def hZ(a b:ME):ME:=λenv S=>(a env S).bind λp=>(b env p.2).bind λq=>(qt q.2 p.1).bind λxs=>(qt q.2 q.1).bind λys=>if xs.length+ys.length<=KY then U (.ref q.2.length,q.2++[.lst (xs++ys)]) else Y
theorem Rt(ha:DE X a ma)(hb:DE X b mb):DE X (.BinOp a .Add b pos) (hZ ma mb):=PE.imp (Sl CF ha hb) λσ H Q z0=>by
 obtain⟨μ,S,env,d,S',hS,hE,hm,post⟩:=z0
 obtain⟨⟨x,S1⟩,h1,hm⟩:=Xc.mp hm
 obtain⟨⟨y,S2⟩,h2,hm⟩:=Xc.mp hm
 obtain⟨xs,e1,hm⟩:=Xc.mp hm
 obtain⟨ys,e2,hm⟩:=Xc.mp hm
 dsimp only at hm
 split at hm
 ·rename_i hl
  cases hm
  refine⟨μ,S,env,x,S1,hS,hE,h1,λv H1 μ1 f1 s1 r1=>⟨μ1,S1,env,y,S2,s1,hE.mono f1,h2,λw H2 μ2 f2 s2 r2=>?_⟩⟩
  obtain⟨a,vs,rfl,q1,t1⟩:=mw s2 (r1.mono f2) e1
  obtain⟨b,ws,rfl,q2,t2⟩:=mw s2 r2 e2
  have l1:=t1.length
  have l2:=t2.length
  exact⟨a,b,vs,ws,rfl,rfl,q1,q2,by omega,λp hp=>(post.ext (f1.trans f2)).lstR s2 hp (t1.append t2)⟩
 ·cases hm
end
structure RR(P:vx)(w:Gs)(K:QF)(mg:Str->Option bd)(base:Jq)(k:Nat)(a:td)(n:Nat)(f:List D->aa->Option (D×aa)):Prop where
 ex:∃ (fd:FuncData) (ps:List Str),ps.length=n/\FnOk P w K mg base Gj k a fd ps (Jy K n f)/\W.keepIn K (.ref a)=true/\Binds K fd ps []
theorem Fn.at{K:QF}{k:Nat}(F:Fn P w K mg base k x n f)(h:mg x=U (.ref a)):RR P w K mg base k a n f:=by
 obtain⟨b,fd,ps,h1,h2,h3,h4,h5⟩:=F.ex
 rw[h] at h3;cases h3
 exact⟨fd,ps,h1,h2,h4,h5⟩
inductive FRel(P:vx)(w:Gs)(K:QF)(mg:Str->Option bd)(base:Jq)(k:Nat):List (bC×bd)->List (bC×Nat×(List D->aa->Option (D×aa)))->Prop
 | nil:FRel P w K mg base k [] []
 | cons {y:bC} {a:td} {n:Nat} {f:List D->aa->Option (D×aa)} {vs:List (bC×bd)} {l:List (bC×Nat×(List D->aa->Option (D×aa)))} (h:RR P w K mg base k a n f) (t:FRel P w K mg base k vs l):FRel P w K mg base k ((y,.ref a)::vs) ((y,n,f)::l)
def zk:List (bC×Nat×(List D->aa->Option (D×aa)))->bC->Option (Nat×(List D->aa->Option (D×aa)))
 | [],_=>Y
 | (y,p)::l,k=>if y=k then U p else zk l k
section
variable{P:vx}{w:Gs}{K:QF}{mg:Str->Option bd}{base:Jq}{k:Nat}
theorem FRel.val{p:Nat×(List D->aa->Option (D×aa))}:∀ {vs l},FRel P w K mg base k vs l->zk l y=U p->∃ a,valueAt vs y=U (.ref a)/\RR P w K mg base k a p.1 p.2
 | _,_,.nil,q=>by cases q
 | _,_,.cons (y:=y') (a:=a) h t,q=>by
  unfold zk at q
  split at q
  ·rename_i e;cases q;exact⟨a,by simp[valueAt,e],h⟩
  ·rename_i e
   obtain⟨b,h1,h2⟩:=FRel.val t q
   refine⟨b,?_,h2⟩
   rw[<- h1]
   simp[valueAt,e]
structure FTab(P:vx)(w:Gs)(K:QF)(mg:Str->Option bd)(base:Jq)(k:Nat)(x:Str)(l:List (bC×Nat×(List D->aa->Option (D×aa)))):Prop where
 ex:∃ (a:td) (vs:List (bC×bd)),mg x=U (.ref a)/\(∀ (P:vx) (h:Jq),K.In h->h.DictOf (cr P w) a vs)/\FRel P w K mg base k vs l
end
theorem EOk.setN{K:QF}:∀ {σ:L2.St} {env:aE} (i:Nat),EOk K μ H σ env->EOk K μ H (σ.set i x) (env.set i Y)
 | _,_,_,.nil=>.nil
 | _,_,0,.no t=>.no t
 | _,_,0,.yes _ t=>.no t
 | _,_,i+1,.no t=>.no (EOk.setN i t)
 | _,_,i+1,.yes h t=>.yes h (EOk.setN i t)
section
variable{X:Cx}{k i:Nat}{x b:Str}{e ix:tx}{es:List tx}{mi:ME}{ms:MA}{p pb pt ps pa pc pr:Pos}{l:List (bC×Nat×(List D->aa->Option (D×aa)))}
theorem Ki(hN:X.N[i]?=U b)(hv:Tf X.env.scope b)(hr:Room k X.A)(ha:PA X (e::es) t)(hd:(b==("__debug__":Str))=false)(hc:(b==("__classdict__":Str))=false)
  (he:KZ (e::es) X.env=(false,eval e X.env)::KZ es X.env) (hpl:(backTo pc (KZ es X.env)).any (·.1)=false) :
  PE X (.Call (.Name b p) (e::es) [] pc) (λσ H Q=>∃ a n f,σ[i]?=U (U (.ref a))/\RR X.prog X.w X.K X.mg X.base k a n f/\zq (Jy X.K n f) [] E0 t σ H Q):=by
 intro pins s σ H Q I ⟨a,n,f,hσ,F,h⟩
 obtain⟨fd,qs,hn,F,hk,hb⟩:=F.ex
 refine YF (dA (Ka hN hv hd hc pins s σ H (λv H'=>v=.ref a/\H'=H) I ⟨_,hσ,rfl,rfl⟩) λu s1 ⟨v,H1,I1,r,e1,e2⟩=>?_)
 subst e1 e2
 cases r
 refine abm (h₀:=X.base) I1.ok.mod.kin hk (dA (ha pc pins s1 σ H1 _ I1 h) λus s2 ⟨vs,H2,I2,r2,q⟩=>⟨I2.kIn,?_⟩) he hpl
 exact Cr F hr hb .nil Kl I2 r2 q
def je(l:List (bC×Nat×(List D->aa->Option (D×aa))))(i:Nat)(mi:ME)(ms:MA):MS:=λenv S=>(mi env S).bind λp=>(gB p.1).bind λk=>(zk l k).bind λq=>(ms (env.set i Y) p.2).bind λr=>if r.1.length=q.1 then(q.2 r.1 r.2).bind λz=>U (.rt z.1 z.2) else Y
theorem Nf(g:FTab X.prog X.w X.K X.mg X.base k x l)(hg:Gl X x)(hx:(x==("__debug__":Str))=false)(hi:DE X ix mi)(hs:kY ix)(hr:Room k X.A)(ha:DA X (e::es) ms)(nd:X.N.Nodup)(hN:X.N[i]?=U b)(hl:Gi X.env.scope b)(hv:Tf X.env.scope b)
  (hf:X.fn b=true\/X.env.scope.names.lookup b=U .local) (hd:(b==("__debug__":Str))=false) (hc:(b==("__classdict__":Str))=false) (hlen:i<X.N.length)
  (he:KZ (e::es) X.env=(false,eval e X.env)::KZ es X.env) (hpl:(backTo pc (KZ es X.env)).any (·.1)=false) :
  vj X [.Assign [.Name b pb] (.Subscript (.Name x pt) ix ps) pa,.Return (U (.Call (.Name b p) (e::es) [] pc)) pr] (je l i mi ms):=by
 obtain⟨a,vs,h1,h2,h3⟩:=g.ex
 intro pins s σ H E I h
 have hlσ:i < σ.length:=by
  have:σ.length=X.N.length:=I.len
  omega
 refine sf (JT (i:=i) nd hN hl (Ex (LG h2) (rm (v:=.ref a) hg h1 rfl hx) hi hs) rfl hf) (xi (JU (Ki hN hv hr ha hd hc he hpl))) pins s σ H E I ?_
 obtain⟨μ,S,env,o,hS,hE,hm,post⟩:=h
 obtain⟨⟨y,S1⟩,e1,hm⟩:=Xc.mp hm
 obtain⟨z,e2,hm⟩:=Xc.mp hm
 obtain⟨q,e3,hm⟩:=Xc.mp hm
 obtain⟨fa,v1,F⟩:=h3.val e3
 refine⟨μ,S,env,y,S1,hS,hE,e1,λu H1 μ1 ex s1 r1=>⟨z,.ref fa,.ref fa,rfl,my e2 r1,v1,rfl,?_⟩⟩
 obtain⟨⟨ws,S2⟩,e4,hm⟩:=Xc.mp hm
 dsimp only at hm
 split at hm
 ·rename_i hn
  obtain⟨⟨d,S3⟩,e5,hm⟩:=Xc.mp hm
  cases hm
  refine⟨fa,q.1,q.2,by rw[XF hlσ],F,zp ⟨μ1,S1,env.set i Y,d,S3,s1,(hE.mono ex).setN i,?_,Post.ext ex post⟩⟩
  show(ms (env.set i Y) S1).bind _=_
  rw[e4]
  exact(Xq hn).trans e5
 ·cases hm
end
inductive FNs(mg:Str->Option bd):List (bC×bd)->List (Str×Str)->Prop
 | nil:FNs mg [] []
 | cons {x y:Str} {a:td} {vs:List (bC×bd)} {l:List (Str×Str)} (h:mg y=U (.ref a)) (t:FNs mg vs l):FNs mg ((.inr x,.ref a)::vs) ((x,y)::l)
structure FNm(w:Gs)(K:QF)(mg:Str->Option bd)(x:Str)(l:List (Str×Str)):Prop where
 ex:∃ (a:td) (vs:List (bC×bd)),mg x=U (.ref a)/\(∀ (P:vx) (h:Jq),K.In h->h.DictOf (cr P w) a vs)/\FNs mg vs l
theorem Vv{K:QF}{mg:Str->Option bd}{es:List DictEntry}(hg:mg x=U (.ref a))(hl:K.lookup a=U ⟨.type "dict",Y,.dict es.toArray n,#[]⟩)(t:TabLit w es vs)(hn:(vs.map (·.1)).Nodup)(r:FNs mg vs l):FNm w K mg x l:=
 ⟨a,vs,hg,zm hl (λP=>by simpa using t.pairs) (λP e he=>t.keys e (by simpa using he)) hn,r⟩
section
variable{P:vx}{w:Gs}{K:QF}{mg:Str->Option bd}{base:Jq}{k:Nat}
def FFs(P:vx)(w:Gs)(K:QF)(mg:Str->Option bd)(base:Jq)(k:Nat):List (Str×Str)->List (bC×Nat×(List D->aa->Option (D×aa)))->Prop
 | [],[]=>True
 | (x,y)::l,(z,n,f)::r=>z=.inr x/\Fn P w K mg base k y n f/\FFs P w K mg base k l r
 | _,_=>False
theorem FNs.rel:∀ {vs l r},FNs mg vs l->FFs P w K mg base k l r->FRel P w K mg base k vs r
 | _,_,[],.nil,_=>.nil
 | _,_,(z,n,f)::r,.cons h t,q=>by
  obtain⟨q1,q2,q3⟩:=q
  subst q1
  exact .cons (q2.at h) (t.rel q3)
theorem Qx(T:FNm w K mg x l)(h:FFs P w K mg base k l r):FTab P w K mg base k x r:=by
 obtain⟨a,vs,h1,h2,h3⟩:=T.ex
 exact⟨a,vs,h1,h2,h3.rel h⟩
theorem FRel.up{k':Nat}(h:k<=k'):∀ {vs l},FRel P w K mg base k vs l->FRel P w K mg base k' vs l
 | _,_,.nil=>.nil
 | _,_,.cons q t=>.cons (by obtain⟨fd,ps,a,b,c⟩:=q.ex;exact⟨fd,ps,a,b.mono h,c⟩) (t.up h)
theorem FTab.up{k':Nat}(T:FTab P w K mg base k x l)(h:k<=k'):FTab P w K mg base k' x l:=by
 obtain⟨a,vs,h1,h2,h3⟩:=T.ex
 exact⟨a,vs,h1,h2,h3.up h⟩
end
section
variable{X:Cx}{e:tx}{m:ME}{pos:Pos}
def yz(_:aa)(x y:D):Option D:=match x,y with
 | .int i,.int j=>U (.int (i+j))
 | _,_=>Y
theorem Nk{i:Nat}{x:Str}(hN:X.N.Nodup)(hi:X.N[i]?=U x)(hx:Gi X.env.scope x)(hf:X.fn x=true\/X.env.scope.names.lookup x=U .local)(he:DE X e m) :
  DS X (.AugAssign (.Name x pos') .Add e pos) (ay (aH yz (af i) m) (ag i)):=PS.imp (TW hN hi hx he Vm hf) λE σ H h=>by
 obtain⟨μ,S,env,o,hS,hE,hm,post⟩:=h
 obtain⟨⟨d,S1⟩,h1,hm⟩:=Xc.mp hm
 cases hm
 obtain⟨⟨a,S2⟩,h2,h1⟩:=Xc.mp h1
 obtain⟨⟨b,S3⟩,h3,h1⟩:=Xc.mp h1
 obtain⟨a',h4,h2⟩:=Xc.mp h2
 cases h2
 obtain⟨d',h5,h1⟩:=Xc.mp h1
 cases h1
 dsimp only at h5
 obtain⟨p,q,rfl,rfl,rfl⟩:∃ p q,a=.int p/\b=.int q/\d=.int (p+q):=by
  cases a<;>first | cases h5 | skip
  cases b<;>first | cases h5 | skip
  exact⟨_,_,rfl,rfl,rfl⟩
 obtain⟨v,e1,r⟩:=hE.get (vV h4)
 refine⟨v,e1,μ,S,env,_,_,hS,hE,h3,λw H1 μ1 e1 s1 r1=>⟨p,q,r.int_inv,r1.int_inv,?_⟩⟩
 exact post _ H1 μ1 e1 s1 ((hE.mono e1).set (.int _) i)
end
end M
namespace HT
section
open PySem.W Builtin Builtin.ObjectAttr Builtin.Getset_descriptor
def ly:List bd:=[.type "ValueError",.type "Exception",.type "BaseException",.type "object"]
variable{prog:vx}{w:Gs}{A:IN}{E:bd->gV->Prop}{s:gV}{K:Frag}{x C:td}{R:Result->gV->Prop}
end
end HT
namespace HT
section
variable{M:Model}{A:IN}{E:bd->gV->Prop}{s:gV}
structure WZ(h:Jq)(e T:td)(C:bd)(dx:Option td):Prop where
 ne:T≠e
 exc:∃ oe vs,h.get? e=U oe/\oe.cls=C/\oe.dict=dx/\oe.data=.fields vs/\vs[1]?=U (.ref T)
 ent:∃ oT ts,h.get? T=U oT/\oT.data=.fields ts/\ts[3]?=U .none
structure WY(fs:List td)(no:td->Prop)(h h':Jq):Prop where
 keep:∀ b o,b∉fs->¬ no b->h.get? b=U o->h'.get? b=U o
 slot:∀ b o,b∈fs->h.get? b=U o->∃ sl,h'.get? b=U { o with slots:=sl }
theorem oK(g:Array bd->Array bd)(o:Obj):(o.mapFields g).cls=o.cls/\(o.mapFields g).dict=o.dict:=by
 obtain⟨c,d,dt,sl⟩:=o
 cases dt<;>exact⟨rfl,rfl⟩
theorem AI{env:Env}{outer:List Env}{L:td}{oe:Obj}{Q:Unit->gV->Prop}
  (hfr:A.frames=U (env::outer)) (hl:s.heap.FunFrames base (env::outer)) (hf:env.frame=U L)
  (he:s.heap.get? e=U oe) (hd:oe.data=.fields vs) (h1:vs[1]?=U .none)
  (h:∀ h' T,s.heap.objs.size<=T->WZ h' e T oe.cls oe.dict->WY ((env::outer).filterMap (·.frame)) (λb=>b=e) s.heap h'->Q () { s with heap:=h' }):Qs M A (leaving env (.ref e)) Q E s:=by
 have hsz:1<vs.size:=(Zg.mp h1).1
 have enf:e∉(env::outer).filterMap (·.frame):=λhm=>by
  obtain⟨_,o,ho,hnf⟩:=hl.mem hm
  rw[he] at ho;cases ho;exact hnf vs hd
 unfold leaving noteFrame
 simp only[hf]
 refine Xd (Xd (XY he hd h1 ?_))
 rw[if_neg (by decide)]
 refine Xd (wpAny_frameOf_fun hfr hl hf λh₁ hs=>Xd (abJ λpl hpl=>?_))
 have e1:h₁.get? e=U oe:=(hs.2.1 e enf).trans he
 unfold EntryCells.newEntry newFields
 refine Xd (XI ?_ (hpl.sizeOk5 _ _ _ _ _))
 generalize hts:(([Value.none,.ref L,.none,rawInt L,.none]++(if pl.isEmpty then Si 6 Value.none else pl)).toArray)=ts
 have t3:3<ts.size:=by rw[<- hts];simp
 have e2:(h₁.push { cls:=.type "traceback",dict:=Y,data:=.fields ts }).get? e=U oe:=Xh _ e1
 have T2:(h₁.push { cls:=.type "traceback",dict:=Y,data:=.fields ts }).get? h₁.objs.size=U { cls:=.type "traceback",dict:=Y,data:=.fields ts }:=Xr _ rfl
 have ne:h₁.objs.size≠e:=Ye (Xo e1)
 refine Yb e2 hd hsz ?_
 have d3:=Yt hd (·.setIfInBounds 1 (Value.ref h₁.objs.size))
 have e3:=XG (Obj.mapFields (·.setIfInBounds 1 (Value.ref h₁.objs.size))) e2 (YH d3)
 have T3:=(Xy _ (Obj.mapFields (·.setIfInBounds 1 (Value.ref h₁.objs.size))) (Ne.symm ne)).trans T2
 unfold setFlight
 refine Xd (XY e3 d3 (x:=.ref h₁.objs.size) (by simp[hsz]) ?_)
 rw[Xq (show(Value.ref h₁.objs.size != Value.none)=true from by simp)]
 refine Yb T3 rfl t3 (h _ h₁.objs.size (by rw[hs.1];exact Xm _) ⟨ne,?_,?_⟩ ⟨λb o nb ne' hb=>?_,λb o hm hb=>?_⟩)
 ·exact⟨_,_,(Xy _ _ ne).trans e3,(oK _ _).1,(oK _ _).2,d3,by simp[hsz]⟩
 ·exact⟨_,_,XG _ T3 rfl,rfl,by simp[t3]⟩
 ·have b1:h₁.get? b=U o:=(hs.2.1 b nb).trans hb
  have nT:h₁.objs.size≠b:=Ye (Xo b1)
  exact(Xy _ _ nT).trans ((Xy _ _ (Ne.symm ne')).trans (Xh _ b1))
 ·obtain⟨sl,b1⟩:=hs.2.2 b o hb
  have nT:h₁.objs.size≠b:=Ye (Xo b1)
  have nE:e≠b:=λz=>enf (z ▸ hm)
  exact⟨sl,(Xy _ _ nT).trans ((Xy _ _ nE).trans (Xh _ b1))⟩
theorem Ff{env:Env}{outer:List Env}{L:td}{Q:Unit->gV->Prop}
  (hfr:A.frames=U (env::outer)) (hl:s.heap.FunFrames base (env::outer)) (hf:env.frame=U L) (F:WZ s.heap e T C dx)
  (h:∀ h' T',s.heap.objs.size<=T'->WZ h' e T' C dx->WY ((env::outer).filterMap (·.frame)) (λb=>b=e\/b=T) s.heap h'->Q () { s with heap:=h' }):Qs M A (noteFrame (.ref e) env) (λ_ s₂=>Qs M A (setFlight (.ref e) Y) Q E s₂) E s:=by
 obtain⟨neT,⟨oe,vs,he,hc,hdx,hd,h1⟩,oT,ts0,hT,hdT,h3⟩:=F
 have hsz:1<vs.size:=(Zg.mp h1).1
 have h3z:3<ts0.size:=(Zg.mp h3).1
 have enf:e∉(env::outer).filterMap (·.frame):=λhm=>by
  obtain⟨_,o,ho,hnf⟩:=hl.mem hm
  rw[he] at ho;cases ho;exact hnf vs hd
 have tnf:T∉(env::outer).filterMap (·.frame):=λhm=>by
  obtain⟨_,o,ho,hnf⟩:=hl.mem hm
  rw[hT] at ho;cases ho;exact hnf ts0 hdT
 unfold noteFrame
 simp only[hf]
 refine Xd (XY he hd h1 ?_)
 rw[Xq (show(Value.ref T != Value.none)=true from by simp)]
 refine Xd (XY hT hdT h3 ?_)
 rw[if_neg (by simp[rawInt])]
 refine Xd (Yb hT hdT h3z ?_)
 have dT1:=Yt hdT (·.setIfInBounds 3 Value.none)
 have hT1:=XG (Obj.mapFields (·.setIfInBounds 3 Value.none)) hT (YH dT1)
 have he1:=(Xy s.heap (Obj.mapFields (·.setIfInBounds 3 Value.none)) neT).trans he
 have hl1:(s.heap.update T (Obj.mapFields (·.setIfInBounds 3 Value.none))).FunFrames base (env::outer):=hl.of_keeps λb o hb hnf=>⟨o,(Xy s.heap _ λq=>by rw[<- q,hT] at hb;cases hb;exact hnf ts0 hdT).trans hb,rfl⟩
 refine Xd (wpAny_frameOf_fun hfr hl1 hf λh₁ hs=>Xd (abJ λpl hpl=>?_))
 have e1:h₁.get? e=U oe:=(hs.2.1 e enf).trans he1
 unfold EntryCells.newEntry newFields
 refine Xd (XI ?_ (hpl.sizeOk5 _ _ _ _ _))
 generalize hts:(([Value.ref T,.ref L,.none,rawInt L,.none]++(if pl.isEmpty then Si 6 Value.none else pl)).toArray)=ts
 have t3:3<ts.size:=by rw[<- hts];simp
 have e2:(h₁.push { cls:=.type "traceback",dict:=Y,data:=.fields ts }).get? e=U oe:=Xh _ e1
 have T2:(h₁.push { cls:=.type "traceback",dict:=Y,data:=.fields ts }).get? h₁.objs.size=U { cls:=.type "traceback",dict:=Y,data:=.fields ts }:=Xr _ rfl
 have ne:h₁.objs.size≠e:=Ye (Xo e1)
 have sz:h₁.objs.size=s.heap.objs.size:=hs.1.trans (by simp)
 refine Yb e2 hd hsz ?_
 have d3:=Yt hd (·.setIfInBounds 1 (Value.ref h₁.objs.size))
 have e3:=XG (Obj.mapFields (·.setIfInBounds 1 (Value.ref h₁.objs.size))) e2 (YH d3)
 have T3:=(Xy _ (Obj.mapFields (·.setIfInBounds 1 (Value.ref h₁.objs.size))) (Ne.symm ne)).trans T2
 unfold setFlight
 refine Xd (XY e3 d3 (x:=.ref h₁.objs.size) (by simp[hsz]) ?_)
 rw[Xq (show(Value.ref h₁.objs.size != Value.none)=true from by simp)]
 refine Yb T3 rfl t3 (h _ h₁.objs.size (by rw[sz];exact Xm _) ⟨ne,?_,?_⟩ ⟨λb o nb ne' hb=>?_,λb o hm hb=>?_⟩)
 ·exact⟨_,_,(Xy _ _ ne).trans e3,(oK _ _).1.trans hc,(oK _ _).2.trans hdx,d3,by simp[hsz]⟩
 ·exact⟨_,_,XG _ T3 rfl,rfl,by simp[t3]⟩
 ·have b0:=(Xy s.heap (Obj.mapFields (·.setIfInBounds 3 Value.none)) (a:=T) (b:=b) (λz=>ne' (.inr z.symm))).trans hb
  have b1:h₁.get? b=U o:=(hs.2.1 b nb).trans b0
  have nT:h₁.objs.size≠b:=Ye (Xo b1)
  exact(Xy _ _ nT).trans ((Xy _ _ (λz=>ne' (.inl z.symm))).trans (Xh _ b1))
 ·have b0:=(Xy s.heap (Obj.mapFields (·.setIfInBounds 3 Value.none)) (a:=T) (b:=b) (λz=>tnf (z ▸ hm))).trans hb
  obtain⟨sl,b1⟩:=hs.2.2 b o b0
  have nT:h₁.objs.size≠b:=Ye (Xo b1)
  have nE:e≠b:=λz=>enf (z ▸ hm)
  exact⟨sl,(Xy _ _ nT).trans ((Xy _ _ nE).trans (Xh _ b1))⟩
theorem Lj{env:Env}{outer:List Env}{L:td}{Q:Unit->gV->Prop}
  (hfr:A.frames=U (env::outer)) (hl:s.heap.FunFrames base (env::outer)) (hf:env.frame=U L) (F:WZ s.heap e T C dx)
  (h:∀ h' T',s.heap.objs.size<=T'->WZ h' e T' C dx->WY ((env::outer).filterMap (·.frame)) (λb=>b=e\/b=T) s.heap h'->Q () { s with heap:=h' }):Qs M A (leaving env (.ref e)) Q E s:=
 Xd (Ff hfr hl hf F h)
end
end HT
namespace L2
def ll(P:vx)(w:Gs):IQ:=λouter H s E e s'=>∃ x T C dx H',e=.ref x/\HT.WZ s'.heap x T (.ref C) dx/\H' x=Y/\H' T=Y/\s.heap.get? x=Y/\s.heap.get? T=Y /\
 s'.os=s.os/\AllBare s'.gens/\Un (tK outer) [] H H' s.heap s'.heap/\HOk P w H' s'.heap/\E (.ref C) dx H'
theorem yo{h h':Jq}:∀ {l:List Env},h.FunFrames base l->(∀ b o,b∈tK l->h.get? b=U o->∃ sl,h'.get? b=U { o with slots:=sl })->h'.FunFrames base l
 | [],_,_=>trivial
 | env::r,hl,k=>by
  obtain⟨hk,⟨L,o,hf,hn,ho,hd⟩,hr⟩:=hl
  obtain⟨sl,e⟩:=k L o (by unfold tK;rw[XS,hf];exact Xi) ho
  exact⟨hk,⟨L,_,hf,hn,e,hd⟩,yo hr λb o hb=>k b o (by unfold tK at hb ⊢;rw[XS,hf];exact Xf _ hb)⟩
section
variable{X:Cx}{pins:List (td×Obj)}{σ:St}{H:Hp}{s s':gV}{E:XK}{e:bd}
theorem Bj(hs:X.stack=X.env::X.outer)(hfm:X.env.frame=U X.env.locals)(hex:X.ex=[])(I:Inv X pins σ H s)(hx:ll X.prog X.w X.stack H s E e s') :
  Qs (model X.prog X.w) X.A (leaving X.env e) (λ_ s''=>ll X.prog X.w X.outer X.H₀ X.s₀ E e s'') E' s':=by
 obtain⟨x,T,C,dx,H',rfl,F,nx,nT,fx,fT,os,bare,un,hok,q⟩:=hx
 have fin:∀ b∈tK X.stack,H b=Y:=I.stkFree
 have hl:s'.heap.FunFrames X.base X.stack:=yo I.stack λb o hb ho=>un.slot b o ho (fin b hb) hb (by simp)
 have hfr:X.A.frames=U (X.env::X.outer):=by rw[<- hs];exact I.ok.frames
 rw[hs] at hl
 have fr':∀ b∈(X.env::X.outer).filterMap (·.frame),H' b=Y:=λb hb=>by
  have hb:b∈tK X.stack:=by rw[hs];exact hb
  obtain⟨_,o,ho,_⟩:=I.stack.mem hb
  exact un.free b o ho (fin b hb) (by simp)
 have inL:∀ b o,X.s₀.heap.get? b=U o->b∉tK X.outer->b∉(X.env::X.outer).filterMap (·.frame):=λb o h0 nb z=>by
  rw[XS,hfm] at z
  rcases XD.mp z with z | z
  ·exact absurd (Xo h0) (by rw[z];exact ZV.mpr I.ok.above)
  ·exact nb z
 have up:∀ b o,X.s₀.heap.get? b=U o->∃ o',s'.heap.get? b=U o':=λb o h0=>by
  obtain⟨o1,e1⟩:=I.base.there b o h0 (by rw[hex];simp)
  exact un.there b o1 e1 (by simp)
 have old:∀ b,s.heap.get? b=Y->X.s₀.heap.get? b=Y:=λb hb=>by
  cases q0:X.s₀.heap.get? b with
  | none=>rfl
  | some o=>obtain⟨o1,e1⟩:=I.base.there b o q0 (by rw[hex];simp);rw[hb] at e1;cases e1
 refine HT.Lj hfr hl hfm F λh' T' sz F' Lf=>⟨x,T',C,dx,H',rfl,F',nx,hok.fresh sz,old x fx,?_,os.trans I.os,bare,?_,?_,q⟩
 ·cases q0:X.s₀.heap.get? T' with
  | none=>rfl
  | some o=>obtain⟨o',e'⟩:=up T' o q0;exact absurd (Xo e') (ZV.mpr sz)
 ·have nxe:∀ b:td,b∉X.ex:=λb=>by rw[hex];simp
  have nn:∀ b:td,b∉([]:List td):=λb=>by simp
  have no:∀ b o,X.s₀.heap.get? b=U o->¬ (b=x\/b=T):=λb o h0 z=>by
   rcases z with z | z
   ·rw[z,old x fx] at h0;cases h0
   ·rw[z,old T fT] at h0;cases h0
  refine⟨λb o h0 n nb _=>?_,λb o h0 n hb _=>?_,λb o h0 n _=>?_,λb o h0 _=>?_,λb xs z=>un.tups b xs (I.base.tups b xs z),λb o u z=>un.frzs b o u (I.base.frzs b o u z),λb ps z=>?_⟩
  ·have e1:=I.base.keep b o h0 n nb (nxe b)
   have e2:=un.keep b o e1 (I.base.free b o h0 n (nxe b)) (by rw[hs];exact inL b o h0 nb) (nn b)
   exact Lf.keep b o (inL b o h0 nb) (no b o h0) e2
  ·obtain⟨sl,e1⟩:=I.base.slot b o h0 n hb (nxe b)
   have hb':b∈(X.env::X.outer).filterMap (·.frame):=by rw[XS,hfm];exact Xf _ hb
   obtain⟨sl2,e2⟩:=un.slot b _ e1 (I.base.free b o h0 n (nxe b)) (by rw[hs];exact hb') (nn b)
   obtain⟨sl3,e3⟩:=Lf.slot b _ hb' e2
   exact⟨sl3,e3⟩
  ·obtain⟨o1,e1⟩:=I.base.there b o h0 (nxe b)
   exact un.free b o1 e1 (I.base.free b o h0 n (nxe b)) (nn b)
  ·obtain⟨o',e'⟩:=up b o h0
   by_cases hb:b∈(X.env::X.outer).filterMap (·.frame)
   ·obtain⟨sl,e3⟩:=Lf.slot b o' hb e';exact⟨_,e3⟩
   ·exact⟨o',Lf.keep b o' hb (no b o h0) e'⟩
  ·obtain⟨m1,z1⟩:=I.base.tbls b ps z
   obtain⟨m2,z2⟩:=un.tbls b _ z1
   exact⟨m1++m2,by rw[z2,abS]⟩
 ·intro a o ha
  have tr:∀ b,(b=a\/H' b=U (.own a))->H' b≠Y:=λb hb z=>by
   rcases hb with hb | hb
   ·rw[hb,ha] at z;cases z
   ·rw[hb] at z;cases z
  refine(hok a o ha).stay (λb u hb hu=>Lf.keep b u (λz=>tr b hb (fr' b z)) (λz=>?_) hu) (λ_ z=>z) λ_ _ z=>z
  rcases z with z | z
  ·exact tr b hb (z ▸ nx)
  ·exact tr b hb (z ▸ nT)
theorem Bk(hs:X.stack=X.env::X.outer)(hfm:X.env.frame=U X.env.locals)(hex:X.ex=[])(I:Inv X pins σ H s){dx:Option td}{oe:Obj}(he:s.heap.get? x=U oe)(hc:oe.cls=.ref C)
  (hdx:oe.dict=dx) (hd:oe.data=.fields vs) (h1:vs[1]?=U .none) (nx:H x=Y) (x0:X.s₀.heap.get? x=Y) (q:E (.ref C) dx H) :
  Qs (model X.prog X.w) X.A (leaving X.env (.ref x)) (λ_ s''=>ll X.prog X.w X.outer X.H₀ X.s₀ E (.ref x) s'') E' s:=by
 have hl:=I.stack
 have hfr:X.A.frames=U (X.env::X.outer):=by rw[<- hs];exact I.ok.frames
 have fin:∀ b∈(X.env::X.outer).filterMap (·.frame),H b=Y:=λb hb=>I.stkFree b (by rw[hs];exact hb)
 rw[hs] at hl
 have inL:∀ b o,X.s₀.heap.get? b=U o->b∉tK X.outer->b∉(X.env::X.outer).filterMap (·.frame):=λb o h0 nb z=>by
  rw[XS,hfm] at z
  rcases XD.mp z with z | z
  ·exact absurd (Xo h0) (by rw[z];exact ZV.mpr I.ok.above)
  ·exact nb z
 have nxe:∀ b:td,b∉X.ex:=λb=>by rw[hex];simp
 have no:∀ b o,X.s₀.heap.get? b=U o->¬ (b=x):=λb o h0 z=>by rw[z,x0] at h0;cases h0
 refine HT.AI hfr hl hfm he hd h1 λh' T sz F Lf=>⟨x,T,C,dx,H,rfl,by rw[<- hc,<- hdx];exact F,nx,I.hok.fresh sz,x0,?_,I.os,I.bare,?_,?_,q⟩
 ·cases q0:X.s₀.heap.get? T with
  | none=>rfl
  | some o=>obtain⟨o',e'⟩:=I.base.there T o q0 (nxe T);exact absurd (Xo e') (ZV.mpr sz)
 ·refine⟨λb o h0 n nb _=>?_,λb o h0 n hb _=>?_,λb o h0 n _=>I.base.free b o h0 n (nxe b),λb o h0 _=>?_,I.base.tups,I.base.frzs,I.base.tbls⟩
  ·exact Lf.keep b o (inL b o h0 nb) (no b o h0) (I.base.keep b o h0 n nb (nxe b))
  ·obtain⟨sl,e1⟩:=I.base.slot b o h0 n hb (nxe b)
   obtain⟨sl3,e3⟩:=Lf.slot b _ (by rw[XS,hfm];exact Xf _ hb) e1
   exact⟨sl3,e3⟩
  ·obtain⟨o',e'⟩:=I.base.there b o h0 (nxe b)
   by_cases hb:b∈(X.env::X.outer).filterMap (·.frame)
   ·obtain⟨sl,e3⟩:=Lf.slot b o' hb e';exact⟨_,e3⟩
   ·exact⟨o',Lf.keep b o' hb (no b o h0) e'⟩
 ·intro a o ha
  have tr:∀ b,(b=a\/H b=U (.own a))->H b≠Y:=λb hb z=>by
   rcases hb with hb | hb
   ·rw[hb,ha] at z;cases z
   ·rw[hb] at z;cases z
  exact(I.hok a o ha).stay (λb u hb hu=>Lf.keep b u (λz=>tr b hb (fin b z)) (λz=>tr b hb (z ▸ nx)) hu) (λ_ z=>z) λ_ _ z=>z
end
theorem ObjOk.here(x:ObjOk P w H h a o):∃ u,h.get? a=U u:=by
 cases o with
 | lst xs=>obtain⟨_,_,_,_,e⟩:=x;exact⟨_,e⟩
 | tup xs=>obtain⟨_,_,_,p⟩:=x;obtain⟨_,e,_⟩:=p;exact⟨_,e⟩
 | dK kvs=>obtain⟨_,_,_,_,o,_,_,e,_⟩:=x;exact⟨_,e⟩
 | dT kvs=>obtain⟨_,_,_,_,o,_,_,e,_⟩:=x;exact⟨_,e⟩
 | set S n=>obtain⟨o,_,_,_,e,_⟩:=x;exact⟨_,e⟩
 | ins C dx fs=>obtain⟨_,_,_,e,_⟩:=x;exact⟨_,e⟩
 | own y=>obtain⟨_,e⟩:=x;exact⟨_,e⟩
 | xd fs=>obtain⟨_,⟨_,_,_,e,_⟩,_⟩:=x;exact⟨_,e⟩
 | rng lo hi=>obtain⟨_,_,_,e⟩:=x;exact⟨_,e⟩
 | frz ob u=>obtain⟨e,_⟩:=x;exact⟨_,e⟩
 | tbl ps=>exact⟨_,(show h.get? a=U _ from x)⟩
 | met f y=>exact⟨_,(show h.get? a=U _ from x)⟩
 | ext φ=>obtain⟨_,⟨_,e⟩,_⟩:=x;exact⟨_,e⟩
def BN(K:QF)(C:td):Prop:=∃ nm q N bs bm hdct sn sub ab col dd k0 k1 k2 k3 k5 newId mN bmB B initId,mN "__init__" = Y/\ExcBaseFacts B newId initId bmB/\bm.contains (.type "BaseException")=true /\
 ∀ h:Jq,K.In h->h.get? C=U (excClassObj nm q C N bs bm hdct sn sub ab col dd k0 k1 k2 k3 k5 newId)/\h.Ns N mN/\OwnTail h bmB bm
section
variable{X:Cx}{e:tx}{x:Str}{np cpos pos:Pos}{te:TE}{C:td}
def TJ(C:td)(E:XK)(te:TE):TS:=λ_ σ H=>te σ H λ_ H1=>E (.ref C) Y H1
theorem JV(R:BN X.K C)(hg:Gl X x)(hm:X.mg x=U (.ref C))(he:PE X e te)(hcalm:X.calm=true)
  (hs:X.stack=X.env::X.outer) (hfm:X.env.frame=U X.env.locals) (hex:X.ex=[])
  (hxe:∀ e' s',Qs (model X.prog X.w) X.A (leaving X.env e') (λ_ s''=>ll X.prog X.w X.outer X.H₀ X.s₀ E e' s'') (λ_ _=>False) s'->X.xe e' s')
  (hd:(x==("__debug__":Str))=false:=by decide) (hst:KZ [e] X.env=(false,eval e X.env)::KZ [] X.env:=by rfl) :
  PS X (.Raise (U (.Call (.Name x np) [e] [] cpos)) Y pos) (TJ C E te):=by
 intro pins s σ H D I h
 obtain⟨nm,q,Nn,bs,bm,hdct,sn,sub,ab,col,dd,k0,k1,k2,k3,k5,newId,mN,bmB,B,initId,hni,F,hb,R⟩:=R
 have hplain:(backTo cpos (KZ [e] X.env)).any (·.1)=false:=by rw[hst];rfl
 refine wpAny_Raise_call_subT (C:=C) (nm:=nm) (q:=q) (N:=Nn) (bs:=bs) (bm:=bm) (hdct:=hdct) (sn:=sn) (sub:=sub) (ab:=ab) (col:=col) (dd:=dd) (k0:=k0) (k1:=k1) (k2:=k2) (k3:=k3) (k5:=k5) F hb (I.ok.hd hcalm) hplain hni (oR I hg hm ⟨rfl,?_⟩ hd)
 rw[hst]
 refine ZW (show Qs _ _ (spliced (backTo cpos ((false,eval e X.env)::KZ [] X.env))) _ _ _ from ?_)
 rw[<- hst]
 refine spliced_more (dA (he pins s σ H _ I h) λu s1 ⟨y,H1,I1,ry,q1⟩=>spliced_none ⟨rfl,by rw[aaL];simp,(R s1.heap I1.kIn).1,(R s1.heap I1.kIn).2.1,(R s1.heap I1.kIn).2.2,λh' a hme=>hxe _ _ ?_⟩) hst
 obtain⟨t,ht,h0,h2⟩:=hme.there
 have I2:Inv X pins σ H1 { s1 with heap:=h' }:=I1.kept (t':=s1.toks) λb o z=>hme.keeps b o z
 refine Bk hs hfm hex I2 ht rfl rfl rfl rfl ?_ ?_ q1
 ·cases hH:H1 a with
  | none=>rfl
  | some o=>obtain⟨u,e⟩:=(I1.hok a o hH).here;rw[hme.new] at e;cases e
 ·cases h0:X.s₀.heap.get? a with
  | none=>rfl
  | some o=>obtain⟨o1,e1⟩:=I1.base.there a o h0 (by rw[hex];simp);rw[hme.new] at e1;cases e1
end
section
variable{X:Cx}{pins:List (td×Obj)}{σ:St}{H:Hp}{s s':gV}{E:XK}{e:bd}
theorem Inv.track(I:Inv X pins σ H s){ox:Obj}{φ:Jq->Prop}(hx:s.heap.get? x=U ox)(hd:ox.data=.fields vs)(n:H x=Y)(x0:X.s₀.heap.get? x=Y)(hp:∀ p∈X.pn++pins,p.1≠x)
  (ok:φ s.heap) (st:∀ h1 h2:Jq,φ h1->(∀ o,h1.get? x=U o->h2.get? x=U o)->φ h2):Inv X pins σ (upd H x (.ext φ)) s:=by
 have nl:X.env.locals≠x:=λz=>by
  obtain⟨m,⟨o,es,ep,ho,hdo,_⟩,_⟩:=I.loc
  rw[z,hx] at ho;cases ho;rw[hd] at hdo;cases hdo
 have ne0:∀ b o,X.s₀.heap.get? b=U o->b≠x:=λb o q z=>by rw[z,x0] at q;cases q
 have sm:∀ b o,H b=U o->upd H x (.ext φ) b=U o:=λb o q=>by rw[aO λz=>?_];exact q;rw[z,n] at q;cases q
 refine⟨I.ok,I.os,I.bare,⟨I.base.keep,I.base.slot,λb o q m ne=>by rw[aO (ne0 b o q)];exact I.base.free b o q m ne,I.base.there,λb xs q=>sm b _ (I.base.tups b xs q),λb o u q=>sm b _ (I.base.frzs b o u q),λb ps q=>?_⟩,I.loc,I.cell,?_,λy c q=>?_,λp q=>?_,λb o q=>?_,I.len⟩
 ·obtain⟨more,z⟩:=I.base.tbls b ps q
  exact⟨more,sm b _ z⟩
 ·rw[aO nl];exact I.free
 ·rw[aO λz=>?_];exact I.freeC y c q
  obtain⟨v,o,ho,hdo⟩:=I.cell y c q
  rw[z,hx] at ho;cases ho;rw[hd] at hdo;cases hdo
 ·obtain⟨h1,h2,h3⟩:=I.pin p q
  exact⟨h1,by rw[aO (hp p q)];exact h2,h3⟩
 ·by_cases z:b=x
  ·subst z
   rw[aV] at q;cases q
   exact⟨ok,⟨_,hx⟩,st⟩
  ·rw[aO z] at q
   exact(I.hok b o q).stay (λ_ _ _ hu=>hu) (λc hc=>sm c _ hc) λc xs hc=>sm c _ hc
structure yZ(X:Cx)(pins:List (td×Obj))(H:Hp)(s:gV)(x T C:td)(dx:Option td):Prop where
 fly:HT.WZ s.heap x T (.ref C) dx
 no:H T=Y
 old:X.s₀.heap.objs.size<=T
 pin:∀ p∈X.pn++pins,p.1≠T
theorem Ds(hs:X.stack=X.env::X.outer)(hfm:X.env.frame=U X.env.locals)(hex:X.ex=[])(I:Inv X pins σ H s)(hx:ll X.prog X.w X.stack H s E e s'){Q:Unit->gV->Prop}
  (h:∀ s'' x T C dx H',e=.ref x->Inv X pins σ (upd H' x (.ext (pk x C dx))) s''->H' x=Y->E (.ref C) dx H'->yZ X pins H' s'' x T C dx->Q () s'') :
  Qs (model X.prog X.w) X.A (noteFrame e X.env) (λ_ s₂=>Qs (model X.prog X.w) X.A (setFlight e Y) Q E' s₂) E' s':=by
 obtain⟨x,T,C,dx,H',rfl,F,nx,nT,fx,fT,os,bare,un,hok,q⟩:=hx
 have fin:∀ b∈tK X.stack,H b=Y:=I.stkFree
 have hl:s'.heap.FunFrames X.base X.stack:=yo I.stack λb o hb ho=>un.slot b o ho (fin b hb) hb (by simp)
 have hfr:X.A.frames=U (X.env::X.outer):=by rw[<- hs];exact I.ok.frames
 rw[hs] at hl
 have nn:∀ b:td,b∉([]:List td):=λb=>by simp
 have fr':∀ b∈(X.env::X.outer).filterMap (·.frame),H' b=Y:=λb hb=>by
  have hb:b∈tK X.stack:=by rw[hs];exact hb
  obtain⟨_,o,ho,_⟩:=I.stack.mem hb
  exact un.free b o ho (fin b hb) (nn b)
 have no:∀ b o,s.heap.get? b=U o->¬ (b=x\/b=T):=λb o h0 z=>by
  rcases z with z | z
  ·rw[z,fx] at h0;cases h0
  ·rw[z,fT] at h0;cases h0
 refine HT.Ff hfr hl hfm F λh' T' sz F' Lf=>?_
 have un':Un (tK X.stack) [] H H' s.heap h':=by
  refine⟨λb o h0 n nb _=>?_,λb o h0 n hb _=>?_,un.free,λb o h0 _=>?_,un.tups,un.frzs,un.tbls⟩
  ·exact Lf.keep b o (by rw[hs] at nb;exact nb) (no b o h0) (un.keep b o h0 n nb (nn b))
  ·obtain⟨sl2,e2⟩:=un.slot b o h0 n hb (nn b)
   obtain⟨sl3,e3⟩:=Lf.slot b _ (by rw[hs] at hb;exact hb) e2
   exact⟨sl3,e3⟩
  ·obtain⟨o',e'⟩:=un.there b o h0 (nn b)
   by_cases hb:b∈(X.env::X.outer).filterMap (·.frame)
   ·obtain⟨sl,e3⟩:=Lf.slot b o' hb e';exact⟨_,e3⟩
   ·exact⟨o',Lf.keep b o' hb (no b o h0) e'⟩
 have hok':HOk X.prog X.w H' h':=λa o ha=>by
  have tr:∀ b,(b=a\/H' b=U (.own a))->H' b≠Y:=λb hb z=>by
   rcases hb with hb | hb
   ·rw[hb,ha] at z;cases z
   ·rw[hb] at z;cases z
  refine(hok a o ha).stay (λb u hb hu=>Lf.keep b u (λz=>tr b hb (fr' b z)) (λz=>?_) hu) (λ_ z=>z) λ_ _ z=>z
  rcases z with z | z
  ·exact tr b hb (z ▸ nx)
  ·exact tr b hb (z ▸ nT)
 have I2:Inv X pins σ H' { s' with heap:=h' }:=I.call' (s':={ s' with heap:=h' }) (ch:=[]) os un' hok' bare λb z=>absurd z (by simp)
 obtain⟨_,⟨oe,vs,he,hc,hdx,hd,_⟩,_⟩:=id F'
 have x0:X.s₀.heap.get? x=Y:=by
  cases q0:X.s₀.heap.get? x with
  | none=>rfl
  | some o=>obtain⟨o1,e1⟩:=I.base.there x o q0 (by rw[hex];simp);rw[fx] at e1;cases e1
 have s0:X.s₀.heap.objs.size<=s'.heap.objs.size:=by
  refine XN I.ok.above (aat ?_)
  obtain⟨m,⟨o,es,ep,ho,_⟩,_⟩:=I.loc
  obtain⟨o',ho'⟩:=un.there _ o ho (nn _)
  exact Xo ho'
 refine h _ x T' C dx H' rfl (I2.track he hd nx x0 (λp hp z=>?_) ⟨oe,vs,he,hc,hdx,hd⟩ λh1 h2 ⟨o,ws,z1,z2⟩ k=>⟨o,ws,k o z1,z2⟩) nx q ⟨F',hok.fresh sz,XN s0 sz,λp hp z=>?_⟩
 rotate_left
 ·obtain⟨o',ho'⟩:=un.there p.1 p.2 (I.pin p hp).1 (nn _)
  exact absurd (Xo ho') (by rw[z];exact ZV.mpr sz)
 have:=(I.pin p hp).1
 rw[z,fx] at this;cases this
theorem HP{Q:Unit->gV->Prop}(I:Inv X pins σ (upd H' x (.ext φ)) s)(L:yZ X pins H' s x T C dx)
  (h:∀ s',Inv X pins σ (upd H' x (.ext φ)) s'->yZ X pins H' s' x T C dx->Q () s') {A:IN}:Qs (model X.prog X.w) A (setFlight (.ref x) Y) Q E' s:=by
 obtain⟨neT,⟨oe,vs,he,hc,hdx,hd,h1⟩,oT,ts,hT,hdT,h3⟩:=id L.fly
 have h3z:3<ts.size:=(Zg.mp h3).1
 unfold setFlight
 refine Xd (XY he hd h1 ?_)
 rw[Xq (show(Value.ref T != Value.none)=true from by simp)]
 refine Yb hT hdT h3z ?_
 have dT1:=Yt hdT (·.setIfInBounds 3 Value.none)
 have hT1:=XG (Obj.mapFields (·.setIfInBounds 3 Value.none)) hT (YH dT1)
 have ot:∀ b,b≠T->(s.heap.update T (Obj.mapFields (·.setIfInBounds 3 Value.none))).get? b=s.heap.get? b:=λb hb=>Xy s.heap _ (Ne.symm hb)
 have nT:upd H' x (.ext φ) T=Y:=by rw[aO neT];exact L.no
 have I2:=I.call (h':=s.heap.update T (Obj.mapFields (·.setIfInBounds 3 Value.none))) (g':=s.gens) (d':=s.drawn) (t':=s.toks) (ch:=[T]) (H':=upd H' x (.ext φ))
  ⟨λb o q _ _ nb=>(ot b λz=>nb (by simp[z])).trans q,λb o q _ _ nb=>⟨o.slots,(ot b λz=>nb (by simp[z])).trans q⟩,λb o _ n _=>n,λb o q nb=>⟨o,(ot b λz=>nb (by simp[z])).trans q⟩,λ_ _ z=>z,λ_ _ _ z=>z,λb ps z=>⟨#[],by rw[z];simp⟩⟩
  (λa o ha=>(I.hok a o ha).stay (λb u hb hu=>(ot b λz=>by
   rcases hb with hb | hb
   ·rw[<- hb,z,nT] at ha;cases ha
   ·rw[z,nT] at hb;cases hb).trans hu) (λ_ z=>z) λ_ _ z=>z) I.bare (λb hb=>by
   obtain rfl:b=T:=by simpa using hb
   refine⟨.inr L.old,λz=>?_,λy c hc' z=>?_,L.pin⟩
   ·obtain⟨m,⟨o,es,ep,ho,hdo,_⟩,_⟩:=I.loc
    rw[<- z,hT] at ho;cases ho;rw[hdT] at hdo;cases hdo
   ·obtain⟨v,o,ho,hdo⟩:=I.cell y c hc'
    rw[z,hT] at ho;cases ho;rw[hdT] at hdo;cases hdo)
 exact h _ I2 ⟨⟨neT,⟨oe,vs,(ot x (Ne.symm neT)).trans he,hc,hdx,hd,h1⟩,⟨_,_,hT1,dT1,by simp[h3z]⟩⟩,L.no,L.old,L.pin⟩
end
section
variable{X:Cx}{k:Nat}{f:td}{fd:FuncData}{ps:List Str}{sp:Sp}{dvs:List V}{ds:List bd}{E:XK}{x:Str}{p pos:Pos}{e:tx}{es:List tx}{t:TA}{pins:List (td×Obj)}{σ:St}{H:Hp}{s:gV}{Q:VK}
def WP(X:Cx)(pins:List (td×Obj))(σ:St)(E:XK)(e:bd)(s':gV):Prop:=∃ H1 s1,Inv X pins σ H1 s1/\ll X.prog X.w X.stack H1 s1 E e s'
end
section
variable{X:Cx}{pins:List (td×Obj)}{σ:St}{H:Hp}{s:gV}
theorem Inv.frame{h':Jq}{t':Nat}{i:Nat}{x:Str}(I:Inv X pins σ H s)(hN:X.N.Nodup)(hi:X.N[i]?=U x)(hn':h'.Ns X.env.locals m')(hs:Heap.SameBut X.env.locals s.heap h')
  (hm:∃ m,s.heap.Ns X.env.locals m/\∀ y,y≠x->m' y=m y):Inv X pins (σ.set i Y) H { s with heap:=h',toks:=t' }:=by
 obtain⟨m0,hn,hl⟩:=id I.loc
 obtain⟨m,hnm,hm⟩:=hm
 have mm:m=m0:=by
  obtain⟨o,es,ep,e1,e2,e3,e4⟩:=hnm
  obtain⟨o',es',ep',f1,f2,f3,f4⟩:=hn
  rw[e1] at f1;cases f1
  rw[e2] at f2;cases f2
  funext y;rw[<- e4 y,f4 y]
 subst mm
 have nl:∀ b o,X.s₀.heap.get? b=U o->b≠X.env.locals:=λb o e=>XT (XB (Xo e) I.ok.above)
 refine⟨I.ok,I.os,I.bare,⟨λb o e n hb hx=>(hs.2 b (nl b o e)).trans (I.base.keep b o e n hb hx),λb o e n hb hx=>?_,I.base.free,λb o e hx=>?_,I.base.tups,I.base.frzs,I.base.tbls⟩,⟨m',hn',λj y v e1 e2 e3=>?_⟩,λy c e=>?_,I.free,I.freeC,λp hp=>?_,λb o q=>?_,by simpa using I.len⟩
 ·obtain⟨sl,e1⟩:=I.base.slot b o e n hb hx
  exact⟨sl,(hs.2 b (nl b o e)).trans e1⟩
 ·obtain⟨o',e1⟩:=I.base.there b o e hx
  exact⟨o',(hs.2 b (nl b o e)).trans e1⟩
 ·by_cases hj:j=i
  ·subst hj
   rw[List.getElem?_set] at e2
   split at e2
   ·split at e2<;>simp at e2
   ·rename_i z;exact absurd rfl z
  ·rw[XE (Ne.symm hj)] at e2
   obtain⟨u,ru,lk⟩:=hl j y v e1 e2 e3
   have hy:y≠x:=λz=>hj (sB hN (z ▸ e1) hi)
   refine⟨u,ru,?_⟩
   rcases lk with ⟨k1,k2⟩ | ⟨k1,c,k2,k3⟩
   ·exact .inl ⟨k1,by rw[hm y hy];exact k2⟩
   ·refine .inr ⟨k1,c,k2,?_⟩
    obtain⟨o,ho,hd⟩:=k3
    exact⟨o,(hs.2 c (I.cne y c k2)).trans ho,hd⟩
 ·obtain⟨v,o,ho,hd⟩:=I.cell y c e
  exact⟨v,o,(hs.2 c (I.cne y c e)).trans ho,hd⟩
 ·obtain⟨h1,h2,h3,h4⟩:=I.pin p hp
  exact⟨(hs.2 _ h3).trans h1,h2,h3,h4⟩
 ·refine(I.hok b o q).stay (λc u hc hu=>(hs.2 c λz=>?_).trans hu) (λ_ z=>z) λ_ _ z=>z
  rcases hc with hc | hc
  ·rw[<- hc,z,I.free] at q;cases q
  ·rw[z,I.free] at hc;cases hc
theorem GX{A:IN}{i:Nat}{n:Str}{Q:Unit->gV->Prop}(I:Inv X pins σ H s)(hN:X.N.Nodup)(hi:X.N[i]?=U n)(hk:X.env.scope.names.lookup n=U .local)
  (h:∀ s',Inv X pins (σ.set i Y) H s'->Q () s'):Qs M A (do bindName X.env n .none;unbindBehindTheSuite X.env n pos) Q E s:=by
 have hcls:(X.env.scope.kind==.class||(X.env.scope.kind==.module&&X.env.locals != X.env.globals))=false:=by rw[I.ok.kind];rfl
 have hiσ:i < σ.length:=by rw[I.len];exact(Xe.mp hi).1
 refine Xd (aaT (gN I hN hi (.inl hk) (v:=.non) (u:=.none) rfl (λs1 I1=>?_) (.inr hk)))
 obtain⟨m,hn,hl⟩:=id I1.loc
 obtain⟨u,ru,lk⟩:=hl i n .non hi (XF hiσ) (.inl hk)
 have hmn:m n=U u:=by
  rcases lk with ⟨_,z⟩ | ⟨z,_⟩
  ·exact z
  ·rcases z with z | z
   ·rw[show X.env.kindOf n=U .local from hk] at z;cases z
   ·rw[show X.env.kindOf n=U .local from hk] at z;cases z
 unfold unbindBehindTheSuite
 refine aac (wpAny_unbindName_local hk hn hmn hcls λh' u' hn' hs'=>?_)
 have I2:=I1.frame (t':=s1.toks) hN hi hn' hs' ⟨m,hn,λy hy=>by simp[hy]⟩
 rw[List.set_set] at I2
 exact h _ I2
end
end L2
namespace HT
section
variable{M:Model}{A:IN}{E:bd->gV->Prop}{h:Jq}{g:Array GenState}{d:Drawn}{t:Nat}{os:OsState}
variable{nm q nm' q':Str}{C N C' N':td}{bs bm bs' bm':List bd}{hdct hdct':Bool}{sn sn':List Str}{sub sub':List bd}{ab ab':Bool}{col col':Option Bool}{dd dd':Option td}{k0 k1 k2 k3 k5 l0 l1 l2 l3 l5:Option bd}{newId newId':String}
theorem Ae{oe:Obj}{Q:Bool->gV->Prop}(hC:h.get? C=U (excClassObj nm q C N bs bm hdct sn sub ab col dd k0 k1 k2 k3 k5 newId))(hG:h.get? C'=U (excClassObj nm' q' C' N' bs' bm' hdct' sn' sub' ab' col' dd' l0 l1 l2 l3 l5 newId'))
  (he:h.get? e=U oe) (hcls:oe.cls=.ref C) (hin:(Value.ref C::bm).contains (.ref C')=true) (hbase:bm'.contains (.type "BaseException")=true)
  (hq:Q true ⟨h,g,d,t,os⟩):Qs M A (excMatches (.ref e) (.ref C')) Q E ⟨h,g,d,t,os⟩:=by
 have hcB:(Value.ref C'::bm').contains (.type "BaseException")=true:=by rw[List.contains_cons,hbase,Bool.or_true]
 have f:=tc_notTuple
 unfold excMatches
 repeat (first | (with_reducible refine wpAny_loadPart_at he ?_;rw[hcls]) | with_reducible refine wpAny_loadPart_at hG ?_ | (with_reducible refine abA hG ?_;rw[hcB]) | (with_reducible refine abA hC ?_;rw[hin]) | wp_step)
 exact hq
end
end HT
namespace L2
noncomputable abbrev Cx.suite(X:Cx)(v:bd)(E:bd->gV->Prop):Cx:={ X with A:=X.A.mark (U v),calm:=false,xe:=E }
section
variable{X:Cx}{pins:List (td×Obj)}{σ:St}{H:Hp}{s:gV}{v:bd}{E:bd->gV->Prop}
theorem Cx.Ok.suite(ok:X.Ok):(X.suite v E).Ok:=⟨ok.mod,ok.kind,ok.glob,ok.blt,ok.above,ok.inj,ok.has,ok.cab,(λz=>by cases z),ok.frames,ok.stk,ok.exf,ok.bs,ok.bsz,ok.noex,ok.exfs,ok.funs,ok.frf⟩
theorem Inv.suite(I:Inv X pins σ H s):Inv (X.suite v E) pins σ H s:=⟨I.ok.suite,I.os,I.bare,I.base,I.loc,I.cell,I.free,I.freeC,I.pin,I.hok,I.len⟩
theorem Inv.unsuite(ok:X.Ok)(I:Inv (X.suite v E) pins σ H s):Inv X pins σ H s:=⟨ok,I.os,I.bare,I.base,I.loc,I.cell,I.free,I.freeC,I.pin,I.hok,I.len⟩
def ux(K:QF)(C:td)(bm:List bd):Prop:=∃ nm q N bs hdct sn sub ab col dd k0 k1 k2 k3 k5 newId,∀ h:Jq,K.In h->h.get? C=U (excClassObj nm q C N bs bm hdct sn sub ab col dd k0 k1 k2 k3 k5 newId)
theorem HK{C:td}{i:Nat}{n:Str}{b₀:He}{suite:List He}{D:oh}(I:Inv X pins σ (upd H' x (.ext (pk x C dx))) s)(L:yZ X pins H' s x T C dx)
  (hC:ux X.K C bm) (hG:ux X.K G bmG) (hin:(Value.ref C::bm).contains (.ref G)=true) (hb:bmG.contains (.type "BaseException")=true) (hg:Gl X g) (hm:X.mg g=U (.ref G)) (hN:X.N.Nodup) (hi:X.N[i]?=U n) (hk:X.env.scope.names.lookup n=U .local)
  (hS:∀ v,PSs (X.suite v λ_ _=>False) (b₀::suite) ts) (h:ts { nx:=λσ' H1=>D.nx (σ'.set i Y) H1,rt:=λ_ _=>False } (σ.set i (U (.ref x))) (upd H' x (.ext (pk x C dx)))) (hd:(g==("__debug__":Str))=false:=by decide) :
  Qs (model X.prog X.w) X.A (handleBy (.ref x) X.env [.ExceptHandler (U (.Name g gp)) (U n) (b₀::suite) hp]) (SP X pins D) E s:=by
 obtain⟨nm,q,N,bs,hdct,sn,sub,ab,col,dd,k0,k1,k2,k3,k5,newId,hC⟩:=hC
 obtain⟨nm',q',N',bs',hdct',sn',sub',ab',col',dd',l0,l1,l2,l3,l5,newId',hG⟩:=hG
 have ek:pk x C dx s.heap:=(show ObjOk X.prog X.w _ s.heap x (.ext (pk x C dx)) from I.hok x _ aV).1
 obtain⟨oe,_,he,hc,_⟩:=ek
 refine wpAny_handleBy_cons (codeAny_handlers_test (ZC I.ok.kind hg (abe (by rw[I.ok.glob];exact I.mod.glob.keeps I.bk) hm ?_) hd)) (by intro z;cases z)
 have I0:=I
 have L0:=L
 obtain⟨hh,gg,ddr,tk,os⟩:=s
 refine HT.Ae (hC hh I0.kIn) (hG hh I0.kIn) he hc hin hb ?_
 show codeAny _ _ _ _ _
 refine codeAny_handlers_suite_as (HP I0 L0 λs1 I1 L1=>?_)
 refine gN I1 hN hi (.inl hk) (v:=.ref x) (u:=.ref x) rfl (λs2 I2=>?_) (.inr hk)
 refine XQ (hS (.ref x) pins s2 _ _ _ I2.suite h) (λf s3 z=>?_) λ_ _ z=>z.elim
 match f,z with
 | .next,⟨σ',H1,I3,q3⟩=>exact GX (I3.unsuite I.ok) hN hi hk λs4 I4=>⟨_,H1,I4,q3⟩
 | .brk,⟨_,_,_,q3⟩=>exact q3.elim
 | .cont,⟨_,_,_,q3⟩=>exact q3.elim
 | .ret _,⟨_,_,_,_,_,q3⟩=>exact q3.elim
end
section
variable{X:Cx}{k:Nat}{f:td}{fd:FuncData}{ps:List Str}{sp:Sp}{dvs:List V}{ds:List bd}{x:Str}{p cpos p1:Pos}{e:tx}{es:List tx}{t:TA}
def exAs(X:Cx)(G:td)(i:Nat)(ts:TS)(D:oh)(σ:St):XK:=λCv od H1=>∃ C bm,Cv=.ref C/\ux X.K C bm/\(Value.ref C::bm).contains (.ref G)=true /\
 ∀ a,H1 a=Y->ts { nx:=λσ' H2=>D.nx (σ'.set i Y) H2,rt:=λ_ _=>False } (σ.set i (U (.ref a))) (upd H1 a (.ext (pk a C od)))
end
end L2
namespace HT
open PySem PySem.Spec PySem.Calls PyProof.Rows PySem.W Builtin Builtin.ObjectAttr
structure qp(K:Frag)(C:td):Prop where
 ga:findIn K (.ref C) "__getattribute__" = U (U (.builtin "BaseException.__getattribute__"))
 gt:findIn K (.ref C) "__getattr__" = U Y
 mb:mroIn K C (.type "BaseException")=U true
section
variable{prog:vx}{w:Gs}{A:IN}{E:bd->gV->Prop}{s:gV}{K:Frag}{x C:td}{ox:Obj}{od:Option Obj}{name:Str}{expr fill:Bool}{Q:bd->gV->Prop}{tk:Tok}
theorem Iw{nameV:bd}{Q:Unit->gV->Prop}(X:K.In s.heap)(I:InstAt s.heap x ox C od)(W:qp K C)(hq:Q () s):Qs M A (checkBuiltinCall "BaseException.__getattribute__" ⟨[.ref x,nameV],[]⟩) Q E s:=by
 have hk:builtinKind "BaseException.__getattribute__" = U .slot:=by decide +kernel
 have hsplit:splitId "BaseException.__getattribute__" = U ("BaseException","__getattribute__"):=by decide +kernel
 have ha:=F.args_bexc_ga (.ref x) nameV
 have L0:=I.type (M:=M)
 have L1:=looks_mroIn (M:=M) X W.mb
 have L:Looks M s.heap (isInstance (.ref x) (.type "BaseException")) true:=L0.andThen L1
 simp only[checkBuiltinCall,hk,hsplit]
 refine Xd (L.at ?_)
 repeat (first | assumption | wp_step)
theorem VM(X:K.In s.heap)(I:InstAt s.heap x ox C od)(W:qp K C)
  (h:codeAny (model prog w) A (.call (.builtin "BaseException.__getattribute__") ⟨[.ref x,.str name tk],[]⟩) (λr s'=>∃ v,r=.ok (.ret v)/\Qs (model prog w) A (handedOut v) Q E s') s) :
  Qs (model prog w) A (getAttrBy (.ref x) (.str name tk) fill expr) Q E s:=by
 obtain⟨hh,g,d,t,os⟩:=s
 have L0:=I.type (M:=model prog w)
 have L1:=looks_findIn (M:=model prog w) X W.ga
 have L2:=looks_findIn (M:=model prog w) X W.gt
 have hx0:(expr&&onTheHeap (Value.builtin "BaseException.__getattribute__"))=false:=by cases expr<;>rfl
 have f3:=F.attr_ValueError.ga.bind (.ref x)
 unfold getAttrBy
 refine Yx (Xd (L0.at (Xd (L1.at ?_))))
 show Qs _ _ (getAttrByItsOwn _ _ _ _ _ _) _ _ _
 unfold getAttrByItsOwn
 refine Xd ((show Looks (model prog w) hh (hookBefore (.ref C)) Y from L2).at ?_)
 unfold callGetattribute boundAndCalled
 rw[hx0,f3]
 refine Xd (Zw (Yx ?_))
 refine Xd (Xj (aaZ (Zl h λr s' z=>?_)))
 obtain⟨v,rfl,z⟩:=z
 exact z
theorem Mq{R:Result->gV->Prop}(X:K.In s.heap)(I:InstAt s.heap x ox C od)(W:qp K C)
  (h:Qs (model prog w) A.in1 (Builtin.«object.__getattribute__» ⟨[.ref x,.str name tk],[]⟩) (λfin s'=>match fin with | .done f=>R (.ok f) s' | .again c'=>c'.quiet=true/\codeAny (model prog w) A c' R s') (λe s'=>R (.error e) s') s) :
  codeAny (model prog w) A (.call (.builtin "BaseException.__getattribute__") ⟨[.ref x,.str name tk],[]⟩) R s:=
 codeAny_call_builtin F.attr_ValueError.ga.plain F.entry_bexc_ga (Iw X I W h)
theorem HY{D:td}{Q:Option bd->gV->Prop}(X:K.In s.heap)(I:InstAt s.heap x ox D od)(W:qp K D)(hdct:hasDictIn K D=true)(ha:findIn K (.ref D) "__class__" = U (U (.builtin "object.__class__")))
  (hn:specialIn K (.builtin "object.__class__") "__get__" = U (U (.builtin "getset_descriptor.__get__"))) (htk:takesIn K (.builtin "object.__class__")=U true) (hm:mroIn K D (.type "object")=U true)
  (h:Q (U (.ref D)) { s with toks:=s.toks+1 }):Qs (model prog w) A (getAttr? (.ref x) "__class__") Q E s:=by
 have hf:findObj K D od "__class__" = U (.bind (.builtin "getset_descriptor.__get__") (.builtin "object.__class__")):=by
  obtain⟨cd,hc,_⟩:=any_some hdct
  unfold findObj
  rw[hc,Option.bind_some,ha,Option.bind_some]
  simp[hn,htk]
 unfold getAttr? getAttrBy?
 refine Xd (wpAny_mkText (Xd (Zw (VM X I W (Mq X I W ?_)))))
 obtain⟨hp,g,d,t,os⟩:=s
 have L0:=I.type (M:=model prog w)
 have L1:=looks_find (M:=model prog w) X I hf
 unfold Builtin.«object.__getattribute__»
 refine Xd (Xj (Xd (Xj (Xd (L0.at (Xd (L1.at ?_)))))))
 show Qs _ _ (holding [Value.builtin "object.__class__"] (call (.builtin "getset_descriptor.__get__") [.builtin "object.__class__",.ref x,.ref D]) >>= ret) _ _ _
 refine Xd (Yx (aaZ (class_get (s:=⟨hp,g,d,t+1,os⟩) (ox:=ox) (od:=od) X I hm ?_)))
 exact Xj ⟨_,rfl,Xj (Xj h)⟩
theorem AJ{D:td}{ox:Obj}(W:qp K D)(hdct:hasDictIn K D=true)(ha:findIn K (.ref D) "__class__" = U (U (.builtin "object.__class__")))
  (hn:specialIn K (.builtin "object.__class__") "__get__" = U (U (.builtin "getset_descriptor.__get__"))) (htk:takesIn K (.builtin "object.__class__")=U true) (hm:mroIn K D (.type "object")=U true) :
  KitX K (.ref x) (.ref D) (λh=>InstAt h x ox D od) where
 ty:=λ_ _ _ I=>I.type
 it:=λ_ _ X _=>by
  obtain⟨cdD,hcD,_⟩:=any_some hdct
  unfold clsIn at hcD
  split at hcD
  ·rename_i ho
   intro A' Q' E' s' k q
   unfold isType loadHead
   exact Xd (wpAny_loadPart (k _ _ (X _ _ ho)) (Xj q))
  ·cases hcD
 ne:=λh tp dd its n sl X htp=>by
  obtain⟨cdD,hcD,_⟩:=any_some hdct
  refine Bool.eq_false_iff.mpr λq=>?_
  have e:D=tp:=Value.ref.inj (beq_iff_eq.mp q)
  subst e
  unfold clsIn at hcD
  split at hcD
  ·rename_i ho
   have z:=(X _ _ ho).symm.trans htp
   cases z
  ·cases hcD
 ca:=λX I k=>HY X I W hdct ha hn htk hm k
end
end HT
namespace M
open L2
inductive BK where
 | ok (o:mU)
 | xc (i:Option Int) (S:aa)
noncomputable abbrev MY:=aE->aa->Option BK
inductive RY where
 | val (d:D) (S:aa)
 | xc (i:Option Int) (S:aa)
def PostX(K:QF)(C:td)(fl:Str)(μ:Fp)(H:Hp)(S':aa)(i:Option Int)(E:XK):Prop:=∀ H' μ',Ext μ H μ' H'->SOk K μ' S' H'->E (.ref C) Y H'
def PostY(K:QF)(C:td)(fl:Str)(E:XK)(μ:Fp)(H:Hp)(o:BK)(D:oh):Prop:=match o with
 | .ok o=>PostS K μ H o D
 | .xc i S'=>PostX K C fl μ H S' i E
inductive tY(K:QF)(C:td)(fl:Str)(E:XK)(m:MY)(D:oh)(σ:L2.St)(H:Hp):Prop
 | mk (μ:Fp) (S:aa) (env:aE) (o:BK) (hS:SOk K μ S H) (hE:EOk K μ H σ env) (h:m env S=U o) (post:PostY K C fl E μ H o D)
def DY(X:Cx)(C:td)(fl:Str)(E:XK)(st:He)(m:MY):Prop:=PS X st (tY X.K C fl E m)
def Oi(X:Cx)(C:td)(fl:Str)(E:XK)(st:List He)(m:MY):Prop:=PSs X st (tY X.K C fl E m)
structure WN(X:Cx)(E:XK):Prop where
 hs:X.stack=X.env::X.outer
 hfm:X.env.frame=U X.env.locals
 hex:X.ex=[]
 hxe:∀ e' s',Qs (model X.prog X.w) X.A (leaving X.env e') (λ_ s''=>ll X.prog X.w X.outer X.H₀ X.s₀ E e' s'') (λ_ _=>False) s'->X.xe e' s'
section
variable{X:Cx}{K:QF}{μ μ':Fp}{H H':Hp}{S S':aa}{C:td}{fl:Str}{E:XK}{Z:oh}{st:He}{pos:Pos}
theorem PostX.ext(e:Ext μ H μ' H')(p:PostX K C fl μ H S' i E):PostX K C fl μ' H' S' i E:=λH2 μ2 e2 s=>p H2 μ2 (e.trans e2) s
theorem PostY.ext(e:Ext μ H μ' H')(p:PostY K C fl E μ H o Z):PostY K C fl E μ' H' o Z:=by
 cases o with
 | ok o=>exact PostS.ext e p
 | xc i S=>exact PostX.ext (fl:=fl) (i:=i) e p
def gA(m:MS):MY:=λenv S=>(m env S).bind λo=>U (.ok o)
theorem Bp(h:DS X st m):DY X C fl E st (gA m):=PS.imp h λD σ H z0=>by
 obtain⟨μ,S,env,o,hS,hE,hm,post⟩:=z0
 obtain⟨o1,h1,hm⟩:=Xc.mp hm
 cases hm
 exact⟨μ,S,env,o1,hS,hE,h1,post⟩
theorem QP:Oi X C fl E [] (gA aU):=PSs.imp FP λD σ H z0=>by
 obtain⟨μ,S,env,o,hS,hE,hm,post⟩:=z0
 obtain⟨o1,h1,hm⟩:=Xc.mp hm
 cases hm
 exact⟨μ,S,env,o1,hS,hE,h1,post⟩
def bQ(a b:MY):MY:=λenv S=>(a env S).bind λo=>match o with | .ok (.nx env' S')=>b env' S' | o=>U o
theorem MX(h1:DY X C fl E st a)(h2:Oi X C fl E rest b):Oi X C fl E (st::rest) (bQ a b):=PSs.imp (sf h1 h2) λD σ H z0=>by
 obtain⟨μ,S,env,o,hS,hE,hm,post⟩:=z0
 obtain⟨o1,h1,hm⟩:=Xc.mp hm
 refine⟨μ,S,env,o1,hS,hE,h1,?_⟩
 match o1,hm with
 | .ok (.nx env' S'),hm=>exact λσ' H' μ' e s r=>⟨μ',S',env',o,s,r,hm,post.ext e⟩
 | .ok (.rt d S'),hm=>cases hm;exact post
 | .ok (.bk d S'),hm=>cases hm;exact post
 | .ok (.ct d S'),hm=>cases hm;exact post
 | .xc i S',hm=>cases hm;exact post
theorem QO(h1:DY X C fl E st a):Oi X C fl E [st] a:=xi h1
def pR(t:MT)(a b:MY):MY:=λenv S=>(t env S).bind λp=>if p.1=true then a env p.2 else b env p.2
theorem dy_if{mt:MT}(hc:DT X c mt)(ha:Oi X C fl E a ma)(hb:Oi X C fl E b mb):DY X C fl E (.If c a b pos) (pR mt ma mb):=PS.imp (Sk hc ha hb) λD σ H z0=>by
 obtain⟨μ,S,env,o,hS,hE,hm,post⟩:=z0
 obtain⟨⟨k,S1⟩,h1,hm⟩:=Xc.mp hm
 refine⟨μ,S,env,k,S1,hS,hE,h1,λH1 μ1 e1 s1=>?_⟩
 cases k with
 | true=>rw[Xq rfl] at hm ⊢;exact⟨μ1,S1,env,o,s1,hE.mono e1,hm,post.ext e1⟩
 | false=>rw[if_neg Sn] at hm ⊢;exact⟨μ1,S1,env,o,s1,hE.mono e1,hm,post.ext e1⟩
def jd(m:ME):MY:=λenv S=>(m env S).bind λp=>U (.xc Y p.2)
def BJ(P:vx)(w:Gs)(K:QF)(mg:Str->Option bd)(base:Jq)(x:Str)(C:td)(fl:Str):Prop:=BN K C/\mg x=U (.ref C)
theorem Na(R:BJ X.prog X.w X.K X.mg X.base x C fl)(hg:Gl X x)(he:DE X e m)(hcalm:X.calm=true)(O:WN X E)
  (hd:(x==("__debug__":Str))=false) (hst:KZ [e] X.env=(false,eval e X.env)::KZ [] X.env):DY X C fl E (.Raise (U (.Call (.Name x np) [e] [] cpos)) Y pos) (jd m):=
 PS.imp (JV (E:=E) R.1 hg R.2 he hcalm O.hs O.hfm O.hex O.hxe hd hst) λD σ H z0=>by
  obtain⟨μ,S,env,o,hS,hE,hm,post⟩:=z0
  obtain⟨⟨d,S1⟩,h1,hm⟩:=Xc.mp hm
  cases hm
  exact⟨μ,S,env,d,S1,hS,hE,h1,λv H1 μ1 e1 s1 r1=>post H1 μ1 e1 s1⟩
def ky(g:MG)(body:MY):List D->aE->aa->Option BK
 | [],env,S=>U (.ok (.nx env S))
 | d::ds,env,S=>(g d env S).bind λp=>(body p.1 p.2).bind λo=>match o with
  | .ok (.nx e s)=>ky g body ds e s
  | .ok (.ct e s)=>ky g body ds e s
  | .ok (.bk e s)=>U (.ok (.nx e s))
  | .ok (.rt d s)=>U (.ok (.rt d s))
  | .xc i s=>U (.xc i s)
def ER(mi:MA)(g:MG)(body:MY):MY:=λenv S=>(mi env S).bind λp=>ky g body p.1 env p.2
theorem VU(hp:PassesOwn (model X.prog X.w) X.A X.env X.xe)(hc:X.calm=true)(hi:DI X tg iter mi)(hg:DG X tg g)(hb:Oi X C fl E body mb)
  (hs:∀ x,Ld iter X.env x=pure x):DY X C fl E (.For tg iter body [] pos) (ER mi g mb):=PS.imp (Cy hp hc hi hg hb hs) λD σ H z0=>by
 obtain⟨μ,S,env,o,hS,hE,hm,post⟩:=z0
 obtain⟨⟨xs,S1⟩,h1,hm⟩:=Xc.mp hm
 refine⟨μ,S,env,xs,S1,hS,hE,h1,λJ H1 μ1 e1 s1 it=>?_⟩
 refine⟨λi n σ H=>n=xs.length - i/\i<=xs.length/\∃ μ' S' env' o',Ext μ1 H1 μ' H/\SOk X.K μ' S' H/\EOk X.K μ' H σ env'/\ky g mb (xs.drop i) env' S'=U o'/\PostY X.K C fl E μ' H o' D,
  ⟨xs.length,by simp,Zj _,μ1,S1,env,o,s1.ext,s1,hE.mono e1,by rw[ZY];exact hm,post.ext e1⟩,?_⟩
 rintro i n σ' H' ⟨rfl,hi,μ',S',env',o',e',s',r',hl,post'⟩
 have iti:=it μ' H' S' e'.toP s' i
 by_cases hlt:i<xs.length
 ·refine .inr ⟨(iti.1 xs[i] (Xl hlt)).1,λσ2 H2=>∃ μ2 S2 env2 o2,Ext μ1 H1 μ2 H2/\SOk X.K μ2 S2 H2/\EOk X.K μ2 H2 σ2 env2/\ky g mb (xs.drop (i+1)) env2 S2=U o2/\PostY X.K C fl E μ2 H2 o2 D,
   λσ2 H2 ⟨μ2,S2,env2,o2,q1,q2,q3,q4,q5⟩=>⟨xs.length - (i+1),by omega,rfl,hlt,μ2,S2,env2,o2,q1,q2,q3,q4,q5⟩,λx H2 y=>?_⟩
  obtain⟨e2,s2,rx⟩:=(iti.1 xs[i] (Xl hlt)).2 x H2 y
  rw[ZD hlt] at hl
  obtain⟨⟨env3,S3⟩,h3,hl⟩:=Xc.mp hl
  obtain⟨o4,h4,hl⟩:=Xc.mp hl
  refine⟨μ',S',env',xs[i],env3,S3,s2,r'.mono e2,rx,h3,λσ3 H3 μ3 e3 s3 r3=>⟨μ3,S3,env3,o4,s3,r3,h4,?_⟩⟩
  have eT:Ext μ1 H1 μ3 H3:=(e'.trans e2).trans e3
  have pT:PostY X.K C fl E μ3 H3 o' D:=(post'.ext e2).ext e3
  match o4,hl with
  | .ok (.nx e5 s5),hl=>exact λσ6 H6 μ6 e6 s6 r6=>⟨μ6,s5,e5,o',eT.trans e6,s6,r6,hl,pT.ext e6⟩
  | .ok (.ct e5 s5),hl=>exact λσ6 H6 μ6 e6 s6 r6=>⟨μ6,s5,e5,o',eT.trans e6,s6,r6,hl,pT.ext e6⟩
  | .ok (.bk e5 s5),hl=>cases hl;exact pT
  | .ok (.rt d5 s5),hl=>cases hl;exact pT
  | .xc i5 s5,hl=>cases hl;exact pT
 ·have e:i=xs.length:=by omega
  subst e
  refine .inl ⟨iti.2 (Xm _),?_⟩
  rw[aaB] at hl
  cases hl
  exact post' σ' H' μ' s'.ext s' r'
end
def spY(K:QF)(C:td)(fl:Str)(n:Nat)(fy:List D->aa->Option RY):Sp:=λvs H Q E=>∃ μ S ds r,SOk K μ S H/\Reps K μ H vs ds/\ds.length=n/\fy ds S=U r/\match r with | .val d S'=>Post K μ H S' d Q | .xc i S'=>PostX K C fl μ H S' i E
structure FnY(P:vx)(w:Gs)(K:QF)(mg:Str->Option bd)(base:Jq)(k:Nat)(x:Str)(n:Nat)(fy:List D->aa->Option RY)(C:td)(fl:Str):Prop where
 ex:∃ (a:td) (fd:FuncData) (ps:List Str),ps.length=n/\FnOk P w K mg base (ll P w) k a fd ps (spY K C fl n fy)/\mg x=U (.ref a)/\W.keepIn K (.ref a)=true/\Binds K fd ps []
theorem FnY.up{K:QF}{k k':Nat}(F:FnY P w K mg base k x n fy C fl)(h:k<=k':=by decide):FnY P w K mg base k' x n fy C fl:=by
 obtain⟨a,fd,ps,h1,h2,h3⟩:=F.ex
 exact⟨a,fd,ps,h1,h2.mono h,h3⟩
def nB(N:List Str)(m:MY)(n:Nat):List D->aa->Option RY:=λds S=>if ds.length=n then(m (bt N ds) S).bind λo=>match o with | .ok (.rt d S')=>U (.val d S') | .ok (.nx _ S')=>U (.val .non S') | .xc i S'=>U (.xc i S') | _=>Y else Y
theorem xok{K:QF}{A:IN}{s:gV}:WN (qW (ll P w) P w K mg base N q sc a cdv A outer s H E) E:=
 ⟨rfl,rfl,rfl,λe s' h=>XQ h (λ_ _ z=>z) λ_ _ z=>z.elim⟩
theorem Vw{K:QF}{k:Nat}{st:He}
  (F:bB K mg x st) (Sc:aN N ps (ar st)) (hb:oi x st ps)
  (hbody:∀ (a:td) (cdv:bd) (A:IN) (outer:List PySem.Env) (s:gV) (H:Hp) (E:XK),Room k (A.deeper (envOfC x (ar st) s.heap.objs.size a cdv)) ->
   Oi (qW (ll P w) P w K mg base N x (ar st) a cdv A outer s H E) C fl E (aD st) m) :
  FnY P w K mg base (k+1) x ps.length (nB N m ps.length) C fl:=by
 obtain⟨a,fd,F,hmg⟩:=F.ex
 have hbd:=F.binds hb
 refine⟨a,fd,ps,rfl,?_,hmg,F.kp,hbd⟩
 obtain⟨oc,od,kV,doc,pm,an,cdv,ct,osl,rfl,lk,hcd⟩:=F.ex
 refine SK lk hcd Sc (λvs H Q E ⟨μ,S,ds,r,hS,hr,hn,_⟩=>by rw[hr.length,hn]) λA outer s H vs Q E hr ⟨μ,S,ds,r,hS,hrp,hn,hf,post⟩=>⟨_,hbody a cdv A outer s H E hr,?_⟩
 have hEnv:EOk K μ H (L2.start N vs) (bt N ds):=by unfold L2.start bt;rw[hrp.length];exact EOk.start hrp
 unfold nB at hf
 rw[Xq hn] at hf
 obtain⟨o,h1,hf⟩:=Xc.mp hf
 match o,hf with
 | .ok (.rt d S'),hf=>cases hf;exact⟨μ,S,_,_,hS,hEnv,h1,post⟩
 | .ok (.nx e S'),hf=>cases hf;exact⟨μ,S,_,_,hS,hEnv,h1,λσ' H' μ' e s' _=>post .non H' μ' e s' .non⟩
 | .xc i S',hf=>cases hf;exact⟨μ,S,_,_,hS,hEnv,h1,post⟩
def BM(K:QF)(mg:Str->Option bd)(g:Str)(C:td):Prop:=∃ G bm bmG,mg g=U (.ref G)/\ux K C bm/\ux K G bmG/\(Value.ref C::bm).contains (.ref G)=true/\bmG.contains (.type "BaseException")=true
section
variable{X:Cx}{K:QF}{μ μ':Fp}{H H':Hp}{S S':aa}{C:td}{fl:Str}
theorem EOk.unset:∀ {σ:L2.St} {env:aE} (i:Nat),EOk K μ H σ env->EOk K μ H (σ.set i Y) (env.set i Y)
 | _,_,_,.nil=>.nil
 | _,_,0,.no t=>.no t
 | _,_,0,.yes _ t=>.no t
 | _,_,i+1,.no t=>.no (EOk.unset i t)
 | _,_,i+1,.yes h t=>.yes h (EOk.unset i t)
structure IP(K:QF)(C:td):Prop where
 wy:HT.qp K C
 hd:W.hasDictIn K C=true
 a:W.findIn K (.ref C) "__class__" = U (U (.builtin "object.__class__"))
 n:W.specialIn K (.builtin "object.__class__") "__get__" = U (U (.builtin "getset_descriptor.__get__"))
 t:W.takesIn K (.builtin "object.__class__")=U true
 m:W.mroIn K C (.type "object")=U true
def ClsOk(K:QF)(mg:Str->Option bd)(x:Str)(C:td)(b:Bool):Prop:=∃ v c,(mg x=U c\/(mg x=Y/\bootBuiltins x=U c/\x≠"__name__"))/\RelV v c/\(∀ u,RelV v u->u=c)/\W.kitOne K (.ref C) c=U b/\IP K C
theorem ClsOk.pe(c:ClsOk X.K X.mg x C b)(hg:Gl X x)(hd:(x==("__debug__":Str))=false):∃ v c,PE X (.Name x p) (tC v)/\(∀ u,RelV v u->u=c)/\W.kitOne X.K (.ref C) c=U b/\IP X.K C:=by
 obtain⟨v,c,h,r,u,k,o⟩:=c
 refine⟨v,c,?_,u,k,o⟩
 rcases h with h | ⟨h1,h2,h3⟩
 ·exact rm hg h r hd
 ·exact EA hg h1 h2 r h3 hd
theorem Fw{s:gV}(I:Inv X pins σ H s)(h:H a=U (.ext (pk a C Y))):∃ oe,W.InstAt s.heap a oe C Y:=by
 obtain⟨oe,ws,q1,q2,q3,q4⟩:pk a C Y s.heap:=(show ObjOk X.prog X.w _ s.heap a (.ext (pk a C Y)) from I.hok a _ h).1
 exact⟨oe,q1,q2,by obtain⟨_,_,d,_⟩:=oe;cases q4;rfl,by rw[q3];trivial⟩
def mR(C:td)(b:Bool)(m:ME):ME:=λenv S=>(m env S).bind λp=>match p.1 with | .exc C'=>if C'=C then U (.bl b,p.2) else Y | _=>Y
theorem vQ{S S':aa}{d:D}(h:mR C b m env S=U (d,S')):m env S=U (.exc C,S')/\d=.bl b:=by
 obtain⟨⟨x,S1⟩,h1,hm⟩:=Xc.mp h
 cases x<;>first | (cases hm;done) | skip
 dsimp only at hm
 split at hm
 ·rename_i e;cases hm;subst e;exact⟨h1,rfl⟩
 ·cases hm
theorem Wu{p:Pos}(hm:X.mg "isinstance" = Y)(c:ClsOk X.K X.mg x C b)(hg:Gl X "isinstance")(hgx:Gl X x)(hd:(x==("__debug__":Str))=false)(ha:DE X a ma)
  (hs1:KZ [a,.Name x p2] X.env=(false,eval a X.env)::KZ [.Name x p2] X.env):DE X (.Call (.Name "isinstance" p) [a,.Name x p2] [] pos) (mR C b ma):=by
 obtain⟨v,c,pe,hv,k,o⟩:=c.pe (p:=p2) hgx hd
 have hc:CallR X (.builtin "isinstance") (λvs H Q=>∃ a,vs=[.ref a,v]/\H a=U (.ext (pk a C Y))/\Q (.bl b) H):=by
  intro pins s σ H xs us Q I rv h
  obtain⟨a,rfl,h1,q⟩:=h
  obtain⟨u,w',rfl,r1,r2⟩:=zh rv
  cases r1
  cases hv _ r2
  obtain⟨oe,J⟩:=Fw I h1
  exact YL (HT.AJ o.wy o.hd o.a o.n o.t o.m) I.kIn J k (λz=>nomatch z) λtk=>⟨.bl _,H,I.tok _,rfl,q⟩
 refine PE.imp (oD hc hg hm aaM (ja ha (ja pe sk rfl) hs1) (by decide) (by decide) hs1 rfl) λσ H Q ⟨μ,S,env,d,S',hS,hE,hm,post⟩=>?_
 obtain⟨h1,rfl⟩:=vQ hm
 refine⟨μ,S,env,_,S',hS,hE,h1,λv H1 μ1 e1 s1 r1=>?_⟩
 cases r1 with
 | exc q1 n1=>exact⟨_,rfl,q1,post _ H1 μ1 e1 s1 (.bl _)⟩
inductive ClsL(X:Cx)(C:td):List tx->List Bool->Prop
 | nil:ClsL X C [] []
 | cons {x:Str} {p:Pos} {b:Bool} {es:List tx} {bs:List Bool} (c:ClsOk X.K X.mg x C b) (hg:Gl X x) (hd:(x==("__debug__":Str))=false) (t:ClsL X C es bs):ClsL X C (.Name x p::es) (b::bs)
def tCs(vs:List V):TA:=λ_ H Q=>Q vs H
theorem ClsL.pa:∀ {es:List tx} {bs:List Bool},ClsL X C es bs->∃ vs cs,PA X es (tCs vs)/\(∀ us,Vals vs us->us=cs)/\W.kitAny X.K (.ref C) cs=U (bs.any id)/\vs.length=es.length
 | _,_,.nil=>⟨[],[],sk,λus r=>by cases r;rfl,rfl,rfl⟩
 | _,_,.cons c hg hd t=>by
  obtain⟨v,c,pe,hv,k,o⟩:=c.pe hg hd
  obtain⟨vs,cs,pa,hvs,ks,hl⟩:=ClsL.pa t
  refine⟨v::vs,c::cs,ja pe pa rfl,λus r=>?_,?_,by simp[hl]⟩
  ·cases r with
   | cons a r=>rw[hv _ a,hvs _ r]
  ·unfold W.kitAny
   rw[k]
   rename_i b _ _ _
   cases b with
   | true=>rfl
   | false=>exact ks
theorem ClsL.own:∀ {es:List tx} {bs:List Bool},ClsL X C es bs->es≠[]->IP X.K C
 | _,_,.nil,h=>absurd rfl h
 | _,_,.cons c _ _ _,_=>by obtain⟨_,_,_,_,_,_,o⟩:=c;exact o
theorem Rn{bs:List Bool}{p:Pos}(hm:X.mg "isinstance" = Y)(c:ClsL X C es bs)(hne:es≠[])(hl:es.length<=20)(hg:Gl X "isinstance")(ha:DE X a ma)
  (hs1:KZ [a,.Tuple es j p2] X.env=(false,eval a X.env)::KZ [.Tuple es j p2] X.env):DE X (.Call (.Name "isinstance" p) [a,.Tuple es j p2] [] pos) (mR C (bs.any id) ma):=by
 obtain⟨vs,cs,pa,hv,k,hvl⟩:=c.pa
 have o:=c.own hne
 have hc:CallR X (.builtin "isinstance") (λws H Q=>∃ a t,ws=[.ref a,.ref t]/\H t=U (.tup vs)/\H a=U (.ext (pk a C Y))/\Q (.bl (bs.any id)) H):=by
  intro pins s σ H xs us Q I rv h
  obtain⟨a,t,rfl,ht,h1,q⟩:=h
  obtain⟨u,w',rfl,r1,r2⟩:=zh rv
  cases r1
  cases r2
  obtain⟨oe,J⟩:=Fw I h1
  obtain⟨its,rv,⟨ot,q1,q2,n,q3⟩,_⟩:=I.tuple (.inl (.inl ht))
  cases hv _ rv
  obtain⟨_,dd,_,sl⟩:=ot
  cases q2
  cases q3
  exact W.kia_tup (HT.AJ o.wy o.hd o.a o.n o.t o.m) I.kIn J q1 k (λz=>nomatch z) λtk=>⟨.bl _,H,I.tok _,rfl,q⟩
 refine PE.imp (oD hc hg hm aaM (ja ha (ja (Kb pa) sk rfl) hs1) (by decide) (by decide) hs1 rfl) λσ H Q ⟨μ,S,env,d,S',hS,hE,hm,post⟩=>?_
 obtain⟨h1,rfl⟩:=vQ hm
 refine⟨μ,S,env,_,S',hS,hE,h1,λv H1 μ1 e1 s1 r1=>⟨?_,λt nt=>?_⟩⟩
 ·exact XN (by rw[hvl];exact hl) (by decide)
 ·obtain⟨e2,s2⟩:=s1.laid (o:=.tup vs) nt
  have r2:=r1.mono e2
  cases r2 with
  | exc q1 n1=>exact⟨_,t,rfl,aV,q1,post _ _ μ1 (e1.trans e2) s2 (.bl _)⟩
end
end M
namespace M
open L2
noncomputable abbrev MB:=aE->aa->Option (List D×aE×aa)
end M
namespace M
open L2
section
variable{X:Cx}{K:QF}{μ:Fp}{H:Hp}{S:aa}
theorem qj(h:(match o with | .Call (.Name id _) [] [] _=>id != ("super":Str) | .Call _ _ _ _=>false | _=>true)=true):attributeBase o name env w=w:=by
 unfold attributeBase
 split
 ·rename_i id _ _
  have h':(id != ("super":Str))=true:=h
  rw[h'];rfl
 ·rfl
end
end M
namespace M
open PySem PySem.Spec PyProof.Rows L2 Builtin Builtin.Str
mutual
def jg:D->Option DK
 | .non=>U .non
 | .int i=>U (.int i)
 | .str x=>U (.str x)
 | .tup l=>(keyDKs l).bind λm=>U (.tup m)
 | _=>Y
def keyDKs:List D->Option (List DK)
 | []=>U []
 | d::l=>(jg d).bind λk=>(keyDKs l).bind λm=>U (k::m)
end
mutual
theorem nK:∀ {d:D} {k:DK},jg d=U k->d=IU k
 | .non,k,h=>by cases h;rfl
 | .int i,k,h=>by cases h;rfl
 | .str x,k,h=>by cases h;rfl
 | .tup l,k,h=>by
  obtain⟨m,h1,h⟩:=Xc.mp (show((keyDKs l).bind λm=>U (DK.tup m))=U k from h)
  cases h
  rw[keyDKs_some h1];rfl
 | .bl _,k,h=>by cases h
 | .lst _,k,h=>by cases h
 | .rol _,k,h=>by cases h
 | .dct _ _,k,h=>by cases h
 | .ref _,k,h=>by cases h
 | .txt,k,h=>by cases h
 | .obj,k,h=>by cases h
 | .exc _,k,h=>by cases h
 | .fn _,k,h=>by cases h
theorem keyDKs_some:∀ {l:List D} {m:List DK},keyDKs l=U m->l=dkDs m
 | [],m,h=>by cases h;rfl
 | d::l,m,h=>by
  obtain⟨k,h1,h⟩:=Xc.mp (show((jg d).bind λk=>(keyDKs l).bind λm=>U (k::m))=U m from h)
  obtain⟨m',h2,h⟩:=Xc.mp h
  cases h
  rw[nK h1,keyDKs_some h2];rfl
end
section
variable{X:Cx}{K:QF}{μ:Fp}{H:Hp}{S:aa}{pins:List (td×Obj)}{σ:L2.St}{s:gV}
mutual
theorem Fv(I:Inv X pins σ H s):∀ {k:DK} {v:V} {u:bd},Rep X.K μ H v (IU k)->RelV v u->IsDK s.heap k u
 | .non,v,u,r,ru=>by rw[r.non_inv] at ru;cases(show u=Value.none from ru);exact .non
 | .int i,v,u,r,ru=>by rw[r.int_inv] at ru;obtain⟨t,rfl⟩:=(show ∃ t,u=Value.int i t from ru);exact .int i t
 | .str x,v,u,r,ru=>by rw[r.str_inv] at ru;obtain⟨t,rfl⟩:=(show ∃ t,u=Value.str x t from ru);exact .str x t
 | .tup l,v,u,r,ru=>by
  have r:Rep X.K μ H v (.tup (dkDs l)):=r
  cases r with
  | @tup a vs _ h n r=>
   cases(show u=Value.ref a from ru)
   obtain⟨its,rv,p,_⟩:=I.tuple (.inl (.inl h))
   exact .tup p (isDKs_of I r rv)
  | @ktup a vs _ h r=>
   cases(show u=Value.ref a from ru)
   obtain⟨its,rv,p,_⟩:=I.tuple (.inr h)
   exact .tup p (isDKs_of I r rv)
theorem isDKs_of(I:Inv X pins σ H s):∀ {l:List DK} {vs:List V} {us:List bd},Reps X.K μ H vs (dkDs l)->Vals vs us->IsDKs s.heap l us
 | [],vs,us,r,ru=>by
  have r:Reps X.K μ H vs []:=r
  cases r;cases ru;exact .nil
 | k::l,vs,us,r,ru=>by
  have r:Reps X.K μ H vs (IU k::dkDs l):=r
  cases r with
  | cons r1 r2=>
   cases ru with
   | cons u1 u2=>exact .cons (Fv I r1 u1) (isDKs_of I r2 u2)
end
theorem AK{k:DK}(hd:k.depth<=8)(r:Rep X.K μ H v (IU k)):KeyAt X H k v:=⟨hd,λ_ _ _ _ I ru=>Fv I r ru⟩
def mL:List DK->List D->DK->Option D
 | k'::ks,d::ds,k=>if k'=k then U d else mL ks ds k
 | _,_,_=>Y
def jQ(S:aa):D->Option (List DK×List D)
 | .ref r=>match S[r]? with | some (.deep ks ds)=>if ks.all (λk=>decide (k.depth<=8))=true then U (ks,ds) else Y | _=>Y
 | _=>Y
theorem yc{X:Cx}:∀ {kvs:List (DK×td×V)},Reps X.K μ H (kvs.map λp=>.ref p.2.1) (dkDs (kvs.map (·.1)))->(∀ p∈kvs,p.1.depth<=8)->∀ p∈kvs,KeyAt X H p.1 (.ref p.2.1)
 | [],_,_,p,hp=>absurd hp XZ
 | q::kvs,r,hd,p,hp=>by
  have r:Reps X.K μ H (.ref q.2.1::kvs.map λp=>.ref p.2.1) (IU q.1::dkDs (kvs.map (·.1))):=r
  cases r with
  | cons r1 r2=>
   rcases XD.mp hp with rfl | hp
   ·exact AK (hd _ (by simp)) r1
   ·exact yc r2 (λp hp=>hd p (Xf _ hp)) p hp
theorem Bw{ks:List DK}{ds:List D}(hS:SOk X.K μ S H)(r:Rep X.K μ H v y)(h:jQ S y=U (ks,ds)) :
  ∃ a kvs,v=.ref a/\lZ X H a kvs/\ks=kvs.map (·.1)/\Reps X.K μ H (kvs.map (·.2.2)) ds:=by
 cases y<;>first | cases h | skip
 rename_i i
 unfold jQ at h
 dsimp only at h
 cases r with
 | @ref a _ h'=>
  cases q:S[i]? with
  | none=>rw[q] at h;cases h
  | some c=>
   rw[q] at h
   have ck:=hS.cell i a c h' q
   cases c with
   | lst _=>cases h
   | dct _ _=>cases h
   | deep ks' ds'=>
    dsimp only at h
    split at h
    ·rename_i hd
     cases h
     obtain⟨kvs,e,rfl,rk,rv⟩:=ck
     rw[Xu] at hd
     exact⟨a,kvs,rfl,⟨e,yc rk λp hp=>XV (hd p.1 (abG hp))⟩,rfl,rv⟩
    ·cases h
theorem wK{k:DK}:∀ {kvs:List (DK×td×V)} {ds:List D},Reps K μ H (kvs.map (·.2.2)) ds->(mO kvs k=Y/\mL (kvs.map (·.1)) ds k=Y)\/∃ v d,mO kvs k=U v/\mL (kvs.map (·.1)) ds k=U d/\Rep K μ H v d
 | [],ds,r=>by
  have r:Reps K μ H [] ds:=r
  cases r;exact .inl ⟨rfl,rfl⟩
 | p::kvs,ds,r=>by
  have r:Reps K μ H (p.2.2::kvs.map (·.2.2)) ds:=r
  cases r with
  | @cons _ d _ ds r1 r2=>
   by_cases e:p.1=k
   ·exact .inr ⟨p.2.2,d,by unfold mO;rw[Xq e],by show(if p.1=k then U d else _)=_;rw[Xq e],r1⟩
   ·have a1:mO (p::kvs) k=mO kvs k:=by conv=>lhs;unfold mO;rw[if_neg e]
    have a2:mL ((p::kvs).map (·.1)) (d::ds) k=mL (kvs.map (·.1)) ds k:=by show(if p.1=k then U d else _)=_;rw[if_neg e]
    rw[a1,a2]
    exact wK r2
def tupK(x:D):Option DK:=match x with
 | .tup _=>(jg x).bind λk=>if k.depth<=8 then U k else Y
 | _=>Y
theorem rf{k:DK}(r:Rep X.K μ H v x)(h:tupK x=U k):∃ b,v=.ref b/\KeyAt X H k (.ref b):=by
 cases x<;>first | cases h | skip
 obtain⟨k',h1,h⟩:=Xc.mp h
 split at h
 ·rename_i hd
  cases h
  have e:=nK h1
  have ka:KeyAt X H k v:=AK hd (by rw[<- e];exact r)
  cases r with
  | tup _ _ _=>exact⟨_,rfl,ka⟩
  | ktup _ _=>exact⟨_,rfl,ka⟩
 ·cases h
def eZ(S:aa)(x y:D):Option D:=(jQ S y).bind λc=>(tupK x).bind λk=>U (.bl (!(mL c.1 c.2 k).isSome))
theorem vp{k:DK}{kvs:List (DK×td×V)}(r:Reps K μ H (kvs.map (·.2.2)) ds):(mO kvs k).isSome=(mL (kvs.map (·.1)) ds k).isSome:=by
 rcases wK (k:=k) r with ⟨a,b⟩ | ⟨v,d,a,b,_⟩<;>rw[a,b]<;>rfl
theorem GS(hu:X.A.units+9<cLine):OpR X (Mc .NotIn) (on X.K eZ):=λpins s σ H x y v u Q I rx ry z0=>by
 obtain⟨μ,S,dx,dy,dz,hS,h1,h2,h3,post⟩:=z0
 obtain⟨⟨ks,ds⟩,hc,h3⟩:=Xc.mp h3
 obtain⟨k,hk,h3⟩:=Xc.mp h3
 cases h3
 obtain⟨a,kvs,rfl,g,rfl,rv⟩:=Bw hS h2 hc
 obtain⟨b,rfl,ka⟩:=rf h1 hk
 cases(show v=Value.ref b from rx)
 cases(show u=Value.ref a from ry)
 refine NJ hu I g ka λs' I'=>⟨.bl _,H,I',rfl,?_⟩
 rw[vp rv];exact post.here hS (.bl _)
theorem Qq(hu:X.A.units+9<cLine):IxR X (λx y H Q=>∃ a b kvs k v,x=.ref a/\y=.ref b/\lZ X H a kvs/\KeyAt X H k (.ref b)/\mO kvs k=U v/\Q v H):=by
 intro value slice pins s σ H x y v u Q I rx ry h hs
 obtain⟨a,b,kvs,k,z,rfl,rfl,g,ka,l,q⟩:=h
 cases rx
 cases ry
 exact abK (LN I (.inr ⟨kvs,.inl g.e⟩)).1 F.slot_dict_getitem.lookup (DQ hu I g ka l λw' s' I' rw'=>⟨z,H,I',rw',q⟩) hs
def Dx(S:aa)(x y:D):Option D:=match jQ S x with
 | some c=>(tupK y).bind λk=>mL c.1 c.2 k
 | none=>aW S x y
theorem ix_Y(hu:X.A.units+9<cLine):IxR X (on X.K Dx):=IxR.imp ((Qq hu).or (SC (by omega))) λx y H Q z0=>by
 obtain⟨μ,S,dx,dy,dz,hS,h1,h2,h3,post⟩:=z0
 unfold Dx at h3
 split at h3
 ·rename_i c hc
  obtain⟨ks,ds⟩:=c
  obtain⟨k,hk,h3⟩:=Xc.mp h3
  obtain⟨a,kvs,rfl,g,rfl,rv⟩:=Bw hS h1 hc
  obtain⟨b,rfl,ka⟩:=rf h2 hk
  rcases wK (k:=k) rv with ⟨_,z⟩ | ⟨v,d,l,z,rd⟩
  ·rw[show mL (kvs.map (·.1)) ds k=U dz from h3] at z;cases z
  ·rw[show mL (kvs.map (·.1)) ds k=U dz from h3] at z
   cases z
   exact .inl ⟨a,b,kvs,k,v,rfl,rfl,g,ka,l,post.here hS rd⟩
 ·exact .inr ⟨μ,S,dx,dy,dz,hS,h1,h2,h3,post⟩
theorem Ws(hu:X.A.units+9<cLine)(ha:DE X a ma)(hb:DE X b mb)(hs:kY b:=by intro _ _;rfl):DE X (.Subscript a b pos) (aH Dx ma mb):=
 PE.imp (Ex (ix_Y hu) ha hb hs) λ_ _ _ h=>rS h
theorem SOk.writeT(s:SOk K μ S H){i:Nat}{a:td}{kvs':List (DK×td×V)}{ks:List DK}(hi:μ.cs[i]?=U a)(h:H a=U (.dT kvs))(hk:ks=kvs'.map (·.1))(rk:Reps K μ H (kvs'.map λp=>.ref p.2.1) (dkDs ks))(r:Reps K μ H (kvs'.map (·.2.2)) ds) :
  Ext μ H μ (upd H a (.dT kvs'))/\SOk K μ (S.set i (.deep ks ds)) (upd H a (.dT kvs')):=by
 have ha:=Xz hi
 have e:Ext μ H μ (upd H a (.dT kvs')):=⟨rfl,⟨[],by simp,λ_ z=>by simp at z⟩,λb o' n q=>by rw[aO (by rintro rfl;exact n ha)];exact q,λb hb=>by
  by_cases z:b=a
  ·subst z;rw[aV];simp
  ·rw[aO z];exact s.dom b hb⟩
 refine⟨e,s.nd,by simp[s.len],λj b c h1 h2=>?_,λb hb=>?_,s.disj⟩
 case refine_2=>
  by_cases z:b=a
  ·subst z;rw[aV];simp
  ·rw[aO z];exact s.fdom b hb
 by_cases hj:j=i
 ·subst hj
  rw[hi] at h1;cases h1
  have hl:j<S.length:=by rw[<- s.len];exact(Xe.mp hi).1
  rw[XF hl] at h2
  cases h2
  exact⟨kvs',aV,hk,rk.mono e,r.mono e⟩
 ·rw[XE (Ne.symm hj)] at h2
  refine(s.cell j b c h1 h2).mono e (aO λz=>hj ?_)
  subst z
  exact EK s.nd h1 hi
def OR:List DK->List D->DK->D->List D
 | k'::ks,x::ds,k,d=>(if k'=k then d else x)::OR ks ds k d
 | _,_,_,_=>[]
def sa(ks:List DK)(ds:List D)(k:DK)(d:D):List DK×List D:=if (mL ks ds k).isSome then(ks,OR ks ds k d) else(ks++[k],ds++[d])
theorem zF(k:DK)(v:V):∀ kvs:List (DK×td×V),(kvs.map λp=>if p.1=k then(p.1,p.2.1,v) else p).map (·.1)=kvs.map (·.1)/\((kvs.map λp=>if p.1=k then(p.1,p.2.1,v) else p).map λp=>V.ref p.2.1)=kvs.map λp=>V.ref p.2.1
 | []=>⟨rfl,rfl⟩
 | p::kvs=>by
  obtain⟨h1,h2⟩:=zF k v kvs
  simp only[Xp]
  rw[h1,h2]
  by_cases e:p.1=k
  ·rw[Xq e];exact⟨rfl,rfl⟩
  ·rw[if_neg e];exact⟨rfl,rfl⟩
theorem zE{k:DK}{d:D}(rd:Rep K μ H v d):∀ {kvs:List (DK×td×V)} {ds:List D},Reps K μ H (kvs.map (·.2.2)) ds->Reps K μ H ((kvs.map λp=>if p.1=k then(p.1,p.2.1,v) else p).map (·.2.2)) (OR (kvs.map (·.1)) ds k d)
 | [],ds,r=>by
  have r:Reps K μ H [] ds:=r
  cases r;exact .nil
 | p::kvs,ds,r=>by
  have r:Reps K μ H (p.2.2::kvs.map (·.2.2)) ds:=r
  cases r with
  | @cons _ x _ ds r1 r2=>
   have ih:=zE (k:=k) rd r2
   show Reps K μ H ((if p.1=k then(p.1,p.2.1,v) else p).2.2::_) ((if p.1=k then d else x)::OR (kvs.map (·.1)) ds k d)
   by_cases e:p.1=k
   ·rw[Xq e,Xq e];exact .cons rd ih
   ·rw[if_neg e,if_neg e];exact .cons r1 ih
theorem Bu:∀ (l m:List DK),dkDs (l++m)=dkDs l++dkDs m
 | [],m=>rfl
 | k::l,m=>by show IU k::dkDs (l++m)=IU k::(dkDs l++dkDs m);rw[Bu l m]
theorem put_T{kvs:List (DK×td×V)}{k:DK}{d:D}(rk:Reps K μ H (kvs.map λp=>.ref p.2.1) (dkDs (kvs.map (·.1))))(r:Reps K μ H (kvs.map (·.2.2)) ds)(rb:Rep K μ H (.ref b) (IU k))(rd:Rep K μ H v d) :
  (sa (kvs.map (·.1)) ds k d).1=(qM kvs k b v).map (·.1)/\Reps K μ H ((qM kvs k b v).map λp=>.ref p.2.1) (dkDs (sa (kvs.map (·.1)) ds k d).1)/\Reps K μ H ((qM kvs k b v).map (·.2.2)) (sa (kvs.map (·.1)) ds k d).2:=by
 have e:=vp (k:=k) r
 unfold sa qM
 rw[<- e]
 by_cases q:(mO kvs k).isSome=true
 ·rw[Xq q,Xq q]
  obtain⟨h1,h2⟩:=zF k v kvs
  rw[h1,h2]
  exact⟨rfl,rk,zE rd r⟩
 ·rw[if_neg q,if_neg q]
  simp only[Ya,Xp,aav]
  exact⟨trivial,by rw[Bu];exact rk.append (.cons rb .nil),r.append (.cons rd .nil)⟩
theorem JA(hu:X.A.units+9<cLine):WV X (λo i v H Q=>∃ a b kvs k,o=.ref a/\i=.ref b/\lZ X H a kvs/\KeyAt X H k (.ref b)/\kvs.length<KY/\Q (upd H a (.dT (qM kvs k b v)))):=λpins s σ H o i v ov iv u Q I ro ri rv z0=>by
 obtain⟨a,b,kvs,k,e1,e2,g,ka,hl,q⟩:=z0
 subst e1 e2
 cases ro
 cases ri
 exact DP hu I g ka hl rv λs' I'=>⟨_,I',q⟩
theorem Ep{k:DK}(h:tupK x=U k):x=IU k:=by
 cases x<;>first | cases h | skip
 obtain⟨k',h1,h⟩:=Xc.mp h
 split at h
 ·cases h;exact nK h1
 ·cases h
def gP(o i:ME):MG:=λd env S=>(o env S).bind λp=>(i env p.2).bind λq=>match p.1 with
 | .ref r=>(jQ q.2 (.ref r)).bind λc=>(tupK q.1).bind λk=>if c.1.length<=5000 then U (env,q.2.set r (.deep (sa c.1 c.2 k d).1 (sa c.1 c.2 k d).2)) else Y
 | _=>Y
theorem Rg(hu:X.A.units+64<cLine)(ho:DE X o mo)(hi:DE X i mi)(ha:∀ v,assign (.Subscript o i pos) X.env v=(do
   let ov <- holding [v] (eval o X.env)
   let iv <- holding [v,ov] (eval i X.env)
   standAt pos
   holding [v,ov,iv] (setItem ov iv v)
   release [v,ov,iv] []):=by intro _;rfl):DG X (.Subscript o i pos) (gP mo mi):=
 PG.imp (JZ ho hi (JA (by omega)) ha) λv σ H Q z0=>by
  obtain⟨μ,S,env,d,env',S',hS,hE,hr,hm,post⟩:=z0
  obtain⟨⟨x,S1⟩,h1,hm⟩:=Xc.mp hm
  obtain⟨⟨y,S2⟩,h2,hm⟩:=Xc.mp hm
  refine⟨μ,S,env,x,S1,hS,hE,h1,λv1 H1 μ1 e1 s1 r1=>⟨μ1,S1,env,y,S2,s1,hE.mono e1,h2,λv2 H2 μ2 e2 s2 r2=>?_⟩⟩
  cases x with
  | ref r=>
   obtain⟨⟨ks,ds⟩,hc,hm⟩:=Xc.mp hm
   obtain⟨k,hk,hm⟩:=Xc.mp hm
   dsimp only at hm
   split at hm
   ·rename_i hz
    cases hm
    have r1':=r1.mono e2
    obtain⟨b,rfl,ka⟩:=rf r2 hk
    have rb:Rep X.K μ2 H2 (.ref b) (IU k):=by rw[<- Ep hk];exact r2
    have rd:=(hr.mono e1).mono e2
    unfold jQ at hc
    dsimp only at hc
    cases r1' with
    | @ref a _ h'=>
     cases q:S2[r]? with
     | none=>rw[q] at hc;cases hc
     | some c=>
      rw[q] at hc
      have ck:=s2.cell r a c h' q
      cases c with
      | lst _=>cases hc
      | dct _ _=>cases hc
      | deep ks' ds'=>
       dsimp only at hc
       split at hc
       ·rename_i hd
        cases hc
        obtain⟨kvs,hv,rfl,rk,rv⟩:=ck
        rw[Xu] at hd
        have g:lZ X H2 a kvs:=⟨hv,yc rk λp hp=>XV (hd p.1 (abG hp))⟩
        obtain⟨p1,p2,p3⟩:=put_T rk rv rb rd
        obtain⟨e3,s3⟩:=s2.writeT h' hv (kvs':=qM kvs k b v) p1 p2 p3
        refine⟨a,b,kvs,k,rfl,rfl,g,ka,?_,post σ _ μ2 ((e1.trans e2).trans e3) s3 (hE.mono ((e1.trans e2).trans e3))⟩
        rw[Xn] at hz
        exact aaf hz (by decide)
       ·cases hc
   ·cases hm
  | _=>cases hm
theorem Ext.shutT{cs fb:List td}{vs:List (DK×td×V)}{ks:List DK}(hp:H p=Y)(hn:p∉fb)(e:Ext ⟨cs,p::fb⟩ (upd H p o) μ2 H2)(s:SOk K μ2 S2 H2)(hk:ks=vs.map (·.1))(rk:Reps K μ2 H2 (vs.map λp=>.ref p.2.1) (dkDs ks))(rv:Reps K μ2 H2 (vs.map (·.2.2)) ds) :
  Ext ⟨cs,fb⟩ H ⟨μ2.cs++[p],fb⟩ (upd H2 p (.dT vs))/\SOk K ⟨μ2.cs++[p],fb⟩ (S2++[.deep ks ds]) (upd H2 p (.dT vs))/\H2 p=U o:=by
 have pm:p∈μ2.fb:=by rw[e.fb];exact Xi
 have ncs:p∉μ2.cs:=s.disj p pm
 have ncs0:p∉cs:=λz=>ncs (by obtain⟨l,q,_⟩:=e.pre;rw[q];exact Yd _ z)
 have ef:μ2.fb=p::fb:=e.fb
 obtain⟨cs2,fb2⟩:=μ2
 simp only at ef pm ncs
 subst ef
 refine⟨⟨rfl,?_,λa o2 na ha=>?_,λa ha=>?_⟩,⟨?_,by simp[s.len],λi a c h1 h2=>?_,λa ha=>?_,λa ha z=>?_⟩,e.keep p o ncs0 aV⟩
 ·obtain⟨l,q,hl⟩:=e.pre
  simp only at q
  refine⟨l++[p],by rw[q,XU],λa ha=>?_⟩
  rcases Xx.mp ha with ha | ha
  ·have:=hl a ha
   by_cases z:a=p
   ·subst z;exact hp
   ·rwa[aO z] at this
  ·rw[XA.mp ha];exact hp
 ·have z:=bR ha hp
  rw[aO z]
  exact e.keep a o2 na ((aO z).trans ha)
 ·by_cases z:a=p
  ·subst z;rw[aV];simp
  ·rw[aO z]
   rcases Xx.mp ha with ha | ha
   ·exact e.dom a ha
   ·exact absurd (XA.mp ha) z
 ·exact YA.mpr ⟨s.nd,by simp,λa ha b hb=>by rw[XA.mp hb];exact λz=>ncs (z ▸ ha)⟩
 ·have sc:=s.chg (o:=.dT vs) pm
  by_cases hi:i<cs2.length
  ·rw[Xv hi] at h1
   rw[Xv (by rw[<- s.len];exact hi)] at h2
   have ck:=sc.cell i a c h1 h2
   cases c with
   | lst ds=>obtain⟨ws,h,r⟩:=ck;exact⟨ws,h,r.adopt⟩
   | dct ks ds=>obtain⟨ws,h,q,r⟩:=ck;exact⟨ws,h,q,r.adopt⟩
   | deep ks ds=>obtain⟨ws,h,q,r,r'⟩:=ck;exact⟨ws,h,q,r.adopt,r'.adopt⟩
  ·have hi':i=cs2.length:=by
    have:=(Xe.mp h1).1
    simp at this;omega
   subst hi'
   rw[XJ (Xm _)] at h1
   rw[show cs2.length=S2.length from s.len,XJ (Xm _)] at h2
   simp at h1 h2
   subst h1 h2
   exact⟨vs,aV,hk,(rk.chg (o:=.dT vs) pm).adopt,(rv.chg (o:=.dT vs) pm).adopt⟩
 ·by_cases z:a=p
  ·subst z;rw[aV];simp
  ·rw[aO z];exact s.fdom a (Xf _ ha)
 ·rcases Xx.mp z with z | z
  ·exact s.disj a (Xf _ ha) z
  ·exact hn (XA.mp z ▸ ha)
end
end M
namespace L2
def Tw(X:Cx)(trs:List (TE×TE)):TE:=λσ H Q=>∀ p,H p=Y->rR trs σ (upd H p (.dK [])) λps H2=>H2 p=U (.dK [])/\∃ (b:td) (k:DK) (y:V),ps=[(.ref b,y)]/\KeyAt X H2 k (.ref b)/\Q (.ref p) (upd H2 p (.dT [(k,b,y)]))
theorem Kg{X:Cx}{keys:List (Option tx)}(hu:X.A.units+8<cLine)(h:PPs X pos keys values trs)(hall:keys.all (·.isSome)=true)(hl:keys.length=values.length)(h0:keys≠[])
  (h15:keys.length<=15):PE X (.Dict keys values pos) (Tw X trs):=by
 intro pins s σ H Q I q
 have hn:=I.hok.fresh (Xm s.heap.objs.size)
 have I1:=I.laid (a:=s.heap.objs.size) (o:=.dK []) (h':=s.heap.push { cls:=.type "dict",data:=.dict #[] }) (t':=s.toks) (λ_ _ q=>Xh _ q) (Xm _) (ud s.heap I.big)
 refine wpAny_Dict_any hall hl h0 h15 (dA (h pins _ σ _ _ I1 (q _ hn)) λws s2 ⟨ps,H2,I2,rel,e,a,k,y,ep,ka,q2⟩=>?_)
 subst ep
 cases rel with
 | @cons _ b _ bs r1 t=>
  cases t
  obtain⟨b1,b2⟩:=b
  cases r1.1
  obtain⟨z,hd,vs0,r0,⟨o,es,ep,g1,g2,g3,g4⟩⟩:=SV I2.hok e
  cases r0
  have g0:es.toList=([]:List (DK×td×bd)).map (entryOfKey (gR X.prog X.w)):=by
   have g5:=g4.2.1
   cases e0:es.toList with
   | nil=>rfl
   | cons x r=>rw[e0] at g5;cases g5
  have hm:s2.heap.DictOfH (gR X.prog X.w) s.heap.objs.size []:=⟨o,es,ep,g1,g2,g3,g0,λx hx=>(by cases hx),by simp⟩
  unfold storeAll
  rw[YO]
  refine Xd (Xd (wpAny_dictSet_heap (hsz:=Zj _) (knd:=gR X.prog X.w) hu (ka.is I2) hm λh' hm' hs=>Xj ?_))
  dsimp only
  rw[List.forIn_nil]
  obtain⟨o',es',ep',i1,i2,i3,i4,_,i5⟩:=hm'
  refine Xj ⟨.ref s.heap.objs.size,_,?_,rfl,q2⟩
  exact yM I2 (by rw[e];exact True.intro) hs ⟨_,i1⟩ ⟨(by decide:1<=KY),hd,[(k,a,b2)],.cons ⟨rfl,rfl,r1.2⟩ .nil,o',es',ep',i1,i2,i3,i4,by simp⟩
end L2
namespace M
open L2
section
variable{X:Cx}{K:QF}{μ μ':Fp}{H H':Hp}{S:aa}
def dW(a b:ME):ME:=λenv S=>(a env S).bind λp=>(b env p.2).bind λq=>(tupK p.1).bind λk=>U (.ref q.2.length,q.2++[.deep [k] [q.1]])
theorem NE{k:tx}(hu:X.A.units+8<cLine)(ha:DE X k a)(hb:DE X v b):DE X (.Dict [U k] [v] pos) (dW a b):=
 PE.imp (Kg hu (zL ha hb Ew) rfl rfl (by simp) (by simp)) λσ H Q z0=>by
 obtain⟨μ,S,env,d,S',hS,hE,hm,post⟩:=z0
 obtain⟨⟨x,S1⟩,h1,hm⟩:=Xc.mp hm
 obtain⟨⟨y,S2⟩,h2,hm⟩:=Xc.mp hm
 obtain⟨k,hk,hm⟩:=Xc.mp hm
 cases hm
 dsimp only at h2
 intro p hp
 obtain⟨cs,fb⟩:=μ
 have s0:=hS.more (o:=.dK []) hp
 have e0:=hE.more (o:=.dK []) hp
 refine⟨_,S,env,x,S1,s0,e0,h1,λv1 H1 μ1 e1 s1 r1=>⟨μ1,S1,env,y,S2,s1,e0.mono e1,h2,λw H2 μ2 e2 s2 r2=>?_⟩⟩
 have r1':=r1.mono e2
 obtain⟨b,rfl,ka⟩:=rf r1' hk
 have rb:Rep X.K μ2 H2 (.ref b) (IU k):=by rw[<- Ep hk];exact r1'
 obtain⟨eF,sF,hF⟩:=Ext.shutT (vs:=[(k,b,w)]) (ks:=[k]) (ds:=[y]) hp (hS.notMem hp).2 (e1.trans e2) s2 rfl (.cons rb .nil) (.cons r2 .nil)
 exact⟨hF,b,k,w,rfl,ka,post _ _ _ eF sF (.ref (by rw[<- s2.len];simp))⟩
end
section
variable{X:Cx}{K:QF}{μ μ':Fp}{H H':Hp}{S:aa}
def sO(o:ME):ME:=λenv S=>(o env S).bind λp=>match p.1 with
 | .ref r=>match p.2[r]? with
  | some (.lst xs)=>U (.non,p.2.set r (.lst xs.reverse))
  | _=>Y
 | _=>Y
theorem Wo{apos cpos:Pos}(ho:DE X o mo)(hbase:attributeBase o "reverse" X.env (eval o X.env)=eval o X.env)(hline:(apos.endLine==cpos.line)=true):DE X (.Call (.Attribute o "reverse" apos) [] [] cpos) (sO mo):=
 PE.imp (Ui (X:=X) F.plainAttrs_list abH F.type_list_reverse CO ho hbase hline) λσ H Q z0=>by
  obtain⟨μ,S,env,d,S',hS,hE,h,post⟩:=z0
  obtain⟨⟨x,S1⟩,h1,h⟩:=Xc.mp h
  dsimp only at h
  split at h
  ·rename_i r
   split at h
   ·rename_i xs q
    cases h
    refine⟨μ,S,env,_,_,hS,hE,h1,λv H1 μ1 e1 s1 r1=>?_⟩
    cases r1 with
    | @ref a _ h'=>
     obtain⟨ws,hw,rw'⟩:=s1.cell r a _ h' q
     obtain⟨e,s'⟩:=s1.write h' hw rw'.reverse
     exact⟨.inl ⟨rfl,ws,.inl (.inl hw)⟩,a,ws,rfl,rfl,hw,post _ _ μ1 (e1.trans e) s' .non⟩
   ·cases h
  ·cases h
end
end M
namespace L2
section
variable{X:Cx}{k:Nat}{x:Str}{p cpos pos:Pos}{e ce:tx}{es:List tx}{t:TA}
def PThr(X:Cx)(ce:tx)(tc:XK->TE):Prop:=∀ (pins:List (td×Obj)) (s:gV) (σ:St) (H:Hp) (E:XK) (Q:VK),Inv X pins σ H s->tc E σ H Q->Qs (model X.prog X.w) X.A (eval ce X.env) (EP X pins σ Q) (λe s'=>X.xe e s'\/WP X pins σ E e s') s
theorem Kk(F:FnOk X.prog X.w X.K X.mg X.base (ll X.prog X.w) k f fd ps sp)(hr:Room k X.A)(hg:Gl X x)(hm:X.mg x=U (.ref f))(hk:W.keepIn X.K (.ref f)=true)(hb:Binds X.K fd ps ds)(hd:Vals dvs ds)
  (ha:PA X (e::es) t) (hdb:(x==("__debug__":Str))=false) (he:KZ (e::es) X.env=(false,eval e X.env)::KZ es X.env) (hpl:(backTo cpos (KZ es X.env)).any (·.1)=false) :
  PThr X (.Call (.Name x p) (e::es) [] cpos) (λE=>zq sp dvs E t):=by
 intro pins s σ H E Q I h
 refine YF (oR I hg hm ?_ hdb)
 refine abm (h₀:=X.base) I.ok.mod.kin hk (XQ (ha cpos pins s σ H _ I h) (λus s1 ⟨vs,H1,I1,r,q⟩=>⟨I1.kIn,?_⟩) λv s' z=>.inl z) he hpl
 have r2:Vals (vs++dvs) (us++ds):=r.append hd
 have hl:(us++ds).length=ps.length:=by rw[<- r2.length];exact F.len _ _ _ _ q
 refine aaZ (Zl (F.run X.A X.stack s1 H1 ⟨us,[]⟩ (us++ds) (vs++dvs) Q E hr I1.env0 (hb s1 us I1.kIn hl) r2 q) λr s' hq=>?_)
 match r,hq with
 | .error v,hq=>exact .inr ⟨H1,s1,I1,hq⟩
 | .ok (.ret u),hq=>exact I1.after hq
theorem pc_if(hc:PT X c tc)(ha:PThr X a ta)(hb:PThr X b tb):PThr X (.IfExp c a b pos) (λE σ H Q=>tc σ H λk H1=>if k=true then ta E σ H1 Q else tb E σ H1 Q):=by
 intro pins s σ H E Q I h
 refine wpAny_IfExp (XQ (hc pins s σ H _ I h) (λd s1 ⟨H1,I1,q1⟩=>?_) λv s' z=>.inl z)
 cases d with
 | true=>exact ha pins s1 σ H1 E Q I1 q1
 | false=>exact hb pins s1 σ H1 E Q I1 q1
theorem Pu(hc:CallR X (.type T) r)(hg:Gl X x)(hm:X.mg x=Y)(hv:bootBuiltins x=U (.type T))(ha:PThr X ce tc)(hn:x≠"__name__")(hdb:(x==("__debug__":Str))=false)
  (he:KZ [ce] X.env=(false,eval ce X.env)::KZ [] X.env):PThr X (.Call (.Name x p) [ce] [] pos) (λE σ H Q=>tc E σ H λv H1=>r [v] H1 Q):=by
 intro pins s σ H E Q I h
 refine YF (nJ I hg hm hv ?_ hn hdb)
 refine YD (spliced_more (XQ (ha pins s σ H E _ I h) (λu s1 ⟨v,H1,I1,rv,q1⟩=>spliced_none ?_) λ_ _ z=>z) he) he rfl
 exact XQ (hc pins s1 σ H1 [v] [u] Q I1 (.cons rv .nil) q1) (λ_ _ z=>z) λ_ _ z=>.inl z
theorem Pg(hC:PThr X ce tc)(hs:X.stack=X.env::X.outer)(hfm:X.env.frame=U X.env.locals)(hex:X.ex=[])
  (hxe:∀ e' s',Qs (model X.prog X.w) X.A (leaving X.env e') (λ_ s''=>ll X.prog X.w X.outer X.H₀ X.s₀ E e' s'') (λ_ _=>False) s'->X.xe e' s'):PS X (.Return (U ce) pos) (λD σ H=>tc E σ H λv H1=>D.rt v H1):=by
 intro pins s σ H D I h
 refine wpAny_Return_some (XQ (hC pins s σ H E _ I h) (λv s1 ⟨x,H1,I1,r1,q1⟩=>⟨x,σ,H1,I1,r1,q1⟩) λe' s' z=>?_)
 rcases z with z | ⟨H1,s1,I1,fl⟩
 ·exact z
 ·exact hxe _ _ (Bj hs hfm hex I1 fl)
theorem Pe{y:Str}{pos pa:Pos}{i j:Nat}{n:Str}{b₀:He}{suite:List He}(hC:PThr X ce tc)(hxe:∀ v s',X.xe v s'->False)
  (hG:ux X.K G bmG) (hbG:bmG.contains (.type "BaseException")=true) (hg:Gl X g) (hm:X.mg g=U (.ref G)) (hN:X.N.Nodup) (hi:X.N[i]?=U n) (hk:X.env.scope.names.lookup n=U .local)
  (hj:X.N[j]?=U y) (hy:Gi X.env.scope y) (hf:X.fn y=true\/X.env.scope.names.lookup y=U .local)
  (hS:∀ v,PSs (X.suite v λ_ _=>False) (b₀::suite) ts) (hs:X.stack=X.env::X.outer) (hfm:X.env.frame=U X.env.locals) (hex:X.ex=[]) (hd:(g==("__debug__":Str))=false)
  (hsw:swapsWith ce (U (.Name y py)) pa.line X.env=pure false) :
  PS X (.Try [.Assign [.Name y py] ce pa] [.ExceptHandler (U (.Name g gp)) (U n) (b₀::suite) hp] [] [] pos) (λD σ H=>tc (exAs X G i ts D σ) σ H λv H1=>D.nx (σ.set j (U v)) H1):=by
 intro pins s σ H D I h
 refine wpAny_Try_except (aay (wpAny_Assign_Name (XQ (hC pins s σ H _ _ I h) (λv s1 hq=>?_) λe' s' hq=>?_) hsw))
 ·obtain⟨w,H1,I1,rw',q1⟩:=hq
  exact gN I1 hN hj hy rw' (λs2 I2=>Zn (Zn ⟨_,H1,I2,q1⟩)) hf
 ·rcases hq with hq | ⟨H1,s1,I1,fl⟩
  ·exact(hxe _ _ hq).elim
  refine Ds hs hfm hex I1 fl λs'' a T C dx H' ea I2 na q L=>?_
  subst ea
  obtain⟨C',bm,eC,hC,hin,hts⟩:=q
  cases eC
  exact HK I2 L hC hG hin hbG hg hm hN hi hk hS (hts a na) hd
end
end L2
namespace M
open L2
section
variable{X:Cx}{K:QF}{μ μ':Fp}{H H':Hp}{S S':aa}{C:td}{fl:Str}{E:XK}{pos:Pos}
noncomputable abbrev MC:=aE->aa->Option RY
def PostR(K:QF)(C:td)(fl:Str)(E:XK)(μ:Fp)(H:Hp)(Q:VK):RY->Prop
 | .val d S'=>Post K μ H S' d Q
 | .xc i S'=>PostX K C fl μ H S' i E
theorem PostR.ext(e:Ext μ H μ' H')(p:PostR K C fl E μ H Q r):PostR K C fl E μ' H' Q r:=by
 cases r with
 | val d S=>exact Post.ext e p
 | xc i S=>exact PostX.ext (fl:=fl) (i:=i) e p
inductive tR(K:QF)(C:td)(fl:Str)(m:MC)(E:XK)(σ:L2.St)(H:Hp)(Q:VK):Prop
 | mk (μ:Fp) (S:aa) (env:aE) (r:RY) (hS:SOk K μ S H) (hE:EOk K μ H σ env) (h:m env S=U r) (post:PostR K C fl E μ H Q r)
def DC(X:Cx)(C:td)(fl:Str)(ce:tx)(m:MC):Prop:=PThr X ce (tR X.K C fl m)
theorem PThr.imp{t':XK->TE}(h:PThr X ce t)(f:∀ E σ H Q,t' E σ H Q->t E σ H Q):PThr X ce t':=λpins s σ H E Q I q=>h pins s σ H E Q I (f E σ H Q q)
def oM(m:MC)(C:td)(fl:Str)(i j v:Nat):MS:=λenv S=>(m env S).bind λr=>match r with
 | .val d S'=>U (.nx (env.set v (U d)) S')
 | .xc q S'=>U (.nx (((env.set i (U (.exc C))).set j (U (.exc C))).set i Y) S')
theorem QU{i j v:Nat}{nm y yv:Str}{pa pav pos:Pos}(hC:DC X C fl ce m)(hxe:∀ v s',X.xe v s'->False)
  (hG:BM X.K X.mg g C) (hg:Gl X g) (hN:X.N.Nodup) (hi:X.N[i]?=U nm) (hk:X.env.scope.names.lookup nm=U .local) (hj:X.N[j]?=U y) (hy:X.env.scope.names.lookup y=U .local)
  (hv:X.N[v]?=U yv) (hyv:X.env.scope.names.lookup yv=U .local)
  (hs:X.stack=X.env::X.outer) (hfm:X.env.frame=U X.env.locals) (hex:X.ex=[])
  (hd:(g==("__debug__":Str))=false) (nd:(nm==("__debug__":Str))=false) (nc:(nm==("__classdict__":Str))=false)
  (hsw:swapsWith ce (U (.Name yv pyv)) pav.line X.env=pure false) :
  DS X (.Try [.Assign [.Name yv pyv] ce pav] [.ExceptHandler (U (.Name g gp)) (U nm) [.Assign [.Name y py] (.Name nm pn) pa] hp] [] [] pos) (oM m C fl i j v):=by
 obtain⟨G,bm,bmG,hmg,hCC,hGG,hin,hbG⟩:=hG
 intro pins s σ H D I h
 refine Pe hC hxe hGG hbG hg hmg hN hi hk hv (.inl hyv) (.inr hyv) (λv=>show PSs (X.suite v λ_ _=>False) _ (Tv X.K (ay (af i) (ag j))) from M.FO (M.yG (X:=X.suite v λ_ _=>False) (i:=j) (pos:=pa) hN hj (.inl hy) (M.Nz (i:=i) hi (.inl hk) nd nc) rfl (.inr hy))) hs hfm hex hd hsw pins s σ H D I ?_
 have hl:σ.length=X.N.length:=I.len
 have hil:i<X.N.length:=(Xe.mp hi).1
 obtain⟨μ,S,env,o,hS,hE,hm,post⟩:=h
 have hel:i<env.length:=by rw[<- hE.length,hl];exact hil
 obtain⟨r,h1,hm⟩:=Xc.mp hm
 refine⟨μ,S,env,r,hS,hE,h1,?_⟩
 cases r with
 | val d S2=>cases hm;exact λw H2 μ2 e2 s2 r2=>post _ H2 μ2 e2 s2 ((hE.mono e2).set r2 v)
 | xc q S2=>
  cases hm
  refine λH2 μ2 e2 s2=>⟨C,bm,rfl,hCC,hin,λb nb=>?_⟩
  obtain⟨e4,s4⟩:=s2.laid (o:=.ext (pk b C Y)) nb
  have eT:=e2.trans e4
  have rp:Rep X.K μ2 (upd H2 b (.ext (pk b C Y))) (.ref b) (.exc C):=.exc aV (s2.notMem nb)
  have hE4:=(hE.mono eT).set rp i
  refine⟨μ2,S2,_,.nx ((env.set i (U (.exc C))).set j (U (.exc C))) S2,s4,hE4,?_,λσ' H' μ' e s r=>?_⟩
  ·show((af i) _ _).bind _=_
   unfold af
   rw[XF hel]
   rfl
  ·exact post _ H' μ' (eT.trans e) s (r.unset i)
def iE(n:Nat)(fy:List D->aa->Option RY)(ms:MA):MC:=λenv S=>(ms env S).bind λp=>if p.1.length=n then fy p.1 p.2 else Y
theorem NM{k:Nat}{e:tx}{es:List tx}(F:FnY X.prog X.w X.K X.mg X.base k f n fy C fl)(hr:Room k X.A)(hg:Gl X f)(ha:DA X (e::es) ms)
  (hd:(f==("__debug__":Str))=false) (he:KZ (e::es) X.env=(false,eval e X.env)::KZ es X.env) (hpl:(backTo cpos (KZ es X.env)).any (·.1)=false):DC X C fl (.Call (.Name f p) (e::es) [] cpos) (iE n fy ms):=by
 obtain⟨a,fd,ps,hn,F,hm,hkp,hb⟩:=F.ex
 refine PThr.imp (Kk F hr hg hm hkp hb .nil ha hd he hpl) λE σ H Q ⟨μ,S,env,r,hS,hE,hm,post⟩=>?_
 obtain⟨⟨xs,S1⟩,h1,hm⟩:=Xc.mp hm
 dsimp only at hm
 split at hm
 ·rename_i hx
  refine⟨μ,S,env,xs,S1,hS,hE,h1,λvs H1 μ1 e1 s1 r1=>?_⟩
  rw[XW]
  refine⟨μ1,S1,xs,r,s1,r1,hx,hm,?_⟩
  cases r with
  | val d S2=>exact Post.ext e1 post
  | xc q S2=>exact PostX.ext (fl:=fl) (i:=q) e1 post
 ·cases hm
def Hq(t:MT)(a b:MC):MC:=λenv S=>(t env S).bind λp=>if p.1=true then a env p.2 else b env p.2
theorem dc_if{mt:MT}(hc:DT X c mt)(ha:DC X C fl a ma)(hb:DC X C fl b mb):DC X C fl (.IfExp c a b pos) (Hq mt ma mb):=
 PThr.imp (pc_if hc ha hb) λE σ H Q z0=>by
  obtain⟨μ,S,env,r,hS,hE,hm,post⟩:=z0
  obtain⟨⟨k,S1⟩,h1,hm⟩:=Xc.mp hm
  refine⟨μ,S,env,k,S1,hS,hE,h1,λH1 μ1 e1 s1=>?_⟩
  cases k with
  | true=>rw[Xq rfl] at hm ⊢;exact⟨μ1,S1,env,r,s1,hE.mono e1,hm,post.ext e1⟩
  | false=>rw[if_neg Sn] at hm ⊢;exact⟨μ1,S1,env,r,s1,hE.mono e1,hm,post.ext e1⟩
def KQ(f:List D->aa->Option (D×aa))(m:MC):MC:=λenv S=>(m env S).bind λr=>match r with
 | .val d S'=>(f [d] S').bind λz=>U (.val z.1 z.2)
 | .xc i S'=>U (.xc i S')
theorem Ry(hc:CallR X (.type T) (GJ X.K f))(hm:X.mg x=Y)(hg:Gl X x)(hv:bootBuiltins x=U (.type T))(ha:DC X C fl ce m)(hn:x≠"__name__")(hdb:(x==("__debug__":Str))=false)
  (he:KZ [ce] X.env=(false,eval ce X.env)::KZ [] X.env):DC X C fl (.Call (.Name x p) [ce] [] pos) (KQ f m):=
 PThr.imp (Pu hc hg hm hv ha hn hdb he) λE σ H Q z0=>by
  obtain⟨μ,S,env,r,hS,hE,hm,post⟩:=z0
  obtain⟨r1,h1,hm⟩:=Xc.mp hm
  refine⟨μ,S,env,r1,hS,hE,h1,?_⟩
  cases r1 with
  | val d S1=>
   obtain⟨⟨z,S2⟩,h2,hm⟩:=Xc.mp hm
   cases hm
   exact λv H1 μ1 e1 s1 rv=>⟨μ1,S1,[d],z,S2,s1,.cons rv .nil,h2,Post.ext e1 post⟩
  | xc i S1=>cases hm;exact post
def An(m:MC):MY:=λenv S=>(m env S).bind λr=>match r with
 | .val d S'=>U (.ok (.rt d S'))
 | .xc i S'=>U (.xc i S')
theorem QQ(hC:DC X C fl ce m)(O:WN X E):DY X C fl E (.Return (U ce) pos) (An m):=
 PS.imp (Pg hC O.hs O.hfm O.hex O.hxe) λD σ H z0=>by
  obtain⟨μ,S,env,o,hS,hE,hm,post⟩:=z0
  obtain⟨r,h1,hm⟩:=Xc.mp hm
  refine⟨μ,S,env,r,hS,hE,h1,?_⟩
  cases r with
  | val d S1=>cases hm;exact post
  | xc i S1=>cases hm;exact post
def dS(t:MT)(body:MY):Nat->aE->aa->Option BK
 | 0,_,_=>Y
 | f+1,env,S=>(t env S).bind λp=>if p.1=true then(body env p.2).bind λo=>match o with
   | .ok (.nx e s)=>dS t body f e s
   | .ok (.ct e s)=>dS t body f e s
   | .ok (.bk e s)=>U (.ok (.nx e s))
   | .ok (.rt d s)=>U (.ok (.rt d s))
   | .xc i s=>U (.xc i s)
  else U (.ok (.nx env p.2))
def jc(t:MT)(body:MY):MY:=dS t body 5000
theorem MZ(hp:PassesOwn (model X.prog X.w) X.A X.env X.xe)(hc:DT X c t)(hb:Oi X C fl E body mb):DY X C fl E (.While c body [] pos) (jc t mb):=PS.imp (zI hp hc hb) λD σ H z0=>by
 obtain⟨μ,S,env,o,hS,hE,hm,post⟩:=z0
 refine⟨λn σ' H'=>∃ μ' S' env' o',Ext μ H μ' H'/\SOk X.K μ' S' H'/\EOk X.K μ' H' σ' env'/\dS t mb n env' S'=U o'/\PostY X.K C fl E μ' H' o' D,⟨5000,μ,S,env,o,hS.ext,hS,hE,hm,post⟩,?_⟩
 rintro n σ' H' ⟨μ',S',env',o',e',s',r',hl,post'⟩
 cases n with
 | zero=>cases hl
 | succ n=>
  obtain⟨⟨b,S1⟩,h1,hl⟩:=Xc.mp hl
  refine⟨μ',S',env',b,S1,s',r',h1,λH2 μ2 e2 s2=>?_⟩
  have eT:Ext μ H μ2 H2:=e'.trans e2
  have pT:PostY X.K C fl E μ2 H2 o' D:=post'.ext e2
  cases b with
  | false=>cases hl;dsimp only;rw[if_neg Sn];exact pT σ' H2 μ2 s2.ext s2 (r'.mono e2)
  | true=>
   dsimp only
   rw[Xq rfl]
   obtain⟨o4,h4,hl⟩:=Xc.mp hl
   refine⟨λσ2 H2=>∃ μ2 S2 env2 o2,Ext μ H μ2 H2/\SOk X.K μ2 S2 H2/\EOk X.K μ2 H2 σ2 env2/\dS t mb n env2 S2=U o2/\PostY X.K C fl E μ2 H2 o2 D,λσ2 H2 ⟨μ2,S2,env2,o2,q1,q2,q3,q4,q5⟩=>⟨n,by omega,μ2,S2,env2,o2,q1,q2,q3,q4,q5⟩,?_⟩
   refine⟨μ2,S1,env',o4,s2,r'.mono e2,h4,?_⟩
   match o4,hl with
   | .ok (.nx e5 s5),hl=>exact λσ6 H6 μ6 e6 s6 r6=>⟨μ6,s5,e5,o',eT.trans e6,s6,r6,hl,pT.ext e6⟩
   | .ok (.ct e5 s5),hl=>exact λσ6 H6 μ6 e6 s6 r6=>⟨μ6,s5,e5,o',eT.trans e6,s6,r6,hl,pT.ext e6⟩
   | .ok (.bk e5 s5),hl=>cases hl;exact pT
   | .ok (.rt d5 s5),hl=>cases hl;exact pT
   | .xc i5 s5,hl=>cases hl;exact pT
end
end M
namespace HT
open PySem.W
section
variable{prog:vx}{w:Gs}{A:IN}{E:bd->gV->Prop}{s:gV}{d it:td}{es:Array DictEntry}{ep i:Nat}
def RawD(h:Jq)(d:td)(es:Array DictEntry)(ep:Nat):Prop:=∃ o,h.get? d=U o/\o.ExactDict/\o.data=.dict es ep
theorem RawD.ty(x:RawD s.heap d es ep):s.TypeIs (.ref d) "dict":=let ⟨o,ho,hc,_⟩:=x;⟨o,ho,hc.1⟩
theorem RawD.at{h':Jq}(x:RawD h d es ep)(e:∀ o,h.get? d=U o->h'.get? d=U o):RawD h' d es ep:=let ⟨o,ho,r⟩:=x;⟨o,e _ ho,r⟩
theorem JN{Q:bd->gV->Prop}(hd:(d==sysModules)=false)(hm:RawD s.heap d es ep)
  (hQ:Q (.ref s.heap.objs.size) { s with heap:=s.heap.push { cls:=.type "dict_keyiterator",data:=.fields #[.ref d,.int 0 0,.int es.size 0,.int ep 0] } }) :
  Qs (model prog w) A (pyIter (.ref d)) Q E s:=by
 obtain⟨o,ho,hc,hdat⟩:=id hm
 have hT:=hm.ty
 refine wpAny_pyIter_slot hT F.slot_dict_iter (Yu F.slot_dict_iter hT F.entry_dict_iter ?_ (F.args_dict_iter_1 _))
 unfold Builtin.«dict.__iter__»
 refine Xd ?_
 unfold Builtin.Dict.dictSlotNone
 refine Xd (wpAny_notOrdered_dict hT ?_)
 show Qs _ _ (pure (Value.ref d)) _ _ s
 refine Xj ?_
 show Qs _ _ (Builtin.Dict.showsAll d >>= _) _ _ s
 unfold Builtin.Dict.showsAll
 rw[if_neg (by rw[hd];exact Sn)]
 refine Xd (Xj ?_)
 refine Xd (aan ho hdat ?_)
 refine Xd (aaK ho hdat ?_)
 refine Xd (XI (Xj ⟨_,rfl,"dict_keyiterator",_,⟨_,Xr _ rfl,rfl⟩,F.slot_dict_keyiterator_next.lookup,?_⟩))
 simpa[rawInt] using hQ
theorem JO{Q:Option bd->gV->Prop}(hit:s.heap.IsKeyIter it d i es.size ep)(hm:RawD s.heap d es ep)(hlt:i<es.size)
  (hQ:∀ h',h'.IsKeyIter it d (i+1) es.size ep->Heap.SameBut it s.heap h'->Q (U es[i].key) { s with heap:=h' }):Qs (model prog w) A (pyNext (.ref it)) Q E s:=by
 obtain⟨o,ho,hc,hd⟩:=id hit
 obtain⟨od,hod,hcd,hdd⟩:=id hm
 unfold pyNext
 refine Xd (Zw (Yg (name:=Str.ofString "__next__") hit.typeIs Zb
  (Yu Zb hit.typeIs aaD ?_ (aaw _))))
 refine Xd (Xj ?_)
 refine Xd ?_
 refine Xd ?_
 first | refine Xd (YW hit.typeIs (Xj ?_)) | refine Xd (Zk hit.typeIs (Xj ?_))
 refine Xd (wpAny_fieldsOf ho hd ?_)
 have hown:Builtin.Dict_items.ownsTuple "dict_keyiterator" = false:=by decide
 simp only[hown,XR,YG]
 show Qs _ _ (if (Value.ref d==Value.none)=true then _ else _) _ _ s
 rw[if_neg (show ¬ ((Value.ref d==Value.none)=true) from Sn)]
 refine Xd (Xj ?_)
 refine Xd (aan hod hdd ?_)
 rw[if_neg (by simp)]
 refine Xd (Xj ?_)
 refine Xd (aaK hod hdd ?_)
 rw[if_neg (by simp)]
 refine Xj ?_
 simp only[show ¬ ((i:Int)<0) from by omega,YG,YB,Array.getElem?_eq_getElem hlt]
 refine Xd ?_
 first | refine Xd (YW hit.typeIs (Xj ?_)) | refine Xd (Zk hit.typeIs (Xj ?_))
 refine Xd (abi hit.typeIs ?_)
 show Qs _ _ (setField (.ref it) 1 (rawInt ((i:Int)+1)) >>= _) _ _ s
 refine Xd (Yb ho hd (by simp) ?_)
 have hit':(s.heap.update it (Obj.mapFields (·.setIfInBounds 1 (rawInt ((i:Int)+1))))).IsKeyIter it d (i+1) es.size ep:=
  ⟨_,XG _ ho (YH (Yt hd _)),(Obj.cls_mapFields ..).trans hc,by rw[Yt hd];simp[rawInt]⟩
 refine Xd (Yx ?_)
 refine Xd (abi (s:={ s with heap:=s.heap.update it (Obj.mapFields (·.setIfInBounds 1 (rawInt ((i:Int)+1)))) }) hit'.typeIs ?_)
 exact Xj (Xj ⟨_,rfl,Xj (hQ _ hit' (Yk ..))⟩)
theorem OT{Q:Option bd->gV->Prop}(hh:A.handled=Y)(hit:s.heap.IsKeyIter it d es.size es.size ep)(hm:RawD s.heap d es ep)
  (hQ:∀ h',Heap.ExtBut it s.heap h'->Q Y { s with heap:=h' }):Qs (model prog w) A (pyNext (.ref it)) Q E s:=by
 obtain⟨o,ho,hc,hd⟩:=id hit
 obtain⟨od,hod,hcd,hdd⟩:=id hm
 unfold pyNext
 refine Xd (Zw (Yg (name:=Str.ofString "__next__") hit.typeIs Zb
  (Yu Zb hit.typeIs aaD ?_ (aaw _))))
 refine Xd (Xj ?_)
 refine Xd ?_
 refine Xd ?_
 first | refine Xd (YW hit.typeIs (Xj ?_)) | refine Xd (Zk hit.typeIs (Xj ?_))
 refine Xd (wpAny_fieldsOf ho hd ?_)
 have hown:Builtin.Dict_items.ownsTuple "dict_keyiterator" = false:=by decide
 simp only[hown,XR,YG]
 show Qs _ _ (if (Value.ref d==Value.none)=true then _ else _) _ _ s
 rw[if_neg (show ¬ ((Value.ref d==Value.none)=true) from Sn)]
 refine Xd (Xj ?_)
 refine Xd (aan hod hdd ?_)
 rw[if_neg (by simp)]
 refine Xd (Xj ?_)
 refine Xd (aaK hod hdd ?_)
 rw[if_neg (by simp)]
 refine Xj ?_
 simp only[show ¬ ((es.size:Int)<0) from by omega,YG,YB,Array.getElem?_eq_none (Xm _)]
 refine Xd ?_
 first | refine Xd (YW hit.typeIs (Xj ?_)) | refine Xd (Zk hit.typeIs (Xj ?_))
 show Qs _ _ (setField (.ref it) 0 .none >>= _) _ _ s
 refine Xd (Yb ho hd (by simp) ?_)
 show Qs _ _ (newExc (.type "StopIteration") [] >>= _) _ _ _
 refine Xd ?_
 simp only[newExc,newTuple]
 refine Xd (XI ?_ (by size_fits))
 refine Xd (m:=firstArgMember _ _) (aaJ (a:=Value.none) (by first | rfl | (simp only[firstArgMember];rfl)) ?_)
 refine XI ?_ (by size_fits)
 simp only[raiseNew]
 refine Xd (wpAny_handled ?_)
 rw[show A.in1.handled=Y from hh]
 refine Xd (Xj (wpAny_throw ?_))
 refine Xd (aax (T:="StopIteration") (b:=true) ⟨_,Xr _ rfl,rfl⟩ isSubtype_stop ?_)
 exact Xj (hQ _ (((Yk ..).extBut.push _).push _))
theorem OS(lo:(d==sysModules)=false):KdlSrc prog w "dict" d d es.size (λi v=>∃ e,es[i]?=U e/\v=e.key) (λh=>RawD h d es ep) where
 type:=λ_ hm=>hm.ty
 there:=λ_ hm=>let ⟨_,ho,_⟩:=hm;⟨Xo ho,Xo ho⟩
 keep:=λ_ _ hm hk=>hm.at λo e=>hk d (.inl rfl) o e
 notList:=by decide
 notTuple:=by decide
 hint:=λ_ _ _ _ hm hq=>kdl_hint_dict hm.ty hq
 iter:=λA s hh hm=>⟨_,λi h=>h.IsKeyIter s.heap.objs.size d i es.size ep/\RawD h d es ep,(λ_ _ hq=>JN lo hm hq),
  {sub:=λb hb=>by simp at hb;simp[hb]
   frame:=λ_ _ _ st hk=>⟨st.1.at λo e=>hk _ (by simp) o e,st.2.at λo e=>hk d (by simp) o e⟩
   item:=λi s1 Q E hi st hQ=>JO st.1 st.2 hi λh' hit' hs'=>hQ _ h' s1.toks ⟨es[i],by simp[hi],rfl⟩ ⟨hit',st.2.at λo e=>hs'.extBut d o (XT (let ⟨_,ho,_⟩:=hm;Xo ho)) e⟩ λb o hb e=>hs'.extBut b o (λh=>hb (by simp[h])) e
   done:=λs1 Q E st hQ=>OT hh st.1 st.2 λh' he'=>hQ h' s1.toks λb o hb e=>he' b o (λh=>hb (by simp[h])) e
   self:=λ_ _ _ _ st hQ=>wpAny_pyIter_keyiter st.1 hQ },
  ⟨⟨_,Xr _ rfl,rfl,rfl⟩,hm.at λo e=>Xh _ e⟩⟩
end
end HT
namespace HT
open PySem.W
theorem qP(d:td)(es:Array DictEntry)(ep:Nat)(lo:(d==sysModules)=false)(hsz:es.size<=KY) :
  Meets (Builtin.«tuple.__new__» ⟨[.type "tuple",.ref d],[]⟩)
   (λA R s=>A.handled=Y/\RawD s.heap d es ep/\∀ (s':gV) (acc:Array bd),(∀ b o,s.heap.get? b=U o->s'.heap.get? b=U o)->s'.gens=s.gens->s'.drawn=s.drawn->s'.os=s.os->ItemsOf (λi v=>∃ e,es[i]?=U e/\v=e.key) acc es.size ->
    R (.ok (.ret (.ref s'.heap.objs.size))) { s' with heap:=s'.heap.push { cls:=.type "tuple",data:=.seq acc } }):=
 .of_wp λprog w A R s h=>by
  obtain⟨hh,hm,h⟩:=h
  have hsub:=sub_tuple_self
  have hinit:=init_tuple_lookup
  have hmh:=madeHere_tuple
  have hT:s.TypeIs (.ref d) "dict":=hm.ty
  have hh1:A.in1.handled=Y:=hh
  wp_walk using aar hT,kdu_collect (OS lo) hh1 hm hsz
  intro h' tk acc hk hacc
  show Qs _ _ (Builtin.Tuple.tupleExact acc.toList.toArray >>= λv=>ret v) _ _ _
  unfold Builtin.Tuple.tupleExact
  refine Xd (XI ?_ (show acc.toList.toArray.size<=KY by simp only[aby];rw[hacc.1];exact hsz))
  refine Xj ⟨_,rfl,?_⟩
  have e:acc.toList.toArray=acc:=by simp
  rw[e]
  exact h { s with heap:=h',toks:=tk } acc hk rfl rfl rfl hacc
theorem ui{A:IN}{s:gV}{d:td}{es:Array DictEntry}{Q:bd->gV->Prop}(hh:A.handled=Y)(lo:(d==sysModules)=false)(hsz:es.size<=KY)(hm:RawD s.heap d es ep)
  (h:∀ (h':Jq) (tk:Nat) (acc:Array bd),(∀ b o,s.heap.get? b=U o->h'.get? b=U o)->ItemsOf (λi v=>∃ e,es[i]?=U e/\v=e.key) acc es.size->Q (.ref h'.objs.size) { s with heap:=h'.push { cls:=.type "tuple",data:=.seq acc },toks:=tk }) :
  Qs (model prog w) A (call (.type "tuple") [.ref d]) Q E s:=by
 refine abl F.called_tuple (by decide) (F.typeCall_tuple_1 _) (F.newCall_tuple_1 _) (λobj=>abv obj _) F.entry_tuple_new
  (qP d es ep lo hsz) ⟨hh,hm,λs' acc hk hg hd hos hacc=>⟨⟨_,Xr _ rfl,rfl⟩,?_⟩⟩
 obtain⟨h',g',d',tk',os'⟩:=s'
 have e1:g'=s.gens:=hg
 have e2:d'=s.drawn:=hd
 have e3:os'=s.os:=hos
 subst e1 e2 e3
 exact h h' tk' acc hk hacc
end HT
namespace L2
section
variable{X:Cx}
theorem Fi{kvs:List (DK×td×V)}{xs:List (DK×td×bd)}(r:KA kvs xs):∀ {us:List bd},us.length=xs.length->(∀ (j:Nat) (v:bd),us[j]?=U v->∃ x,xs[j]?=U x/\v=.ref x.2.1)->Vals (kvs.map λq=>.ref q.2.1) us:=by
 induction r with
 | nil=>intro us hl h;rw[List.eq_nil_of_length_eq_zero hl];exact .nil
 | @cons p x kvs xs r t ih=>
  intro us hl h
  cases us with
  | nil=>cases hl
  | cons u us=>
   obtain⟨y,e,e2⟩:=h 0 u rfl
   cases e
   refine .cons ?_ (ih (abn hl) λj v e=>h (j+1) v (by simpa using e))
   rw[e2]
   show Value.ref _=Value.ref _
   rw[r.2.1]
theorem IB(hc:X.calm=true):CallR X (.type "tuple") (λxs H Q=>∃ p kvs,xs=[.ref p]/\H p=U (.dT kvs)/\∀ l,H l=Y->Q (.ref l) (upd H l (.tup (kvs.map λq=>.ref q.2.1)))):=by
 intro pins s σ H xs us Q I r h
 obtain⟨p,kvs,rfl,e,q⟩:=h
 obtain⟨u,rfl,rx⟩:=oq r
 cases rx
 obtain⟨z,lo,ys,ka,o,es,ep,h1,h2,h3,h4,_⟩:=(show ObjOk X.prog X.w H s.heap p (.dT kvs) from I.hok p _ e)
 have n1:=size_of_entries h4
 have n2:=aae ka
 refine HT.ui (I.ok.hd hc) lo (by omega) ⟨o,h1,h2,h3⟩ λh' tk acc hk hacc=>?_
 have rv:Vals (kvs.map λq=>.ref q.2.1) acc.toList:=Fi ka (by rw[ZB,hacc.1,n1]) λj v ej=>by
  obtain⟨en,e1,rfl⟩:=hacc.2 j v (by simpa using ej)
  rw[entry_at h4] at e1
  obtain⟨x,ex,rfl⟩:=YE.mp e1
  exact⟨x,ex,rfl⟩
 have I1:Inv X pins σ H { s with heap:=h',toks:=tk }:=I.kept (t':=tk) hk
 have I2:Inv X pins σ (upd H h'.objs.size (.tup (kvs.map λq=>.ref q.2.1))) { s with heap:=h'.push { cls:=.type "tuple",data:=.seq acc.toList.toArray },toks:=tk }:=
  I1.laid (t':=tk) (λb o e=>Xh _ e) (Xm _) (show ObjOk X.prog X.w _ _ _ (.tup (kvs.map λq=>.ref q.2.1)) from ⟨by rw[Xn];exact z,acc.toList,rv,IsTupN.new _ _⟩)
 rw[aby] at I2
 exact⟨.ref h'.objs.size,_,I2,rfl,q _ (I1.hok.fresh (Xm _))⟩
end
end L2
namespace M
open L2
section
variable{X:Cx}
def tP(S:aa):List D->Option D
 | [.ref r]=>match S[r]? with | some (.deep ks _)=>U (.tup (dkDs ks)) | _=>cD .tup S [.ref r]
 | ds=>cD .tup S ds
theorem IG(hc:X.calm=true):CallR X (.type "tuple") (GJ X.K (aI tP)):=λpins s σ H xs us Q I r z0=>by
 obtain⟨μ,S,ds,d,S',hS,hr,hm,post⟩:=z0
 obtain⟨e0,hm⟩:=dq hm
 subst e0
 unfold tP at hm
 split at hm
 ·split at hm
  ·rename_i i _ ks vs hc'
   cases hm
   obtain⟨v,rfl,rv⟩:=hr.one
   cases rv with
   | @ref a _ h'=>
    obtain⟨kvs,e,rfl,rk,_⟩:=hS.cell _ a _ h' hc'
    exact IB hc pins s σ H _ us Q I r ⟨a,kvs,rfl,e,λl hl=>post.tup hS hl rk⟩
  ·exact nY pins s σ H xs us Q I r ⟨μ,_,_,d,_,hS,hr,by unfold aI;rw[hm];rfl,post⟩
 ·exact nY pins s σ H xs us Q I r ⟨μ,_,_,d,_,hS,hr,by unfold aI;rw[hm];rfl,post⟩
end
end M
set_option hygiene false
local macro_rules|`($c:char)=>do let q:=Lean.quote (c.getChar.toNat%48);if c.getChar.toNat<96 then `(MI.af $q) else `(MI.ag $q)
local macro_rules|`($c:scientific)=>`(MI.mC (.int $(Lean.quote c.getScientific.1)))
local macro_rules|`(!$s:str)=>`(MI.mC (.str $s))
local macro_rules|`(tactic|simp![$l,*])=>`(tactic|simp only[ob,aj,ak,bG,oj,bK,bJ,av,aq,am,al,bq,aQ,ax,aw,eR,aM,fj,aF,aK,bg,bh,bx,aA,bf,bw,be,aP,aX,bu,ba,bA,de,bY,bW,bE,$l,*])
set_option hygiene true
namespace MI
open L2 M
@[irreducible] noncomputable def dW(a b:ME):ME:=M.dW a b
theorem vR:dW a b=M.dW a b:=by unfold dW;rfl
@[irreducible] noncomputable def gP(o i:ME):MG:=M.gP o i
theorem Bd:gP o i=M.gP o i:=by unfold gP;rfl
@[irreducible] noncomputable def sO(o:ME):ME:=M.sO o
theorem PY:sO o=M.sO o:=by unfold sO;rfl
@[irreducible] noncomputable def mC(d:D):ME:=M.mC d
theorem sS{d:D}:mC d=M.mC d:=by unfold mC;rfl
@[irreducible] noncomputable def af(i:Nat):ME:=M.af i
theorem rA:af i=M.af i:=by unfold af;rfl
@[irreducible] noncomputable def aH(f:aa->D->D->Option D)(a b:ME):ME:=M.aH f a b
theorem gL:aH f a b=M.aH f a b:=by unfold aH;rfl
@[irreducible] noncomputable def az(m:ME):MT:=M.az m
theorem Ap:az m=M.az m:=by unfold az;rfl
@[irreducible] noncomputable def cP(m:ME):MT:=M.cP m
theorem xS:cP m=M.cP m:=by unfold cP;rfl
@[irreducible] noncomputable def eU(a b:MT):MT:=M.eU a b
theorem sT:eU a b=M.eU a b:=by unfold eU;rfl
@[irreducible] noncomputable def fP(a b:MT):MT:=M.fP a b
theorem xT:fP a b=M.fP a b:=by unfold fP;rfl
@[irreducible] noncomputable def fF(a:MT):MT:=M.fF a
theorem As:fF a=M.fF a:=by unfold fF;rfl
@[irreducible] noncomputable def iG(a b:ME):ME:=M.Lh a b
theorem Fe:iG a b=M.Lh a b:=by unfold iG;rfl
@[irreducible] noncomputable def Ho(a b:ME):ME:=M.UF a b
theorem KT:Ho a b=M.UF a b:=by unfold Ho;rfl
@[irreducible] noncomputable def lh(a:ME):ME:=M.KW a
theorem Ar:lh a=M.KW a:=by unfold lh;rfl
@[irreducible] noncomputable def sQ(t:MT)(a b:ME):ME:=M.sQ t a b
theorem Lb:sQ t a b=M.sQ t a b:=by unfold sQ;rfl
@[irreducible] noncomputable def ai:MA:=M.ai 
theorem xV  : ai  = M.ai  := by unfold ai;rfl
@[irreducible] noncomputable def ac(a:ME)(r:MA):MA:=M.ac a r
theorem AD:ac a r=M.ac a r:=by unfold ac;rfl
@[irreducible] noncomputable def bj(ms:MA):ME:=M.bj ms
theorem ET:bj ms=M.bj ms:=by unfold bj;rfl
@[irreducible] noncomputable def fR(ms:MA):ME:=M.fR ms
theorem EZ:fR ms=M.fR ms:=by unfold fR;rfl
@[irreducible] noncomputable def cQ(ms:MA):ME:=M.cQ ms
theorem Av:cQ ms=M.cQ ms:=by unfold cQ;rfl
@[irreducible] noncomputable def ES(f:aa->D->Option D)(a:ME):ME:=M.ES f a
theorem KP:ES f a=M.ES f a:=by unfold ES;rfl
@[irreducible] noncomputable def cA:MO:=M.cA 
theorem vO  : cA  = M.cA  := by unfold cA;rfl
@[irreducible] noncomputable def dB(m:ME):MO:=M.dB m
theorem Aq:dB m=M.dB m:=by unfold dB;rfl
@[irreducible] noncomputable def cn(a:ME)(lo hi:MO):ME:=M.cn a lo hi
theorem vN{lo:MO}:cn a lo hi=M.cn a lo hi:=by unfold cn;rfl
@[irreducible] noncomputable def bo(f:List D->aa->Option (D×aa))(ms:MA):ME:=M.bo f ms
theorem gO:bo f ms=M.bo f ms:=by unfold bo;rfl
@[irreducible] noncomputable def fg(T:String)(m:ME):ME:=M.fg T m
theorem Fa:fg T m=M.fg T m:=by unfold fg;rfl
@[irreducible] noncomputable def ao(n:Nat)(f:List D->aa->Option (D×aa))(ms:MA):ME:=M.ao n f ms
theorem pV:ao n f ms=M.ao n f ms:=by unfold ao;rfl
@[irreducible] noncomputable def aU:MS:=M.aU 
theorem lH  : aU  = M.aU  := by unfold aU;rfl
@[irreducible] noncomputable def aB(a b:MS):MS:=M.aB a b
theorem EU:aB a b=M.aB a b:=by unfold aB;rfl
@[irreducible] noncomputable def bn(m:ME):MS:=M.bn m
theorem EV:bn m=M.bn m:=by unfold bn;rfl
@[irreducible] noncomputable def cR(m:ME):MS:=M.cR m
theorem Az:cR m=M.cR m:=by unfold cR;rfl
@[irreducible] noncomputable def bN(t:MT)(a b:MS):MS:=M.bN t a b
theorem Fb:bN t a b=M.bN t a b:=by unfold bN;rfl
@[irreducible] noncomputable def ag(i:Nat):MG:=M.ag i
theorem mD:ag i=M.ag i:=by unfold ag;rfl
@[irreducible] noncomputable def aY:uw:=M.aY 
theorem Bf  : aY  = M.aY  := by unfold aY;rfl
@[irreducible] noncomputable def ah(g:MG)(gs:uw):uw:=M.ah g gs
theorem we:ah g gs=M.ah g gs:=by unfold ah;rfl
@[irreducible] noncomputable def bi(n:Nat)(gs:uw):MG:=M.bi n gs
theorem jM:bi n gs=M.bi n gs:=by unfold bi;rfl
@[irreducible] noncomputable def ge(o i:ME):MG:=M.ge o i
theorem Be:ge o i=M.ge o i:=by unfold ge;rfl
@[irreducible] noncomputable def ay(m:ME)(g:MG):MS:=M.ay m g
theorem ic:ay m g=M.ay m g:=by unfold ay;rfl
@[irreducible] noncomputable def cu(ms:MA):MA:=M.cu ms
theorem sP:cu ms=M.cu ms:=by unfold cu;rfl
@[irreducible] noncomputable def ls(mi:MA)(g:MG)(body:MS):MS:=M.ls mi g body
theorem Fc:ls mi g body=M.ls mi g body:=by unfold ls;rfl
@[irreducible] noncomputable def bV(mi:MA)(g:MG)(t:MT)(e:ME)(cap:List (Option Nat)):ME:=M.bV mi g t e cap
theorem sR:bV mi g t e cap=M.bV mi g t e cap:=by unfold bV;rfl
@[irreducible] noncomputable def dU(m:ME):MA:=M.dU m
theorem xX:dU m=M.dU m:=by unfold dU;rfl
@[irreducible] noncomputable def bU:MT:=M.bU 
theorem Ao  : bU  = M.bU  := by unfold bU;rfl
@[irreducible] noncomputable def cZ(f:MF)(o:ME)(ms:MA):ME:=M.cZ f o ms
theorem Au:cZ f o ms=M.cZ f o ms:=by unfold cZ;rfl
@[irreducible] noncomputable def hX(ms:MA):MA:=M.hX ms
theorem Ay:hX ms=M.hX ms:=by unfold hX;rfl
@[irreducible] noncomputable def lr(i j:Nat)(ms:MA):MS:=M.lr i j ms
theorem EW:lr i j ms=M.lr i j ms:=by unfold lr;rfl
@[irreducible] noncomputable def nH(ms:MA):MA:=M.nH ms
theorem EQ:nH ms=M.nH ms:=by unfold nH;rfl
@[irreducible] noncomputable def jf(ms:List (ME×ME)):ME:=M.jf ms
theorem AB:jf ms=M.jf ms:=by unfold jf;rfl
@[irreducible] noncomputable def gb(ms:List (ME×ME)):ME:=M.gb ms
theorem vS:gb ms=M.gb ms:=by unfold gb;rfl
@[irreducible] noncomputable def fZ(f:MF)(o:ME)(ms:MA):ME:=M.fZ f o ms
theorem vP:fZ f o ms=M.fZ f o ms:=by unfold fZ;rfl
@[irreducible] noncomputable def dC(m:ME)(g:MG)(body:MS):MS:=M.dC m g body
theorem Ax:dC m g body=M.dC m g body:=by unfold dC;rfl
@[irreducible] noncomputable def eO(t:MT)(body:MS):MS:=M.eO t body
theorem vL:eO t body=M.eO t body:=by unfold eO;rfl
@[irreducible] noncomputable def dI(l:List (bC×D))(a:ME):ME:=M.dI l a
theorem vM:dI l a=M.dI l a:=by unfold dI;rfl
@[irreducible] noncomputable def df(m:ME)(g:MG)(t:MT)(e:ME)(cap:List (Option Nat)):ME:=M.df m g t e cap
theorem pU:df m g t e cap=M.df m g t e cap:=by unfold df;rfl
@[irreducible] noncomputable def hZ(a b:ME):ME:=M.hZ a b
theorem AE:hZ a b=M.hZ a b:=by unfold hZ;rfl
@[irreducible] noncomputable def je(l:List (bC×Nat×(List D->aa->Option (D×aa))))(i:Nat)(mi:ME)(ms:MA):MS:=M.je l i mi ms
theorem AA:je l i mi ms=M.je l i mi ms:=by unfold je;rfl
theorem Df:ao 0 f ai=M.ao 0 f M.ai:=by rw[pV,xV]
theorem Db:az (aH f a b)=M.az (M.aH f a b):=by rw[Ap,gL]
theorem iF:ay m (ag i)=M.ay m (M.ag i):=by rw[ic,mD]
theorem AF:ay (bV mi g t e cap) (ag i)=M.ay (M.bV mi g t e cap) (M.ag i):=by rw[ic,mD,sR]
theorem xY:ay (df mi g t e cap) (ag i)=M.ay (M.df mi g t e cap) (M.ag i):=by rw[ic,mD,pU]
section
variable{X:Cx}{e:tx}{es:List tx}{s:He}{ss:List He}
theorem bM{m m':ME}(h:m=m')(d:DE X e m'):DE X e m:=by rw[h];exact d
theorem FZ{m m':MT}(h:m=m')(d:DT X e m'):DT X e m:=by rw[h];exact d
theorem FY{m m':MT}(h:m=m')(d:DW X e m'):DW X e m:=by rw[h];exact d
theorem Tb{m m':MA}(h:m=m')(d:DA X es m'):DA X es m:=by rw[h];exact d
theorem Ta{m m':MO}(h:m=m')(d:DO X o m'):DO X o m:=by rw[h];exact d
theorem wC{m m':MG}(h:m=m')(d:DG X e m'):DG X e m:=by rw[h];exact d
theorem NU{m m':uw}(h:m=m')(d:Xa X es m'):Xa X es m:=by rw[h];exact d
theorem BC{m m':MA}(h:m=m')(d:DI X tg e m'):DI X tg e m:=by rw[h];exact d
theorem WA{m m':MT}(h:m=m')(d:Oq X es m'):Oq X es m:=by rw[h];exact d
theorem gC{m m':MS}(h:m=m')(d:DS X s m'):DS X s m:=by rw[h];exact d
theorem DU{m m':MS}(h:m=m')(d:vj X ss m'):vj X ss m:=by rw[h];exact d
end
inductive GI where
 | fn (n:Nat) (f:List D->aa->Option (D×aa))
 | con (d:D)
 | blt
 | tab (l:List (bC×D))
 | ftab (l:List (bC×Nat×(List D->aa->Option (D×aa))))
 | thr (n:Nat) (fy:List D->aa->Option RY) (C:td) (fl:Str)
 | cls (C:td) (b:Bool)
 | hnd (C:td)
 | rse (C:td) (fl:Str)
structure CI where
 N:List Str
 sc:Scope
 all:Bool
 gs:List (Str×GI)
 mt:List Nat
 nx:Bool
def GOk(X:Cx)(k:Nat)(x:Str):GI->Prop
 | .fn n f=>Fn X.prog X.w X.K X.mg X.base k x n f
 | .con d=>GC X.K X.mg x d
 | .blt=>X.mg x=Y
 | .tab l=>uu X.w X.K X.mg x l
 | .ftab l=>FTab X.prog X.w X.K X.mg X.base k x l
 | .thr n fy C fl=>FnY X.prog X.w X.K X.mg X.base k x n fy C fl
 | .cls C b=>ClsOk X.K X.mg x C b
 | .hnd C=>BM X.K X.mg x C
 | .rse C fl=>BJ X.prog X.w X.K X.mg X.base x C fl
structure NX(X:Cx):Prop where
 xe:X.xe=λ_ _=>False
 hs:X.stack=X.env::X.outer
 hfm:X.env.frame=U X.env.locals
 hex:X.ex=[]
structure gx(k:Nat)(c:CI)(X:Cx):Prop where
 N:X.N=c.N
 nd:c.N.Nodup
 sc:X.env.scope=c.sc
 fk:c.sc.kind=.function
 fn:c.all=true->∀ x,X.fn x=true
 calm:X.calm=true
 room:Room k X.A
 xe:PassesOwn (model X.prog X.w) X.A X.env X.xe
 xf:c.nx=true->NX X
 gs:∀ p∈c.gs,GOk X k p.1 p.2
def gy:ME:=λ_ _=>Y
def At:MT:=λ_ _=>Y
def fQ:MS:=λ_ _=>Y
def xU:MA:=λ_ _=>Y
def LV:MG:=λ_ _ _=>Y
section
variable{X:Cx}{k:Nat}{c:CI}{e:tx}{pos:Pos}
theorem bH:DE X e gy:=λ_ _ _ _ _ _ ⟨_,_,_,_,_,_,_,h,_⟩=>by cases h
theorem ua:DT X e At:=λ_ _ _ _ _ _ ⟨_,_,_,_,_,_,_,h,_⟩=>by cases h
theorem fM{s:He}:DS X s fQ:=λ_ _ _ _ _ _ ⟨_,_,_,_,_,_,h,_⟩=>by cases h
theorem Nl{s:He}:DS X s (ay gy g):=by
 rw[show ay gy g=fQ from by rw[ic];rfl]
 exact fM
theorem VY{s:List He}:vj X s fQ:=λ_ _ _ _ _ _ ⟨_,_,_,_,_,_,h,_⟩=>by cases h
theorem da_no:DA X es xU:=λ_ _ _ _ _ _ _ ⟨_,_,_,_,_,_,_,h,_⟩=>by cases h
theorem wp:DI X tg e xU:=λ_ _ _ _ _ _ ⟨_,_,_,_,_,_,_,h,_⟩=>by cases h
theorem wq:DG X e LV:=λ_ _ _ _ _ _ _ _ _ ⟨_,_,_,_,_,_,_,_,_,h,_⟩=>by cases h
def kJ(x:Str):List Str->Option Nat
 | []=>Y
 | y::r=>if x==y then U 0 else(kJ x r).map (· + 1)
theorem bO:∀ {l:List Str} {i:Nat},kJ x l=U i->l[i]?=U x
 | y::r,i,h=>by
  unfold kJ at h
  split at h
  ·rename_i e;cases h;simp at e;simp[e]
  ·cases q:kJ x r with
   | none=>rw[q] at h;cases h
   | some j=>rw[q] at h;cases h;simpa using bO q
def dQ(x:Str):Bool:=!(x==("__debug__":Str))&&!(x==("__classdict__":Str))&&!(x==("__name__":Str))
theorem bI(h:dQ x=true):(x==("__debug__":Str))=false:=by
 unfold dQ at h;rw[Xk,Xk] at h;simpa only[Bool.not_eq_true'] using h.1.1
theorem sx(h:dQ x=true):(x==("__classdict__":Str))=false:=by
 unfold dQ at h;rw[Xk,Xk] at h;simpa only[Bool.not_eq_true'] using h.1.2
theorem fW(h:dQ x=true):x≠"__name__":=by
 unfold dQ at h;rw[Xk,Xk] at h
 have:=h.2
 rw[Bool.not_eq_true'] at this
 intro z;rw[z] at this;simp at this
def HL(c:CI)(x:Str):Option GI:=match c.sc.names.lookup x with | some .globalImplicit=>if dQ x then c.gs.lookup x else Y | _=>Y
theorem dh{g:GI}(C:gx k c X)(h:HL c x=U g):Gl X x/\dQ x=true/\GOk X k x g:=by
 unfold HL at h
 split at h
 ·rename_i e
  split at h
  ·rename_i o
   refine⟨?_,o,C.gs _ (YR h)⟩
   show X.env.scope.names.lookup x=_
   rw[C.sc,e]
  ·cases h
 ·cases h
def DD(c:CI)(x:Str):ME:=match c.sc.names.lookup x with
 | some .globalImplicit=>match HL c x with | some (.con d)=>mC d | _=>gy
 | some .local=>match kJ x c.N with | some i=>if dQ x then af i else gy | none=>gy
 | some .cell=>match kJ x c.N with | some i=>if dQ x then af i else gy | none=>gy
 | some .free=>match kJ x c.N with | some i=>if dQ x then af i else gy | none=>gy
 | _=>gy
theorem nV(C:gx k c X)(hv:Tf c.sc x):DE X (.Name x pos) (match kJ x c.N with | some i=>if dQ x then af i else gy | none=>gy):=by
 split
 ·rename_i i e
  split
  ·rename_i o
   exact bM rA <| M.Nz (by rw[C.N];exact bO e) (by rw[C.sc];exact hv) (bI o) (sx o)
  ·exact bH
 ·exact bH
theorem Ib(C:gx k c X)(x:Str):DE X (.Name x pos) (DD c x):=by
 unfold DD
 split
 ·split
  ·rename_i d e
   obtain⟨g,o,G⟩:=dh C e
   exact bM sS <| M.Rp G g (bI o)
  ·exact bH
 ·rename_i e;exact nV C (.inl e)
 ·rename_i e;exact nV C (.inr (.inl e))
 ·rename_i e;exact nV C (.inr (.inr e))
 ·exact bH
def FK:Const->ME
 | .int i=>mC (.int i)
 | .bool b=>mC (.bl b)
 | .none=>mC .non
 | .str x=>mC (.str x)
 | _=>gy
theorem DH(v:Const):DE X (.Constant v j pos) (FK v):=by
 cases v<;>first | exact bM sS <| M.Wv | exact bM sS <| M.de_bl | exact bM sS <| M.Wq | exact bM sS <| M.Wn | exact bH
def MM(z y:Bool)(op:Operator)(a b:ME):ME:=match op with
 | .Add=>aH bF a b
 | .Sub=>aH HQ a b
 | .Mult=>aH cN a b
 | .Mod=>aH kQ a b
 | .FloorDiv=>aH HW a b
 | .Pow=>aH vg a b
 | _=>gy
theorem ML(ha:DE X a ma)(hb:DE X b mb):DE X (.BinOp a op b pos) (MM z y op ma mb):=by
 cases op<;>first | exact bH | skip
 ·exact bM gL <| M.wu PH ha hb
 ·exact bM gL <| M.wu Us ha hb
 ·exact bM gL <| M.wu PD ha hb
 ·exact bM gL <| M.wu Uv ha hb
 ·exact bM gL <| M.wu Ut ha hb
 ·exact bM gL <| M.wu Uw ha hb
def MK(op:Operator)(a b:ME):ME:=match op with
 | .Add=>hZ a b
 | _=>gy
theorem MJ(ha:DE X a ma)(hb:DE X b mb):DE X (.BinOp a op b pos) (MK op ma mb):=by
 cases op<;>first | exact bH | exact bM AE <| M.Rt ha hb
def evUn(op:UnaryOp)(a:ME):ME:=match op with
 | .Not=>lh a
 | .USub=>ES VC a
 | _=>gy
theorem QJ(ha:DE X a ma):DE X (.UnaryOp op a pos) (evUn op ma):=by
 cases op<;>first | exact bH | skip
 ·exact bM Ar <| M.Ri ha
 ·exact bM KP <| M.de_un Ox ha
def Wy:CmpOp->Option (aa->D->D->Option D)
 | .Eq=>U cY
 | .NotEq=>U mE
 | .Lt=>U HS
 | .LtE=>U fLe
 | .Gt=>U FH
 | .GtE=>U fGe
 | .In=>U BV
 | .NotIn=>U qb
 | .Is=>U zd
 | .IsNot=>U nS
theorem FV{f:aa->D->D->Option D}(r:Room k X.A)(h:Wy op=U f):OpR X (Mc op) (on X.K f):=by
 cases op<;>cases h
 ·exact op_Eq r.units
 ·exact op_Ne r.units
 ·exact op_Lt
 ·exact op_Le
 ·exact op_Gt
 ·exact op_Ge
 ·exact op_Is
 ·exact Ko
 ·exact op_In r.units
 ·exact Kn r.units
def FU(z y:Bool)(op:CmpOp):Option (aa->D->D->Option D):=if y then(match op with | .NotIn=>U eZ | op=>Wy op) else Wy op
theorem Bz{f:aa->D->D->Option D}(r:Room k X.A)(h:FU z y op=U f):OpR X (Mc op) (on X.K f):=by
 unfold FU at h
 split at h
 ·split at h
  ·cases h;exact GS (by have:=r.units;omega)
  ·exact FV r h
 exact FV r h
def kj:tx->Bool
 | .Set _ _ _=>false
 | _=>true
theorem oG(h:kj e=true):behindInMarks op e=false:=by cases e<;>first | rfl | cases h
theorem dR(h:kj e=true)(x:bd):Ld e X.env x=pure x:=by cases e<;>first | rfl | cases h
def MH(c:CI)(E:CI->tx->ME)(a:tx)(ops:List CmpOp)(bs:List tx):ME:=match ops,bs with
 | [op],[b]=>if kj b then(match FU (c.mt.contains 990000) (c.mt.contains 996000) op with | some f=>aH f (E c a) (E c b) | none=>gy) else gy
 | _,_=>gy
def DJ(c:CI)(E:CI->tx->ME)(a:tx)(ops:List CmpOp)(bs:List tx):MT:=match ops,bs with
 | [op],[b]=>if kj b then(match FU (c.mt.contains 990000) (c.mt.contains 996000) op with | some f=>az (aH f (E c a) (E c b)) | none=>At) else At
 | _,_=>At
section
variable{E:CI->tx->ME}{T:CI->tx->MT}
theorem MD(C:gx k c X)(hE:∀ e,DE X e (E c e)){bs:List tx}:DE X (.Compare a ops bs pos) (MH c E a ops bs):=by
 unfold MH
 split
 ·split
  ·rename_i hm
   split
   ·rename_i f h;exact bM gL <| M.Ww (Bz C.room h) (hE _) (hE _) (oG hm)
   ·exact bH
  ·exact bH
 ·exact bH
theorem Ii(C:gx k c X)(hE:∀ e,DE X e (E c e)){bs:List tx}:DT X (.Compare a ops bs pos) (DJ c E a ops bs):=by
 unfold DJ
 split
 ·split
  ·rename_i hm
   split
   ·rename_i f h;exact FZ Db <| M.VX (Bz C.room h) (hE _) (hE _) (oG hm)
   ·exact ua
  ·exact ua
 ·exact ua
def Bh(f:ME->ME->ME):List ME->ME
 | []=>gy
 | [m]=>m
 | m::r=>f m (Bh f r)
def tL(f:MT->MT->MT):List MT->MT
 | []=>At
 | [m]=>m
 | m::r=>f m (tL f r)
theorem wg{E:tx->ME}(hE:∀ e,DE X e (E e)):∀ vs:List tx,DE X (.BoolOp .And vs pos) (Bh iG (vs.map E))
 | []=>bH
 | [e]=>NC (hE e)
 | e::e'::r=>bM Fe <| M.Rv (hE e) (wg hE (e'::r))
theorem Bg{E:tx->ME}(hE:∀ e,DE X e (E e)):∀ vs:List tx,DE X (.BoolOp .Or vs pos) (Bh Ho (vs.map E))
 | []=>bH
 | [e]=>NC (hE e)
 | e::e'::r=>bM KT <| M.Wp (hE e) (Bg hE (e'::r))
theorem HN{E:tx->MT}(hE:∀ e,DT X e (E e)):∀ vs:List tx,DT X (.BoolOp .And vs pos) (tL eU (vs.map E))
 | []=>ua
 | [e]=>QT (FN (hE e))
 | e::e'::r=>QT (FY sT <| M.Nc (hE e) (foldT_andW hE (e'::r) (by simp)))
where foldT_andW {E:tx->MT} (hE:∀ e,DT X e (E e)):∀ vs:List tx,vs≠[]->DW X (.BoolOp .And vs pos) (tL eU (vs.map E))
 | [],h=>absurd rfl h
 | [e],_=>FN (hE e)
 | e::e'::r,_=>FY sT <| M.Nc (hE e) (foldT_andW hE (e'::r) (by simp))
theorem LX{E:tx->MT}(hE:∀ e,DT X e (E e)):∀ vs:List tx,DT X (.BoolOp .Or vs pos) (tL fP (vs.map E))
 | []=>ua
 | [e]=>QT (Nb (hE e))
 | e::e'::r=>QT (FY xT <| M.SU (hE e) (foldT_orW hE (e'::r) (by simp)))
where foldT_orW {E:tx->MT} (hE:∀ e,DT X e (E e)):∀ vs:List tx,vs≠[]->DW X (.BoolOp .Or vs pos) (tL fP (vs.map E))
 | [],h=>absurd rfl h
 | [e],_=>Nb (hE e)
 | e::e'::r,_=>FY xT <| M.SU (hE e) (foldT_orW hE (e'::r) (by simp))
def bP:tx->Bool
 | .Starred _ _=>false
 | _=>true
theorem bz{es:List tx}(h:bP e=true):KZ (e::es) X.env=(false,eval e X.env)::KZ es X.env:=by cases e<;>first | rfl | cases h
theorem gD:∀ {es:List tx},es.all bP=true->(backTo pos (KZ es X.env)).any (·.1)=false
 | [],_=>rfl
 | e::es,h=>by
  rw[Ym,Xk] at h
  rw[bz h.1]
  show(false||(backTo pos (KZ es X.env)).any (·.1))=false
  rw[gD h.2];rfl
def ze(E:tx->ME):List tx->MA
 | []=>ai
 | e::r=>if bP e then ac (E e) (ze E r) else xU
theorem gl{E:tx->ME}(hE:∀ e,DE X e (E e)):∀ es:List tx,DA X es (ze E es)
 | []=>Tb xV <| M.Wx
 | e::r=>by
  unfold ze
  split
  ·rename_i h;exact Tb AD <| M.Rz (hE e) (gl hE r) (bz h)
  ·exact da_no
def evO(E:tx->ME):Option tx->MO
 | none=>cA
 | some e=>dB (E e)
theorem Mu{E:tx->ME}(hE:∀ e,DE X e (E e)):∀ o:Option tx,DO X o (evO E o)
 | none=>Ta vO <| M.Rc
 | some e=>Ta Aq <| M.Rb (hE e)
def zn(c:CI):tx->Option (List (bC×D))
 | .Name x _=>match HL c x with | some (.tab l)=>U l | _=>Y
 | _=>Y
theorem Cf{l:List (bC×D)}(C:gx k c X)(h:zn c a=U l):∃ x p,a=.Name x p/\Gl X x/\dQ x=true/\uu X.w X.K X.mg x l:=by
 unfold zn at h
 split at h
 ·split at h
  ·rename_i e
   cases h
   obtain⟨g,o,G⟩:=dh C e
   exact⟨_,_,rfl,g,o,G⟩
  ·cases h
 ·cases h
def SO(c:CI)(E:tx->ME)(a i:tx):ME:=match i with
 | .Slice lo hi st _=>match st with | none=>cn (E a) (evO E lo) (evO E hi) | some st=>(match lo,hi with | none,Y=>gy | _,_=>gy)
 | i=>match zn c a with | some l=>dI l (E i) | none=>if c.mt.contains 997000 then aH Dx (E a) (E i) else aH aW (E a) (E i)
theorem Ia(C:gx k c X){E:tx->ME}(hE:∀ e,DE X e (E e))(a i:tx)(hs:kY i:=by intro _ _;rfl):DE X (.Subscript a i pos) (match zn c a with | some l=>dI l (E i) | none=>if c.mt.contains 997000 then aH Dx (E a) (E i) else aH aW (E a) (E i)):=by
 cases ht:zn c a with
 | none=>
  dsimp only
  split
  ·exact bM gL <| M.Ws (by have:=C.room.units;omega) (hE a) (hE _) hs
  exact bM gL <| M.Wt (by have:=C.room.units;omega) (hE a) (hE _) hs
 | some l=>
  obtain⟨x,p,rfl,g,o,G⟩:=Cf C ht
  exact bM vM (M.NA G g (bI o) (hE _) hs)
theorem Ms(C:gx k c X){E:tx->ME}(hE:∀ e,DE X e (E e))(a i:tx):DE X (.Subscript a i pos) (SO c E a i):=by
 cases i with
 | Slice lo hi st p=>
  cases st with
  | none=>
   show DE X _ (cn (E a) (evO E lo) (evO E hi))
   exact bM vN <| M.NB (hE a) (Mu hE lo) (Mu hE hi)
  | some st=>
   cases lo with
   | none=>
    cases hi with
    | none=>
     show DE X _ gy
     exact bH
    | some _=>exact bH
   | some _=>exact bH
 | _=>exact Ia C hE a _
def gJ:tx->Option Str
 | .Name x _=>U x
 | _=>Y
theorem cI{x:Str}(h:gJ e=U x):∃ p,e=.Name x p:=by cases e<;>cases h;exact⟨_,rfl⟩
def lV:tx->Option (Str×List tx)
 | .Call f es [] _=>(gJ f).map λx=>(x,es)
 | _=>Y
theorem fN{x:Str}{es:List tx}(h:lV e=U (x,es)):∃ p p2,e=.Call (.Name x p) es [] p2:=by
 cases e with
 | Call f es' ks p2=>
  cases ks with
  | nil=>
   obtain⟨y,h1,h2⟩:=YE.mp h
   cases h2
   obtain⟨p,rfl⟩:=cI h1
   exact⟨p,p2,rfl⟩
  | cons _ _=>cases h
 | _=>cases h
def mZ(c:CI)(x:Str):Bool:=match HL c x with | some .blt=>true | _=>false
theorem lK(C:gx k c X)(h:mZ c x=true):X.mg x=Y/\Gl X x/\dQ x=true:=by
 unfold mZ at h
 split at h
 ·rename_i e;obtain⟨a,b,d⟩:=dh C e;exact⟨d,a,b⟩
 ·cases h
def Cm(c:CI)(es:List tx):Option tx:=match es with
 | [e1]=>match lV e1 with
  | some (y,[a])=>if y=="set"&&mZ c y&&bP a then U a else Y
  | _=>Y
 | _=>Y
theorem zt{a:tx}(h:Cm c es=U a):∃ p p2,es=[.Call (.Name "set" p) [a] [] p2]/\mZ c "set" = true/\bP a=true:=by
 unfold Cm at h
 split at h
 ·split at h
  ·rename_i hc
   split at h
   ·rename_i hb
    cases h
    rw[Xk,Xk] at hb
    obtain⟨p,p2,rfl⟩:=fN hc
    have z:=hb.1.1
    rw[beq_iff_eq] at z;subst z
    exact⟨p,p2,rfl,hb.1.2,hb.2⟩
   ·cases h
  ·cases h
 ·cases h
def rZ(c:CI)(es:List tx):Option tx:=match es with
 | [e1]=>match lV e1 with
  | some (y,[a])=>if y=="range"&&mZ c y&&bP a then U a else Y
  | _=>Y
 | _=>Y
theorem uM{a:tx}(h:rZ c es=U a):∃ p p2,es=[.Call (.Name "range" p) [a] [] p2]/\mZ c "range" = true/\bP a=true:=by
 unfold rZ at h
 split at h
 ·split at h
  ·rename_i hc
   split at h
   ·rename_i hb
    cases h
    rw[Xk,Xk] at hb
    obtain⟨p,p2,rfl⟩:=fN hc
    have z:=hb.1.1
    rw[beq_iff_eq] at z;subst z
    exact⟨p,p2,rfl,hb.1.2,hb.2⟩
   ·cases h
  ·cases h
 ·cases h
def bltG(z y:Bool)(x:Str):Option (List D->aa->Option (D×aa)):=
 Y
def WH(z y n g h:Bool)(x:Str):Option (List D->aa->Option (D×aa)):=
 if x=="len" then U (aI eQ) else if x=="int" then U (aI jP) else if x=="max" then U (aI tS) else if x=="min" then U (aI Mk)
 else if x=="list" then U (aI (cD .lst)) else if x=="tuple" then U (aI (cD .tup)) else if x=="all" then U (aI yA) else bltG z y x
set_option maxHeartbeats 800000 in
theorem RH{f:List D->aa->Option (D×aa)}{es:List tx}(C:gx k c X)(h:WH zz yy nn gg hh x=U f)(hm:X.mg x=Y)(hg:Gl X x)(o:dQ x=true)(hs:(e::es).all bP=true)(ha:DA X (e::es) ms) :
  DE X (.Call (.Name x p) (e::es) [] pos) (bo f ms):=by
 rw[Ym,Xk] at hs
 have q1:=bz (X:=X) (es:=es) hs.1
 have q2:=gD (X:=X) (pos:=pos) hs.2
 unfold WH at h
 split at h
 ·rename_i z;cases h;rw[beq_iff_eq] at z;subst z;exact bM gO <| M.pv NV hm boot_len ha hg (fW o) (bI o) q1 q2
 split at h
 ·rename_i z;cases h;rw[beq_iff_eq] at z;subst z;exact bM gO <| M.qg NW hm boot_int ha hg (fW o) (bI o) q1 q2
 split at h
 ·rename_i z;cases h;rw[beq_iff_eq] at z;subst z;exact bM gO <| M.pv (II C.calm) hm boot_max ha hg (fW o) (bI o) q1 q2
 split at h
 ·rename_i z;cases h;rw[beq_iff_eq] at z;subst z;exact bM gO <| M.pv (IH C.calm) hm boot_min ha hg (fW o) (bI o) q1 q2
 split at h
 ·rename_i z;cases h;rw[beq_iff_eq] at z;subst z;exact bM gO <| M.qg IK hm boot_list ha hg (fW o) (bI o) q1 q2
 split at h
 ·rename_i z;cases h;rw[beq_iff_eq] at z;subst z;exact bM gO <| M.qg nY hm boot_tuple ha hg (fW o) (bI o) q1 q2
 split at h
 ·rename_i z;cases h;rw[beq_iff_eq] at z;subst z;exact bM gO <| M.pv (NY C.calm) hm boot_all ha hg (fW o) (bI o) q1 q2
 unfold bltG at h
 cases h
def Tq(x:Str):Option String:=if x=="int" then U "int" else if x=="bool" then U "bool" else if x=="str" then U "str" else if x=="tuple" then U "tuple" else if x=="list" then U "list" else if x=="dict" then U "dict" else Y
theorem Eo{T:String}(h:Tq x=U T):bootBuiltins x=U (.type T)/\(T = "int"\/T = "bool"\/T = "str"\/T = "tuple"\/T = "list"\/T = "dict"):=by
 unfold Tq at h
 split at h
 ·rename_i z;cases h;rw[beq_iff_eq] at z;subst z;exact⟨boot_int,by simp⟩
 split at h
 ·rename_i z;cases h;rw[beq_iff_eq] at z;subst z;exact⟨boot_bool,by simp⟩
 split at h
 ·rename_i z;cases h;rw[beq_iff_eq] at z;subst z;exact⟨boot_str,by simp⟩
 split at h
 ·rename_i z;cases h;rw[beq_iff_eq] at z;subst z;exact⟨boot_tuple,by simp⟩
 split at h
 ·rename_i z;cases h;rw[beq_iff_eq] at z;subst z;exact⟨boot_list,by simp⟩
 split at h
 ·rename_i z;cases h;rw[beq_iff_eq] at z;subst z;exact⟨boot_dict,by simp⟩
 cases h
def RX:tx->Option (List tx)
 | .Tuple es _ _=>U es
 | _=>Y
theorem Cc{es:List tx}(h:RX e=U es):∃ j p,e=.Tuple es j p:=by cases e<;>cases h;exact⟨_,_,rfl⟩
def clsC(c:CI):List tx->Option td
 | []=>Y
 | e::_=>match gJ e with | some x=>(match HL c x with | some (.cls C _)=>U C | _=>Y) | none=>Y
def RC(c:CI)(C:td):List tx->Option (List Bool)
 | []=>U []
 | e::r=>match gJ e with | some x=>(match HL c x with | some (.cls C' b)=>if C'=C then(RC c C r).map (b::·) else Y | _=>Y) | none=>Y
theorem FW(C:gx k c X){A:td}:∀ {es:List tx} {bs:List Bool},RC c A es=U bs->ClsL X A es bs
 | [],bs,h=>by cases h;exact .nil
 | e::r,bs,h=>by
  unfold RC at h
  split at h
  ·rename_i x hx
   obtain⟨p,rfl⟩:=cI hx
   split at h
   ·rename_i A' b hg
    obtain⟨g,o,G⟩:=dh C hg
    split at h
    ·rename_i e;subst e
     obtain⟨bs',h1,rfl⟩:=YE.mp h
     exact .cons G g (bI o) (FW C h1)
    ·cases h
   ·cases h
  ·cases h
def SQ(c:CI)(E:tx->ME):List tx->ME
 | [a,t]=>match gJ t with
  | some y=>match HL c y,Tq y with | some .blt,U T=>if bP a then fg T (E a) else gy | some (.cls C b),_=>if bP a then mR C b (E a) else gy | _,_=>gy
  | none=>match RX t with
   | some es=>match clsC c es with
    | some C=>match RC c C es with | some bs=>if bP a&&decide (es.length<=20) then mR C (bs.any id) (E a) else gy | none=>gy
    | none=>gy
   | none=>gy
 | _=>gy
def yE(c:CI)(E:tx->ME)(x:Str)(es:List tx):ME:=match HL c x with
 | some (.fn n f)=>match es with
  | []=>if n==0 then ao 0 f ai else gy
  | e::r=>if (e::r).all bP then ao n f (ze E (e::r)) else gy
 | some .blt=>if x=="isinstance" then SQ c E es else match (if x=="len" then Cm c es else Y) with
  | some a=>gy
  | none=>match (if x=="list" then rZ c es else Y) with
  | some a=>gy
  | none=>match WH (c.mt.contains 400000) (c.mt.contains 950000) (c.mt.contains 960000) (c.mt.contains 993000) (c.mt.contains 995000) x,es with
   | some f,e::r=>if (e::r).all bP then bo f (ze E (e::r)) else gy
   | _,_=>gy
 | _=>gy
theorem Ij(C:gx k c X){E:tx->ME}(hE:∀ e,DE X e (E e)):DE X (.Call (.Name x p) es [] pos) (yE c E x es):=by
 unfold yE
 split
 ·rename_i n f hg
  obtain⟨g,o,G⟩:=dh C hg
  split
  ·split
   ·rename_i hn
    have:n=0:=by simpa using hn
    subst this
    exact bM Df <| M.NI G C.room g (bI o)
   ·exact bH
  ·split
   ·rename_i hs
    have hs':=hs
    rw[Ym,Xk] at hs
    exact bM pV <| M.Ru G C.room (gl hE _) g (bI o) (bz hs.1) (gD hs.2)
   ·exact bH
 ·rename_i hg
  obtain⟨g,o,G⟩:=dh C hg
  split
  ·rename_i z
   rw[beq_iff_eq] at z;subst z
   unfold SQ
   split
   ·split
    ·rename_i y hy
     obtain⟨p2,rfl⟩:=cI hy
     split
     ·rename_i T h1 h2
      obtain⟨g',o',G'⟩:=dh C h1
      split
      ·rename_i hs
       exact bM Fa <| M.Ip G G' (Eo h2).1 (hE _) (Eo h2).2 g g' (fW o') (bI o') (bz hs) rfl rfl
      ·exact bH
     ·rename_i A b _ h1
      obtain⟨g',o',G'⟩:=dh C h1
      split
      ·rename_i hs
       exact M.Wu G G' g g' (bI o') (hE _) (bz hs)
      ·exact bH
     ·exact bH
    ·split
     ·rename_i es ht
      obtain⟨j,p2,rfl⟩:=Cc ht
      split
      ·rename_i A hA
       split
       ·rename_i bs hb
        split
        ·rename_i hs
         rw[Xk,Yz] at hs
         exact M.Rn G (FW C hb) (λz=>by rw[z] at hA;cases hA) hs.2 g (hE _) (bz hs.1)
        ·exact bH
       ·exact bH
      ·exact bH
     ·exact bH
   ·exact bH
  ·split
   ·rename_i a ha
    split at ha
    ·rename_i z
     rw[beq_iff_eq] at z;subst z
     obtain⟨p3,p4,rfl,hb,hs⟩:=zt ha
     obtain⟨m2,g2,o2⟩:=lK C hb
     exact bH
    ·cases ha
   ·split
    ·rename_i a ha
     split at ha
     ·rename_i z
      rw[beq_iff_eq] at z;subst z
      obtain⟨p3,p4,rfl,hb,hs⟩:=uM ha
      obtain⟨m2,g2,o2⟩:=lK C hb
      exact bH
     ·cases ha
    ·split
     ·rename_i _ f e r hf
      split
      ·rename_i hs
       exact RH C (by assumption) G g o hs (gl hE _)
      ·exact bH
     ·exact bH
 ·exact bH
def Ea:tx->Option (tx×Str×Pos)
 | .Attribute o nm ap=>U (o,nm,ap)
 | _=>Y
theorem BH{o:tx}{nm:Str}{ap:Pos}(h:Ea e=U (o,nm,ap)):e=.Attribute o nm ap:=by cases e<;>cases h;rfl
def KC(x:Str):Option MF:=if x=="append" then U bZ else if x=="insert" then U jl else if x=="count" then U yw else if x=="index" then U lN else if x=="extend" then U jm else Y
theorem KB{f:MF}(C:gx k c X)(h:KC x=U f):∃ id,Slot "list" x id/\typeOf (.builtin id)=pure (.type "method_descriptor")/\MtR X id (OU X.K f):=by
 unfold KC at h
 split at h
 ·rename_i z;cases h;rw[beq_iff_eq] at z;subst z;exact⟨_,abP,F.type_list_append,Hc⟩
 split at h
 ·rename_i z;cases h;rw[beq_iff_eq] at z;subst z;exact⟨_,abO,F.type_list_insert,Ha⟩
 split at h
 ·rename_i z;cases h;rw[beq_iff_eq] at z;subst z;exact⟨_,F.slot_list_count,F.type_list_count,Kz C.room.units⟩
 split at h
 ·rename_i z;cases h;rw[beq_iff_eq] at z;subst z;exact⟨_,F.slot_list_index,F.type_list_index,Kx C.room.units⟩
 split at h
 ·rename_i z;cases h;rw[beq_iff_eq] at z;subst z;exact⟨_,aai,F.type_list_extend,Hb⟩
 cases h
def KD(x:Str):Option MF:=Y
theorem Hd{f:MF}(C:gx k c X)(h:KD x=U f):∃ id,Slot "dict" x id/\typeOf (.builtin id)=pure (.type "method_descriptor")/\MtR X id (OU X.K f):=by cases h
theorem zr:∀ {es:List tx},es.all bP=true->(backTo pos (KZ es X.env)).all (λx=>!x.1)=true
 | [],_=>rfl
 | e::es,h=>by
  rw[Ym,Xk] at h
  rw[bz h.1]
  show(true&&(backTo pos (KZ es X.env)).all (λx=>!x.1))=true
  rw[zr h.2];rfl
def TY(o:tx):Bool:=match o with | .Call (.Name id _) [] [] _=>id != ("super":Str) | .Call _ _ _ _=>false | _=>true
def yB(z y:Bool)(E:tx->ME)(o:tx)(nm:Str)(ap cp:Pos)(es:List tx):ME:=match TY o,es with
 | true,e::r=>if (e::r).all bP&&(decide ((e::r).length<30)&&ap.endLine==cp.line) then
   (if nm=="count" then gy else match KD nm with | some f=>fZ f (E o) (ze E (e::r)) | none=>match KC nm with | some f=>cZ f (E o) (ze E (e::r)) | none=>gy) else gy
 | true,[]=>if nm=="reverse"&&ap.endLine==cp.line then sO (E o) else gy
 | _,_=>gy
theorem Ic(C:gx k c X){E:tx->ME}(hE:∀ e,DE X e (E e)):DE X (.Call (.Attribute o nm ap) es [] pos) (yB z y E o nm ap pos es):=by
 unfold yB
 split
 ·rename_i e r hx
  split
  ·rename_i h
   rw[Xk,Xk] at h
   have hs:=h.1
   rw[Ym,Xk] at hs
   have few:((backTo pos (KZ (e::r) X.env)).all (λx=>!x.1)&&(backToKw pos (keywordEach [] X.env)).all (λx=>x.1.isSome)&&decide ((e::r).length+([]:List Keyword).length+(if ([]:List Keyword).isEmpty then 0 else 1)<30))=true:=by
    rw[zr h.1]
    show(true&&decide ((e::r).length+0+0<30))=true
    exact h.2.1
   split
   ·rename_i hc
    rw[beq_iff_eq] at hc;subst hc
    exact bH
   ·split
    ·rename_i f hf
     obtain⟨id,h1,h2,h3⟩:=Hd C hf
     exact bM vP (M.ND h1 h2 h3 (hE _) (gl hE _) (qj hx) few h.2.2 (bz hs.1) (gD hs.2))
    ·split
     ·rename_i f hf
      obtain⟨id,h1,h2,h3⟩:=KB C hf
      exact bM Au (M.Rj h1 h2 h3 (hE _) (gl hE _) (qj hx) few h.2.2 (bz hs.1) (gD hs.2))
     ·exact bH
  ·exact bH
 ·rename_i hx
  split
  ·rename_i h
   rw[Xk,beq_iff_eq] at h
   obtain⟨h1,h2⟩:=h
   subst h1
   exact bM PY (M.Wo (hE _) (qj hx) h2)
  ·exact bH
 ·exact bH
def zT:tx->Bool
 | .Slice _ _ _ _=>false
 | _=>true
def Ig(G:tx->MG):List tx->uw
 | []=>aY
 | e::r=>ah (if bP e then G e else LV) (Ig G r)
def qV(c:CI)(x:Str):MG:=match c.sc.names.lookup x,kJ x c.N with
 | some .local,U i=>ag i
 | some .cell,U i=>if c.all then ag i else LV
 | _,_=>LV
def Mx(c:CI)(E:tx->ME):tx->MG
 | .Name x _=>qV c x
 | .Subscript o i _=>if zT i then(if c.mt.contains 998000 then gP (E o) (E i) else ge (E o) (E i)) else LV
 | _=>LV
def VR(c:CI)(G1 G:tx->MG)(es:List tx):MG:=if es.all bP then bi es.length (Ig G es) else LV
def My(c:CI)(E:tx->ME):tx->MG
 | .Tuple es _ _=>VR c (Mx c E) (λe=>match e with | .Tuple es _ _=>if es.all bP then bi es.length (Ig (Mx c E) es) else LV | e=>Mx c E e) es
 | e=>Mx c E e
theorem QL(C:gx k c X)(x:Str):DG X (.Name x pos) (qV c x):=by
 unfold qV
 split
 ·rename_i h1 h2
  exact wC mD <| M.FR (by rw[C.N];exact C.nd) (by rw[C.N];exact bO h2) (by rw[C.sc];exact .inl h1) (.inr (by rw[C.sc];exact h1))
 ·rename_i h1 h2
  split
  ·rename_i ha
   exact wC mD <| M.FR (by rw[C.N];exact C.nd) (by rw[C.N];exact bO h2) (by rw[C.sc];exact .inr h1) (.inl (C.fn ha x))
  ·exact wq
 ·exact wq
theorem QM(C:gx k c X){E:tx->ME}(hE:∀ e,DE X e (E e))(e:tx):DG X e (Mx c E e):=by
 cases e with
 | Name x p=>exact QL C x
 | Subscript o i p=>
  show DG X _ (if zT i then(if c.mt.contains 998000 then gP (E o) (E i) else ge (E o) (E i)) else LV)
  split
  ·rename_i h
   split
   ·refine wC Bd (M.Rg C.room.units (hE o) (hE i) ?_)
    cases i<;>first | (intro _;rfl) | cases h
   refine wC Be (M.Wj (hE o) (hE i) ?_)
   cases i<;>first | (intro _;rfl) | cases h
  ·exact wq
 | _=>exact wq
theorem qk{es:List tx}(h:bP e=true):assignEach (e::es) X.env=(false,assign e X.env)::assignEach es X.env:=by cases e<;>first | rfl | cases h
theorem pE:∀ {es:List tx},es.all bP=true->(assignEach es X.env).length=es.length/\(assignEach es X.env).findIdx? (·.1)=Y
 | [],_=>⟨rfl,rfl⟩
 | e::es,h=>by
  rw[Ym,Xk] at h
  rw[qk h.1]
  obtain⟨a,b⟩:=pE h.2
  exact⟨by simp[a],by simp[Za,b]⟩
theorem yD{G:tx->MG}(hG:∀ e,DG X e (G e)):∀ es:List tx,es.all bP=true->Xa X es (Ig G es)
 | [],_=>NU Bf <| M.Rf
 | e::r,h=>by
  rw[Ym,Xk] at h
  unfold Ig
  rw[Xq h.1]
  exact NU we <| M.Nv (hG e) (yD hG r h.2) (by rw[qk h.1];rfl)
theorem QK(C:gx k c X){G:tx->MG}(hG:∀ e,DG X e (G e))(es:List tx)(j:Nat):DG X (.Tuple es j pos) (if es.all bP then bi es.length (Ig G es) else LV):=by
 split
 ·rename_i h
  exact wC jM <| M.Nw C.calm (yD hG es h) (pE h).1 (pE h).2
 ·exact wq
theorem Mw(C:gx k c X){G1 G:tx->MG}(hG1:∀ e,DG X e (G1 e))(hG:∀ e,DG X e (G e))(es:List tx)(j:Nat):DG X (.Tuple es j pos) (VR c G1 G es):=by
 unfold VR
 split
 ·rename_i h
  exact wC jM <| M.Nw C.calm (yD hG es h) (pE h).1 (pE h).2
 ·exact wq
theorem kT(C:gx k c X){E:tx->ME}(hE:∀ e,DE X e (E e))(e:tx):DG X e (My c E e):=by
 have h1:=QM C hE
 cases e with
 | Tuple es j p=>
  refine Mw C h1 (λe=>?_) es j
  cases e with
  | Tuple es j p=>exact QK C h1 es j
  | _=>exact h1 _
 | _=>exact h1 _
def evI(c:CI)(E:tx->ME)(tg it:tx):MA:=match lV it with
 | some (x,es)=>if x=="enumerate"&&mZ c x then(match tg,es with
   | .Tuple _ _ _,[a]=>if bP a then hX (ze E [a]) else xU
   | _,_=>xU) else if x=="zip"&&mZ c x then(match tg,es with
   | .Tuple _ _ tp,[a,b]=>if bP a&&bP b then(nH (ze E [a,b])) else xU
   | _,_=>xU) else if x=="range"&&mZ c x then(match es with
   | [a]=>if bP a then cu (ze E [a]) else xU
   | _=>xU) else dU (E it)
 | none=>dU (E it)
theorem yC(C:gx k c X){E:tx->ME}(hE:∀ e,DE X e (E e)):DI X tg it (evI c E tg it):=by
 unfold evI
 split
 ·rename_i x es he
  obtain⟨p,p2,rfl⟩:=fN he
  split
  ·rename_i hx
   rw[Xk] at hx
   obtain⟨m,g,o⟩:=lK C hx.2
   have z:=hx.1
   rw[beq_iff_eq] at z;subst z
   split
   ·split
    ·rename_i h
     exact BC Ay (M.Re m (gl hE _) g (bz h))
    ·exact wp
   ·exact wp
  split
  ·rename_i hx
   rw[Xk] at hx
   obtain⟨m,g,o⟩:=lK C hx.2
   have z:=hx.1
   rw[beq_iff_eq] at z;subst z
   split
   ·split
    ·rename_i h
     rw[Xk] at h
     exact BC EQ (M.Wi m (gl hE _) g (by rw[bz h.1,bz h.2];rfl) (bz h.2))
    ·exact wp
   ·exact wp
  split
  ·rename_i hx
   rw[Xk] at hx
   obtain⟨m,g,o⟩:=lK C hx.2
   have z:=hx.1
   rw[beq_iff_eq] at z;subst z
   split
   ·split
    ·rename_i h
     exact BC sP <| M.Io m (gl hE _) g (bz h)
    ·exact wp
   ·exact wp
  ·exact BC xX <| M.DN (hE _)
 ·exact BC xX <| M.DN (hE _)
def SD(c:CI)(it:tx):Bool:=match lV it with | some (x,_)=>(x=="enumerate"||x=="zip"||x=="range")&&mZ c x | none=>false
def lA(scope sc:Scope):Scope:={ scope with names:=scope.names.map λx=>match x with | (n,k)=>if (k==NameKind.free&&sc.kind==.function&&sc.names.lookup n==U .cell)=true then(n,.cell) else(n,k) }
def BG(scope:Scope):List Str:=(scope.names.filter λx=>x.2==.local&&!(x.1==(".0":Str))).map (·.1)++(scope.names.filter λx=>x.2==.free).map (·.1)
def uo(c:CI)(scope:Scope):List (Option Nat):=(scope.names.filter λx=>x.2==.local&&!(x.1==(".0":Str))).map (λ_=>Y)++(scope.names.filter λx=>x.2==.free).map (λx=>kJ x.1 c.N)
def WI(c:CI)(scope:Scope):Bool:=
 scope.kind==.function&&(scope.names.all λx=>x.2 != .cell)&&(scope.names.all λx=>x.2 != .local||scope.names.lookup x.1==U .local)
&&(scope.names.all λx=>x.2 != .free||c.sc.names.lookup x.1==U .cell||c.sc.names.lookup x.1==U .free)
&&vh c.N (BG scope) (λy=>c.sc.names.lookup y) (λy=>(lA scope c.sc).names.lookup y) (uo c scope) (BG scope)&&decide (BG scope).Nodup
def yR(c:CI)(scope:Scope):CI:=⟨BG scope,lA scope c.sc,false,c.gs,c.mt,false⟩
theorem Ga(C:gx k c X)(h:WI c scope=true):BlockOk X (BG scope) scope (uo c scope)/\∀ A s H fp,gx k (yR c scope) (mI X (BG scope) scope A s H fp):=by
 unfold WI at h
 simp only[Xk,Yz,beq_iff_eq] at h
 obtain⟨⟨⟨⟨⟨h1,h2⟩,h3⟩,h4⟩,h5⟩,h6⟩:=h
 refine⟨blk h6 h1 h2 h3 ?_ ?_,λA s H fp=>⟨rfl,h6,?_,h1,(λz=>nomatch z),C.calm,C.room,aaO,(λz=>nomatch z),C.gs⟩⟩
 ·show(scope.names.all λx=>x.2 != .free||X.env.scope.names.lookup x.1==U .cell||X.env.scope.names.lookup x.1==U .free)=true
  rw[C.sc];exact h4
 ·show vh X.N (BG scope) (λy=>X.env.scope.names.lookup y) (λy=>(lA scope X.env.scope).names.lookup y) (uo c scope) (BG scope)=true
  rw[C.sc,C.N];exact h5
 ·show lA scope X.env.scope=_
  rw[C.sc];rfl
def VP(T:tx->MT):List tx->MT
 | []=>bU
 | [e]=>T e
 | _=>At
theorem rJ{T:tx->MT}(hT:∀ e,DT X e (T e)):∀ es:List tx,Oq X es (VP T es)
 | []=>WA Ao <| M.Nd
 | [e]=>QR (hT e)
 | _::_::_=>λ_ _ _ _ _ _ ⟨_,_,_,_,_,_,_,h,_⟩=>by cases h
def lO(c:CI)(E:CI->tx->ME)(T:CI->tx->MT)(elt:tx)(gens:List Comprehension)(scope:Scope)(line:Nat):ME:=match gens with
 | [⟨tg,it,ifs,a⟩]=>if a==0&&kj it&&WI c scope then if c.mt.contains (line+100000) then df (E c it) (My (yR c scope) (E (yR c scope)) tg) (VP (T (yR c scope)) ifs) (E (yR c scope) elt) (uo c scope) else bV (evI c (E c) tg it) (My (yR c scope) (E (yR c scope)) tg) (VP (T (yR c scope)) ifs) (E (yR c scope) elt) (uo c scope) else gy
 | _=>gy
theorem wm(C:gx k c X)(hE:∀ c X,gx k c X->∀ e,DE X e (E c e))(hT:∀ c X,gx k c X->∀ e,DT X e (T c e)):DE X (.ListComp elt gens scope pos) (lO c E T elt gens scope line):=by
 unfold lO
 split
 ·rename_i tg it ifs a
  split
  ·rename_i h
   simp only[Xk,beq_iff_eq] at h
   obtain⟨⟨h0,h1⟩,h2⟩:=h
   subst h0
   obtain⟨B,C'⟩:=Ga C h2
   split
   ·exact bM pU <| M.NH C.calm B (hE _ _ C it) (λA s H fp=>kT (C' A s H fp) (hE _ _ (C' A s H fp)) tg) (λA s H fp=>rJ (hT _ _ (C' A s H fp)) ifs) (λA s H fp=>hE _ _ (C' A s H fp) elt) (dR h1)
   ·exact bM sR <| M.Rs C.calm B (yC C (hE _ _ C)) (λA s H fp=>kT (C' A s H fp) (hE _ _ (C' A s H fp)) tg) (λA s H fp=>rJ (hT _ _ (C' A s H fp)) ifs) (λA s H fp=>hE _ _ (C' A s H fp) elt) (dR h1)
  ·exact bH
 ·exact bH
def VQ(E:tx->ME):List (Option tx)->List tx->Option (List (ME×ME))
 | [],[]=>U []
 | some k::ks,v::vs=>(VQ E ks vs).bind λr=>U ((E k,E v)::r)
 | _,_=>Y
theorem FI{E:tx->ME}(hE:∀ e,DE X e (E e)):∀ {ks:List (Option tx)} {vs:List tx} {ms:List (ME×ME)},VQ E ks vs=U ms->DPs X pos ks vs ms/\ks.all (·.isSome)=true/\ks.length=vs.length
 | [],[],ms,h=>by cases h;exact⟨Ra,rfl,rfl⟩
 | some k::ks,v::vs,ms,h=>by
  obtain⟨r,h1,h2⟩:=Xc.mp h
  cases h2
  obtain⟨a,b,d⟩:=FI hE h1
  exact⟨Np (hE k) (hE v) a,by rw[Ym,b];rfl,by rw[Xw,Xw,d]⟩
 | [],_::_,_,h=>by cases h
 | none::_,_,_,h=>by cases h
 | some _::_,[],_,h=>by cases h
def DF(c:CI)(E:tx->ME)(ks:List (Option tx))(vs:List tx)(line:Nat):ME:=match ks with
 | []=>if vs.isEmpty then mC (.dct [] []) else gy
 | k::r=>if c.mt.contains (line+130000) then(match k,r,vs with | some k,[],[v]=>dW (E k) (E v) | _,_,_=>gy) else if (k::r).length<=15 then(match VQ E (k::r) vs with | some ms=>if c.mt.contains line then gb ms else jf ms | none=>gy) else gy
theorem Ih{E:tx->ME}(C:gx k c X)(hE:∀ e,DE X e (E e))(ks:List (Option tx))(vs:List tx)(line:Nat):DE X (.Dict ks vs pos) (DF c E ks vs line):=by
 unfold DF
 split
 ·split
  ·rename_i h
   have:vs=[]:=by simpa using h
   subst this
   exact bM sS <| M.Rq
  ·exact bH
 ·rename_i k r
  split
  ·split
   ·exact bM vR (M.NE (by have:=C.room.units;omega) (hE _) (hE _))
   ·exact bH
  split
  ·rename_i hl
   split
   ·rename_i ms h
    obtain⟨a,b,d⟩:=FI (pos:=pos) hE h
    split
    ·exact bM vS (M.NF a b d (by simp) hl)
    ·exact bM AB (M.Rr a b d (by simp) hl)
   ·exact bH
  ·exact bH
def Mv(E:tx->ME):List tx->ME
 | []=>gy
 | _=>gy
theorem Ie{E:tx->ME}(hE:∀ e,DE X e (E e)):∀ es:List tx,DE X (.JoinedStr es pos) (Mv E es)
 | []=>bH
 | _::_=>bH
def SR(E:tx->ME)(v:tx)(cv:Int)(f:Option tx):ME:=match cv,f with
 | _,_=>gy
theorem Mz{E:tx->ME}(hE:∀ e,DE X e (E e)):DE X (.FormattedValue v cv f pos) (SR E v cv f):=by
 exact bH
def Sg(E:CI->tx->ME)(T:CI->tx->MT)(c:CI):tx->ME
 | .Constant v _ _=>FK v
 | .Name x _=>DD c x
 | .BinOp a op b p=>if c.mt.contains (p.line+700000) then MK op (E c a) (E c b) else MM (c.mt.contains (p.line+200000)) (c.mt.contains (p.line+210000)) op (E c a) (E c b)
 | .UnaryOp op a _=>evUn op (E c a)
 | .Compare a ops bs _=>MH c E a ops bs
 | .BoolOp op vs _=>match op with | .And=>Bh iG (vs.map (E c)) | .Or=>Bh Ho (vs.map (E c))
 | .IfExp t a b _=>sQ (T c t) (E c a) (E c b)
 | .Tuple es _ _=>bj (ze (E c) es)
 | .List es pos=>if c.mt.contains pos.line then cQ (ze (E c) es) else fR (ze (E c) es)
 | .Dict ks vs pos=>DF c (E c) ks vs pos.line
 | .Subscript a i _=>SO c (E c) a i
 | .Call f es ks p=>match gJ f,Ea f,ks with | some x,_,[]=>yE c (E c) x es | none,U (o,nm,ap),[]=>yB (c.mt.contains 500000) (c.mt.contains 999000) (E c) o nm ap p es | _,_,_=>gy
 | .ListComp elt gens scope p=>lO c E T elt gens scope p.line
 | .JoinedStr es _=>Mv (E c) es
 | .FormattedValue v cv f _=>SR (E c) v cv f
 | _=>gy
def Se(E:CI->tx->ME)(T:CI->tx->MT)(c:CI):tx->MT
 | .UnaryOp op a p=>match op with | .Not=>fF (T c a) | op=>cP (E c (.UnaryOp op a p))
 | .BoolOp op vs _=>match op with | .And=>tL eU (vs.map (T c)) | .Or=>tL fP (vs.map (T c))
 | .Compare a ops bs _=>DJ c E a ops bs
 | .IfExp _ _ _ _=>At
 | e=>cP (E c e)
theorem Jw(hE:∀ c X,gx k c X->∀ e,DE X e (E c e))(hT:∀ c X,gx k c X->∀ e,DT X e (T c e))(C:gx k c X)(e:tx):DE X e (Sg E T c e):=by
 have h1:=hE c X C
 have h2:=hT c X C
 cases e with
 | Constant v j p=>exact DH v
 | Name x p=>exact Ib C x
 | BinOp a op b p=>
  show DE X _ (if c.mt.contains (p.line+700000) then MK op (E c a) (E c b) else MM (c.mt.contains (p.line+200000)) (c.mt.contains (p.line+210000)) op (E c a) (E c b))
  split
  ·exact MJ (h1 a) (h1 b)
  ·exact ML (z:=c.mt.contains (p.line+200000)) (y:=c.mt.contains (p.line+210000)) (h1 a) (h1 b)
 | UnaryOp op a p=>exact QJ (h1 a)
 | Compare a ops bs p=>exact MD C h1
 | BoolOp op vs p=>cases op with | And=>exact wg h1 vs | Or=>exact Bg h1 vs
 | IfExp t a b p=>exact bM Lb <| M.de_if (h2 t) (h1 a) (h1 b)
 | Tuple es j p=>exact bM ET <| M.Wm (gl h1 es)
 | List es p=>
  show DE X _ (if c.mt.contains p.line then cQ (ze (E c) es) else fR (ze (E c) es))
  split
  ·exact bM Av <| M.Rk (gl h1 es)
  ·exact bM EZ <| M.Wr (gl h1 es)
 | Dict ks vs p=>exact Ih C h1 ks vs p.line
 | Subscript a i p=>exact Ms C h1 a i
 | Call f es ks p=>
  show DE X _ (match gJ f,Ea f,ks with | some x,_,[]=>yE c (E c) x es | none,U (o,nm,ap),[]=>yB (c.mt.contains 500000) (c.mt.contains 999000) (E c) o nm ap p es | _,_,_=>gy)
  split
  ·rename_i x h
   obtain⟨p2,rfl⟩:=cI h
   exact Ij C h1
  ·rename_i o nm ap _ ha
   have:=BH ha
   subst this
   exact Ic C h1
  ·exact bH
 | ListComp elt gens scope p=>exact wm C hE hT
 | JoinedStr es p=>exact Ie h1 es
 | FormattedValue v cv f p=>exact Mz h1
 | _=>exact bH
theorem Ju(hE:∀ c X,gx k c X->∀ e,DE X e (E c e))(hT:∀ c X,gx k c X->∀ e,DT X e (T c e))(C:gx k c X)(e:tx):DT X e (Se E T c e):=by
 have h1:=hE c X C
 have h2:=hT c X C
 cases e with
 | UnaryOp op a p=>cases op<;>first | exact FZ As <| M.VW (h2 a) | exact FZ xS <| M.Bq (h1 _)
 | BoolOp op vs p=>cases op with | And=>exact HN h2 vs | Or=>exact LX h2 vs
 | Compare a ops bs p=>exact Ii C h1
 | IfExp t a b p=>exact ua
 | _=>exact FZ xS <| M.Bq (h1 _)
def ev:Nat->(CI->tx->ME)×(CI->tx->MT)
 | 0=>(λ_ _=>gy,λ_ _=>At)
 | n+1=>(Sg (ev n).1 (ev n).2,Se (ev n).1 (ev n).2)
theorem nq:∀ n:Nat,(∀ c X,gx k c X->∀ e,DE X e ((ev n).1 c e))/\(∀ c X,gx k c X->∀ e,DT X e ((ev n).2 c e))
 | 0=>⟨λ_ _ _ _=>bH,λ_ _ _ _=>ua⟩
 | n+1=>⟨λ_ _ C e=>Jw (nq n).1 (nq n).2 C e,λ_ _ C e=>Ju (nq n).1 (nq n).2 C e⟩
def ib:tx->Bool
 | .ListComp _ _ _ _=>false
 | .SetComp _ _ _ _=>false
 | .DictComp _ _ _ _ _=>false
 | _=>true
theorem eS(h:ib e=true):swapsWith e t l X.env=pure false:=by cases e<;>first | rfl | cases h
def vZ:tx->Bool
 | .Tuple _ _ _=>true
 | .List _ _=>true
 | _=>false
theorem CJ(h:vZ t=false\/vZ e=false):swappedStores [t] e X.env=pure Y:=by
 rcases h with h | h
 ·cases t<;>first | rfl | cases h
 ·cases t<;>first | rfl | (cases e<;>first | rfl | cases h)
def MV(c:CI)(E:CI->tx->ME)(T:CI->tx->MT)(x:Str)(px:Pos)(e:tx):MS:=match e with
 | .ListComp elt gens scope p=>if c.all&&(c.sc.names.lookup x==U .local&&px.line==p.line&&!(scope.names.any λy=>y.1==x&&(y.2==.local||y.2==.cell))) then ay (lO c E T elt gens scope p.line) (qV c x) else if c.all&&c.sc.names.lookup x==U .cell then ay (lO c E T elt gens scope p.line) (qV c x) else fQ
 | e=>if ib e then ay (E c e) (qV c x) else fQ
def Oy:tx->Option (tx×tx)
 | .Tuple [a,b] _ _=>U (a,b)
 | _=>Y
theorem vt{a b:tx}(h:Oy t=U (a,b)):∃ k p,t=.Tuple [a,b] k p:=by
 unfold Oy at h
 split at h
 ·cases h;exact⟨_,_,rfl⟩
 ·cases h
def nmP:tx->Option (Str×Pos)
 | .Name x p=>U (x,p)
 | _=>Y
theorem zV{e:tx}{x:Str}{p:Pos}(h:nmP e=U (x,p)):e=.Name x p:=by cases e<;>cases h;rfl
def par2(t:tx):Option (Str×Pos×Str×Pos):=(Oy t).bind λq=>(nmP q.1).bind λx=>(nmP q.2).bind λy=>U (x.1,x.2,y.1,y.2)
theorem GR{x y:Str}{px py:Pos}(h:par2 t=U (x,px,y,py)):∃ k p,t=.Tuple [.Name x px,.Name y py] k p:=by
 obtain⟨⟨a,b⟩,h1,h⟩:=Xc.mp h
 obtain⟨x,h2,h⟩:=Xc.mp h
 obtain⟨y,h3,h⟩:=Xc.mp h
 cases h
 cases zV h2
 cases zV h3
 exact vt h1
theorem Ch{k:Nat}{a b:tx}(h:(X.env.kindOf x==U NameKind.local&&X.env.kindOf y==U NameKind.local)=false):swappedStores [.Tuple [.Name x px,.Name y py] k p] (.Tuple [a,b] k2 p2) X.env=pure Y:=by
 unfold swappedStores
 simp only
 split
 ·rfl
 split
 ·rfl
 rw[Xq]
 generalize hg:List.filterMap _ [Expr.Name x px,Expr.Name y py]=L
 have hL:L.length<=1:=by
  rw[<- hg,XS,XS]
  cases hx:(X.env.kindOf x==U NameKind.local) with
  | false=>simp only[hx,Zs,XR,YG];split<;>simp
  | true=>
   have hy:(X.env.kindOf y==U NameKind.local)=false:=by rw[hx,abf] at h;exact h
   simp only[hy,Zs,XR,YG];split<;>simp
 have h2:(L.length != [Expr.Name x px,Expr.Name y py].length)=true:=by
  rw[bne_iff_ne];show L.length≠2;omega
 rw[h2];rfl
def EJ(c:CI)(x y:Str):Bool:=!(c.sc.names.lookup x==U .local&&c.sc.names.lookup y==U .local)
def FJ(c:CI)(E:CI->tx->ME)(t e:tx):Option MS:=match par2 t,Oy e with
 | some (x,px,y,py),U (a,b)=>if EJ c x y then U (ay (E c e) (My c (E c) t)) else match kJ x c.N,kJ y c.N with
  | some i,U j=>if (c.all&&c.sc.names.lookup x==U .local&&c.sc.names.lookup y==U .local&&!(x==y)&&py.line==px.line&&si a&&si b&&!(foldedForSure 8 a&&foldedForSure 8 b)&&!(constantsAlone 8 a&&constantsAlone 8 b)&&!(i==j))=true then U (lr i j (ze (E c) [a,b])) else Y
  | _,_=>Y
 | _,_=>Y
theorem Mt(C:gx k c X){E:CI->tx->ME}(hE:∀ e,DE X e (E c e)){m:MS}(h:FJ c E t e=U m):DS X (.Assign [t] e pos) m:=by
 unfold FJ at h
 split at h
 ·rename_i x px y py a b h1 h2
  obtain⟨k1,p1,rfl⟩:=GR h1
  obtain⟨k2,p2,rfl⟩:=vt h2
  split at h
  ·rename_i hn
   cases h
   refine gC ic <| M.Nm (hE _) (kT C hE _) rfl (Ch ?_) rfl
   unfold EJ at hn
   rw[Bool.not_eq_true'] at hn
   show(X.env.scope.names.lookup x==U NameKind.local&&X.env.scope.names.lookup y==U NameKind.local)=false
   rw[C.sc];exact hn
  split at h
  ·rename_i i j hi hj
   split at h
   ·rename_i hc
    cases h
    simp only[Xk,beq_iff_eq,Bool.not_eq_true'] at hc
    obtain⟨⟨⟨⟨⟨⟨⟨⟨⟨_,hx⟩,hy⟩,hne⟩,hl⟩,ha⟩,hb⟩,hf⟩,hcn⟩,hij⟩:=hc
    have hx':X.env.scope.names.lookup x=U .local:=by rw[C.sc];exact hx
    have hy':X.env.scope.names.lookup y=U .local:=by rw[C.sc];exact hy
    have hbk:X.env.blockKind=.function:=by unfold Env.blockKind;rw[C.sc,C.fk];rfl
    exact gC EW (M.Wa C.calm (by rw[C.N];exact C.nd) (by rw[C.N];exact bO hi) (by rw[C.N];exact bO hj) (by simpa using hij) hx' hy' (gl hE _) (Jo hbk hx' hy' hne (by simpa using hl) ha hb hf hcn))
   ·cases h
  ·cases h
 ·cases h
def MW(c:CI)(E:CI->tx->ME)(T:CI->tx->MT)(t e:tx):MS:=match t with
 | .Name x px=>MV c E T x px e
 | t=>match FJ c E t e with
 | some m=>m
 | none=>if ib e&&bP t&&(!vZ t||!vZ e) then ay (E c e) (My c (E c) t) else fQ
theorem oP{s:He}:DS X s (ay m LV):=λ_ _ _ _ _ _ z0=>by
 obtain⟨_,_,_,_,_,_,h,_⟩:=z0
 rw[ic] at h
 obtain⟨_,_,h⟩:=Xc.mp h
 cases h
theorem Ik(C:gx k c X)(hE:∀ c X,gx k c X->∀ e,DE X e (E c e))(hT:∀ c X,gx k c X->∀ e,DT X e (T c e)):DS X (.Assign [.Name x px] e pos) (MV c E T x px e):=by
 have h1:=hE c X C
 have gen:∀ e,ib e=true->DS X (.Assign [.Name x px] e pos) (ay (E c e) (qV c x)):=λe hn=>by
  unfold qV
  split
  ·rename_i h1' h2
   exact gC iF <| M.yG (by rw[C.N];exact C.nd) (by rw[C.N];exact bO h2) (by rw[C.sc];exact .inl h1') (h1 e) (eS hn) (.inr (by rw[C.sc];exact h1'))
  ·rename_i h1' h2
   split
   ·rename_i ha
    exact gC iF <| M.yG (by rw[C.N];exact C.nd) (by rw[C.N];exact bO h2) (by rw[C.sc];exact .inr h1') (h1 e) (eS hn) (.inl (C.fn ha x))
   ·exact oP
  ·exact oP
 cases e with
 | ListComp elt gens scope p=>
  show DS X _ (if c.all&&(c.sc.names.lookup x==U .local&&px.line==p.line&&!(scope.names.any λy=>y.1==x&&(y.2==.local||y.2==.cell))) then ay (lO c E T elt gens scope p.line) (qV c x) else if c.all&&c.sc.names.lookup x==U .cell then ay (lO c E T elt gens scope p.line) (qV c x) else fQ)
  split
  ·rename_i hw
   rw[Xk] at hw
   have hw1:=hw.2
   simp only[Xk,beq_iff_eq] at hw1
   have hl:=hw1.1.1
   unfold qV
   rw[hl]
   cases hi:kJ x c.N with
   | none=>exact oP
   | some i=>
    have sw:(pure (X.env.blockKind==.function&&X.env.scope.names.lookup x==U .local&&px.line==p.line&&!(scope.names.any λy=>y.1==x&&(y.2==.local||y.2==.cell))):Sem Bool)=pure true:=by
     have hb:X.env.blockKind=.function:=by unfold Env.blockKind;rw[C.sc,C.fk];rfl
     rw[hb,C.sc]
     have:=hw.2
     simp only[aaX] at this ⊢
     rw[this];rfl
    unfold lO
    split
    ·rename_i tg it ifs a
     split
     ·rename_i h
      simp only[Xk,beq_iff_eq] at h
      obtain⟨⟨h0,h1'⟩,h2⟩:=h
      subst h0
      obtain⟨B,C'⟩:=Ga C h2
      split
      ·exact gC xY <| M.Br (by rw[C.N];exact C.nd) (by rw[C.N];exact bO hi) (by rw[C.sc];exact .inl hl) C.calm B (hE _ _ C it) (λA s H fp=>kT (C' A s H fp) (hE _ _ (C' A s H fp)) tg) (λA s H fp=>rJ (hT _ _ (C' A s H fp)) ifs) (λA s H fp=>hE _ _ (C' A s H fp) elt) sw (dR h1') (.inr (by rw[C.sc];exact hl))
      ·exact gC AF <| M.DL (by rw[C.N];exact C.nd) (by rw[C.N];exact bO hi) (by rw[C.sc];exact .inl hl) C.calm B (yC C (hE _ _ C)) (λA s H fp=>kT (C' A s H fp) (hE _ _ (C' A s H fp)) tg) (λA s H fp=>rJ (hT _ _ (C' A s H fp)) ifs) (λA s H fp=>hE _ _ (C' A s H fp) elt) sw (dR h1') (.inr (by rw[C.sc];exact hl))
     ·intro _ _ _ _ _ _ ⟨_,_,_,_,_,_,h,_⟩
      rw[ic] at h
      obtain⟨_,z,h⟩:=Xc.mp h
      cases z
    ·exact Nl
  ·split
   ·rename_i hw
    rw[Xk,beq_iff_eq] at hw
    unfold qV
    rw[hw.2]
    cases hi:kJ x c.N with
    | none=>exact oP
    | some i=>
     dsimp only
     rw[Xq hw.1]
     refine gC iF <| M.yG (by rw[C.N];exact C.nd) (by rw[C.N];exact bO hi) (by rw[C.sc];exact .inr hw.2) (wm C hE hT) ?_ (.inl (C.fn hw.1 x))
     show(pure (X.env.blockKind==.function&&X.env.scope.names.lookup x==U .local&&px.line==p.line&&!(scope.names.any λy=>y.1==x&&(y.2==.local||y.2==.cell))):Sem Bool)=pure false
     rw[C.sc,hw.2]
     have:((U NameKind.cell:Option NameKind)==U .local)=false:=by decide
     rw[this,Zt];rfl
   ·exact fM
 | SetComp _ _ _ _=>exact fM
 | DictComp _ _ _ _ _=>exact fM
 | _=>exact gen _ rfl
theorem MU(C:gx k c X)(hE:∀ c X,gx k c X->∀ e,DE X e (E c e))(hT:∀ c X,gx k c X->∀ e,DT X e (T c e)){t:tx}:DS X (.Assign [t] e pos) (MW c E T t e):=by
 have gen:∀ t,DS X (.Assign [t] e pos) (match FJ c E t e with | some m=>m | none=>if ib e&&bP t&&(!vZ t||!vZ e) then ay (E c e) (My c (E c) t) else fQ):=λt=>by
  split
  ·rename_i h
   exact Mt C (hE _ _ C) h
  split
  ·rename_i h
   simp only[Xk,ZA,Bool.not_eq_true'] at h
   refine gC ic <| M.Nm (hE _ _ C e) (kT C (hE _ _ C) t) (eS h.1.1) (CJ h.2) ?_
   rw[qk h.1.2];rfl
  ·exact fM
 cases t with
 | Name x px=>exact Ik C hE hT
 | _=>exact gen _
def uB:List MS->MS
 | []=>aU
 | [m]=>m
 | m::r=>aB m (uB r)
theorem jZ{F:He->MS}(h:∀ s,DS X s (F s)):∀ ss:List He,vj X ss (uB (ss.map F))
 | []=>DU lH <| M.FP
 | [s]=>FO (h s)
 | s::s'::r=>DU EU <| M.Ng (h s) (jZ h (s'::r))
def Dp:tx->Bool
 | .Constant (.str _) _ _=>true
 | _=>false
def MR(c:CI)(E:tx->ME)(op:Operator)(e:tx):tx->MS
 | .Name x _=>match op,c.sc.names.lookup x,kJ x c.N with
  | .Add,U .local,U i=>ay (aH yz (af i) (E e)) (ag i)
  | .Add,U .cell,U i=>if c.all then ay (aH yz (af i) (E e)) (ag i) else fQ
  | _,_,_=>fQ
 | _=>fQ
theorem MQ{E:tx->ME}(C:gx k c X)(hE:∀ e,DE X e (E e))(e:tx)(t:tx):DS X (.AugAssign t op e pos) (MR c E op e t):=by
 unfold MR
 split
 ·split
  ·rename_i h1 h2
   exact gC (by rw[iF,gL,rA]) (M.Nk (by rw[C.N];exact C.nd) (by rw[C.N];exact bO h2) (by rw[C.sc];exact .inl h1) (.inr (by rw[C.sc];exact h1)) (hE e))
  ·rename_i h1 h2
   split
   ·rename_i ha
    exact gC (by rw[iF,gL,rA]) (M.Nk (by rw[C.N];exact C.nd) (by rw[C.N];exact bO h2) (by rw[C.sc];exact .inr h1) (.inl (C.fn ha _)) (hE e))
   ·exact fM
  ·exact fM
 ·exact fM
def Ge:He->Option (tx×tx)
 | .Assign ts v _=>ts.head?.bind λt=>if ts.length=1 then U (t,v) else Y
 | _=>Y
theorem nZ{s:He}{t v:tx}(h:Ge s=U (t,v)):∃ p,s=.Assign [t] v p:=by
 cases s<;>try cases h
 rename_i ts v' p
 obtain⟨t',h1,h⟩:=Xc.mp h
 split at h
 ·rename_i hl
  cases h
  cases ts with
  | nil=>cases hl
  | cons a r=>
   cases r with
   | nil=>cases h1;exact⟨_,rfl⟩
   | cons b r=>simp at hl
 ·cases h
def hdOf:ExceptHandler->Option (tx×Str×He)
 | .ExceptHandler g nm ss _=>g.bind λg=>nm.bind λnm=>ss.head?.bind λs=>if ss.length=1 then U (g,nm,s) else Y
theorem HI{k:ExceptHandler}{g:tx}{nm:Str}{s:He}(h:hdOf k=U (g,nm,s)):∃ p,k=.ExceptHandler (U g) (U nm) [s] p:=by
 cases k
 rename_i g' nm' ss p
 obtain⟨g2,rfl,h⟩:=Xc.mp h
 obtain⟨n2,rfl,h⟩:=Xc.mp h
 obtain⟨s2,h1,h⟩:=Xc.mp h
 split at h
 ·rename_i hl
  cases h
  cases ss with
  | nil=>cases hl
  | cons a r=>
   cases r with
   | nil=>cases h1;exact⟨_,rfl⟩
   | cons b r=>simp at hl
 ·cases h
def VS(A:td)(fl:Str)(c:CI)(E:tx->ME)(T:tx->MT):Nat->tx->Option MC
 | 0,_=>Y
 | n+1,.IfExp t a b _=>(VS A fl c E T n a).bind λma=>(VS A fl c E T n b).bind λmb=>U (Hq (T t) ma mb)
 | n+1,e=>match lV e with
  | some (x,a::r)=>match HL c x with
   | some (.thr k fy C f)=>if C=A/\f=fl/\(a::r).all bP=true then U (iE k fy (ze E (a::r))) else Y
   | some .blt=>if x = "tuple"/\r=[]/\bP a=true then(VS A fl c E T n a).map (KQ (aI tP)) else Y
   | _=>Y
  | _=>Y
theorem tX{A:td}{E:tx->ME}{T:tx->MT}(C:gx k c X)(hE:∀ e,DE X e (E e))(hT:∀ e,DT X e (T e)):∀ (n:Nat) {e:tx} {m:MC},VS A fl c E T n e=U m->DC X A fl e m
 | 0,_,_,h=>by cases h
 | n+1,e,m,h=>by
  unfold VS at h
  split at h
  ·cases h
  ·rename_i t a b p _
   rename_i n' _
   obtain⟨ma,h1,h⟩:=Xc.mp h
   obtain⟨mb,h2,h⟩:=Xc.mp h
   cases h
   exact M.dc_if (hT _) (tX C hE hT _ h1) (tX C hE hT _ h2)
  ·split at h
   ·rename_i x a r hc
    obtain⟨p,p2,rfl⟩:=fN hc
    split at h
    ·rename_i k fy C' f hg
     obtain⟨g,o,G⟩:=dh C hg
     split at h
     ·rename_i z
      obtain⟨rfl,rfl,z⟩:=z
      cases h
      rw[Ym,Xk] at z
      exact M.NM G C.room g (gl hE _) (bI o) (bz z.1) (gD z.2)
     ·cases h
    ·rename_i hg
     obtain⟨g,o,G⟩:=dh C hg
     split at h
     ·rename_i z
      obtain⟨rfl,rfl,z⟩:=z
      obtain⟨m',h1,rfl⟩:=YE.mp h
      exact M.Ry (IG C.calm) G g boot_tuple (tX C hE hT _ h1) (fW o) (bI o) (bz z)
     ·cases h
    ·cases h
   ·cases h
def Cd(b:List He)(h:List ExceptHandler):Option (tx×Str×Str×Str×Str):=match b,h with
 | [s],[k]=>(Ge s).bind λz=>(gJ z.1).bind λv=>(hdOf k).bind λm=>(Ge m.2.2).bind λa=>(gJ m.1).bind λg=>(gJ a.1).bind λy=>(gJ a.2).bind λn'=>
  if n'==m.2.1&&ib z.2 then U (z.2,g,m.2.1,y,v) else Y
 | _,_=>Y
theorem zl{g nm y v:Str}{e:tx}(q:Cd b h=U (e,g,nm,y,v)):ib e=true/\∃ p0 p3 p4 p5 p6 p7 p8,b=[.Assign [.Name v p0] e p3]/\h=[.ExceptHandler (U (.Name g p4)) (U nm) [.Assign [.Name y p5] (.Name nm p6) p7] p8]:=by
 unfold Cd at q
 split at q
 ·obtain⟨⟨t0,v0⟩,h1,q1⟩:=Xc.mp q
  obtain⟨v',h9,q9⟩:=Xc.mp q1
  obtain⟨⟨g',nm',s'⟩,h3,q3⟩:=Xc.mp q9
  obtain⟨⟨t,u⟩,h4,q4⟩:=Xc.mp q3
  obtain⟨g2,h5,q5⟩:=Xc.mp q4
  obtain⟨y2,h6,q6⟩:=Xc.mp q5
  obtain⟨n2,h7,q7⟩:=Xc.mp q6
  clear q q1 q3 q4 q5 q6 q9
  obtain⟨p1,rfl⟩:=nZ h1
  obtain⟨p0,rfl⟩:=cI h9
  obtain⟨p4,rfl⟩:=HI h3
  obtain⟨p5,rfl⟩:=nZ h4
  obtain⟨p6,rfl⟩:=cI h5
  obtain⟨p7,rfl⟩:=cI h6
  obtain⟨p8,rfl⟩:=cI h7
  dsimp only at q7
  split at q7
  ·rename_i z
   cases q7
   rw[Xk,beq_iff_eq] at z
   obtain⟨z,z2⟩:=z
   subst z
   exact⟨z2,_,_,_,_,_,_,_,rfl,rfl⟩
  ·cases q7
 ·cases q
def OA(c:CI)(E:tx->ME)(T:tx->MT)(b:List He)(h:List ExceptHandler):Option MS:=match Cd b h with
 | some (e,g,nm,y,v)=>match HL c g,kJ nm c.N,kJ y c.N,kJ v c.N with
  | some (.hnd A),U i,U j,U l=>if dQ nm=true/\c.sc.names.lookup nm=U .local/\c.sc.names.lookup y=U .local/\c.sc.names.lookup v=U .local then(VS A "" c E T 3 e).map λm=>oM m A "" i j l else Y
  | _,_,_,_=>Y
 | none=>Y
theorem Oz{E:tx->ME}{T:tx->MT}(C:gx k c X)(hE:∀ e,DE X e (E e))(hT:∀ e,DT X e (T e))(hx:c.nx=true){m:MS}(q:OA c E T b h=U m):DS X (.Try b h [] [] pos) m:=by
 have Z:=C.xf hx
 unfold OA at q
 split at q
 ·rename_i e g nm y v ht
  obtain⟨nc,p0,p3,p4,p5,p6,p7,p8,rfl,rfl⟩:=zl ht
  split at q
  ·rename_i A i j l hg hi hj hv
   obtain⟨gg,o,G⟩:=dh C hg
   split at q
   ·rename_i z
    obtain⟨z3,z4,z5,z7⟩:=z
    obtain⟨m',h1,rfl⟩:=YE.mp q
    exact M.QU (tX C hE hT _ h1) (λv s' w=>by rw[Z.xe] at w;exact w) G gg (by rw[C.N];exact C.nd) (by rw[C.N];exact bO hi) (by rw[C.sc];exact z4)
     (by rw[C.N];exact bO hj) (by rw[C.sc];exact z5) (by rw[C.N];exact bO hv) (by rw[C.sc];exact z7) Z.hs Z.hfm Z.hex (bI o) (bI z3) (sx z3) (eS nc)
   ·cases q
  ·cases q
 ·cases q
def Sf(E:CI->tx->ME)(T:CI->tx->MT)(F:CI->He->MS)(c:CI):He->MS
 | .Return o _=>match o with | some e=>bn (E c e) | none=>λ_ S=>U (.rt .non S)
 | .Pass _=>aU
 | .Break _=>λenv S=>U (.bk env S)
 | .Continue _=>λenv S=>U (.ct env S)
 | .Expr e _=>if Dp e then aU else if ib e then cR (E c e) else fQ
 | .If t a b _=>bN (T c t) (uB (a.map (F c))) (uB (b.map (F c)))
 | .Assign ts e _=>match ts with | [t]=>MW c E T t e | _=>fQ
 | .AugAssign t op e _=>MR c (E c) op e t
 | .Try body hs els fin _=>match hs,els,fin with | _::_,[],[]=>if c.nx then(match OA c (E c) (T c) body hs with | some m=>m | none=>fQ) else fQ | _,_,_=>fQ
 | .While tst body els _=>match els with | []=>eO (T c tst) (uB (body.map (F c))) | _=>fQ
 | .For tg it body els _=>match els with | []=>if kj it then(if SD c it then ls (evI c (E c) tg it) (My c (E c) tg) (uB (body.map (F c))) else dC (E c it) (My c (E c) tg) (uB (body.map (F c)))) else fQ | _=>fQ
 | _=>fQ
theorem Jv{F:CI->He->MS}(hE:∀ c X,gx k c X->∀ e,DE X e (E c e))(hT:∀ c X,gx k c X->∀ e,DT X e (T c e))(hF:∀ c X,gx k c X->∀ e,DS X e (F c e))(C:gx k c X)(s:He):DS X s (Sf E T F c s):=by
 have h1:=hE c X C
 have h2:=hT c X C
 have h3:=hF c X C
 cases s with
 | Return o p=>cases o with | none=>exact QV | some e=>exact gC EV <| M.VZ (h1 e)
 | Pass p=>exact gC lH <| M.QW
 | Break p=>exact Nj
 | Continue p=>exact Bs
 | Expr e p=>
  show DS X _ (if Dp e then aU else if ib e then cR (E c e) else fQ)
  split
  ·rename_i h
   unfold Dp at h
   split at h
   ·exact gC lH <| M.Wb
   ·cases h
  ·split
   ·rename_i h;exact gC Az <| M.QZ (h1 e) (eS h)
   ·exact fM
 | If t a b p=>exact gC Fb <| M.ds_if (h2 t) (jZ h3 a) (jZ h3 b)
 | Assign ts e p=>
  show DS X _ (match ts with | [t]=>MW c E T t e | _=>fQ)
  split
  ·exact MU C hE hT
  ·exact fM
 | AugAssign t op e p=>exact MQ C h1 e t
 | Try body hs els fin p=>
  show DS X _ (match hs,els,fin with | _::_,[],[]=>if c.nx then(match OA c (E c) (T c) body hs with | some m=>m | none=>fQ) else fQ | _,_,_=>fQ)
  split
  ·split
   ·rename_i hx
    split
    ·rename_i m hm
     exact Oz C h1 h2 hx hm
    ·exact fM
   ·exact fM
  ·exact fM
 | While tst body els p=>
  cases els with
  | nil=>exact gC vL <| M.Nh C.xe (h2 tst) (jZ h3 body)
  | cons _ _=>exact fM
 | For tg it body els p=>
  cases els with
  | nil=>
   show DS X _ (if kj it then(if SD c it then ls (evI c (E c) tg it) (My c (E c) tg) (uB (body.map (F c))) else dC (E c it) (My c (E c) tg) (uB (body.map (F c)))) else fQ)
   split
   ·rename_i h
    split
    ·exact gC Fc <| M.Ni C.xe C.calm (yC C h1) (kT C h1 tg) (jZ h3 body) (dR h)
    ·exact gC Ax <| M.QY C.xe C.calm (h1 it) (kT C h1 tg) (jZ h3 body) (dR h)
   ·exact fM
  | cons _ _=>exact fM
 | _=>exact fM
def evS(n:Nat):Nat->CI->He->MS
 | 0=>λ_ _=>fQ
 | m+1=>Sf (ev n).1 (ev n).2 (evS n m)
theorem DB(n:Nat):∀ m:Nat,∀ c X,gx k c X->∀ s,DS X s (evS n m c s)
 | 0=>λ_ _ _ _=>fM
 | m+1=>λ_ _ C s=>Jv (nq n).1 (nq n).2 (DB n m) C s
def Jp:tx->Option (tx×tx)
 | .Subscript o q _=>U (o,q)
 | _=>Y
theorem rT{e o q:tx}(h:Jp e=U (o,q)):∃ p,e=.Subscript o q p:=by cases e<;>cases h;exact⟨_,rfl⟩
def Sh:He->Option tx
 | .Return v _=>v
 | _=>Y
theorem Cs{s:He}{e:tx}(h:Sh s=U e):∃ p,s=.Return (U e) p:=by cases s<;>cases h;exact⟨_,rfl⟩
def dAsg(s:He):Option (Str×Str×tx):=(Ge s).bind λa=>(gJ a.1).bind λb=>(Jp a.2).bind λq=>(gJ q.1).bind λx=>(Jp q.2).bind λ_=>U (b,x,q.2)
theorem Iu{s:He}{b x:Str}{ix:tx}(h:dAsg s=U (b,x,ix)):kY ix/\∃ pb pt ps pa,s=.Assign [.Name b pb] (.Subscript (.Name x pt) ix ps) pa:=by
 obtain⟨⟨t,v⟩,h1,h⟩:=Xc.mp h
 obtain⟨b,h2,h⟩:=Xc.mp h
 obtain⟨⟨o,i⟩,h3,h⟩:=Xc.mp h
 obtain⟨x,h4,h⟩:=Xc.mp h
 obtain⟨⟨o2,i2⟩,h5,h⟩:=Xc.mp h
 cases h
 obtain⟨pa,rfl⟩:=nZ h1
 obtain⟨pb,rfl⟩:=cI h2
 obtain⟨ps,rfl⟩:=rT h3
 obtain⟨pt,rfl⟩:=cI h4
 obtain⟨p,rfl⟩:=rT h5
 exact⟨by intro _ _;rfl,_,_,_,_,rfl⟩
def dRet(s:He):Option (Str×tx×List tx):=(Sh s).bind λv=>(lV v).bind λp=>p.2.head?.bind λe=>U (p.1,e,p.2.tail)
theorem Ir{s:He}{b:Str}{e:tx}{es:List tx}(h:dRet s=U (b,e,es)):∃ p pc pr,s=.Return (U (.Call (.Name b p) (e::es) [] pc)) pr:=by
 obtain⟨v,h1,h⟩:=Xc.mp h
 obtain⟨⟨b,l⟩,h2,h⟩:=Xc.mp h
 obtain⟨e,h3,h⟩:=Xc.mp h
 cases h
 obtain⟨pr,rfl⟩:=Cs h1
 obtain⟨p,pc,rfl⟩:=fN h2
 cases l<;>cases h3
 exact⟨_,_,_,rfl⟩
def SW(c:CI)(b x:Str)(ix:tx)(e:tx)(es:List tx):Option MS:=match kJ b c.N,HL c x with
 | some i,U (.ftab l)=>if dQ b&&c.sc.names.lookup b==U .local&&(e::es).all bP then U (je l i ((ev 40).1 c ix) (ze ((ev 40).1 c) (e::es))) else Y
 | _,_=>Y
def yI(c:CI):List He->Option MS
 | [s,t]=>match dAsg s,dRet t with
  | some (b,x,ix),U (b',e,es)=>if b'==b then SW c b x ix e es else Y
  | _,_=>Y
 | _=>Y
theorem Im(C:gx k c X){m:MS}(h:yI c body=U m):vj X body m:=by
 unfold yI at h
 split at h
 ·rename_i s t
  split at h
  ·rename_i b x ix b' e es h1 h2
   obtain⟨hs,pb,pt,ps,pa,rfl⟩:=Iu h1
   obtain⟨p,pc,pr,rfl⟩:=Ir h2
   split at h
   ·rename_i hb
    rw[beq_iff_eq] at hb;subst hb
    unfold SW at h
    split at h
    ·rename_i i l hi hg
     obtain⟨g,o,G⟩:=dh C hg
     split at h
     ·rename_i hc
      simp only[Xk,beq_iff_eq] at hc
      obtain⟨⟨o1,h3⟩,h4⟩:=hc
      cases h
      rw[Ym,Xk] at h4
      exact DU AA <| M.Nf G g (bI o) ((nq 40).1 _ _ C ix) hs C.room (gl ((nq 40).1 _ _ C) _) (by rw[C.N];exact C.nd) (by rw[C.N];exact bO hi) (by rw[C.sc];exact .inl h3) (by rw[C.sc];exact .inl h3) (.inr (by rw[C.sc];exact h3)) (bI o1) (sx o1)
       (by rw[C.N];exact(Xe.mp (bO hi)).1) (bz h4.1) (gD h4.2)
     ·cases h
    ·cases h
   ·cases h
  ·cases h
 ·cases h
def iu(c:CI)(body:List He):MS:=match yI c body with
 | some m=>m
 | none=>uB (body.map (evS 40 20 c))
theorem MN(C:gx k c X)(body:List He):vj X body (iu c body):=by
 unfold iu
 cases h:yI c body with
 | some m=>exact Im C h
 | none=>exact jZ (DB 40 20 c X C) body
end
end
def jo(N:List Str)(st:He)(gs:List (Str×GI))(mt:List Nat):CI:=⟨N,ar st,true,gs,mt,true⟩
def GK(P:vx)(w:Gs)(K:QF)(mg:Str->Option bd)(base:Jq)(k:Nat)(p:Str×GI):Prop:=match p.2 with
 | .fn n f=>Fn P w K mg base k p.1 n f
 | .con d=>GC K mg p.1 d
 | .blt=>mg p.1=Y
 | .tab l=>uu w K mg p.1 l
 | .ftab l=>FTab P w K mg base k p.1 l
 | .thr n fy C fl=>FnY P w K mg base k p.1 n fy C fl
 | .cls C b=>ClsOk K mg p.1 C b
 | .hnd C=>BM K mg p.1 C
 | .rse C fl=>BJ P w K mg base p.1 C fl
theorem Nx{K:QF}{k:Nat}{st:He}{gs:List (Str×GI)}{mt:List Nat}
  (F:bB K mg x st) (Sc:aN N ps (ar st)) (hb:oi x st ps) (hg:∀ p∈gs,GK P w K mg base k p) :
  Fn P w K mg base (k+1) x ps.length (aT N (iu (jo N st gs mt) (aD st)) ps.length):=
 Wl F Sc hb λa cdv A outer s H E hr=>MN (k:=k) ⟨rfl,Sc.nd,rfl,Sc.kind,λ_ _=>rfl,rfl,hr,aaO,λ_=>⟨rfl,rfl,rfl,rfl⟩,λp hp=>by
  have:=hg p hp
  obtain⟨x,g⟩:=p
  cases g<;>exact this⟩ _
section
variable{k:Nat}{c:CI}{X:Cx}{A:td}{fl:Str}{E':XK}{pos:Pos}
def Cn:List MY->MY
 | []=>gA aU
 | [m]=>m
 | m::r=>bQ m (Cn r)
theorem mf{F:He->MY}(h:∀ s,DY X A fl E' s (F s)):∀ ss:List He,Oi X A fl E' ss (Cn (ss.map F))
 | []=>by show Oi X A fl E' [] (gA aU);rw[lH];exact QP
 | [s]=>QO (h s)
 | s::s'::r=>MX (h s) (mf h (s'::r))
def Cu(A:td)(fl:Str)(c:CI)(E:tx->ME)(ex:tx):Option MY:=match lV ex with
 | some (x,[a])=>match HL c x with
  | some (.rse C f)=>if C=A/\f=fl/\bP a=true then U (jd (E a)) else Y
  | _=>Y
 | _=>Y
theorem GH{E:tx->ME}(C:gx k c X)(O:WN X E')(hE:∀ e,DE X e (E e)){m:MY}(h:Cu A fl c E ex=U m):DY X A fl E' (.Raise (U ex) Y pos) m:=by
 unfold Cu at h
 split at h
 ·rename_i x a hc
  obtain⟨p,p2,rfl⟩:=fN hc
  split at h
  ·rename_i C' f hg
   obtain⟨g,o,R⟩:=dh C hg
   split at h
   ·rename_i z
    obtain⟨rfl,rfl,z⟩:=z
    cases h
    exact Na R g (hE a) C.calm O (bI o) (bz z)
   ·cases h
  ·cases h
 ·cases h
def isRz:He->Bool
 | .If _ (.Raise _ _ _::_) _ _=>true
 | _=>false
def Jt(A:td)(fl:Str)(E:CI->tx->ME)(T:CI->tx->MT)(F:CI->He->MS)(Y0:CI->He->MY)(c:CI):He->MY
 | .Raise (U ex) Y _=>match Cu A fl c (E c) ex with | some m=>m | none=>gA fQ
 | .If t a b _=>pR (T c t) (Cn (a.map (Y0 c))) (Cn (b.map (Y0 c)))
 | .For tg it body [] p=>if kj it&&body.any isRz then ER (evI c (E c) tg it) (My c (E c) tg) (Cn (body.map (Y0 c))) else gA (F c (.For tg it body [] p))
 | .While t body [] _=>jc (T c t) (Cn (body.map (Y0 c)))
 | .Return (U e) p=>match VS A fl c (E c) (T c) 3 e with | some m=>An m | none=>gA (F c (.Return (U e) p))
 | s=>gA (F c s)
theorem Js{E:CI->tx->ME}{T:CI->tx->MT}{F:CI->He->MS}{Y0:CI->He->MY}(hE:∀ c X,gx k c X->∀ e,DE X e (E c e))(hT:∀ c X,gx k c X->∀ e,DT X e (T c e))(hF:∀ c X,gx k c X->∀ e,DS X e (F c e))(hY:∀ c X,gx k c X->WN X E'->∀ s,DY X A fl E' s (Y0 c s))(C:gx k c X)(O:WN X E')(s:He):DY X A fl E' s (Jt A fl E T F Y0 c s):=by
 have h1:=hE c X C
 have h4:=hY c X C O
 unfold Jt
 split
 ·split
  ·rename_i h;exact GH C O h1 h
  ·exact Bp fM
 ·exact dy_if (hT c X C _) (mf h4 _) (mf h4 _)
 ·split
  ·rename_i h
   rw[Xk] at h
   exact VU C.xe C.calm (yC C h1) (kT C h1 _) (mf h4 _) (dR h.1)
  ·exact Bp (hF c X C _)
 ·exact MZ C.xe (hT c X C _) (mf h4 _)
 ·split
  ·rename_i h;exact QQ (tX C h1 (hT c X C) _ h) O
  ·exact Bp (hF c X C _)
 ·exact Bp (hF c X C _)
def evY(A:td)(fl:Str)(n:Nat):Nat->CI->He->MY
 | 0=>λ_ _=>gA fQ
 | m+1=>Jt A fl (ev n).1 (ev n).2 (evS n m) (evY A fl n m)
theorem Mr(n:Nat):∀ m:Nat,∀ c X,gx k c X->WN X E'->∀ s,DY X A fl E' s (evY A fl n m c s)
 | 0=>λ_ _ _ _ _=>Bp fM
 | m+1=>λ_ _ C O s=>Js (nq n).1 (nq n).2 (DB n m) (Mr n m) C O s
def HZ(A:td)(fl:Str)(c:CI)(body:List He):MY:=Cn (body.map (evY A fl 40 20 c))
end
def RF(N:List Str)(st:He)(gs:List (Str×GI))(mt:List Nat):CI:=⟨N,ar st,true,gs,mt,false⟩
theorem Ce{K:QF}{k:Nat}{st:He}{gs:List (Str×GI)}{mt:List Nat}
  (F:bB K mg x st) (Sc:aN N ps (ar st)) (hb:oi x st ps) (hg:∀ p∈gs,GK P w K mg base k p) :
  FnY P w K mg base (k+1) x ps.length (nB N (HZ C fl (RF N st gs mt) (aD st)) ps.length) C fl:=
 Vw F Sc hb λa cdv A outer s H E hr=>mf (Mr 40 20 _ _ (k:=k) ⟨rfl,Sc.nd,rfl,Sc.kind,λ_ _=>rfl,rfl,hr,PassesOwn.leaving,(λz=>by cases z),λp hp=>by
  have:=hg p hp
  obtain⟨x,g⟩:=p
  cases g<;>exact this⟩ xok) _
def GKs(P:vx)(w:Gs)(K:QF)(mg:Str->Option bd)(base:Jq)(k:Nat):List (Str×GI)->Prop
 | []=>True
 | p::r=>GK P w K mg base k p/\GKs P w K mg base k r
theorem GKs.mem{K:QF}{k:Nat}:∀ {gs:List (Str×GI)},GKs P w K mg base k gs->∀ p∈gs,GK P w K mg base k p
 | q::r,h,p,hp=>by
  rcases XD.mp hp with rfl | hp
  ·exact h.1
  ·exact GKs.mem h.2 p hp
theorem UO{K:QF}{k:Nat}{st:He}{mt:List Nat}(F:bB K mg "law" st)(hfa:mg "law" = U (.ref fa))(Sc:aN N ["_law_script"] (ar st))
  (hbt:∀ (kV doc pm:bd) (an:Option td) (cdv ct v:bd),bindArgs (W.fnOf "law" "law" (ie st) (aD st) (ar st) .none kV doc pm an cdv ct) ⟨[v],[]⟩=pure [(("_law_script":Str),v)])
  (hg:∀ base,GKs P w K mg base k gs) :
  ∃ fd:FuncData,(∀ (s:gV) (v:bd),BindsTo s fd ⟨[v],[]⟩ [("_law_script",v)])/\∀ base:Jq,K.In base->base.Ns Lg mg->FnOk P w K mg base Gj (k+1) fa fd ["_law_script"] (Jy K 1 (aT N (iu (jo N st gs mt) (aD st)) 1)):=
 UN F hfa Sc hbt λbase a cdv A outer s H E hr=>MN (k:=k) ⟨rfl,Sc.nd,rfl,Sc.kind,λ_ _=>rfl,rfl,hr,aaO,λ_=>⟨rfl,rfl,rfl,rfl⟩,λp hp=>by
  have:=GKs.mem (hg base) p hp
  obtain⟨x,g⟩:=p
  cases g<;>exact this⟩ _
section
variable{P:List bd->Prop}
theorem jB(h:P []):∀ us:List bd,us.length=0->P us:=λus e=>by rw[Yv e];exact h
theorem cE{n:Nat}(h:∀ a,∀ us:List bd,us.length=n->P (a::us)):∀ us:List bd,us.length=n+1->P us:=λus e=>by
 cases us with
 | nil=>cases e
 | cons a us=>exact h a us (abn e)
end
def JM(N:List Str)(st:He)(gs:List (Str×GI))(mt:List Nat)(x:Str)(a:Nat):Nat->List D->aa->Option (D×aa)
 | 0=>λ_ _=>Y
 | n+1=>aT N (iu (jo N st ((x,.fn a (JM N st gs mt x a n))::gs) mt) (aD st)) a
section
variable{P:vx}{w:Gs}{K:QF}{mg:Str->Option bd}{base:Jq}{k:Nat}{x:Str}{st:He}{N ps:List Str}{gs:List (Str×GI)}{mt:List Nat}
theorem GK.up{k':Nat}(h:k<=k'):∀ {p:Str×GI},GK P w K mg base k p->GK P w K mg base k' p
 | (_,.fn _ _),g=>Fn.up g h
 | (_,.con _),g=>g
 | (_,.blt),g=>g
 | (_,.tab _),g=>g
 | (_,.ftab _),g=>FTab.up g h
 | (_,.thr _ _ _ _),g=>FnY.up g h
 | (_,.cls _ _),g=>g
 | (_,.hnd _),g=>g
 | (_,.rse _ _),g=>g
theorem QA(F:bB K mg x st)(Sc:aN N ps (ar st))(hb:oi x st ps):Fn P w K mg base (k+1) x ps.length (λ_ _=>Y):=by
 obtain⟨a,fd,F,hmg⟩:=F.ex
 exact SL F Sc hmg (F.binds hb) λcdv A outer s H E hr=>⟨fQ,VY,λds S d S' _ _ _ h=>by cases h⟩
theorem JL(F:bB K mg x st)(Sc:aN N ps (ar st))(hb:oi x st ps)(hg:GKs P w K mg base k gs):∀ n,Fn P w K mg base (k+1+n) x ps.length (JM N st gs mt x ps.length n)
 | 0=>QA F Sc hb
 | n+1=>Nx (k:=k+1+n) F Sc hb λp hp=>by
  rcases XD.mp hp with rfl | hp
  ·exact JL F Sc hb hg n
  ·exact GK.up (by omega) (GKs.mem hg p hp)
end
def kE(P:Params)(x:Str)(t:Nat)(v:bd):DictEntry:=⟨PyData.keyHash P x,.str x t,v⟩
def kC(x:Str)(t l n a b:Nat)(u v:bd)(c d:Nat):Obj:=⟨.type "code",Y,.fields #[.str x t,.str x (t+1),.str "/claim/cut.py" (t+2),.int l 0,.int n 0,.int 0 0,.int 0 0,.int 3 0,.ref a,.bool true,.int 181 0,.ref b,.none,u,v,.ref c,.int d 0,.int l 0,.str "/claim/cut.py" (d+1)],#[]⟩
def kF(x:Str)(st:He)(m:Str)(t c:Nat):Obj:=⟨.type "function",Y,.func (W.fnOf x x (ie st) (aD st) (ar st) .none .none .none (.str m t) Y (.ref c) .none),#[]⟩
theorem da{K:QF}(X:K.In h)(G:h.Ns Lg mg){st:He}(m:Str)(f t c:Nat)(e:(W.nsIn K Lg x,K.lookup f,W.codeIn K (.ref c) x,W.keepIn K (.ref f))=(U (U (.ref f)),U (kF x st m t c),true,true):=by kernel_rfl):bB K mg x st:=by
 have e1:=congrArg (·.1) e
 have e2:=congrArg (·.2.1) e
 have e3:=congrArg (·.2.2.1) e
 have e4:=congrArg (·.2.2.2) e
 exact⟨_,_,Vu (st:=st) (show K.lookup f=U ⟨.type "function",Y,.func (W.fnOf x x (ie st) (aD st) (ar st) .none .none .none (.str m t) Y (.ref c) .none),#[]⟩ from e2) e3 e4,Zi X G e1⟩
theorem bp{K:QF}{k:Nat}{st:He}{mt:List Nat}
  (F:bB K mg x st) (Sc:aN N ps (ar st)) (hb:oi x st ps) (hg:GKs P w K mg base k gs):Fn P w K mg base (k+1) x ps.length (aT N (iu (jo N st gs mt) (aD st)) ps.length):=Nx F Sc hb (GKs.mem hg)
theorem lg{m:MS}(h:iu c b=m):aT N (iu c b) n=aT N m n:=by rw[h]
def kX(x:Str)(C N:Nat)(bs bm sub:List bd)(a t u:Nat):Obj:=excClassObj x x C N bs bm true [] sub false Y Y (U (.ref a)) Y (U (.str x t)) (U (.str x u)) (U (.bool true)) "ValueError.__new__"
def strB(es:Array DictEntry):Bool:=es.toList.all λe=>match e.key with | .str _ _=>true | _=>false
theorem OG(h:strB es=true):StrKeys es:=λe he=>by
 have:=Xu.mp h e (by simpa using he)
 split at this
 ·exact⟨_,_,by assumption⟩
 ·cases this
def nsX(K:QF)(N:td)(y:Str):Option (Option bd):=match K.lookup N with
 | some ⟨_,_,.dict es _,_⟩=>if strB es=true then U ((es.toList.find? (·.key.isStr y)).map (·.val)) else Y
 | _=>Y
theorem Kt{K:QF}{v:Option bd}(h:nsX K N y=U v):∃ m:Str->Option bd,m y=v/\∀ h:Jq,K.In h->h.Ns N m:=by
 unfold nsX at h
 split at h
 ·rename_i c d es n sl q
  split at h
  ·rename_i hs
   cases h
   exact⟨nsFind es,by unfold nsFind findBy;rw[<- Array.find?_toList],λh X=>⟨_,es,n,X _ _ q,rfl,OG hs,λ_=>rfl⟩⟩
  ·cases h
 ·cases h
theorem isK{K:QF}{bs sub:List bd}(e:K.lookup C=U (kX x C N bs bm sub a t u)):ux K C bm:=⟨_,_,_,_,_,_,_,_,_,_,_,_,_,_,_,_,λh X=>X _ _ e⟩
section
variable{w:Gs}{K:QF}{h:Jq}{mg:Str->Option bd}
theorem rseK(X:K.In h)(G:h.Ns Lg mg)(C N Gd NG aC tC uC aG tG uG:Nat)(subC subG:List bd)
  (e:(W.nsIn K Lg x,K.lookup C,K.lookup Gd,nsX K N "__init__",nsX K NG "__init__") =
   (U (U (.ref C)),U (kX x C N [.ref Gd] (.ref Gd::HT.ly) subC aC tC uC),U (kX g Gd NG [.type "ValueError"] HT.ly subG aG tG uG),U Y,U Y)) :
  ∀ P base,BJ P w K mg base x C "":=λP base=>by
 have e1:=congrArg (·.1) e
 have e2:=congrArg (·.2.1) e
 have e3:=congrArg (·.2.2.1) e
 obtain⟨mN,hm,hN⟩:=Kt (congrArg (·.2.2.2.1) e)
 obtain⟨mG,hg,hG⟩:=Kt (congrArg (·.2.2.2.2) e)
 dsimp only at e1 e2 e3
 exact⟨⟨_,_,N,_,_,_,_,_,_,_,_,_,_,_,_,_,_,mN,HT.ly,"ValueError",_,hm,F.excBase_ValueError,(show(Value.ref Gd::HT.ly).contains (.type "BaseException")=true from rfl),λh X=>⟨X _ _ e2,hN h X,.own (X _ _ e3) (hG h X) hg .base⟩⟩,Zi X G e1⟩
theorem hndK(X:K.In h)(G:h.Ns Lg mg)(C N Gd NG aC tC uC aG tG uG:Nat)(bs bm bsG bmG subC subG:List bd)
  (e:(W.nsIn K Lg g,K.lookup C,K.lookup Gd,(Value.ref C::bm).contains (.ref Gd),bmG.contains (.type "BaseException"))=(U (U (.ref Gd)),U (kX x C N bs bm subC aC tC uC),U (kX g Gd NG bsG bmG subG aG tG uG),true,true)):BM K mg g C:=
 ⟨Gd,bm,bmG,Zi X G (congrArg (·.1) e),isK (congrArg (·.2.1) e),isK (congrArg (·.2.2.1) e),congrArg (·.2.2.2.1) e,congrArg (·.2.2.2.2) e⟩
theorem RB(X:K.In h)(G:h.Ns Lg mg){b:Bool}(C A:Nat)(O:IP K C)(e:(W.nsIn K Lg x,W.kitOne K (.ref C) (.ref A))=(U (U (.ref A)),U b)):ClsOk K mg x C b:=
 ⟨.ref A,.ref A,.inl (Zi X G (congrArg (·.1) e)),rfl,λ_ z=>z,congrArg (·.2) e,O⟩
theorem clsT(X:K.In h)(G:h.Ns Lg mg){x:Str}{b:Bool}(C:Nat)(O:IP K C)(hn:x≠"__name__")(hb:bootBuiltins x=U (.type T))(e:(W.nsIn K Lg x,W.kitOne K (.ref C) (.type T))=(U Y,U b)):ClsOk K mg x C b:=
 ⟨.ty T,.type T,.inr ⟨Yo X G (congrArg (·.1) e),hb,hn⟩,rfl,λ_ z=>z,congrArg (·.2) e,O⟩
end
theorem meY{A:td}{m:MY}(h:HZ A fl c b=m):nB N (HZ A fl c b) n=nB N m n:=by rw[h]
section
variable{env e:aE}{S S':aa}{x y d:D}{f g:aa->D->D->Option D}{a b c:ME}{ms:MA}{t u:MT}{k l:Bool}{p q:MS}{tg:MG}
@[simp high] theorem ob{α β:Type}{a:α}{f:α->Option β}:(U a).bind f=f a:=id rfl
@[simp high] theorem obn{α β:Type}{f:α->Option β}:(Y:Option α).bind f=Y:=id rfl
@[simp high] theorem oj{α:Type}{a:Option α}:(U a).join=a:=rfl
@[simp high] theorem bG{α:Type}{a:α}{l:List α}:(a::l)[0]?=U a:=rfl
@[simp high] theorem bK{α:Type}{a b:α}{l:List α}:(a::b::l)[1]?=U b:=rfl
@[simp high] theorem bJ{α:Type}{a:α}{l:List α}{i:Nat}:(a::l)[i+1]?=l[i]?:=rfl
@[simp high] theorem eR{α:Type}{a b:α}{l:List α}:(a::l).set 0 b=b::l:=rfl
@[simp high] theorem fj{α:Type}{a b:α}{l:List α}{i:Nat}:(a::l).set (i+1) b=a::l.set i b:=rfl
def AQ(S:aa)(z:D):Option (D×aa):=U (z,S)
@[simp] theorem aj:AQ S d=U (d,S):=rfl
@[simp] theorem bq:mC d env S=U (d,S):=by rw[sS];rfl
@[simp] theorem ak:af i env S=(env[i]?).join.bind (AQ S):=by rw[rA];rfl
def Vd(f:aa->D->D->Option D)(x:D)(q:D×aa):Option (D×aa):=(f q.2 x q.1).bind (AQ q.2)
def kOp1(f:aa->D->D->Option D)(b:ME)(env:aE)(q:D×aa):Option (D×aa):=(b env q.2).bind (Vd f q.1)
@[simp] theorem ax:kOp1 f b env (x,S)=(b env S).bind (Vd f x):=id rfl
@[simp] theorem aw:Vd f x (y,S)=(f S x y).bind (AQ S):=id rfl
@[simp] theorem aQ:aH f a b env S=(a env S).bind (kOp1 f b env):=by rw[gL];rfl
def Ss(q:D×aa):Option (Bool×aa):=match q.1 with | .bl k=>U (k,q.2) | _=>Y
@[simp] theorem aF:Ss (.bl k,S)=U (k,S):=id rfl
@[simp] theorem aK:az a env S=(a env S).bind Ss:=by rw[Ap];rfl
def AM(q:D×aa):Option (Bool×aa):=(rQ q.2 q.1).bind λk=>U (k,q.2)
@[simp] theorem hJ:AM (.bl k,S)=U (k,S):=id rfl
@[simp] theorem kTru_n:AM (.non,S)=U (false,S):=id rfl
@[simp] theorem kTru_i:AM (.int i,S)=U (i != 0,S):=id rfl
@[simp] theorem kTru_t:AM (.tup xs,S)=U (!xs.isEmpty,S):=id rfl
@[simp] theorem kTru_l:AM (.lst xs,S)=U (!xs.isEmpty,S):=id rfl
@[simp] theorem fY:cP a env S=(a env S).bind AM:=by rw[xS];rfl
def LF(u:MT)(env:aE)(q:Bool×aa):Option (Bool×aa):=if q.1=true then u env q.2 else U (false,q.2)
def Vc(u:MT)(env:aE)(q:Bool×aa):Option (Bool×aa):=if q.1=true then U (true,q.2) else u env q.2
def Sv(q:Bool×aa):Option (Bool×aa):=U (!q.1,q.2)
@[simp] theorem Qo:LF u env (true,S)=u env S:=id rfl
@[simp] theorem kAndT_f:LF u env (false,S)=U (false,S):=id rfl
@[simp] theorem Lq:Vc u env (true,S)=U (true,S):=id rfl
@[simp] theorem pX:Vc u env (false,S)=u env S:=id rfl
@[simp] theorem Fk:Sv (k,S)=U (!k,S):=id rfl
@[simp] theorem Qb:eU t u env S=(t env S).bind (LF u env):=by rw[sT];rfl
@[simp] theorem nI:fP t u env S=(t env S).bind (Vc u env):=by rw[xT];rfl
@[simp] theorem EY:fF t env S=(t env S).bind Sv:=by rw[As];rfl
@[simp] theorem mq:bU env S=U (true,S):=by rw[Ao];rfl
def Vk(b:ME)(env:aE)(q:D×aa):Option (D×aa):=(rQ q.2 q.1).bind λk=>if k=true then b env q.2 else U (q.1,q.2)
def kOr(b:ME)(env:aE)(q:D×aa):Option (D×aa):=(rQ q.2 q.1).bind λk=>if k=true then U (q.1,q.2) else b env q.2
@[simp] theorem LD:Vk b env (.bl true,S)=b env S:=id rfl
@[simp] theorem Vj:Vk b env (.bl false,S)=U (.bl false,S):=id rfl
@[simp] theorem kOr_t:kOr b env (.bl true,S)=U (.bl true,S):=id rfl
@[simp] theorem kOr_f:kOr b env (.bl false,S)=b env S:=id rfl
@[simp] theorem Dg:iG a b env S=(a env S).bind (Vk b env):=by rw[Fe];rfl
@[simp] theorem mOr_s:Ho a b env S=(a env S).bind (kOr b env):=by rw[KT];rfl
def AR(q:D×aa):Option (D×aa):=(rQ q.2 q.1).bind λk=>U (.bl (!k),q.2)
@[simp] theorem Qj:AR (.lst xs,S)=U (.bl (!!xs.isEmpty),S):=id rfl
@[simp] theorem kNotV_t:AR (.tup xs,S)=U (.bl (!!xs.isEmpty),S):=id rfl
@[simp] theorem kOr_c{d:D}{ds:List D}:kOr b env (.lst (d::ds),S)=U (.lst (d::ds),S):=id rfl
@[simp] theorem kOr_e:kOr b env (.lst [],S)=b env S:=id rfl
@[simp] theorem kNotV_s:AR (.bl k,S)=U (.bl (!k),S):=id rfl
@[simp] theorem EX:lh a env S=(a env S).bind AR:=by rw[Ar];rfl
def kIf(a b:ME)(env:aE)(q:Bool×aa):Option (D×aa):=if q.1=true then a env q.2 else b env q.2
@[simp] theorem Fo:kIf a b env (true,S)=a env S:=id rfl
@[simp] theorem Ls:kIf a b env (false,S)=b env S:=id rfl
@[simp] theorem oO:sQ t a b env S=(t env S).bind (kIf a b env):=by rw[Lb];rfl
@[simp] theorem av:ai env S=U ([],S):=by rw[xV];rfl
def Dk(x:D)(q:List D×aa):Option (List D×aa):=U (x::q.1,q.2)
def LA(ms:MA)(env:aE)(q:D×aa):Option (List D×aa):=(ms env q.2).bind (Dk q.1)
@[simp] theorem al{xs:List D}:Dk x (xs,S)=U (x::xs,S):=id rfl
@[simp] theorem am:LA ms env (x,S)=(ms env S).bind (Dk x):=id rfl
@[simp] theorem aq:ac a ms env S=(a env S).bind (LA ms env):=by rw[AD];rfl
def cK(q:List D×aa):Option (D×aa):=if q.1.length<=KY then U (.tup q.1,q.2) else Y
def pY(q:List D×aa):Option (D×aa):=if q.1.length<=KY then U (.lst q.1,q.2) else Y
def qu(q:List D×aa):Option (D×aa):=if q.1.length<=KY then U (.ref q.2.length,q.2++[.lst q.1]) else Y
theorem sz{n:Nat}(h:n<=5000):n<=KY:=XN h (by decide)
theorem bb{xs:List D}(h:xs.length<=5000):cK (xs,S)=U (.tup xs,S):=Xq (sz h)
theorem gd{xs:List D}(h:xs.length<=5000):pY (xs,S)=U (.lst xs,S):=Xq (sz h)
theorem jJ{xs:List D}(h:xs.length<=5000):qu (xs,S)=U (.ref S.length,S++[.lst xs]):=Xq (sz h)
def de:∀ S (x y:D),cK ([x,y],S)=U (.tup [x,y],S):=λS x y=>bb (by simp)
def dn:∀ S (x:D),cK ([x],S)=U (.tup [x],S):=λS x=>bb (by simp)
def sG:∀ S (x y z u:D),cK ([x,y,z,u],S)=U (.tup [x,y,z,u],S):=λS x y z u=>bb (by simp)
def tz:∀ S (x:D),qu ([x],S)=U (.ref S.length,S++[.lst [x]]):=λS x=>jJ (by simp)
def AX:∀ S (x y z:D),cK ([x,y,z],S)=U (.tup [x,y,z],S):=λS x y z=>bb (by simp)
def CU:∀ S,qu ([],S)=U (.ref S.length,S++[.lst []]):=λS=>jJ (by simp)
def De:∀ S (x y:D),pY ([x,y],S)=U (.lst [x,y],S):=λS x y=>gd (by simp)
def Et:∀ S (x y z u:D),pY ([x,y,z,u],S)=U (.lst [x,y,z,u],S):=λS x y z u=>gd (by simp)
@[simp] theorem bu:bj ms env S=(ms env S).bind cK:=by rw[ET];rfl
@[simp] theorem xW:fR ms env S=(ms env S).bind pY:=by rw[EZ];rfl
@[simp] theorem oN:cQ ms env S=(ms env S).bind qu:=by rw[Av];rfl
def Sz(f:List D->aa->Option (D×aa))(q:List D×aa):Option (D×aa):=f q.1 q.2
@[simp] theorem cH{f:List D->aa->Option (D×aa)}{xs:List D}:Sz f (xs,S)=f xs S:=id rfl
@[simp] theorem cG{f:List D->aa->Option (D×aa)}:bo f ms env S=(ms env S).bind (Sz f):=by rw[gO];rfl
def nP(n:Nat)(f:List D->aa->Option (D×aa))(q:List D×aa):Option (D×aa):=if q.1.length=n then f q.1 q.2 else Y
@[simp] theorem kCallN_0{f:List D->aa->Option (D×aa)}:nP 0 f ([],S)=f [] S:=id rfl
@[simp] theorem lJ{f:List D->aa->Option (D×aa)}:nP 1 f ([x],S)=f [x] S:=id rfl
@[simp] theorem ba{f:List D->aa->Option (D×aa)}:nP 2 f ([x,y],S)=f [x,y] S:=id rfl
@[simp] theorem cC{f:List D->aa->Option (D×aa)}{z:D}:nP 3 f ([x,y,z],S)=f [x,y,z] S:=id rfl
@[simp] theorem tm{f:List D->aa->Option (D×aa)}{z w:D}:nP 4 f ([x,y,z,w],S)=f [x,y,z,w] S:=id rfl
@[simp] theorem aA{n:Nat}{f:List D->aa->Option (D×aa)}:ao n f ms env S=(ms env S).bind (nP n f):=by rw[pV];rfl
def kIsI(T:String)(q:D×aa):Option (D×aa):=(lu T q.2 q.1).bind (AQ q.2)
@[simp] theorem Lr:kIsI T (x,S)=(lu T S x).bind (AQ S):=id rfl
@[simp] theorem La:fg T a env S=(a env S).bind (kIsI T):=by rw[Fa];rfl
def kUn(f:aa->D->Option D)(q:D×aa):Option (D×aa):=(f q.2 q.1).bind (AQ q.2)
@[simp] theorem kUn_s{f:aa->D->Option D}:kUn f (x,S)=(f S x).bind (AQ S):=id rfl
@[simp] theorem mUn_s{f:aa->D->Option D}:ES f a env S=(a env S).bind (kUn f):=by rw[KP];rfl
@[simp] theorem iD:cA env S=U (Y,S):=by rw[vO];rfl
def Su(q:D×aa):Option (Option Int×aa):=match q.1 with | .int i=>U (U i,q.2) | _=>Y
@[simp] theorem kH:Su (.int i,S)=U (U i,S):=id rfl
@[simp] theorem kz:dB a env S=(a env S).bind Su:=by rw[Aq];rfl
def nL(x:D)(l:Option Int)(q:Option Int×aa):Option (D×aa):=match x with
 | .tup xs=>U (.tup (iS xs l q.1),q.2)
 | .lst xs=>U (.lst (iS xs l q.1),q.2)
 | .rol xs=>U (.lst (iS xs l q.1),q.2)
 | .ref r=>match q.2[r]? with | some (.lst xs)=>U (.lst (iS xs l q.1),q.2) | _=>Y
 | _=>Y
theorem AO{r:Nat}{l h:Option Int}(hr:S[r]?=U (.lst xs)):nL (.ref r) l (h,S)=U (.lst (iS xs l h),S):=by
 show(match S[r]? with | some (.lst xs)=>U (D.lst (iS xs l h),S) | _=>Y)=_
 rw[hr]
def UY(hi:MO)(env:aE)(x:D)(q:Option Int×aa):Option (D×aa):=(hi env q.2).bind (nL x q.1)
def kSl1(lo hi:MO)(env:aE)(q:D×aa):Option (D×aa):=(lo env q.2).bind (UY hi env q.1)
@[simp] theorem nN{lo:MO}:kSl1 lo hi env (x,S)=(lo env S).bind (UY hi env x):=id rfl
@[simp] theorem nM{l:Option Int}:UY hi env x (l,S)=(hi env S).bind (nL x l):=id rfl
@[simp] theorem ye{l h:Option Int}:nL (.tup xs) l (h,S)=U (.tup (iS xs l h),S):=id rfl
@[simp] theorem Lo{l h:Option Int}:nL (.lst xs) l (h,S)=U (.lst (iS xs l h),S):=id rfl
@[simp] theorem kSl3_r{l h:Option Int}:nL (.rol xs) l (h,S)=U (.lst (iS xs l h),S):=id rfl
@[simp] theorem iC{lo:MO}:cn a lo hi env S=(a env S).bind (kSl1 lo hi env):=by rw[vN];rfl
@[simp] theorem bE:aU env S=U (.nx env S):=by rw[lH];rfl
def Hw(q:MS):mU->Option mU
 | .nx e S=>q e S
 | .rt d S=>U (.rt d S)
 | .bk e S=>U (.bk e S)
 | .ct e S=>U (.ct e S)
@[simp] theorem aP:Hw q (.nx e S)=q e S:=id rfl
@[simp] theorem cw:Hw q (.rt d S)=U (.rt d S):=id rfl
@[simp] theorem kSeq_bk:Hw q (.bk e S)=U (.bk e S):=id rfl
@[simp] theorem kSeq_ct:Hw q (.ct e S)=U (.ct e S):=id rfl
@[simp] theorem be:aB p q env S=(p env S).bind (Hw q):=by rw[EU];unfold M.aB;congr 1;funext o;cases o<;>rfl
def kRt(q:D×aa):Option mU:=U (.rt q.1 q.2)
@[simp] theorem bw:kRt (d,S)=U (.rt d S):=id rfl
@[simp] theorem bf:bn a env S=(a env S).bind kRt:=by rw[EV];rfl
def Sw(env:aE)(q:D×aa):Option mU:=U (.nx env q.2)
@[simp] theorem mz:Sw env (d,S)=U (.nx env S):=id rfl
@[simp] theorem mr:cR a env S=(a env S).bind (Sw env):=by rw[Az];rfl
def Vf(p q:MS)(env:aE)(r:Bool×aa):Option mU:=if r.1=true then p env r.2 else q env r.2
@[simp] theorem bY:Vf p q env (true,S)=p env S:=id rfl
@[simp] theorem bW:Vf p q env (false,S)=q env S:=id rfl
@[simp] theorem bA:bN t p q env S=(t env S).bind (Vf p q env):=by rw[Fb];rfl
def kNx(q:aE×aa):Option mU:=U (.nx q.1 q.2)
@[simp] theorem bx:kNx (e,S)=U (.nx e S):=id rfl
def kAsg(tg:MG)(env:aE)(q:D×aa):Option mU:=(tg q.1 env q.2).bind kNx
@[simp] theorem bh:kAsg tg env (d,S)=(tg d env S).bind kNx:=id rfl
@[simp] theorem bg:ay a tg env S=(a env S).bind (kAsg tg env):=by rw[ic];rfl
@[simp] theorem aM:ag i d env S=U (env.set i (U d),S):=by rw[mD];rfl
@[simp] theorem cx:aY [] env S=U (env,S):=by rw[Bf];rfl
def kGs(gs:uw)(r:List D)(q:aE×aa):Option (aE×aa):=gs r q.1 q.2
@[simp] theorem eM:kGs gs r (e,S)=gs r e S:=id rfl
@[simp] theorem bL{r:List D}:ah tg gs (d::r) env S=(tg d env S).bind (kGs gs r):=by rw[we];rfl
@[simp] theorem cT:bi 2 gs (.tup [x,y]) env S=gs [x,y] env S:=by rw[jM];rfl
@[simp] theorem FC{z:D}:bi 3 gs (.tup [x,y,z]) env S=gs [x,y,z] env S:=by rw[jM];rfl
@[simp] theorem yn{z w:D}:bi 4 gs (.tup [x,y,z,w]) env S=gs [x,y,z,w] env S:=by rw[jM];rfl
def AN(env:aE)(d:D)(r:Nat)(k:Int)(S:aa):Option (aE×aa):=match S[r]? with
 | some (.lst xs)=>(HB xs.length k).bind λj=>U (env,S.set r (.lst (xs.set j d)))
 | _=>Y
def Fj(env:aE)(d o:D)(q:D×aa):Option (aE×aa):=match o,q.1 with
 | .ref r,.int k=>AN env d r k q.2
 | _,_=>Y
def Ln(i:ME)(env:aE)(d:D)(q:D×aa):Option (aE×aa):=(i env q.2).bind (Fj env d q.1)
@[simp] theorem kSub1_s:Ln a env d (x,S)=(a env S).bind (Fj env d x):=id rfl
@[simp] theorem kSub2_s:Fj env d (.ref r) (.int i,S)=AN env d r i S:=id rfl
theorem sX{r:Nat}{j:Nat}(h:S[r]?=U (.lst xs))(hj:HB xs.length i=U j):AN env d r i S=U (env,S.set r (.lst (xs.set j d))):=by
 unfold AN;rw[h];show(HB xs.length i).bind _=_;rw[hj];rfl
@[simp] theorem gSubD_s:ge a b d env S=(a env S).bind (Ln b env d):=by
 rw[Be];unfold M.ge Ln Fj AN;congr 1
def kFor(tg:MG)(p:MS)(env:aE)(q:List D×aa):Option mU:=cq tg p q.1 env q.2
@[simp] theorem Lu{xs:List D}:kFor tg p env (xs,S)=cq tg p xs env S:=id rfl
@[simp] theorem Lc:ls ms tg p env S=(ms env S).bind (kFor tg p env):=by rw[Fc];rfl
def Hz(tg:MG)(p:MS)(xs:List D):mU->Option mU
 | .nx e s=>cq tg p xs e s
 | .ct e s=>cq tg p xs e s
 | .bk e s=>U (.nx e s)
 | .rt d s=>U (.rt d s)
def kLp1(tg:MG)(p:MS)(xs:List D)(q:aE×aa):Option mU:=(p q.1 q.2).bind (Hz tg p xs)
@[simp] theorem nO:kLp1 tg p xs (e,S)=(p e S).bind (Hz tg p xs):=id rfl
@[simp] theorem kI:Hz tg p xs (.nx e S)=cq tg p xs e S:=id rfl
@[simp] theorem kLp2_ct:Hz tg p xs (.ct e S)=cq tg p xs e S:=id rfl
@[simp] theorem kLp2_bk:Hz tg p xs (.bk e S)=U (.nx e S):=id rfl
@[simp] theorem Fl:Hz tg p xs (.rt d S)=U (.rt d S):=id rfl
@[simp] theorem Hr:cq tg p [] env S=U (.nx env S):=id rfl
theorem fh{xs:List D}:cq tg p (d::xs) env S=(tg d env S).bind (kLp1 tg p xs):=by
 show(tg d env S).bind _=_
 first | rfl | (congr 1;funext q;show(p q.1 q.2).bind _=(p q.1 q.2).bind _;congr 1;funext o;cases o<;>rfl)
def AS(q:D×aa):Option (List D×aa):=match q.1 with | .lst xs=>U (xs,q.2) | .rol xs=>U (xs,q.2) | .tup xs=>U (xs,q.2) | _=>Y
@[simp] theorem yg:AS (.lst xs,S)=U (xs,S):=id rfl
@[simp] theorem kItS_r:AS (.rol xs,S)=U (xs,S):=id rfl
@[simp] theorem kItS_t:AS (.tup xs,S)=U (xs,S):=id rfl
@[simp] theorem gZ:dU a env S=(a env S).bind AS:=by rw[xX];rfl
def kR1(q:List D×aa):Option (List D×aa):=match q.1 with | [.int j]=>if -(2^62)<=j/\j<2^62 then U (dH 0 j.toNat,q.2) else Y | _=>Y
theorem Dj{j:Int}(h:-1000000<=j)(h':j<=1000000):kR1 ([.int j],S)=U (dH 0 j.toNat,S):=Xq ⟨by omega,by omega⟩
@[simp] theorem pS:cu ms env S=(ms env S).bind kR1:=by rw[sP];rfl
def Dm(q:List D×aa):Option (D×aa):=U (.lst q.1,q.2)
def lI(g:MG)(t:MT)(e:ME)(cap:List (Option Nat))(env:aE)(q:List D×aa):Option (D×aa):=if q.1.length<=KY then(dg g t e q.1 (pB cap env) q.2).bind Dm else Y
theorem iI{xs:List D}(h:xs.length<=5000):lI tg t a cap env (xs,S)=(dg tg t a xs (pB cap env) S).bind Dm:=Xq (sz h)
@[simp] theorem jK{xs:List D}:Dm (xs,S)=U (.lst xs,S):=id rfl
@[simp] theorem dN:bV ms tg t a cap env S=(ms env S).bind (lI tg t a cap env):=by rw[sR];rfl
def Vh(x:D)(q:List D×aa):Option (List D×aa):=U (x::q.1,q.2)
def Vi(g:MG)(t:MT)(e:ME)(xs:List D)(env:aE)(q:D×aa):Option (List D×aa):=(dg g t e xs env q.2).bind (Vh q.1)
def Ql(g:MG)(t:MT)(e:ME)(xs:List D)(env:aE)(q:Bool×aa):Option (List D×aa):=if q.1=true then(e env q.2).bind (Vi g t e xs env) else dg g t e xs env q.2
def kCl1(g:MG)(t:MT)(e:ME)(xs:List D)(q:aE×aa):Option (List D×aa):=(t q.1 q.2).bind (Ql g t e xs q.1)
@[simp] theorem tj:kCl1 tg t a xs (e,S)=(t e S).bind (Ql tg t a xs e):=id rfl
@[simp] theorem tf:Ql tg t a xs e (true,S)=(a e S).bind (Vi tg t a xs e):=id rfl
@[simp] theorem yi:Ql tg t a xs e (false,S)=dg tg t a xs e S:=id rfl
@[simp] theorem sZ:Vi tg t a xs e (d,S)=(dg tg t a xs e S).bind (Vh d):=id rfl
@[simp] theorem sY{xs:List D}:Vh d (xs,S)=U (d::xs,S):=id rfl
@[simp] theorem UH:dg tg t a [] env S=U ([],S):=id rfl
theorem fG{xs:List D}:dg tg t a (d::xs) env S=(tg d env S).bind (kCl1 tg t a xs):=id rfl
def Ft(x:D)(q:D×aa):Option (D×aa):=(qt q.2 x).bind λxs=>(qt q.2 q.1).bind λys=>if xs.length+ys.length<=KY then U (.ref q.2.length,q.2++[.lst (xs++ys)]) else Y
def Sy(b:ME)(env:aE)(q:D×aa):Option (D×aa):=(b env q.2).bind (Ft q.1)
theorem Qn{b:ME}:Sy b env (d,S)=(b env S).bind (Ft d):=id rfl
theorem Qm{xs ys:List D}(h:xs.length+ys.length<=5000):Ft (.lst xs) (.lst ys,S)=U (.ref S.length,S++[.lst (xs++ys)]):=Xq (sz h)
theorem Qa{b:ME}:hZ a b env S=(a env S).bind (Sy b env):=by rw[AE];rfl
def yh(n:Nat)(f:List D->aa->Option (D×aa))(q:List D×aa):Option mU:=if q.1.length=n then(f q.1 q.2).bind kRt else Y
def Sx(l:List (bC×Nat×(List D->aa->Option (D×aa))))(i:Nat)(ms:MA)(env:aE)(q:D×aa):Option mU:=(gB q.1).bind λk=>(zk l k).bind λp=>(ms (env.set i Y) q.2).bind (yh p.1 p.2)
theorem Lw{l:List (bC×Nat×(List D->aa->Option (D×aa)))}{i n:Nat}{f:List D->aa->Option (D×aa)}{k:bC}(h:gB d=U k)(h':zk l k=U (n,f)):Sx l i ms env (d,S)=(ms (env.set i Y) S).bind (yh n f):=by
 show(gB d).bind _=_
 rw[h];show(zk l k).bind _=_;rw[h'];rfl
theorem HA{n:Nat}{f:List D->aa->Option (D×aa)}{xs:List D}(h:xs.length=n):yh n f (xs,S)=(f xs S).bind kRt:=Xq h
theorem PZ{l:List (bC×Nat×(List D->aa->Option (D×aa)))}{i:Nat}:je l i a ms env S=(a env S).bind (Sx l i ms env):=by rw[AA];rfl
@[simp] theorem tW:bF S (.int i) (.int j)=U (.int (i+j)):=id rfl
theorem qd{xs ys:List D}(h:xs.length+ys.length<=5000):bF S (.tup xs) (.tup ys)=U (.tup (xs++ys)):=Xq (sz h)
theorem Mo{xs ys:List D}(h:xs.length+ys.length<=5000):bF S (.lst xs) (.lst ys)=U (.lst (xs++ys)):=Xq (sz h)
@[simp] theorem VB:HQ S (.int i) (.int j)=U (.int (i - j)):=id rfl
@[simp] theorem SN:HS S (.int i) (.int j)=U (.bl (decide (i<j))):=id rfl
@[simp] theorem fLe_i:fLe S (.int i) (.int j)=U (.bl (decide (i<=j))):=id rfl
@[simp] theorem Ml:FH S (.int i) (.int j)=U (.bl (decide (j<i))):=id rfl
@[simp] theorem fGe_i:fGe S (.int i) (.int j)=U (.bl (decide (j<=i))):=id rfl
@[simp] theorem fNeg_i:VC S (.int i)=U (.int (-i)):=id rfl
theorem iQ{j:Int}(h:0<j):kQ S (.int i) (.int j)=U (.int (i%j)):=Xq (Xs h)
theorem Mm{j:Int}(h:0<j)(h':j<1073741824):HW S (.int i) (.int j)=U (.int (i / j)):=Xq (by show(decide (0<j)&&decide (j<1073741824))=true;rw[Xs h,Xs h'];rfl)
theorem Mh{i j:Int}(h:(decide (0<=j)&&decide (j<=1000000)&&decide (i.natAbs<2^64))=true):vg S (.int i) (.int j)=U (.int (i^j.toNat)):=Xq h
theorem jy(h:oI i j=true):cN S (.int i) (.int j)=U (.int (i*j)):=Xq h
theorem sE{i:Int}(h:-18446744073709551616<i)(h':i<18446744073709551616):oI i j=true:=by
 unfold oI;rw[Xs (p:=i.natAbs<18446744073709551616) (by omega)];rfl
theorem xC{j:Int}(h:-18446744073709551616<j)(h':j<18446744073709551616):oI i j=true:=by
 unfold oI;rw[Xs (p:=j.natAbs<18446744073709551616) (by omega)];simp
@[simp] theorem fIx_t:aW S (.tup xs) (.int i)=oo xs i:=id rfl
@[simp] theorem fIx_l:aW S (.lst xs) (.int i)=oo xs i:=id rfl
@[simp] theorem fIx_r:aW S (.rol xs) (.int i)=oo xs i:=id rfl
theorem kR{r:Nat}(h:S[r]?=U (.lst xs)):aW S (.ref r) (.int i)=oo xs i:=by
 have:fO S (.ref r)=U xs:=by simp only[fO,h]
 have t:Gr S (.ref r)=Y:=by simp only[Gr,h]
 unfold aW;rw[t]
 show(fO S (.ref r)).bind _=_;rw[this];rfl
theorem uq{α:Type}{xs:List α}{i:Int}(h0:0<=i)(h:i<xs.length):oo xs i=U (xs[i.toNat]'(by omega)):=by
 unfold oo HB;rw[Xq h0,Xq h];show xs[i.toNat]?=_;rw[Xl]
@[simp] theorem fLen_t:aI eQ [.tup xs] S=U (.int xs.length,S):=id rfl
@[simp] theorem VF:aI eQ [.lst xs] S=U (.int xs.length,S):=id rfl
@[simp] theorem fLen_r:aI eQ [.rol xs] S=U (.int xs.length,S):=id rfl
@[simp] theorem fInt1_i:aI jP [.int i] S=U (.int i,S):=id rfl
@[simp] theorem fInt1_b:aI jP [.bl k] S=U (.int (if k then 1 else 0),S):=id rfl
@[simp] theorem fMax2_i:aI tS [.int i,.int j] S=U (.int (if j>i then j else i),S):=id rfl
@[simp] theorem fMin2_i:aI Mk [.int i,.int j] S=U (.int (if j<i then j else i),S):=id rfl
@[simp] theorem fSeq1_t{g:List D->D}{xs:List D}:aI (cD g) [.tup xs] S=U (g xs,S):=id rfl
@[simp] theorem jj{g:List D->D}{xs:List D}:aI (cD g) [.lst xs] S=U (g xs,S):=id rfl
theorem Mn{bs:List Bool}(h:kW xs=U bs):aI yA [.lst xs] S=U (.bl (bs.all id),S):=by
 show((kW xs).bind _).bind _=_;rw[h];rfl
@[simp] theorem jk:zd S x .non=U (.bl (mY x .non)):=id rfl
@[simp] theorem fIs_b:zd S x (.bl k)=U (.bl (mY x (.bl k))):=id rfl
@[simp] theorem Bn:nS S x .non=U (.bl (!mY x .non)):=id rfl
@[simp] theorem fIsNot_b:nS S x (.bl k)=U (.bl (!mY x (.bl k))):=id rfl
theorem kS(h:bS 40 x=true)(h':bS 40 y=true):cY S x y=U (.bl (iX x y)):=by
 unfold cY;rw[rK h,rK h'];exact Xq ⟨h,h'⟩
theorem yu(h:bS 40 x=true)(h':bS 40 y=true):mE S x y=U (.bl (!iX x y)):=by
 unfold mE;rw[rK h,rK h'];exact Xq ⟨h,h'⟩
@[simp] theorem nU:cY S (.int i) (.int j)=U (.bl (i==j)):=kS (by simp[bS]) (by simp[bS])
@[simp] theorem Mj:mE S (.int i) (.int j)=U (.bl (!(i==j))):=yu (by simp[bS]) (by simp[bS])
@[simp] theorem fEq_bb:cY S (.bl k) (.bl l)=U (.bl (k==l)):=kS (by simp[bS]) (by simp[bS])
@[simp] theorem ee:cY S (.str i) (.str j)=U (.bl (i==j)):=kS (by simp[bS]) (by simp[bS])
@[simp] theorem yt:mE S (.str i) (.str j)=U (.bl (!(i==j))):=yu (by simp[bS]) (by simp[bS])
theorem tU{ys:List D}(hs:fO S y=U ys)(h:bS 40 x=true)(h':ys.all (bS 39)=true):BV S x y=U (.bl (ys.any λd=>iX d x)):=by
 unfold BV;rw[hs];exact Xq ⟨h,h'⟩
theorem HR{ys:List D}(hs:fO S y=U ys)(h:bS 40 x=true)(h':ys.all (bS 39)=true):qb S x y=U (.bl (!ys.any λd=>iX d x)):=by
 unfold qb;rw[hs];exact Xq ⟨h,h'⟩
theorem FG{xs:List D}{k:Int}(h0:0<=k)(h1:k<=100000)(h:xs.length*k.toNat<=5000):cN S (.tup xs) (.int k)=U (.tup (Si k.toNat xs).flatten):=Xq ⟨by omega,by omega,sz h⟩
def hU(f:MF)(x:D)(q:List D×aa):Option (D×aa):=f x q.1 q.2
def oV(f:MF)(ms:MA)(env:aE)(q:D×aa):Option (D×aa):=if sV q.2 q.1=true then(ms env q.2).bind (hU f q.1) else Y
@[simp] theorem kA{f:MF}:cZ f a ms env S=(a env S).bind (oV f ms env):=by rw[Au];rfl
@[simp] theorem kMeth_l{f:MF}{xs:List D}:oV f ms env (.lst xs,S)=(ms env S).bind (hU f (.lst xs)):=id rfl
theorem oU{f:MF}{r:Nat}{xs:List D}(h:S[r]?=U (.lst xs)):oV f ms env (.ref r,S)=(ms env S).bind (hU f (.ref r)):=by
 unfold oV;exact Xq (by simp only[sV,h])
@[simp] theorem iH{f:MF}{xs:List D}:hU f x (xs,S)=f x xs S:=id rfl
theorem HX{r:Nat}(h:S[r]?=U (.lst xs))(hz:xs.length<5000):bZ (.ref r) [y] S=U (.non,S.set r (.lst (xs++[y]))):=by
 simp only[bZ,h];exact Xq (XB hz (by decide))
theorem HV{r:Nat}{i:Int}(h:S[r]?=U (.lst xs))(hz:xs.length<5000)(h0:0<=i)(h1:i<=100000):jl (.ref r) [.int i,y] S=U (.non,S.set r (.lst (kK xs i y))):=by
 simp only[jl,h];exact Xq ⟨XB hz (by decide),by omega,by omega⟩
def Lv(q:List D×aa):Option (List D×aa):=match q.1 with | [.tup xs]=>U (fL 0 xs,q.2) | _=>Y
@[simp] theorem kEnum_s:Lv ([.tup xs],S)=U (fL 0 xs,S):=id rfl
@[simp] theorem Fd:hX ms env S=(ms env S).bind Lv:=by rw[Ay];rfl
def kPar(i j:Nat)(env:aE)(q:List D×aa):Option mU:=match q.1 with | [v,w]=>U (.nx ((env.set i (U v)).set j (U w)) q.2) | _=>Y
@[simp] theorem KS:lr i j ms env S=(ms env S).bind (kPar i j env):=by rw[EW];rfl
@[simp] theorem kPar_s:kPar i j env ([x,y],S)=U (.nx ((env.set i (U x)).set j (U y)) S):=id rfl
def UW(q:List D×aa):Option (List D×aa):=match q.1 with | [.tup xs,.tup ys]=>if xs.length<=ys.length then U (jr xs ys,q.2) else Y | _=>Y
@[simp] theorem kZip_s:UW ([.tup xs,.tup xs],S)=U (jr xs xs,S):=Xq (Xm _)
@[simp] theorem mZip_s:nH ms env S=(ms env S).bind UW:=by rw[EQ];rfl
@[simp] theorem IY{xs ys:List D}:jr (x::xs) (y::ys)=.tup [x,y]::jr xs ys:=id rfl
@[simp] theorem zipD_nl:jr [] xs=[]:=by cases xs<;>rfl
@[simp] theorem zipD_nr:jr xs []=[]:=by cases xs<;>rfl
def Va(k:bC)(d:D)(z:List (bC×D)×aa):Option (List (bC×D)×aa):=U ((k,d)::z.1,z.2)
def Qi(r:List (ME×ME))(env:aE)(k:bC)(q:D×aa):Option (List (bC×D)×aa):=(ju r env q.2).bind (Va k q.1)
def kPr2(b:ME)(r:List (ME×ME))(env:aE)(S:aa)(k:bC):Option (List (bC×D)×aa):=(b env S).bind (Qi r env k)
def Vb(b:ME)(r:List (ME×ME))(env:aE)(q:D×aa):Option (List (bC×D)×aa):=(gB q.1).bind (kPr2 b r env q.2)
@[simp] theorem UE:ju [] env S=U ([],S):=id rfl
@[simp] theorem Sr{r:List (ME×ME)}:ju ((a,b)::r) env S=(a env S).bind (Vb b r env):=id rfl
@[simp] theorem kPr1_i:Vb b r env (.int i,S)=(b env S).bind (Qi r env (.inl i)):=id rfl
@[simp] theorem kPr1_s:Vb b r env (.str i,S)=(b env S).bind (Qi r env (.inr i)):=id rfl
@[simp] theorem kPr3_s{k:bC}:Qi r env k (d,S)=(ju r env S).bind (Va k d):=id rfl
@[simp] theorem kPr4_s{k:bC}{z:List (bC×D)}:Va k d (z,S)=U ((k,d)::z,S):=id rfl
def Lx(z:List (bC×D)×aa):Option (D×aa):=if z.1.length<=15 then U (.dct ((fe [] z.1).map (·.1)) ((fe [] z.1).map (·.2)),z.2) else Y
def Vg(z:List (bC×D)×aa):Option (D×aa):=if z.1.length<=15 then U (.ref z.2.length,z.2++[.dct ((fe [] z.1).map (·.1)) ((fe [] z.1).map (·.2))]) else Y
@[simp] theorem mDict_s:jf ps env S=(ju ps env S).bind Lx:=by rw[AB];rfl
@[simp] theorem mDictR_s:gb ps env S=(ju ps env S).bind Vg:=by rw[vS];rfl
@[simp] theorem fIx_dct:aW S (.dct ks vs) y=(gB y).bind (mM (ks.zip vs)):=id rfl
def yf(f:MF)(ms:MA)(env:aE)(q:D×aa):Option (D×aa):=if NL q.2 q.1=true then(ms env q.2).bind (hU f q.1) else Y
def LC(z:List D×aa):Option (D×aa):=U (.ref z.2.length,z.2++[.lst z.1])
def Dl(g:MG)(t:MT)(e:ME)(cap:List (Option Nat))(env:aE)(q:D×aa):Option (D×aa):=match q.1 with
 | .ref r=>(gc g t e r 2000 0 (pB cap env) q.2).bind LC
 | _=>Y
theorem Le{g:MG}{t:MT}{e:ME}:df a g t e cap env S=(a env S).bind (Dl g t e cap env):=by rw[pU];rfl
theorem LB{g:MG}{t:MT}{e:ME}:Dl g t e cap env (.ref r,S)=(gc g t e r 2000 0 (pB cap env) S).bind LC:=id rfl
def sW(l:List (bC×D))(q:D×aa):Option (D×aa):=(gB q.1).bind λk=>(mM l k).bind λd=>U (d,q.2)
@[simp] theorem sN{l:List (bC×D)}:dI l a env S=(a env S).bind (sW l):=by rw[vM];rfl
@[simp] theorem mMethD_s{f:MF}:fZ f a ms env S=(a env S).bind (yf f ms env):=by rw[vP];rfl
@[simp] theorem kMethD_d{f:MF}{ks:List bC}{vs:List D}:yf f ms env (.dct ks vs,S)=(ms env S).bind (hU f (.dct ks vs)):=id rfl
@[simp] theorem valD_nil{k:bC}:mM [] k=Y:=id rfl
@[simp] theorem valD_cons{k k':bC}{l:List (bC×D)}:mM ((k',d)::l) k=if k'=k then U d else mM l k:=id rfl
@[simp] theorem keyOf_i:gB (.int i)=U (.inl i):=id rfl
@[simp] theorem Qd:gB (.str i)=U (.inr i):=id rfl
def oW(tg:MG)(p:MS)(env:aE)(q:D×aa):Option mU:=match q.1 with
 | .ref r=>dJ tg p r 2000 0 env q.2
 | .lst xs=>cq tg p xs env q.2
 | .rol xs=>cq tg p xs env q.2
 | .tup xs=>cq tg p xs env q.2
 | _=>Y
@[simp] theorem kD:dC a tg p env S=(a env S).bind (oW tg p env):=by rw[Ax];rfl
@[simp] theorem kForD_l:oW tg p env (.lst xs,S)=cq tg p xs env S:=id rfl
@[simp] theorem kForD_o:oW tg p env (.rol xs,S)=cq tg p xs env S:=id rfl
@[simp] theorem Fq:oW tg p env (.tup xs,S)=cq tg p xs env S:=id rfl
@[simp] theorem Qk:oW tg p env (.ref r,S)=dJ tg p r 2000 0 env S:=id rfl
def Hy(tg:MG)(p:MS)(r f i:Nat):mU->Option mU
 | .nx e s=>dJ tg p r f i e s
 | .ct e s=>dJ tg p r f i e s
 | .bk e s=>U (.nx e s)
 | .rt d s=>U (.rt d s)
def kRl1(tg:MG)(p:MS)(r f i:Nat)(q:aE×aa):Option mU:=(p q.1 q.2).bind (Hy tg p r f i)
@[simp] theorem UZ{f:Nat}:kRl1 tg p r f i (e,S)=(p e S).bind (Hy tg p r f i):=id rfl
@[simp] theorem Qh{f:Nat}:Hy tg p r f i (.nx e S)=dJ tg p r f i e S:=id rfl
@[simp] theorem kRl2_ct{f:Nat}:Hy tg p r f i (.ct e S)=dJ tg p r f i e S:=id rfl
@[simp] theorem kRl2_bk{f:Nat}:Hy tg p r f i (.bk e S)=U (.nx e S):=id rfl
@[simp] theorem kRl2_rt{f:Nat}:Hy tg p r f i (.rt d S)=U (.rt d S):=id rfl
theorem Dc{r f i:Nat}(h:S[r]?=U (.lst xs))(hx:xs.length<=i):dJ tg p r (f+1) i env S=U (.nx env S):=by
 have hx':xs[i]?=Y:=by simpa using hx
 unfold dJ;rw[h];simp only[hx']
theorem Aw{r f i:Nat}(h:S[r]?=U (.lst xs))(hx:xs[i]?=U d):dJ tg p r (f+1) i env S=(tg d env S).bind (kRl1 tg p r f (i+1)):=by
 show(match S[r]? with | some (.lst xs)=>_ | _=>Y)=_
 rw[h]
 show(match xs[i]? with | none=>_ | some d=>_)=_
 rw[hx]
 show(tg d env S).bind _=_
 first | rfl | (congr 1;funext q;show(p q.1 q.2).bind _=(p q.1 q.2).bind _;congr 1;funext o;cases o<;>rfl)
def UX(t:MT)(p:MS)(f:Nat):mU->Option mU
 | .nx e s=>fX t p f e s
 | .ct e s=>fX t p f e s
 | .bk e s=>U (.nx e s)
 | .rt d s=>U (.rt d s)
def kWh(t:MT)(p:MS)(f:Nat)(env:aE)(q:Bool×aa):Option mU:=if q.1=true then(p env q.2).bind (UX t p f) else U (.nx env q.2)
@[simp] theorem KO:eO t p env S=fX t p 5000 env S:=by rw[vL];rfl
theorem Hn{f:Nat}:fX t p (f+1) env S=(t env S).bind (kWh t p f env):=by
 show(t env S).bind _=_
 first | rfl | (congr 1;done)
@[simp] theorem kWh_t{f:Nat}:kWh t p f env (true,S)=(p env S).bind (UX t p f):=id rfl
@[simp] theorem kWh_f{f:Nat}:kWh t p f env (false,S)=U (.nx env S):=id rfl
@[simp] theorem Qf{f:Nat}:UX t p f (.nx e S)=fX t p f e S:=id rfl
def qN:mU->Option (D×aa)
 | .rt d S'=>U (d,S')
 | .nx _ S'=>U (.non,S')
 | .bk _ _=>Y
 | .ct _ _=>Y
@[simp] theorem aX:qN (.rt d S)=U (d,S):=id rfl
@[simp] theorem outM_nx:qN (.nx e S)=U (.non,S):=id rfl
theorem cO{n:Nat}{ds:List D}{S:aa}(h:ds.length=n):aT N m n ds S=(m (bt N ds) S).bind qN:=by
 unfold aT;rw[Xq h];first | rfl | (congr 1;funext o;cases o<;>rfl)
theorem zD{n:Nat}{S:aa}(h:bt N ds=env)(hn:ds.length=n):aT N m n ds S=(m env S).bind qN:=by rw[<- h];exact cO hn
theorem lz{N:List Str}{n k:Nat}{ds:List D}{S:aa}(hN:N.length=k)(h:ds.map U++Si (k - ds.length) Y=env)(hn:ds.length=n):aT N m n ds S=(m env S).bind qN:=zD (by unfold bt;rw[hN];exact h) hn
@[simp] theorem rep0:Si 0 (Y:Option D)=[]:=id rfl
end
section
variable{env:aE}{S:aa}{x y d:D}{a b:ME}{ms:MA}{f:MF}{r:Nat}{k:DK}{ks:List DK}{ds:List D}
def Ly(x:D)(q:D×aa):Option (D×aa):=(tupK x).bind λk=>U (.ref q.2.length,q.2++[.deep [k] [q.1]])
def kDT1(b:ME)(env:aE)(p:D×aa):Option (D×aa):=(b env p.2).bind (Ly p.1)
theorem AC:MI.dW a b env S=(a env S).bind (kDT1 b env):=by rw[vR];rfl
theorem Lz:kDT1 b env (x,S)=(b env S).bind (Ly x):=id rfl
theorem Fs(h:tupK x=U k):Ly x (y,S)=U (.ref S.length,S++[.deep [k] [y]]):=by
 show(tupK x).bind _=_
 rw[h];rfl
theorem Bx(h:S[r]?=U (.deep ks ds))(hk:∀ k∈ks,k.depth<=8):jQ S (.ref r)=U (ks,ds):=by
 simp only[jQ,h]
 exact Xq (by rw[Xu];exact λk z=>Xs (hk k z))
theorem Dv(h:jQ S (.ref r)=U (ks,ds))(hk:tupK x=U k):eZ S x (.ref r)=U (.bl (!(mL ks ds k).isSome)):=by
 unfold eZ;rw[h];show(tupK x).bind _=_;rw[hk];rfl
def Hx(x d:D)(env:aE)(q:D×aa):Option (aE×aa):=match x with
 | .ref r=>(jQ q.2 (.ref r)).bind λc=>(tupK q.1).bind λk=>if c.1.length<=5000 then U (env,q.2.set r (.deep (sa c.1 c.2 k d).1 (sa c.1 c.2 k d).2)) else Y
 | _=>Y
def kST1(b:ME)(env:aE)(d:D)(p:D×aa):Option (aE×aa):=(b env p.2).bind (Hx p.1 d env)
theorem FD:MI.gP a b d env S=(a env S).bind (kST1 b env d):=by rw[Bd];rfl
theorem Lp:kST1 b env d (x,S)=(b env S).bind (Hx x d env):=id rfl
theorem Qg(h:jQ S (.ref r)=U (ks,ds))(hk:tupK x=U k)(hl:ks.length<=5000):Hx (.ref r) d env (x,S)=U (env,S.set r (.deep (sa ks ds k d).1 (sa ks ds k d).2)):=by
 show(jQ S (.ref r)).bind _=_
 rw[h];show(tupK x).bind _=_;rw[hk];exact Xq hl
end
def rB:MS:=
 aB (bN (az (aH FH (aH aW '0' 0e0) 0e0)) (aB (ay (aH kQ (aH aW '0' 0e0) '1') 'b') (aB (ay (aH HW (aH aW '0' 0e0) '1') (ge '0' 0e0)) (bn '2'))) aU) (aB (ay (aH bF (aH aW '0' 2e0) 1e0) (ge '0' 2e0)) (aB (ay (aH kQ (aH bF (aH bF (aH cN (aH aW '0' 1e0) 48271e0) 12345e0) (aH cN 7e0 (aH aW '0' 2e0))) 2147483647e0) (ge '0' 1e0)) (bn (aH kQ (aH HW (aH kQ (aH cN (aH aW '0' 1e0) (aH aW '0' 1e0)) 1999999973e0) 64e0) '1'))))
def Di:MS:=
 aB (ay 1e0 '`') (aB (ls (cu (ac 10e0 ai)) 'a' (ay (aH cN '0' (aH vg 10e0 60e0)) '`')) (bn '0'))
def mx:MS:=
 aB (bN (az (aH HS '1' (bo (aI eQ) (ac '0' ai)))) (bn (aH aW '0' '1')) aU) (bn 0e0)
def rC(cellAt far:List D->aa->Option (D×aa)):MS:=
 aB (ay (ao 2 cellAt (ac '0' (ac (aH kQ '1' (bo (aI tS) (ac 1e0 (ac (bo (aI eQ) (ac '0' ai)) ai)))) ai))) 'b') (aB (ay (aH kQ (aH cN (aH bF (aH bF (aH kQ '2' 2147483629e0) (aH cN (aH cN 7919e0 '1') '1')) 11e0) 48271e0) 2147483647e0) 'c') (aB (ay (aH kQ (aH bF (aH bF (aH cN '3' 39373e0) (aH cN 7e0 '1')) 1e0) 2147483629e0) 'c') (aB (bN (az (aH HS '2' (aH vg 10e0 18e0))) (ay 0e0 'b') aU) (bn (cQ (ac (aH kQ '2' (ao 0 far ai)) (ac '3' (ac 0e0 ai))))))))
theorem WL{a b c:D}:oo [a,b,c] 0=U a/\oo [a,b,c] 1=U b/\oo [a,b,c] 2=U c:=⟨rfl,rfl,rfl⟩
def Pk(S:aa)(r:Nat):Prop:=∃ a b c:Int,S[r]?=U (.lst [.int a,.int b,.int c])/\0<=a/\0<=b/\b<2147483647
def p60:Int:=1000000000000000000000000000000000000000000000000000000000000
theorem Ul:(10:Int)^(60:Int).toNat=p60:=by decide +kernel
theorem Uk:p60.natAbs<=2^(200*1):=by decide +kernel
theorem Pv:0<p60:=by decide +kernel
theorem Pw{i:Int}(h:i.natAbs<2^4000):oI i p60=true:=by
 unfold oI
 rw[Xs h,Xs (p:=p60.natAbs<2^4000) (by decide +kernel)]
 simp
def Mg:MS:=ay (aH cN '0' (aH vg 10e0 60e0)) '`'
theorem VA:vg S (.int 10) (.int 60)=U (.int p60):=by
 have h:=Mh (S:=S) (i:=10) (j:=60) (by decide +kernel)
 rw[Ul] at h
 exact h
theorem Mf{o:Option D}(h1:vg S (.int 10) (.int 60)=U (.int p))(h2:cN S (.int a) (.int p)=U (.int (a*p))):Mg [U (.int a),o] S=U (.nx [U (.int (a*p)),o] S):=by
 simp[Mg,h1,h2]
theorem QC{o:Option D}(h:oI a p60=true):Mg [U (.int a),o] S=U (.nx [U (.int (a*p60)),o] S):=Mf VA (jy h)
theorem farL{B:Nat}(hB:∀ i:Int,i.natAbs<B->oI i p60=true)(l:List D):∀ (a:Int) (o:Option D),0<a->a.natAbs*2^(200*l.length)<B->∃ q o',cq 'a' Mg l [U (.int a),o] S=U (.nx [U (.int q),o'] S)/\0<q:=by
 induction l with
 | nil=>exact λa o h _=>⟨a,o,rfl,h⟩
 | cons d l ih=>
  intro a o h hb
  have h1:a.natAbs<B:=aaf (Nat.le_mul_of_pos_right _ (Nat.pow_pos (by decide))) hb
  obtain⟨q,o',e,hq⟩:=ih (a*p60) (U d) (Int.mul_pos h Pv) (by
   rw[Int.natAbs_mul]
   refine aaf ?_ hb
   rw[Xw,Nat.mul_add,Nat.pow_add,Nat.mul_assoc]
   refine abE _ ?_
   rw[aas]
   exact abE _ Uk)
  refine⟨q,o',?_,hq⟩
  rw[fh,aM,ob,nO]
  show(Mg [U (.int a),U d] S).bind _=_
  rw[QC (hB a h1),ob,kI]
  exact e
theorem Me{N:List Str}(hN:N.length=2):∃ q:Int,aT N Di 0 [] S=U (.int q,S)/\0<q:=by
 obtain⟨q,o',e,hq⟩:=farL (S:=S) (λi h=>Pw h) (dH 0 10) 1 Y (by decide) (by decide +kernel)
 refine⟨q,?_,hq⟩
 rw[cO (show([]:List D).length=0 from rfl)]
 have:bt N []=[Y,Y]:=by simp[bt,hN,Si]
 rw[this]
 have k1:kR1 ([.int 10],S)=U (dH 0 10,S):=Dj (by decide) (by decide)
 have e':cq 'a' (ay (aH cN '0' (aH vg 10e0 60e0)) '`') (dH 0 10) [U (.int 1),Y] S=U (.nx [U (.int q),o'] S):=e
 simp![Di,Lc,pS,k1,Lu,e']
theorem GN{m:Int}{N:List Str}(hN:N.length=3)(h:Pk S r)(h0:0<m)(h1:m<1073741824) :
  ∃ q S',aT N rB 2 [.ref r,.int m] S=U (.int q,S')/\0<=q/\q<m/\Pk S' r/\(∀ j,j≠r->S'[j]?=S[j]?)/\S'.length=S.length:=by
 obtain⟨a,b,c,h,ha,hb,hb'⟩:=h
 have hr:r<S.length:=(Xe.mp h).1
 have hm:∀ x:Int,0<=x%m/\x%m<m:=λx=>⟨Zo _ (by omega),aah _ h0⟩
 have hst:bt N [.ref r,.int m]=[U (.ref r),U (.int m),Y]:=by simp[bt,hN]
 rw[cO (show [D.ref r,D.int m].length=2 from rfl),hst]
 have hs:∀ c:Cell,(S.set r c)[r]?=U c:=λc=>XF hr
 by_cases hp:0<a
 ·refine⟨a%m,S.set r (.lst [.int (a / m),.int b,.int c]),?_,(hm a).1,(hm a).2,⟨a / m,b,c,hs _,Int.ediv_nonneg ha (by omega),hb,hb'⟩,λj hj=>by rw[XE (Ne.symm hj)],by simp⟩
  have w:=sX (env:=[U (.ref r),U (.int m),U (.int (a%m))]) (d:=.int (a / m)) h (show HB _ 0=U 0 from rfl)
  simp[rB,kR h,hp,iQ h0,Mm h0 h1,WL,w]
 ·have hB:∀ x:Int,0<=x%2147483647/\x%2147483647<2147483647:=λx=>⟨Zo _ (by decide),aah _ (by decide)⟩
  let b':=(b*48271+12345+7*(c+1))%2147483647
  have hb2:=hB (b*48271+12345+7*(c+1))
  have m3:oI b' b'=true:=sE (by omega) (by omega)
  have s1:(S.set r (.lst [.int a,.int b,.int (c+1)]))[r]?=U (.lst [.int a,.int b,.int (c+1)]):=hs _
  have s2:((S.set r (.lst [.int a,.int b,.int (c+1)])).set r (.lst [.int a,.int b',.int (c+1)]))[r]?=U (.lst [.int a,.int b',.int (c+1)]):=XF (by simpa using hr)
  refine⟨b'*b'%1999999973 / 64%m,(S.set r (.lst [.int a,.int b,.int (c+1)])).set r (.lst [.int a,.int b',.int (c+1)]),?_,(hm _).1,(hm _).2,⟨a,b',c+1,s2,ha,(hB _).1,(hB _).2⟩,λj hj=>by rw[XE (Ne.symm hj),XE (Ne.symm hj)],by simp⟩
  have e1:cN (S.set r (.lst [.int a,.int b,.int (c+1)])) (.int b) (.int 48271)=U (.int (b*48271)):=jy (xC (by decide) (by decide))
  have e2:cN (S.set r (.lst [.int a,.int b,.int (c+1)])) (.int 7) (.int (c+1))=U (.int (7*(c+1))):=jy (sE (by decide) (by decide))
  have e3:∀ S x,kQ S (.int x) (.int 2147483647)=U (.int (x%2147483647)):=λ_ _=>iQ (by decide)
  have e4:∀ S x,kQ S (.int x) (.int 1999999973)=U (.int (x%1999999973)):=λ_ _=>iQ (by decide)
  have e5:∀ S x,HW S (.int x) (.int 64)=U (.int (x / 64)):=λ_ _=>Mm (by decide) (by decide)
  have w1:=sX (env:=[U (.ref r),U (.int m),Y]) (d:=.int (c+1)) h (show HB _ 2=U 2 from rfl)
  have w2:=sX (env:=[U (.ref r),U (.int m),Y]) (d:=.int b') s1 (show HB _ 1=U 1 from rfl)
  simp[rB,kR h,kR s1,kR s2,hp,iQ h0,WL,e1,e2,e3,e4,e5,w1]
  rw[show(b*48271+12345+7*(c+1))%2147483647=b' from rfl,w2]
  simp[kR (hs _),WL,jy m3,e4,e5,iQ h0]
theorem BB{S:aa}{ns:List Int}{k:Int}{N:List Str}(hN:N.length=2)(h0:0<=k):∃ v,aT N mx 2 [.rol (ns.map .int),.int k] S=U (.int v,S):=by
 rw[cO (show [D.rol (ns.map .int),D.int k].length=2 from rfl)]
 have hst:bt N [D.rol (ns.map .int),D.int k]=[U (D.rol (ns.map .int)),U (.int k)]:=by simp[bt,hN]
 rw[hst]
 by_cases h:k<ns.length
 ·have e:oo (ns.map D.int) k=U (.int (ns[k.toNat]'(by omega))):=by
   rw[uq h0 (by simpa using h)];simp
  exact⟨ns[k.toNat]'(by omega),by simp[mx,h,e]⟩
 ·exact⟨0,by simp[mx,h]⟩
theorem WU{S:aa}{a b:Int}(ha:0<=a)(hb:0<=b)(hb':b<2147483647):Pk (S++[.lst [.int a,.int b,.int c]]) S.length:=⟨a,b,c,by simp,ha,hb,hb'⟩
theorem Ht{S:aa}{ns:List Int}{k:Int}{N:List Str}{cellAt far:List D->aa->Option (D×aa)}(hN:N.length=4)(h0:0<=k)(h1:k<=100000)
  (hc:∀ S k,0<=k->∃ v,cellAt [.rol (ns.map .int),.int k] S=U (.int v,S)) (hf:∀ S,∃ q,far [] S=U (.int q,S)/\0<q) :
  ∃ a b,aT N (rC cellAt far) 2 [.rol (ns.map .int),.int k] S=U (.ref S.length,S++[.lst [.int a,.int b,.int 0]])/\0<=a/\0<=b/\b<2147483647:=by
 rw[cO (show [D.rol (ns.map .int),D.int k].length=2 from rfl)]
 have hst:bt N [D.rol (ns.map .int),D.int k]=[U (D.rol (ns.map .int)),U (.int k),Y,Y]:=by simp[bt,hN,Si]
 rw[hst]
 have hmx:0<(if (ns.length:Int)>1 then(ns.length:Int) else 1):=by split<;>omega
 obtain⟨v,hv⟩:=hc S (k%(if (ns.length:Int)>1 then(ns.length:Int) else 1)) (Zo _ (by omega))
 obtain⟨q,hq,q0⟩:=hf S
 have e1:∀ S x,kQ S (.int x) (.int 2147483629)=U (.int (x%2147483629)):=λ_ _=>iQ (by decide)
 have e2:∀ S x,kQ S (.int x) (.int 2147483647)=U (.int (x%2147483647)):=λ_ _=>iQ (by decide)
 have e3:∀ S x,kQ S (.int x) (.int q)=U (.int (x%q)):=λ_ _=>iQ q0
 have p1:∀ S,cN S (.int 7919) (.int k)=U (.int (7919*k)):=λ_=>jy (sE (by decide) (by decide))
 have p2:∀ S,cN S (.int (7919*k)) (.int k)=U (.int (7919*k*k)):=λ_=>jy (xC (by omega) (by omega))
 have p3:∀ S x,cN S (.int x) (.int 48271)=U (.int (x*48271)):=λ_ _=>jy (xC (by decide) (by decide))
 have p4:∀ S x,cN S (.int x) (.int 39373)=U (.int (x*39373)):=λ_ _=>jy (xC (by decide) (by decide))
 have p5:∀ S,cN S (.int 7) (.int k)=U (.int (7*k)):=λ_=>jy (sE (by decide) (by decide))
 have pw:∀ S,vg S (.int 10) (.int 18)=U (.int 1000000000000000000):=λS=>by
  have h:=Mh (S:=S) (i:=10) (j:=18) (by decide +kernel)
  rwa[show(10:Int)^(18:Int).toNat=1000000000000000000 by decide +kernel] at h
 have hb:∀ x:Int,0<=x%2147483629/\x%2147483629<2147483647:=λx=>⟨Zo _ (by decide),by have:=aah x (show(0:Int)<2147483629 by decide);omega⟩
 have kl:∀ S x y,qu ([.int x,.int y,.int 0],S)=U (.ref S.length,S++[.lst [.int x,.int y,.int 0]]):=λ_ _ _=>jJ (by simp)
 by_cases h:v<1000000000000000000
 ·refine⟨0%q,(((v%2147483629+7919*k*k+11)*48271%2147483647)*39373+7*k+1)%2147483629,?_,Zo _ (by omega),(hb _).1,(hb _).2⟩
  simp[-Int.zero_emod,rC,iQ hmx,hv,e1,e2,e3,p1,p2,p3,p4,p5,pw,h,hq,kl]
 ·refine⟨v%q,(((v%2147483629+7919*k*k+11)*48271%2147483647)*39373+7*k+1)%2147483629,?_,Zo _ (by omega),(hb _).1,(hb _).2⟩
  simp[rC,iQ hmx,hv,e1,e2,e3,p1,p2,p3,p4,p5,pw,h,hq,kl]
def nr:D->Bool
 | .ref _=>false
 | .exc _=>false
 | .fn _=>false
 | _=>true
noncomputable abbrev PF:=List D->aa->Option (D×aa)
def Eh(pick:PF):Prop:=∀ (S:aa) (r:Nat) (m:Int),Pk S r->0<m->m<1073741824->∃ q S',pick [.ref r,.int m] S=U (.int q,S')/\0<=q/\q<m/\Pk S' r/\(∀ j,j≠r->S'[j]?=S[j]?)/\S'.length=S.length
def yb(pick:PF):MS:=
 aB (ay (aH aW (fR (ac (!"rows") (ac (!"readers") (ac (!"writers") (ac (!"turns") (ac (!"passes") ai)))))) (ao 2 pick (ac '0' (ac 5e0 ai)))) 'a') (aB (ay (aH aW (fR (ac 0e0 (ac 0e0 (ac 1e0 (ac 2e0 (ac 3e0 (ac 5e0 ai))))))) (ao 2 pick (ac '0' (ac 6e0 ai)))) 'b') (aB (ay (aH cN (aH aW (fR (ac 0e0 (ac 1e0 (ac 2e0 (ac 9e0 ai))))) (ao 2 pick (ac '0' (ac 4e0 ai)))) (bo (aI jP) (ac (aH cY '1' (!"passes")) ai))) 'c') (bn (bj (ac '1' (ac '2' (ac '3' (ac (ao 2 pick (ac '0' (ac 2e0 ai))) ai))))))))
theorem RK{q:Int}(h0:0<=q)(h1:q<6):∃ i:Int,oo [D.int 0,D.int 0,D.int 1,D.int 2,D.int 3,D.int 5] q=U (.int i)/\0<=i/\i<=5:=by
 obtain rfl | rfl | rfl | rfl | rfl | rfl:q=0\/q=1\/q=2\/q=3\/q=4\/q=5:=by omega
 all_goals exact⟨_,rfl,by decide,by decide⟩
theorem Oc{q:Int}(h0:0<=q)(h1:q<4):∃ i:Int,oo [D.int 0,D.int 1,D.int 2,D.int 9] q=U (.int i)/\0<=i/\i<=9:=by
 obtain rfl | rfl | rfl | rfl:q=0\/q=1\/q=2\/q=3:=by omega
 all_goals exact⟨_,rfl,by decide,by decide⟩
def GE:List D:=[.str "out",.str "out",.str "out",.str "reads",.str "reads",.str "rising",.str "writes",.str "raised"]
theorem forR{tg:MG}{p:MS}{lo:Int}(I:Nat->aE->aa->Prop)(n:Nat)(step:∀ i,i<n->∀ env S,I i env S->∃ env1 S1 env2 S2,tg (.int (lo+(i:Int))) env S=U (env1,S1)/\p env1 S1=U (.nx env2 S2)/\I (i+1) env2 S2) :
  ∀ env S,I 0 env S->∃ env' S',cq tg p (dH lo n) env S=U (.nx env' S')/\I n env' S':=by
 have gen:∀ (m k:Nat),k+m=n->∀ env S,I k env S->∃ env' S',cq tg p ((List.range' k m).map λ(i:Nat)=>D.int (lo+(i:Int))) env S=U (.nx env' S')/\I n env' S':=by
  intro m
  induction m with
  | zero=>exact λk hk env S h=>⟨env,S,rfl,by rw[<- hk];exact h⟩
  | succ m ih=>
   intro k hk env S h
   obtain⟨env1,S1,env2,S2,e1,e2,h2⟩:=step k (by omega) env S h
   obtain⟨env',S',e3,h3⟩:=ih (k+1) (by omega) env2 S2 h2
   refine⟨env',S',?_,h3⟩
   rw[List.range'_succ,Xp,fh,e1,ob,nO,e2,ob,kI,e3]
 intro env S h
 have:=gen n 0 (by omega) env S h
 unfold dH
 rw[List.range_eq_range']
 exact this
def EntOk(n:Int)(xs:List D)(d:D):Prop:=∃ (g:Int) (w:Str) (m:Int) (t:D),d=.tup [.int g,.str w,.int m,t]/\0<=g/\g<n/\(w = "read"\/w = "write")/\0<=m/\m<=999/\(t=.non\/∃ k,t=.int k/\1<=k/\k<=9)/\oo xs g=U (.str "out")
theorem EntOk.up{n':Int}{d:D}(h:EntOk n xs d)(hn:n<=n'):EntOk n' xs d:=by
 obtain⟨g,w,m,t,e,h0,h1,r⟩:=h
 exact⟨g,w,m,t,e,h0,by omega,r⟩
theorem tT{S:aa}{q:Nat}(h:S[q]?=U (.lst xs)):aI eQ [.ref q] S=U (.int xs.length,S):=by
 have e:fO S (.ref q)=U xs:=by simp only[fO,h]
 show((fO S (.ref q)).bind _).bind _=_
 rw[e];rfl
theorem pZ{S:aa}{q:Nat}(h:S[q]?=U (.lst xs)):aI (cD g) [.ref q] S=U (g xs,S):=by
 have e:fO S (.ref q)=U xs:=by simp only[fO,h]
 show((fO S (.ref q)).bind _).bind _=_
 rw[e];rfl
theorem Pk.app{c:Cell}(h:Pk S r):Pk (S++[c]) r/\S.length≠r:=by
 obtain⟨a,b,d,h,z⟩:=h
 have hr:=(Xe.mp h).1
 exact⟨⟨a,b,d,by rw[Xv hr];exact h,z⟩,by omega⟩
def Do(x:Str):Prop:=x = "rows"\/x = "readers"\/x = "writers"\/x = "turns"\/x = "passes"
theorem RJ{q:Int}(h0:0<=q)(h1:q<5):∃ x:Str,oo [D.str "rows",D.str "readers",D.str "writers",D.str "turns",D.str "passes"] q=U (.str x)/\Do x:=by
 obtain rfl | rfl | rfl | rfl | rfl:q=0\/q=1\/q=2\/q=3\/q=4:=by omega
 ·exact⟨_,rfl,.inl rfl⟩
 ·exact⟨_,rfl,.inr (.inl rfl)⟩
 ·exact⟨_,rfl,.inr (.inr (.inl rfl))⟩
 ·exact⟨_,rfl,.inr (.inr (.inr (.inl rfl)))⟩
 ·exact⟨_,rfl,.inr (.inr (.inr (.inr rfl)))⟩
def Keep(r:Nat)(S S':aa):Prop:=(∀ j,j≠r->S'[j]?=S[j]?)/\S'.length=S.length
theorem Keep.trans(h:Keep r S S')(h':Keep r S' S''):Keep r S S'':=⟨λj z=>(h'.1 j z).trans (h.1 j z),h'.2.trans h.2⟩
theorem Keep.refl:Keep r S S:=⟨λ_ _=>rfl,rfl⟩
structure WS(x:Str)(a b c:Int):Prop where
 w:Do x
 a0:0<=a
 a5:a<=5
 b0:0<=b
 b9:b<=9
 c0:0<=c
 c1:c<=1
theorem GD{pick:PF}(hp:Eh pick){S:aa}{r:Nat}{N:List Str}(hN:N.length=4)(h:Pk S r):∃ x a b c S',aT N (yb pick) 1 [.ref r] S=U (.tup [.str x,.int a,.int b,.int c],S')/\WS x a b c/\Pk S' r/\Keep r S S':=by
 have hst:bt N [D.ref r]=[U (.ref r),Y,Y,Y]:=by simp[bt,hN,Si]
 rw[cO (show [D.ref r].length=1 from rfl),hst]
 obtain⟨q1,S1,e1,l1,g1,P1,K1⟩:=hp _ _ 5 h (by decide) (by decide)
 obtain⟨q2,S2,e2,l2,g2,P2,K2⟩:=hp _ _ 6 P1 (by decide) (by decide)
 obtain⟨q3,S3,e3,l3,g3,P3,K3⟩:=hp _ _ 4 P2 (by decide) (by decide)
 obtain⟨q4,S4,e4,l4,g4,P4,K4⟩:=hp _ _ 2 P3 (by decide) (by decide)
 obtain⟨x,i1,wx⟩:=RJ l1 g1
 obtain⟨a,i2,a0,a5⟩:=RK l2 g2
 obtain⟨b,i3,b0,b9⟩:=Oc l3 g3
 have k1:∀ S,pY ([D.str "rows",D.str "readers",D.str "writers",D.str "turns",D.str "passes"],S)=U (.lst [D.str "rows",D.str "readers",D.str "writers",D.str "turns",D.str "passes"],S):=λS=>gd (by simp)
 have k2:∀ S,pY ([D.int 0,D.int 0,D.int 1,D.int 2,D.int 3,D.int 5],S)=U (.lst [D.int 0,D.int 0,D.int 1,D.int 2,D.int 3,D.int 5],S):=λS=>gd (by simp)
 have k3:∀ S,pY ([D.int 0,D.int 1,D.int 2,D.int 9],S)=U (.lst [D.int 0,D.int 1,D.int 2,D.int 9],S):=λS=>gd (by simp)
 have k4:∀ S (a b c d:D),cK ([a,b,c,d],S)=U (.tup [a,b,c,d],S):=λS a b c d=>bb (by simp)
 have m1:∀ S (z:Bool),cN S (.int b) (.int (if z=true then 1 else 0))=U (.int (b*(if z=true then 1 else 0))):=λS z=>jy (sE (by omega) (by omega))
 refine⟨x,a,b*(if (x==("passes":Str))=true then 1 else 0),q4,S4,?_,⟨wx,a0,a5,by split<;>omega,by split<;>omega,l4,by omega⟩,P4,Keep.trans K1 (Keep.trans K2 (Keep.trans K3 K4))⟩
 simp[-beq_iff_eq,yb,k1,k2,k3,k4,e1,e2,e3,e4,i1,i2,i3,m1]
def kG(F:PF):MS:=
 aB (bN (cP (fg "dict" '1')) (aB (bN (fP (fF (cP (fg "dict" '0'))) (az (aH mE (bo (aI eQ) (ac '0' ai)) (bo (aI eQ) (ac '1' ai))))) (bn (mC (.bl false))) aU) (aB (ay gy 'b') (bn (bo (aI yA) (ac (bV (dU '1') '`' bU (iG (aH BV '0' '2') (iG (ao 2 F (ac (aH aW '3' '0') (ac '0' ai))) (ao 2 F (ac (aH aW '2' '0') (ac (aH aW '1' '0') ai))))) [Y,U 1,U 0,U 2]) ai))))) aU) (aB (bN (fP (cP (fg "list" '1')) (cP (fg "tuple" '1'))) (aB (bN (fP (az (aH mE (fg "list" '0') (fg "list" '1'))) (az (aH mE (fg "tuple" '0') (fg "tuple" '1')))) (bn (mC (.bl false))) aU) (bn (iG (aH cY (bo (aI eQ) (ac '0' ai)) (bo (aI eQ) (ac '1' ai))) (bo (aI yA) (ac (bV (nH (ac '0' (ac '1' ai))) (bi 2 (ah '`' (ah 'a' aY))) bU (ao 2 F (ac '0' (ac '1' ai))) [Y,Y]) ai))))) aU) (aB (bN (az (aH zd '1' (mC .non))) (bn (aH zd '0' (mC .non))) aU) (aB (bN (cP (fg "str" '1')) (bn (iG (fg "str" '0') (aH cY '0' '1'))) aU) (aB (bN (fP (cP (fg "bool" '1')) (cP (fg "bool" '0'))) (bn (iG (fg "bool" '0') (iG (fg "bool" '1') (aH cY '0' '1')))) aU) (bn (iG (fg "int" '0') (aH cY '0' '1')))))))
def cz:Nat->D->Bool
 | 0,_=>false
 | _+1,.non=>true
 | _+1,.bl _=>true
 | _+1,.int _=>true
 | _+1,.str _=>true
 | j+1,.tup xs=>decide (xs.length<=5000)&&xs.all (cz j)
 | _+1,_=>false
theorem VG{S:aa}{d:D}(h:cz j d=true):lu "dict" S d=U (.bl false)/\lu "list" S d=U (.bl false):=by
 cases j with
 | zero=>cases h
 | succ j=>cases d<;>first | exact⟨rfl,rfl⟩ | (exfalso;simp[cz] at h)
theorem mV:∀ xs:List D,(jr xs xs).length=xs.length
 | []=>rfl
 | x::r=>by rw[IY,Xw,Xw,mV r]
theorem pC:∀ n:Nat,kW (Si n (D.bl true))=U (Si n true)
 | 0=>rfl
 | n+1=>by
  rw[XO,XO]
  have:=pC n
  simp only[kW,this];rfl
theorem VD{k:Bool}:mE S (.bl k) (.bl l)=U (.bl (!(k==l))):=yu (by simp[bS]) (by simp[bS])
theorem JF{F:PF}{S:aa}{t1 t2:Option D}:∀ (xs:List D) (a b:Option D),(∀ d∈xs,F [d,d] S=U (.bl true,S))->dg (bi 2 (ah '`' (ah 'a' aY))) bU (ao 2 F (ac '0' (ac '1' ai))) (jr xs xs) [a,b] S=U (Si xs.length (.bl true),S)
 | [],a,b,_=>by simp
 | x::r,a,b,h=>by
  have h1:=h x (by simp)
  have h2:=JF (t1:=t1) (t2:=t2) r (U x) (U x) λd hd=>h d (Xf _ hd)
  rw[IY,fG]
  simp[h1,h2,XO]
theorem zC{R:Nat->PF}{N:List Str}(hN:N.length=3)(hR:∀ j,R (j+1)=aT N (kG (R j)) 2){S:aa}:∀ (j:Nat) (d:D),cz j d=true->R j [d,d] S=U (.bl true,S)
 | 0,d,h=>by cases d<;>cases h
 | j+1,d,h=>by
  have hst:bt N [d,d]=[U d,U d,Y]:=by simp[bt,hN,Si]
  rw[hR,cO (show [d,d].length=2 from rfl),hst]
  obtain⟨i1,i2⟩:=VG (S:=S) h
  cases d with
  | tup xs=>
   have hx:xs.length<=5000/\xs.all (cz j)=true:=by simpa[cz] using h
   have it:lu "tuple" S (.tup xs)=U (.bl true):=rfl
   have hl:=JF (F:=R j) (S:=S) (t1:=Y) (t2:=Y) xs Y Y λd hd=>zC hN hR j d (Xu.mp hx.2 d hd)
   have kc:lI (bi 2 (ah '`' (ah 'a' aY))) bU (ao 2 (R j) (ac '0' (ac '1' ai))) [Y,Y] [U (.tup xs),U (.tup xs),Y] (jr xs xs,S)=U (.lst (Si xs.length (.bl true)),S):=by
    rw[iI (by rw[mV];exact hx.1)]
    show(dg _ _ _ (jr xs xs) [Y,Y] S).bind _=_
    rw[hl];rfl
   have fa:aI yA [.lst (Si xs.length (D.bl true))] S=U (.bl true,S):=by
    rw[Mn (pC _)];simp
   simp[kG,i1,i2,it,VD,kc,fa]
  | txt=>cases h
  | obj=>cases h
  | exc C=>cases h
  | fn a=>cases h
  | non=>simp[kG,i1,i2,show lu "tuple" S .non=U (.bl false) from rfl,mY]
  | bl k=>simp[kG,i1,i2,show lu "tuple" S (.bl k)=U (.bl false) from rfl,show lu "str" S (.bl k)=U (.bl false) from rfl,show lu "bool" S (.bl k)=U (.bl true) from rfl,mY]
  | int i=>simp[kG,i1,i2,show lu "tuple" S (.int i)=U (.bl false) from rfl,show lu "str" S (.int i)=U (.bl false) from rfl,show lu "bool" S (.int i)=U (.bl false) from rfl,show lu "int" S (.int i)=U (.bl true) from rfl,mY]
  | str x=>simp[kG,i1,i2,show lu "tuple" S (.str x)=U (.bl false) from rfl,show lu "str" S (.str x)=U (.bl true) from rfl,mY]
  | lst _=>simp[cz] at h
  | rol _=>simp[cz] at h
  | dct _ _=>simp[cz] at h
  | ref _=>simp[cz] at h
theorem dP{S:aa}{c:Cell}:(S++[c])[S.length]?=U c:=by simp
theorem Gf{S:aa}{c d:Cell}:(S++[c]).set S.length d=S++[d]:=by
 rw[List.set_append,if_neg (YS _)];simp
inductive Wd where | out | reads | rising | writes | raised
deriving DecidableEq
def Wd.s:Wd->Str
 | .out=>"out"
 | .reads=>"reads"
 | .rising=>"rising"
 | .writes=>"writes"
 | .raised=>"raised"
theorem Wd.eq(a b:Wd):(a.s==b.s)=decide (a=b):=by cases a<;>cases b<;>decide +kernel
structure En where
 g:Nat
 wr:Bool
 m:Int
 t:Option Int
def ci(b:Bool):Str:=if b then "write" else "read"
theorem wI(b:Bool):(ci b==("write":Str))=b:=by cases b<;>decide +kernel
theorem El(b:Bool):(ci b==("read":Str)) = !b:=by cases b<;>decide +kernel
def cB:Option Int->D
 | none=>.non
 | some k=>.int k
def En.d(e:En):D:=.tup [.int (e.g:Nat),.str (ci e.wr),.int e.m,cB e.t]
noncomputable abbrev Rm:=List Wd×List En
def Wd.d(w:Wd):D:=.str w.s
def js(ws:List Wd):D:=.tup (ws.map Wd.d)
def gz(es:List En):D:=.tup (es.map En.d)
def aS(R:Rm):D:=.tup [js R.1,gz R.2]
inductive Rw where | rows | readers | writers | turns | passes
deriving DecidableEq
def Rw.s:Rw->Str
 | .rows=>"rows"
 | .readers=>"readers"
 | .writers=>"writers"
 | .turns=>"turns"
 | .passes=>"passes"
theorem Rw.eq(a b:Rw):(a.s==b.s)=decide (a=b):=by cases a<;>cases b<;>decide +kernel
structure Rl where
 w:Rw
 a:Int
 b:Int
 c:Int
def Rl.d(r:Rl):D:=.tup [.str r.w.s,.int r.a,.int r.b,.int r.c]
structure Rl.Ok(r:Rl):Prop where
 a0:0<=r.a
 a5:r.a<=5
 b0:0<=r.b
 b9:r.b<=9
 c0:0<=r.c
 c1:r.c<=1
theorem HD(h:Do x):∃ w:Rw,x=w.s:=by
 rcases h with rfl | rfl | rfl | rfl | rfl
 ·exact⟨.rows,rfl⟩
 ·exact⟨.readers,rfl⟩
 ·exact⟨.writers,rfl⟩
 ·exact⟨.turns,rfl⟩
 ·exact⟨.passes,rfl⟩
section
variable{α:Type}{enc:α->D}{p:α->Bool}{f:α->D}{t:MT}{e:ME}{rest:aE}{S:aa}
theorem SZ:∀ (xs:List α) (a:Option D),(∀ x∈xs,t (U (enc x)::rest) S=U (p x,S))->(∀ x∈xs,p x=true->e (U (enc x)::rest) S=U (f x,S))->dg '`' t e (xs.map enc) (a::rest) S=U ((xs.filter p).map f,S)
 | [],a,_,_=>by simp
 | x::r,a,h,h2=>by
  have ih:=SZ r (U (enc x)) (λy hy=>h y (Xf _ hy)) λy hy=>h2 y (Xf _ hy)
  rw[Xp,fG,aM,ob,eR,tj,h x (by simp),ob]
  cases hp:p x with
  | true=>rw[tf,h2 x (by simp) hp,ob,sZ,ih,ob,sY,YU hp,Xp]
  | false=>rw[yi,ih,YV (by simp[hp])]
theorem jv{a:Option D}{xs:List α}(hc:pB cap env=a::rest)(hl:xs.length<=5000)(h:∀ x∈xs,t (U (enc x)::rest) S=U (p x,S))(h2:∀ x∈xs,p x=true->e (U (enc x)::rest) S=U (f x,S)) :
  lI '`' t e cap env (xs.map enc,S)=U (.lst ((xs.filter p).map f),S):=by
 rw[iI (by rw[Xn];exact hl),hc,SZ xs a h h2,ob,jK]
theorem SY:∀ (xs:List α) (k:Nat) (a b:Option D),(∀ i x,xs[i]?=U x->t (U (.int ((k+i:Nat):Int))::U (enc x)::rest) S=U (p x,S))->dg (bi 2 (ah '`' (ah 'a' aY))) t '0' (fL k (xs.map enc)) (a::b::rest) S=U (((xs.zipIdx k).filter λq=>p q.1).map λq=>.int (q.2:Int),S)
 | [],k,a,b,_=>by simp[fL]
 | x::r,k,a,b,h=>by
  have ih:=SY r (k+1) (U (.int (k:Int))) (U (enc x)) (λi y hy=>by
   have:=h (i+1) y (by simpa using hy)
   rw[show k+(i+1)=k+1+i by omega] at this
   exact this)
  have h0:=h 0 x rfl
  rw[abo] at h0
  rw[Xp,fL,fG,cT,bL,aM,ob,eR,eM,bL,aM,ob,fj,eR,eM,cx,ob,tj,h0,ob,YX]
  cases hp:p x with
  | true=>
   rw[tf,ak,bG,oj,ob,aj,ob,sZ,ih,ob,sY,YU (p:=λq:α×Nat=>p q.1) (a:=(x,k)) hp,Xp]
  | false=>rw[yi,ih,YV (p:=λq:α×Nat=>p q.1) (a:=(x,k)) (by simp[hp])]
theorem UV{a b:Option D}{xs:List α}(hc:pB cap env=a::b::rest)(hl:xs.length<=5000)(h:∀ (i:Nat) x,xs[i]?=U x->t (U (.int (i:Int))::U (enc x)::rest) S=U (p x,S)) :
  lI (bi 2 (ah '`' (ah 'a' aY))) t '0' cap env (fL 0 (xs.map enc),S)=U (.lst ((xs.zipIdx.filter λq=>p q.1).map λq=>.int (q.2:Int)),S):=by
 rw[iI (by rw[mF,Xn];exact hl),hc,SY xs 0 a b (λi x hx=>by rw[ZP];exact h i x hx),ob,jK]
end
theorem Od{α:Type}{xs:List α}{i:Nat}{x:α}(h:xs[i]?=U x):oo xs (i:Int)=U x:=by
 have hl:=(Xe.mp h).1
 rw[uq (by omega) (by omega)]
 rw[Xe] at h
 obtain⟨_,h⟩:=h
 simpa using h
section
variable{S:aa}{e:En}{r:Rl}{R:Rm}
theorem En.ix0:aW S e.d (.int 0)=U (.int (e.g:Nat)):=rfl
theorem En.ix1:aW S e.d (.int 1)=U (.str (ci e.wr)):=rfl
theorem En.ix2:aW S e.d (.int 2)=U (.int e.m):=rfl
theorem Rl.ix0:aW S r.d (.int 0)=U (.str r.w.s):=rfl
theorem Rl.ix1:aW S r.d (.int 1)=U (.int r.a):=rfl
theorem Rl.ix2:aW S r.d (.int 2)=U (.int r.b):=rfl
theorem Rm.ix0:aW S (aS R) (.int 0)=U (js R.1):=rfl
theorem Rm.ix1:aW S (aS R) (.int 1)=U (gz R.2):=rfl
theorem RW{ws:List Wd}{i:Nat}{w:Wd}(h:ws[i]?=U w):aW S (js ws) (.int (i:Int))=U w.d:=by
 show oo (ws.map Wd.d) (i:Int)=_
 exact Od (by rw[Yl,h];rfl)
theorem es_ix{es:List En}{i:Nat}{e:En}(h:es[i]?=U e):aW S (gz es) (.int (i:Int))=U e.d:=by
 show oo (es.map En.d) (i:Int)=_
 exact Od (by rw[Yl,h];rfl)
end
theorem JG{d i:Nat}:HT.eK n d (U (i:Int))=min i n:=by
 show(if (i:Int)<0 then((i:Int)+(n:Int)).toNat else min (i:Int).toNat n)=_
 rw[if_neg (by omega),YB]
theorem JH{d:Nat}:HT.eK n d Y=d:=rfl
theorem wv{α:Type}(xs:List α)(i:Nat)(h:i<=xs.length):iS xs Y (U (i:Int))=xs.take i:=by
 unfold iS
 rw[JG,JH,aaP h];simp
theorem mJ{α:Type}(xs:List α)(i:Nat)(h:i<=xs.length):iS xs (U (i:Int)) Y=xs.drop i:=by
 unfold iS
 rw[JG,JH,aaP h,Zq (by simp)]
theorem TD{α:Type}(xs:List α)(i:Nat)(h:i<xs.length)(x:α):xs.take i++[x]++xs.drop (i+1)=xs.set i x:=by
 rw[List.set_eq_take_append_cons_drop,Xq h];simp
section
variable{S:aa}{ws:List Wd}{es:List En}{ms:MA}{env:aE}
theorem eqWd(a b:Wd):iX a.d b.d=decide (a=b):=Wd.eq a b
theorem okWs:((ws.map Wd.d).all (bS n))=true:=by
 rw[Xu];intro d hd;obtain⟨w,_,rfl⟩:=XH.mp hd;cases n<;>rfl
end
def vf(r:Rl)(ws:List Wd)(wr:Bool):Bool:=
 if ws.count .reads+ws.count .rising+ws.count .out<ws.length then false
 else if wr then decide (ws.count .reads+ws.count .rising=0)
 else decide (ws.count .rising=0)&&(decide (r.a=0)||decide (((ws.count .reads+ws.count .rising:Nat):Int)<r.a))
theorem zW{α:Type}(xs:List α)(i:Nat):iS xs Y (U (i:Int))=xs.take i:=by
 unfold iS
 rw[JG,JH];simp only[ZY,Nat.sub_zero]
 rcases Nat.le_total i xs.length with h | h
 ·rw[aaP h]
 ·rw[Nat.min_eq_right h,Zq (Xm _),Zq h]
def ni(i:Nat):D:=.int (i:Int)
def nl(l:List Nat):D:=.lst (l.map ni)
def Sm(a b:List Nat):List Nat:=if a=[] then b else a
def LH(p:En->Bool)(es:List En):List Nat:=(es.zipIdx.filter λq=>p q.1).map (·.2)
theorem nQ{i:Nat}(h:i∈LH p es):i<es.length:=by
 unfold LH at h
 obtain⟨q,hq,rfl⟩:=XH.mp h
 have:=(Yh.mp hq).1
 have:=List.snd_lt_of_mem_zipIdx this
 omega
def Oo(r:Rl)(es:List En):List Nat:=match r.w with
 | .rows=>(List.range es.length).take 1
 | .readers=>(Sm (LH (λe=>!e.wr) es) (LH (λe=>e.wr) es)).take 1
 | .passes=>(List.range es.length).filter λi=>decide (lm (0::(es.take i).map λe=>e.m+1)<=r.b)
 | .turns=>(Sm (LH (λe=>decide (e.m=1)) es) (Sm (LH (λe=>e.wr) es) (LH (λe=>!e.wr) es))).take 1
 | .writers=>(Sm (LH (λe=>e.wr) es) (LH (λe=>!e.wr) es)).take 1
theorem LW{i:Nat}(h:i∈Oo r es):i<es.length:=by
 have ho:∀ {a b:List Nat},i∈Sm a b->i∈a\/i∈b:=λ{a b} h=>by unfold Sm at h;split at h<;>simp[h]
 unfold Oo at h
 split at h
 ·exact ZX.mp (Yc h)
 ·exact(ho (Yc h)).elim nQ nQ
 ·exact ZX.mp (Yh.mp h).1
 ·exact(ho (Yc h)).elim nQ λh=>(ho h).elim nQ nQ
 ·exact(ho (Yc h)).elim nQ nQ
structure ROk(R:Rm):Prop where
 out:∀ e∈R.2,R.1[e.g]?=U .out
 nd:(R.2.map (·.g)).Nodup
theorem CN:∀ (n:Nat) (l:List Nat),l.Nodup->(∀ x∈l,x<n)->l.length<=n
 | 0,l,_,h=>by cases l with | nil=>exact Xm _ | cons x _=>exact absurd (h x (by simp)) (by omega)
 | n+1,l,hn,h=>by
  by_cases hm:n∈l
  ·have:=CN n (l.erase n) (hn.erase n) λx hx=>by
    have h1:=h x (List.mem_of_mem_erase hx)
    have h2:x≠n:=λz=>by rw[z] at hx;exact(List.Nodup.not_mem_erase hn) hx
    omega
   rw[List.length_erase_of_mem hm] at this
   omega
  ·have:=CN n l hn λx hx=>by
    have h1:=h x hx
    have h2:x≠n:=λz=>hm (z ▸ hx)
    omega
   omega
theorem ROk.lt(h:ROk R){e:En}(he:e∈R.2):e.g<R.1.length:=(Xe.mp (h.out e he)).1
theorem ROk.len(h:ROk R):R.2.length<=R.1.length:=by
 have:=CN R.1.length (R.2.map (·.g)) h.nd λx hx=>by obtain⟨e,he,rfl⟩:=XH.mp hx;exact h.lt he
 rwa[Xn] at this
structure Ev where
 w:Str
 g:Nat
def Ev.d(e:Ev):D:=.tup [.str e.w,.int (e.g:Nat)]
def ut(ws:List Wd):List Nat:=(List.range ws.length).filter λg=>decide (ws[g]?=U .rising)&&decide (ws.count .out+1=ws.length)
def vz(r:Rl)(ws:List Wd)(es:List En):List Nat:=(Oo r es).filter λi=>match es[i]? with | some e=>vf r ws e.wr | none=>false
def BE(r:Rl)(e:En):En:={ e with m:=e.m+(if r.w=.passes then 1 else 0) }
def yl(r:Rl)(R:Rm)(i:Nat)(e:En):Rm:=(R.1.set e.g (if e.wr then .writes else .reads),(R.2.take i).map (BE r)++R.2.drop (i+1))
def om(r:Rl)(R:Rm):Rm×List Ev:=match ut R.1 with
 | g::_=>((R.1.set g .raised,R.2),[⟨"steps",g⟩])
 | []=>match vz r R.1 R.2 with
  | i::_=>match R.2[i]? with
   | some e=>(yl r R i e,[⟨"in",e.g⟩])
   | none=>(R,[])
  | []=>(R,[])
def BQ(r:Rl):Nat->Rm->Rm×List Ev
 | 0,R=>(R,[])
 | n+1,R=>let a:=om r R;let b:=BQ r n a.1;(b.1,a.2++b.2)
theorem CS(r:Rl)(es:List En):(es.map (BE r)).map (·.g)=es.map (·.g):=by rw[YQ];rfl
theorem Qw{i:Nat}{e:En}(h:ROk R)(hi:R.2[i]?=U e):ROk (yl r R i e):=by
 obtain⟨ws,es⟩:=R
 have hs:es=es.take i++e::es.drop (i+1):=by
  obtain⟨hl,he⟩:=Xe.mp hi
  rw[<- he,List.getElem_cons_drop,Zu]
 have hnd:((es.take i).map (·.g)++e.g::(es.drop (i+1)).map (·.g)).Nodup:=by
  have:=h.nd
  dsimp only at this
  rw[hs] at this
  simpa using this
 rw[YA,Zd] at hnd
 obtain⟨n1,⟨n2,n3⟩,n4⟩:=hnd
 refine⟨λx hx=>?_,?_⟩
 ·show(ws.set e.g _)[x.g]?=_
  have key:∃ y∈es,y.g=x.g/\x.g≠e.g:=by
   rcases Xx.mp hx with hx | hx
   ·obtain⟨y,hy,rfl⟩:=XH.mp hx
    refine⟨y,Yc hy,rfl,λz=>?_⟩
    exact n4 _ (XH.mpr ⟨y,hy,rfl⟩) _ Xi z
   ·refine⟨x,Zh hx,rfl,λz=>n2 ?_⟩
    rw[<- z];exact XH.mpr ⟨x,hx,rfl⟩
  obtain⟨y,hy,e1,ne⟩:=key
  rw[XE (Ne.symm ne),<- e1]
  exact h.out y hy
 ·show(((es.take i).map (BE r)++es.drop (i+1)).map (·.g)).Nodup
  rw[Ya,CS,YA]
  exact⟨n1,n3,λa ha b hb=>n4 a ha b (Xf _ hb)⟩
theorem ur{g:Nat}(h:g∈ut ws):ws[g]?=U .rising:=by
 have:=(Yh.mp h).2
 rw[Xk] at this
 exact XV this.1
theorem Jx(h:ROk R):ROk (om r R).1/\(om r R).1.1.length=R.1.length:=by
 unfold om
 split
 ·rename_i g l hg
  have hr:R.1[g]?=U .rising:=ur (by rw[hg];exact Xi)
  refine⟨⟨λe he=>?_,h.nd⟩,by simp⟩
  show(R.1.set g .raised)[e.g]?=_
  have h1:=h.out e he
  rw[XE (λz=>by rw[z,h1] at hr;cases hr)]
  exact h1
 ·split
  ·split
   ·rename_i e he
    exact⟨Qw h he,by simp[yl]⟩
   ·exact⟨h,rfl⟩
  ·exact⟨h,rfl⟩
theorem JC:∀ (n:Nat) {R:Rm},ROk R->ROk (BQ r n R).1/\(BQ r n R).1.1.length=R.1.length
 | 0,R,h=>⟨h,rfl⟩
 | n+1,R,h=>by
  obtain⟨h1,h2⟩:=Jx (r:=r) h
  obtain⟨h3,h4⟩:=JC n h1
  exact⟨h3,h4.trans h2⟩
section
variable{S:aa}{ws:List Wd}{es:List En}{r:Rl}
theorem PP{S:aa}{i:Nat}{l:List Nat}:aW S (nl (i::l)) (.int 0)=U (.int (i:Int)):=by
 show oo ((i::l).map ni) ((0:Nat):Int)=_
 exact Od rfl
theorem VO{evs:List Ev}{v:Ev}(h:evs.length<500):bZ (.ref S.length) [v.d] (S++[.lst (evs.map Ev.d)])=U (.non,S++[.lst ((evs++[v]).map Ev.d)]):=by
 rw[HX dP (by rw[Xn];omega),Gf];simp
theorem QH{evs:List Ev}:oV f ms env (.ref S.length,S++[.lst (evs.map Ev.d)])=(ms env (S++[.lst (evs.map Ev.d)])).bind (hU f (.ref S.length)):=oU dP
theorem OH:(om r R).2.length<=1:=by
 unfold om
 split
 ·simp
 ·split
  ·split<;>simp
  ·simp
end
inductive Ak where | up | down | leave | stop
deriving DecidableEq
def Ak.s:Ak->Str
 | .up=>"up"
 | .down=>"down"
 | .leave=>"leave"
 | .stop=>"stop"
inductive Dd where
 | ask (wr:Bool) (g:Nat) (t:Option Int)
 | act (k:Ak) (g:Nat)
 | tick
def Dd.d:Dd->D
 | .ask wr g t=>.tup [.str (ci wr),.int (g:Int),cB t]
 | .act k g=>.tup [.str k.s,.int (g:Int)]
 | .tick=>.tup [.str "tick"]
def og(t:Option Int):Prop:=∀ k,t=U k->0<=k/\k<=9
def Dd.Ok(n:Nat):Dd->Prop
 | .ask _ g t=>g<n/\og t
 | .act _ g=>g<n
 | .tick=>True
def oS(pick:PF):MS:=
 aB (ay (ao 2 pick (ac '0' (ac '1' ai))) 'b') (aB (ay (ao 2 pick (ac '0' (ac 12e0 ai))) 'c') (aB (bN (az (aH HS '3' 6e0)) (bn (bj (ac (aH aW (fR (ac (!"read") (ac (!"write") ai))) (aH kQ '3' 2e0)) (ac '2' (ac (aH aW (fR (ac (mC .non) (ac (mC .non) (ac (mC .non) (ac 0e0 (ac 1e0 (ac 9e0 ai))))))) (ao 2 pick (ac '0' (ac 6e0 ai)))) ai))))) aU) (aB (bN (az (aH cY '3' 11e0)) (bn (bj (ac (!"tick") ai))) aU) (bn (bj (ac (aH aW (fR (ac (!"up") (ac (!"down") (ac (!"leave") (ac (!"leave") (ac (!"stop") ai)))))) (aH HQ '3' 6e0)) (ac '2' ai)))))))
theorem RL{q:Int}(h0:0<=q)(h1:q<6):∃ t:Option Int,oo [D.non,D.non,D.non,D.int 0,D.int 1,D.int 9] q=U (cB t)/\og t:=by
 have n:og Y:=λk h=>by cases h
 have s:∀ j:Int,0<=j->j<=9->og (U j):=λj a b k h=>by cases h;exact⟨a,b⟩
 obtain rfl | rfl | rfl | rfl | rfl | rfl:q=0\/q=1\/q=2\/q=3\/q=4\/q=5:=by omega
 ·exact⟨Y,rfl,n⟩
 ·exact⟨Y,rfl,n⟩
 ·exact⟨Y,rfl,n⟩
 ·exact⟨U 0,rfl,s 0 (by decide) (by decide)⟩
 ·exact⟨U 1,rfl,s 1 (by decide) (by decide)⟩
 ·exact⟨U 9,rfl,s 9 (by decide) (by decide)⟩
theorem WK{q:Int}(h0:6<=q)(h1:q<11):∃ k:Ak,oo [D.str "up",D.str "down",D.str "leave",D.str "leave",D.str "stop"] (q - 6)=U (.str k.s):=by
 obtain rfl | rfl | rfl | rfl | rfl:q=6\/q=7\/q=8\/q=9\/q=10:=by omega
 ·exact⟨.up,rfl⟩
 ·exact⟨.down,rfl⟩
 ·exact⟨.leave,rfl⟩
 ·exact⟨.leave,rfl⟩
 ·exact⟨.stop,rfl⟩
theorem at_wr{q:Int}:∃ wr:Bool,oo [D.str "read",D.str "write"] (q%2)=U (.str (ci wr)):=by
 obtain h | h:q%2=0\/q%2=1:=by omega
 ·exact⟨false,by rw[h];rfl⟩
 ·exact⟨true,by rw[h];rfl⟩
theorem Ny{pick:PF}(hp:Eh pick){S:aa}{r n:Nat}{N:List Str}(hN:N.length=4)(P:Pk S r)(h1:1<=n)(h9:n<=9):∃ (dd:Dd) (S':aa),aT N (oS pick) 2 [.ref r,.int (n:Int)] S=U (dd.d,S')/\dd.Ok n/\Pk S' r/\Keep r S S':=by
 have hst:bt N [D.ref r,.int (n:Int)]=[U (.ref r),U (.int (n:Int)),Y,Y]:=by simp[bt,hN,Si]
 rw[cO (show [D.ref r,D.int (n:Int)].length=2 from rfl),hst]
 obtain⟨g,S1,e1,g0,g1,P1,K1⟩:=hp _ _ (n:Int) P (by omega) (by omega)
 obtain⟨q,S2,e2,q0,q1,P2,K2⟩:=hp _ _ 12 P1 (by decide) (by decide)
 obtain⟨g',rfl⟩:∃ g':Nat,g=(g':Int):=⟨g.toNat,by omega⟩
 have md:∀ S,kQ S (.int q) (.int 2)=U (.int (q%2)):=λS=>iQ (by decide)
 by_cases h6:q<6
 ·obtain⟨l,S3,e3,l0,l1,P3,K3⟩:=hp _ _ 6 P2 (by decide) (by decide)
  obtain⟨t,et,ot⟩:=RL l0 l1
  obtain⟨wr,ew⟩:=at_wr (q:=q)
  have k1:∀ S,pY ([D.str "read",D.str "write"],S)=U (.lst [D.str "read",D.str "write"],S):=λS=>gd (by simp)
  have k2:∀ S,pY ([D.non,D.non,D.non,D.int 0,D.int 1,D.int 9],S)=U (.lst [D.non,D.non,D.non,D.int 0,D.int 1,D.int 9],S):=λS=>gd (by simp)
  have k3:∀ S (a b c:D),cK ([a,b,c],S)=U (.tup [a,b,c],S):=λS a b c=>bb (by simp)
  refine⟨.ask wr g' t,S3,?_,⟨by omega,ot⟩,P3,Keep.trans K1 (Keep.trans K2 K3)⟩
  simp[oS,e1,e2,h6,k1,md,ew,e3,k2,et,k3,Dd.d]
 ·by_cases h11:q=11
  ·subst h11
   have k1:∀ S (a:D),cK ([a],S)=U (.tup [a],S):=λS a=>bb (by simp)
   refine⟨.tick,S2,?_,trivial,P2,Keep.trans K1 K2⟩
   simp[oS,e1,e2,k1,Dd.d]
  ·obtain⟨k,ek⟩:=WK (q:=q) (by omega) (by omega)
   have k1:∀ S,pY ([D.str "up",D.str "down",D.str "leave",D.str "leave",D.str "stop"],S)=U (.lst [D.str "up",D.str "down",D.str "leave",D.str "leave",D.str "stop"],S):=λS=>gd (by simp)
   have k2:∀ S (a b:D),cK ([a,b],S)=U (.tup [a,b],S):=λS a b=>bb (by simp)
   refine⟨.act k g',S2,?_,(by show g'<n;omega),P2,Keep.trans K1 K2⟩
   simp[oS,e1,e2,h6,YC.mpr h11,k1,ek,k2,Dd.d]
def cj(es:List En)(g:Nat):Bool:=es.any λe=>decide (e.g=g)
def dD(R:Rm):Dd->Bool
 | .tick=>true
 | .ask _ g _=>decide (R.1[g]?=U .out)&&!cj R.2 g
 | .act .up g=>decide (R.1[g]?=U .reads)
 | .act .down g=>decide (R.1[g]?=U .writes)||decide (R.1[g]?=U .raised)
 | .act .leave g=>decide (R.1[g]?≠U .out)
 | .act .stop g=>cj R.2 g||decide (R.1[g]?=U .rising)
def BR(r:Rl)(w:Wd)(es:List En):List En:=if r.w=.turns/\w=.writes then es.map (λe=>if e.wr then e else { e with m:=1 }) else es
section
variable{S:aa}{ws:List Wd}{es:List En}{r:Rl}
theorem gsC{b:Option D}(hc:pB cap env=[b])(hl:es.length<=100):lI '`' bU (aH aW '0' 0e0) cap env (es.map En.d,S)=U (.lst (es.map λe=>.int (e.g:Int)),S):=by
 have k:=jv (S:=S) (t:=bU) (e:=aH aW '0' 0e0) (cap:=cap) (env:=env) (rest:=[]) (a:=b) (enc:=En.d) (p:=λ_=>true) (f:=λe=>.int (e.g:Int)) (xs:=es) hc (by omega) (λx _=>mq) (λx _ _=>by simp[En.ix0])
 rw[YT.mpr (λ_ _=>rfl)] at k
 exact k
theorem jn:AS (gz es,S)=U (es.map En.d,S):=rfl
theorem Dy{a b:Wd}:cY S a.d (.str b.s)=U (.bl (decide (a=b))):=by
 show cY S (.str a.s) (.str b.s)=_
 rw[ee,Wd.eq]
theorem Dw{a b:Wd}:mE S a.d (.str b.s)=U (.bl (!decide (a=b))):=by
 show mE S (.str a.s) (.str b.s)=_
 rw[yt,Wd.eq]
theorem VI{a:Wd}:BV S a.d (.tup [.str "writes",.str "raised"])=U (.bl (decide (a=.writes)||decide (a=.raised))):=by
 have h:([D.str "writes",D.str "raised"].any λd=>iX d a.d)=(decide (a=.writes)||decide (a=.raised)):=by cases a<;>decide +kernel
 rw[tU (ys:=[.str "writes",.str "raised"]) rfl rfl rfl,h]
def kU:Dd->Str
 | .ask wr _ _=>ci wr
 | .act k _=>k.s
 | .tick=>"tick"
def gm:Dd->Nat
 | .ask _ g _=>g
 | .act _ g=>g
 | .tick=>0
end
def dL(l:List Ev):D:=.tup (l.map Ev.d)
def aZ(r:Rl)(R:Rm):Rm×List Ev:=BQ r (2*R.1.length) R
def qX(wr:Bool)(g:Nat)(t:Option Int):En:=⟨g,wr,0,if t=U 0 then U 1 else t⟩
def Eb(r:Rl)(R:Rm)(wr:Bool)(g:Nat)(t:Option Int):Rm×List Ev:=
 let a:=aZ r (R.1,R.2++[qX wr g t])
 if cj a.1.2 g=false then a
 else if t=U 0 then((a.1.1,a.1.2.filter λe=>decide (e.g≠g)),a.2++[⟨"no",g⟩])
 else(a.1,a.2++[⟨"waits",g⟩])
def jz(e:En):En:={ e with t:=e.t.map (· - 1) }
def Er(r:Rl)(R:Rm):Rm×List Ev:=
 let a:=aZ r (R.1,(R.2.map jz).filter λe=>decide (e.t≠U 0))
 (a.1,(((R.2.map jz).filter λe=>decide (e.t=U 0)).map λe=>⟨"ends",e.g⟩)++a.2)
def yq(k:Ak)(g:Nat):List Ev:=match k with
 | .up=>[]
 | .stop=>[⟨"ends",g⟩]
 | .down=>[⟨"down",g⟩]
 | .leave=>[⟨"out",g⟩]
def wM(k:Ak)(w:Wd):Wd:=match k with
 | .up=>.rising
 | .down=>.reads
 | .leave=>.out
 | .stop=>if w=.rising then .reads else .out
def yV(r:Rl)(k:Ak)(w:Wd)(g:Nat)(es:List En):List En:=(if k=.down\/k=.leave then BR r w es else es).filter λe=>decide (e.g≠g)
def pF(r:Rl)(R:Rm)(k:Ak)(g:Nat)(w:Wd):Rm×List Ev:=
 let a:=aZ r (R.1.set g (wM k w),yV r k w g R.2)
 (a.1,yq k g++a.2++(if a.1.1[g]?=U .rising then [⟨"waits",g⟩] else []))
def gQ(r:Rl)(R:Rm)(dd:Dd):Option (Rm×List Ev):=
 if dD R dd=false then Y else match dd with
 | .tick=>U (Er r R)
 | .ask wr g t=>U (Eb r R wr g t)
 | .act k g=>if k=.up/\(r.c=0\/Wd.rising∈R.1) then U (R,[⟨"no",g⟩]) else match R.1[g]? with
  | some w=>U (pF r R k g w)
  | none=>Y
theorem ia(h:cj es g=false){e:En}(he:e∈es):e.g≠g:=λz=>by
 have:cj es g=true:=Yw.mpr ⟨e,he,by simp[z]⟩
 rw[h] at this;cases this
theorem ROk.filter{ws:List Wd}{es:List En}(h:ROk (ws,es))(p:En->Bool):ROk (ws,es.filter p):=
 ⟨λe he=>h.out e (Yh.mp he).1,List.Sublist.nodup (List.Sublist.map _ (List.filter_sublist)) h.nd⟩
theorem ROk.mapE{ws:List Wd}{es:List En}(h:ROk (ws,es))(f:En->En)(hf:∀ e,(f e).g=e.g):ROk (ws,es.map f):=
 ⟨λe he=>by obtain⟨x,hx,rfl⟩:=XH.mp he;rw[hf];exact h.out x hx,by
  show((es.map f).map (·.g)).Nodup
  rw[YQ,show((·.g) ∘ f)=(λe:En=>e.g) from funext hf];exact h.nd⟩
theorem ROk.setW{ws:List Wd}{es:List En}(h:ROk (ws,es))(g:Nat)(w:Wd)(hg:∀ e∈es,e.g≠g):ROk (ws.set g w,es):=
 ⟨λe he=>by show(ws.set g w)[e.g]?=_;rw[XE (Ne.symm (hg e he))];exact h.out e he,h.nd⟩
theorem fq(h:ROk R):ROk (aZ r R).1/\(aZ r R).1.1.length=R.1.length:=JC _ h
theorem Gc{g:Nat}(h:ROk R)(hw:R.1[g]?=U .out)(hs:cj R.2 g=false):ROk (R.1,R.2++[qX wr g t]):=
 ⟨λe he=>by
  rcases Xx.mp he with he | he
  ·exact h.out e he
  ·rw[XA.mp he];exact hw,by
  show((R.2++[qX wr g t]).map (·.g)).Nodup
  rw[Ya,YA]
  refine⟨h.nd,by simp,λa ha b hb=>?_⟩
  obtain⟨e,he,rfl⟩:=XH.mp ha
  simp[qX] at hb
  rw[hb];exact ia hs he⟩
theorem UB{ws:List Wd}{es:List En}(h:ROk (ws,es)):ROk (ws,BR r w es):=by
 unfold BR;split
 ·exact h.mapE _ λe=>by split<;>rfl
 ·exact h
theorem Gg{k:Ak}{ws:List Wd}{es:List En}(h:ROk (ws,es))(w':Wd):ROk (ws.set g w',yV r k w g es):=by
 unfold yV
 refine ROk.setW (ROk.filter ?_ _) g w' λe he=>XV (Yh.mp he).2
 split
 ·exact UB h
 ·exact h
theorem uc{x:Rm×List Ev}(h:ROk R)(hx:gQ r R dd=U x):ROk x.1/\x.1.1.length=R.1.length:=by
 unfold gQ at hx
 split at hx
 ·cases hx
 ·rename_i hc
  have hc:dD R dd=true:=by simpa using hc
  cases dd with
  | tick=>
   cases hx
   obtain⟨a,b⟩:=fq (r:=r) (R:=(R.1,(R.2.map jz).filter λe=>decide (e.t≠U 0))) (ROk.filter (ROk.mapE h jz λe=>rfl) _)
   exact⟨a,b⟩
  | ask wr g t=>
   cases hx
   simp only[dD,Xk,Yz,Bool.not_eq_true'] at hc
   obtain⟨a,b⟩:=fq (r:=r) (Gc (wr:=wr) (t:=t) h hc.1 hc.2)
   unfold Eb
   dsimp only
   split
   ·exact⟨a,b⟩
   ·split
    ·exact⟨ROk.filter a _,b⟩
    ·exact⟨a,b⟩
  | act k g=>
   dsimp only at hx
   split at hx
   ·cases hx;exact⟨h,rfl⟩
   ·split at hx
    ·rename_i w hw
     cases hx
     obtain⟨a,b⟩:=fq (r:=r) (Gg (r:=r) (k:=k) (w:=w) (g:=g) h (wM k w))
     exact⟨a,b.trans (by simp)⟩
    ·cases hx
theorem Eu:∀ (n:Nat) {R:Rm},(BQ r n R).2.length<=n
 | 0,R=>Xm _
 | n+1,R=>by
  have h1:=OH (r:=r) (R:=R)
  have h2:=Eu (r:=r) n (R:=(om r R).1)
  show((om r R).2++(BQ r n (om r R).1).2).length<=_
  rw[XM];omega
section
variable{S:aa}{ws:List Wd}{es:List En}{r:Rl}{R:Rm}
theorem tV:cY S (cB t) (.int 0)=U (.bl (decide (t=U 0))):=by
 cases t with
 | none=>exact kS rfl rfl
 | some k=>
  show cY S (.int k) (.int 0)=_
  rw[nU];congr 2;rw[Yn];simp
theorem Mi:mE S (cB t) (.int 0)=U (.bl (!decide (t=U 0))):=by
 cases t with
 | none=>exact yu rfl rfl
 | some k=>
  show mE S (.int k) (.int 0)=_
  rw[Mj];congr 3;rw[Yn];simp
theorem restC{g:Nat}{b:Option D}(hc:pB cap env=[b,U (.int (g:Int))])(hl:es.length<=100):lI '`' (az (aH mE (aH aW '0' 0e0) '1')) '0' cap env (es.map En.d,S)=U (.lst ((es.filter λe=>decide (e.g≠g)).map En.d),S):=by
 exact jv (S:=S) (t:=az (aH mE (aH aW '0' 0e0) '1')) (e:=af 0) (cap:=cap) (env:=env) (rest:=[U (.int (g:Int))]) (a:=b) (enc:=En.d) (p:=λe=>decide (e.g≠g)) (f:=En.d) (xs:=es) hc (by omega) (λx _=>by
  have:(!((x.g:Int)==(g:Int)))=decide (x.g≠g):=by rw[Yn];simp;omega
  simp[En.ix0,-beq_iff_eq,this]) (λx _ _=>by simp)
theorem VN{S:aa}{l:List Ev}:aI (cD .tup) [.ref S.length] (S++[.lst (l.map Ev.d)])=U (dL l,S++[.lst (l.map Ev.d)]):=pZ dP
end
section
variable{S:aa}{ws:List Wd}{es:List En}{r:Rl}{R:Rm}
theorem akS(k j:Ak):(k.s==j.s)=decide (k=j):=by cases k<;>cases j<;>decide +kernel
theorem VL{k j:Ak}:cY S (.str k.s) (.str j.s)=U (.bl (decide (k=j))):=by rw[ee,akS]
theorem NK{dd:Dd}(h:dd≠.tick):(kU dd==("tick":Str))=false:=by
 cases dd with
 | tick=>exact absurd rfl h
 | ask wr g t=>show(ci wr==("tick":Str))=false;cases wr<;>decide +kernel
 | act k g=>show(k.s==("tick":Str))=false;cases k<;>decide +kernel
end
def Grow(r:Nat)(S S':aa):Prop:=S.length<=S'.length/\∀ j,j<S.length->j≠r->S'[j]?=S[j]?
theorem Grow.of(h:Keep r S S'):Grow r S S':=⟨aau h.2.symm,λj _ hj=>h.1 j hj⟩
theorem Grow.app{T:aa}:Grow r S (S++T):=⟨by simp,λj h _=>Xv h⟩
theorem Grow.trans(h:Grow r S S')(h':Grow r S' S''):Grow r S S'':=⟨XN h.1 h'.1,λj hj hr=>(h'.2 j (XB hj h.1) hr).trans (h.2 j hj hr)⟩
theorem Pk.lt(h:Pk S r):r<S.length:=by
 obtain⟨a,b,d,h,z⟩:=h
 exact(Xe.mp h).1
theorem Td{q:Int}(h0:0<=q)(h1:q<8):∃ w:Wd,oo GE q=U w.d:=by
 obtain rfl | rfl | rfl | rfl | rfl | rfl | rfl | rfl:q=0\/q=1\/q=2\/q=3\/q=4\/q=5\/q=6\/q=7:=by omega
 ·exact⟨.out,rfl⟩
 ·exact⟨.out,rfl⟩
 ·exact⟨.out,rfl⟩
 ·exact⟨.reads,rfl⟩
 ·exact⟨.reads,rfl⟩
 ·exact⟨.rising,rfl⟩
 ·exact⟨.writes,rfl⟩
 ·exact⟨.raised,rfl⟩
def aJ(n:Nat):Rm:=(Si n .out,[])
theorem mH:ROk (aJ n):=⟨λe h=>by simp[aJ] at h,by simp[aJ]⟩
inductive Behind(r:Rl)(n:Nat):List Dd->Rm->Prop
 | nil:Behind r n [] (aJ n)
 | snoc {l:List Dd} {R:Rm} {d:Dd} {x:Rm×List Ev} (h:Behind r n l R) (hd:d.Ok n) (e:gQ r R d=U x):Behind r n (l++[d]) x.1
theorem Behind.ok(h:Behind r n l R):ROk R/\R.1.length=n:=by
 induction h with
 | nil=>exact⟨mH,by simp[aJ]⟩
 | snoc h hd e ih=>obtain⟨a,b⟩:=uc ih.1 e;exact⟨a,b.trans ih.2⟩
section
variable{α:Type}{enc:α->D}{p:Nat->α->Bool}{f:Nat->α->D}{t:MT}{e:ME}{rest:aE}{S:aa}
theorem NQ:∀ (xs:List α) (k:Nat) (a b:Option D),(∀ i x,xs[i]?=U x->t (U (.int ((k+i:Nat):Int))::U (enc x)::rest) S=U (p (k+i) x,S))->(∀ i x,xs[i]?=U x->e (U (.int ((k+i:Nat):Int))::U (enc x)::rest) S=U (f (k+i) x,S))->dg (bi 2 (ah '`' (ah 'a' aY))) t e (fL k (xs.map enc)) (a::b::rest) S=U (((xs.zipIdx k).filter λq=>p q.2 q.1).map λq=>f q.2 q.1,S)
 | [],k,a,b,_,_=>by simp[fL]
 | x::r,k,a,b,h,h2=>by
  have ih:=NQ r (k+1) (U (.int (k:Int))) (U (enc x)) (λi y hy=>by
   have:=h (i+1) y (by simpa using hy)
   rw[show k+(i+1)=k+1+i by omega] at this
   exact this) (λi y hy=>by
   have:=h2 (i+1) y (by simpa using hy)
   rw[show k+(i+1)=k+1+i by omega] at this
   exact this)
  have h0:=h 0 x rfl
  have h20:=h2 0 x rfl
  rw[abo] at h0 h20
  rw[Xp,fL,fG,cT,bL,aM,ob,eR,eM,bL,aM,ob,fj,eR,eM,cx,ob,tj,h0,ob,YX]
  cases hp:p k x with
  | true=>
   rw[tf,h20,ob,sZ,ih,ob,sY,YU (p:=λq:α×Nat=>p q.2 q.1) (a:=(x,k)) hp,Xp]
  | false=>rw[yi,ih,YV (p:=λq:α×Nat=>p q.2 q.1) (a:=(x,k)) (by simp[hp])]
theorem Qe{a b:Option D}{xs:List α}(hc:pB cap env=a::b::rest)(hl:xs.length<=5000)(h:∀ (i:Nat) x,xs[i]?=U x->t (U (.int (i:Int))::U (enc x)::rest) S=U (p i x,S))(h2:∀ (i:Nat) x,xs[i]?=U x->e (U (.int (i:Int))::U (enc x)::rest) S=U (f i x,S)) :
  lI (bi 2 (ah '`' (ah 'a' aY))) t e cap env (fL 0 (xs.map enc),S)=U (.lst ((xs.zipIdx.filter λq=>p q.2 q.1).map λq=>f q.2 q.1),S):=by
 rw[iI (by rw[mF,Xn];exact hl),hc,NQ xs 0 a b (λi x hx=>by rw[ZP];exact h i x hx) (λi x hx=>by rw[ZP];exact h2 i x hx),ob,jK]
end
def rG(p:Wd->Bool)(ws:List Wd):List Nat:=(ws.zipIdx.filter λq=>p q.1).map (·.2)
theorem mem_zi{α:Type}{xs:List α}{x:α}{i:Nat}:(x,i)∈xs.zipIdx↔xs[i]?=U x:=by
 rw[List.mem_zipIdx_iff_getElem?]
theorem mem_ixW{i:Nat}:i∈rG p ws↔∃ w,ws[i]?=U w/\p w=true:=by
 unfold rG
 rw[XH]
 constructor
 ·rintro⟨⟨w,j⟩,h,rfl⟩
  obtain⟨h1,h2⟩:=Yh.mp h
  exact⟨w,mem_zi.mp h1,h2⟩
 ·rintro⟨w,h1,h2⟩
  exact⟨(w,i),Yh.mpr ⟨mem_zi.mpr h1,h2⟩,rfl⟩
def nt(l:List Nat):D:=.tup (l.map ni)
theorem Qr{p:Wd->Bool}{ws:List Wd}:D.lst ((ws.zipIdx.filter λq=>p q.1).map λq=>.int (q.2:Int))=nl (rG p ws):=by
 unfold nl rG ni;rw[YQ];rfl
def CC:MS:=bn (bo (aI (cD .tup)) (ac (bV (hX (ac (aH aW '0' 0e0) ai)) (bi 2 (ah '`' (ah 'a' aY))) (az (aH BV '1' '2')) '0' [Y,Y,U 1]) ai))
theorem Ek{S:aa}:Lv ([js ws],S)=U (fL 0 (ws.map Wd.d),S):=rfl
theorem VH{w:Wd}:BV S w.d (js l)=U (.bl (decide (w∈l))):=by
 rw[tU (ys:=l.map Wd.d) rfl rfl okWs]
 congr 2
 rw[abp]
 induction l with
 | nil=>rfl
 | cons a l ih=>
  rw[Ze,ih]
  show(iX a.d w.d||_)=_
  rw[eqWd,Yn]
  simp
  constructor
  ·rintro(h | h)
   ·exact .inl h.symm
   ·exact .inr h
  ·rintro(h | h)
   ·exact .inl h.symm
   ·exact .inr h
theorem Vq{N:List Str}(hN:N.length=2){R:Rm}(hl:R.1.length<=100):aT N CC 2 [aS R,js l] S=U (nt (rG (λw=>decide (w∈l)) R.1),S):=by
 have hst:bt N [aS R,js l]=[U (aS R),U (js l)]:=by simp[bt,hN]
 rw[cO (show [aS R,js l].length=2 from rfl),hst]
 have k:=UV (S:=S) (t:=az (aH BV '1' '2')) (cap:=[Y,Y,U 1]) (env:=[U (aS R),U (js l)]) (rest:=[U (js l)]) (a:=Y) (b:=Y) (enc:=Wd.d) (p:=λw=>decide (w∈l)) (xs:=R.1) rfl (by omega) (λi x _=>by simp![VH])
 rw[Qr (p:=λw=>decide (w∈l))] at k
 have fs:aI (cD .tup) [nl (rG (λw=>decide (w∈l)) R.1)] S=U (nt (rG (λw=>decide (w∈l)) R.1),S):=jj
 simp![CC,cG,dN,Fd,Rm.ix0,Ek,k,cH,fs]
def iY(R:Rm)(g:Nat):D:=if R.1[g]?=U .rising then .str "up" else match R.2.find? λe=>decide (e.g=g) with
 | some e=>.str (ci e.wr)
 | none=>.non
def lx:MS:=bN (az (aH cY (aH aW '2' 0e0) '1')) (bn (aH aW '2' 1e0)) aU
def lB(gw:PF):MS:=aB (bN (az (aH BV '1' (ao 2 gw (ac '0' (ac (bj (ac (!"rising") ai)) ai))))) (bn (!"up")) aU) (aB (dC (aH aW '0' 1e0) 'b' lx) (bn (mC .non)))
def Oh(gw:PF):Prop:=∀ (S:aa) (R:Rm) (l:List Wd),R.1.length<=100->gw [aS R,js l] S=U (nt (rG (λw=>decide (w∈l)) R.1),S)
theorem VJ{g:Nat}:BV S (.int (g:Int)) (nt l)=U (.bl (decide (g∈l))):=by
 rw[tU (ys:=l.map ni) rfl rfl (by rw[Xu];intro d hd;obtain⟨i,_,rfl⟩:=XH.mp hd;rfl)]
 congr 2
 rw[abp]
 induction l with
 | nil=>rfl
 | cons a l ih=>
  rw[Ze,ih]
  show(((a:Int)==(g:Int))||_)=_
  rw[Yn]
  simp
  constructor
  ·rintro(h | h)
   ·exact .inl (by omega)
   ·exact .inr h
  ·rintro(h | h)
   ·exact .inl (by omega)
   ·exact .inr h
theorem vk{g:Nat}:∀ (es:List En) (a:Option D),cq 'b' lx (es.map En.d) [U (aS R),U (.int (g:Int)),a] S=(match es.find? λe=>decide (e.g=g) with | some e=>U (.rt (.str (ci e.wr)) S) | none=>U (.nx [U (aS R),U (.int (g:Int)),match es.getLast? with | some e=>U e.d | none=>a] S))
 | [],a=>by simp
 | e::l,a=>by
  have ih:=vk (S:=S) (R:=R) (g:=g) l (U e.d)
  have c:((e.g:Int)==(g:Int))=decide (e.g=g):=by rw[Yn];simp;omega
  rw[Xp,fh,aM,ob,fj,fj,eR,nO]
  simp![lx,En.ix0,nU,c,Yi]
  cases hd:decide (e.g=g) with
  | true=>simp![En.ix1,Fl]
  | false=>
   rw[bW,bE,ob,kI]
   show cq 'b' lx _ _ _=_
   rw[ih]
   cases hf:l.find? λe=>decide (e.g=g) with
   | some x=>rfl
   | none=>
    dsimp only
    congr 4
    cases l with
    | nil=>rfl
    | cons y l=>rw[List.getLast?_cons_cons];cases hh:(y::l).getLast? with
     | none=>simp at hh
     | some z=>rfl
theorem Jd(O:Oh gw){N:List Str}(hN:N.length=3){R:Rm}{g:Nat}(hl:R.1.length<=100):aT N (lB gw) 2 [aS R,.int (g:Int)] S=U (iY R g,S):=by
 refine Yy (lz (env:=[U (aS R),U (.int (g:Int)),Y]) hN rfl rfl) ?_
 have o1:gw [aS R,.tup [.str "rising"]] S=U (nt (rG (λw=>decide (w∈[Wd.rising])) R.1),S):=O S R [.rising] hl
 have k1:cK ([.str "rising"],S)=U (.tup [.str "rising"],S):=bb (by simp)
 have mm:decide (g∈rG (λw=>decide (w∈[Wd.rising])) R.1)=decide (R.1[g]?=U .rising):=by
  rw[aaA,mem_ixW]
  constructor
  ·rintro⟨w,h1,h2⟩;rw[h1];simpa using h2
  ·intro h;exact⟨.rising,h,by simp⟩
 have ek:oW 'b' lx [U (aS R),U (.int (g:Int)),Y] (gz R.2,S)=cq 'b' lx (R.2.map En.d) [U (aS R),U (.int (g:Int)),Y] S:=rfl
 simp![lB,k1,o1,VJ,mm]
 unfold iY
 by_cases h:R.1[g]?=U .rising
 ·rw[Xs h,Xq h];simp
 ·rw[Xt h,if_neg h]
  simp![kD,Rm.ix1,ek,vk]
  cases R.2.find? λe=>decide (e.g=g) with
  | some e=>simp
  | none=>simp
def cf(ws:List Wd)(g:Nat):List Wd:=(ws.zipIdx.filter λq=>!decide (q.1=.out)&&!decide (q.2=g)).map (·.1)
def dr(r:Rl)(R:Rm)(g:Nat):Bool:=
 if R.1[g]?=U .rising then(cf R.1 g).isEmpty else match R.2.find? λe=>decide (e.g=g) with
 | none=>false
 | some e=>if e.wr then(cf R.1 g).isEmpty else(cf R.1 g).all (λw=>decide (w=.reads))&&(decide (r.a=0)||decide (((cf R.1 g).length:Int)<r.a))
def ug:ME:=bV (hX (ac (aH aW '1' 0e0) ai)) (bi 2 (ah '`' (ah 'a' aY))) (eU (az (aH mE '1' (!"out"))) (az (aH mE '0' '2'))) '1' [Y,Y,U 2]
def NT:ME:=bV (dU '4') '`' bU (aH cY '0' (!"reads")) [Y]
def fE(wait:PF):MS:=
 aB (ay (ao 2 wait (ac '1' (ac '2' ai))) 'c') (aB (bN (az (aH zd '3' (mC .non))) (bn (mC (.bl false))) aU) (aB (ay ug 'd') (aB (bN (az (aH mE '3' (!"read"))) (bn (lh '4')) aU) (aB (ay (aH aW '0' 1e0) 'e') (bn (iG (bo (aI yA) (ac NT ai)) (Ho (aH cY '5' 0e0) (aH HS (bo (aI eQ) (ac '4' ai)) '5'))))))))
def qm(wait:PF):Prop:=∀ (S:aa) (R:Rm) (g:Nat),R.1.length<=100->wait [aS R,.int (g:Int)] S=U (iY R g,S)
section
variable{S:aa}{R:Rm}{r:Rl}{g:Nat}
theorem lU{a0 a3 a4 a5:Option D}(hl:R.1.length<=100):ug [a0,U (aS R),U (.int (g:Int)),a3,a4,a5] S=U (.lst ((cf R.1 g).map Wd.d),S):=by
 have k:=Qe (S:=S) (t:=eU (az (aH mE '1' (!"out"))) (az (aH mE '0' '2'))) (e:=af 1) (cap:=[Y,Y,U 2]) (env:=[a0,U (aS R),U (.int (g:Int)),a3,a4,a5]) (rest:=[U (.int (g:Int))]) (a:=Y) (b:=Y) (enc:=Wd.d) (p:=λi w=>!decide (w=.out)&&!decide (i=g)) (f:=λ_ w=>w.d) (xs:=R.1) rfl (by omega) (λi w _=>by
  have e1:mE S w.d (.str "out")=U (.bl (!decide (w=.out))):=Dw (b:=.out)
  have c:((i:Int)==(g:Int))=decide (i=g):=by rw[Yn];simp;omega
  simp![Qb,e1]
  cases hd:decide (w=.out) with
  | true=>simp
  | false=>simp![YK,Qo,Mj,c,abf]) (λi w _=>by simp)
 simp![ug,dN,Fd,Rm.ix0,Ek,k]
 unfold cf
 rw[YQ];rfl
theorem um{α:Type}{p:α->Bool}:∀ l:List α,kW (l.map λx=>D.bl (p x))=U (l.map p)
 | []=>rfl
 | x::l=>by
  have:=um (p:=p) l
  rw[Xp,Xp]
  simp only[kW,this];rfl
theorem NS{l:List Wd}{a0 a1 a2 a3 a5:Option D}(hl:l.length<=100):NT [a0,a1,a2,a3,U (.lst (l.map Wd.d)),a5] S=U (.lst (l.map λw=>.bl (decide (w=.reads))),S):=by
 have k:=jv (S:=S) (t:=bU) (e:=aH cY '0' (!"reads")) (cap:=[Y]) (env:=[a0,a1,a2,a3,U (.lst (l.map Wd.d)),a5]) (rest:=[]) (a:=Y) (enc:=Wd.d) (p:=λ_=>true) (f:=λw=>.bl (decide (w=.reads))) (xs:=l) rfl (by omega) (λx _=>mq) (λx _ _=>by
  have e1:cY S x.d (.str "reads")=U (.bl (decide (x=.reads))):=Dy (b:=.reads)
  simp only[aQ,ak,bG,oj,ob,aj,ax,bq,aw,e1])
 rw[YT.mpr (λ_ _=>rfl)] at k
 simp only[NT,dN,gZ,ak,bG,bK,bJ,oj,ob,aj,yg,k]
theorem RI:(cf R.1 g).length<=R.1.length:=by
 unfold cf;rw[Xn];exact XN (YI _ _) (by simp)
theorem Iy(O:qm wait){N:List Str}(hN:N.length=6)(hl:R.1.length<=100):aT N (fE wait) 3 [r.d,aS R,.int (g:Int)] S=U (.bl (dr r R g),S):=by
 refine Yy (lz (env:=[U r.d,U (aS R),U (.int (g:Int)),Y,Y,Y]) hN rfl rfl) ?_
 have bl:=RI (R:=R) (g:=g)
 unfold dr
 have e1:=O S R g hl
 have fa:aI yA [.lst ((cf R.1 g).map λw=>.bl (decide (w=.reads)))] S=U (.bl ((cf R.1 g).all λw=>decide (w=.reads)),S):=by
  rw[Mn (um _)];congr 3;rw[abq];rfl
 have fl:aI eQ [.lst ((cf R.1 g).map Wd.d)] S=U (.int ((cf R.1 g).length:Nat),S):=by rw[VF,Xn]
 have nb:AR (.lst ((cf R.1 g).map Wd.d),S)=U (.bl (cf R.1 g).isEmpty,S):=by
  rw[Qj];cases cf R.1 g<;>rfl
 unfold iY at e1
 by_cases h:R.1[g]?=U .rising
 ·rw[Xq h] at e1 ⊢
  have ne:mE S (.str "up") (.str "read")=U (.bl true):=by rw[yt];rfl
  simp![fE,e1,jk,mY,lU hl,ne,EX,nb,cw]
 ·rw[if_neg h] at e1 ⊢
  cases hf:R.2.find? λe=>decide (e.g=g) with
  | none=>
   rw[hf] at e1
   simp![fE,e1,jk,mY,cw]
  | some e=>
   rw[hf] at e1
   dsimp only at e1 ⊢
   have ne:mE S (.str (ci e.wr)) (.str "read")=U (.bl e.wr):=by rw[yt,El,Bool.not_not]
   cases hw:e.wr with
   | true=>
    rw[hw] at e1 ne
    simp![fE,e1,jk,mY,lU hl,ne,EX,nb,cw,Xq]
   | false=>
    rw[hw] at e1 ne
    have e3:(r.a==0)=decide (r.a=0):=rfl
    simp![fE,e1,jk,mY,lU hl,ne,Dg,cG,NS (show(cf R.1 g).length<=100 by omega),cH,fa,Rl.ix1,XR,YG]
    cases hA:(cf R.1 g).all λw=>decide (w=.reads) with
    | false=>simp
    | true=>
     cases hz:decide (r.a=0) with
     | true=>simp[e3,hz]
     | false=>simp[e3,hz,fl,-beq_iff_eq]
end
def yr:List (bC×D):=[(.inr "rows",.non),(.inr "readers",.str "read"),(.inr "writers",.str "write"),(.inr "turns",.str "write")]
def BX:List (bC×D):=[(.inr "read",.str "reads"),(.inr "write",.str "writes")]
def Vz:Rw->D
 | .rows=>.non
 | .readers=>.str "read"
 | _=>.str "write"
def qT(w:Rw)(e:En):Bool:=match w with
 | .rows=>false
 | .readers=>!e.wr
 | _=>e.wr
theorem Vy{S:aa}{w:Rw}(h:w≠.passes):sW yr (.str w.s,S)=U (Vz w,S):=by
 cases w<;>first | exact absurd rfl h | simp (decide:=true) [sW,gB,mM,yr,Vz,Rw.s]
theorem Ja{S:aa}:sW BX (.str (ci b),S)=U ((if b then Wd.writes else Wd.reads).d,S):=by
 cases b<;>simp (decide:=true) [sW,gB,mM,BX,ci,Wd.d,Wd.s]
theorem QE{e:En}:cY S (.str (ci e.wr)) (Vz w)=U (.bl (qT w e)):=by
 have h1:cY S (.str (ci e.wr)) (.str "read")=U (.bl (!e.wr)):=by rw[ee,El]
 have h2:cY S (.str (ci e.wr)) (.str "write")=U (.bl e.wr):=by rw[ee,wI]
 cases w with
 | rows=>exact kS rfl rfl
 | readers=>exact h1
 | _=>exact h2
def jC(w:Rw)(e:En):Bool:=decide (w=.turns)&&decide (e.m=1)
def jh(w:Rw)(es:List En):List Nat:=(es.filter (jC w)).map (·.g)++(es.filter (qT w)).map (·.g)++es.map (·.g)
def mP:Option Nat->D
 | none=>.non
 | some g=>.int (g:Int)
def tN:ME:=bV (dU '1') '`' (eU (az (aH cY '1' (!"turns"))) (az (aH cY (aH aW '0' 2e0) 1e0))) (aH aW '0' 0e0) [Y,U 0]
def LZ:ME:=bV (dU '1') '`' (az (aH cY (aH aW '0' 1e0) (dI yr '1'))) (aH aW '0' 0e0) [Y,U 0]
def Mb:ME:=bV (dU '1') '`' bU (aH aW '0' 0e0) [Y]
def kh:MS:=aB (ay tN 'b') (aB (ay LZ 'c') (aB (ay (aH bF (aH bF '2' '3') Mb) 'd') (bn (sQ (cP '4') (aH aW '4' 0e0) (mC .non)))))
section
variable{S:aa}{es:List En}{w:Rw}{r:Rl}{R:Rm}
theorem CK{l:List En}:D.lst (l.map λe=>.int (e.g:Int))=nl (l.map (·.g)):=by unfold nl;rw[YQ];rfl
theorem Bi{a2 a3 a4:Option D}(hl:es.length<=100):tN [U (.str w.s),U (gz es),a2,a3,a4] S=U (nl ((es.filter (jC w)).map (·.g)),S):=by
 have hw:(w.s==("turns":Str))=decide (w=.turns):=Rw.eq w .turns
 have k:=jv (S:=S) (t:=eU (az (aH cY '1' (!"turns"))) (az (aH cY (aH aW '0' 2e0) 1e0))) (e:=aH aW '0' 0e0) (cap:=[Y,U 0]) (env:=[U (.str w.s),U (gz es),a2,a3,a4]) (rest:=[U (.str w.s)]) (a:=Y) (enc:=En.d) (p:=jC w) (f:=λe=>.int (e.g:Int)) (xs:=es) rfl (by omega) (λx _=>by
  unfold jC
  cases h:decide (w=.turns) with
  | true=>simp[En.ix2,-beq_iff_eq,hw,h];rfl
  | false=>simp[-beq_iff_eq,hw,h]) (λx _ _=>by simp[En.ix0])
 simp only[tN,dN,gZ,ak,bG,bK,bJ,oj,ob,aj,jn,k,CK]
theorem LY{a2 a3 a4:Option D}(hw:w≠.passes)(hl:es.length<=100):LZ [U (.str w.s),U (gz es),a2,a3,a4] S=U (nl ((es.filter (qT w)).map (·.g)),S):=by
 have k:=jv (S:=S) (t:=az (aH cY (aH aW '0' 1e0) (dI yr '1'))) (e:=aH aW '0' 0e0) (cap:=[Y,U 0]) (env:=[U (.str w.s),U (gz es),a2,a3,a4]) (rest:=[U (.str w.s)]) (a:=Y) (enc:=En.d) (p:=qT w) (f:=λe=>.int (e.g:Int)) (xs:=es) rfl (by omega) (λx _=>by
  simp![En.ix1,sN,Vy hw,QE]) (λx _ _=>by simp[En.ix0])
 simp only[LZ,dN,gZ,ak,bG,bK,bJ,oj,ob,aj,jn,k,CK]
theorem Ma{a0 a2 a3 a4:Option D}(hl:es.length<=100):Mb [a0,U (gz es),a2,a3,a4] S=U (nl (es.map (·.g)),S):=by
 have k:=gsC (S:=S) (es:=es) (b:=Y) (cap:=[Y]) (env:=[a0,U (gz es),a2,a3,a4]) rfl hl
 simp only[Mb,dN,gZ,ak,bG,bK,bJ,oj,ob,aj,jn,k,CK]
theorem Ku{a b:List Nat}(h:a.length+b.length<=5000):bF S (nl a) (nl b)=U (nl (a++b)):=by
 unfold nl;rw[Mo (by simp;omega),<- Ya]
theorem yp{N:List Str}(hN:N.length=5)(hw:w≠.passes)(hl:es.length<=100):aT N kh 2 [.str w.s,gz es] S=U (mP (jh w es).head?,S):=by
 refine Yy (lz (env:=[U (.str w.s),U (gz es),Y,Y,Y]) hN rfl rfl) ?_
 have l1:=YI (jC w) es
 have l2:=YI (qT w) es
 have a1:bF S (nl ((es.filter (jC w)).map (·.g))) (nl ((es.filter (qT w)).map (·.g)))=U (nl ((es.filter (jC w)).map (·.g)++(es.filter (qT w)).map (·.g))):=Ku (by simp;omega)
 have a2:bF S (nl ((es.filter (jC w)).map (·.g)++(es.filter (qT w)).map (·.g))) (nl (es.map (·.g)))=U (nl (jh w es)):=Ku (by simp;omega)
 have tr:AM (nl (jh w es),S)=U (!decide (jh w es=[]),S):=by
  cases jh w es<;>rfl
 simp![kh,Bi hl,LY hw hl,a1,Ma hl,a2,oO,fY,tr]
 cases hf:jh w es with
 | nil=>simp[mP]
 | cons g l=>simp[mP,PP]
def lE(r:Rl)(R:Rm):List En->Option Nat
 | []=>Y
 | e::l=>if dr r R e.g then U e.g else if r.b<=e.m then Y else lE r R l
def qq(r:Rl)(R:Rm):Option Nat:=if r.w=.passes then lE r R R.2 else match (jh r.w R.2).head? with
 | none=>Y
 | some g=>if dr r R g then U g else Y
def mK(cg:PF):Prop:=(∀ (S:aa) (r:Rl) (R:Rm) (g:Nat),R.1.length<=100->cg [r.d,aS R,.int (g:Int)] S=U (.bl (dr r R g),S))/\(∀ (S:aa) (r:Rl) (ws:List Wd),ws.length<=100->cg [r.d,aS (ws,[]),.non] S=U (.bl false,S))
def sy(cg:PF):MS:=aB (bN (cP (ao 3 cg (ac '0' (ac '1' (ac '2' ai))))) (bn '2') aU) (bN (az (aH fGe '4' (aH aW '0' 2e0))) (bn (mC .non)) aU)
def GW:MG:=bi 4 (ah 'b' (ah 'c' (ah 'd' (ah 'e' aY))))
def kg(cg:PF):MS:=aB (dC (aH aW '1' 1e0) GW (sy cg)) (bn (mC .non))
theorem PM{e:En}{a0 a1 a2 a3 a4 a5:Option D}:GW e.d [a0,a1,a2,a3,a4,a5] S=U ([a0,a1,U (.int (e.g:Int)),U (.str (ci e.wr)),U (.int e.m),U (cB e.t)],S):=by
 have g4:GW e.d [a0,a1,a2,a3,a4,a5] S=(ah 'b' (ah 'c' (ah 'd' (ah 'e' aY)))) [.int (e.g:Nat),.str (ci e.wr),.int e.m,cB e.t] [a0,a1,a2,a3,a4,a5] S:=yn
 rw[g4]
 simp only[bL,aM,ob,eM,cx,eR,fj]
def npEnd:Option Nat->Option D->Option D->Option D->Option D->Option D->Option D->aa->mU->Prop
 | some g,_,_,_,_,_,_,S,o=>o=.rt (.int (g:Int)) S
 | none,a0,a1,_,_,_,_,S,o=>o=.rt .non S\/∃ b2 b3 b4 b5,o=.nx [a0,a1,b2,b3,b4,b5] S
theorem vH(O:mK cg)(hl:R.1.length<=100):∀ (es:List En) (a2 a3 a4 a5:Option D),∃ o,cq GW (sy cg) (es.map En.d) [U r.d,U (aS R),a2,a3,a4,a5] S=U o/\npEnd (lE r R es) (U r.d) (U (aS R)) a2 a3 a4 a5 S o
 | [],a2,a3,a4,a5=>⟨.nx [U r.d,U (aS R),a2,a3,a4,a5] S,by simp,.inr ⟨_,_,_,_,rfl⟩⟩
 | e::l,a2,a3,a4,a5=>by
  obtain⟨o,ih,q⟩:=vH O hl l (U (.int (e.g:Int))) (U (.str (ci e.wr))) (U (.int e.m)) (U (cB e.t))
  have c1:=O.1 S r R e.g hl
  rw[Xp,fh,PM,ob,nO]
  simp![sy,fY,cC,c1,hJ]
  unfold lE
  cases hc:dr r R e.g with
  | true=>exact⟨.rt (.int (e.g:Int)) S,by simp,rfl⟩
  | false=>
   rw[if_neg (by decide)]
   by_cases hb:r.b<=e.m
   ·rw[Xq hb]
    refine⟨.rt .non S,?_,.inl rfl⟩
    simp[Rl.ix2,hb]
   ·rw[if_neg hb]
    refine⟨o,?_,?_⟩
    ·have:¬ (e.m≥r.b):=hb
     simp[Rl.ix2,this,-ge_iff_le]
     exact ih
    ·cases hp:lE r R l with
     | none=>rw[hp] at q;exact q
     | some g=>rw[hp] at q;exact q
theorem xA(O:mK cg){N:List Str}(hN:N.length=6)(hl:R.1.length<=100):aT N (kg cg) 2 [r.d,aS R] S=U (mP (lE r R R.2),S):=by
 refine Yy (lz (env:=[U r.d,U (aS R),Y,Y,Y,Y]) hN rfl rfl) ?_
 obtain⟨o,e,q⟩:=vH (S:=S) (r:=r) O hl R.2 Y Y Y Y
 have ek:oW GW (sy cg) [U r.d,U (aS R),Y,Y,Y,Y] (gz R.2,S)=cq GW (sy cg) (R.2.map En.d) [U r.d,U (aS R),Y,Y,Y,Y] S:=rfl
 simp![kg,kD,Rm.ix1,ek,e]
 cases hp:lE r R R.2 with
 | none=>
  rw[hp] at q
  rcases q with rfl | ⟨b2,b3,b4,b5,rfl⟩<;>simp[mP]
 | some g=>
  rw[hp] at q
  have q:o=.rt (.int (g:Int)) S:=q
  subst q;simp[mP]
def nC(np fm cg:PF):MS:=aB (bN (az (aH cY (aH aW '0' 0e0) (!"passes"))) (bn (ao 2 np (ac '0' (ac '1' ai)))) aU) (aB (ay (ao 2 fm (ac (aH aW '0' 0e0) (ac (aH aW '1' 1e0) ai))) 'b') (bn (sQ (cP (ao 3 cg (ac '0' (ac '1' (ac '2' ai))))) '2' (mC .non))))
theorem HM(h:(jh w es).head?=Y):es=[]:=by
 have:jh w es=[]:=by simpa using h
 unfold jh at this
 rw[List.append_eq_nil_iff] at this
 simpa using this.2
theorem CM{np fm:PF}(hp:∀ (S:aa) (r:Rl) (R:Rm),R.1.length<=100->np [r.d,aS R] S=U (mP (lE r R R.2),S))(hf:∀ (S:aa) (w:Rw) (es:List En),w≠.passes->es.length<=100->fm [.str w.s,gz es] S=U (mP (jh w es).head?,S))(hc:mK cg)
  {N:List Str} (hN:N.length=3) (hl:R.1.length<=100) (hl2:R.2.length<=100):aT N (nC np fm cg) 2 [r.d,aS R] S=U (mP (qq r R),S):=by
 refine Yy (lz (env:=[U r.d,U (aS R),Y]) hN rfl rfl) ?_
 have w3:(r.w.s==("passes":Str))=decide (r.w=.passes):=Rw.eq r.w .passes
 unfold qq
 simp![nC,Rl.ix0,ee,w3]
 by_cases hw:r.w=.passes
 ·rw[Xs hw,Xq hw]
  simp![hp S r R hl,cw]
 ·rw[Xt hw,if_neg hw]
  have f1:=hf S r.w R.2 hw hl2
  simp![Rl.ix0,Rm.ix1,f1,oO,fY,cC]
  cases hh:(jh r.w R.2).head? with
  | none=>
   obtain⟨ws,es⟩:=R
   have:es=[]:=HM hh
   subst this
   have c2:=hc.2 S r ws hl
   simp only[mP,c2,ob,hJ]
   simp
  | some g=>
   have c1:=hc.1 S r R g hl
   simp only[mP,c1,ob,hJ]
   cases dr r R g<;>simp[mP]
end
section
variable{ws:List Wd}{es:List En}{r:Rl}{R:Rm}{g:Nat}
def IS(ws:List Wd):List Wd:=ws.filter λw=>!decide (w=.out)
theorem BW{α:Type}{p:α->Bool}:∀ (xs:List α) (k:Nat),((xs.zipIdx k).filter λq=>p q.1).map (·.1)=xs.filter p
 | [],_=>rfl
 | x::l,k=>by
  rw[YX,Yj,Yj]
  have ih:=BW (p:=p) l (k+1)
  split
  ·rw[Xp,ih]
  ·exact ih
theorem DZ(h:ws[g]?=U .out):cf ws g=IS ws:=by
 unfold cf IS
 rw[<- BW ws 0]
 congr 1
 apply ZF
 intro q hq
 have hq':ws[q.2]?=U q.1:=mem_zi.mp (show(q.1,q.2)∈ws.zipIdx from hq)
 by_cases hg:q.2=g
 ·rw[hg,h] at hq'
  have:=XC hq'
  simp[<- this]
 ·simp[hg]
theorem besK{p:Wd->Bool}:∀ (ws:List Wd) (k g:Nat) (w:Wd),ws[g]?=U w->p w=true->((ws.zipIdx k).filter λq=>p q.1&&!decide (q.2=k+g)).length+1=(ws.filter p).length
 | [],k,g,w,h,_=>by simp at h
 | x::l,k,0,w,h,hp=>by
  simp at h;subst h
  rw[YX,Yj,Yj,Xq hp,Xw,<- BW l (k+1),Xn]
  simp only[hp,abo,Zx,Ys,Zt,XR,YG]
  congr 2
  apply ZF
  intro q hq
  have:k+1<=q.2:=(List.mem_zipIdx hq).1
  have hne:q.2≠k:=by omega
  simp[hne]
 | x::l,k,g+1,w,h,hp=>by
  have ih:=besK (p:=p) l (k+1) g w (by simpa using h) hp
  have e:k+(g+1)=(k+1)+g:=by omega
  rw[e,YX,Yj,Yj]
  have hne:¬ (k=k+1+g):=by omega
  cases hx:p x with
  | false=>simp only[hx,Zs,XR,YG];exact ih
  | true=>simp only[hx,hne,ZO,YK,Bool.and_self,ZZ,Xw];omega
theorem yj:(IS ws).length+ws.count .out=ws.length:=by
 unfold IS
 have:=List.length_eq_countP_add_countP (λw:Wd=>w==.out) (l:=ws)
 rw[List.count,this,aaG,Nat.add_comm]
 congr 1
 rw[aaG]
 congr 1
 apply ZF
 intro w _
 cases w<;>rfl
theorem Oe(h:ws[g]?=U .rising):(cf ws g).isEmpty=decide (ws.count .out+1=ws.length):=by
 have k:=besK (p:=λw=>!decide (w=.out)) ws 0 g .rising h rfl
 have l:=yj (ws:=ws)
 unfold IS at l
 unfold cf
 simp only[ZP] at k
 rw[Yn,Yz,List.isEmpty_iff,List.map_eq_nil_iff]
 constructor
 ·intro e;rw[e] at k;simp only[Zy] at k;omega
 ·intro e;apply Yv;omega
theorem cnt5:∀ ws:List Wd,ws.count .out+ws.count .reads+ws.count .rising+ws.count .writes+ws.count .raised=ws.length
 | []=>rfl
 | w::l=>by
  have:=cnt5 l
  cases w<;>simp[Zz]<;>omega
theorem HF:(IS ws).all (λw=>decide (w=.reads))=decide (ws.count .out+ws.count .reads=ws.length):=by
 have l:=yj (ws:=ws)
 have c:(IS ws).countP (λw=>decide (w=.reads))=ws.count .reads:=by
  unfold IS
  rw[List.countP_filter,List.count]
  congr 1
  funext w;cases w<;>rfl
 have d:=List.countP_le_length (p:=λw:Wd=>decide (w=.reads)) (l:=IS ws)
 rw[Yn,Yz,Xu]
 have e:=List.countP_eq_length (p:=λw:Wd=>decide (w=.reads)) (l:=IS ws)
 constructor
 ·intro h;have:=e.mpr h;omega
 ·intro h;exact e.mp (by omega)
theorem QB(h:ROk R){e:En}(he:e∈R.2):(R.2.find? λx=>decide (x.g=e.g))=U e:=by
 have hn:=h.nd
 generalize R.2=es at hn he
 induction es with
 | nil=>cases he
 | cons x l ih=>
  rw[Xp,Zd] at hn
  rw[Yi]
  rcases XD.mp he with rfl | he
  ·simp
  ·have:x.g≠e.g:=λz=>hn.1 (by rw[z];exact XH.mpr ⟨e,he,rfl⟩)
   simp only[this,ZO]
   exact ih hn.2 he
theorem UL(h:ROk R){e:En}(he:e∈R.2):dr r R e.g=vf r R.1 e.wr:=by
 have ho:=h.out e he
 unfold dr vf
 rw[ho,if_neg (by simp),QB h he,DZ ho]
 have c:=cnt5 R.1
 have l:=yj (ws:=R.1)
 dsimp only
 cases hw:e.wr with
 | true=>
  simp only[ZZ]
  by_cases h1:R.1.count .reads+R.1.count .rising+R.1.count .out<R.1.length
  ·rw[Xq h1]
   cases hi:IS R.1 with
   | nil=>rw[hi] at l;simp at l;omega
   | cons _ _=>rfl
  ·rw[if_neg h1]
   rw[Yn,List.isEmpty_iff,Yz]
   constructor
   ·intro hi;rw[hi] at l;simp at l;omega
   ·intro hi;apply Yv;omega
 | false=>
  simp only[XR,YG,HF]
  by_cases h1:R.1.count .reads+R.1.count .rising+R.1.count .out<R.1.length
  ·rw[Xq h1,Xt (by omega)];rfl
  ·rw[if_neg h1]
   by_cases h2:R.1.count .rising=0
   ·have:(IS R.1).length=R.1.count .reads+R.1.count .rising:=by omega
    rw[this,Xs (by omega),Xs h2]
   ·rw[Xt (by omega),Xt h2];rfl
theorem vW{p:Wd->Bool}:∀ (ws:List Wd) (k:Nat),((ws.zipIdx k).filter λq=>p q.1).map (·.2)=(List.range' k ws.length).filter λi=>match ws[i - k]? with | some w=>p w | none=>false
 | [],k=>rfl
 | w::l,k=>by
  have ih:=vW (p:=p) l (k+1)
  rw[YX,Xw,List.range'_succ,Yj,Yj]
  have e:(List.range' (k+1) l.length).filter (λi=>match (w::l)[i - k]? with | some w=>p w | none=>false)=(List.range' (k+1) l.length).filter λi=>match l[i - (k+1)]? with | some w=>p w | none=>false:=by
   apply ZF
   intro i hi
   have:k+1<=i:=(List.mem_range'_1.mp hi).1
   rw[show i - k=(i - (k+1))+1 by omega,ZK]
  simp only[Nat.sub_self,abd]
  cases hp:p w with
  | true=>rw[Xq rfl,Xq rfl,Xp,ih,e]
  | false=>rw[if_neg (by decide),if_neg (by decide),ih,e]
theorem tO{α:Type}{p q:α->Bool}:∀ {l:List α},(∀ x∈l,p x=q x)->l.find? p=l.find? q
 | [],_=>rfl
 | x::l,h=>by rw[Yi,Yi,h x Xi,tO λy hy=>h y (Xf _ hy)]
theorem GF:(rG (λw=>decide (w=.rising)) R.1).find? (dr r R)=(ut R.1).head?:=by
 have e:rG (λw=>decide (w=.rising)) R.1=(List.range R.1.length).filter λi=>match R.1[i]? with | some w=>decide (w=.rising) | none=>false:=by
  have k:=vW (p:=λw=>decide (w=.rising)) R.1 0
  rw[List.range_eq_range']
  exact k
 rw[e,List.find?_filter]
 unfold ut
 rw[List.head?_filter]
 apply tO
 intro i hi
 by_cases h:R.1[i]?=U .rising
 ·rw[h]
  have:dr r R i=(cf R.1 i).isEmpty:=by unfold dr;rw[Xq h]
  simp only[Zx,abf]
  rw[this,Oe h]
  simp
 ·rw[Xt h,Zs]
  cases hw:R.1[i]? with
  | none=>rfl
  | some w=>
   have:¬ (w=.rising):=λz=>h (by rw[hw,z])
   simp[this]
theorem AT{p:En->Bool}:∀ (es:List En) (k:Nat),(((es.zipIdx k).filter λq=>p q.1).map (·.2)).head?=(es.findIdx? p).map (· + k)
 | [],_=>rfl
 | e::l,k=>by
  have ih:=AT (p:=p) l (k+1)
  rw[YX,Yj,Za]
  cases hp:p e with
  | true=>simp
  | false=>
   simp only[XR,YG]
   rw[ih]
   cases l.findIdx? p with
   | none=>rfl
   | some i=>simp;omega
theorem iJ{es:List En}:(LH p es).head?=es.findIdx? p:=by
 unfold LH;rw[AT];simp
theorem wj:∀ es:List En,((es.filter p).map (·.g)).head?=(es.findIdx? p).bind λi=>es[i]?.map (·.g)
 | []=>rfl
 | e::l=>by
  have ih:=wj (p:=p) l
  rw[Yj,Za]
  cases hp:p e with
  | true=>simp
  | false=>
   simp only[XR,YG]
   rw[ih]
   cases l.findIdx? p with
   | none=>rfl
   | some i=>simp
theorem rH:(Sm a b).head?=a.head?.or b.head?:=by
 unfold Sm;cases a<;>simp
theorem AW{a b:List Nat}:(a++b).head?=a.head?.or b.head?:=by cases a<;>simp
theorem mB{l:List Nat}:(l.take 1).head?=l.head?:=by cases l<;>simp
theorem jw{p:En->Bool}(hpq:∀ e,p e = !q e){es:List En}(h:es.findIdx? p=Y):es.findIdx? q=(if es=[] then Y else U 0):=by
 cases es with
 | nil=>rfl
 | cons e l=>
  rw[aaW] at h
  have:=h e Xi
  rw[hpq] at this
  have hq:q e=true:=by simpa using this
  rw[Za,hq];simp
def zc(es:List En)(o:Option Nat):Option Nat:=o.bind λi=>es[i]?.map (·.g)
theorem Of:(es.map (·.g)).head?=zc es (if es=[] then Y else U 0):=by cases es<;>simp[zc]
theorem FF{i:Nat}(h:es.findIdx? p=U i):i<es.length:=(aag.mp h).1
theorem Qz(hw:r.w≠.passes):(jh r.w es).head?=zc es (Oo r es).head?:=by
 have f0:∀ p,((es.filter p).map (·.g)).head?=zc es (es.findIdx? p):=λp=>wj es
 have ff:es.findIdx? (λ_=>false)=Y:=by rw[aaW];intros;rfl
 unfold jh Oo
 rw[AW,AW,f0,f0,Of]
 cases hr:r.w with
 | passes=>exact absurd hr hw
 | rows=>
  have e1:jC .rows=λ_=>false:=rfl
  have e2:qT .rows=λ_=>false:=rfl
  rw[e1,e2,ff,mB]
  cases es<;>simp[zc,ZM]
 | readers=>
  have e1:jC .readers=λ_=>false:=rfl
  have e2:qT .readers=λe=>!e.wr:=rfl
  dsimp only
  rw[e1,e2,ff,mB,rH,iJ,iJ]
  show(zc es _).or _=_
  cases hf:es.findIdx? λe=>!e.wr with
  | none=>rw[jw (q:=λe=>e.wr) (λ_=>rfl) hf];rfl
  | some i=>have:=FF hf;simp[zc,Xl this]
 | writers=>
  have e1:jC .writers=λ_=>false:=rfl
  have e2:qT .writers=λe=>e.wr:=rfl
  dsimp only
  rw[e1,e2,ff,mB,rH,iJ,iJ]
  show(zc es _).or _=_
  cases hf:es.findIdx? λe=>e.wr with
  | none=>rw[jw (q:=λe=>!e.wr) (λe=>by simp) hf];rfl
  | some i=>have:=FF hf;simp[zc,Xl this]
 | turns=>
  have e1:jC .turns=λe=>decide (e.m=1):=by funext e;simp[jC]
  have e2:qT .turns=λe=>e.wr:=rfl
  dsimp only
  rw[e1,e2,mB,rH,rH,iJ,iJ,iJ]
  cases hm:es.findIdx? λe=>decide (e.m=1) with
  | some i=>have:=FF hm;simp[zc,Xl this]
  | none=>
   show(zc es _).or _=_
   cases hf:es.findIdx? λe=>e.wr with
   | none=>rw[jw (q:=λe=>!e.wr) (λe=>by simp) hf];rfl
   | some i=>have:=FF hf;simp[zc,Xl this]
theorem maxL_le{b:Int}{l:List Int}:lm (0::l)<=b↔0<=b/\∀ x∈l,x<=b:=by
 obtain⟨h1,h2⟩:=pP (ns:=0::l) (by simp)
 constructor
 ·intro h
  exact⟨abr (h2 0 Xi) h,λx hx=>abr (h2 x (Xf _ hx)) h⟩
 ·intro⟨h0,h⟩
  rcases XD.mp h1 with e | e
  ·rw[e];exact h0
  ·exact h _ e
def zM(r:Rl)(ws:List Wd)(es:List En)(i:Nat):Bool:=(match es[i]? with | some e=>vf r ws e.wr | none=>false)&&decide (lm (0::(es.take i).map λe=>e.m+1)<=r.b)
theorem vF(hb:0<=r.b)(hc:∀ e∈es,dr r R e.g=vf r R.1 e.wr):∀ (l p:List En),es=p++l->(∀ e∈p,e.m+1<=r.b)->lE r R l=zc es ((List.range' p.length l.length).find? (zM r R.1 es))
 | [],p,_,_=>by simp[lE,zc]
 | e::l,p,he,hp=>by
  have ei:es[p.length]?=U e:=by rw[he];simp
  have et:es.take p.length=p:=by rw[he];simp
  have hm:e∈es:=by rw[he];simp
  have q0:zM r R.1 es p.length=vf r R.1 e.wr:=by
   unfold zM
   rw[ei,et]
   have:lm (0::p.map λe=>e.m+1)<=r.b:=maxL_le.mpr ⟨hb,λx hx=>by obtain⟨y,hy,rfl⟩:=XH.mp hx;exact hp y hy⟩
   simp[this]
  rw[Xw,List.range'_succ,Yi,q0]
  unfold lE
  rw[hc e hm]
  cases hl:vf r R.1 e.wr with
  | true=>simp[zc,ei]
  | false=>
   rw[if_neg (by decide)]
   by_cases hbm:r.b<=e.m
   ·rw[Xq hbm]
    have:(List.range' (p.length+1) l.length).find? (zM r R.1 es)=Y:=by
     rw[List.find?_eq_none]
     intro i hi
     have h1:=(List.mem_range'_1.mp hi).1
     have:¬ (lm (0::(es.take i).map λe=>e.m+1)<=r.b):=λz=>by
      have:=(maxL_le.mp z).2 (e.m+1) (XH.mpr ⟨e,?_,rfl⟩)
      ·omega
      ·rw[List.mem_take_iff_getElem]
       refine⟨p.length,?_,?_⟩
       ·have:=(Xe.mp ei).1;omega
       ·exact(Xe.mp ei).2
     unfold zM;rw[Xt this,Zt];decide
    rw[this];rfl
   ·rw[if_neg hbm]
    have ih:=vF hb hc l (p++[e]) (by rw[he];simp) (λx hx=>by
     rcases Xx.mp hx with hx | hx
     ·exact hp x hx
     ·have:x=e:=by simpa using hx
      rw[this];omega)
    rw[ih];simp
theorem Qy(hw:r.w≠.passes):(Oo r es).length<=1:=by
 unfold Oo
 cases hr:r.w<;>first | exact absurd hr hw | (simp only[Yf];omega)
theorem PQ(h:ROk R)(hb:0<=r.b):qq r R=zc R.2 (vz r R.1 R.2).head?:=by
 have hc:∀ e∈R.2,dr r R e.g=vf r R.1 e.wr:=λe he=>UL h he
 unfold qq
 by_cases hw:r.w=.passes
 ·rw[Xq hw,vF hb hc R.2 [] rfl (λ_ z=>by cases z)]
  congr 1
  unfold vz Oo
  rw[hw]
  dsimp only
  rw[List.filter_filter,List.head?_filter,Zy,<- List.range_eq_range']
  rfl
 ·rw[if_neg hw,Qz hw]
  have h1:=Qy (es:=R.2) hw
  unfold vz
  cases hf:Oo r R.2 with
  | nil=>rfl
  | cons i l=>
   rw[hf] at h1
   have:l=[]:=by cases l with | nil=>rfl | cons _ _=>simp at h1
   subst this
   have hi:i<R.2.length:=LW (r:=r) (by rw[hf];exact Xi)
   have ei:R.2[i]?=U R.2[i]:=Xl hi
   have:=hc R.2[i] (List.getElem_mem hi)
   simp only[List.head?_cons,zc,Option.bind_some,ei,Option.map_some,Yj,this]
   cases vf r R.1 (R.2[i]).wr<;>simp[ei]
def nw(r:Rl)(R:Rm):Option Ev:=match (rG (λw=>decide (w=.rising)) R.1).find? (dr r R) with
 | some g=>U ⟨"steps",g⟩
 | none=>(qq r R).map λg=>⟨"in",g⟩
inductive Eg(r:Rl)(R:Rm):Option Ev->Rm->List Ev->Prop
 | up (g:Nat) (h:R.1[g]?=U .rising):Eg r R (U ⟨"steps",g⟩) (R.1.set g .raised,R.2) [⟨"steps",g⟩]
 | go (i:Nat) (e:En) (h:R.2[i]?=U e):Eg r R (U ⟨"in",e.g⟩) (yl r R i e) [⟨"in",e.g⟩]
 | no:Eg r R Y R []
theorem wz(h:ROk R)(hb:0<=r.b):Eg r R (nw r R) (om r R).1 (om r R).2:=by
 unfold nw om
 rw[GF,PQ h hb]
 cases ha:ut R.1 with
 | cons g l=>exact .up g (ur (by rw[ha];exact Xi))
 | nil=>
  dsimp only[List.head?_nil]
  cases hs:vz r R.1 R.2 with
  | nil=>exact .no
  | cons i l=>
   have hi:i<R.2.length:=LW (r:=r) (Yh.mp (show i∈vz r R.1 R.2 by rw[hs];exact Xi)).1
   have ei:R.2[i]?=U R.2[i]:=Xl hi
   simp only[List.head?_cons,zc,Option.bind_some,ei,Option.map_some]
   exact .go i _ ei
def UA(R:Rm):Nat:=R.2.length+R.1.count .rising
theorem jR{a b:Wd}:∀ {ws:List Wd} {i:Nat},ws[i]?=U a->a≠b->∀ c,(ws.set i b).count c+(if a=c then 1 else 0)=ws.count c+(if b=c then 1 else 0)
 | [],i,h,_,c=>by simp at h
 | w::l,0,h,hn,c=>by
  simp at h;subst h
  rw[List.set_cons_zero,Zz,Zz]
  by_cases h1:w=c<;>by_cases h2:b=c<;>simp[h1,h2]<;>omega
 | w::l,i+1,h,hn,c=>by
  have:=jR (i:=i) (ws:=l) (by simpa using h) hn c
  rw[List.set_cons_succ,Zz,Zz]
  omega
theorem Gu(h:ROk R)(s:Eg r R o R' l):(o=Y/\R'=R/\l=[])\/(∃ v,o=U v/\l=[v]/\UA R'+1=UA R):=by
 cases s with
 | no=>exact .inl ⟨rfl,rfl,rfl⟩
 | up g hg=>
  refine .inr ⟨_,rfl,rfl,?_⟩
  have:=jR (b:=.raised) hg (by decide) .rising
  simp only[UA]
  simp at this
  omega
 | go i e hi=>
  refine .inr ⟨_,rfl,rfl,?_⟩
  have ho:=h.out e (Xz hi)
  have hl:=(Xe.mp hi).1
  have hc:(R.1.set e.g (if e.wr then .writes else .reads)).count .rising=R.1.count .rising:=by
   cases e.wr with
   | true=>have:=jR (b:=.writes) ho (by decide) .rising;simpa using this
   | false=>have:=jR (b:=.reads) ho (by decide) .rising;simpa using this
  simp only[UA,yl,hc,XM,Xn,Yf,Yp]
  omega
theorem Uz(h:ROk R):UA R<=2*R.1.length:=by
 have:=h.len
 have:=List.count_le_length (a:=Wd.rising) (l:=R.1)
 unfold UA;omega
theorem zu(h:nw r R=Y)(hk:ROk R)(hb:0<=r.b):∀ n,BQ r n R=(R,[])
 | 0=>rfl
 | n+1=>by
  have s:=wz hk hb
  rw[h] at s
  have e:om r R=(R,[]):=by
   generalize hq:om r R=q at s
   obtain⟨a,b⟩:=q
   dsimp only at s
   cases s;rfl
  show((BQ r n (om r R).1).1,(om r R).2++(BQ r n (om r R).1).2)=_
  rw[e,zu h hk hb n];rfl
end
section
variable{S:aa}{ws:List Wd}{es:List En}{r:Rl}{R:Rm}{g:Nat}
theorem QD:BV S .non (nt l)=U (.bl false):=by
 rw[tU (ys:=l.map ni) rfl rfl (by rw[Xu];intro d hd;obtain⟨i,_,rfl⟩:=XH.mp hd;rfl)]
 congr 2
 rw[List.any_eq_false]
 intro d hd;obtain⟨i,_,rfl⟩:=XH.mp hd
 show ¬ (false=true);decide
theorem Jc(O:Oh gw){N:List Str}(hN:N.length=3)(hl:ws.length<=100):aT N (lB gw) 2 [aS (ws,[]),.non] S=U (.non,S):=by
 refine Yy (lz (env:=[U (aS (ws,[])),U .non,Y]) hN rfl rfl) ?_
 have o1:gw [aS (ws,[]),.tup [.str "rising"]] S=U (nt (rG (λw=>decide (w∈[Wd.rising])) ws),S):=O S (ws,[]) [.rising] hl
 have k1:cK ([.str "rising"],S)=U (.tup [.str "rising"],S):=bb (by simp)
 have ek:∀ env,oW 'b' lx env (gz [],S)=U (.nx env S):=λenv=>by show cq 'b' lx [] env S=_;simp
 simp![lB,k1,o1,QD,kD,Rm.ix1,ek]
theorem Ix{wait:PF}(O:∀ S:aa,wait [aS (ws,[]),.non] S=U (.non,S)){N:List Str}(hN:N.length=6):aT N (fE wait) 3 [r.d,aS (ws,[]),.non] S=U (.bl false,S):=by
 refine Yy (lz (env:=[U r.d,U (aS (ws,[])),U .non,Y,Y,Y]) hN rfl rfl) ?_
 simp![fE,O,jk,mY,cw]
def kf:MS:=aB (ay '0' (bi 2 (ah 'c' (ah 'd' aY)))) (bn (bj (ac (aH bF (aH bF (cn '3' cA (dB '1')) (bj (ac '2' ai))) (cn '3' (dB (aH bF '1' 1e0)) cA)) (ac '4' ai))))
theorem wH{N:List Str}(hN:N.length=5){w:Wd}(h:g<R.1.length)(hl:R.1.length<=100):aT N kf 3 [aS R,.int (g:Int),w.d] S=U (aS (R.1.set g w,R.2),S):=by
 refine Yy (lz (env:=[U (aS R),U (.int (g:Int)),U w.d,Y,Y]) hN rfl rfl) ?_
 have g2:∀ env S,bi 2 (ah 'c' (ah 'd' aY)) (aS R) env S=(ah 'c' (ah 'd' aY)) [js R.1,gz R.2] env S:=λenv S=>cT
 have c1:nL (js R.1) Y (U (g:Int),S)=U (.tup ((R.1.take g).map Wd.d),S):=by
  rw[show js R.1=.tup (R.1.map Wd.d) from rfl,ye,zW,ZI]
 have c2:nL (js R.1) (U ((g:Int)+1)) (Y,S)=U (.tup ((R.1.drop (g+1)).map Wd.d),S):=by
  rw[show js R.1=.tup (R.1.map Wd.d) from rfl,ye,show((g:Int)+1)=((g+1:Nat):Int) by omega,mJ _ _ (by rw[Xn];omega),ZJ]
 have a1:bF S (.tup ((R.1.take g).map Wd.d)) (.tup [w.d])=U (.tup ((R.1.take g++[w]).map Wd.d)):=by rw[qd (by simp;omega)];simp
 have a2:bF S (.tup ((R.1.take g++[w]).map Wd.d)) (.tup ((R.1.drop (g+1)).map Wd.d))=U (js (R.1.set g w)):=by
  rw[qd (by simp;omega),<- Ya,TD _ _ h];rfl
 simp![kf,g2,bL,eM,cx,iC,nN,iD,nM,kz,kH,c1,dn,a1,tW,c2,a2]
 rfl
theorem SA:∀ {es:List En} {i:Nat} {e:En},(es.map (·.g)).Nodup->es[i]?=U e->(es.map λx=>D.int (x.g:Int)).findIdx? (λd=>iX d (.int (e.g:Int)))=U i
 | [],i,e,_,h=>by simp at h
 | x::l,0,e,_,h=>by
  simp at h;subst h
  rw[Xp,Za]
  have:iX (.int (x.g:Int)) (.int (x.g:Int))=true:=by show((x.g:Int)==(x.g:Int))=true;simp
  rw[this];rfl
 | x::l,i+1,e,hn,h=>by
  rw[Xp,Zd] at hn
  have h':l[i]?=U e:=by simpa using h
  have ih:=SA hn.2 h'
  rw[Xp,Za]
  have:iX (.int (x.g:Int)) (.int (e.g:Int))=false:=by
   show((x.g:Int)==(e.g:Int))=false
   rw[YC]
   intro z
   have:x.g=e.g:=by omega
   exact hn.1 (by rw[this];exact XH.mpr ⟨e,Xz h',rfl⟩)
  rw[this,ih];rfl
theorem Ve(hn:(es.map (·.g)).Nodup){i:Nat}{e:En}(h:es[i]?=U e)(hl:es.length<=100):lN (.lst (es.map λx=>D.int (x.g:Int))) [.int (e.g:Int)] S=U (.int (i:Int),S):=by
 unfold lN
 have h1:sV S (.lst (es.map λx=>D.int (x.g:Int)))=true:=rfl
 have h2:fO S (.lst (es.map λx=>D.int (x.g:Int)))=U (es.map λx=>D.int (x.g:Int)):=rfl
 have h3:bS 40 (.int (e.g:Int))=true/\(es.map λx=>D.int (x.g:Int)).all (bS 39)=true/\(es.map λx=>D.int (x.g:Int)).length<=KY:=by
  refine⟨rfl,?_,sz (by rw[Xn];omega)⟩
  rw[Xu];intro d hd;obtain⟨x,_,rfl⟩:=XH.mp hd;rfl
 dsimp only
 rw[Xq h1,h2]
 show(if _ then _ else Y)=_
 rw[Xq h3,SA hn h];rfl
def xZ:ME:=bV (dU '6') (bi 4 (ah '`' (ah 'a' (ah 'b' (ah 'c' aY))))) bU (bj (ac '0' (ac '1' (ac (aH bF '2' 1e0) (ac '3' ai))))) [Y,Y,Y,Y]
def liGs:ME:=bV (dU '4') '`' bU (aH aW '0' 0e0) [Y]
def pM(ww:PF):MS:=aB (ay '1' (bi 2 (ah 'c' (ah 'd' aY)))) (aB (ay (cZ lN liGs (ac '2' ai)) 'e') (aB (ay (cn '4' cA (dB '5')) 'f') (aB (bN (az (aH cY (aH aW '0' 0e0) (!"passes"))) (ay (bo (aI (cD .tup)) (ac xZ ai)) 'f') aU) (bn (ao 3 ww (ac (bj (ac '3' (ac (aH bF '6' (cn '4' (dB (aH bF '5' 1e0)) cA)) ai))) (ac '2' (ac (dI BX (aH aW (aH aW '4' '5') 1e0)) ai))))))))
theorem NP{en:MG}{t:ME}{f:En->D}(he:∀ (e:En) (a b c d:Option D),en e.d [a,b,c,d] S=U ([U (.int (e.g:Int)),U (.str (ci e.wr)),U (.int e.m),U (cB e.t)],S))(ht:∀ e:En,t [U (.int (e.g:Int)),U (.str (ci e.wr)),U (.int e.m),U (cB e.t)] S=U (f e,S)) :
  ∀ (es:List En) (a b c d:Option D),dg en bU t (es.map En.d) [a,b,c,d] S=U (es.map f,S)
 | [],a,b,c,d=>by simp
 | e::l,a,b,c,d=>by
  have ih:=NP he ht l (U (.int (e.g:Int))) (U (.str (ci e.wr))) (U (.int e.m)) (U (cB e.t))
  rw[Xp,fG,he,ob,tj,mq,ob,tf,ht,ob,sZ,ih,ob,sY,Xp]
def Tl(e:En):En:={ e with m:=e.m+1 }
theorem Dh{a0 a1 a2 a3 a4 a5:Option D}(hl:es.length<=100):xZ [a0,a1,a2,a3,a4,a5,U (gz es)] S=U (.lst ((es.map Tl).map En.d),S):=by
 have k:=NP (S:=S) (en:=bi 4 (ah '`' (ah 'a' (ah 'b' (ah 'c' aY))))) (t:=bj (ac '0' (ac '1' (ac (aH bF '2' 1e0) (ac '3' ai))))) (f:=λe=>(Tl e).d) (λe a b c d=>by
  have g4:bi 4 (ah '`' (ah 'a' (ah 'b' (ah 'c' aY)))) e.d [a,b,c,d] S=(ah '`' (ah 'a' (ah 'b' (ah 'c' aY)))) [.int (e.g:Nat),.str (ci e.wr),.int e.m,cB e.t] [a,b,c,d] S:=yn
  rw[g4];simp only[bL,aM,ob,eM,cx,eR,fj]) (λe=>by
  have k4:∀ x y z w,cK ([x,y,z,w],S)=U (.tup [x,y,z,w],S):=λx y z w=>bb (by simp)
  simp![tW,k4]
  rfl) es Y Y Y Y
 simp only[xZ,dN,gZ,ak,bG,bK,bJ,oj,ob,aj,jn]
 rw[iI (by rw[Xn];omega)]
 show(dg _ bU _ (es.map En.d) [Y,Y,Y,Y] S).bind _=_
 rw[k,ob,jK,YQ];rfl
theorem Hs{ww:PF}(hw:∀ (S:aa) (R:Rm) (g:Nat) (w:Wd),g<R.1.length->R.1.length<=100->ww [aS R,.int (g:Int),w.d] S=U (aS (R.1.set g w,R.2),S)){N:List Str}(hN:N.length=7)(h:ROk R){i:Nat}{e:En}(hi:R.2[i]?=U e)(hl:R.1.length<=50) :
  aT N (pM ww) 3 [r.d,aS R,.int (e.g:Int)] S=U (aS (yl r R i e),S):=by
 refine Yy (lz (env:=[U r.d,U (aS R),U (.int (e.g:Int)),Y,Y,Y,Y]) hN rfl rfl) ?_
 have hle:=h.len
 have hil:=(Xe.mp hi).1
 have g2:∀ env S,bi 2 (ah 'c' (ah 'd' aY)) (aS R) env S=(ah 'c' (ah 'd' aY)) [js R.1,gz R.2] env S:=λenv S=>cT
 have gs:∀ env:aE,lI '`' bU (aH aW '0' 0e0) [Y] env (R.2.map En.d,S)=U (.lst (R.2.map λe=>.int (e.g:Int)),S):=λenv=>gsC (b:=Y) rfl (by omega)
 have km:∀ (ms:MA) env,oV lN ms env (.lst (R.2.map λe=>.int (e.g:Int)),S)=(ms env S).bind (hU lN (.lst (R.2.map λe=>.int (e.g:Int)))):=λms env=>rfl
 have ki:=Ve (S:=S) h.nd hi (by omega)
 have c1:nL (gz R.2) Y (U (i:Int),S)=U (gz (R.2.take i),S):=by
  rw[show gz R.2=.tup (R.2.map En.d) from rfl,ye,zW];unfold gz;rw[ZI]
 have c2:nL (gz R.2) (U ((i:Int)+1)) (Y,S)=U (gz (R.2.drop (i+1)),S):=by
  rw[show gz R.2=.tup (R.2.map En.d) from rfl,ye,show((i:Int)+1)=((i+1:Nat):Int) by omega,mJ _ _ (by rw[Xn];omega)];unfold gz;rw[ZJ]
 have w3:(r.w.s==("passes":Str))=decide (r.w=.passes):=Rw.eq r.w .passes
 have x1:aW S (gz R.2) (.int (i:Int))=U e.d:=es_ix hi
 have ad:∀ l:List En,l.length<=60->bF S (gz l) (gz (R.2.drop (i+1)))=U (gz (l++R.2.drop (i+1))):=λl hl'=>by
  unfold gz;rw[qd (by simp;omega),<- Ya]
 have wi:=λl=>hw S (R.1,l) e.g (if e.wr then .writes else .reads) (h.lt (Xz hi)) (show R.1.length<=100 by omega)
 have wi':∀ l,ww [.tup [js R.1,gz l],.int (e.g:Int),(if e.wr then Wd.writes else Wd.reads).d] S=U (aS (R.1.set e.g (if e.wr then .writes else .reads),l),S):=wi
 have sq:aI (cD .tup) [.lst (((R.2.take i).map Tl).map En.d)] S=U (gz ((R.2.take i).map Tl),S):=by rw[jj];rfl
 simp![pM,liGs,g2,bL,eM,cx,kA,dN,gZ,jn,gs,km,iH,ki,iC,nN,iD,nM,kz,kH,c1,Rl.ix0,ee,w3]
 by_cases hp:r.w=.passes
 ·rw[Xs hp]
  have e1:(R.2.take i).map (BE r)=(R.2.take i).map Tl:=by
   apply aaa;intro x _;simp[BE,Tl,hp]
  simp![cG,Dh (es:=R.2.take i) (by simp;omega),cH,sq,iC,nN,kz,tW,kH,nM,iD,c2,ad _ (show((R.2.take i).map Tl).length<=60 by simp;omega),sN,x1,En.ix1,Ja,cC,wi']
  unfold yl;rw[e1]
 ·rw[Xt hp]
  have e1:(R.2.take i).map (BE r)=R.2.take i:=by
   have:∀ x:En,BE r x=x:=λx=>by simp[BE,hp]
   rw[aaa (λx _=>this x),List.map_id']
  simp![iC,nN,kz,tW,kH,nM,iD,c2,ad _ (show(R.2.take i).length<=60 by simp;omega),sN,x1,En.ix1,Ja,cC,wi']
  unfold yl;rw[e1]
def qU:Option Ev->D
 | none=>.non
 | some v=>v.d
def uf(cg:PF):MS:=bN (cP (ao 3 cg (ac '0' (ac '1' (ac '2' ai))))) (bn (bj (ac (!"steps") (ac '2' ai)))) aU
def nD(gw cg nx:PF):MS:=aB (dC (ao 2 gw (ac '1' (ac (bj (ac (!"rising") ai)) ai))) 'b' (uf cg)) (aB (ay (ao 2 nx (ac '0' (ac '1' ai))) 'b') (bn (sQ (az (aH zd '2' (mC .non))) (mC .non) (bj (ac (!"in") (ac '2' ai))))))
theorem wA(O:mK cg)(hl:R.1.length<=100):∀ (l:List Nat) (a:Option D),∃ b,cq 'b' (uf cg) (l.map ni) [U r.d,U (aS R),a] S=U (match l.find? (dr r R) with | some g=>.rt (Ev.mk "steps" g).d S | none=>.nx [U r.d,U (aS R),b] S)
 | [],a=>⟨a,by simp⟩
 | g::l,a=>by
  obtain⟨b,ih⟩:=wA O hl l (U (ni g))
  refine⟨b,?_⟩
  have c1:cg [r.d,aS R,ni g] S=U (.bl (dr r R g),S):=O.1 S r R g hl
  rw[Xp,fh,aM,ob,fj,fj,eR,nO]
  simp![uf,fY,cC,c1,hJ,Yi]
  cases hc:dr r R g with
  | true=>simp![Fl];rfl
  | false=>
   rw[bW,bE,ob,kI]
   exact ih
theorem DR{nx:PF}(hg:Oh gw)(O:mK cg)(hn:∀ (S:aa) (r:Rl) (R:Rm),R.1.length<=100->R.2.length<=100->nx [r.d,aS R] S=U (mP (qq r R),S)){N:List Str}(hN:N.length=3)(hl:R.1.length<=100)(hl2:R.2.length<=100) :
  aT N (nD gw cg nx) 2 [r.d,aS R] S=U (qU (nw r R),S):=by
 refine Yy (lz (env:=[U r.d,U (aS R),Y]) hN rfl rfl) ?_
 have o1:gw [aS R,.tup [.str "rising"]] S=U (nt (rG (λw=>decide (w∈[Wd.rising])) R.1),S):=hg S R [.rising] hl
 have k1:cK ([.str "rising"],S)=U (.tup [.str "rising"],S):=bb (by simp)
 obtain⟨b,e⟩:=wA (S:=S) (r:=r) O hl (rG (λw=>decide (w∈[Wd.rising])) R.1) Y
 have ek:oW 'b' (uf cg) [U r.d,U (aS R),Y] (nt (rG (λw=>decide (w∈[Wd.rising])) R.1),S)=cq 'b' (uf cg) ((rG (λw=>decide (w∈[Wd.rising])) R.1).map ni) [U r.d,U (aS R),Y] S:=rfl
 have ew:(λw=>decide (w∈[Wd.rising]))=λw=>decide (w=Wd.rising):=by funext w;simp
 unfold nw
 simp![nD,kD,k1,o1,ek,e]
 rw[ew]
 cases hf:(rG (λw=>decide (w=Wd.rising)) R.1).find? (dr r R) with
 | some g=>simp only[cw,ob,aX,qU]
 | none=>
  have n1:=hn S r R hl hl2
  simp![n1,oO,jk]
  cases qq r R with
  | none=>simp[mP,mY,qU]
  | some g=>simp[mP,mY,qU,de,Ev.d]
def lD(ww li:PF):MS:=aB (ay '2' (bi 2 (ah 'c' (ah 'd' aY)))) (aB (bN (az (aH cY '3' (!"steps"))) (bn (ao 3 ww (ac '1' (ac '4' (ac (!"raised") ai))))) aU) (bn (ao 3 li (ac '0' (ac '1' (ac '4' ai))))))
theorem BF{ww li:PF}(hw:∀ (S:aa) (R:Rm) (g:Nat) (w:Wd),g<R.1.length->R.1.length<=100->ww [aS R,.int (g:Int),w.d] S=U (aS (R.1.set g w,R.2),S))
  (hi:∀ (S:aa) (r:Rl) (R:Rm) (i:Nat) (e:En),ROk R->R.2[i]?=U e->R.1.length<=50->li [r.d,aS R,.int (e.g:Int)] S=U (aS (yl r R i e),S)) {N:List Str} (hN:N.length=5) (h:ROk R) (hl:R.1.length<=50) {v:Ev} (s:Eg r R (U v) R' l) :
  aT N (lD ww li) 3 [r.d,aS R,v.d] S=U (aS R',S):=by
 refine Yy (lz (env:=[U r.d,U (aS R),U v.d,Y,Y]) hN rfl rfl) ?_
 have g2:∀ env S,bi 2 (ah 'c' (ah 'd' aY)) v.d env S=(ah 'c' (ah 'd' aY)) [.str v.w,.int (v.g:Nat)] env S:=λenv S=>cT
 simp![lD,g2,bL,eM,cx,ee]
 cases s with
 | up g hg=>
  have e1:(("steps":Str)==("steps":Str))=true:=by decide
  have w1:ww [aS R,.int (g:Int),.str "raised"] S=U (aS (R.1.set g .raised,R.2),S):=hw S R g .raised (Xe.mp hg).1 (by omega)
  simp![e1,cC,w1,cw]
 | go i e he=>
  have e1:(("in":Str)==("steps":Str))=false:=by decide
  have w1:=hi S r R i e h he hl
  simp![e1,cC,w1]
def Ck(br co:PF):MS:=aB (ay (ao 3 br (ac '0' (ac '1' (ac '3' ai)))) 'a') (aB (cR (cZ bZ '2' (ac '3' ai))) (ay (ao 2 co (ac '0' (ac '1' ai))) 'c'))
def Ci:MT:=az (aH nS '3' (mC .non))
def lC(br co:PF):MS:=aB (ay (cQ ai) 'b') (aB (ay (ao 2 co (ac '0' (ac '1' ai))) 'c') (aB (eO Ci (Ck br co)) (bn (bj (ac '1' (ac (bo (aI (cD .tup)) (ac '2' ai)) ai))))))
structure WR(br co:PF):Prop where
 c:∀ (S:aa) (r:Rl) (R:Rm),R.1.length<=100->R.2.length<=100->co [r.d,aS R] S=U (qU (nw r R),S)
 b:∀ (S:aa) (r:Rl) (R:Rm) (v:Ev) (R':Rm) (l:List Ev),ROk R->R.1.length<=50->Eg r R (U v) R' l->br [r.d,aS R,v.d] S=U (aS R',S)
theorem vy(O:WR br co)(hb:0<=r.b):∀ (n f:Nat) (R:Rm) (evs:List Ev),ROk R->R.1.length<=50->UA R<=n->n<f->evs.length+n<=400 ->
  fX Ci (Ck br co) f [U r.d,U (aS R),U (.ref S.length),U (qU (nw r R))] (S++[.lst (evs.map Ev.d)])=U (.nx [U r.d,U (aS (BQ r n R).1),U (.ref S.length),U .non] (S++[.lst ((evs++(BQ r n R).2).map Ev.d)]))
 | n,0,R,evs,_,_,_,hf,_=>by omega
 | n,f+1,R,evs,h,hl,hm,hf,he=>by
  have s:=wz (r:=r) h hb
  rw[Hn]
  simp![Ci,Bn]
  rcases Gu h s with ⟨h1,h2,h3⟩ | ⟨v,h1,h2,h3⟩
  ·rw[h1,zu h1 h hb n]
   simp only[qU,mY,Ys,aF,ob,kWh_f,XW]
  ·cases n with
   | zero=>omega
   | succ n=>
    obtain⟨q1,q2⟩:=Jx (r:=r) h
    have ih:=vy O hb n f (om r R).1 (evs++[v]) q1 (by omega) (by omega) (by omega) (by simp;omega)
    rw[h1] at s ⊢
    have b1:∀ S,br [r.d,aS R,v.d] S=U (aS (om r R).1,S):=λS=>O.b S r R v _ _ h hl s
    have c1:∀ S,co [r.d,aS (om r R).1] S=U (qU (nw r (om r R).1),S):=λS=>O.c S r _ (by omega) (by have:=q1.len;omega)
    have ap:bZ (.ref S.length) [v.d] (S++[.lst (evs.map Ev.d)])=U (.non,S++[.lst ((evs++[v]).map Ev.d)]):=VO (by omega)
    have nn:mY (qU (U v)) .non=false:=rfl
    have ev:qU (U v)=v.d:=rfl
    rw[nn]
    simp![YK,kWh_t,Ck,cC,ev,b1,mr,kA,QH,iH,ap,mz,c1,Qf]
    have e2:BQ r (n+1) R=((BQ r n (om r R).1).1,(om r R).2++(BQ r n (om r R).1).2):=rfl
    rw[e2,h2,<- XU]
    exact ih
theorem xj(O:WR br co)(hb:0<=r.b){N:List Str}(hN:N.length=4)(h:ROk R)(hl:R.1.length<=50) :
  aT N (lC br co) 2 [r.d,aS R] S=U (.tup [aS (aZ r R).1,dL (aZ r R).2],S++[.lst ((aZ r R).2.map Ev.d)]):=by
 refine Yy (lz (env:=[U r.d,U (aS R),Y,Y]) hN rfl rfl) ?_
 have k0:qu ([],S)=U (.ref S.length,S++[.lst []]):=jJ (by simp)
 have c1:∀ S,co [r.d,aS R] S=U (qU (nw r R),S):=λS=>O.c S r _ (by omega) (by have:=h.len;omega)
 have lp:=vy (S:=S) O hb (2*R.1.length) 5000 R [] h hl (Uz h) (by omega) (by simp;omega)
 simp only[aav,aaR] at lp
 have k2:∀ S x y,cK ([x,y],S)=U (.tup [x,y],S):=λS x y=>bb (by simp)
 unfold aZ
 simp![lC,oN,k0,c1,KO,lp,cG,cH,VN,k2]
end
section
variable{S:aa}{r:Rl}{R:Rm}
theorem xz{n:Nat}:bS (n+3) (dL l)=true:=by
 show((l.map Ev.d).all (bS (n+2)))=true
 rw[Xu];intro d hd;obtain⟨e,_,rfl⟩:=XH.mp hd;rfl
end
section
variable{r:Rl}
structure Calm(ws:List Wd):Prop where
 only:∀ w∈ws,w=.out\/w=.reads
 one:1<=ws.count .reads
theorem Calm.set(c:Calm ws){g:Nat}(hg:ws[g]?=U .out):Calm (ws.set g .reads)/\(ws.set g .reads).count .reads=ws.count .reads+1:=by
 have h:=jR (b:=.reads) hg (by decide) .reads
 simp at h
 have:=c.one
 refine⟨⟨λw hw=>?_,by omega⟩,h⟩
 rcases List.mem_or_eq_of_mem_set hw with z | z
 ·exact c.only w z
 ·exact .inr z
end
theorem GG:dH 0 n=(List.range n).map ni:=by
 unfold dH ni
 refine aaa λi _=>?_
 rw[Int.zero_add]
def oC(wait:PF):MS:=
 aB (bN (az (aH cY (aH aW '1' 0e0) (!"tick"))) (bn (mC (.bl true))) aU) (aB (ay (cn '1' cA (dB 2e0)) (bi 2 (ah 'b' (ah 'c' aY)))) (aB (ay (aH aW (aH aW '0' 0e0) '3') 'd') (aB (bN (az (aH cY '2' (!"up"))) (bn (aH cY '4' (!"reads"))) aU) (aB (bN (az (aH cY '2' (!"down"))) (bn (aH BV '4' (mC (.tup [.str "writes",.str "raised"])))) aU) (aB (bN (az (aH cY '2' (!"leave"))) (bn (aH mE '4' (!"out"))) aU) (aB (bN (az (aH cY '2' (!"stop"))) (bn (aH nS (ao 2 wait (ac '0' (ac '3' ai))) (mC .non))) aU) (bn (iG (aH cY '4' (!"out")) (aH zd (ao 2 wait (ac '0' (ac '3' ai))) (mC .non))))))))))
theorem Dt{es:List En}{g:Nat}:(es.find? λe=>decide (e.g=g)).isSome=cj es g:=by
 unfold cj;rw[List.isSome_find?]
theorem jY:mY (iY R g) .non = !(decide (R.1[g]?=U .rising)||cj R.2 g):=by
 unfold iY
 rw[<- Dt]
 by_cases h:R.1[g]?=U .rising
 ·rw[Xq h,Xs h];rfl
 ·rw[if_neg h,Xt h]
  cases R.2.find? λe=>decide (e.g=g) with
  | none=>rfl
  | some e=>cases e.wr<;>rfl
theorem Iz(O:qm wait){N:List Str}(hN:N.length=5){R:Rm}{dd:Dd}(hl:R.1.length<=100)(hd:dd.Ok R.1.length)(ht:dd≠.tick):aT N (oC wait) 2 [aS R,dd.d] S=U (.bl (dD R dd),S):=by
 refine Yy (lz (env:=[U (aS R),U dd.d,Y,Y,Y]) hN rfl rfl) ?_
 have x0:∀ S,aW S dd.d (.int 0)=U (.str (kU dd)):=λS=>by cases dd<;>first | rfl | exact absurd rfl ht
 have tk:cY S (.str (kU dd)) (.str "tick")=U (.bl false):=by rw[ee,NK ht]
 have hg:gm dd<R.1.length:=by cases dd with
  | ask _ _ _=>exact hd.1
  | act _ _=>exact hd
  | tick=>exact absurd rfl ht
 have hw:R.1[gm dd]?=U R.1[gm dd]:=Xl hg
 have xw:∀ S,aW S (js R.1) (.int (gm dd:Int))=U (R.1[gm dd]).d:=λS=>RW hw
 have sl:∀ S,nL dd.d Y (U 2,S)=U (.tup [.str (kU dd),.int (gm dd:Int)],S):=λS=>by cases dd<;>first | rfl | exact absurd rfl ht
 have g2:∀ x y env S,bi 2 (ah 'b' (ah 'c' aY)) (.tup [x,y]) env S=(ah 'b' (ah 'c' aY)) [x,y] env S:=λx y env S=>cT
 have rx:∀ S,aW S (aS R) (.int 0)=U (js R.1):=λS=>rfl
 have wt:∀ S,wait [aS R,.int (gm dd:Int)] S=U (iY R (gm dd),S):=λS=>O S R _ hl
 simp![oC,x0,tk,iC,nN,iD,nM,kz,kH,sl,g2,bL,eM,cx,rx,xw]
 generalize hv:R.1[gm dd]=w at hw
 have e1:cY S w.d (.str "reads")=U (.bl (decide (w=.reads))):=Dy (b:=.reads)
 have e2:mE S w.d (.str "out")=U (.bl (!decide (w=.out))):=Dw (b:=.out)
 have e3:cY S w.d (.str "out")=U (.bl (decide (w=.out))):=Dy (b:=.out)
 cases dd with
 | tick=>exact absurd rfl ht
 | act k g=>
  simp only[gm] at hw wt ⊢
  have wk:∀ j:Ak,cY S (.str (kU (.act k g))) (.str j.s)=U (.bl (decide (k=j))):=λj=>VL
  have w1:=wk .up
  have w2:=wk .down
  have w3:=wk .leave
  have w4:=wk .stop
  simp only[Ak.s] at w1 w2 w3 w4
  cases k with
  | up=>simp![w1,Zx,e1,cw,dD,hw,Zr]
  | down=>simp (decide:=true) only[w1,w2,aF,ob,Zx,ZO,bW,bE,aP,bY,be,bA,aK,bf,aQ,ak,bG,bK,bJ,oj,aj,ax,bq,aw,VI,bw,cw,aX,dD,hw,Zr]
  | leave=>simp (decide:=true) only[w1,w2,w3,aF,ob,Zx,ZO,bW,bE,aP,bY,be,bA,aK,bf,aQ,ak,bG,bK,bJ,oj,aj,ax,bq,aw,e2,bw,cw,aX,dD,hw,Zr,ne_eq,decide_not]
  | stop=>
   simp (decide:=true) only[w1,w2,w3,w4,aF,ob,Zx,ZO,bW,bE,aP,bY,be,bA,aK,bf,aQ,ak,bG,bK,bJ,oj,aj,ax,bq,aw,aA,aq,am,av,al,ba,wt,Bn,jY,bw,cw,aX,dD,Bool.not_not,Bool.or_comm]
 | ask wr g t=>
  simp only[gm] at hw wt ⊢
  have w1:cY S (.str (kU (.ask wr g t))) (.str "up")=U (.bl false):=by rw[ee];cases wr<;>rfl
  have w2:cY S (.str (kU (.ask wr g t))) (.str "down")=U (.bl false):=by rw[ee];cases wr<;>rfl
  have w3:cY S (.str (kU (.ask wr g t))) (.str "leave")=U (.bl false):=by rw[ee];cases wr<;>rfl
  have w4:cY S (.str (kU (.ask wr g t))) (.str "stop")=U (.bl false):=by rw[ee];cases wr<;>rfl
  simp![w1,w2,w3,w4,Dg,e3]
  by_cases hw':w=.out
  ·subst hw'
   simp![Zx,LD,wt,jk,jY,dD,hw,Zr]
   simp
  ·simp only[Xt hw',Vj,ob,bw,aX,dD,hw,Zr,Zs]
section
variable{r:Rl}{R:Rm}{g:Nat}
theorem Cj(h:(om r R).1.1[g]?=U .rising):R.1[g]?=U .rising:=by
 have key:∀ (i:Nat) (w:Wd),w≠.rising->(R.1.set i w)[g]?=U .rising->R.1[g]?=U .rising:=λi w hw q=>by
  by_cases e:i=g
  ·subst e
   by_cases hl:i<R.1.length
   ·rw[XF hl] at q;exact absurd (XC q) hw
   ·rw[List.getElem?_eq_none (by simp;omega)] at q;cases q
  ·rwa[XE e] at q
 unfold om at h
 split at h
 ·exact key _ _ (by decide) h
 ·split at h
  ·split at h
   ·rename_i e _
    refine key _ _ ?_ h
    cases e.wr<;>decide
   ·exact h
  ·exact h
theorem nA:∀ (n:Nat) {R:Rm},(BQ r n R).1.1[g]?=U .rising->R.1[g]?=U .rising
 | 0,_,h=>h
 | n+1,R,h=>Cj (nA n (R:=(om r R).1) h)
theorem Gv(h:cj (om r R).1.2 g=true):cj R.2 g=true:=by
 obtain⟨e,he,hg⟩:=Yw.mp h
 unfold om at he
 split at he
 ·exact Yw.mpr ⟨e,he,hg⟩
 ·split at he
  ·split at he
   ·rcases Xx.mp he with he | he
    ·obtain⟨y,hy,rfl⟩:=XH.mp he
     exact Yw.mpr ⟨y,Yc hy,hg⟩
    ·exact Yw.mpr ⟨e,Zh he,hg⟩
   ·exact Yw.mpr ⟨e,he,hg⟩
  ·exact Yw.mpr ⟨e,he,hg⟩
theorem vA:∀ (n:Nat) {R:Rm},cj (BQ r n R).1.2 g=true->cj R.2 g=true
 | 0,_,h=>h
 | n+1,R,h=>Gv (vA n (R:=(om r R).1) h)
theorem sC(h:ROk R){w:Wd}(hw:R.1[g]?=U w)(ho:w≠.out):cj R.2 g=false:=by
 cases z:cj R.2 g with
 | false=>rfl
 | true=>
  obtain⟨e,he,hg⟩:=Yw.mp z
  have:=h.out e he
  rw[XV hg,hw] at this
  exact absurd (XC this) ho
theorem Bl(h:cj es g=false):(es.filter λe=>decide (e.g≠g))=es:=by
 rw[YT]
 intro e he
 exact Xs (ia h he)
end
def Gh(settled:PF):Prop:=∀ (S:aa) (r:Rl) (R:Rm),0<=r.b->ROk R->R.1.length<=50->settled [r.d,aS R] S=U (.tup [aS (aZ r R).1,dL (aZ r R).2],S++[.lst ((aZ r R).2.map Ev.d)])
structure DeOk(settled wait gw ww:PF):Prop where
 s:Gh settled
 w:qm wait
 g:Oh gw
 ww:∀ (S:aa) (R:Rm) (g:Nat) (w:Wd),g<R.1.length->R.1.length<=100->ww [aS R,.int (g:Int),w.d] S=U (aS (R.1.set g w,R.2),S)
theorem Dz{k l:List Ev}(h:k.length<=400)(h':l.length<=400):bF S (dL k) (dL l)=U (dL (k++l)):=by
 show bF S (.tup (k.map Ev.d)) (.tup (l.map Ev.d))=_
 rw[qd (by simp;omega),<- Ya];rfl
theorem wP{R:Rm}(hl:R.1.length<=50):(aZ r R).2.length<=100:=XN (Eu _) (by omega)
def iy(x:Rm×List Ev):D:=.tup [aS x.1,dL x.2]
def Cz:MS:=aB (ay '0' (bi 2 (ah 'b' (ah 'c' aY)))) (bn (bj (ac '2' (ac (bo (aI (cD .tup)) (ac (bV (dU '3') '`' (az (aH mE (aH aW '0' 0e0) '1')) '0' [Y,U 1]) ai)) ai))))
section
variable{S:aa}{r:Rl}{R:Rm}{g:Nat}{N:List Str}{settled wait gw ww wo sb tu ol:PF}
theorem Th(hN:N.length=4)(hl:R.2.length<=100):aT N Cz 2 [aS R,.int (g:Int)] S=U (aS (R.1,R.2.filter λe=>decide (e.g≠g)),S):=by
 refine Yy (lz (env:=[U (aS R),U (.int (g:Int)),Y,Y]) hN rfl rfl) ?_
 have g2:∀ env S,bi 2 (ah 'b' (ah 'c' aY)) (aS R) env S=(ah 'b' (ah 'c' aY)) [js R.1,gz R.2] env S:=λenv S=>cT
 have k:=restC (S:=S) (es:=R.2) (g:=g) (b:=Y) (cap:=[Y,U 1]) (env:=[U (aS R),U (.int (g:Int)),U (js R.1),U (gz R.2)]) rfl hl
 simp![Cz,g2,bL,eM,cx,cG,dN,gZ,jn,k,cH,jj]
 rfl
def CB(settled:PF):MS:=aB (ay (ao 2 settled (ac '0' (ac '1' ai))) (bi 2 (ah 'a' (ah 'c' aY)))) (bn (bj (ac '1' (ac (aH bF '2' '3') ai))))
def RP(sb:PF):Prop:=∀ (S:aa) (r:Rl) (R:Rm) (l:List Ev),0<=r.b->ROk R->R.1.length<=50->l.length<=400->∃ T,sb [r.d,aS R,dL l] S=U (iy ((aZ r R).1,l++(aZ r R).2),S++T)
theorem TH(O:Gh settled)(hN:N.length=4){l:List Ev}(hb:0<=r.b)(h:ROk R)(hl:R.1.length<=50)(h4:l.length<=400):∃ T,aT N (CB settled) 3 [r.d,aS R,dL l] S=U (iy ((aZ r R).1,l++(aZ r R).2),S++T):=by
 have hst:bt N [r.d,aS R,dL l]=[U r.d,U (aS R),U (dL l),Y]:=by simp[bt,hN,Si]
 rw[cO (show [r.d,aS R,dL l].length=3 from rfl),hst]
 have o:=O S r R hb h hl
 have fw:=wP (r:=r) hl
 have g2:∀ (x y:D) env S,bi 2 (ah 'a' (ah 'c' aY)) (.tup [x,y]) env S=(ah 'a' (ah 'c' aY)) [x,y] env S:=λx y env S=>cT
 have ec:∀ S,bF S (dL l) (dL (aZ r R).2)=U (dL (l++(aZ r R).2)):=λS=>Dz h4 (by omega)
 refine⟨[.lst ((aZ r R).2.map Ev.d)],?_⟩
 simp![CB,o,g2,bL,eM,cx,ec,iy]
def tuC:ME:=bV (dU '4') (bi 4 (ah '`' (ah 'a' (ah 'b' (ah 'c' aY))))) bU (bj (ac '0' (ac '1' (ac (sQ (az (aH cY '1' (!"read"))) 1e0 '2') (ac '3' ai))))) [Y,Y,Y,Y]
def CA:MS:=aB (ay '1' (bi 2 (ah 'c' (ah 'd' aY)))) (aB (bN (fP (az (aH mE (aH aW '0' 0e0) (!"turns"))) (az (aH mE (aH aW '3' '2') (!"writes")))) (bn '1') aU) (bn (bj (ac '3' (ac (bo (aI (cD .tup)) (ac tuC ai)) ai)))))
theorem Lm{e:ME}{f:En->D}{a b c d:Option D}{es:List En}(hc:pB cap env=[a,b,c,d])(hl:es.length<=5000)(he:∀ x:En,e [U (.int (x.g:Nat)),U (.str (ci x.wr)),U (.int x.m),U (cB x.t)] S=U (f x,S)) :
  lI (bi 4 (ah '`' (ah 'a' (ah 'b' (ah 'c' aY))))) bU e cap env (es.map En.d,S)=U (.lst (es.map f),S):=by
 rw[iI (by rw[Xn];exact hl),hc,NP (t:=e) (f:=f) (λx a b c d=>?_) he,ob,jK]
 rw[show x.d=.tup [.int (x.g:Nat),.str (ci x.wr),.int x.m,cB x.t] from rfl,yn]
 simp only[bL,aM,ob,eR,fj,eM,cx]
theorem Jb:(ci b==("read":Str)) = !b:=by cases b<;>decide +kernel
def TuOk(tu:PF):Prop:=∀ (S:aa) (r:Rl) (R:Rm) (g:Nat) (w:Wd),R.1[g]?=U w->R.2.length<=100->tu [r.d,aS R,.int (g:Int)] S=U (aS (R.1,BR r w R.2),S)
theorem Ts(hN:N.length=5){w:Wd}(hw:R.1[g]?=U w)(hl:R.2.length<=100):aT N CA 3 [r.d,aS R,.int (g:Int)] S=U (aS (R.1,BR r w R.2),S):=by
 refine Yy (lz (env:=[U r.d,U (aS R),U (.int (g:Int)),Y,Y]) hN rfl rfl) ?_
 have g2:∀ env S,bi 2 (ah 'c' (ah 'd' aY)) (aS R) env S=(ah 'c' (ah 'd' aY)) [js R.1,gz R.2] env S:=λenv S=>cT
 have xw:aW S (js R.1) (.int (g:Int))=U w.d:=RW hw
 have x0:aW S r.d (.int 0)=U (.str r.w.s):=rfl
 have e1:mE S (.str r.w.s) (.str "turns")=U (.bl (!decide (r.w=.turns))):=by
  rw[yt];congr 2;cases r.w<;>decide +kernel
 have e2:mE S w.d (.str "writes")=U (.bl (!decide (w=.writes))):=Dw (b:=.writes)
 have k:=Lm (S:=S) (es:=R.2) (cap:=[Y,Y,Y,Y]) (env:=[U r.d,U (aS R),U (.int (g:Int)),U (js R.1),U (gz R.2)]) (a:=Y) (b:=Y) (c:=Y) (d:=Y) (e:=bj (ac '0' (ac '1' (ac (sQ (az (aH cY '1' (!"read"))) 1e0 '2') (ac '3' ai))))) (f:=λx=>(if x.wr then x else { x with m:=1 }).d) rfl (by omega) λx=>by
  obtain⟨xg,xwr,xm,xt⟩:=x
  cases xwr with
  | true=>
   have:cY S (.str (ci true)) (.str "read")=U (.bl false):=by rw[ee,Jb];rfl
   simp![oO,this,Ls,sG]
   rfl
  | false=>
   have:cY S (.str (ci false)) (.str "read")=U (.bl true):=by rw[ee,Jb];rfl
   simp![oO,this,Fo,sG]
   rfl
 simp![CA,g2,bL,eM,cx,nI,x0,e1]
 unfold BR
 by_cases h1:r.w=.turns
 ·simp![Xs h1,Ys,pX,xw,e2]
  by_cases h2:w=.writes
  ·simp![Xs h2,Ys,cG,tuC,dN,gZ,jn,k,cH,jj]
   rw[Xq ⟨h1,h2⟩]
   simp only[aS,gz,YQ]
   rfl
  ·simp![Xt h2,YK,cw]
   rw[if_neg (λz=>h2 z.2)]
 ·simp![Xt h1,YK,Lq,cw]
  rw[if_neg (λz=>h1 z.1)]
def xl(settled wait wo:PF):MS:=aB (ay '2' (bi 3 (ah 'c' (ah 'd' (ah 'e' aY))))) (aB (ay '1' (bi 2 (ah 'f' (ah 'g' aY)))) (aB (ay (bj (ac '4' (ac '3' (ac 0e0 (ac (sQ (az (aH cY '5' 0e0)) 1e0 '5') ai))))) 'h') (aB (ay (ao 2 settled (ac '0' (ac (bj (ac '6' (ac (aH bF '7' (bj (ac '8' ai))) ai))) ai))) (bi 2 (ah 'a' (ah 'i' aY)))) (aB (bN (az (aH zd (ao 2 wait (ac '1' (ac '4' ai))) (mC .non))) (bn (bj (ac '1' (ac '9' ai)))) aU) (aB (bN (az (aH cY '5' 0e0)) (bn (bj (ac (ao 2 wo (ac '1' (ac '4' ai))) (ac (aH bF '9' (bj (ac (bj (ac (!"no") (ac '4' ai))) ai))) ai)))) aU) (bn (bj (ac '1' (ac (aH bF '9' (bj (ac (bj (ac (!"waits") (ac '4' ai))) ai))) ai)))))))))
def WO(wo:PF):Prop:=∀ (S:aa) (R:Rm) (g:Nat),R.2.length<=100->wo [aS R,.int (g:Int)] S=U (aS (R.1,R.2.filter λe=>decide (e.g≠g)),S)
theorem RN(O:Gh settled)(W:qm wait)(V:WO wo)(hN:N.length=10)(hb:0<=r.b)(h:ROk R)(hl:R.1.length<=50)(hw:R.1[g]?=U .out)(hs:cj R.2 g=false):∃ T,aT N (xl settled wait wo) 3 [r.d,aS R,(Dd.ask wr g t).d] S=U (iy (Eb r R wr g t),S++T):=by
 have hst:bt N [r.d,aS R,(Dd.ask wr g t).d]=[U r.d,U (aS R),U (Dd.ask wr g t).d,Y,Y,Y,Y,Y,Y,Y]:=by simp[bt,hN,Si]
 rw[cO (show [r.d,aS R,(Dd.ask wr g t).d].length=3 from rfl),hst]
 have hle:=h.len
 have ok:=Gc (wr:=wr) (t:=t) h hw hs
 have g3:∀ env S,bi 3 (ah 'c' (ah 'd' (ah 'e' aY))) (Dd.ask wr g t).d env S=(ah 'c' (ah 'd' (ah 'e' aY))) [.str (ci wr),.int (g:Int),cB t] env S:=λenv S=>FC
 have g2:∀ env S,bi 2 (ah 'f' (ah 'g' aY)) (aS R) env S=(ah 'f' (ah 'g' aY)) [js R.1,gz R.2] env S:=λenv S=>cT
 have g2':∀ (x y:D) env S,bi 2 (ah 'a' (ah 'i' aY)) (.tup [x,y]) env S=(ah 'a' (ah 'i' aY)) [x,y] env S:=λx y env S=>cT
 have hi:sQ (az (aH cY '5' 0e0)) 1e0 '5' [U r.d,U (aS R),U (Dd.ask wr g t).d,U (.str (ci wr)),U (.int (g:Int)),U (cB t),U (js R.1),U (gz R.2),Y,Y] S=U (cB (if t=U 0 then U 1 else t),S):=by
  simp![oO,tV]
  by_cases z:t=U 0
  ·rw[Xs z,Xq z];simp only[Fo,bq];rfl
  ·rw[Xt z,if_neg z];simp only[Ls,ak,bG,bK,bJ,oj,ob,aj]
 have ed:D.tup [.int (g:Int),.str (ci wr),.int 0,cB (if t=U 0 then U 1 else t)]=(qX wr g t).d:=rfl
 have ae:bF S (gz R.2) (.tup [(qX wr g t).d])=U (gz (R.2++[qX wr g t])):=by
  show bF S (.tup (R.2.map En.d)) _=_
  rw[qd (by simp;omega)];simp[gz]
 have so:=O S r (R.1,R.2++[qX wr g t]) hb ok hl
 have so':settled [r.d,.tup [js R.1,gz (R.2++[qX wr g t])]] S=_:=so
 have fw:=wP (r:=r) (R:=(R.1,R.2++[qX wr g t])) hl
 have lnS:(aZ r (R.1,R.2++[qX wr g t])).1.1.length=R.1.length:=(fq (r:=r) ok).2
 have okS:=(fq (r:=r) ok).1
 have ln2:=okS.len
 generalize hA:aZ r (R.1,R.2++[qX wr g t])=A at so' fw lnS okS ln2
 have nr:¬ A.1.1[g]?=U .rising:=λz=>by
  rw[<- hA] at z
  have:=nA _ z
  rw[hw] at this;cases this
 have wt:∀ S,wait [aS A.1,.int (g:Int)] S=U (iY A.1 g,S):=λS=>W S A.1 g (by omega)
 have vo:∀ S,wo [aS A.1,.int (g:Int)] S=U (aS (A.1.1,A.1.2.filter λe=>decide (e.g≠g)),S):=λS=>V S A.1 g (by omega)
 have e1:∀ S (w:Str),bF S (dL A.2) (.tup [.tup [.str w,.int (g:Int)]])=U (dL (A.2++[⟨w,g⟩])):=λS w=>Dz (l:=[⟨w,g⟩]) (by omega) (by simp)
 have wb:mY (iY A.1 g) .non = !cj A.1.2 g:=by rw[jY,Xt nr,Bool.false_or]
 refine⟨[.lst (A.2.map Ev.d)],?_⟩
 simp![xl,g3,bL,eM,cx,g2,hi,sG,ed,dn,ae,so',g2',wt,jk,wb]
 unfold Eb
 rw[hA]
 dsimp only
 cases hst:cj A.1.2 g with
 | false=>
  rw[Xq rfl]
  simp![YK,cw,iy]
 | true=>
  rw[if_neg (by decide)]
  simp![Ys,tV]
  by_cases z:t=U 0
  ·rw[Xs z,Xq z]
   simp![vo,dn,e1,cw,iy]
  ·rw[Xt z,if_neg z]
   simp![dn,e1,iy]
theorem Ed(h:ROk R){k:Ak}(hs:cj R.2 g=false):yV r k w g R.2=if k=.down\/k=.leave then BR r w R.2 else R.2:=by
 unfold yV
 refine Bl ?_
 split
 ·unfold BR
  split
  ·unfold cj
   rw[abp]
   refine Yy ?_ hs
   unfold cj
   congr 1
   funext e
   show decide ((if e.wr=true then e else { e with m:=1 }).g=g)=_
   cases e.wr<;>rfl
  ·exact hs
 ·exact hs
def xk(settled wait gw ww:PF):MS:=aB (ay (aH aW '2' 1e0) 'c') (aB (bN (fP (az (aH cY (aH aW '0' 3e0) 0e0)) (cP (ao 2 gw (ac '1' (ac (bj (ac (!"rising") ai)) ai))))) (bn (bj (ac '1' (ac (bj (ac (bj (ac (!"no") (ac '3' ai))) ai)) ai)))) aU) (aB (ay (ao 2 settled (ac '0' (ac (ao 3 ww (ac '1' (ac '3' (ac (!"rising") ai)))) ai))) (bi 2 (ah 'a' (ah 'd' aY)))) (aB (bN (az (aH zd (ao 2 wait (ac '1' (ac '3' ai))) (mC .non))) (bn (bj (ac '1' (ac '4' ai)))) aU) (bn (bj (ac '1' (ac (aH bF '4' (bj (ac (bj (ac (!"waits") (ac '3' ai))) ai))) ai)))))))
theorem Tk(O:DeOk settled wait gw ww)(hN:N.length=5)(hb:0<=r.b)(h:ROk R)(hl:R.1.length<=50)(hw:R.1[g]?=U .reads):∃ T,aT N (xk settled wait gw ww) 3 [r.d,aS R,(Dd.act .up g).d] S=U (iy (if r.c=0\/Wd.rising∈R.1 then(R,[⟨"no",g⟩]) else pF r R .up g .reads),S++T):=by
 have hst:bt N [r.d,aS R,(Dd.act .up g).d]=[U r.d,U (aS R),U (Dd.act .up g).d,Y,Y]:=by simp[bt,hN,Si]
 rw[cO (show [r.d,aS R,(Dd.act .up g).d].length=3 from rfl),hst]
 have hg:g<R.1.length:=(Xe.mp hw).1
 have x1:aW S (Dd.act .up g).d (.int 1)=U (.int (g:Int)):=rfl
 have x3:aW S r.d (.int 3)=U (.int r.c):=rfl
 have gr:gw [aS R,.tup [.str "rising"]] S=U (nt (rG (λw=>decide (w∈[Wd.rising])) R.1),S):=O.g S R [.rising] (by omega)
 have tr:AM (nt (rG (λw=>decide (w∈[Wd.rising])) R.1),S)=U (decide (Wd.rising∈R.1),S):=by
  cases hx:rG (λw=>decide (w∈[Wd.rising])) R.1 with
  | nil=>
   have:¬ Wd.rising∈R.1:=λz=>by
    obtain⟨i,hi⟩:=ZQ.mp z
    have:i∈rG (λw=>decide (w∈[Wd.rising])) R.1:=mem_ixW.mpr ⟨_,hi,by simp⟩
    rw[hx] at this;cases this
   rw[Xt this];rfl
  | cons i l=>
   have:i∈rG (λw=>decide (w∈[Wd.rising])) R.1:=by rw[hx];exact Xi
   obtain⟨w,h1,h2⟩:=mem_ixW.mp this
   have e:w=.rising:=by simpa using h2
   subst e
   rw[Xs (Xz h1)];rfl
 have ref:(r.c=0\/Wd.rising∈R.1)->∀ env,env=[U r.d,U (aS R),U (Dd.act .up g).d,U (.int (g:Int)),Y]->fP (az (aH cY (aH aW '0' 3e0) 0e0)) (cP (ao 2 gw (ac '1' (ac (bj (ac (!"rising") ai)) ai)))) env S=U (true,S):=λz env he=>by
  subst he
  by_cases hc:r.c=0
  ·have:(r.c==0)=true:=by rw[hc];rfl
   simp![nI,x3,nU,this,Lq]
  ·have q:(r.c==0)=false:=YC.mpr hc
   simp![nI,x3,nU,q,pX,fY,dn,gr,tr,Xs (z.resolve_left hc)]
 by_cases z:r.c=0\/Wd.rising∈R.1
 ·rw[Xq z]
  refine⟨[],?_⟩
  simp![xk,x1,ref z _ rfl,dn,cw,XW]
  rfl
 ·rw[if_neg z]
  have hc:(r.c==0)=false:=YC.mpr λq=>z (.inl q)
  have hr:¬ Wd.rising∈R.1:=λq=>z (.inr q)
  have hs:=sC h hw (by decide)
  have wwo:ww [aS R,.int (g:Int),.str "rising"] S=U (aS (R.1.set g .rising,R.2),S):=O.ww S R g .rising hg (by omega)
  have ok:ROk (R.1.set g .rising,R.2):=h.setW g .rising λe he=>ia hs he
  have so:=O.s S r (R.1.set g .rising,R.2) hb ok (by simp;omega)
  have fw:=wP (r:=r) (R:=(R.1.set g .rising,R.2)) (by simp;omega)
  have lnS:(aZ r (R.1.set g .rising,R.2)).1.1.length=R.1.length:=(fq (r:=r) ok).2.trans (by simp)
  have ns:cj (aZ r (R.1.set g .rising,R.2)).1.2 g=false:=by
   cases q:cj (aZ r (R.1.set g .rising,R.2)).1.2 g with
   | false=>rfl
   | true=>have:=vA _ q;rw[hs] at this;cases this
  have aL:pF r R .up g .reads=((aZ r (R.1.set g .rising,R.2)).1,(aZ r (R.1.set g .rising,R.2)).2++(if (aZ r (R.1.set g .rising,R.2)).1.1[g]?=U .rising then [⟨"waits",g⟩] else [])):=by
   unfold pF
   rw[Ed h hs,if_neg (by decide)]
   rfl
  rw[aL]
  generalize aZ r (R.1.set g .rising,R.2)=A at so fw lnS ns
  have wt:∀ S,wait [aS A.1,.int (g:Int)] S=U (iY A.1 g,S):=λS=>O.w S A.1 g (by omega)
  have g2:∀ (x y:D) env S,bi 2 (ah 'a' (ah 'd' aY)) (.tup [x,y]) env S=(ah 'a' (ah 'd' aY)) [x,y] env S:=λx y env S=>cT
  have e1:∀ S (w:Str),bF S (dL A.2) (.tup [.tup [.str w,.int (g:Int)]])=U (dL (A.2++[⟨w,g⟩])):=λS w=>Dz (l:=[⟨w,g⟩]) (by omega) (by simp)
  have wb:mY (iY A.1 g) .non = !decide (A.1.1[g]?=U .rising):=by rw[jY,ns,Bool.or_false]
  refine⟨[.lst (A.2.map Ev.d)],?_⟩
  simp![xk,x1,nI,x3,nU,hc,pX,fY,dn,gr,tr,Xt hr,cC,wwo,so,g2,bL,eM,cx,wt,jk,wb]
  by_cases q:A.1.1[g]?=U .rising
  ·rw[Xs q,Xq q]
   simp![Ys,dn,e1,iy]
  ·rw[Xt q,if_neg q,XW]
   simp![YK,cw,iy]
def oA(sb ww tu:PF)(x y:Str):MS:=aB (ay (aH aW '2' 1e0) 'c') (bn (ao 3 sb (ac '0' (ac (ao 3 ww (ac (ao 3 tu (ac '0' (ac '1' (ac '3' ai)))) (ac '3' (ac (mC (.str x)) ai)))) (ac (bj (ac (bj (ac (mC (.str y)) (ac '3' ai))) ai)) ai)))))
theorem yU{k:Ak}{w':Wd}{es:List En}(hg:g<R.1.length)(hk:wM k w=w')(hr:w'≠.rising)(he:yV r k w g R.2=es):pF r R k g w=((aZ r (R.1.set g w',es)).1,yq k g++(aZ r (R.1.set g w',es)).2):=by
 unfold pF
 rw[hk,he]
 dsimp only
 rw[if_neg,XW]
 intro z
 have:=nA _ z
 rw[XF hg] at this
 exact hr (XC this)
theorem Bt(SB:RP sb)(WW:∀ (S:aa) (R:Rm) (g:Nat) (w:Wd),g<R.1.length->R.1.length<=100->ww [aS R,.int (g:Int),w.d] S=U (aS (R.1.set g w,R.2),S))(TU:TuOk tu)(hN:N.length=4)(hb:0<=r.b)(h:ROk R)(hl:R.1.length<=50){w w':Wd}{k:Ak}{y:Str}(hw:R.1[g]?=U w)(ho:w≠.out)(hk:k=.down\/k=.leave)(ht:wM k w=w')(hr:w'≠.rising)(hf:yq k g=[⟨y,g⟩]) :
  ∃ T,aT N (oA sb ww tu w'.s y) 3 [r.d,aS R,(Dd.act k g).d] S=U (iy (pF r R k g w),S++T):=by
 have hst:bt N [r.d,aS R,(Dd.act k g).d]=[U r.d,U (aS R),U (Dd.act k g).d,Y]:=by simp[bt,hN,Si]
 rw[cO (show [r.d,aS R,(Dd.act k g).d].length=3 from rfl),hst]
 have hg:g<R.1.length:=(Xe.mp hw).1
 have hle:=h.len
 have hs:=sC h hw ho
 have he:yV r k w g R.2=BR r w R.2:=by rw[Ed h hs,Xq hk]
 rw[yU hg ht hr he,hf]
 have x1:aW S (Dd.act k g).d (.int 1)=U (.int (g:Int)):=rfl
 have t1:=TU S r R g w hw (by omega)
 have w1:ww [aS (R.1,BR r w R.2),.int (g:Int),.str w'.s] S=U (aS (R.1.set g w',BR r w R.2),S):=WW S (R.1,BR r w R.2) g w' hg (by show R.1.length<=100;omega)
 have ok:ROk (R.1.set g w',BR r w R.2):=by rw[<- he];exact Gg h _
 obtain⟨T,s1⟩:=SB S r (R.1.set g w',BR r w R.2) [⟨y,g⟩] hb ok (by simp;omega) (by simp)
 refine⟨T,?_⟩
 have s1':sb [r.d,aS (R.1.set g w',BR r w R.2),.tup [.tup [.str y,.int (g:Int)]]] S=_:=s1
 simp![oA,x1,cC,t1,w1,dn,s1']
def ow(sb ww wo wait:PF):MS:=aB (ay (aH aW '2' 1e0) 'c') (aB (bN (az (aH cY (ao 2 wait (ac '1' (ac '3' ai))) (!"up"))) (ay (ao 3 ww (ac '1' (ac '3' (ac (!"reads") ai)))) 'd') (ay (ao 2 wo (ac '1' (ac '3' ai))) 'd')) (bn (ao 3 sb (ac '0' (ac '4' (ac (bj (ac (bj (ac (!"ends") (ac '3' ai))) ai)) ai))))))
theorem Em:cY S (iY R g) (.str "up")=U (.bl (decide (R.1[g]?=U .rising))):=by
 unfold iY
 by_cases h:R.1[g]?=U .rising
 ·rw[Xq h,Xs h,ee];rfl
 ·rw[if_neg h,Xt h]
  cases R.2.find? λe=>decide (e.g=g) with
  | none=>rw[kS rfl rfl];rfl
  | some e=>
   show cY S (.str (ci e.wr)) (.str "up")=_
   rw[ee];cases e.wr<;>rfl
theorem Jr(SB:RP sb)(WW:∀ (S:aa) (R:Rm) (g:Nat) (w:Wd),g<R.1.length->R.1.length<=100->ww [aS R,.int (g:Int),w.d] S=U (aS (R.1.set g w,R.2),S))(V:WO wo)(W:qm wait)(hN:N.length=5)(hb:0<=r.b)(h:ROk R)(hl:R.1.length<=50){w:Wd}(hw:R.1[g]?=U w)(hc:dD R (.act .stop g)=true) :
  ∃ T,aT N (ow sb ww wo wait) 3 [r.d,aS R,(Dd.act .stop g).d] S=U (iy (pF r R .stop g w),S++T):=by
 have hst:bt N [r.d,aS R,(Dd.act .stop g).d]=[U r.d,U (aS R),U (Dd.act .stop g).d,Y,Y]:=by simp[bt,hN,Si]
 rw[cO (show [r.d,aS R,(Dd.act .stop g).d].length=3 from rfl),hst]
 have hg:g<R.1.length:=(Xe.mp hw).1
 have hle:=h.len
 have x1:aW S (Dd.act .stop g).d (.int 1)=U (.int (g:Int)):=rfl
 have wt:wait [aS R,.int (g:Int)] S=U (iY R g,S):=W S R g (by omega)
 have fin:∀ R':Rm,ROk R'->R'.1.length=R.1.length->pF r R .stop g w=((aZ r R').1,yq .stop g++(aZ r R').2)->∃ T,sb [r.d,aS R',.tup [.tup [.str "ends",.int (g:Int)]]] S=U (iy (pF r R .stop g w),S++T):=λR' ok hl' ha=>by
  obtain⟨T,s1⟩:=SB S r R' [⟨"ends",g⟩] hb ok (by omega) (by simp)
  refine⟨T,?_⟩
  rw[ha];exact s1
 by_cases hr:w=.rising
 ·subst hr
  have hs:=sC h hw (by decide)
  have he:yV r .stop .rising g R.2=R.2:=by rw[Ed h hs,if_neg (by decide)]
  have w1:ww [aS R,.int (g:Int),.str "reads"] S=U (aS (R.1.set g .reads,R.2),S):=WW S R g .reads hg (by omega)
  obtain⟨T,s1⟩:=fin (R.1.set g .reads,R.2) (h.setW g .reads λe q=>ia hs q) (by simp) (yU hg rfl (by decide) he)
  refine⟨T,?_⟩
  simp![ow,x1,wt,Em,Xs hw,cC,w1,dn,s1]
 ·have ho:w=.out:=by
   unfold dD at hc
   rw[ZA] at hc
   rcases hc with q | q
   ·obtain⟨e,he,hge⟩:=Yw.mp q
    have:=h.out e he
    rw[XV hge,hw] at this
    exact XC this
   ·have:=XV q;rw[hw] at this;exact absurd (XC this) hr
  subst ho
  have hn:¬ R.1[g]?=U .rising:=by rw[hw];intro z;cases z
  have v1:wo [aS R,.int (g:Int)] S=U (aS (R.1,R.2.filter λe=>decide (e.g≠g)),S):=V S R g (by omega)
  have hset:R.1.set g .out=R.1:=by
   obtain⟨q,e⟩:=Xe.mp hw
   rw[<- e];exact List.set_getElem_self q
  have ha:=yU (r:=r) (R:=R) (g:=g) (k:=.stop) (w:=.out) (w':=.out) (es:=R.2.filter λe=>decide (e.g≠g)) hg rfl (by decide) (by unfold yV;rw[if_neg (by decide)])
  rw[hset] at ha
  obtain⟨T,s1⟩:=fin (R.1,R.2.filter λe=>decide (e.g≠g)) (ROk.filter h _) rfl ha
  refine⟨T,?_⟩
  simp![ow,x1,wt,Em,Xt hn,v1,dn,cC,s1]
def oz:MS:=bn (sQ (az (aH zd '0' (mC .non))) (mC .non) (aH HQ '0' 1e0))
theorem Li(hN:N.length=1):aT N oz 1 [cB t] S=U (cB (t.map (· - 1)),S):=by
 have hst:bt N [cB t]=[U (cB t)]:=by simp[bt,hN]
 rw[cO (show [cB t].length=1 from rfl),hst]
 cases t with
 | none=>
  have i1:mY (cB Y) .non=true:=rfl
  simp![oz,oO,jk,i1,Fo];rfl
 | some t=>
  have i1:mY (cB (U t)) .non=false:=rfl
  have s1:HQ S (cB (U t)) (.int 1)=U (cB (U (t - 1))):=VB
  simp![oz,oO,jk,i1,Ls,s1];rfl
def tkA(ol:PF):ME:=bV (dU '4') (bi 4 (ah '`' (ah 'a' (ah 'b' (ah 'c' aY))))) bU (bj (ac '0' (ac '1' (ac '2' (ac (ao 1 ol (ac '3' ai)) ai))))) [Y,Y,Y,Y]
def tkB:ME:=bV (dU '5') '`' (az (aH cY (aH aW '0' 3e0) 0e0)) (bj (ac (!"ends") (ac (aH aW '0' 0e0) ai))) [Y]
def tkC:ME:=bV (dU '5') '`' (az (aH mE (aH aW '0' 3e0) 0e0)) '0' [Y]
def sh(sb ol:PF):MS:=aB (ay '1' (bi 2 (ah 'c' (ah 'd' aY)))) (aB (ay (tkA ol) 'e') (aB (ay (bo (aI (cD .tup)) (ac tkB ai)) 'f') (aB (ay (bo (aI (cD .tup)) (ac tkC ai)) 'g') (bn (ao 3 sb (ac '0' (ac (bj (ac '3' (ac '7' ai))) (ac '6' ai))))))))
theorem Jh(SB:RP sb)(L:∀ (S:aa) (t:Option Int),ol [cB t] S=U (cB (t.map (· - 1)),S))(hN:N.length=8)(hb:0<=r.b)(h:ROk R)(hl:R.1.length<=50):∃ T,aT N (sh sb ol) 3 [r.d,aS R,Dd.tick.d] S=U (iy (Er r R),S++T):=by
 have hst:bt N [r.d,aS R,Dd.tick.d]=[U r.d,U (aS R),U Dd.tick.d,Y,Y,Y,Y,Y]:=by simp[bt,hN,Si]
 rw[cO (show [r.d,aS R,Dd.tick.d].length=3 from rfl),hst]
 have hle:=h.len
 have g2:∀ env S,bi 2 (ah 'c' (ah 'd' aY)) (aS R) env S=(ah 'c' (ah 'd' aY)) [js R.1,gz R.2] env S:=λenv S=>cT
 have a:=Lm (S:=S) (es:=R.2) (cap:=[Y,Y,Y,Y]) (env:=[U r.d,U (aS R),U Dd.tick.d,U (js R.1),U (gz R.2),Y,Y,Y]) (a:=Y) (b:=Y) (c:=Y) (d:=Y) (e:=bj (ac '0' (ac '1' (ac '2' (ac (ao 1 ol (ac '3' ai)) ai))))) (f:=λx=>(jz x).d) rfl (by omega) λx=>by
  simp![lJ,L,sG];rfl
 have b:=jv (S:=S) (t:=az (aH cY (aH aW '0' 3e0) 0e0)) (e:=bj (ac (!"ends") (ac (aH aW '0' 0e0) ai))) (cap:=[Y]) (env:=[U r.d,U (aS R),U Dd.tick.d,U (js R.1),U (gz R.2),U (.lst ((R.2.map jz).map En.d)),Y,Y]) (rest:=[]) (a:=Y) (enc:=En.d) (p:=λe=>decide (e.t=U 0)) (f:=λe=>Ev.d ⟨"ends",e.g⟩) (xs:=R.2.map jz) rfl (by rw[Xn];omega) (λe _=>by
  have x3:aW S e.d (.int 3)=U (cB e.t):=rfl
  simp![x3,tV]) (λe _ _=>by
  simp![En.ix0];rfl)
 have c:=jv (S:=S) (t:=az (aH mE (aH aW '0' 3e0) 0e0)) (e:=af 0) (cap:=[Y]) (env:=[U r.d,U (aS R),U Dd.tick.d,U (js R.1),U (gz R.2),U (.lst ((R.2.map jz).map En.d)),U (dL (((R.2.map jz).filter λe=>decide (e.t=U 0)).map λe=>⟨"ends",e.g⟩)),Y]) (rest:=[]) (a:=Y) (enc:=En.d) (p:=λe=>decide (e.t≠U 0)) (f:=En.d) (xs:=R.2.map jz) rfl (by rw[Xn];omega) (λe _=>by
  have x3:aW S e.d (.int 3)=U (cB e.t):=rfl
  simp![x3,Mi,ne_eq,decide_not]) (λe _ _=>by simp only[ak,bG,oj,ob,aj])
 have ma:(R.2.map λx=>(jz x).d)=(R.2.map jz).map En.d:=by rw[YQ];rfl
 rw[ma] at a
 have it:∀ l:List D,AS (.lst l,S)=U (l,S):=λl=>yg
 have sb1:aI (cD .tup) [.lst (((R.2.map jz).filter λe=>decide (e.t=U 0)).map λe=>Ev.d ⟨"ends",e.g⟩)] S=U (dL (((R.2.map jz).filter λe=>decide (e.t=U 0)).map λe=>⟨"ends",e.g⟩),S):=by
  rw[jj];unfold dL;rw[YQ];rfl
 have sc1:aI (cD .tup) [.lst (((R.2.map jz).filter λe=>decide (e.t≠U 0)).map En.d)] S=U (gz ((R.2.map jz).filter λe=>decide (e.t≠U 0)),S):=jj
 obtain⟨T,s1⟩:=SB S r (R.1,(R.2.map jz).filter λe=>decide (e.t≠U 0)) (((R.2.map jz).filter λ(e:En)=>decide (e.t=U 0)).map λ(e:En)=>Ev.mk "ends" e.g) hb (ROk.filter (ROk.mapE h jz λe=>rfl) _) hl (by
  rw[Xn];exact XN (YI _ _) (by rw[Xn];omega))
 refine⟨T,?_⟩
 have s1':sb [r.d,.tup [js R.1,gz ((R.2.map jz).filter λe=>decide (e.t≠U 0))],dL (((R.2.map jz).filter λe=>decide (e.t=U 0)).map λe=>⟨"ends",e.g⟩)] S=U (iy (Er r R),S++T):=s1
 simp![sh,g2,bL,eM,cx,tkA,dN,gZ,jn,a,cG,tkB,it,b,cH,sb1,tkC,c,sc1,cC,s1']
structure BrOk(ask up down leave stop tick:PF):Prop where
 a:∀ (S:aa) (r:Rl) (R:Rm) (wr:Bool) (g:Nat) (t:Option Int),0<=r.b->ROk R->R.1.length<=50->R.1[g]?=U .out->cj R.2 g=false->∃ T,ask [r.d,aS R,(Dd.ask wr g t).d] S=U (iy (Eb r R wr g t),S++T)
 u:∀ (S:aa) (r:Rl) (R:Rm) (g:Nat),0<=r.b->ROk R->R.1.length<=50->R.1[g]?=U .reads->∃ T,up [r.d,aS R,(Dd.act .up g).d] S=U (iy (if r.c=0\/Wd.rising∈R.1 then(R,[⟨"no",g⟩]) else pF r R .up g .reads),S++T)
 d:∀ (S:aa) (r:Rl) (R:Rm) (g:Nat) (w:Wd),0<=r.b->ROk R->R.1.length<=50->R.1[g]?=U w->w≠.out->∃ T,down [r.d,aS R,(Dd.act .down g).d] S=U (iy (pF r R .down g w),S++T)
 l:∀ (S:aa) (r:Rl) (R:Rm) (g:Nat) (w:Wd),0<=r.b->ROk R->R.1.length<=50->R.1[g]?=U w->w≠.out->∃ T,leave [r.d,aS R,(Dd.act .leave g).d] S=U (iy (pF r R .leave g w),S++T)
 s:∀ (S:aa) (r:Rl) (R:Rm) (g:Nat) (w:Wd),0<=r.b->ROk R->R.1.length<=50->R.1[g]?=U w->dD R (.act .stop g)=true->∃ T,stop [r.d,aS R,(Dd.act .stop g).d] S=U (iy (pF r R .stop g w),S++T)
 t:∀ (S:aa) (r:Rl) (R:Rm),0<=r.b->ROk R->R.1.length<=50->∃ T,tick [r.d,aS R,Dd.tick.d] S=U (iy (Er r R),S++T)
def brL(ask up down leave stop tick:PF):List (bC×Nat×PF):=[(.inr "read",3,ask),(.inr "write",3,ask),(.inr "up",3,up),(.inr "down",3,down),(.inr "leave",3,leave),(.inr "stop",3,stop),(.inr "tick",3,tick)]
def oB(l:List (bC×Nat×PF)):MS:=je l 3 (aH aW '2' 0e0) (ac '0' (ac '1' (ac '2' ai)))
theorem iR{l:List (bC×Nat×PF)}{f:PF}{x y z d:D}{w:Str}(hN:N.length=4)(hx:aW S z (.int 0)=U (.str w))(hv:zk l (.inr w)=U (3,f)){S':aa}(hf:f [x,y,z] S=U (d,S')):aT N (oB l) 3 [x,y,z] S=U (d,S'):=by
 refine Yy (lz (env:=[U x,U y,U z,Y]) hN rfl rfl) ?_
 have kd:=λms env=>Lw (S:=S) (d:=.str w) (ms:=ms) (env:=env) (i:=3) (l:=l) Qd hv
 have k3:yh 3 f ([x,y,z],S)=(f [x,y,z] S).bind kRt:=HA rfl
 simp![oB,PZ,hx,kd,k3,hf]
theorem GQ{ask up:PF}(B:BrOk ask up down leave stop tick)(hN:N.length=4){dd:Dd}{x:Rm×List Ev}(hb:0<=r.b)(h:ROk R)(hl:R.1.length<=50)(hd:dd.Ok R.1.length)(hx:gQ r R dd=U x):∃ T,aT N (oB (brL ask up down leave stop tick)) 3 [r.d,aS R,dd.d] S=U (iy x,S++T):=by
 unfold gQ at hx
 split at hx
 ·cases hx
 rename_i hcan
 rw[Bool.not_eq_false] at hcan
 split at hx
 ·cases hx
  obtain⟨T,e⟩:=B.t S r R hb h hl
  exact⟨T,iR (w:="tick") hN rfl (by rfl) e⟩
 ·rename_i wr g t
  cases hx
  unfold dD at hcan
  rw[Xk] at hcan
  obtain⟨T,e⟩:=B.a S r R wr g t hb h hl (XV hcan.1) (by simpa using hcan.2)
  refine⟨T,?_⟩
  cases wr
  ·exact iR (w:="read") hN rfl (by rfl) e
  ·exact iR (w:="write") hN rfl (by rfl) e
 ·rename_i k g
  have hg:g<R.1.length:=hd
  obtain⟨w,hw⟩:∃ w,R.1[g]?=U w:=⟨_,Xl hg⟩
  rw[hw] at hx
  dsimp only at hx
  cases k with
  | up=>
   have hr:R.1[g]?=U .reads:=XV hcan
   rw[hw] at hr;cases hr
   obtain⟨T,e⟩:=B.u S r R g hb h hl hw
   refine⟨T,iR (w:="up") hN rfl (by rfl) ?_⟩
   rw[e]
   by_cases z:r.c=0\/Wd.rising∈R.1
   ·rw[Xq ⟨rfl,z⟩] at hx;cases hx;rw[Xq z]
   ·rw[if_neg (λq=>z q.2)] at hx;cases hx;rw[if_neg z]
  | down=>
   rw[if_neg (λq=>by cases q.1)] at hx;cases hx
   have ho:w≠.out:=λz=>by
    subst z
    have hc2:(decide (R.1[g]?=U Wd.writes)||decide (R.1[g]?=U Wd.raised))=true:=hcan
    rw[hw] at hc2;revert hc2;decide
   obtain⟨T,e⟩:=B.d S r R g w hb h hl hw ho
   exact⟨T,iR (w:="down") hN rfl (by rfl) e⟩
  | leave=>
   rw[if_neg (λq=>by cases q.1)] at hx;cases hx
   have ho:w≠.out:=λz=>by
    subst z
    exact(XV hcan) hw
   obtain⟨T,e⟩:=B.l S r R g w hb h hl hw ho
   exact⟨T,iR (w:="leave") hN rfl (by rfl) e⟩
  | stop=>
   rw[if_neg (λq=>by cases q.1)] at hx;cases hx
   obtain⟨T,e⟩:=B.s S r R g w hb h hl hw hcan
   exact⟨T,iR (w:="stop") hN rfl (by rfl) e⟩
end
section
variable{S:aa}{N:List Str}{r:Rl}{R:Rm}{n:Nat}{dd:Dd}
theorem DV(hN:N.length=5):aT N (oC wait) 2 [aS R,Dd.tick.d] S=U (.bl true,S):=by
 refine Yy (lz (env:=[U (aS R),U Dd.tick.d,Y,Y,Y]) hN rfl rfl) ?_
 have x0:aW S Dd.tick.d (.int 0)=U (.str "tick"):=rfl
 have tk:cY S (.str "tick") (.str "tick")=U (.bl true):=by rw[ee];rfl
 simp![oC,x0,tk,cw]
end
end MI
section
set_option maxHeartbeats 4000000
namespace K36
open L2 MI
open M hiding dW gP sO mC af aH az cP eU fP fF iG Ho lh sQ ai ac bj fR cQ ES cA dB cn bo fg ao aU aB bn cR bN ag aY ah bi ge ay cu ls bV dU bU cZ hX lr nH jf gb fZ dC eO dI df hZ je
@[inline]def fS(i:Nat):He:=PySem.Challenge.pw_manyreaders_k36_a_rule_and_itself.main.body.getD i (.Pass ⟨0,0,0,0⟩)
abbrev dc:He:=fS 49
abbrev gI:He:=fS 51
abbrev fC:He:=fS 50
abbrev fB:He:=fS 52
abbrev fA:He:=fS 53
abbrev fD:He:=fS 54
abbrev eI:He:=fS 56
abbrev cm:He:=fS 55
abbrev mn:He:=fS 2
abbrev dF:He:=fS 3
abbrev ip:He:=fS 6
abbrev jI:He:=fS 25
abbrev gG:He:=fS 12
abbrev jH:He:=fS 10
abbrev fu:He:=fS 13
abbrev ir:He:=fS 11
abbrev jG:He:=fS 15
abbrev ft:He:=fS 4
abbrev jF:He:=fS 17
abbrev er:He:=fS 16
abbrev iq:He:=fS 14
abbrev db:He:=fS 5
abbrev fv:He:=fS 27
abbrev gH:He:=fS 28
abbrev cJ:He:=fS 35
abbrev jE:He:=fS 34
abbrev eG:He:=fS 29
abbrev dG:He:=fS 30
abbrev eE:He:=fS 31
abbrev gF:He:=fS 33
abbrev eD:He:=fS 32
abbrev pJ:He:=fS 26
abbrev mj:He:=fS 41
abbrev el:He:=fS 40
abbrev pL:He:=fS 39
abbrev dE:He:=fS 47
abbrev eH:He:=fS 46
abbrev gE:He:=fS 42
abbrev pI:He:=fS 45
abbrev fz:He:=fS 57
abbrev eJ:He:=fS 58
abbrev vB:He:=fS 59
def uj:List (bC×D):=[(.inr "rows",.non),(.inr "readers",(.str "read")),(.inr "writers",(.str "write")),(.inr "turns",(.str "write"))]
def dw:D:=(.int 2000)
def du:D:=(.int 2000)
def nz:List (bC×D):=[(.inr "read",(.str "reads")),(.inr "write",(.str "writes"))]
def lj:D:=(.tup [(.str "writes"),(.str "raised")])
def cX:td:=159
structure Txt(w:Gs)(K:QF)(mg:Str->Option bd):Prop where
 q0:bB K mg "_law_cell_at" dc
 q1:bB K mg "_law_far" gI
 q2:bB K mg "_law_left" fC
 q3:bB K mg "_law_pick" fB
 q4:bB K mg "_law_rule" fA
 q5:bB K mg "_law_deed" fD
 q6:bB K mg "_law_deeds" eI
 q7:bB K mg "_law_same" cm
 q8:bB K mg "empty" mn
 q9:bB K mg "guests_with" dF
 qa:bB K mg "waiting" ip
 qb:bB K mg "can_do" jI
 qc:bB K mg "foremost" gG
 qd:bB K mg "can_go" jH
 qe:bB K mg "next_past" fu
 qf:bB K mg "next_in" ir
 qg:bB K mg "coming" jG
 qh:bB K mg "with_word" ft
 qi:bB K mg "let_in" jF
 qj:bB K mg "brought_by" er
 qk:bB K mg "settled" iq
 ql:bB K mg "without_wait" db
 qm:bB K mg "bring_ask" fv
 qn:bB K mg "bring_up" gH
 qo:bB K mg "settled_behind" cJ
 qp:bB K mg "turned" jE
 qq:bB K mg "bring_down" eG
 qr:bB K mg "bring_leave" dG
 qs:bB K mg "bring_stop" eE
 qt:bB K mg "one_less" gF
 qu:bB K mg "bring_tick" eD
 qv:bB K mg "done" pJ
 qw:bB K mg "moves" mj
 qx:bB K mg "first_ways" el
 qy:bB K mg "book" pL
 qz:bB K mg "pair_behind" dE
 qA:bB K mg "both_moves" eH
 qB:bB K mg "row_back" gE
 qC:bB K mg "held" pI
 qD:bB K mg "_law_told" fz
 qE:bB K mg "_law_crowd" eJ
 qF:bB K mg "law" vB
 qG:mg "all" = Y
 qH:mg "bool" = Y
 qI:mg "dict" = Y
 qJ:mg "enumerate" = Y
 qK:mg "int" = Y
 qL:mg "isinstance" = Y
 qM:mg "len" = Y
 qN:mg "list" = Y
 qO:mg "max" = Y
 qP:mg "range" = Y
 qQ:mg "str" = Y
 qR:mg "tuple" = Y
 qS:mg "zip" = Y
 qT:FNm w K mg "BRINGS" [("read","bring_ask"),("write","bring_ask"),("up","bring_up"),("down","bring_down"),("leave","bring_leave"),("stop","bring_stop"),("tick","bring_tick")]
 qU:uu w K mg "FAVOURED" uj
 qV:GC K mg "MOST_PAIRS" dw
 qW:GC K mg "MOST_ROOMS" du
 qX:uu w K mg "WORD_WITHIN" nz
 qY:GC K mg "WRITING_WORDS" lj
 qZ:∀ P base,BJ P w K mg base "TooMany" cX ""
 z0:BM K mg "GuestError" cX
 z1:ClsOk K mg "NoDeed" cX false
 z2:ClsOk K mg "NoLine" cX false
 z3:ClsOk K mg "NoText" cX false
 z4:ClsOk K mg "TooMany" cX true
 z5:ClsOk K mg "ValueError" cX true
section
local macro_rules|`(tactic|symm)=>`(tactic|(intro _ _ _ _ _ _;repeat (first|exact jB rfl|(refine cE ?_;intro _))))
variable{P:vx}{w:Gs}{K:QF}{mg:Str->Option bd}{base:Jq}
def eh:List Str:=["_law_script","_law_k"]
def lM:List (Str×GI):=[("len",.blt)]
def dZ:=aT eh (iu (jo eh dc lM []) (aD dc)) 2
theorem qL:aN eh ["_law_script","_law_k"] (ar dc):=by ac_rfl
theorem qO(T:Txt w K mg):Fn P w K mg base 1 "_law_cell_at" 2 dZ:=
 bp (gs:=lM) T.q0 qL (by symm) ⟨T.qM,trivial⟩
def iW:List Str:=["_law_far_here","_law_k"]
def tJ:List (Str×GI):=[("range",.blt)]
def iP:=aT iW (iu (jo iW gI tJ []) (aD gI)) 0
theorem zB:aN iW [] (ar gI):=by ac_rfl
theorem zS(T:Txt w K mg):Fn P w K mg base 1 "_law_far" 0 iP:=
 bp (gs:=tJ) T.q1 zB (by symm) ⟨T.qP,trivial⟩
def gX:List Str:=["_law_script","_law_k","_law_cell","_law_seed"]
def qE:List (Str×GI):=[("_law_cell_at",.fn 2 dZ),("max",.blt),("_law_far",.fn 0 iP),("len",.blt)]
def dY:=aT gX (iu (jo gX fC qE [230]) (aD fC)) 2
theorem wX:aN gX ["_law_script","_law_k"] (ar fC):=by ac_rfl
theorem xx(T:Txt w K mg):Fn P w K mg base 2 "_law_left" 2 dY:=
 bp (gs:=qE) T.q2 wX (by symm) ⟨(qO T).up,T.qO,(zS T).up,T.qM,trivial⟩
def jq:List Str:=["_law_left_here","_law_many","_law_digit"]
def qD:List (Str×GI):=[]
def aR:=aT jq (iu (jo jq fB qD []) (aD fB)) 2
theorem wW:aN jq ["_law_left_here","_law_many"] (ar fB):=by ac_rfl
theorem fV(T:Txt w K mg):Fn P w K mg base 1 "_law_pick" 2 aR:=
 bp (gs:=qD) T.q3 wW (by symm) trivial
def gW:List Str:=["_law_left_here","_law_word","_law_most","_law_times"]
def qC:List (Str×GI):=[("_law_pick",.fn 2 aR),("int",.blt)]
def fJ:=aT gW (iu (jo gW fA qC []) (aD fA)) 1
theorem wV:aN gW ["_law_left_here"] (ar fA):=by ac_rfl
theorem xu(T:Txt w K mg):Fn P w K mg base 2 "_law_rule" 1 fJ:=
 bp (gs:=qC) T.q4 wV (by symm) ⟨(fV T).up,T.qK,trivial⟩
def gY:List Str:=["_law_left_here","_law_n","_law_guest","_law_way"]
def qF:List (Str×GI):=[("_law_pick",.fn 2 aR)]
def fK:=aT gY (iu (jo gY fD qF []) (aD fD)) 2
theorem wY:aN gY ["_law_left_here","_law_n"] (ar fD):=by ac_rfl
theorem xy(T:Txt w K mg):Fn P w K mg base 2 "_law_deed" 2 fK:=
 bp (gs:=qF) T.q5 wY (by symm) ⟨(fV T).up,trivial⟩
def il:List Str:=["_law_left_here","_law_n","_law_some","_law_word","_law_turn","_law_k","_law_deed_here"]
def ph:List (Str×GI):=[("_law_pick",.fn 2 aR),("range",.blt),("tuple",.blt),("len",.blt),("_law_deed",.fn 2 fK),("int",.blt)]
def dk:=aT il (iu (jo il eI ph [275,100281,700279]) (aD eI)) 2
theorem uK:aN il ["_law_left_here","_law_n"] (ar eI):=by ac_rfl
theorem uT(T:Txt w K mg):Fn P w K mg base 3 "_law_deeds" 2 dk:=
 bp (gs:=ph) T.q6 uK (by symm) ⟨(fV T).up,T.qP,T.qR,T.qM,(xy T).up,T.qK,trivial⟩
def N__law_same:List Str:=["_law_found","_law_due","_law_keys"]
def fH:List (Str×GI):=[("isinstance",.blt),("dict",.blt),("str",.blt),("all",.blt),("list",.blt),("tuple",.blt),("bool",.blt),("int",.blt),("len",.blt),("zip",.blt)]
def fU:=JM N__law_same cm fH [] "_law_same" 2
def dX:=fU 8
theorem xB:N__law_same.Nodup:=by decide +kernel
theorem wU:aN N__law_same ["_law_found","_law_due"] (ar cm):=⟨rfl,rfl,rfl,xB,rfl,by decide +kernel,by decide +kernel⟩
theorem xr(T:Txt w K mg):Fn P w K mg base 9 "_law_same" 2 dX:=
 JL (gs:=fH) (k:=0) T.q7 wU (λ_ _ _ _ _ _=>cE λ_=>cE λ_=>jB rfl) ⟨T.qL,T.qI,T.qQ,T.qG,T.qN,T.qR,T.qH,T.qK,T.qM,T.qS,trivial⟩ 8
def rN:List Str:=["n"]
def FB:List (Str×GI):=[]
def dO:=aT rN (iu (jo rN mn FB []) (aD mn)) 1
theorem JE:aN rN ["n"] (ar mn):=by ac_rfl
theorem zQ(T:Txt w K mg):Fn P w K mg base 1 "empty" 1 dO:=
 bp (gs:=FB) T.q8 JE (by symm) trivial
def eX:List Str:=["room","words"]
def nj:List (Str×GI):=[("tuple",.blt),("enumerate",.blt)]
def bT:=aT eX (iu (jo eX dF nj []) (aD dF)) 2
theorem rX:aN eX ["room","words"] (ar dF):=by ac_rfl
theorem iB(T:Txt w K mg):Fn P w K mg base 1 "guests_with" 2 bT:=
 bp (gs:=nj) T.q9 rX (by symm) ⟨T.qR,T.qJ,trivial⟩
def iw:List Str:=["room","guest","entry"]
def wa:List (Str×GI):=[("guests_with",.fn 2 bT)]
def cy:=aT iw (iu (jo iw ip wa []) (aD ip)) 2
theorem Co:aN iw ["room","guest"] (ar ip):=by ac_rfl
theorem iA(T:Txt w K mg):Fn P w K mg base 2 "waiting" 2 cy:=
 bp (gs:=wa) T.qa Co (by symm) ⟨(iB T).up,trivial⟩
def jW:List Str:=["room","deed","word","guest","within"]
def Bc:List (Str×GI):=[("WRITING_WORDS",.con lj),("waiting",.fn 2 cy)]
def cM:=aT jW (iu (jo jW jI Bc []) (aD jI)) 2
theorem GB:aN jW ["room","deed"] (ar jI):=by ac_rfl
theorem pO(T:Txt w K mg):Fn P w K mg base 3 "can_do" 2 cM:=
 bp (gs:=Bc) T.qb GB (by symm) ⟨T.qY,(iA T).up,trivial⟩
def iU:List Str:=["word","waits","turned","favoured","ranked"]
def tH:List (Str×GI):=[("FAVOURED",.tab uj)]
def kP:=aT iU (iu (jo iU gG tH []) (aD gG)) 2
theorem zy:aN iU ["word","waits"] (ar gG):=by ac_rfl
theorem zP(T:Txt w K mg):Fn P w K mg base 1 "foremost" 2 kP:=
 bp (gs:=tH) T.qc zy (by symm) ⟨T.qU,trivial⟩
def jV:List Str:=["rule","room","guest","want","beside","most"]
def Bb:List (Str×GI):=[("waiting",.fn 2 cy),("all",.blt),("enumerate",.blt),("len",.blt)]
def gf:=aT jV (iu (jo jV jH Bb []) (aD jH)) 3
theorem GA:aN jV ["rule","room","guest"] (ar jH):=by ac_rfl
theorem pN(T:Txt w K mg):Fn P w K mg base 3 "can_go" 3 gf:=
 bp (gs:=Bb) T.qd GA (by symm) ⟨(iA T).up,T.qG,T.qJ,T.qM,trivial⟩
def gT:List Str:=["rule","room","guest","want","mark","left"]
def qz:List (Str×GI):=[("can_go",.fn 3 gf)]
def ji:=aT gT (iu (jo gT fu qz []) (aD fu)) 2
theorem wR:aN gT ["rule","room"] (ar fu):=by ac_rfl
theorem xp(T:Txt w K mg):Fn P w K mg base 4 "next_past" 2 ji:=
 bp (gs:=qz) T.qe wR (by symm) ⟨(pN T).up,trivial⟩
def jU:List Str:=["rule","room","guest"]
def wd:List (Str×GI):=[("foremost",.fn 2 kP),("next_past",.fn 2 ji),("can_go",.fn 3 gf)]
def jN:=aT jU (iu (jo jU ir wd []) (aD ir)) 2
theorem Cq:aN jU ["rule","room"] (ar ir):=by ac_rfl
theorem CH(T:Txt w K mg):Fn P w K mg base 5 "next_in" 2 jN:=
 bp (gs:=wd) T.qf Cq (by symm) ⟨(zP T).up,(xp T).up,(pN T).up,trivial⟩
def lY:List Str:=["rule","room","guest"]
def Ba:List (Str×GI):=[("guests_with",.fn 2 bT),("next_in",.fn 2 jN),("can_go",.fn 3 gf)]
def jO:=aT lY (iu (jo lY jG Ba []) (aD jG)) 2
theorem Gz:aN lY ["rule","room"] (ar jG):=by ac_rfl
theorem GU(T:Txt w K mg):Fn P w K mg base 6 "coming" 2 jO:=
 bp (gs:=Ba) T.qg Gz (by symm) ⟨(iB T).up,(CH T).up,(pN T).up,trivial⟩
def gS:List Str:=["room","guest","word","within","waits"]
def qy:List (Str×GI):=[]
def bD:=aT gS (iu (jo gS ft qy []) (aD ft)) 3
theorem wQ:aN gS ["room","guest","word"] (ar ft):=by ac_rfl
theorem eL(T:Txt w K mg):Fn P w K mg base 1 "with_word" 3 bD:=
 bp (gs:=qy) T.qh wQ (by symm) trivial
def lX:List Str:=["rule","room","guest","within","waits","place","ahead"]
def AZ:List (Str×GI):=[("with_word",.fn 3 bD),("tuple",.blt),("WORD_WITHIN",.tab nz)]
def pj:=aT lX (iu (jo lX jF AZ []) (aD jF)) 3
theorem Gy:aN lX ["rule","room","guest"] (ar jF):=by ac_rfl
theorem GT(T:Txt w K mg):Fn P w K mg base 2 "let_in" 3 pj:=
 bp (gs:=AZ) T.qi Gy (by symm) ⟨(eL T).up,T.qR,T.qX,trivial⟩
def gn:List Str:=["rule","room","event","word","guest"]
def oY:List (Str×GI):=[("let_in",.fn 3 pj),("with_word",.fn 3 bD)]
def gh:=aT gn (iu (jo gn er oY []) (aD er)) 3
theorem uE:aN gn ["rule","room","event"] (ar er):=by ac_rfl
theorem uO(T:Txt w K mg):Fn P w K mg base 3 "brought_by" 3 gh:=
 bp (gs:=oY) T.qj uE (by symm) ⟨(GT T).up,(eL T).up,trivial⟩
def jT:List Str:=["rule","room","events","event"]
def wc:List (Str×GI):=[("coming",.fn 2 jO),("brought_by",.fn 3 gh),("tuple",.blt)]
def di:=aT jT (iu (jo jT iq wc [50]) (aD iq)) 2
theorem Cp:aN jT ["rule","room"] (ar iq):=by ac_rfl
theorem nG(T:Txt w K mg):Fn P w K mg base 7 "settled" 2 di:=
 bp (gs:=wc) T.qk Cp (by symm) ⟨(GU T).up,(uO T).up,T.qR,trivial⟩
def eg:List Str:=["room","guest","within","waits"]
def lL:List (Str×GI):=[("tuple",.blt)]
def cL:=aT eg (iu (jo eg db lL []) (aD db)) 2
theorem qK:aN eg ["room","guest"] (ar db):=by ac_rfl
theorem lb(T:Txt w K mg):Fn P w K mg base 1 "without_wait" 2 cL:=
 bp (gs:=lL) T.ql qK (by symm) ⟨T.qR,trivial⟩
def gU:List Str:=["rule","room","deed","want","guest","left","within","waits","entry","events"]
def qA:List (Str×GI):=[("settled",.fn 2 di),("waiting",.fn 2 cy),("without_wait",.fn 2 cL)]
def fI:=aT gU (iu (jo gU fv qA []) (aD fv)) 3
theorem wS:aN gU ["rule","room","deed"] (ar fv):=by ac_rfl
theorem oF(T:Txt w K mg):Fn P w K mg base 8 "bring_ask" 3 fI:=
 bp (gs:=qA) T.qm wS (by symm) ⟨(nG T).up,(iA T).up,(lb T).up,trivial⟩
def iV:List Str:=["rule","room","deed","guest","events"]
def tI:List (Str×GI):=[("settled",.fn 2 di),("guests_with",.fn 2 bT),("with_word",.fn 3 bD),("waiting",.fn 2 cy)]
def iO:=aT iV (iu (jo iV gH tI []) (aD gH)) 3
theorem zA:aN iV ["rule","room","deed"] (ar gH):=by ac_rfl
theorem zR(T:Txt w K mg):Fn P w K mg base 8 "bring_up" 3 iO:=
 bp (gs:=tI) T.qn zA (by symm) ⟨(nG T).up,(iB T).up,(eL T).up,(iA T).up,trivial⟩
def dj:List Str:=["rule","room","first","events"]
def jL:List (Str×GI):=[("settled",.fn 2 di)]
def bv:=aT dj (iu (jo dj cJ jL []) (aD cJ)) 3
theorem ou:aN dj ["rule","room","first"] (ar cJ):=by ac_rfl
theorem dM(T:Txt w K mg):Fn P w K mg base 8 "settled_behind" 3 bv:=
 bp (gs:=jL) T.qo ou (by symm) ⟨(nG T).up,trivial⟩
def lW:List Str:=["rule","room","guest","within","waits"]
def AY:List (Str×GI):=[("tuple",.blt)]
def iK:=aT lW (iu (jo lW jE AY []) (aD jE)) 3
theorem Gx:aN lW ["rule","room","guest"] (ar jE):=by ac_rfl
theorem vG(T:Txt w K mg):Fn P w K mg base 1 "turned" 3 iK:=
 bp (gs:=AY) T.qp Gx (by symm) ⟨T.qR,trivial⟩
def gv:List Str:=["rule","room","deed","guest"]
def pf:List (Str×GI):=[("settled_behind",.fn 3 bv),("with_word",.fn 3 bD),("turned",.fn 3 iK)]
def gk:=aT gv (iu (jo gv eG pf []) (aD eG)) 3
theorem uI:aN gv ["rule","room","deed"] (ar eG):=by ac_rfl
theorem uR(T:Txt w K mg):Fn P w K mg base 9 "bring_down" 3 gk:=
 bp (gs:=pf) T.qq uI (by symm) ⟨(dM T).up,(eL T).up,(vG T).up,trivial⟩
def eY:List Str:=["rule","room","deed","guest"]
def nk:List (Str×GI):=[("settled_behind",.fn 3 bv),("with_word",.fn 3 bD),("turned",.fn 3 iK)]
def eW:=aT eY (iu (jo eY dG nk []) (aD dG)) 3
theorem rY:aN eY ["rule","room","deed"] (ar dG):=by ac_rfl
theorem sv(T:Txt w K mg):Fn P w K mg base 9 "bring_leave" 3 eW:=
 bp (gs:=nk) T.qr rY (by symm) ⟨(dM T).up,(eL T).up,(vG T).up,trivial⟩
def gu:List Str:=["rule","room","deed","guest","calmer"]
def pd:List (Str×GI):=[("settled_behind",.fn 3 bv),("waiting",.fn 2 cy),("with_word",.fn 3 bD),("without_wait",.fn 2 cL)]
def gj:=aT gu (iu (jo gu eE pd []) (aD eE)) 3
theorem uH:aN gu ["rule","room","deed"] (ar eE):=by ac_rfl
theorem uQ(T:Txt w K mg):Fn P w K mg base 9 "bring_stop" 3 gj:=
 bp (gs:=pd) T.qs uH (by symm) ⟨(dM T).up,(iA T).up,(eL T).up,(lb T).up,trivial⟩
def iT:List Str:=["left"]
def tF:List (Str×GI):=[]
def iN:=aT iT (iu (jo iT gF tF []) (aD gF)) 1
theorem zx:aN iT ["left"] (ar gF):=by ac_rfl
theorem zO(T:Txt w K mg):Fn P w K mg base 1 "one_less" 1 iN:=
 bp (gs:=tF) T.qt zx (by symm) trivial
def gq:List Str:=["rule","room","deed","within","waits","shorter","ended","kept"]
def oZ:List (Str×GI):=[("tuple",.blt),("settled_behind",.fn 3 bv),("one_less",.fn 1 iN)]
def gi:=aT gq (iu (jo gq eD oZ []) (aD eD)) 3
theorem uF:aN gq ["rule","room","deed"] (ar eD):=by ac_rfl
theorem uP(T:Txt w K mg):Fn P w K mg base 9 "bring_tick" 3 gi:=
 bp (gs:=oZ) T.qu uF (by symm) ⟨T.qR,(dM T).up,(zO T).up,trivial⟩
def NZ:List (bC×Nat×(List D->aa->Option (D×aa))):=[(.inr "read",3,fI),(.inr "write",3,fI),(.inr "up",3,iO),(.inr "down",3,gk),(.inr "leave",3,eW),(.inr "stop",3,gj),(.inr "tick",3,gi)]
def uv:List Str:=["rule","room","deed","bring"]
def LU:List (Str×GI):=[("BRINGS",.ftab NZ)]
def jx:=aT uv (iu (jo uv pJ LU []) (aD pJ)) 3
theorem OM:aN uv ["rule","room","deed"] (ar pJ):=by ac_rfl
theorem EC(T:Txt w K mg):Fn P w K mg base 10 "done" 3 jx:=
 bp (gs:=LU) T.qv OM (by symm) ⟨Qx T.qT ⟨rfl,(oF T).up,rfl,(oF T).up,rfl,(zR T).up,rfl,(uR T).up,rfl,(sv T).up,rfl,(uQ T).up,rfl,(uP T).up,trivial⟩,trivial⟩
def rM:List Str:=["rule","room","deeds","told","deed","behind","events"]
def FA:List (Str×GI):=[("can_do",.fn 2 cM),("done",.fn 3 jx)]
def kO:=aT rM (iu (jo rM mj FA [176]) (aD mj)) 3
theorem JD:aN rM ["rule","room","deeds"] (ar mj):=by ac_rfl
theorem Kr(T:Txt w K mg):Fn P w K mg base 11 "moves" 3 kO:=
 bp (gs:=FA) T.qw JD (by symm) ⟨(pO T).up,(EC T).up,trivial⟩
def ig:List Str:=["rule","n","deeds","start","ways","rooms","at","room","deed","behind","events"]
def ym:List (Str×GI):=[("empty",.fn 1 dO),("len",.blt),("moves",.fn 3 kO),("MOST_ROOMS",.con du)]
theorem uD:aN ig ["rule","n","deeds"] (ar el):=by ac_rfl
def ng:List (Str×GI):=("TooMany",.rse cX "")::ym
def cV:=nB ig (HZ cX "" (RF ig el ng [163,130162,996000,998000]) (aD el)) 3
theorem sr(T:Txt w K mg):FnY P w K mg base 12 "first_ways" 3 cV cX "":=
 Ce T.qx uD (λ_ _ _ _ _ _=>cE λ_=>cE λ_=>cE λ_=>jB rfl) (GKs.mem (gs:=ng) ⟨T.qZ P base,(zQ T).up,T.qM,(Kr T).up,T.qW,trivial⟩)
def yY:List Str:=["rule","n","deeds"]
def Vt:List (Str×GI):=[("tuple",.blt),("first_ways",.thr 3 cV cX "")]
theorem ON:aN yY ["rule","n","deeds"] (ar pL):=by ac_rfl
def Fz:List (Str×GI):=Vt
def kN:=nB yY (HZ cX "" (RF yY pL Fz []) (aD pL)) 3
theorem Kq(T:Txt w K mg):FnY P w K mg base 13 "book" 3 kN cX "":=
 Ce T.qy ON (λ_ _ _ _ _ _=>cE λ_=>cE λ_=>cE λ_=>jB rfl) (GKs.mem (gs:=Fz) ⟨T.qR,(sr T).up,trivial⟩)
def gM:List Str:=["one","other","pair","deed","first","second","behind","events","other_behind","other_events"]
def nh:List (Str×GI):=[("done",.fn 3 jx),("can_do",.fn 2 cM)]
def cW:=aT gM (iu (jo gM dE nh []) (aD dE)) 4
theorem rW:aN gM ["one","other","pair","deed"] (ar dE):=by ac_rfl
theorem su(T:Txt w K mg):Fn P w K mg base 11 "pair_behind" 4 cW:=
 bp (gs:=nh) T.qz rW (by symm) ⟨(EC T).up,(pO T).up,trivial⟩
def ik:List Str:=["one","other","pair","deeds","first","second","able"]
def pg:List (Str×GI):=[("pair_behind",.fn 4 cW),("can_do",.fn 2 cM)]
def cU:=aT ik (iu (jo ik eH pg []) (aD eH)) 4
theorem uJ:aN ik ["one","other","pair","deeds"] (ar eH):=by ac_rfl
theorem uS(T:Txt w K mg):Fn P w K mg base 12 "both_moves" 4 cU:=
 bp (gs:=pg) T.qA uJ (by symm) ⟨(su T).up,(pO T).up,trivial⟩
def kZ:List Str:=["ways","room","row","deed"]
def tE:List (Str×GI):=[("tuple",.blt)]
def iL:=aT kZ (iu (jo kZ gE tE [183,997000]) (aD gE)) 2
theorem zw:aN kZ ["ways","room"] (ar gE):=by ac_rfl
theorem zN(T:Txt w K mg):Fn P w K mg base 1 "row_back" 2 iL:=
 bp (gs:=tE) T.qB zw (by symm) ⟨T.qR,trivial⟩
def yX:List Str:=["one","other","n","deeds","start","ways","pairs","at","pair","deed","behind"]
def Vs:List (Str×GI):=[("empty",.fn 1 dO),("len",.blt),("both_moves",.fn 4 cU),("tuple",.blt),("MOST_PAIRS",.con dw),("row_back",.fn 2 iL)]
theorem OL:aN yX ["one","other","n","deeds"] (ar pI):=by ac_rfl
def Fy:List (Str×GI):=("TooMany",.rse cX "")::Vs
def kM:=nB yX (HZ cX "" (RF yX pI Fy [194,130193,996000,998000]) (aD pI)) 4
theorem Kp(T:Txt w K mg):FnY P w K mg base 13 "held" 4 kM cX "":=
 Ce T.qC OL (λ_ _ _ _ _ _=>cE λ_=>cE λ_=>cE λ_=>cE λ_=>jB rfl) (GKs.mem (gs:=Fy) ⟨T.qZ P base,(zQ T).up,T.qM,(uS T).up,T.qR,T.qV,(zN T).up,trivial⟩)
def jp:List Str:=["_law_word","_law_rule_here","_law_n","_law_deeds_here","_law_caught","_law_told_here","e"]
def qB:List (Str×GI):=[("GuestError",.hnd cX),("NoDeed",.cls cX false),("NoLine",.cls cX false),("NoText",.cls cX false),("TooMany",.cls cX true),("ValueError",.cls cX true),("isinstance",.blt),("int",.blt),("book",.thr 3 kN cX ""),("held",.thr 4 kM cX "")]
def bX:=aT jp (iu (jo jp fz qB []) (aD fz)) 4
theorem wT:aN jp ["_law_word","_law_rule_here","_law_n","_law_deeds_here"] (ar fz):=by ac_rfl
theorem xq(T:Txt w K mg):Fn P w K mg base 14 "_law_told" 4 bX:=
 bp (gs:=qB) T.qD wT (by symm) ⟨T.z0,T.z1,T.z2,T.z3,T.z4,T.z5,T.qL,T.qK,(Kq T).up,(Kp T).up,trivial⟩
def io:List Str:=["_law_left_here","_law_word","_law_some","_law_turn"]
def pi:List (Str×GI):=[("_law_pick",.fn 2 aR),("tuple",.blt)]
def dm:=aT io (iu (jo io eJ pi []) (aD eJ)) 1
theorem uL:aN io ["_law_left_here"] (ar eJ):=by ac_rfl
theorem uU(T:Txt w K mg):Fn P w K mg base 2 "_law_crowd" 1 dm:=
 bp (gs:=pi) T.qE uL (by symm) ⟨(fV T).up,T.qR,trivial⟩
def BL:List Str:=["_law_script","_law_left_here","_law_rule_here","_law_n","_law_deeds_here","_law_rooms","_law_found"]
def SI:List (Str×GI):=[("_law_left",.fn 2 dY),("_law_rule",.fn 1 fJ),("_law_deeds",.fn 2 dk),("isinstance",.blt),("str",.blt),("_law_same",.fn 2 dX),("_law_pick",.fn 2 aR),("_law_told",.fn 4 bX),("_law_crowd",.fn 1 dm),("tuple",.blt)]
def Bm:=aT BL (iu (jo BL vB SI []) (aD vB)) 1
theorem TF:aN BL ["_law_script"] (ar vB):=by ac_rfl
theorem Vr(T:Txt w K mg):GKs P w K mg base 14 SI:=⟨(xx T).up,(xu T).up,(uT T).up,T.qL,T.qQ,(xr T).up,(fV T).up,(xq T).up,(uU T).up,T.qR,trivial⟩
end
theorem WM{l:W.OpenLaw}{K:QF}(X:K.In h)(G:h.Ns Lg mg)(hfa:mg "law" = U (.ref fa))(T:Txt w K mg) :
  ∃ fd:FuncData,(∀ (s:gV) (v:bd),BindsTo s fd ⟨[v],[]⟩ [("_law_script",v)])/\∀ base:Jq,K.In base->base.Ns Lg mg->FnOk l.prog w K mg base Gj 15 fa fd ["_law_script"] (Jy K 1 Bm):=
 UO T.qF hfa TF (λ_ _ _ _ _ _ _=>rfl) λbase=>Vr T
theorem walk{l:W.OpenLaw}{YP:Gs->Jq->Prop}{d:DefRec}{K:Params->QF}(hn:l.most=U 63)(hdf:d.params.defaults=[])(hnm:d.name = "law")
  (hY:∀ (w:Gs) (h:Jq),YP w h->(K w.params).In h) (hlaw:∀ ns:List Int,ns.length<=63->∃ S',Bm [.rol (ns.map .int)] []=U (.bl true,S'))
  (F:∀ (w:Gs) (mg:Str->Option bd) (h:Jq),(K w.params).In h->h.Ns Lg mg->Txt w (K w.params) mg) :
  W.WalkO q loose XP YP l.row.toRowW d [] (λf vs=>PySem.call f vs):=
 L2.Ow (n:=63) (k:=15) (x:="_law_script") (CX:=λ_=>Gj) (sp:=λw=>Jy (K w.params) 1 Bm) hn (by decide) hdf ⟨rfl,by decide,by decide⟩ hY
  (λw mg fa h KX G hmg=>WM KX G (hnm ▸ hmg) (F w mg h KX G)) (λ_ _ a ns hl _ hS=>UM hlaw hl hS) λ_ _ _ _ _ z=>z
end K36
end
section
set_option maxHeartbeats 4000000
namespace K36
open L2 MI
open M hiding dW gP sO mC af aH az cP eU fP fF iG Ho lh sQ ai ac bj fR cQ ES cA dB cn bo fg ao aU aB bn cR bN ag aY ah bi ge ay cu ls bV dU bU cZ hX lr nH jf gb fZ dC eO dI df hZ je
def sM:MS:=
 mx
theorem qR:dZ=aT eh sM 2:=lg rfl
def CZ:MS:=
 Di
theorem Ac:iP=aT iW CZ 0:=lg rfl
def Al:MS:=
 rC dZ iP
theorem xK:dY=aT gX Al 2:=lg rfl
def Aj:MS:=
 rB
theorem xJ:aR=aT jq Aj 2:=lg rfl
def Ai:MS:=
 yb aR
theorem xI:fJ=aT gW Ai 1:=lg rfl
def Am:MS:=
 oS aR
theorem xL:fK=aT gY Am 2:=lg rfl
def ku:MS:=
 aB (ay (cQ ai) 'b') (aB (dC (bj (ac (!"read") (ac (!"write") (ac (!"up") (ac (!"down") (ac (!"leave") (ac (!"stop") ai))))))) 'c' (cR (cZ jm '2' (ac (bV (cu (ac '1' ai)) '`' bU (aH bF (bj (ac '1' (ac '0' ai))) (aH cN (bj (ac (mC .non) ai)) (bo (aI jP) (ac (aH BV '1' (bj (ac (!"read") (ac (!"write") ai)))) ai)))) [Y,U 3]) ai)))) (aB (ay (ao 2 aR (ac '0' (ac (bo (aI eQ) (ac '2' ai)) ai))) 'd') (aB (ay (hZ (cn '2' (dB '4') cA) (cn '2' cA (dB '4'))) 'b') (aB (bN (az (aH cY (ao 2 aR (ac '0' (ac 2e0 ai))) 0e0)) (ay (df '2' '`' (az (aH FH (ao 2 aR (ac '1' (ac 6e0 ai))) 0e0)) '0' [Y,U 0]) 'b') aU) (aB (ls (cu (ac (aH aW (fR (ac 0e0 (ac 0e0 (ac 2e0 (ac 4e0 ai))))) (ao 2 aR (ac '0' (ac 4e0 ai)))) ai)) 'e' (aB (ay (ao 2 fK (ac '0' (ac '1' ai))) 'f') (bN (az (aH qb '6' '2')) (cR (cZ jl '2' (ac (ao 2 aR (ac '0' (ac (aH bF (bo (aI eQ) (ac '2' ai)) 1e0) ai))) (ac '6' ai)))) aU))) (bn (bo (aI (cD .tup)) (ac '2' ai))))))))
theorem vb:dk=aT il ku 2:=lg rfl
def qr(dX:List D->aa->Option (D×aa)):MS:=
 kG dX
theorem xH(j:Nat):fU (j+1)=aT N__law_same (qr (fU j)) 2:=by
 unfold fU
 show aT N__law_same (iu (jo N__law_same cm (("_law_same",.fn 2 (JM N__law_same cm fH [] "_law_same" 2 j))::fH) []) (aD cm)) 2=_
 generalize JM N__law_same cm fH [] "_law_same" 2 j=F
 rw[show iu (jo N__law_same cm (("_law_same",.fn 2 F)::fH) []) (aD cm)=qr F from rfl]
def EO:MS:=
 bn (bj (ac (aH cN (bj (ac (!"out") ai)) '0') (ac (bj ai) ai)))
theorem KF:dO=aT rN EO 1:=lg rfl
def vd:MS:=
 CC
theorem sJ:bT=aT eX vd 2:=lg rfl
def Hk:MS:=
 lB bT
theorem sH:cy=aT iw Hk 2:=lg rfl
def KN:MS:=
 oC cy
theorem vK:cM=aT jW KN 2:=lg rfl
def CW:MS:=
 kh
theorem Aa:kP=aT iU CW 2:=lg rfl
def KM:MS:=
 fE cy
theorem vJ:gf=aT jV KM 3:=lg rfl
def Ag:MS:=
 kg gf
theorem xE:ji=aT gT Ag 2:=lg rfl
def Hm:MS:=
 nC ji kP gf
theorem CQ:jN=aT jU Hm 2:=lg rfl
def KL:MS:=
 nD bT gf jN
theorem Hi:jO=aT lY KL 2:=lg rfl
def Af:MS:=
 kf
theorem xD:bD=aT gS Af 3:=lg rfl
def KJ:MS:=
 pM bD
theorem Hh:pj=aT lX KJ 3:=lg rfl
def xO:MS:=
 lD bD pj
theorem uV:gh=aT gn xO 3:=lg rfl
def Hl:MS:=
 lC gh jO
theorem CP:di=aT jT Hl 2:=lg rfl
def sL:MS:=
 Cz
theorem qQ:cL=aT eg sL 2:=lg rfl
def Ah:MS:=
 xl di cy cL
theorem xF:fI=aT gU Ah 3:=lg rfl
def CY:MS:=
 xk di cy bT bD
theorem Ab:iO=aT iV CY 3:=lg rfl
def pQ:MS:=
 CB di
theorem oJ:bv=aT dj pQ 3:=lg rfl
def KI:MS:=
 CA
theorem Hg:iK=aT lW KI 3:=lg rfl
def xR:MS:=
 oA bv bD iK Wd.reads.s "down"
theorem uY:gk=aT gv xR 3:=lg rfl
def ve:MS:=
 oA bv bD iK Wd.out.s "out"
theorem sK:eW=aT eY ve 3:=lg rfl
def xQ:MS:=
 ow bv bD cL cy
theorem uX:gj=aT gu xQ 3:=lg rfl
def CV:MS:=
 oz
theorem zZ:iN=aT iT CV 1:=lg rfl
def xP:MS:=
 sh bv iN
theorem uW:gi=aT gq xP 3:=lg rfl
def UD:MS:=
 oB (brL fI iO gk eW gj gi)
theorem PX:jx=aT uv UD 3:=lg rfl
def xN:MS:=
 aB (ay (cQ ai) 'c') (aB (dC '2' 'd' (bN (cP (ao 2 cM (ac '1' (ac '4' ai)))) (aB (ay (ao 3 jx (ac '0' (ac '1' (ac '4' ai)))) (bi 2 (ah 'e' (ah 'f' aY)))) (cR (cZ bZ '3' (ac (bj (ac '4' (ac '5' (ac '6' ai)))) ai)))) aU)) (bn '3'))
theorem KE:kO=aT rM xN 3:=lg rfl
def mW:MY:=
 bQ (gA (ay (ao 1 dO (ac '1' ai)) 'c')) (bQ (gA (ay (dW '3' (mC .non)) 'd')) (bQ (gA (ay (cQ (ac '3' ai)) 'e')) (bQ (gA (ay 0e0 'f')) (bQ (jc (az (aH HS '6' (bo (aI eQ) (ac '5' ai)))) (bQ (gA (ay (aH aW '5' '6') 'g')) (bQ (gA (dC (ao 3 kO (ac '0' (ac '7' (ac '2' ai)))) (bi 3 (ah 'h' (ah 'i' (ah 'j' aY)))) (bN (az (aH eZ '9' '4')) (aB (ay (bj (ac '7' (ac '8' ai))) (gP '4' '9')) (cR (cZ bZ '5' (ac '9' ai)))) aU))) (bQ (pR (az (aH FH (bo (aI eQ) (ac '5' ai)) (mC du))) (jd (!"more rooms than a book holds")) (gA aU)) (gA (ay (aH yz '6' 1e0) 'f')))))) (gA (bn '4'))))))
theorem sD:cV=nB ig mW 3:=meY rfl
def oH:MY:=
 An (KQ (aI tP) (iE 3 cV (ac '0' (ac '1' (ac '2' ai)))))
theorem Kw:kN=nB yY oH 3:=meY rfl
def jt:MS:=
 aB (ay '2' (bi 2 (ah 'd' (ah 'e' aY)))) (aB (bN (fP (fF (cP (ao 2 cM (ac '4' (ac '3' ai))))) (fF (cP (ao 2 cM (ac '5' (ac '3' ai)))))) (bn (mC .non)) aU) (aB (ay (ao 3 jx (ac '0' (ac '4' (ac '3' ai)))) (bi 2 (ah 'f' (ah 'g' aY)))) (aB (ay (ao 3 jx (ac '1' (ac '5' (ac '3' ai)))) (bi 2 (ah 'h' (ah 'i' aY)))) (bn (sQ (az (aH cY '7' '9')) (bj (ac '6' (ac '8' ai))) (mC .non))))))
theorem sI:cW=aT gM jt 4:=lg rfl
def ko:MS:=
 aB (ay '2' (bi 2 (ah 'd' (ah 'e' aY)))) (aB (ay (bV (dU '3') '`' (fP (cP (ao 2 cM (ac '1' (ac '0' ai)))) (cP (ao 2 cM (ac '2' (ac '0' ai))))) '0' [Y,U 4,U 5]) 'f') (bn (bV (dU '6') '`' bU (bj (ac '0' (ac (ao 4 cW (ac '1' (ac '2' (ac '3' (ac '0' ai))))) ai))) [Y,U 0,U 1,U 2])))
theorem uZ:cU=aT ik ko 4:=lg rfl
def EN:MY:=
 bQ (gA (ay (bj (ac (ao 1 dO (ac '2' ai)) (ac (ao 1 dO (ac '2' ai)) ai))) 'd')) (bQ (gA (ay (dW '4' (mC .non)) 'e')) (bQ (gA (ay (cQ (ac '4' ai)) 'f')) (bQ (gA (ay 0e0 'g')) (bQ (jc (az (aH HS '7' (bo (aI eQ) (ac '6' ai)))) (bQ (gA (ay (aH aW '6' '7') 'h')) (bQ (ER (dU (ao 4 cU (ac '0' (ac '1' (ac '8' (ac '3' ai)))))) (bi 2 (ah 'i' (ah 'j' aY))) (bQ (pR (az (aH zd ':' (mC .non))) (gA (bn (bj (ac (!"parts") (ac (aH bF (ao 2 iL (ac '5' (ac '8' ai))) (bj (ac '9' ai))) ai))))) (gA aU)) (bQ (pR (az (aH eZ ':' '5')) (bQ (gA (ay (bj (ac '8' (ac '9' ai))) (gP '5' ':'))) (gA (cR (cZ bZ '6' (ac ':' ai))))) (gA aU)) (pR (az (aH FH (bo (aI eQ) (ac '6' ai)) (mC dw))) (jd (!"more pairs of rooms than are gone on with")) (gA aU))))) (gA (ay (aH yz '7' 1e0) 'g'))))) (gA (bn (bj (ac (!"alike") (ac (bo (aI (cD .tup)) (ac '6' ai)) ai)))))))))
theorem Kv:kM=nB yX EN 4:=meY rfl
def jb:MS:=
 aB (ay (mC .non) 'd') (aB (ay (mC .non) 'e') (aB (oM (Hq (az (aH cY '0' (!"book"))) (iE 3 kN (ac '1' (ac '2' (ac '3' ai)))) (iE 4 kM (ac '1' (ac '1' (ac '2' (ac '3' ai)))))) cX "" 6 4 5) (aB (bN (az (aH zd '4' (mC .non))) (bn '5') aU) (aB (bN (fP (fF (cP (mR cX true '4'))) (cP (mR cX ([false,false,false].any id) '4'))) (bn (!"other")) aU) (bn (aH aW (fR (ac (!"other") (ac (!"many") ai))) (bo (aI jP) (ac (mR cX true '4') ai))))))))
theorem xG:bX=aT jp jb 4:=lg rfl
def kw:MS:=
 aB (ay (aH aW (fR (ac (!"read") (ac (!"write") ai))) (ao 2 aR (ac '0' (ac 2e0 ai)))) 'a') (aB (ay (fR (ac (bj (ac (!"write") (ac 0e0 (ac (mC .non) ai)))) (ac (bj (ac (!"read") (ac 1e0 (ac 9e0 ai)))) (ac (bj (ac '1' (ac 2e0 (ac 9e0 ai)))) (ac (bj (ac (!"write") (ac 3e0 (ac 9e0 ai)))) (ac (bj (ac (!"tick") ai)) (ac (bj (ac (!"leave") (ac 0e0 ai))) (ac (bj (ac (!"leave") (ac 2e0 ai))) ai)))))))) 'b') (aB (ay (ao 2 aR (ac '0' (ac 7e0 ai))) 'c') (bn (bo (aI (cD .tup)) (ac (aH bF (cn '2' (dB '3') cA) (cn '2' cA (dB '3'))) ai)))))
theorem vc:dm=aT io kw 1:=lg rfl
def Sq:MS:=
 aB (ay (ao 2 dY (ac '0' (ac 0e0 ai))) 'a') (aB (ay (ao 1 fJ (ac '1' ai)) 'b') (aB (ay (aH aW (fR (ac 1e0 (ac 2e0 (ac 2e0 (ac 3e0 ai))))) (ao 2 aR (ac '1' (ac 4e0 ai)))) 'c') (aB (ay (ao 2 dk (ac '1' (ac '3' ai))) 'd') (aB (bN (az (aH cY (ao 2 aR (ac '1' (ac 4e0 ai))) 0e0)) (lr 3 4 (ac 4e0 (ac (ao 1 dm (ac '1' ai)) ai))) aU) (aB (lr 5 6 (ac (ao 4 bX (ac (!"book") (ac '2' (ac '3' (ac '4' ai))))) (ac (ao 4 bX (ac (!"held") (ac '2' (ac '3' (ac '4' ai))))) ai))) (aB (bN (cP (fg "str" '5')) (bn (iG (aH cY '5' (!"many")) (aH cY '6' (!"many")))) aU) (bn (ao 2 dX (ac '6' (ac (bj (ac (!"alike") (ac (bo (aI (cD .tup)) (ac (bV (dU '5') '`' bU (bj (ac '0' (ac '0' ai))) [Y]) ai)) ai))) ai))))))))))
theorem UC:Bm=aT BL Sq 1:=lg rfl
end K36
end
section
namespace K36
open MI L2
open M hiding dW gP sO mC af aH az cP eU fP fF iG Ho lh sQ ai ac bj fR cQ ES cA dB cn bo fg ao aU aB bn cR bN ag aY ah bi ge ay cu ls bV dU bU cZ hX lr nH jf gb fZ dC eO dI df hZ je
theorem iz:Eh aR:=λS r m h h0 h1=>by rw[xJ];exact GN rfl h h0 h1
theorem left{ns:List Int}{k:Int}(h0:0<=k)(h1:k<=100000):∃ a b,dY [.rol (ns.map .int),.int k] S=U (.ref S.length,S++[.lst [.int a,.int b,.int 0]])/\0<=a/\0<=b/\b<2147483647:=by
 rw[xK]
 exact Ht (N:=gX) (cellAt:=dZ) (far:=iP) rfl h0 h1 (λS k h=>by rw[qR];exact BB (N:=eh) rfl h) (λS=>by rw[Ac];exact Me (N:=iW) rfl)
theorem rule(P:Pk S r):∃ (rl:Rl) (S':aa),fJ [.ref r] S=U (rl.d,S')/\rl.Ok/\Pk S' r/\Keep r S S':=by
 rw[xI]
 obtain⟨x,a,b,c,S',e,R,P',K⟩:=GD (pick:=aR) iz (N:=gW) rfl P
 obtain⟨w,rfl⟩:=HD R.w
 exact⟨⟨w,a,b,c⟩,S',e,⟨R.a0,R.a5,R.b0,R.b9,R.c0,R.c1⟩,P',K⟩
theorem Qv:Oh bT:=λS R l hl=>by rw[sJ];exact Vq (N:=eX) rfl hl
theorem rO:qm cy:=λS R g hl=>by rw[sH];exact Jd Qv (N:=iw) rfl hl
theorem yO:mK gf:=⟨λS r R g hl=>by rw[vJ];exact Iy rO (N:=jV) rfl hl,λS r ws hl=>by rw[vJ];exact Ix (λS=>by rw[sH];exact Jc Qv (N:=iw) rfl hl) (N:=jV) rfl⟩
theorem Uy(S:aa)(r:Rl)(R:Rm)(hl:R.1.length<=100)(hl2:R.2.length<=100):jN [r.d,aS R] S=U (mP (qq r R),S):=by
 rw[CQ]
 exact CM (λS r R hl=>by rw[xE];exact xA yO (N:=gT) rfl hl) (λS w es hw hl=>by rw[Aa];exact yp (N:=iU) rfl hw hl) yO (N:=jU) rfl hl hl2
theorem NR(S:aa)(r:Rl)(R:Rm)(hl:R.1.length<=100)(hl2:R.2.length<=100):jO [r.d,aS R] S=U (qU (nw r R),S):=by
 rw[Hi];exact DR Qv yO Uy (N:=lY) rfl hl hl2
theorem Gn(S:aa)(R:Rm)(g:Nat)(w:Wd)(h:g<R.1.length)(hl:R.1.length<=100):bD [aS R,.int (g:Int),w.d] S=U (aS (R.1.set g w,R.2),S):=by
 rw[xD];exact wH (N:=gS) rfl h hl
theorem stOk:WR gh jO:=⟨NR,λS r R v R' l h hl s=>by
 rw[uV]
 exact BF Gn (λS r R i e h hi hl=>by rw[Hh];exact Hs Gn (N:=lX) rfl h hi hl) (N:=gn) rfl h hl s⟩
theorem JS{r:Rl}(hb:0<=r.b)(h:ROk R)(hl:R.1.length<=50):di [r.d,aS R] S=U (.tup [aS (aZ r R).1,dL (aZ r R).2],S++[.lst ((aZ r R).2.map Ev.d)]):=by
 rw[CP];exact xj stOk hb (N:=jT) rfl h hl
theorem OQ{d:D}(h:cz 8 d=true):dX [d,d] S=U (.bl true,S):=zC (R:=fU) (N:=N__law_same) rfl xH 8 d h
theorem JB:Gh di:=λS r R hb h hl=>JS hb h hl
theorem woOk:WO cL:=λS R g hl=>by rw[qQ];exact Th (N:=eg) rfl hl
theorem OO:RP bv:=λS r R l hb h hl h4=>by rw[oJ];exact TH JB (N:=dj) rfl hb h hl h4
theorem tuOk:TuOk iK:=λS r R g w hw hl=>by rw[Hg];exact Ts (N:=lW) rfl hw hl
theorem olOk(S:aa)(t:Option Int):iN [cB t] S=U (cB (t.map (· - 1)),S):=by rw[zZ];exact Li (N:=iT) rfl
theorem deOk:DeOk di cy bT bD:=⟨JB,rO,Qv,Gn⟩
theorem brOk:BrOk fI iO gk eW gj gi:=
 ⟨λS r R wr g t hb h hl hw hs=>by rw[xF];exact RN JB rO woOk (N:=gU) rfl hb h hl hw hs,
 λS r R g hb h hl hw=>by rw[Ab];exact Tk deOk (N:=iV) rfl hb h hl hw,
 λS r R g w hb h hl hw ho=>by rw[uY];exact Bt OO Gn tuOk (N:=gv) rfl hb h hl hw ho (.inl rfl) rfl (by decide) rfl,
 λS r R g w hb h hl hw ho=>by rw[sK];exact Bt OO Gn tuOk (N:=eY) rfl hb h hl hw ho (.inr rfl) rfl (by decide) rfl,
 λS r R g w hb h hl hw hc=>by rw[uX];exact Jr OO Gn woOk rO (N:=gu) rfl hb h hl hw hc,
 λS r R hb h hl=>by rw[uW];exact Jh OO olOk (N:=gq) rfl hb h hl⟩
theorem pdone{r:Rl}{dd:Dd}{x:Rm×List Ev}(hb:0<=r.b)(h:ROk R)(hl:R.1.length<=50)(hd:dd.Ok R.1.length)(hx:gQ r R dd=U x):∃ T,jx [r.d,aS R,dd.d] S=U (iy x,S++T):=by
 rw[PX];exact GQ brOk (N:=uv) rfl hb h hl hd hx
theorem WB{R:Rm}{dd:Dd}(hl:R.1.length<=100)(hd:dd.Ok R.1.length)(ht:dd≠.tick):cM [aS R,dd.d] S=U (.bl (dD R dd),S):=by
 rw[vK];exact Iz rO (N:=jW) rfl hl hd ht
theorem ub{R:Rm}{dd:Dd}(hd:dd.Ok R.1.length)(hc:dD R dd=true):∃ x,gQ r R dd=U x:=by
 unfold gQ
 rw[if_neg (by rw[hc];decide)]
 cases dd with
 | ask wr g t=>exact⟨_,rfl⟩
 | tick=>exact⟨_,rfl⟩
 | act k g=>
  dsimp only
  split
  ·exact⟨_,rfl⟩
  ·rw[Xl (show g<R.1.length from hd)];exact⟨_,rfl⟩
theorem WT{q:Nat}(P:Pk S r)(h:q≠r):Pk (S.set q c) r:=by
 obtain⟨a,b,d,e,z⟩:=P
 exact⟨a,b,d,by rw[XE h];exact e,z⟩
section
variable{S S':aa}
theorem sU{i:Nat}{x:Cell}(h:S[i]?=U x):i<S.length:=(Xe.mp h).1
end
theorem mulE{n:Nat}(h5:n<=5)(w:Str):cN S (.tup [.str w]) (.int (n:Int))=U (.tup (Si n (.str w))):=by
 rw[FG (by omega) (by omega) (by simp;omega)]
 simp only[YB]
 congr 2
 exact List.flatten_replicate_singleton ..
theorem FM(S:aa)(n:Nat)(h5:n<=5):dO [.int (n:Int)] S=U (aS (aJ n),S):=by
 rw[KF]
 refine Yy (zD (env:=[U (.int (n:Int))]) rfl rfl) ?_
 have k0:∀ S,cK ([],S)=U (.tup [],S):=λS=>bb (by simp)
 have em:D.tup [.tup (Si n (.str "out")),.tup []]=aS (aJ n):=by
  unfold aJ aS js gz;simp[Wd.d,Wd.s]
 simp![EO,dn,mulE h5,k0,em]
theorem WC{R:Rm}{dd:Dd}(hl:R.1.length<=100)(hd:dd.Ok R.1.length):cM [aS R,dd.d] S=U (.bl (dD R dd),S):=by
 by_cases ht:dd=.tick
 ·subst ht;rw[vK];exact DV (N:=jW) rfl
 ·exact WB hl hd ht
theorem deed{n:Nat}(P:Pk S q)(h1:1<=n)(h9:n<=9):∃ (dd:Dd) (S':aa),fK [.ref q,.int (n:Int)] S=U (dd.d,S')/\dd.Ok n/\Pk S' q/\Keep q S S':=by
 rw[xL];exact Ny iz (N:=gY) rfl P h1 h9
noncomputable abbrev Pr:=Rm×Rm
def pD(p:Pr):D:=.tup [aS p.1,aS p.2]
def lfK:Option Int->DK
 | none=>.non
 | some k=>.int k
def enK(e:En):DK:=.tup [.int (e.g:Nat),.str (ci e.wr),.int e.m,lfK e.t]
def wdK(w:Wd):DK:=.str w.s
def zb(R:Rm):DK:=.tup [.tup (R.1.map wdK),.tup (R.2.map enK)]
def pK(p:Pr):DK:=.tup [zb p.1,zb p.2]
theorem rE{α:Type}{f:α->D}{g:α->DK}(h:∀ x,jg (f x)=U (g x)):∀ l:List α,keyDKs (l.map f)=U (l.map g)
 | []=>rfl
 | x::l=>by
  show(jg (f x)).bind _=_
  rw[h x];show(keyDKs (l.map f)).bind _=_;rw[rE h l];rfl
theorem Fg{m:List DK}(h:keyDKs l=U m):jg (.tup l)=U (.tup m):=by
 show(keyDKs l).bind _=_
 rw[h];rfl
theorem Fh{d:D}{k:DK}{m:List DK}(h:jg d=U k)(h2:keyDKs l=U m):keyDKs (d::l)=U (k::m):=by
 show(jg d).bind _=_
 rw[h];show(keyDKs l).bind _=_;rw[h2];rfl
theorem UT(e:En):jg e.d=U (enK e):=by
 obtain⟨g,wr,m,t⟩:=e
 cases t<;>rfl
theorem yJ{α:Type}{g:α->DK}{b:Nat}(h:∀ x,(g x).depth<=b):∀ l:List α,DK.depths (l.map g)<=b
 | []=>Zj _
 | x::l=>Nat.max_le.mpr ⟨h x,yJ h l⟩
theorem Wk(e:En):(enK e).depth<=1:=by
 obtain⟨g,wr,m,t⟩:=e
 cases t<;>exact Xm _
theorem xM{α β:Type}{f:α->β}(h:∀ x y,f x=f y->x=y):∀ {l m:List α},l.map f=m.map f->l=m
 | [],[],_=>rfl
 | [],_::_,e=>by cases e
 | _::_,[],e=>by cases e
 | x::l,y::m,e=>by
  rw[Xp,Xp,ZS] at e
  rw[h _ _ e.1,xM h e.2]
theorem Ov(x y:Wd)(h:wdK x=wdK y):x=y:=by
 have h:=DK.str.inj h
 have e:=Wd.eq x y
 rw[h,beq_self_eq_true] at e
 exact XV e.symm
theorem QN(x y:En)(h:enK x=enK y):x=y:=by
 obtain⟨g,wr,m,t⟩:=x
 obtain⟨g',wr',m',t'⟩:=y
 have h:=DK.tup.inj h
 simp only[ZS,and_true] at h
 obtain⟨h1,h2,h3,h4⟩:=h
 have e1:g=g':=by have:=DK.int.inj h1;omega
 have e2:wr=wr':=by
  have:=DK.str.inj h2
  have a:=wI wr
  have b:=wI wr'
  rw[this,b] at a;exact a.symm
 have e3:=DK.int.inj h3
 have e4:t=t':=by
  cases t<;>cases t'<;>first | rfl | (cases h4;done) | (have:=DK.int.inj h4;rw[this])
 rw[e1,e2,e3,e4]
theorem yd(R:Rm):jg (aS R)=U (zb R):=Fg (Fh (Fg (rE (λ_=>rfl) _)) (Fh (Fg (rE UT _)) rfl))
theorem yK(R:Rm):(zb R).depth<=3:=by
 have h1:DK.depths (R.1.map wdK)<=0:=yJ (λw=>Xm (wdK w).depth) _
 have h2:DK.depths (R.2.map enK)<=1:=yJ Wk _
 simp only[zb,DK.depth,DK.depths]
 omega
theorem SX(p:Pr):(pK p).depth<=8:=by
 have h1:=yK p.1
 have h2:=yK p.2
 simp only[pK,DK.depth,DK.depths]
 omega
theorem Jg(p:Pr):tupK (pD p)=U (pK p):=by
 show(jg (pD p)).bind _=_
 rw[show jg (pD p)=U (pK p) from Fg (Fh (yd _) (Fh (yd _) rfl))];exact Xq (SX p)
theorem rj(x y:Rm)(h:zb x=zb y):x=y:=by
 obtain⟨ws,es⟩:=x
 obtain⟨ws',es'⟩:=y
 have h:=DK.tup.inj h
 simp only[ZS,and_true] at h
 have e1:=xM Ov (DK.tup.inj h.1)
 have e2:=xM QN (DK.tup.inj h.2)
 rw[e1,e2]
theorem Uj(x y:Pr)(h:pK x=pK y):x=y:=by
 obtain⟨a,b⟩:=x
 obtain⟨a',b'⟩:=y
 have h:=DK.tup.inj h
 simp only[ZS,and_true] at h
 rw[rj _ _ h.1,rj _ _ h.2]
structure Ky where
 key:Rm->DK
 enc:Rm->D
 tk:∀ R,tupK (enc R)=U (key R)
 dp:∀ R,(key R).depth<=8
 ij:∀ x y,key x=key y->x=y
def Ol(l:List Rm)(R:Rm):Bool:=l.any λx=>decide (zb x=zb R)
def jA(l:List Rm)(R:Rm):List Rm:=if Ol l R=true then l else l++[R]
def mQ(r:Rl)(R:Rm)(d:Dd):Rm:=((gQ r R d).map (·.1)).getD R
def BU(r:Rl)(R:Rm):List Dd->List Rm->List Rm
 | [],l=>l
 | d::ds,l=>BU r R ds (jA l (mQ r R d))
def BO(r:Rl)(R:Rm)(ds:List Dd)(l:List Rm):List Rm:=BU r R (ds.filter (dD R)) l
def pG(r:Rl)(ds:List Dd):Nat->Nat->List Rm->Option (Option (List Rm))
 | 0,_,_=>Y
 | k+1,i,l=>match l[i]? with
  | none=>U (U l)
  | some R=>if 2000<(BO r R ds l).length then U Y else pG r ds k (i+1) (BO r R ds l)
section
variable{r:Rl}{R:Rm}{n:Nat}{l:List Rm}
theorem yT:l.length<=(jA l x).length/\(jA l x).length<=l.length+1:=by unfold jA;split<;>simp
theorem Du:∀ (ds:List Dd) (l:List Rm),l.length<=(BU r R ds l).length
 | [],l=>Xm _
 | d::ds,l=>XN yT.1 (Du ds _)
theorem Tj(ds:List Dd)(l:List Rm):l.length<=(BO r R ds l).length:=Du _ _
def RsOk(n:Nat)(l:List Rm):Prop:=∀ R∈l,ROk R/\R.1.length=n
theorem RsOk.add(h:RsOk n l)(hx:ROk x/\x.1.length=n):RsOk n (jA l x):=by
 unfold jA
 split
 ·exact h
 ·intro R hR
  rcases Xx.mp hR with hR | hR
  ·exact h R hR
  ·rw[XA.mp hR];exact hx
theorem Nq{d:Dd}{x:Rm×List Ev}(h:ROk R/\R.1.length=n)(hx:gQ r R d=U x):ROk x.1/\x.1.1.length=n:=⟨(uc h.1 hx).1,(uc h.1 hx).2.trans h.2⟩
theorem nx_ok{d:Dd}(h:ROk R/\R.1.length=n):ROk (mQ r R d)/\(mQ r R d).1.length=n:=by
 unfold mQ
 cases hx:gQ r R d with
 | none=>exact h
 | some x=>exact Nq h hx
theorem Md:∀ (ds:List Dd) (l:List Rm),ROk R/\R.1.length=n->RsOk n l->RsOk n (BU r R ds l)
 | [],l,_,h=>h
 | d::ds,l,hR,h=>Md ds _ hR (h.add (nx_ok hR))
theorem BY(ds:List Dd)(l:List Rm)(hR:ROk R/\R.1.length=n)(h:RsOk n l):RsOk n (BO r R ds l):=Md _ _ hR h
theorem vm(ds:List Dd):∀ (k i:Nat) (l:List Rm),l.length<=2000->i<=l.length->2001 - i<k->∃ o,pG r ds k i l=U o
 | 0,_,_,_,_,h=>absurd h (Nat.not_lt_zero _)
 | k+1,i,l,hl,hi,hk=>by
  unfold pG
  cases he:l[i]? with
  | none=>exact⟨_,rfl⟩
  | some R=>
   dsimp only
   split
   ·exact⟨_,rfl⟩
   ·have:=(Xe.mp he).1
    have h2:=Tj (r:=r) (R:=R) ds l
    exact vm ds k (i+1) _ (by omega) (by omega) (by omega)
end
structure Cw(K:Ky)(S:aa)(b c:Nat)(l:List Rm):Prop where
 fb:∃ vs:List D,vs.length=l.length/\S[b]?=U (.deep (l.map K.key) vs)
 fc:S[c]?=U (.lst (l.map K.enc))
 bc:b≠c
theorem oa{S T:aa}{i:Nat}{x:Cell}(h:S[i]?=U x):(S++T)[i]?=U x:=by rw[Xv (sU h)];exact h
theorem wl{S:aa}{r:Nat}{y:D}(h:S[r]?=U (.lst xs))(hz:xs.length<1000000):bZ (.ref r) [y] S=U (.non,S.set r (.lst (xs++[y]))):=by
 simp only[bZ,h];exact Xq (XB hz (by decide))
section
variable{K:Ky}{S:aa}{b c:Nat}{l:List Rm}
theorem Cw.app(C:Cw K S b c l)(T:aa):Cw K (S++T) b c l:=let ⟨vs,e,h⟩:=C.fb;⟨⟨vs,e,oa h⟩,oa C.fc,C.bc⟩
theorem BZ:∀ (l:List Rm) (vs:List D),vs.length=l.length->(mL (l.map K.key) vs (K.key R)).isSome=Ol l R
 | [],_,_=>rfl
 | x::l,v::vs,h=>by
  show(if K.key x=K.key R then U v else mL (l.map K.key) vs (K.key R)).isSome=(decide (zb x=zb R)||Ol l R)
  by_cases e:x=R
  ·subst e;rw[Xq rfl,Xs rfl];rfl
  ·rw[if_neg λz=>e (K.ij _ _ z),Xt λz=>e (rj _ _ z),BZ l vs (abn h)];rfl
 | _::_,[],h=>by cases h
theorem Cw.notIn(C:Cw K S b c l)(R:Rm):eZ S (K.enc R) (.ref b)=U (.bl (!Ol l R)):=by
 obtain⟨vs,e,h⟩:=C.fb
 rw[Dv (Bx h λk hk=>by obtain⟨x,_,rfl⟩:=XH.mp hk;exact K.dp x) (K.tk R),BZ l vs e]
theorem Cw.len(C:Cw K S b c l):aI eQ [.ref c] S=U (.int ((l.length:Nat):Int),S):=by rw[tT C.fc,Xn]
theorem Cw.new(C:Cw K S b c l)(y:D)(hs:Ol l R=false)(hl:l.length<=4000):∃ S1 S2,
  (∀ env,Hx (.ref b) y env (K.enc R,S)=U (env,S1))/\bZ (.ref c) [K.enc R] S1=U (.non,S2) /\
  (∀ f ms env,oV f ms env (.ref c,S1)=(ms env S1).bind (hU f (.ref c)))/\Cw K S2 b c (l++[R])/\∀ (i:Nat) (x:Cell),i≠b->i≠c->S[i]?=U x->S2[i]?=U x:=by
 obtain⟨vs,e,h⟩:=C.fb
 have hv:(mL (l.map K.key) vs (K.key R)).isSome=false:=by rw[BZ l vs e,hs]
 have c2:(S.set b (.deep ((l++[R]).map K.key) (vs++[y])))[c]?=U (.lst (l.map K.enc)):=by rw[XE C.bc];exact C.fc
 refine⟨S.set b (.deep ((l++[R]).map K.key) (vs++[y])),(S.set b (.deep ((l++[R]).map K.key) (vs++[y]))).set c (.lst ((l++[R]).map K.enc)),λenv=>?_,?_,λf ms env=>oU c2,⟨⟨vs++[y],by simp[e],?_⟩,?_,C.bc⟩,λi x h1 h2 h3=>by rw[XE (Ne.symm h2),XE (Ne.symm h1)];exact h3⟩
 ·rw[Qg (Bx h λk hk=>by obtain⟨x,_,rfl⟩:=XH.mp hk;exact K.dp x) (K.tk R) (by rw[Xn];omega)]
  unfold sa
  rw[hv,Ya];rfl
 ·rw[wl c2 (by rw[Xn];omega),Ya (f:=K.enc)];rfl
 ·rw[XE (Ne.symm C.bc)];exact XF (sU h)
 ·exact XF (sU c2)
end
def kyB:Ky:=⟨zb,aS,λR=>by
 show(jg (aS R)).bind _=_
 rw[yd];exact Xq (XN (yK R) (by decide)),λR=>XN (yK R) (by decide),rj⟩
def IR:Ky:=⟨λR=>pK (R,R),λR=>pD (R,R),λR=>Jg _,λR=>SX _,λx y h=>(Prod.mk.inj (Uj _ _ h)).1⟩
section
variable{α:Type}{enc:α->D}{p:α->Bool}{f:α->D}{t:MT}{e:ME}{rest:aE}
theorem NO:∀ (xs:List α) (a:Option D) (S:aa),(∀ S,∀ x∈xs,∃ T,t (U (enc x)::rest) S=U (p x,S++T))->(∀ S,∀ x∈xs,p x=true->∃ T,e (U (enc x)::rest) S=U (f x,S++T))->∃ T,dg '`' t e (xs.map enc) (a::rest) S=U ((xs.filter p).map f,S++T)
 | [],a,S,_,_=>⟨[],by simp⟩
 | x::r,a,S,h,h2=>by
  obtain⟨T1,e1⟩:=h S x (by simp)
  rw[Xp,fG,aM,ob,eR,tj,e1,ob]
  cases hp:p x with
  | true=>
   obtain⟨T2,e2⟩:=h2 (S++T1) x (by simp) hp
   obtain⟨T3,ih⟩:=NO r (U (enc x)) ((S++T1)++T2) (λS y hy=>h S y (Xf _ hy)) λS y hy=>h2 S y (Xf _ hy)
   exact⟨T1++(T2++T3),by rw[tf,e2,ob,sZ,ih,ob,sY,YU hp,Xp,XU,XU]⟩
  | false=>
   obtain⟨T3,ih⟩:=NO r (U (enc x)) (S++T1) (λS y hy=>h S y (Xf _ hy)) λS y hy=>h2 S y (Xf _ hy)
   exact⟨T1++T3,by rw[yi,ih,YV (by simp[hp]),XU]⟩
theorem UU{a:Option D}{xs:List α}{S:aa}(hc:pB cap env=a::rest)(hl:xs.length<=5000)(h:∀ S,∀ x∈xs,∃ T,t (U (enc x)::rest) S=U (p x,S++T))(h2:∀ S,∀ x∈xs,p x=true->∃ T,e (U (enc x)::rest) S=U (f x,S++T)) :
  ∃ T,lI '`' t e cap env (xs.map enc,S)=U (.lst ((xs.filter p).map f),S++T):=by
 obtain⟨T,e1⟩:=NO xs a S h h2
 exact⟨T,by rw[iI (by rw[Xn];exact hl),hc,e1,ob,jK]⟩
end
section
variable{S:aa}{r:Rl}{n:Nat}{R:Rm}{d:Dd}
theorem PL{x:Rm×List Ev}(h:gQ r R d=U x):mQ r R d=x.1:=by unfold mQ;rw[h];rfl
def IT(r:Rl)(R:Rm)(d:Dd):List Ev:=((gQ r R d).map (·.2)).getD []
theorem QI{x:Rm×List Ev}(h:gQ r R d=U x):IT r R d=x.2:=by unfold IT;rw[h];rfl
theorem pdR(hb:0<=r.b)(h:ROk R/\R.1.length=n)(h5:n<=5)(hd:d.Ok n)(hc:dD R d=true):∃ T,jx [r.d,aS R,d.d] S=U (.tup [aS (mQ r R d),dL (IT r R d)],S++T):=by
 have hd':d.Ok R.1.length:=by rw[h.2];exact hd
 obtain⟨x,hx⟩:=ub (r:=r) hd' hc
 obtain⟨T,e⟩:=pdone (S:=S) hb h.1 (by omega) hd' hx
 exact⟨T,by rw[e,PL hx,QI hx];rfl⟩
theorem pairR(hb:0<=r.b)(h:ROk R/\R.1.length=n)(h5:n<=5)(hd:d.Ok n)(hc:dD R d=true):∃ T,cW [r.d,r.d,pD (R,R),d.d] S=U (pD (mQ r R d,mQ r R d),S++T):=by
 have c1:=WC (S:=S) (R:=R) (by omega) (show d.Ok R.1.length by rw[h.2];exact hd)
 rw[hc] at c1
 have pt:pD (R,R)=.tup [aS R,aS R]:=rfl
 have hh:cW [r.d,r.d,pD (R,R),d.d] S=(jt [U r.d,U r.d,U (pD (R,R)),U d.d,Y,Y,Y,Y,Y,Y] S).bind qN:=by
  rw[sI];exact zD rfl rfl
 obtain⟨T1,e1⟩:=pdR (S:=S) hb h h5 hd hc
 obtain⟨T2,e2⟩:=pdR (S:=S++T1) hb h h5 hd hc
 have eq:cY (S++T1++T2) (dL (IT r R d)) (dL (IT r R d))=U (.bl true):=by
  rw[kS (xz (n:=37)) (xz (n:=37)),lP _ _ (xz (n:=37))]
 refine⟨T1++T2,?_⟩
 rw[<- XU,hh]
 simp![jt,pt,cT,bL,eM,cx,nI,EY,fY,c1,hJ,Fk,Ys,pX,cC,e1,e2,oO,eq,Fo]
 rfl
def mvB(r:Rl)(R:Rm)(d:Dd):D:=.tup [d.d,pD (mQ r R d,mQ r R d)]
theorem WF{ds:List Dd}(hb:0<=r.b)(h:ROk R/\R.1.length=n)(h5:n<=5)(hd:∀ d∈ds,d.Ok n)(hn:ds.length<=100):∃ T,cU [r.d,r.d,pD (R,R),.tup (ds.map Dd.d)] S=U (.lst ((ds.filter (dD R)).map (mvB r R)),S++T):=by
 have hh:cU [r.d,r.d,pD (R,R),.tup (ds.map Dd.d)] S=(ko [U r.d,U r.d,U (pD (R,R)),U (.tup (ds.map Dd.d)),Y,Y,Y] S).bind qN:=by
  rw[uZ];exact zD rfl rfl
 have q1:=jv (S:=S) (t:=fP (cP (ao 2 cM (ac '1' (ac '0' ai)))) (cP (ao 2 cM (ac '2' (ac '0' ai))))) (e:=af 0) (cap:=[Y,U 4,U 5]) (env:=[U r.d,U r.d,U (pD (R,R)),U (.tup (ds.map Dd.d)),U (aS R),U (aS R),Y]) (rest:=[U (aS R),U (aS R)]) (a:=Y) (enc:=Dd.d) (p:=dD R) (f:=Dd.d) (xs:=ds) rfl (by omega) (λd hd'=>by
  have c1:=WC (S:=S) (R:=R) (by omega) (show d.Ok R.1.length by rw[h.2];exact hd d hd')
  simp![nI,fY,c1,hJ]
  cases hq:dD R d with
  | true=>rfl
  | false=>rw[hq] at c1;simp![pX,fY,c1,hJ]) (λd _ _=>by simp)
 generalize hab:ds.filter (dD R)=ab at q1
 have hab':∀ d∈ab,d.Ok n/\dD R d=true:=λd hd'=>by rw[<- hab] at hd';exact⟨hd d (Yh.mp hd').1,(Yh.mp hd').2⟩
 have hal:ab.length<=100:=by rw[<- hab];exact XN (YI _ _) hn
 obtain⟨T,q2⟩:=UU (S:=S) (t:=bU) (e:=bj (ac '0' (ac (ao 4 cW (ac '1' (ac '2' (ac '3' (ac '0' ai))))) ai))) (cap:=[Y,U 0,U 1,U 2]) (env:=[U r.d,U r.d,U (pD (R,R)),U (.tup (ds.map Dd.d)),U (aS R),U (aS R),U (.lst (ab.map Dd.d))]) (rest:=[U r.d,U r.d,U (pD (R,R))]) (a:=Y) (enc:=Dd.d) (p:=λ_=>true) (f:=mvB r R) (xs:=ab) rfl (by omega) (λS d _=>⟨[],by rw[XW];exact mq⟩) (λS d hd' _=>by
  obtain⟨T,e⟩:=pairR (S:=S) hb h h5 (hab' d hd').1 (hab' d hd').2
  exact⟨T,by simp![tm,e];rfl⟩)
 rw[YT.mpr λ_ _=>rfl] at q2
 have pt:pD (R,R)=.tup [aS R,aS R]:=rfl
 have it:AS (.tup (ds.map Dd.d),S)=U (ds.map Dd.d,S):=rfl
 have g2:bi 2 (ah 'd' (ah 'e' aY)) (pD (R,R)) [U r.d,U r.d,U (pD (R,R)),U (.tup (ds.map Dd.d)),Y,Y,Y] S=U ([U r.d,U r.d,U (pD (R,R)),U (.tup (ds.map Dd.d)),U (aS R),U (aS R),Y],S):=by
  rw[pt];simp only[cT,bL,aM,ob,eM,cx,eR,fj]
 refine⟨T,?_⟩
 rw[hh]
 simp![ko,g2,dN,gZ,it,q1,yg,q2]
end
theorem cF{a:MY}(h:a env S=U (.ok (.nx env' S'))):bQ a b env S=b env' S':=by unfold bQ;rw[h];rfl
theorem qZ{a:MY}(h:a env S=U (.xc q S')):bQ a b env S=U (.xc q S'):=by unfold bQ;rw[h];rfl
theorem za{m:MS}{o:mU}(h:m env S=U o):gA m env S=U (.ok o):=by unfold gA;rw[h];rfl
theorem yIf{c:MT}{S':aa}{p:Bool}(h:c env S=U (p,S')):pR c a b env S=if p=true then a env S' else b env S':=by unfold pR;rw[h];rfl
theorem Ej:gA aU env S=U (.ok (.nx env S)):=za bE
theorem IZ{d:D}:jd (mC d) env S=U (.xc Y S):=by unfold jd;rw[bq];rfl
theorem Ou{g:MG}{b:MY}{d:D}{ds:List D}{e1:aE}{S1:aa}(h:g d env S=U (e1,S1))(h2:b e1 S1=U (.ok (.nx e2 S2))):ky g b (d::ds) env S=ky g b ds e2 S2:=by
 show(g d env S).bind _=_;rw[h];show(b e1 S1).bind _=_;rw[h2];rfl
theorem Ot{g:MG}{b:MY}{d:D}{ds:List D}{e1:aE}{S1:aa}(h:g d env S=U (e1,S1))(h2:b e1 S1=U (.xc q S2)):ky g b (d::ds) env S=U (.xc q S2):=by
 show(g d env S).bind _=_;rw[h];show(b e1 S1).bind _=_;rw[h2];rfl
theorem RV{t:MT}{k:Nat}{S1:aa}(h:t env S=U (false,S1)):dS t b (k+1) env S=U (.ok (.nx env S1)):=by
 show(t env S).bind _=_;rw[h];rfl
theorem RU{t:MT}{b:MY}{k:Nat}{S1:aa}(h:t env S=U (true,S1))(h2:b env S1=U (.ok (.nx e1 S2))):dS t b (k+1) env S=dS t b k e1 S2:=by
 show(t env S).bind _=_;rw[h];show(b env S1).bind _=_;rw[h2];rfl
theorem RT{t:MT}{b:MY}{k:Nat}{S1:aa}(h:t env S=U (true,S1))(h2:b env S1=U (.xc q S2)):dS t b (k+1) env S=U (.xc q S2):=by
 show(t env S).bind _=_;rw[h];show(b env S1).bind _=_;rw[h2];rfl
theorem wZ{m:MY}{n:Nat}{ds:List D}(hl:ds.length=n)(h:m (bt N ds) S=U (.xc q S')):nB N m n ds S=U (.xc q S'):=by unfold nB;rw[Xq hl,h];rfl
theorem xa{m:MY}{n:Nat}{ds:List D}{d:D}(hl:ds.length=n)(h:m (bt N ds) S=U (.ok (.rt d S'))):nB N m n ds S=U (.val d S'):=by unfold nB;rw[Xq hl,h];rfl
def hyRet:MS:=bn (bj (ac (!"parts") (ac (aH bF (ao 2 iL (ac '5' (ac '8' ai))) (bj (ac '9' ai))) ai)))
def AV:MY:=pR (az (aH eZ ':' '5')) (bQ (gA (ay (bj (ac '8' (ac '9' ai))) (gP '5' ':'))) (gA (cR (cZ bZ '6' (ac ':' ai))))) (gA aU)
def Vo:MY:=pR (az (aH FH (bo (aI eQ) (ac '6' ai)) (mC dw))) (jd (!"more pairs of rooms than are gone on with")) (gA aU)
def Qu:MY:=bQ (pR (az (aH zd ':' (mC .non))) (gA hyRet) (gA aU)) (bQ AV Vo)
def hyG:MG:=bi 2 (ah 'i' (ah 'j' aY))
def hyA:MS:=ay (aH aW '6' '7') 'h'
def hyF:MY:=ER (dU (ao 4 cU (ac '0' (ac '1' (ac '8' (ac '3' ai)))))) hyG Qu
def hyP:MS:=ay (aH yz '7' 1e0) 'g'
def tB:MY:=bQ (gA hyA) (bQ hyF (gA hyP))
def tD:MT:=az (aH HS '7' (bo (aI eQ) (ac '6' ai)))
def hyE:MS:=bn (bj (ac (!"alike") (ac (bo (aI (cD .tup)) (ac '6' ai)) ai)))
theorem hy_eq:EN=bQ (gA (ay (bj (ac (ao 1 dO (ac '2' ai)) (ac (ao 1 dO (ac '2' ai)) ai))) 'd')) (bQ (gA (ay (dW '4' (mC .non)) 'e')) (bQ (gA (ay (cQ (ac '4' ai)) 'f')) (bQ (gA (ay 0e0 'g')) (bQ (jc tD tB) (gA hyE))))):=rfl
def kL(r:Rl)(a c:Nat)(a2 a3 a4 a7 a8 a9 a10:Option D):aE:=[U r.d,U r.d,a2,a3,a4,U (.ref a),U (.ref c),a7,a8,a9,a10]
def Op(m:Nat)(env:aE)(S:aa):BK:=if 2000<m then .xc Y S else .ok (.nx env S)
theorem nu{m:Nat}(h:2000<m):Op m env S=.xc Y S:=Xq h
theorem nv{m:Nat}(h:m<=2000):Op m env S=.ok (.nx env S):=if_neg (by omega)
section
variable{S:aa}{r:Rl}{n a c i:Nat}{l:List Rm}{R x:Rm}{d:Dd}{a2 a3 a4 a7:Option D}
theorem LQ:hyG (mvB r R d) (kL r a c a2 a3 a4 a7 (U (pD (R,R))) a9 a10) S=U (kL r a c a2 a3 a4 a7 (U (pD (R,R))) (U d.d) (U (pD (mQ r R d,mQ r R d))),S):=by
 unfold hyG mvB kL
 simp only[cT,bL,aM,ob,eM,cx,eR,fj]
theorem Fx(C:Cw IR S a c l):Vo (kL r a c a2 a3 a4 a7 a8 a9 a10) S=U (Op l.length (kL r a c a2 a3 a4 a7 a8 a9 a10) S):=by
 have gt:FH S (.int ((l.length:Nat):Int)) dw=U (.bl (decide (2000<l.length))):=by rw[show dw=.int 2000 from rfl,Ml];congr 2;rw[aaA];omega
 have t:(az (aH FH (bo (aI eQ) (ac '6' ai)) (mC dw))) (kL r a c a2 a3 a4 a7 a8 a9 a10) S=U (decide (2000<l.length),S):=by
  simp![kL,cG,cH,C.len,gt]
 unfold Vo
 rw[yIf t]
 by_cases h:2000<l.length
 ·rw[nu h,Xq (Xs h),IZ]
 ·rw[nv (by omega),if_neg (by simp[h]),Ej]
theorem Qt(C:Cw IR S a c l)(hl:l.length<=2000):∃ S',Qu (kL r a c a2 a3 a4 a7 (U (pD (R,R))) (U d.d) (U (pD (x,x)))) S=U (Op (jA l x).length (kL r a c a2 a3 a4 a7 (U (pD (R,R))) (U d.d) (U (pD (x,x)))) S')/\Cw IR S' a c (jA l x):=by
 have z:mY (pD (x,x)) .non=false:=rfl
 have t0:(az (aH zd ':' (mC .non))) (kL r a c a2 a3 a4 a7 (U (pD (R,R))) (U d.d) (U (pD (x,x)))) S=U (false,S):=by
  simp![kL,jk,z]
 have ni:eZ S (pD (x,x)) (.ref a)=U (.bl (!Ol l x)):=C.notIn x
 have t1:(az (aH eZ ':' '5')) (kL r a c a2 a3 a4 a7 (U (pD (R,R))) (U d.d) (U (pD (x,x)))) S=U (!Ol l x,S):=by
  simp![kL,ni]
 unfold Qu
 rw[cF (show pR _ _ _ _ S=U (.ok (.nx (kL r a c a2 a3 a4 a7 (U (pD (R,R))) (U d.d) (U (pD (x,x)))) S)) by rw[yIf t0];exact Ej)]
 unfold jA
 cases hs:Ol l x with
 | true=>
  rw[hs] at t1
  rw[Xq rfl]
  refine⟨S,?_,C⟩
  rw[cF (show AV _ S=U (.ok (.nx (kL r a c a2 a3 a4 a7 (U (pD (R,R))) (U d.d) (U (pD (x,x)))) S)) by unfold AV;rw[yIf t1];exact Ej)]
  exact Fx C
 | false=>
  rw[hs] at t1
  rw[if_neg (by decide)]
  obtain⟨S1,S2,g1,g2,g3,C2,_⟩:=C.new (.tup [pD (R,R),d.d]) hs (by omega)
  refine⟨S2,?_,C2⟩
  have g1':∀ env,Hx (.ref a) (.tup [pD (R,R),d.d]) env (pD (x,x),S)=U (env,S1):=g1
  have g2':bZ (.ref c) [pD (x,x)] S1=U (.non,S2):=g2
  have s1:(ay (bj (ac '8' (ac '9' ai))) (gP '5' ':')) (kL r a c a2 a3 a4 a7 (U (pD (R,R))) (U d.d) (U (pD (x,x)))) S=U (.nx (kL r a c a2 a3 a4 a7 (U (pD (R,R))) (U d.d) (U (pD (x,x)))) S1):=by
   simp![kL,FD,Lp,g1']
  have s2:(cR (cZ bZ '6' (ac ':' ai))) (kL r a c a2 a3 a4 a7 (U (pD (R,R))) (U d.d) (U (pD (x,x)))) S1=U (.nx (kL r a c a2 a3 a4 a7 (U (pD (R,R))) (U d.d) (U (pD (x,x)))) S2):=by
   simp![kL,mr,kA,g3,iH,g2',mz]
  rw[cF (show AV _ S=U (.ok (.nx (kL r a c a2 a3 a4 a7 (U (pD (R,R))) (U d.d) (U (pD (x,x)))) S2)) by unfold AV;rw[yIf t1,Xq (by rfl),cF (za s1)];exact za s2)]
  exact Fx C2
theorem SH:∀ (ds:List Dd) (l:List Rm) (S:aa) (a9 a10:Option D),Cw IR S a c l->l.length<=2000 ->
  ∃ S' b9 b10,ky hyG Qu (ds.map (mvB r R)) (kL r a c a2 a3 a4 a7 (U (pD (R,R))) a9 a10) S=U (Op (BU r R ds l).length (kL r a c a2 a3 a4 a7 (U (pD (R,R))) b9 b10) S')/\((BU r R ds l).length<=2000->Cw IR S' a c (BU r R ds l))
 | [],l,S,a9,a10,C,hl=>⟨S,a9,a10,by rw[show BU r R [] l=l from rfl,nv hl];rfl,λ_=>C⟩
 | d::ds,l,S,a9,a10,C,hl=>by
  obtain⟨S1,q,C1⟩:=Qt (r:=r) (R:=R) (x:=mQ r R d) (d:=d) (a2:=a2) (a3:=a3) (a4:=a4) (a7:=a7) C hl
  rw[Xp]
  show ∃ S' b9 b10,_=U (Op (BU r R ds (jA l (mQ r R d))).length _ _)/\((BU r R ds (jA l (mQ r R d))).length<=2000->Cw IR S' a c (BU r R ds (jA l (mQ r R d))))
  by_cases h:2000<(jA l (mQ r R d)).length
  ·have:=Du (r:=r) (R:=R) ds (jA l (mQ r R d))
   rw[nu h] at q
   exact⟨S1,Y,Y,by rw[Ot LQ q,nu (by omega)],λz=>by omega⟩
  ·rw[nv (by omega)] at q
   obtain⟨S',b9,b10,q2,k⟩:=SH ds (jA l (mQ r R d)) S1 (U d.d) (U (pD (mQ r R d,mQ r R d))) C1 (by omega)
   exact⟨S',b9,b10,by rw[Ou LQ q];exact q2,k⟩
theorem HG{ds:List Dd}(hb:0<=r.b)(h5:n<=5)(hd:∀ d∈ds,d.Ok n)(hn:ds.length<=100)(C:Cw IR S a c l)(h:RsOk n l)(he:l[i]?=U R)(hl:l.length<=2000) :
  ∃ S' b8 b9 b10,tB (kL r a c a2 (U (.tup (ds.map Dd.d))) a4 (U (.int (i:Int))) a8 a9 a10) S=U (Op (BO r R ds l).length (kL r a c a2 (U (.tup (ds.map Dd.d))) a4 (U (.int ((i+1:Nat):Int))) b8 b9 b10) S')/\((BO r R ds l).length<=2000->Cw IR S' a c (BO r R ds l)):=by
 obtain⟨T,q1⟩:=WF (S:=S) hb (h R (Xz he)) h5 hd hn
 obtain⟨S',b9,b10,q,k⟩:=SH (r:=r) (R:=R) (a2:=a2) (a3:=U (.tup (ds.map Dd.d))) (a4:=a4) (a7:=U (.int (i:Int))) (ds.filter (dD R)) l (S++T) a9 a10 (C.app T) hl
 obtain⟨li,le⟩:=Xe.mp he
 have x1:aW S (.ref c) (.int (i:Int))=U (pD (R,R)):=by
  rw[kR C.fc,uq (by omega) (by rw[Xn];omega)]
  simp[le,IR]
 have s1:hyA (kL r a c a2 (U (.tup (ds.map Dd.d))) a4 (U (.int (i:Int))) a8 a9 a10) S=U (.nx (kL r a c a2 (U (.tup (ds.map Dd.d))) a4 (U (.int (i:Int))) (U (pD (R,R))) a9 a10) S):=by
  simp![hyA,kL,x1]
 have it:(dU (ao 4 cU (ac '0' (ac '1' (ac '8' (ac '3' ai)))))) (kL r a c a2 (U (.tup (ds.map Dd.d))) a4 (U (.int (i:Int))) (U (pD (R,R))) a9 a10) S=U ((ds.filter (dD R)).map (mvB r R),S++T):=by
  simp![kL,gZ,tm,q1,yg]
 have fo:hyF (kL r a c a2 (U (.tup (ds.map Dd.d))) a4 (U (.int (i:Int))) (U (pD (R,R))) a9 a10) S=U (Op (BO r R ds l).length (kL r a c a2 (U (.tup (ds.map Dd.d))) a4 (U (.int (i:Int))) (U (pD (R,R))) b9 b10) S'):=by
  show((dU _) _ S).bind _=_
  rw[it];exact q
 unfold tB
 rw[cF (za s1)]
 by_cases hm:2000<(BO r R ds l).length
 ·rw[nu hm] at fo
  exact⟨S',Y,Y,Y,by rw[qZ fo,nu hm],λz=>by omega⟩
 ·rw[nv (by omega)] at fo
  refine⟨S',U (pD (R,R)),b9,b10,?_,k⟩
  have au:yz S' (.int (i:Int)) (.int 1)=U (.int ((i:Int)+1)):=rfl
  rw[cF fo,nv (by omega)]
  refine za ?_
  simp![hyP,kL,au]
  rfl
def endY(o:Option (List Rm))(env:aE)(S:aa):BK:=match o with
 | none=>.xc Y S
 | some _=>.ok (.nx env S)
theorem LP{ds:List Dd}(hb:0<=r.b)(h5:n<=5)(hd:∀ d∈ds,d.Ok n)(hn:ds.length<=100):∀ (k i:Nat) (l:List Rm) (S:aa) (a8 a9 a10:Option D) (o:Option (List Rm)),Cw IR S a c l->RsOk n l->l.length<=2000->pG r ds k i l=U o ->
  ∃ S' b7 b8 b9 b10,dS tD tB k (kL r a c a2 (U (.tup (ds.map Dd.d))) a4 (U (.int (i:Int))) a8 a9 a10) S=U (endY o (kL r a c a2 (U (.tup (ds.map Dd.d))) a4 b7 b8 b9 b10) S')/\∀ l',o=U l'->Cw IR S' a c l'
 | 0,_,_,_,_,_,_,_,_,_,_,hr=>by cases hr
 | k+1,i,l,S,a8,a9,a10,o,C,h,hl,hr=>by
  have tst:tD (kL r a c a2 (U (.tup (ds.map Dd.d))) a4 (U (.int (i:Int))) a8 a9 a10) S=U (decide (i<l.length),S):=by
   have:HS S (.int (i:Int)) (.int ((l.length:Nat):Int))=U (.bl (decide (i<l.length))):=by rw[SN];congr 2;simp
   simp![tD,kL,cG,cH,C.len,this]
  unfold pG at hr
  cases he:l[i]? with
  | none=>
   rw[he] at hr
   cases hr
   have:¬ i<l.length:=by have:=aaV.mp he;omega
   rw[Xt this] at tst
   exact⟨S,_,a8,a9,a10,by rw[RV tst];rfl,λl' z=>by cases z;exact C⟩
  | some R=>
   rw[he] at hr
   dsimp only at hr
   have li:=(Xe.mp he).1
   rw[Xs li] at tst
   obtain⟨S1,b8,b9,b10,q,k1⟩:=HG (a2:=a2) (a4:=a4) (a8:=a8) (a9:=a9) (a10:=a10) hb h5 hd hn C h he hl
   by_cases hc:2000<(BO r R ds l).length
   ·rw[Xq hc] at hr
    cases hr
    rw[nu hc] at q
    exact⟨S1,Y,Y,Y,Y,by rw[RT tst q];rfl,λl' z=>by cases z⟩
   ·rw[if_neg hc] at hr
    rw[nv (by omega)] at q
    rw[RU tst q]
    exact LP hb h5 hd hn k (i+1) _ S1 b8 b9 b10 o (k1 (by omega)) (BY ds l (h R (Xz he)) h) (by omega) hr
end
def ryH(o:Option (List Rm))(S:aa):RY:=match o with
 | none=>.xc Y S
 | some l=>.val (.tup [.str "alike",.tup (l.map λR=>pD (R,R))]) S
theorem Vp{r:Rl}{n:Nat}{ds:List Dd}{o:Option (List Rm)}(hb:0<=r.b)(h5:n<=5)(hd:∀ d∈ds,d.Ok n)(hn:ds.length<=100)(hr:pG r ds 5000 0 [aJ n]=U o):∃ S',kM [r.d,r.d,.int (n:Int),.tup (ds.map Dd.d)] S=U (ryH o S'):=by
 have pt:D.tup [aS (aJ n),aS (aJ n)]=pD (aJ n,aJ n):=rfl
 have d0:∀ S (y:D),Ly (pD (aJ n,aJ n)) (y,S)=U (.ref S.length,S++[.deep [pK (aJ n,aJ n)] [y]]):=λS y=>Fs (Jg _)
 have C0:Cw IR ((S++[.deep [pK (aJ n,aJ n)] [.non]])++[.lst [pD (aJ n,aJ n)]]) S.length (S++[Cell.deep [pK (aJ n,aJ n)] [.non]]).length [aJ n]:=⟨⟨[.non],rfl,oa dP⟩,dP,by simp⟩
 obtain⟨S',b7,b8,b9,b10,q,k⟩:=LP (r:=r) (a2:=U (.int (n:Int))) (a4:=U (pD (aJ n,aJ n))) hb h5 hd hn 5000 0 [aJ n] _ Y Y Y o C0 (λR hR=>by rw[XA.mp hR];exact⟨mH,by simp[aJ]⟩) (by simp) hr
 refine⟨S',?_⟩
 have s1:(ay (bj (ac (ao 1 dO (ac '2' ai)) (ac (ao 1 dO (ac '2' ai)) ai))) 'd') [U r.d,U r.d,U (.int (n:Int)),U (.tup (ds.map Dd.d)),Y,Y,Y,Y,Y,Y,Y] S=U (.nx [U r.d,U r.d,U (.int (n:Int)),U (.tup (ds.map Dd.d)),U (pD (aJ n,aJ n)),Y,Y,Y,Y,Y,Y] S):=by
  simp![lJ,FM _ _ h5,pt]
 have s2:∀ S,(ay (dW '4' (mC .non)) 'e') [U r.d,U r.d,U (.int (n:Int)),U (.tup (ds.map Dd.d)),U (pD (aJ n,aJ n)),Y,Y,Y,Y,Y,Y] S=U (.nx [U r.d,U r.d,U (.int (n:Int)),U (.tup (ds.map Dd.d)),U (pD (aJ n,aJ n)),U (.ref S.length),Y,Y,Y,Y,Y] (S++[.deep [pK (aJ n,aJ n)] [.non]])):=λS=>by
  simp![AC,Lz,d0]
 have s3:∀ S x,(ay (cQ (ac '4' ai)) 'f') [U r.d,U r.d,U (.int (n:Int)),U (.tup (ds.map Dd.d)),U (pD (aJ n,aJ n)),x,Y,Y,Y,Y,Y] S=U (.nx [U r.d,U r.d,U (.int (n:Int)),U (.tup (ds.map Dd.d)),U (pD (aJ n,aJ n)),x,U (.ref S.length),Y,Y,Y,Y] (S++[.lst [pD (aJ n,aJ n)]])):=λS x=>by
  simp![oN,tz]
 have s4:∀ S x y,(ay 0e0 'g') [U r.d,U r.d,U (.int (n:Int)),U (.tup (ds.map Dd.d)),U (pD (aJ n,aJ n)),x,y,Y,Y,Y,Y] S=U (.nx [U r.d,U r.d,U (.int (n:Int)),U (.tup (ds.map Dd.d)),U (pD (aJ n,aJ n)),x,y,U (.int 0),Y,Y,Y] S):=λS x y=>by
  simp only[bg,bq,ob,bh,aM,eR,fj,bx]
 unfold kL at q
 rw[show((0:Nat):Int)=0 from rfl] at q
 have q':jc tD tB _ _=_:=q
 have run:=(abL (abL hy_eq [U r.d,U r.d,U (.int (n:Int)),U (.tup (ds.map Dd.d)),Y,Y,Y,Y,Y,Y,Y]) S).trans ((cF (za s1)).trans ((cF (za (s2 _))).trans ((cF (za (s3 _ _))).trans (cF (za (s4 _ _ _))))))
 rw[Kv]
 cases o with
 | none=>exact wZ rfl (run.trans (qZ q'))
 | some l=>
  refine xa rfl (run.trans ((cF q').trans ?_))
  have C:=k l rfl
  have sq:aI (cD .tup) [.ref (S++[Cell.deep [pK (aJ n,aJ n)] [.non]]).length] S'=U (.tup (l.map λR=>pD (R,R)),S'):=pZ C.fc
  exact za (show hyE _ S'=U (.rt (.tup [.str "alike",.tup (l.map λR=>pD (R,R))]) S') by simp![hyE,cG,cH,sq])
def Om(r:Rl)(R:Rm)(d:Dd):D:=.tup [d.d,aS (mQ r R d),dL (IT r R d)]
def mbG:MG:=bi 2 (ah 'e' (ah 'f' aY))
def Hj:MS:=bN (cP (ao 2 cM (ac '1' (ac '4' ai)))) (aB (ay (ao 3 jx (ac '0' (ac '1' (ac '4' ai)))) mbG) (cR (cZ bZ '3' (ac (bj (ac '4' (ac '5' (ac '6' ai)))) ai)))) aU
theorem mb_eq:xN=aB (ay (cQ ai) 'c') (aB (dC '2' 'd' Hj) (bn '3')):=rfl
section
variable{S:aa}{r:Rl}{n q:Nat}{R:Rm}{a2:Option D}
def KG(r:Rl)(R:Rm)(q:Nat)(a2 a4 a5 a6:Option D):aE:=[U r.d,U (aS R),a2,U (.ref q),a4,a5,a6]
theorem KH(hb:0<=r.b)(h:ROk R/\R.1.length=n)(h5:n<=5):∀ (ds acc:List Dd) (S:aa) (a4 a5 a6:Option D),(∀ d∈ds,d.Ok n)->S[q]?=U (.lst (acc.map (Om r R)))->acc.length+ds.length<=100 ->
  ∃ S' b4 b5 b6,cq 'd' Hj (ds.map Dd.d) (KG r R q a2 a4 a5 a6) S=U (.nx (KG r R q a2 b4 b5 b6) S')/\S'[q]?=U (.lst ((acc++ds.filter (dD R)).map (Om r R)))/\∀ (i:Nat) (x:Cell),i≠q->S[i]?=U x->S'[i]?=U x
 | [],acc,S,a4,a5,a6,_,hq,_=>⟨S,a4,a5,a6,rfl,by rw[hq];simp,λ_ _ _ z=>z⟩
 | d::ds,acc,S,a4,a5,a6,hd,hq,hl=>by
  have hl':acc.length+(ds.length+1)<=100:=hl
  have c1:=WC (S:=S) (R:=R) (by omega) (show d.Ok R.1.length by rw[h.2];exact hd d Xi)
  have gs:ag 4 d.d (KG r R q a2 a4 a5 a6) S=U (KG r R q a2 (U d.d) a5 a6,S):=by rw[aM];rfl
  rw[Xp,fh,gs,ob,nO]
  cases hc:dD R d with
  | false=>
   rw[hc] at c1
   have b1:Hj (KG r R q a2 (U d.d) a5 a6) S=U (.nx (KG r R q a2 (U d.d) a5 a6) S):=by
    simp![Hj,KG,fY,c1,hJ]
   obtain⟨S',b4,b5,b6,q2,k1,k2⟩:=KH hb h h5 ds acc S (U d.d) a5 a6 (λx hx=>hd x (Xf _ hx)) hq (by omega)
   exact⟨S',b4,b5,b6,by rw[b1,ob,kI,q2],by rw[YV (by simp[hc])];exact k1,k2⟩
  | true=>
   rw[hc] at c1
   obtain⟨T,e⟩:=pdR (S:=S) hb h h5 (hd d Xi) hc
   have hq':(S++T)[q]?=U (.lst (acc.map (Om r R))):=oa hq
   have ap:bZ (.ref q) [.tup [d.d,aS (mQ r R d),dL (IT r R d)]] (S++T)=U (.non,(S++T).set q (.lst ((acc++[d]).map (Om r R)))):=by
    rw[wl hq' (by rw[Xn];omega),Ya];rfl
   have b1:Hj (KG r R q a2 (U d.d) a5 a6) S=U (.nx (KG r R q a2 (U d.d) (U (aS (mQ r R d))) (U (dL (IT r R d)))) ((S++T).set q (.lst ((acc++[d]).map (Om r R))))):=by
    simp![Hj,mbG,KG,fY,c1,hJ,cC,e,cT,bL,eM,cx,mr,kA,oU hq',AX,iH,ap,mz]
   obtain⟨S',b4,b5,b6,q2,k1,k2⟩:=KH hb h h5 ds (acc++[d]) ((S++T).set q (.lst ((acc++[d]).map (Om r R)))) (U d.d) (U (aS (mQ r R d))) (U (dL (IT r R d))) (λx hx=>hd x (Xf _ hx)) (XF (sU hq')) (by simp;omega)
   exact⟨S',b4,b5,b6,by rw[b1,ob,kI,q2],by rw[YU hc];simpa using k1,λi x hi hx=>k2 i x hi (by rw[XE (Ne.symm hi)];exact oa hx)⟩
theorem PV{ds:List Dd}(hb:0<=r.b)(h:ROk R/\R.1.length=n)(h5:n<=5)(hd:∀ d∈ds,d.Ok n)(hn:ds.length<=100):∃ S' q,kO [r.d,aS R,.tup (ds.map Dd.d)] S=U (.ref q,S')/\S'[q]?=U (.lst ((ds.filter (dD R)).map (Om r R)))/\S.length<=q/\∀ (i:Nat) (x:Cell),S[i]?=U x->S'[i]?=U x:=by
 have hh:kO [r.d,aS R,.tup (ds.map Dd.d)] S=(xN [U r.d,U (aS R),U (.tup (ds.map Dd.d)),Y,Y,Y,Y] S).bind qN:=by
  rw[KE];exact zD rfl rfl
 obtain⟨S',b4,b5,b6,e,k1,k2⟩:=KH (q:=S.length) (a2:=U (.tup (ds.map Dd.d))) hb h h5 ds [] (S++[.lst []]) Y Y Y hd (by exact dP) (by simpa using hn)
 refine⟨S',S.length,?_,k1,Xm _,λi x hx=>k2 i x (λz=>by rw[z] at hx;simp at hx) (oa hx)⟩
 unfold KG at e
 rw[hh,mb_eq]
 simp![oN,CU,kD,Fq,e]
end
def BD:MS:=bN (az (aH eZ '9' '4')) (aB (ay (bj (ac '7' (ac '8' ai))) (gP '4' '9')) (cR (cZ bZ '5' (ac '9' ai)))) aU
def byG:MG:=bi 3 (ah 'h' (ah 'i' (ah 'j' aY)))
def WD:MY:=pR (az (aH FH (bo (aI eQ) (ac '5' ai)) (mC du))) (jd (!"more rooms than a book holds")) (gA aU)
def byA:MS:=ay (aH aW '5' '6') 'g'
def byF:MS:=dC (ao 3 kO (ac '0' (ac '7' (ac '2' ai)))) byG BD
def byP:MS:=ay (aH yz '6' 1e0) 'f'
def uk:MY:=bQ (gA byA) (bQ (gA byF) (bQ WD (gA byP)))
def ul:MT:=az (aH HS '6' (bo (aI eQ) (ac '5' ai)))
theorem by_eq:mW=bQ (gA (ay (ao 1 dO (ac '1' ai)) 'c')) (bQ (gA (ay (dW '3' (mC .non)) 'd')) (bQ (gA (ay (cQ (ac '3' ai)) 'e')) (bQ (gA (ay 0e0 'f')) (bQ (jc ul uk) (gA (bn '4')))))):=rfl
def qi(r:Rl)(a c:Nat)(a1 a2 a3 a6 a7 a8 a9 a10:Option D):aE:=[U r.d,a1,a2,a3,U (.ref a),U (.ref c),a6,a7,a8,a9,a10]
section
variable{S:aa}{r:Rl}{n a c i:Nat}{l:List Rm}{R x:Rm}{d:Dd}{a1 a2 a3 a6:Option D}
theorem WE:byG (Om r R d) (qi r a c a1 a2 a3 a6 (U (aS R)) a8 a9 a10) S=U (qi r a c a1 a2 a3 a6 (U (aS R)) (U d.d) (U (aS (mQ r R d))) (U (dL (IT r R d))),S):=by
 unfold byG Om qi
 simp only[FC,bL,aM,ob,eM,cx,eR,fj]
theorem Oa(C:Cw kyB S a c l)(hl:l.length<=3000):∃ S',BD (qi r a c a1 a2 a3 a6 (U (aS R)) (U d.d) (U (aS x)) a10) S=U (.nx (qi r a c a1 a2 a3 a6 (U (aS R)) (U d.d) (U (aS x)) a10) S')/\Cw kyB S' a c (jA l x)/\∀ (i:Nat) (y:Cell),i≠a->i≠c->S[i]?=U y->S'[i]?=U y:=by
 have ni:eZ S (aS x) (.ref a)=U (.bl (!Ol l x)):=C.notIn x
 unfold jA
 cases hs:Ol l x with
 | true=>
  rw[hs] at ni
  rw[Xq rfl]
  exact⟨S,by simp![BD,qi,ni,Ys],C,λ_ _ _ _ z=>z⟩
 | false=>
  rw[hs] at ni
  rw[if_neg (by decide)]
  obtain⟨S1,S2,g1,g2,g3,C2,kk⟩:=C.new (.tup [aS R,d.d]) hs (by omega)
  have g1':∀ env,Hx (.ref a) (.tup [aS R,d.d]) env (aS x,S)=U (env,S1):=g1
  have g2':bZ (.ref c) [aS x] S1=U (.non,S2):=g2
  exact⟨S2,by simp![BD,qi,ni,YK,FD,Lp,g1',mr,kA,g3,iH,g2',mz],C2,kk⟩
theorem Tc{q:Nat}(qa:q≠a)(qc:q≠c)(as:List Dd):∀ (ds:List Dd) (f j:Nat) (l:List Rm) (S:aa) (a8 a9 a10:Option D),as.drop j=ds->ds.length<f->S[q]?=U (.lst (as.map (Om r R)))->Cw kyB S a c l->l.length+ds.length<=3000 ->
  ∃ S' b8 b9 b10,dJ byG BD q f j (qi r a c a1 a2 a3 a6 (U (aS R)) a8 a9 a10) S=U (.nx (qi r a c a1 a2 a3 a6 (U (aS R)) b8 b9 b10) S')/\Cw kyB S' a c (BU r R ds l)
 | [],f+1,j,l,S,a8,a9,a10,e,_,hq,C,_=>⟨S,a8,a9,a10,Dc hq (by rw[Xn];exact List.drop_eq_nil_iff.mp e),C⟩
 | d::ds,f+1,j,l,S,a8,a9,a10,e,hf,hq,C,hl=>by
  have hl':l.length+(ds.length+1)<=3000:=hl
  have hf':ds.length+1<f+1:=hf
  have hj:as[j]?=U d:=by rw[<- List.head?_drop,e];rfl
  have e':as.drop (j+1)=ds:=by rw[<- List.tail_drop,e];rfl
  obtain⟨S1,b1,C1,kk⟩:=Oa (r:=r) (R:=R) (d:=d) (x:=mQ r R d) (a1:=a1) (a2:=a2) (a3:=a3) (a6:=a6) (a10:=U (dL (IT r R d))) C (by omega)
  have ha:=(yT (l:=l) (x:=mQ r R d)).2
  obtain⟨S',b8,b9,b10,q2,k⟩:=Tc qa qc as ds f (j+1) (jA l (mQ r R d)) S1 (U d.d) (U (aS (mQ r R d))) (U (dL (IT r R d))) e' (by omega) (kk q _ qa qc hq) C1 (by omega)
  exact⟨S',b8,b9,b10,by rw[Aw hq (by rw[Yl,hj];rfl),WE,ob,UZ,b1,ob,Qh,q2],k⟩
 | _,0,_,_,_,_,_,_,_,hf,_,_,_=>absurd hf (Nat.not_lt_zero _)
theorem RG(C:Cw kyB S a c l):WD (qi r a c a1 a2 a3 a6 a7 a8 a9 a10) S=U (Op l.length (qi r a c a1 a2 a3 a6 a7 a8 a9 a10) S):=by
 have gt:FH S (.int ((l.length:Nat):Int)) du=U (.bl (decide (2000<l.length))):=by rw[show du=.int 2000 from rfl,Ml];congr 2;rw[aaA];omega
 have t:(az (aH FH (bo (aI eQ) (ac '5' ai)) (mC du))) (qi r a c a1 a2 a3 a6 a7 a8 a9 a10) S=U (decide (2000<l.length),S):=by
  simp![qi,cG,cH,C.len,gt]
 unfold WD
 rw[yIf t]
 by_cases h:2000<l.length
 ·rw[nu h,Xq (Xs h),IZ]
 ·rw[nv (by omega),if_neg (by simp[h]),Ej]
theorem IL{ds:List Dd}(hb:0<=r.b)(h5:n<=5)(hd:∀ d∈ds,d.Ok n)(hn:ds.length<=100)(C:Cw kyB S a c l)(h:RsOk n l)(he:l[i]?=U R)(hl:l.length<=2000) :
  ∃ S' b7 b8 b9 b10,uk (qi r a c a1 (U (.tup (ds.map Dd.d))) a3 (U (.int (i:Int))) a7 a8 a9 a10) S=U (Op (BO r R ds l).length (qi r a c a1 (U (.tup (ds.map Dd.d))) a3 (U (.int ((i+1:Nat):Int))) b7 b8 b9 b10) S')/\Cw kyB S' a c (BO r R ds l):=by
 obtain⟨S1,q,q1,hq,lq,kq⟩:=PV (S:=S) hb (h R (Xz he)) h5 hd hn
 obtain⟨vs,ev,hv⟩:=C.fb
 have la:=sU hv
 have lc:=sU C.fc
 have C1:Cw kyB S1 a c l:=⟨⟨vs,ev,kq _ _ hv⟩,kq _ _ C.fc,C.bc⟩
 have lf:(ds.filter (dD R)).length<=100:=XN (YI _ _) hn
 obtain⟨S',b8,b9,b10,e,C2⟩:=Tc (r:=r) (R:=R) (a1:=a1) (a2:=U (.tup (ds.map Dd.d))) (a3:=a3) (a6:=U (.int (i:Int))) (show q≠a by omega) (show q≠c by omega) (ds.filter (dD R)) (ds.filter (dD R)) 2000 0 l S1 a8 a9 a10 rfl (by omega) hq C1 (by omega)
 obtain⟨li,le⟩:=Xe.mp he
 have x1:aW S (.ref c) (.int (i:Int))=U (aS R):=by
  rw[kR C.fc,uq (by omega) (by rw[Xn];omega)]
  simp[le,kyB]
 have s1:byA (qi r a c a1 (U (.tup (ds.map Dd.d))) a3 (U (.int (i:Int))) a7 a8 a9 a10) S=U (.nx (qi r a c a1 (U (.tup (ds.map Dd.d))) a3 (U (.int (i:Int))) (U (aS R)) a8 a9 a10) S):=by
  simp![byA,qi,x1]
 have s2:byF (qi r a c a1 (U (.tup (ds.map Dd.d))) a3 (U (.int (i:Int))) (U (aS R)) a8 a9 a10) S=U (.nx (qi r a c a1 (U (.tup (ds.map Dd.d))) a3 (U (.int (i:Int))) (U (aS R)) b8 b9 b10) S'):=by
  rw[<- e]
  simp![byF,qi,kD,cC,q1,Qk]
 have rz:=RG (r:=r) (a1:=a1) (a2:=U (.tup (ds.map Dd.d))) (a3:=a3) (a6:=U (.int (i:Int))) (a7:=U (aS R)) (a8:=b8) (a9:=b9) (a10:=b10) C2
 unfold uk
 rw[cF (za s1),cF (za s2)]
 by_cases hm:2000<(BO r R ds l).length
 ·exact⟨S',Y,Y,Y,Y,by rw[qZ (rz.trans (by rw[show(BU r R (ds.filter (dD R)) l)=BO r R ds l from rfl,nu hm])),nu hm],C2⟩
 ·refine⟨S',U (aS R),b8,b9,b10,?_,C2⟩
  have au:yz S' (.int (i:Int)) (.int 1)=U (.int ((i:Int)+1)):=rfl
  rw[cF (rz.trans (by rw[show(BU r R (ds.filter (dD R)) l)=BO r R ds l from rfl,nv (by omega)])),nv (by omega)]
  refine za ?_
  simp![byP,qi,au]
  rfl
theorem Ob{ds:List Dd}(hb:0<=r.b)(h5:n<=5)(hd:∀ d∈ds,d.Ok n)(hn:ds.length<=100):∀ (k i:Nat) (l:List Rm) (S:aa) (a7 a8 a9 a10:Option D) (o:Option (List Rm)),Cw kyB S a c l->RsOk n l->l.length<=2000->pG r ds k i l=U o ->
  ∃ S' b6 b7 b8 b9 b10,dS ul uk k (qi r a c a1 (U (.tup (ds.map Dd.d))) a3 (U (.int (i:Int))) a7 a8 a9 a10) S=U (endY o (qi r a c a1 (U (.tup (ds.map Dd.d))) a3 b6 b7 b8 b9 b10) S')/\∀ l',o=U l'->Cw kyB S' a c l'
 | 0,_,_,_,_,_,_,_,_,_,_,_,hr=>by cases hr
 | k+1,i,l,S,a7,a8,a9,a10,o,C,h,hl,hr=>by
  have tst:ul (qi r a c a1 (U (.tup (ds.map Dd.d))) a3 (U (.int (i:Int))) a7 a8 a9 a10) S=U (decide (i<l.length),S):=by
   have:HS S (.int (i:Int)) (.int ((l.length:Nat):Int))=U (.bl (decide (i<l.length))):=by rw[SN];congr 2;simp
   simp![ul,qi,cG,cH,C.len,this]
  unfold pG at hr
  cases he:l[i]? with
  | none=>
   rw[he] at hr
   cases hr
   have:¬ i<l.length:=by have:=aaV.mp he;omega
   rw[Xt this] at tst
   exact⟨S,_,a7,a8,a9,a10,by rw[RV tst];rfl,λl' z=>by cases z;exact C⟩
  | some R=>
   rw[he] at hr
   dsimp only at hr
   have li:=(Xe.mp he).1
   rw[Xs li] at tst
   obtain⟨S1,b7,b8,b9,b10,q,k1⟩:=IL (a1:=a1) (a3:=a3) (a7:=a7) (a8:=a8) (a9:=a9) (a10:=a10) hb h5 hd hn C h he hl
   by_cases hc:2000<(BO r R ds l).length
   ·rw[Xq hc] at hr
    cases hr
    rw[nu hc] at q
    exact⟨S1,Y,Y,Y,Y,Y,by rw[RT tst q];rfl,λl' z=>by cases z⟩
   ·rw[if_neg hc] at hr
    rw[nv (by omega)] at q
    rw[RU tst q]
    exact Ob hb h5 hd hn k (i+1) _ S1 b7 b8 b9 b10 o k1 (BY ds l (h R (Xz he)) h) (by omega) hr
end
def ryB(o:Option (List Rm))(S:aa):RY:=match o with
 | none=>.xc Y S
 | some l=>.val (.tup (l.map aS)) S
theorem dk_rm:∀ l:List Rm,dkDs (l.map zb)=l.map aS:=λl=>(keyDKs_some (rE yd l)).symm
theorem WG{r:Rl}{n:Nat}{ds:List Dd}{o:Option (List Rm)}(hb:0<=r.b)(h5:n<=5)(hd:∀ d∈ds,d.Ok n)(hn:ds.length<=100)(hr:pG r ds 5000 0 [aJ n]=U o):∃ S',kN [r.d,.int (n:Int),.tup (ds.map Dd.d)] S=U (ryB o S'):=by
 have d0:∀ S (y:D),Ly (aS (aJ n)) (y,S)=U (.ref S.length,S++[.deep [zb (aJ n)] [y]]):=λS y=>Fs (kyB.tk _)
 have C0:Cw kyB ((S++[.deep [zb (aJ n)] [.non]])++[.lst [aS (aJ n)]]) S.length (S++[Cell.deep [zb (aJ n)] [.non]]).length [aJ n]:=⟨⟨[.non],rfl,oa dP⟩,dP,by simp⟩
 obtain⟨S',b6,b7,b8,b9,b10,q,k⟩:=Ob (r:=r) (a1:=U (.int (n:Int))) (a3:=U (aS (aJ n))) hb h5 hd hn 5000 0 [aJ n] _ Y Y Y Y o C0 (λR hR=>by rw[XA.mp hR];exact⟨mH,by simp[aJ]⟩) (by simp) hr
 refine⟨S',?_⟩
 have s1:(ay (ao 1 dO (ac '1' ai)) 'c') [U r.d,U (.int (n:Int)),U (.tup (ds.map Dd.d)),Y,Y,Y,Y,Y,Y,Y,Y] S=U (.nx [U r.d,U (.int (n:Int)),U (.tup (ds.map Dd.d)),U (aS (aJ n)),Y,Y,Y,Y,Y,Y,Y] S):=by
  simp![lJ,FM _ _ h5]
 have s2:∀ S,(ay (dW '3' (mC .non)) 'd') [U r.d,U (.int (n:Int)),U (.tup (ds.map Dd.d)),U (aS (aJ n)),Y,Y,Y,Y,Y,Y,Y] S=U (.nx [U r.d,U (.int (n:Int)),U (.tup (ds.map Dd.d)),U (aS (aJ n)),U (.ref S.length),Y,Y,Y,Y,Y,Y] (S++[.deep [zb (aJ n)] [.non]])):=λS=>by
  simp![AC,Lz,d0]
 have s3:∀ S x,(ay (cQ (ac '3' ai)) 'e') [U r.d,U (.int (n:Int)),U (.tup (ds.map Dd.d)),U (aS (aJ n)),x,Y,Y,Y,Y,Y,Y] S=U (.nx [U r.d,U (.int (n:Int)),U (.tup (ds.map Dd.d)),U (aS (aJ n)),x,U (.ref S.length),Y,Y,Y,Y,Y] (S++[.lst [aS (aJ n)]])):=λS x=>by
  simp![oN,tz]
 have s4:∀ S x y,(ay 0e0 'f') [U r.d,U (.int (n:Int)),U (.tup (ds.map Dd.d)),U (aS (aJ n)),x,y,Y,Y,Y,Y,Y] S=U (.nx [U r.d,U (.int (n:Int)),U (.tup (ds.map Dd.d)),U (aS (aJ n)),x,y,U (.int 0),Y,Y,Y,Y] S):=λS x y=>by
  simp only[bg,bq,ob,bh,aM,eR,fj,bx]
 unfold qi at q
 rw[show((0:Nat):Int)=0 from rfl] at q
 have q':jc ul uk _ _=_:=q
 have run:=(abL (abL by_eq [U r.d,U (.int (n:Int)),U (.tup (ds.map Dd.d)),Y,Y,Y,Y,Y,Y,Y,Y]) S).trans ((cF (za s1)).trans ((cF (za (s2 _))).trans ((cF (za (s3 _ _))).trans (cF (za (s4 _ _ _))))))
 have fw:cV [r.d,.int (n:Int),.tup (ds.map Dd.d)] S=U (match o with | none=>.xc Y S' | some _=>.val (.ref S.length) S'):=by
  rw[sD]
  cases o with
  | none=>exact wZ rfl (run.trans (qZ q'))
  | some l=>exact xa rfl (run.trans ((cF q').trans (za (show bn '4' _ S'=U (.rt (.ref S.length) S') by simp only[bf,ak,bG,bK,bJ,oj,ob,aj,bw]))))
 have ca:(ac '0' (ac '1' (ac '2' ai))) [U r.d,U (.int (n:Int)),U (.tup (ds.map Dd.d))] S=U ([r.d,.int (n:Int),.tup (ds.map Dd.d)],S):=by
  simp![]
 have cl:iE 3 cV (ac '0' (ac '1' (ac '2' ai))) [U r.d,U (.int (n:Int)),U (.tup (ds.map Dd.d))] S=cV [r.d,.int (n:Int),.tup (ds.map Dd.d)] S:=by
  unfold iE;rw[ca,ob];exact Xq (show [r.d,D.int (n:Int),D.tup (ds.map Dd.d)].length=3 from rfl)
 rw[Kw]
 cases o with
 | none=>exact wZ rfl (show oH [U r.d,U (.int (n:Int)),U (.tup (ds.map Dd.d))] S=_ by unfold oH An KQ;rw[cl,fw];rfl)
 | some l=>
  obtain⟨vs,_,hv⟩:=(k l rfl).fb
  have sq:aI tP [.ref S.length] S'=U (.tup (l.map aS),S'):=by
   have e:tP S' [.ref S.length]=U (.tup (dkDs (l.map zb))):=by simp only[tP,hv];rfl
   unfold aI;rw[e,dk_rm];rfl
  exact xa rfl (show oH [U r.d,U (.int (n:Int)),U (.tup (ds.map Dd.d))] S=_ by unfold oH An KQ;rw[cl,fw];dsimp only[Option.bind];rw[sq])
theorem OP{n:Nat}(h:ROk R)(hn:R.1.length=n)(h5:n<=5):cz 5 (aS R)=true:=by
 have a1:((R.1.map Wd.d).all (cz 3))=true:=by rw[Xu];intro d hd;obtain⟨w,_,rfl⟩:=XH.mp hd;rfl
 have a2:((R.2.map En.d).all (cz 3))=true:=by
  rw[Xu];intro d hd;obtain⟨e,_,rfl⟩:=XH.mp hd
  obtain⟨g,wr,m,t⟩:=e
  cases t<;>rfl
 have hl:=h.len
 have b1:cz 4 (js R.1)=true:=by show(decide ((R.1.map Wd.d).length<=5000)&&_)=true;rw[a1,ZL];exact Xs (by simp;omega)
 have b2:cz 4 (gz R.2)=true:=by show(decide ((R.2.map En.d).length<=5000)&&_)=true;rw[a2,ZL];exact Xs (by simp;omega)
 show(true&&(cz 4 (js R.1)&&(cz 4 (gz R.2)&&true)))=true
 rw[b1,b2];rfl
theorem FS(d:Dd):cz 6 d.d=true/\bS 37 d.d=true:=by
 cases d with
 | ask wr g t=>cases t<;>exact⟨rfl,rfl⟩
 | act k g=>exact⟨rfl,rfl⟩
 | tick=>exact⟨rfl,rfl⟩
def tdB(o:Option (List Rm)):D:=match o with
 | none=>.str "many"
 | some l=>.tup (l.map aS)
def Gq(o:Option (List Rm)):D:=match o with
 | none=>.str "many"
 | some l=>.tup [.str "alike",.tup (l.map λR=>pD (R,R))]
section
variable{S S':aa}{r:Rl}{n:Nat}{ds:List Dd}{o:Option (List Rm)}{w:Str}{d:D}
def BP(w:Str)(r:Rl)(n:Nat)(ds:List Dd):aE:=[U (.str w),U r.d,U (.int (n:Int)),U (.tup (ds.map Dd.d)),U .non,U .non,Y]
def Oj:MC:=Hq (az (aH cY '0' (!"book"))) (iE 3 kN (ac '1' (ac '2' (ac '3' ai)))) (iE 4 kM (ac '1' (ac '1' (ac '2' (ac '3' ai)))))
theorem td_eq:jb=aB (ay (mC .non) 'd') (aB (ay (mC .non) 'e') (aB (oM Oj cX "" 6 4 5) (aB (bN (az (aH zd '4' (mC .non))) (bn '5') aU) (aB (bN (fP (fF (cP (mR cX true '4'))) (cP (mR cX ([false,false,false].any id) '4'))) (bn (!"other")) aU) (bn (aH aW (fR (ac (!"other") (ac (!"many") ai))) (bo (aI jP) (ac (mR cX true '4') ai)))))))):=rfl
theorem Sb:bX [.str w,r.d,.int (n:Int),.tup (ds.map Dd.d)] S=(jb [U (.str w),U r.d,U (.int (n:Int)),U (.tup (ds.map Dd.d)),Y,Y,Y] S).bind qN:=by
 rw[xG];exact zD rfl rfl
theorem Sa:jb [U (.str w),U r.d,U (.int (n:Int)),U (.tup (ds.map Dd.d)),Y,Y,Y] S=(oM Oj cX "" 6 4 5 (BP w r n ds) S).bind (Hw (aB (bN (az (aH zd '4' (mC .non))) (bn '5') aU) (aB (bN (fP (fF (cP (mR cX true '4'))) (cP (mR cX ([false,false,false].any id) '4'))) (bn (!"other")) aU) (bn (aH aW (fR (ac (!"other") (ac (!"many") ai))) (bo (aI jP) (ac (mR cX true '4') ai))))))):=by
 rw[td_eq]
 simp only[BP,be,bg,bq,ob,bh,aM,eR,fj,bx,aP]
theorem Ji(h:Oj (BP w r n ds) S=U (.val d S')):bX [.str w,r.d,.int (n:Int),.tup (ds.map Dd.d)] S=U (d,S'):=by
 have t:oM Oj cX "" 6 4 5 (BP w r n ds) S=U (.nx [U (.str w),U r.d,U (.int (n:Int)),U (.tup (ds.map Dd.d)),U .non,U d,Y] S'):=by
  unfold oM;rw[h];rfl
 have z:mY .non .non=true:=rfl
 rw[Sb,Sa,t]
 simp![jk,z,cw]
theorem RZ(h:Oj (BP w r n ds) S=U (.xc Y S')):bX [.str w,r.d,.int (n:Int),.tup (ds.map Dd.d)] S=U (.str "many",S'):=by
 have t:oM Oj cX "" 6 4 5 (BP w r n ds) S=U (.nx [U (.str w),U r.d,U (.int (n:Int)),U (.tup (ds.map Dd.d)),U (.exc cX),U .non,Y] S'):=by
  unfold oM;rw[h];rfl
 have z:mY (.exc cX) .non=false:=rfl
 have ix:∀ b,mR cX b '4' [U (.str w),U r.d,U (.int (n:Int)),U (.tup (ds.map Dd.d)),U (.exc cX),U .non,Y] S'=U (.bl b,S'):=λb=>by
  unfold mR
  simp only[ak,bG,bK,bJ,oj,ob,aj,Xq]
 have fi:aI jP [.bl true] S'=U (.int 1,S'):=rfl
 have fx:aW S' (.lst [.str "other",.str "many"]) (.int 1)=U (.str "many"):=rfl
 have an:([false,false,false].any id)=false:=rfl
 rw[Sb,Sa,t]
 simp![jk,z,nI,EY,fY,ix,hJ,Fk,Ys,pX,an,xW,De,cG,cH,fi,fx]
theorem toldB(hb:0<=r.b)(h5:n<=5)(hd:∀ d∈ds,d.Ok n)(hn:ds.length<=100)(hr:pG r ds 5000 0 [aJ n]=U o):∃ S',bX [.str "book",r.d,.int (n:Int),.tup (ds.map Dd.d)] S=U (tdB o,S'):=by
 obtain⟨S',e⟩:=WG (S:=S) hb h5 hd hn hr
 have eq:cY S (.str "book") (.str "book")=U (.bl true):=rfl
 have t:(az (aH cY '0' (!"book"))) (BP "book" r n ds) S=U (true,S):=by
  simp![BP,eq]
 have ca:(ac '1' (ac '2' (ac '3' ai))) (BP "book" r n ds) S=U ([r.d,.int (n:Int),.tup (ds.map Dd.d)],S):=by
  simp![BP]
 have c:Oj (BP "book" r n ds) S=kN [r.d,.int (n:Int),.tup (ds.map Dd.d)] S:=by
  unfold Oj Hq
  rw[t,ob,Xq rfl]
  unfold iE
  rw[ca,ob];exact Xq (show [r.d,D.int (n:Int),D.tup (ds.map Dd.d)].length=3 from rfl)
 rw[e] at c
 exact⟨S',by cases o with | none=>exact RZ c | some l=>exact Ji c⟩
theorem toldH(hb:0<=r.b)(h5:n<=5)(hd:∀ d∈ds,d.Ok n)(hn:ds.length<=100)(hr:pG r ds 5000 0 [aJ n]=U o):∃ S',bX [.str "held",r.d,.int (n:Int),.tup (ds.map Dd.d)] S=U (Gq o,S'):=by
 obtain⟨S',e⟩:=Vp (S:=S) hb h5 hd hn hr
 have eq:cY S (.str "held") (.str "book")=U (.bl false):=by rw[kS (by rfl) (by rfl),show iX (.str "held") (.str "book")=false by decide +kernel]
 have t:(az (aH cY '0' (!"book"))) (BP "held" r n ds) S=U (false,S):=by
  simp![BP,eq]
 have ca:(ac '1' (ac '1' (ac '2' (ac '3' ai)))) (BP "held" r n ds) S=U ([r.d,r.d,.int (n:Int),.tup (ds.map Dd.d)],S):=by
  simp![BP]
 have c:Oj (BP "held" r n ds) S=kM [r.d,r.d,.int (n:Int),.tup (ds.map Dd.d)] S:=by
  unfold Oj Hq
  rw[t,ob,if_neg Sn]
  unfold iE
  rw[ca,ob];exact Xq (show [r.d,r.d,D.int (n:Int),D.tup (ds.map Dd.d)].length=4 from rfl)
 rw[e] at c
 exact⟨S',by cases o with | none=>exact RZ c | some l=>exact Ji c⟩
end
theorem JI:∀ (k i:Nat) (l l':List Rm),RsOk n l->l.length<=2000->pG r ds k i l=U (U l')->RsOk n l'/\l'.length<=2000
 | 0,_,_,_,_,_,h=>by cases h
 | k+1,i,l,l',hk,hl,h=>by
  unfold pG at h
  cases he:l[i]? with
  | none=>rw[he] at h;cases h;exact⟨hk,hl⟩
  | some R=>
   rw[he] at h
   dsimp only at h
   split at h
   ·cases h
   ·exact JI k (i+1) _ l' (BY ds l (hk R (Xz he)) hk) (by omega) h
theorem sameH{n:Nat}(h5:n<=5)(h:RsOk n l)(hl:l.length<=2000):cz 8 (Gq (U l))=true:=by
 have a1:((l.map λR=>pD (R,R)).all (cz 6))=true:=by
  rw[Xu];intro d hd;obtain⟨R,hm,rfl⟩:=XH.mp hd
  obtain⟨r1,n1⟩:=h R hm
  show(true&&(cz 5 (aS R)&&(cz 5 (aS R)&&true)))=true
  rw[OP r1 n1 h5];rfl
 have b1:cz 7 (.tup (l.map λR=>pD (R,R)))=true:=by show(decide ((l.map λR=>pD (R,R)).length<=5000)&&_)=true;rw[a1,ZL];exact Xs (by simp;omega)
 show(true&&(true&&(cz 7 (.tup (l.map λR=>pD (R,R)))&&true)))=true
 rw[b1];rfl
def FT(w:Bool):List Dd:=[.ask true 0 Y,.ask false 1 (U 9),.ask w 2 (U 9),.ask true 3 (U 9),.tick,.act .leave 0,.act .leave 2]
theorem NN{d:Dd}(h:d∈FT w):d.Ok 4:=by
 have l9:og (U 9):=λk z=>by cases z;decide
 have ln:og Y:=λk z=>by cases z
 simp only[FT,XD,XZ,ZH] at h
 rcases h with rfl | rfl | rfl | rfl | rfl | rfl | rfl
 ·exact⟨by decide,ln⟩
 ·exact⟨by decide,l9⟩
 ·exact⟨by decide,l9⟩
 ·exact⟨by decide,l9⟩
 ·trivial
 ·show 0<4;decide
 ·show 2<4;decide
theorem Td{j:Int}(h0:0<=j)(h1:j<2):∃ w:Bool,aW S (.lst [.str "read",.str "write"]) (.int j)=U (.str (ci w)):=by
 have:j=0\/j=1:=by omega
 rcases this with rfl | rfl
 ·exact⟨false,rfl⟩
 ·exact⟨true,rfl⟩
theorem RA(P:Pk S q):∃ (ds:List Dd) (S':aa),dm [.ref q] S=U (.tup (ds.map Dd.d),S')/\(∀ d∈ds,d.Ok 4)/\ds.length<=100:=by
 obtain⟨u,S4,e4,u0,u1,P4,K4⟩:=iz S q 2 P (by decide) (by decide)
 obtain⟨v,S5,e5,v0,v1,P5,K5⟩:=iz S4 q 7 P4 (by decide) (by decide)
 obtain⟨w,hw⟩:=Td (S:=S4) u0 u1
 obtain⟨i,hi⟩:∃ i:Nat,v=(i:Int):=⟨v.toNat,by omega⟩
 subst hi
 have hh:dm [.ref q] S=(kw [U (.ref q),Y,Y,Y] S).bind qN:=by
  rw[vc];exact zD rfl rfl
 have l7:∀ S,pY ([.tup [.str "write",.int 0,.non],.tup [.str "read",.int 1,.int 9],.tup [.str (ci w),.int 2,.int 9],.tup [.str "write",.int 3,.int 9],.tup [.str "tick"],.tup [.str "leave",.int 0],.tup [.str "leave",.int 2]],S)=U (.lst ((FT w).map Dd.d),S):=λS=>by rw[gd (by simp)];rfl
 have s1:∀ S,nL (.lst ((FT w).map Dd.d)) (U (i:Int)) (Y,S)=U (.lst (((FT w).drop i).map Dd.d),S):=λS=>by rw[Lo,mJ _ _ (by show i<=7;omega),ZJ]
 have s2:∀ S,nL (.lst ((FT w).map Dd.d)) Y (U (i:Int),S)=U (.lst (((FT w).take i).map Dd.d),S):=λS=>by rw[Lo,wv _ _ (by show i<=7;omega),ZI]
 have hl:(FT w).length=7:=rfl
 have ad:∀ S,bF S (.lst (((FT w).drop i).map Dd.d)) (.lst (((FT w).take i).map Dd.d))=U (.lst (((FT w).drop i++(FT w).take i).map Dd.d)):=λS=>by rw[Mo (by rw[Xn,Xn,Yp,Yf];omega),Ya]
 refine⟨(FT w).drop i++(FT w).take i,S5,?_,λd hd=>?_,by rw[XM,Yp,Yf];omega⟩
 ·rw[hh]
  simp![kw,xW,De,e4,hw,AX,dn,l7,e5,cG,iC,nN,kz,kH,nM,iD,s1,s2,ad,cH,jj]
 ·rcases Xx.mp hd with hd | hd
  ·exact NN (Zh hd)
  ·exact NN (Yc hd)
def dlE:ME:=aH bF (bj (ac '1' (ac '0' ai))) (aH cN (bj (ac (mC .non) ai)) (bo (aI jP) (ac (aH BV '1' (bj (ac (!"read") (ac (!"write") ai)))) ai)))
def dlB:ME:=bV (cu (ac '1' ai)) '`' bU dlE [Y,U 3]
def dlX:MS:=cR (cZ jm '2' (ac dlB ai))
def dlW:ME:=bj (ac (!"read") (ac (!"write") (ac (!"up") (ac (!"down") (ac (!"leave") (ac (!"stop") ai))))))
def dlC:ME:=hZ (cn '2' (dB '4') cA) (cn '2' cA (dB '4'))
def Wc:MT:=az (aH FH (ao 2 aR (ac '1' (ac 6e0 ai))) 0e0)
def dlF:MS:=bN (az (aH cY (ao 2 aR (ac '0' (ac 2e0 ai))) 0e0)) (ay (df '2' '`' Wc '0' [Y,U 0]) 'b') aU
def dlI:MS:=aB (ay (ao 2 fK (ac '0' (ac '1' ai))) 'f') (bN (az (aH qb '6' '2')) (cR (cZ jl '2' (ac (ao 2 aR (ac '0' (ac (aH bF (bo (aI eQ) (ac '2' ai)) 1e0) ai))) (ac '6' ai)))) aU)
def dlR:MA:=cu (ac (aH aW (fR (ac 0e0 (ac 0e0 (ac 2e0 (ac 4e0 ai))))) (ao 2 aR (ac '0' (ac 4e0 ai)))) ai)
def dlP:MS:=ay (ao 2 aR (ac '0' (ac (bo (aI eQ) (ac '2' ai)) ai))) 'd'
theorem dl_eq:ku=aB (ay (cQ ai) 'b') (aB (dC dlW 'c' dlX) (aB dlP (aB (ay dlC 'b') (aB dlF (aB (ls dlR 'e' dlI) (bn (bo (aI (cD .tup)) (ac '2' ai)))))))):=rfl
def jX(q n:Nat)(a2 a3 a4 a5 a6:Option D):aE:=[U (.ref q),U (.int (n:Int)),a2,a3,a4,a5,a6]
section
variable{S:aa}{q n c:Nat}{a2 a3 a4 a5 a6:Option D}
theorem Wg{b:Bool}(hb:([D.str "read",D.str "write"].any λd=>iX d (.str w))=b):dlE [U (ni g),U (.str w)] S=U (.tup ([.str w,ni g]++Si b.toNat .non),S):=by
 have i1:BV S (.str w) (.tup [.str "read",.str "write"])=U (.bl b):=by rw[tU (ys:=[.str "read",.str "write"]) rfl rfl rfl,hb]
 have i2:aI jP [.bl b] S=U (.int (b.toNat:Int),S):=by cases b<;>rfl
 have i3:cN S (.tup [.non]) (.int (b.toNat:Int))=U (.tup (Si b.toNat .non)):=by
  rw[FG (by omega) (by cases b<;>decide) (by cases b<;>decide)]
  cases b<;>rfl
 have i4:bF S (.tup [.str w,ni g]) (.tup (Si b.toNat .non))=U (.tup ([.str w,ni g]++Si b.toNat .non)):=qd (by cases b<;>simp)
 simp![dlE,dn,cG,i1,cH,i2,i3,i4]
theorem qf{b:Bool}{f:Nat->Dd}{xs:List Dd}(h5:n<=5)(hx:xs.length<=500)(hb:([D.str "read",D.str "write"].any λd=>iX d (.str w))=b)(hf:∀ g:Nat,(f g).d=.tup ([.str w,ni g]++Si b.toNat .non)) :
  dlX (jX q n (U (.ref S.length)) (U (.str w)) a4 a5 a6) (S++[.lst (xs.map Dd.d)])=U (.nx (jX q n (U (.ref S.length)) (U (.str w)) a4 a5 a6) (S++[.lst ((xs++(List.range n).map f).map Dd.d)])):=by
 have rg:cu (ac '1' ai) (jX q n (U (.ref S.length)) (U (.str w)) a4 a5 a6) (S++[.lst (xs.map Dd.d)])=U ((List.range n).map ni,S++[.lst (xs.map Dd.d)]):=by
  have:kR1 ([.int (n:Int)],S++[.lst (xs.map Dd.d)])=U (dH 0 n,S++[.lst (xs.map Dd.d)]):=by rw[Dj (by omega) (by omega)];rfl
  simp![jX,pS,this,GG]
 have k:=jv (S:=S++[.lst (xs.map Dd.d)]) (t:=bU) (e:=dlE) (cap:=[Y,U 3]) (env:=jX q n (U (.ref S.length)) (U (.str w)) a4 a5 a6) (rest:=[U (.str w)]) (a:=Y) (enc:=ni) (p:=λ_=>true) (f:=λg=>(f g).d) (xs:=List.range n) rfl (by rw[List.length_range];omega) (λg _=>by exact mq) (λg _ _=>by rw[Wg hb,hf])
 rw[YT.mpr (λ_ _=>rfl),show((List.range n).map λg=>(f g).d)=((List.range n).map f).map Dd.d by rw[YQ];rfl] at k
 have cb:dlB (jX q n (U (.ref S.length)) (U (.str w)) a4 a5 a6) (S++[.lst (xs.map Dd.d)])=U (.lst (((List.range n).map f).map Dd.d),S++[.lst (xs.map Dd.d)]):=by
  simp only[dlB,dN,rg,ob,k]
 have ex:jm (.ref S.length) [.lst (((List.range n).map f).map Dd.d)] (S++[.lst (xs.map Dd.d)])=U (.non,S++[.lst ((xs++(List.range n).map f).map Dd.d)]):=by
  show(match (S++[Cell.lst (xs.map Dd.d)])[S.length]? with | some (.lst xs)=>if xs.length+(((List.range n).map f).map Dd.d).length<=KY then U (D.non,(S++[Cell.lst (List.map Dd.d _)]).set S.length (.lst (xs++((List.range n).map f).map Dd.d))) else Y | _=>Y)=_
  rw[dP]
  dsimp only
  rw[Xq (sz (by simp only[Xn,List.length_range];omega)),Gf,<- Ya]
 have km:∀ ms env,oV jm ms env (.ref S.length,S++[.lst (xs.map Dd.d)])=(ms env (S++[.lst (xs.map Dd.d)])).bind (hU jm (.ref S.length)):=λms env=>oU dP
 have v2:af 2 (jX q n (U (.ref S.length)) (U (.str w)) a4 a5 a6) (S++[.lst (xs.map Dd.d)])=U (.ref S.length,S++[.lst (xs.map Dd.d)]):=by simp[jX]
 simp only[dlX,mr,kA,v2,ob,km,aq,cb,am,av,al,iH,ex,mz]
theorem Nr{xs:List Dd}:∀ (k i:Nat) (a:Option D) (S:aa),Pk S q->c≠q->S[c]?=U (.lst (xs.map Dd.d))->i<=xs.length->xs.length<k+i ->
  ∃ (ys:List Dd) (S':aa),gc '`' Wc '0' c k i [a,U (.ref q)] S=U (ys.map Dd.d,S')/\(∀ d∈ys,d∈xs)/\ys.length+i<=xs.length/\Pk S' q/\Keep q S S'
 | 0,i,a,S,_,_,_,h0,hl=>by omega
 | k+1,i,a,S,P,hc,hq,h0,hl=>by
  unfold gc
  rw[hq]
  dsimp only
  cases hx:xs[i]? with
  | none=>
   rw[Yl,hx]
   exact⟨[],S,rfl,λd hd=>absurd hd XZ,by simpa using h0,P,Keep.refl⟩
  | some d=>
   rw[Yl,hx]
   have hi:=(Xe.mp hx).1
   obtain⟨v,S1,e1,v0,v1,P1,K1⟩:=iz S q 6 P (by decide) (by decide)
   have tt:Wc [U d.d,U (.ref q)] S=U (decide (0<v),S1):=by
    simp![Wc,e1,Ml]
   have hq1:S1[c]?=U (.lst (xs.map Dd.d)):=by rw[K1.1 _ hc];exact hq
   obtain⟨ys,S',e2,m2,l2,P2,K2⟩:=Nr k (i+1) (U d.d) S1 P1 hc hq1 hi (by omega)
   show ∃ (ys:List Dd) (S':aa),((ag 0 d.d [a,U (.ref q)] S).bind _)=_/\_
   rw[aM,ob]
   show ∃ (ys:List Dd) (S':aa),((Wc [U d.d,U (.ref q)] S).bind _)=_/\_
   rw[tt,ob]
   dsimp only
   by_cases hv:0<v
   ·rw[Xs hv,Xq rfl]
    refine⟨d::ys,S',?_,λx hx'=>?_,by rw[Xw];omega,P2,Keep.trans K1 K2⟩
    ·show((af 0 [U d.d,U (.ref q)] S1).bind _)=_
     simp only[ak,bG,oj,ob,aj]
     show(gc '`' Wc '0' c k (i+1) [U d.d,U (.ref q)] S1).bind _=_
     rw[e2];rfl
    ·rcases XD.mp hx' with rfl | hx'
     ·exact Xz hx
     ·exact m2 x hx'
   ·rw[Xt hv,if_neg Sn]
    exact⟨ys,S',e2,m2,by omega,P2,Keep.trans K1 K2⟩
end
section
variable{S:aa}{q n c:Nat}{a3 a4 a5 a6:Option D}
theorem We{i:Nat}{ds:List Dd}(h1:1<=n)(h9:n<=9)(P:Pk S q)(hq:c≠q)(hc:S[c]?=U (.lst (ds.map Dd.d)))(hl:ds.length<=500)(hd:∀ d∈ds,d.Ok n) :
  ∃ (S':aa) (b6:Option D) (es:List Dd),dlI (jX q n (U (.ref c)) a3 a4 a5 a6) S=U (.nx (jX q n (U (.ref c)) a3 a4 a5 b6) S')/\Pk S' q/\S'[c]?=U (.lst (es.map Dd.d))/\(∀ d∈es,d.Ok n)/\es.length<=ds.length+1:=by
 obtain⟨d,T1,q1,ok,P1,K1⟩:=deed P h1 h9
 have hc1:T1[c]?=U (.lst (ds.map Dd.d)):=by rw[K1.1 _ hq];exact hc
 have sd:fO T1 (.ref c)=U (ds.map Dd.d):=by simp only[fO,hc1]
 have ni:=HR (S:=T1) (x:=d.d) (y:=.ref c) sd (lF (by decide) (FS d).2) (by rw[Xu];intro x hx;obtain⟨y,_,rfl⟩:=XH.mp hx;exact lF (by decide) (FS y).2)
 have ln:aI eQ [.ref c] T1=U (.int ((ds.length:Nat):Int),T1):=by rw[tT hc1,Xn]
 obtain⟨v,T2,e2,v0,v1,P2,K2⟩:=iz T1 q ((ds.length:Int)+1) P1 (by omega) (by omega)
 have hc2:T2[c]?=U (.lst (ds.map Dd.d)):=by rw[K2.1 _ hq];exact hc1
 have im:kK (ds.map Dd.d) v d.d=(kK ds v d).map Dd.d:=by unfold kK;simp[ZI,ZJ]
 have ap:jl (.ref c) [.int v,d.d] T2=U (.non,T2.set c (.lst ((kK ds v d).map Dd.d))):=by
  rw[HV hc2 (by rw[Xn];omega) v0 (by omega),im]
 have km:∀ f ms env,oV f ms env (.ref c,T1)=(ms env T1).bind (hU f (.ref c)):=λf ms env=>oU hc1
 cases hb:(ds.map Dd.d).any (λx=>iX x d.d) with
 | true=>
  rw[hb] at ni
  exact⟨T1,U d.d,ds,by simp![dlI,jX,q1,ni,Ys],P1,hc1,hd,by omega⟩
 | false=>
  rw[hb] at ni
  refine⟨T2.set c (.lst ((kK ds v d).map Dd.d)),U d.d,kK ds v d,by simp![dlI,jX,q1,ni,YK,mr,kA,km,cG,cH,ln,tW,e2,iH,ap,mz],WT P2 hq,XF (sU hc2),λx hx=>?_,?_⟩
  ·unfold kK at hx
   rcases Xx.mp hx with hx | hx
   ·exact hd x (Yc hx)
   ·rcases XD.mp hx with rfl | hx
    ·exact ok
    ·exact hd x (Zh hx)
  ·unfold kK
   rw[XM,Xw,Yf,Yp];omega
def qY(n:Nat):List Dd:=(((((([]++(List.range n).map λg=>Dd.ask false g Y)++(List.range n).map λg=>Dd.ask true g Y)++(List.range n).map λg=>Dd.act .up g)++(List.range n).map λg=>Dd.act .down g)++(List.range n).map λg=>Dd.act .leave g)++(List.range n).map λg=>Dd.act .stop g)
theorem RO:(qY n).length=6*n:=by simp[qY];omega
theorem Og{d:Dd}(h:d∈qY n):d.Ok n:=by
 have ln:og Y:=λk z=>by cases z
 simp only[qY,Xx,XH,ZX,XZ,false_or] at h
 rcases h with ((((⟨g,hg,rfl⟩ | ⟨g,hg,rfl⟩) | ⟨g,hg,rfl⟩) | ⟨g,hg,rfl⟩) | ⟨g,hg,rfl⟩) | ⟨g,hg,rfl⟩<;>first | exact⟨hg,ln⟩ | exact hg
theorem dlAll{S:aa}{a4 a5 a6:Option D}(h5:n<=5):∃ b3,dC dlW 'c' dlX (jX q n (U (.ref S.length)) Y a4 a5 a6) (S++[.lst []])=U (.nx (jX q n (U (.ref S.length)) b3 a4 a5 a6) (S++[.lst ((qY n).map Dd.d)])):=by
 have k6:∀ T:aa,cK ([.str "read",.str "write",.str "up",.str "down",.str "leave",.str "stop"],T)=U (.tup [.str "read",.str "write",.str "up",.str "down",.str "leave",.str "stop"],T):=λT=>bb (by simp)
 have gs:∀ (w:Str) (x:Option D) (T:aa),ag 3 (.str w) (jX q n (U (.ref S.length)) x a4 a5 a6) T=U (jX q n (U (.ref S.length)) (U (.str w)) a4 a5 a6,T):=λw x T=>by rw[aM];rfl
 have x1:=qf (S:=S) (q:=q) (n:=n) (a4:=a4) (a5:=a5) (a6:=a6) (w:="read") (b:=true) (f:=λg=>Dd.ask false g Y) (xs:=[]) h5 (by simp) (by decide +kernel) λg=>rfl
 have x2:=qf (S:=S) (q:=q) (n:=n) (a4:=a4) (a5:=a5) (a6:=a6) (w:="write") (b:=true) (f:=λg=>Dd.ask true g Y) (xs:=[]++(List.range n).map λg=>Dd.ask false g Y) h5 (by simp;omega) (by decide +kernel) λg=>rfl
 have x3:=qf (S:=S) (q:=q) (n:=n) (a4:=a4) (a5:=a5) (a6:=a6) (w:="up") (b:=false) (f:=λg=>Dd.act .up g) (xs:=([]++(List.range n).map λg=>Dd.ask false g Y)++(List.range n).map λg=>Dd.ask true g Y) h5 (by simp;omega) (by decide +kernel) λg=>rfl
 have x4:=qf (S:=S) (q:=q) (n:=n) (a4:=a4) (a5:=a5) (a6:=a6) (w:="down") (b:=false) (f:=λg=>Dd.act .down g) (xs:=(([]++(List.range n).map λg=>Dd.ask false g Y)++(List.range n).map λg=>Dd.ask true g Y)++(List.range n).map λg=>Dd.act .up g) h5 (by simp;omega) (by decide +kernel) λg=>rfl
 have x5:=qf (S:=S) (q:=q) (n:=n) (a4:=a4) (a5:=a5) (a6:=a6) (w:="leave") (b:=false) (f:=λg=>Dd.act .leave g) (xs:=((([]++(List.range n).map λg=>Dd.ask false g Y)++(List.range n).map λg=>Dd.ask true g Y)++(List.range n).map λg=>Dd.act .up g)++(List.range n).map λg=>Dd.act .down g) h5 (by simp;omega) (by decide +kernel) λg=>rfl
 have x6:=qf (S:=S) (q:=q) (n:=n) (a4:=a4) (a5:=a5) (a6:=a6) (w:="stop") (b:=false) (f:=λg=>Dd.act .stop g) (xs:=(((([]++(List.range n).map λg=>Dd.ask false g Y)++(List.range n).map λg=>Dd.ask true g Y)++(List.range n).map λg=>Dd.act .up g)++(List.range n).map λg=>Dd.act .down g)++(List.range n).map λg=>Dd.act .leave g) h5 (by simp;omega) (by decide +kernel) λg=>rfl
 rw[show([]:List Dd).map Dd.d=[] from rfl] at x1
 refine⟨U (.str "stop"),?_⟩
 simp only[kD,dlW,bu,aq,bq,ob,am,av,al,k6,Fq,fh,gs,nO,x1,x2,x3,x4,x5,x6,kI,Hr]
 rfl
end
theorem at_04{j:Int}(h0:0<=j)(h1:j<4):∃ m:Nat,m<=4/\aW S (.lst [.int 0,.int 0,.int 2,.int 4]) (.int j)=U (.int (m:Int)):=by
 have:j=0\/j=1\/j=2\/j=3:=by omega
 rcases this with rfl | rfl | rfl | rfl
 ·exact⟨0,by decide,rfl⟩
 ·exact⟨0,by decide,rfl⟩
 ·exact⟨2,by decide,rfl⟩
 ·exact⟨4,by decide,rfl⟩
theorem at_n{j:Int}(h0:0<=j)(h1:j<4):∃ m:Nat,1<=m/\m<=3/\aW S (.lst [.int 1,.int 2,.int 2,.int 3]) (.int j)=U (.int (m:Int)):=by
 have:j=0\/j=1\/j=2\/j=3:=by omega
 rcases this with rfl | rfl | rfl | rfl
 ·exact⟨1,by decide,by decide,rfl⟩
 ·exact⟨2,by decide,by decide,rfl⟩
 ·exact⟨2,by decide,by decide,rfl⟩
 ·exact⟨3,by decide,by decide,rfl⟩
section
variable{S:aa}{q n c:Nat}{a3 a4 a5 a6:Option D}
theorem Wf{xs:List Dd}(P:Pk S q)(hq:c≠q)(hc:S[c]?=U (.lst (xs.map Dd.d)))(hl:xs.length<=500) :
  ∃ (S':aa) (c':Nat) (ys:List Dd),dlF (jX q n (U (.ref c)) a3 a4 a5 a6) S=U (.nx (jX q n (U (.ref c')) a3 a4 a5 a6) S')/\Pk S' q/\c'≠q/\S'[c']?=U (.lst (ys.map Dd.d))/\(∀ d∈ys,d∈xs)/\ys.length<=xs.length:=by
 obtain⟨v,S1,e1,v0,v1,P1,K1⟩:=iz S q 2 P (by decide) (by decide)
 have hc1:S1[c]?=U (.lst (xs.map Dd.d)):=by rw[K1.1 _ hq];exact hc
 have eq:cY S1 (.int v) (.int 0)=U (.bl (decide (v=0))):=by rw[nU];congr 2
 have tst:(az (aH cY (ao 2 aR (ac '0' (ac 2e0 ai))) 0e0)) (jX q n (U (.ref c)) a3 a4 a5 a6) S=U (decide (v=0),S1):=by
  simp![jX,e1,eq]
 unfold dlF
 rw[bA,tst,ob]
 by_cases hv:v=0
 ·rw[Xs hv,bY]
  obtain⟨ys,S2,e2,m2,l2,P2,K2⟩:=Nr (xs:=xs) 2000 0 Y S1 P1 hq hc1 (Zj _) (by omega)
  refine⟨S2++[.lst (ys.map Dd.d)],S2.length,ys,?_,P2.app.1,(Ye P2.lt),dP,m2,by omega⟩
  have kc:Dl '`' Wc '0' [Y,U 0] (jX q n (U (.ref c)) a3 a4 a5 a6) (.ref c,S1)=U (.ref S2.length,S2++[.lst (ys.map Dd.d)]):=by
   rw[LB,show pB [Y,U 0] (jX q n (U (.ref c)) a3 a4 a5 a6)=[Y,U (.ref q)] from rfl,e2];rfl
  have v2:af 2 (jX q n (U (.ref c)) a3 a4 a5 a6) S1=U (.ref c,S1):=by simp[jX]
  rw[bg,Le,v2,ob,kc,ob,bh,aM,ob]
  rfl
 ·rw[Xt hv,bW,bE]
  exact⟨S1,c,xs,rfl,P1,hq,hc1,λd hd=>hd,Xm _⟩
theorem Rh(P:Pk S q)(h1:1<=n)(h5:n<=3):∃ (ds:List Dd) (S':aa),dk [.ref q,.int (n:Int)] S=U (.tup (ds.map Dd.d),S')/\(∀ d∈ds,d.Ok n)/\ds.length<=100/\Pk S' q:=by
 have hh:dk [.ref q,.int (n:Int)] S=(ku (jX q n Y Y Y Y Y) S).bind qN:=by
  rw[vb];exact zD rfl rfl
 have lq:=P.lt
 have la:=RO (n:=n)
 obtain⟨b3,f1⟩:=dlAll (S:=S) (q:=q) (n:=n) (a4:=Y) (a5:=Y) (a6:=Y) (by omega)
 have P1:Pk (S++[.lst ((qY n).map Dd.d)]) q:=P.app.1
 obtain⟨v,S2,e2,v0,v1,P2,K2⟩:=iz (S++[.lst ((qY n).map Dd.d)]) q ((qY n).length:Int) P1 (by omega) (by omega)
 obtain⟨i,hi⟩:∃ i:Nat,v=(i:Int):=⟨v.toNat,by omega⟩
 subst hi
 have hc2:S2[S.length]?=U (.lst ((qY n).map Dd.d)):=by rw[K2.1 _ (by omega)];exact dP
 have ln:aI eQ [.ref S.length] (S++[.lst ((qY n).map Dd.d)])=U (.int (((qY n).length:Nat):Int),S++[.lst ((qY n).map Dd.d)]):=by rw[tT dP,Xn]
 have s1:nL (.ref S.length) (U (i:Int)) (Y,S2)=U (.lst (((qY n).drop i).map Dd.d),S2):=by rw[AO hc2,mJ _ _ (by rw[Xn];omega),ZJ]
 have s2:nL (.ref S.length) Y (U (i:Int),S2)=U (.lst (((qY n).take i).map Dd.d),S2):=by rw[AO hc2,wv _ _ (by rw[Xn];omega),ZI]
 have ct:Ft (.lst (((qY n).drop i).map Dd.d)) (.lst (((qY n).take i).map Dd.d),S2)=U (.ref S2.length,S2++[.lst (((qY n).drop i++(qY n).take i).map Dd.d)]):=by
  rw[Qm (by rw[Xn,Xn,Yp,Yf];omega),<- Ya]
 have lt2:((qY n).drop i++(qY n).take i).length<=18:=by rw[XM,Yp,Yf];omega
 obtain⟨S3,c',ys,f3,P3,q3,hc3,m3,l3⟩:=Wf (n:=n) (a3:=b3) (a4:=U (.int (i:Int))) (a5:=Y) (a6:=Y) (S:=S2++[.lst (((qY n).drop i++(qY n).take i).map Dd.d)]) P2.app.1 (Ye P2.lt) dP (by omega)
 have ok3:∀ d∈ys,d.Ok n:=λd hd=>by
  rcases Xx.mp (m3 d hd) with z | z
  ·exact Og (Zh z)
  ·exact Og (Yc z)
 obtain⟨j,S4,e4,j0,j1,P4,K4⟩:=iz S3 q 4 P3 (by decide) (by decide)
 obtain⟨m,hm,hx⟩:=at_04 (S:=S4) j0 j1
 have hc4:S4[c']?=U (.lst (ys.map Dd.d)):=by rw[K4.1 _ q3];exact hc3
 have kr:kR1 ([.int (m:Int)],S4)=U (dH 0 m,S4):=by rw[Dj (by omega) (by omega)];rfl
 have rg:dlR (jX q n (U (.ref c')) b3 (U (.int (i:Int))) Y Y) S3=U (dH 0 m,S4):=by
  simp![dlR,jX,pS,xW,Et,e4,hx,kr]
 obtain⟨env',S5,e5,a5,a6,es,rfl,P5,hc5,hd5,hl5⟩:=forR (tg:=ag 5) (p:=dlI) (lo:=0) (λi' env T=>∃ a5 a6 ds,env=jX q n (U (.ref c')) b3 (U (.int (i:Int))) a5 a6/\Pk T q/\T[c']?=U (.lst (List.map Dd.d ds))/\(∀ d∈ds,d.Ok n)/\ds.length<=18+i') m (λi' hi' env T hI=>by
  obtain⟨a5,a6,ds,rfl,P,hc,hd,hl⟩:=hI
  obtain⟨T',b6,es,e,P',hc',hd',hl'⟩:=We (i:=i') (a3:=b3) (a4:=U (.int (i:Int))) (a5:=U (.int (0+(i':Int)))) (a6:=a6) h1 (by omega) P q3 hc (by omega) hd
  exact⟨_,T,_,T',aM,e,_,_,es,rfl,P',hc',hd',by omega⟩) (jX q n (U (.ref c')) b3 (U (.int (i:Int))) Y Y) S4 ⟨Y,Y,ys,rfl,P4,hc4,ok3,by omega⟩
 refine⟨es,S5,?_,hd5,by omega,P5⟩
 have sq:aI (cD .tup) [.ref c'] S5=U (.tup (es.map Dd.d),S5):=pZ hc5
 have u1:(ay (cQ ai) 'b') (jX q n Y Y Y Y Y) S=U (.nx (jX q n (U (.ref S.length)) Y Y Y Y) (S++[.lst []])):=by
  simp only[jX,bg,oN,av,ob,CU,bh,aM,eR,fj,bx]
 have u3:dlP (jX q n (U (.ref S.length)) b3 Y Y Y) (S++[.lst ((qY n).map Dd.d)])=U (.nx (jX q n (U (.ref S.length)) b3 (U (.int (i:Int))) Y Y) S2):=by
  simp![dlP,jX,cG,cH,ln,e2]
 have u4:(ay dlC 'b') (jX q n (U (.ref S.length)) b3 (U (.int (i:Int))) Y Y) S2=U (.nx (jX q n (U (.ref S2.length)) b3 (U (.int (i:Int))) Y Y) (S2++[.lst (((qY n).drop i++(qY n).take i).map Dd.d)])):=by
  simp![dlC,jX,Qa,iC,nN,kz,kH,nM,iD,s1,s2,Qn,ct]
 have u7:(bn (bo (aI (cD .tup)) (ac '2' ai))) (jX q n (U (.ref c')) b3 (U (.int (i:Int))) a5 a6) S5=U (.rt (.tup (es.map Dd.d)) S5):=by
  simp![jX,cG,cH,sq]
 rw[hh,dl_eq]
 simp only[be,u1,ob,aP,f1,u3,u4,f3,Lc,rg,Lu,e5,u7,aX]
end
def lwC:MS:=bN (az (aH cY (ao 2 aR (ac '1' (ac 4e0 ai))) 0e0)) (lr 3 4 (ac 4e0 (ac (ao 1 dm (ac '1' ai)) ai))) aU
def lwT:MS:=lr 5 6 (ac (ao 4 bX (ac (!"book") (ac '2' (ac '3' (ac '4' ai))))) (ac (ao 4 bX (ac (!"held") (ac '2' (ac '3' (ac '4' ai))))) ai))
def lwM:MS:=bN (cP (fg "str" '5')) (bn (iG (aH cY '5' (!"many")) (aH cY '6' (!"many")))) aU
def lwP:ME:=bV (dU '5') '`' bU (bj (ac '0' (ac '0' ai))) [Y]
def lwE:MS:=bn (ao 2 dX (ac '6' (ac (bj (ac (!"alike") (ac (bo (aI (cD .tup)) (ac lwP ai)) ai))) ai)))
theorem UI:Sq=aB (ay (ao 2 dY (ac '0' (ac 0e0 ai))) 'a') (aB (ay (ao 1 fJ (ac '1' ai)) 'b') (aB (ay (aH aW (fR (ac 1e0 (ac 2e0 (ac 2e0 (ac 3e0 ai))))) (ao 2 aR (ac '1' (ac 4e0 ai)))) 'c') (aB (ay (ao 2 dk (ac '1' (ac '3' ai))) 'd') (aB lwC (aB lwT (aB lwM lwE)))))):=rfl
section
variable{S:aa}{r:Rl}{n q:Nat}{ds:List Dd}{a0 a1:Option D}
def vT(q n:Nat)(r:Rl)(ds:List Dd)(a0 a5 a6:Option D):aE:=[a0,U (.ref q),U r.d,U (.int (n:Int)),U (.tup (ds.map Dd.d)),a5,a6]
theorem UK(P:Pk S q)(h1:n<=5)(hd:∀ d∈ds,d.Ok n)(hn:ds.length<=100):∃ (m:Nat) (es:List Dd) (S':aa),lwC (vT q n r ds a0 Y Y) S=U (.nx (vT q m r es a0 Y Y) S')/\m<=5/\(∀ d∈es,d.Ok m)/\es.length<=100:=by
 obtain⟨v,S1,e1,v0,v1,P1,K1⟩:=iz S q 4 P (by decide) (by decide)
 have eq:cY S1 (.int v) (.int 0)=U (.bl (decide (v=0))):=by rw[nU];congr 2
 have tst:(az (aH cY (ao 2 aR (ac '1' (ac 4e0 ai))) 0e0)) (vT q n r ds a0 Y Y) S=U (decide (v=0),S1):=by
  simp![vT,e1,eq]
 unfold lwC
 rw[bA,tst,ob]
 by_cases hv:v=0
 ·rw[Xs hv,bY]
  obtain⟨es,S2,e2,h2,h3⟩:=RA P1
  refine⟨4,es,S2,?_,by decide,h2,h3⟩
  simp![vT,KS,lJ,e2]
  rfl
 ·rw[Xt hv,bW,bE]
  exact⟨n,ds,S1,rfl,h1,hd,hn⟩
theorem UJ(hb:0<=r.b)(h5:n<=5)(hd:∀ d∈ds,d.Ok n)(hn:ds.length<=100):∃ S',(aB lwT (aB lwM lwE)) (vT q n r ds a0 Y Y) S=U (.rt (.bl true) S'):=by
 obtain⟨o,ho⟩:=vm (r:=r) ds 5000 0 [aJ n] (by simp) (by simp) (by decide)
 obtain⟨S1,e1⟩:=toldB (S:=S) hb h5 hd hn ho
 obtain⟨S2,e2⟩:=toldH (S:=S1) hb h5 hd hn ho
 have u1:lwT (vT q n r ds a0 Y Y) S=U (.nx (vT q n r ds a0 (U (tdB o)) (U (Gq o))) S2):=by
  simp only[lwT,vT,KS,aq,bq,ob,am,aA,ak,bG,bK,bJ,oj,aj,av,al,tm,e1,e2]
  rfl
 rw[be,u1,ob,aP]
 cases o with
 | none=>
  have ii:lu "str" S2 (.str "many")=U (.bl true):=rfl
  have eq:cY S2 (.str "many") (.str "many")=U (.bl true):=by rw[kS (by rfl) (by rfl),show iX (.str "many") (.str "many")=true by decide +kernel]
  exact⟨S2,by simp only[lwM,vT,tdB,Gq,be,bA,fY,La,ak,bG,bK,bJ,oj,ob,aj,Lr,ii,hJ,bY,bf,Dg,aQ,ax,bq,aw,eq,LD,bw,cw]⟩
 | some l=>
  obtain⟨hk,hl⟩:=JI 5000 0 [aJ n] l (n:=n) (λR hR=>by rw[XA.mp hR];exact⟨mH,by simp[aJ]⟩) (by simp) ho
  have ii:lu "str" S2 (.tup (l.map aS))=U (.bl false):=rfl
  have k:=jv (S:=S2) (t:=bU) (e:=bj (ac '0' (ac '0' ai))) (cap:=[Y]) (env:=vT q n r ds a0 (U (.tup (l.map aS))) (U (Gq (U l)))) (rest:=[]) (a:=Y) (enc:=aS) (p:=λ_=>true) (f:=λR=>pD (R,R)) (xs:=l) rfl (by omega) (λg _=>by exact mq) (λg _ _=>by
   simp only[bu,aq,ak,bG,oj,ob,aj,am,av,al,de];rfl)
  rw[YT.mpr (λ_ _=>rfl)] at k
  have it:AS (.tup (l.map aS),S2)=U (l.map aS,S2):=rfl
  have v5:∀ S,af 5 (vT q n r ds a0 (U (.tup (l.map aS))) (U (Gq (U l)))) S=U (.tup (l.map aS),S):=λS=>by simp[vT]
  have v6:∀ S,af 6 (vT q n r ds a0 (U (.tup (l.map aS))) (U (Gq (U l)))) S=U (Gq (U l),S):=λS=>by simp[vT]
  have pp:lwP (vT q n r ds a0 (U (.tup (l.map aS))) (U (Gq (U l)))) S2=U (.lst (l.map λR=>pD (R,R)),S2):=by
   simp only[lwP,dN,gZ,v5,ob,it,k]
  have u2:lwM (vT q n r ds a0 (U (.tup (l.map aS))) (U (Gq (U l)))) S2=U (.nx (vT q n r ds a0 (U (.tup (l.map aS))) (U (Gq (U l)))) S2):=by
   simp only[lwM,bA,fY,La,v5,ob,Lr,ii,aj,hJ,bW,bE]
  have se:=OQ (S:=S2) (sameH h5 hk hl)
  refine⟨S2,?_⟩
  show aB lwM lwE (vT q n r ds a0 (U (.tup (l.map aS))) (U (Gq (U l)))) S2=_
  rw[be,u2,ob,aP]
  have tt:D.tup [.str "alike",.tup (l.map λR=>pD (R,R))]=Gq (U l):=rfl
  simp only[lwE,bf,aA,aq,v6,ob,am,bu,bq,cG,pp,av,al,cH,jj,de,tt,ba,se,bw]
end
theorem Lk:∀ ns:List Int,ns.length<=63->∃ S',Bm [.rol (ns.map .int)] []=U (.bl true,S'):=λns hl=>by
 obtain⟨x,y,e1,x0,y0,y1⟩:=left (S:=[]) (ns:=ns) (k:=0) (by decide) (by decide)
 have P1:Pk ([]++[.lst [.int x,.int y,.int 0]]) 0:=WU x0 y0 y1
 obtain⟨r,S2,e2,Ro,P2,_⟩:=rule P1
 obtain⟨j,S3,e3,j0,j1,P3,_⟩:=iz S2 0 4 P2 (by decide) (by decide)
 obtain⟨n,n1,n3,hx⟩:=at_n (S:=S3) j0 j1
 obtain⟨ds,S4,e4,hd,hn,P4⟩:=Rh (n:=n) P3 n1 n3
 obtain⟨m,es,S5,e5,m5,hd5,hn5⟩:=UK (r:=r) (a0:=U (.rol (ns.map .int))) P4 (by omega) hd hn
 obtain⟨S6,e6⟩:=UJ (S:=S5) (r:=r) (q:=0) (a0:=U (.rol (ns.map .int))) Ro.b0 m5 hd5 hn5
 refine⟨S6,?_⟩
 unfold vT at e5 e6
 rw[UC,UI,cO (show [D.rol (ns.map .int)].length=1 from rfl),show bt BL [D.rol (ns.map .int)]=[U (.rol (ns.map .int)),Y,Y,Y,Y,Y,Y] from rfl,be]
 rw[show(ay (ao 2 dY (ac '0' (ac 0e0 ai))) 'a') [U (.rol (ns.map .int)),Y,Y,Y,Y,Y,Y] []=U (.nx [U (.rol (ns.map .int)),U (.ref 0),Y,Y,Y,Y,Y] ([]++[.lst [.int x,.int y,.int 0]])) by
  simp only[bg,aA,aq,ak,bG,bK,bJ,oj,ob,aj,am,bq,av,al,ba,e1,bh,aM,eR,fj,bx];rfl,ob,aP]
 simp only[be,bg,aA,aq,ak,bG,bK,bJ,oj,ob,aj,am,av,al,lJ,e2,bh,aM,eR,fj,bx,aP,aQ,xW,bq,Et,ax,ba,e3,aw,hx,e4,e5]
 rw[be] at e6
 show Option.bind (Option.bind _ _) qN=_
 rw[e6]
 rfl
end K36
end
end
namespace PySem.W.Fast
def tw953265440727690804:=0
def tw13861009044867611242:=0
def tw5029639856625350211:=0
def tw2925340885755254861:=0
def tw1960688545578970135:=0
def tw4111589747483252528:=0
def tw1006988406359616843:=0
def tw15860919590116079477:=0
def tw15642797525021357813:=0
def tw4057765145101487658:=0
def tw13413222970417805579:=0
def tw8273113871570459988:=0
def tw4567023200971685481:=0
def tw14013342622769160918:=0
def tw7371714372054808336:=0
def tw3484799761949701845:=0
def tw8924810061604499201:=0
def tw7729028297178066678:=0
def tw17002432756167271129:=0
def tw5721936596302871697:=0
def tw9176659415339888212:=0
def tw6438188595734004020:=0
def tw9094355591637957878:=0
def tw18009649612824247654:=0
def tw16661081441722889412:=0
def tw6241511044523485225:=0
def tw12242220630537982509:=0
def tw12940881518465771199:=0
def tw11506701733991604298:=0
def tw13021365691714284111:=0
def tw7912674791538336707:=0
def tw5596175320851934679:=0
def tw13159547690367521577:=0
def tw13580417331835722543:=0
def tw7461321719262168492:=0
def tw6619672107885031784:=0
def tw15372931319771018870:=0
def tw7256226389640880993:=0
def tw2094320279703760512:=0
def tw7659251382120724808:=0
def tw9248965452664191344:=0
def tw3756739475930331629:=0
def tw9240848542360340362:=0
def tw795948169103870536:=0
def tw577470001950449188:=0
def tw8254386209369234368:=0
def tw15411657861187880530:=0
def tw1397346299345113208:=0
def tw17041154259295061850:=0
def tw16669690616963134320:=0
def tw2518575056983964349:=0
def tw11828652308406599090:=0
def tw310958923992667405:=0
def tw8474654200184940656:=0
def tw8064559612132409851:=0
def tw4451194798311525212:=0
def tw1652618683246337508:=0
def tw10325680331214583647:=0
def tw4398154354750395193:=0
def tw10408449071478172267:=0
def tw16129436302606261648:=0
def tw16467178324714000276:=0
def tw17983220997737315260:=0
def tw5845265716717406511:=0
def tw9097538236245082513:=0
def tw1474787973017832943:=0
def tw9087103322487345418:=0
def tw1974122734677625176:=0
def tw8004219095229837682:=0
def tw17744380808935246575:=0
def tw7677135308871837842:=0
def tw15771533126681053057:=0
def tw697792779580237614:=0
def tw5163718462610452617:=0
def tw7905390830881506141:=0
def tw7492313555056758471:=0
def tw17520466538813266701:=0
def tw7845401947297847046:=0
def tw11188937382967666683:=0
def tw1067924432541317707:=0
def tw15894795546520635072:=0
def tw12949963715374310836:=0
def tw6434188715952651179:=0
def tw9893054828196896433:=0
def tw687379391774587963:=0
def tw15155153695446852824:=0
def tw13873146718346563519:=0
def tw4865394042028541006:=0
def tw14237140217043479408:=0
def tw1684569951944132725:=0
def tw5017295178935479557:=0
def tw5500611973434229784:=0
def tw10538625996661698446:=0
def tw15485946372693088776:=0
def tw12614249793302907177:=0
def tw2166810229745223537:=0
def tw3890802432927661298:=0
def tw15676781444839291742:=0
def tw8659494522132376578:=0
def tw5707686435598976901:=0
def tw3766839709183510225:=0
def tw5720281376530957676:=0
def tw8877226305075753795:=0
def tw5881644359750065531:=0
end PySem.W.Fast
namespace PySem.W.Fast
def tw8175228330999919467:=0
def tw5999694880879718123:=0
def tw16492187315351733910:=0
def tw5312445823146814382:=0
def tw9532051594686052744:=0
def tw15005448297491559174:=0
def tw1391676193041973805:=0
def tw1499089776407456179:=0
def tw13901702965358132885:=0
def tw14146527895026692573:=0
def tw11476978870708474437:=0
def tw6206874694123268280:=0
def tw6150640635680567479:=0
def tw10522035259413184563:=0
def tw3165382826424879070:=0
def tw3966251882519297228:=0
def tw18428844795622764963:=0
def tw7697613038166521347:=0
def tw9899518992212648052:=0
def tw17759183899194005878:=0
def tw2230727577338316929:=0
def tw8643871159796400010:=0
def tw2943785243146647006:=0
def tw11693363042307288905:=0
def tw11604603796926724768:=0
def tw3302605364823160657:=0
def tw277930585272655530:=0
def tw8281368248889781231:=0
def tw10504572768794504441:=0
def tw7357996542606593723:=0
def tw3839873321029748392:=0
def tw3351561479482938711:=0
def tw205259544794955205:=0
def tw2642179079658567482:=0
def tw16178746117663769862:=0
def tw7541000467836833432:=0
def tw7596118919805658151:=0
def tw2212186237803927406:=0
def tw3937385043407176519:=0
def tw10082067068834130399:=0
def tw9741531256228302953:=0
def tw12516165125333712779:=0
def tw10583916692813186879:=0
def tw14102730499639588825:=0
def tw17549571202285292615:=0
def tw118226528894672363:=0
def tw7053097584450746974:=0
def tw18109210217796656782:=0
def tw2971001328433047946:=0
def tw6037094445219635804:=0
def tw12918301010238563145:=0
def tw17107695287749914735:=0
def tw10803758300436991639:=0
def tw15051854827260917595:=0
def tw16954483779202538095:=0
def tw12030111360303782352:=0
def tw15575749006251750118:=0
def tw6360907156034250222:=0
def tw7370312446213825576:=0
def tw5390934676536114011:=0
def tw15482669921632160296:=0
def tw12986315692168272810:=0
def tw10217889617859981528:=0
def tw12107544268316501097:=0
def tw13624038419198355765:=0
def tw4735159305687392687:=0
def tw13743490281720303106:=0
def tw6448872932754351428:=0
def tw1482052606951783077:=0
def tw13774342409156966030:=0
def tw14054421858866233314:=0
def tw13377001858828384867:=0
def tw10854568438302807910:=0
def tw9124551415049986857:=0
def tw14462248766297318680:=0
def tw7580221670571582639:=0
def tw1090560742920421314:=0
def tw507267596949346666:=0
def tw18026488306899014689:=0
def tw243864296926734751:=0
def tw9774163519063295452:=0
def tw4997428739761345133:=0
def tw24471342701306056:=0
def tw3965310645927055224:=0
def tw2509987017602441301:=0
def tw9621244084815239116:=0
def tw4674192511509007964:=0
def tw5588930098727142452:=0
def tw16381963482398833524:=0
def tw13602917825091992723:=0
def tw9132891944779091511:=0
def tw11535190182811585801:=0
def tw7431479179417185912:=0
def tw9490754358001142859:=0
def tw12937688752705756119:=0
def tw5265892670408262345:=0
def tw2837425684984791588:=0
def tw3670149069043676963:=0
def tw2389071409100704833:=0
def tw2567268973548069129:=0
def tw3506246176714252239:=0
def tw16728073246439342987:=0
def tw15962944157100469002:=0
def tw2770851259806529878:=0
def tw18042023720309300447:=0
def tw1138905762192535420:=0
def tw16488573657949959065:=0
def tw16564906658382383253:=0
def tw6961330086048509762:=0
def tw15365180759601067611:=0
def tw3143348499118664052:=0
def tw2905894554964332010:=0
def tw17394127568117562017:=0
def tw6353796462455726137:=0
def tw8514119669830990418:=0
def tw1803096930761915948:=0
def tw5817740825067617980:=0
def tw17222957413582653489:=0
def tw6844287551739937953:=0
def tw11821581616118156779:=0
def tw11818847983925524732:=0
def tw17505392126296874858:=0
def tw6901266767442410725:=0
def tw5816152314588042248:=0
def tw2003233389320090148:=0
def tw17159900565769179805:=0
def tw17061694282554646444:=0
def tw18284183815119633630:=0
def tw6594542313952115560:=0
def tw17306053822568229626:=0
def tw4487362942847947508:=0
def tw13197557493125304638:=0
def tw7063890430391871531:=0
def tw4666004931313821232:=0
def tw16319867659866290295:=0
def tw11894150388393082890:=0
def tw11590224444859274729:=0
def tw9905521485649334127:=0
def tw7519910389084465874:=0
def tw5970029449894410833:=0
def tw725769471837986710:=0
def tw15245945883169285943:=0
def tw9054624653666304597:=0
def tw15561903185183775201:=0
def tw5593192063817516256:=0
def tw8286858612601316830:=0
def tw11275393322665824193:=0
def tw14402143814725731671:=0
def tw7389760552143397945:=0
def tw12234579803964565475:=0
def tw671228683245679614:=0
def tw17867558178123125201:=0
def tw11524453848122578968:=0
def tw7527426325594330982:=0
def tw2693389666583050570:=0
def tw3845716192731064124:=0
def tw14245618665463239679:=0
def tw7497588259318806564:=0
def tw2114941797695686441:=0
def tw6360883183566298224:=0
def tw15489016951751423858:=0
def tw2754471746798578004:=0
def tw1991846188474453440:=0
def tw9371588699998853200:=0
def tw16078771507684371171:=0
def tw14390622793038942960:=0
def tw12714186736443040422:=0
def tw6728266246015378359:=0
def tw6070847743803120773:=0
def tw8350905160809034411:=0
def tw8258600689396251143:=0
def tw8981721992317981642:=0
def tw15389048846395988278:=0
def tw11929507248618264704:=0
def tw8836815350272700962:=0
def tw13402648141733313784:=0
def tw7078278810011077792:=0
def tw5681444012316836175:=0
def tw3343435980894845023:=0
def tw51087779731627262:=0
def tw16652308628855132790:=0
def tw18125401428942842611:=0
def tw15103666231042059695:=0
def tw8922428079116488624:=0
def tw1444715129091346610:=0
def tw7544340994580926852:=0
def tw7427973714272542672:=0
def tw3424880408513793499:=0
def tw12806617117127026650:=0
def tw15025933335855508309:=0
def tw9894854093074687489:=0
def tw702791636279464345:=0
def tw12319358347025301963:=0
def tw8681485557136933005:=0
def tw3969537182034629571:=0
def tw10754655280651437173:=0
def tw6629601190840959964:=0
def tw11998700080352765166:=0
def tw5314823337356352718:=0
def tw13449112222672142591:=0
def tw3977422816679711465:=0
def tw18250764918898899076:=0
def tw284212929076082196:=0
def tw2726803171148023912:=0
def tw18369398959221752000:=0
def tw2470345939045686730:=0
def tw9231842217541052534:=0
def tw13468952600191131193:=0
def tw1354345982418711129:=0
def tw943595121736135052:=0
def tw15678468166380587697:=0
def tw6788945060417891081:=0
def tw17841506018000075509:=0
def tw17835394418467111676:=0
def tw9625451183815115574:=0
def tw13999780334851788956:=0
def tw5273851011177796500:=0
def tw9059371888656283954:=0
def tw2439127528571783537:=0
def tw14832109155326534944:=0
def tw13322746312064898202:=0
def tw2984195633361262844:=0
def tw12980839706533848840:=0
def tw10681836187314779214:=0
def tw14843938738560700201:=0
def tw15856188842485465239:=0
def tw3514232058368111553:=0
def tw11385270147495546753:=0
def tw2805716471754017892:=0
def tw4561983604611039599:=0
def tw3505649928085500096:=0
def tw3146348053402233791:=0
def tw10265172055675939784:=0
def tw13106707322109366149:=0
def tw12783299399635030133:=0
def tw11182453107080531881:=0
def tw15319984042364497801:=0
def tw6596159162823383433:=0
def tw3170385359550841136:=0
def tw7219151838567435761:=0
def tw16997920454118246852:=0
def tw7572288724622721408:=0
def tw8842591091668243264:=0
def tw6130279346133228854:=0
def tw1226239780049814709:=0
def tw14344164013827187861:=0
def tw15910439667941986252:=0
def tw5197365647143487435:=0
def tw6314117087020827959:=0
def tw2135103715652328431:=0
end PySem.W.Fast
noncomputable def PySem.W.Fast.tw11764909055830687212:PySem.Program:=PySem.Challenge.pw_manyreaders_k36_a_rule_and_itself
theorem PySem.W.Fast.te11764909055830687212:PySem.Challenge.pw_manyreaders_k36_a_rule_and_itself=W.Fast.tw11764909055830687212:=rfl
namespace K36
def c0:He:=fS 0
def c1:He:=fS 1
def c7:He:=fS 7
def c8:He:=fS 8
def c9:He:=fS 9
def c18:He:=fS 18
def c19:He:=fS 19
def c20:He:=fS 20
def c21:He:=fS 21
def c22:He:=fS 22
def c23:He:=fS 23
def c24:He:=fS 24
def c36:He:=fS 36
def c37:He:=fS 37
def c38:He:=fS 38
def c43:He:=fS 43
def c44:He:=fS 44
def c48:He:=fS 48
def pw2:vx:={ PySem.Challenge.pw_manyreaders_k36_a_rule_and_itself with main:={ PySem.Challenge.pw_manyreaders_k36_a_rule_and_itself.main with body:=[c0,c1,mn,dF,ft,db,ip,c7,c8,c9,jH,ir,gG,fu,iq,jG,er,jF,c18,c19,c20,c21,c22,c23,c24,jI,pJ,fv,gH,eG,dG,eE,eD,gF,jE,cJ,c36,c37,c38,pL,el,mj,gE,c43,c44,pI,eH,dE,c48,dc,fC,gI,fB,fA,fD,cm,eI,fz,eJ,vB] } }
def lw:W.OpenLaw:={ PySem.Challenge.rw_manyreaders_k36_a_rule_and_itself with prog:=pw2 }
theorem lw_eq:PySem.Challenge.rw_manyreaders_k36_a_rule_and_itself=lw:=by kernel_rfl
end K36
namespace K36
open L2 MI M
noncomputable def uz:Str:="law_manyreaders_k36_a_rule_and_itself"
noncomputable def On:Str:="manyreaders.rooms"
noncomputable def uy:Str:="manyreaders.deeds"
noncomputable def BS:Str:="manyreaders.doors"
noncomputable def So:Str:="manyreaders.books"
noncomputable def md5:Str:="manyreaders.holding"
noncomputable def kf0(P:Params):QF:=[(3,⟨.type "dict",Y,.dict #[kE P "__name__" 165 (.str "law_manyreaders_k36_a_rule_and_itself" 644),kE P "__doc__" 166 .none,kE P "__package__" 167 .none,kE P "__loader__" 168 (.builtin "__main__.__loader__#opaque"),kE P "__spec__" 169 .none,kE P "__annotations__" 170 (.ref 6),kE P "__builtins__" 171 (.ref 4),kE P "__file__" 173 (.str "/claim/cut.py" 172),kE P "__cached__" 174 .none,kE P "WRITING_WORDS" 191 (.ref 15),kE P "empty" 198 (.ref 22),kE P "guests_with" 204 (.ref 27),kE P "with_word" 215 (.ref 34),kE P "without_wait" 221 (.ref 39),kE P "waiting" 230 (.ref 46),kE P "FAVOURED" 244 (.ref 47),kE P "WORD_WITHIN" 251 (.ref 48),kE P "can_go" 257 (.ref 53),kE P "next_in" 266 (.ref 60),kE P "foremost" 272 (.ref 65),kE P "next_past" 284 (.ref 72),kE P "settled" 294 (.ref 79),kE P "coming" 303 (.ref 86),kE P "brought_by" 314 (.ref 93),kE P "let_in" 320 (.ref 98),kE P "GuestError" 340 (.ref 108),kE P "NoDeed" 365 (.ref 128),kE P "NoText" 390 (.ref 147),kE P "TooMany" 406 (.ref 159),kE P "NoLine" 422 (.ref 171),kE P "can_do" 435 (.ref 180),kE P "done" 445 (.ref 187),kE P "bring_ask" 461 (.ref 194),kE P "bring_up" 472 (.ref 201),kE P "bring_down" 482 (.ref 208),kE P "bring_leave" 492 (.ref 215),kE P "bring_stop" 503 (.ref 222),kE P "bring_tick" 509 (.ref 227),kE P "one_less" 516 (.ref 234),kE P "turned" 522 (.ref 239),kE P "settled_behind" 532 (.ref 246),kE P "BRINGS" 547 (.ref 247),kE P "MOST_ROOMS" 551 (.int 2000 550),kE P "book" 560 (.ref 254),kE P "first_ways" 577 (.ref 261),kE P "moves" 590 (.ref 268),kE P "row_back" 600 (.ref 275),kE P "MOST_PAIRS" 604 (.int 2000 603),kE P "held" 621 (.ref 282),kE P "both_moves" 627 (.ref 287),kE P "pair_behind" 643 (.ref 294),kE P "_law_cell_at" 653 (.ref 301),kE P "_law_left" 663 (.ref 308),kE P "_law_far" 671 (.ref 315),kE P "_law_pick" 680 (.ref 322),kE P "_law_rule" 690 (.ref 329),kE P "_law_deed" 700 (.ref 336),kE P "_law_same" 706 (.ref 341),kE P "_law_deeds" 712 (.ref 346),kE P "_law_told" 725 (.ref 353),kE P "_law_crowd" 735 (.ref 360),kE P "law" 741 (.ref 365)] 62,#[]⟩),(15,⟨.type "tuple",Y,.seq #[.str "writes" 189,.str "raised" 190] 0,#[]⟩),(21,kC "empty" 192 3 1 16 17 (.ref 18) (.ref 19) 20 196),(22,kF "empty" mn On 187 21),(26,kC "guests_with" 199 5 2 23 24 .none .none 25 202),(27,kF "guests_with" dF On 187 26),(33,kC "with_word" 205 7 3 28 29 (.ref 30) (.ref 31) 32 213),(34,kF "with_word" ft On 187 33)]
noncomputable def kf1(P:Params):QF:=[(38,kC "without_wait" 216 10 2 35 36 .none .none 37 219),(39,kF "without_wait" db On 187 38),(45,kC "waiting" 222 13 2 40 41 (.ref 42) (.ref 43) 44 228),(46,kF "waiting" ip On 187 45),(47,⟨.type "dict",Y,.dict #[kE P "rows" 233 .none,kE P "readers" 234 (.str "read" 235),kE P "writers" 236 (.str "write" 237),kE P "turns" 238 (.str "write" 239)] 4,#[]⟩),(48,⟨.type "dict",Y,.dict #[kE P "read" 245 (.str "reads" 246),kE P "write" 247 (.str "writes" 248)] 2,#[]⟩),(52,kC "can_go" 252 23 3 49 50 .none .none 51 255),(53,kF "can_go" jH BS 231 52)]
noncomputable def kf2(P:Params):QF:=[(59,kC "next_in" 258 32 2 54 55 (.ref 56) (.ref 57) 58 264),(60,kF "next_in" ir BS 231 59),(64,kC "foremost" 267 37 2 61 62 .none .none 63 270),(65,kF "foremost" gG BS 231 64),(71,kC "next_past" 273 42 2 66 67 (.ref 68) (.ref 69) 70 282),(72,kF "next_past" fu BS 231 71),(78,kC "settled" 285 49 2 73 74 (.ref 75) (.ref 76) 77 292),(79,kF "settled" iq BS 231 78)]
noncomputable def kf3(P:Params):QF:=[(85,kC "coming" 295 57 2 80 81 (.ref 82) (.ref 83) 84 301),(86,kF "coming" jG BS 231 85),(92,kC "brought_by" 304 63 3 87 88 (.ref 89) (.ref 90) 91 312),(93,kF "brought_by" er BS 231 92),(97,kC "let_in" 315 68 3 94 95 .none .none 96 318),(98,kF "let_in" jF BS 231 97),(107,⟨.type "dict",Y,.dict #[kE P "__module__" 330 (.str "manyreaders.errors" 321),kE P "__firstlineno__" 334 (.int 76 333),kE P "__static_attributes__" 335 (.ref 106),kE P "__weakref__" 337 (.ref 109),kE P "__doc__" 338 .none] 3,#[]⟩),(108,kX "GuestError" 108 107 [.type "ValueError"] HT.ly [.ref 128,.ref 147,.ref 159,.ref 171] 99 323 331)]
noncomputable def kf4(P:Params):QF:=[(128,kX "NoDeed" 128 127 [.ref 108] (.ref 108::HT.ly) [] 112 341 349),(147,kX "NoText" 147 146 [.ref 108] (.ref 108::HT.ly) [] 131 366 374),(158,⟨.type "dict",Y,.dict #[kE P "__module__" 398 (.str "manyreaders.errors" 321),kE P "__firstlineno__" 402 (.int 86 401),kE P "__static_attributes__" 403 (.ref 157),kE P "__doc__" 404 .none] 2,#[]⟩),(159,kX "TooMany" 159 158 [.ref 108] (.ref 108::HT.ly) [] 150 391 399),(171,kX "NoLine" 171 170 [.ref 108] (.ref 108::HT.ly) [] 162 407 415),(179,kC "can_do" 425 91 2 174 175 (.ref 176) (.ref 177) 178 433),(180,kF "can_do" jI uy 423 179),(186,kC "done" 436 105 3 181 182 (.ref 183) (.ref 184) 185 443)]
noncomputable def kf5(P:Params):QF:=[(187,kF "done" pJ uy 423 186),(193,kC "bring_ask" 446 108 3 188 189 (.ref 190) (.ref 191) 192 459),(194,kF "bring_ask" fv uy 423 193),(200,kC "bring_up" 462 118 3 195 196 (.ref 197) (.ref 198) 199 470),(201,kF "bring_up" gH uy 423 200),(207,kC "bring_down" 473 126 3 202 203 (.ref 204) (.ref 205) 206 480),(208,kF "bring_down" eG uy 423 207),(214,kC "bring_leave" 483 129 3 209 210 (.ref 211) (.ref 212) 213 490)]
noncomputable def kf6(P:Params):QF:=[(215,kF "bring_leave" dG uy 423 214),(221,kC "bring_stop" 493 132 3 216 217 (.ref 218) (.ref 219) 220 501),(222,kF "bring_stop" eE uy 423 221),(226,kC "bring_tick" 504 139 3 223 224 .none .none 225 507),(227,kF "bring_tick" eD uy 423 226),(233,kC "one_less" 510 145 1 228 229 (.ref 230) (.ref 231) 232 514),(234,kF "one_less" gF uy 423 233),(238,kC "turned" 517 147 3 235 236 .none .none 237 520)]
noncomputable def kf7(P:Params):QF:=[(239,kF "turned" jE uy 423 238),(245,kC "settled_behind" 523 152 3 240 241 (.ref 242) (.ref 243) 244 530),(246,kF "settled_behind" cJ uy 423 245),(247,⟨.type "dict",Y,.dict #[kE P "read" 533 (.ref 194),kE P "write" 534 (.ref 194),kE P "up" 535 (.ref 201),kE P "down" 536 (.ref 208),kE P "leave" 537 (.ref 215),kE P "stop" 538 (.ref 222),kE P "tick" 539 (.ref 227)] 7,#[]⟩),(253,kC "book" 552 158 3 248 249 (.ref 250) (.ref 251) 252 558),(254,kF "book" pL So 548 253),(260,kC "first_ways" 561 160 3 255 256 (.ref 257) (.ref 258) 259 575),(261,kF "first_ways" el So 548 260)]
noncomputable def kf8(P:Params):QF:=[(267,kC "moves" 578 175 3 262 263 (.ref 264) (.ref 265) 266 588),(268,kF "moves" mj So 548 267),(274,kC "row_back" 591 182 2 269 270 (.ref 271) (.ref 272) 273 598),(275,kF "row_back" gE So 548 274),(281,kC "held" 605 191 4 276 277 (.ref 278) (.ref 279) 280 619),(282,kF "held" pI md5 601 281),(286,kC "both_moves" 622 208 4 283 284 .none .none 285 625),(287,kF "both_moves" eH md5 601 286)]
noncomputable def kf9(P:Params):QF:=[(293,kC "pair_behind" 628 212 4 288 289 (.ref 290) (.ref 291) 292 641),(294,kF "pair_behind" dE md5 601 293),(300,kC "_law_cell_at" 646 220 2 295 296 (.ref 297) (.ref 298) 299 651),(301,kF "_law_cell_at" dc uz 644 300),(307,kC "_law_left" 654 224 2 302 303 (.ref 304) (.ref 305) 306 661),(308,kF "_law_left" fC uz 644 307),(314,kC "_law_far" 664 231 0 309 310 (.ref 311) (.ref 312) 313 669),(315,kF "_law_far" gI uz 644 314)]
noncomputable def kf10(P:Params):QF:=[(321,kC "_law_pick" 672 236 2 316 317 (.ref 318) (.ref 319) 320 678),(322,kF "_law_pick" fB uz 644 321),(328,kC "_law_rule" 681 244 1 323 324 (.ref 325) (.ref 326) 327 688),(329,kF "_law_rule" fA uz 644 328),(335,kC "_law_deed" 691 249 2 330 331 (.ref 332) (.ref 333) 334 698),(336,kF "_law_deed" fD uz 644 335),(340,kC "_law_same" 701 257 2 337 338 .none .none 339 704),(341,kF "_law_same" cm uz 644 340)]
noncomputable def kf11(P:Params):QF:=[(345,kC "_law_deeds" 707 274 2 342 343 .none .none 344 710),(346,kF "_law_deeds" eI uz 644 345),(352,kC "_law_told" 713 287 4 347 348 (.ref 349) (.ref 350) 351 723),(353,kF "_law_told" fz uz 644 352),(359,kC "_law_crowd" 726 299 1 354 355 (.ref 356) (.ref 357) 358 733),(360,kF "_law_crowd" eJ uz 644 359),(364,kC "law" 736 304 1 361 362 .none .none 363 739),(365,kF "law" vB uz 644 364)]
noncomputable def eV(P:Params):QF:=(((kf0 P)++((kf1 P)++(kf2 P)))++((kf3 P)++((kf4 P)++(kf5 P))))++(((kf6 P)++((kf7 P)++(kf8 P)))++((kf9 P)++((kf10 P)++(kf11 P))))
noncomputable def kads:List td:=[3,15,21,22,26,27,33,34,38,39,45,46,47,48,52,53,59,60,64,65,71,72,78,79,85,86,92,93,97,98,107,108,128,147,158,159,171,179,180,186,187,193,194,200,201,207,208,214,215,221,222,226,227,233,234,238,239,245,246,247,253,254,260,261,267,268,274,275,281,282,286,287,293,294,300,301,307,308,314,315,321,322,328,329,335,336,340,341,345,346,352,353,359,360,364,365]
theorem Km:IP (eV P) cX:=⟨⟨by kernel_rfl,by kernel_rfl,by kernel_rfl⟩,by kernel_rfl,by kernel_rfl,by kernel_rfl,by kernel_rfl,by kernel_rfl⟩
theorem txt{w:Gs}(X:(eV w.params).In h)(G:h.Ns Lg mg):Txt w (eV w.params) mg:=
 ⟨da X G uz 301 644 300,da X G uz 315 644 314,da X G uz 308 644 307,da X G uz 322 644 321,da X G uz 329 644 328,da X G uz 336 644 335,da X G uz 346 644 345,da X G uz 341 644 340,da X G On 22 187 21,da X G On 27 187 26,da X G On 46 187 45,da X G uy 180 423 179,da X G BS 65 231 64,da X G BS 53 231 52,da X G BS 72 231 71,da X G BS 60 231 59,da X G BS 86 231 85,da X G On 34 187 33,da X G BS 98 231 97,da X G BS 93 231 92,da X G BS 79 231 78,da X G On 39 187 38,da X G uy 194 423 193,da X G uy 201 423 200,da X G uy 246 423 245,da X G uy 239 423 238,da X G uy 208 423 207,da X G uy 215 423 214,da X G uy 222 423 221,da X G uy 234 423 233,da X G uy 227 423 226,da X G uy 187 423 186,da X G So 268 548 267,da X G So 261 548 260,da X G So 254 548 253,da X G md5 294 601 293,da X G md5 287 601 286,da X G So 275 548 274,da X G md5 282 601 281,da X G uz 353 644 352,da X G uz 360 644 359,da X G uz 365 644 364,Yo X G (by kernel_rfl),Yo X G (by kernel_rfl),Yo X G (by kernel_rfl),Yo X G (by kernel_rfl),Yo X G (by kernel_rfl),Yo X G (by kernel_rfl),Yo X G (by kernel_rfl),Yo X G (by kernel_rfl),Yo X G (by kernel_rfl),Yo X G (by kernel_rfl),Yo X G (by kernel_rfl),Yo X G (by kernel_rfl),Yo X G (by kernel_rfl),Vv (Zi X G (show W.nsIn (eV w.params) Lg "BRINGS" = U (U (.ref 247)) by kernel_rfl)) (show(eV w.params).lookup 247=U ⟨.type "dict",Y,.dict #[⟨PyData.keyHash w.params "read",.str "read" 533,.ref 194⟩,⟨PyData.keyHash w.params "write",.str "write" 534,.ref 194⟩,⟨PyData.keyHash w.params "up",.str "up" 535,.ref 201⟩,⟨PyData.keyHash w.params "down",.str "down" 536,.ref 208⟩,⟨PyData.keyHash w.params "leave",.str "leave" 537,.ref 215⟩,⟨PyData.keyHash w.params "stop",.str "stop" 538,.ref 222⟩,⟨PyData.keyHash w.params "tick",.str "tick" 539,.ref 227⟩] 7,#[]⟩ by kernel_rfl) (.cons (.cons (.cons (.cons (.cons (.cons (.cons (.nil)))))))) (show List.Nodup ([.inr "read",.inr "write",.inr "up",.inr "down",.inr "leave",.inr "stop",.inr "tick"]:List bC) by decide +kernel) (.cons (Zi X G (show W.nsIn (eV w.params) Lg "bring_ask" = U (U (.ref 194)) by kernel_rfl)) (.cons (Zi X G (show W.nsIn (eV w.params) Lg "bring_ask" = U (U (.ref 194)) by kernel_rfl)) (.cons (Zi X G (show W.nsIn (eV w.params) Lg "bring_up" = U (U (.ref 201)) by kernel_rfl)) (.cons (Zi X G (show W.nsIn (eV w.params) Lg "bring_down" = U (U (.ref 208)) by kernel_rfl)) (.cons (Zi X G (show W.nsIn (eV w.params) Lg "bring_leave" = U (U (.ref 215)) by kernel_rfl)) (.cons (Zi X G (show W.nsIn (eV w.params) Lg "bring_stop" = U (U (.ref 222)) by kernel_rfl)) (.cons (Zi X G (show W.nsIn (eV w.params) Lg "bring_tick" = U (U (.ref 227)) by kernel_rfl)) (.nil)))))))),Jj (Zi X G (show W.nsIn (eV w.params) Lg "FAVOURED" = U (U (.ref 47)) by kernel_rfl)) (show(eV w.params).lookup 47=U ⟨.type "dict",Y,.dict #[⟨PyData.keyHash w.params "rows",.str "rows" 233,.none⟩,⟨PyData.keyHash w.params "readers",.str "readers" 234,.str "read" 235⟩,⟨PyData.keyHash w.params "writers",.str "writers" 236,.str "write" 237⟩,⟨PyData.keyHash w.params "turns",.str "turns" 238,.str "write" 239⟩] 4,#[]⟩ by kernel_rfl) (.cons (.cons (.cons (.cons (.nil))))) (show List.Nodup ([.inr "rows",.inr "readers",.inr "writers",.inr "turns"]:List bC) by decide +kernel) (.cons .non rfl (λ_ _ _=>.non) (.cons (V.str "read") ⟨_,rfl⟩ (λ_ _ _=>.str _) (.cons (V.str "write") ⟨_,rfl⟩ (λ_ _ _=>.str _) (.cons (V.str "write") ⟨_,rfl⟩ (λ_ _ _=>.str _) (.nil))))),⟨_,V.int 2000,Zi X G (show W.nsIn (eV w.params) Lg "MOST_PAIRS" = U (U (.int 2000 603)) by kernel_rfl),⟨_,rfl⟩,λμ H=>.int _⟩,⟨_,V.int 2000,Zi X G (show W.nsIn (eV w.params) Lg "MOST_ROOMS" = U (U (.int 2000 550)) by kernel_rfl),⟨_,rfl⟩,λμ H=>.int _⟩,Jj (Zi X G (show W.nsIn (eV w.params) Lg "WORD_WITHIN" = U (U (.ref 48)) by kernel_rfl)) (show(eV w.params).lookup 48=U ⟨.type "dict",Y,.dict #[⟨PyData.keyHash w.params "read",.str "read" 245,.str "reads" 246⟩,⟨PyData.keyHash w.params "write",.str "write" 247,.str "writes" 248⟩] 2,#[]⟩ by kernel_rfl) (.cons (.cons (.nil))) (show List.Nodup ([.inr "read",.inr "write"]:List bC) by decide +kernel) (.cons (V.str "reads") ⟨_,rfl⟩ (λ_ _ _=>.str _) (.cons (V.str "writes") ⟨_,rfl⟩ (λ_ _ _=>.str _) (.nil))),⟨_,.ref 15,Zi X G (show W.nsIn (eV w.params) Lg "WRITING_WORDS" = U (U (.ref 15)) by kernel_rfl),rfl,λμ H=>.ktup (vs:=[V.str "writes",V.str "raised"]) ⟨_,_,_,(show(eV w.params).lookup 15=U ⟨.type "tuple",Y,.seq #[.str "writes" 189,.str "raised" 190] 0,#[]⟩ by kernel_rfl),rfl,rfl,rfl,(show 2<=KY by decide),.cons ⟨_,rfl⟩ (.cons ⟨_,rfl⟩ (.nil))⟩ (.cons (.str _) (.cons (.str _) (.nil)))⟩,rseK X G (g:="GuestError") 159 158 108 107 150 391 399 99 323 331 [] [.ref 128,.ref 147,.ref 159,.ref 171] (by kernel_rfl),hndK X G (x:="TooMany") 159 158 108 107 150 391 399 99 323 331 [.ref 108] (.ref 108::HT.ly) [.type "ValueError"] HT.ly [] [.ref 128,.ref 147,.ref 159,.ref 171] (by kernel_rfl),RB X G cX 128 Km (by kernel_rfl),RB X G cX 171 Km (by kernel_rfl),RB X G cX 147 Km (by kernel_rfl),RB X G cX 159 Km (by kernel_rfl),clsT X G (T:="ValueError") cX Km (by decide) rfl (by kernel_rfl)⟩
end K36
open PySem.W
set_option maxRecDepth 100000 in
set_option maxHeartbeats 0 in
theorem PySem.Challenge.cw_manyreaders_k36_a_rule_and_itself_holds : PySem.Challenge.rw_manyreaders_k36_a_rule_and_itself.Holds := by
 rw[K36.lw_eq];w_on;o_law;o_head (kHook K36.eV K36.kads (λ_=>by kernel_rfl));(case hw=>w_witness2)
 exact K36.walk (l:=K36.lw) rfl rfl rfl (λw h Y0=>PySem.W.kIn_of Y0) K36.Lk λw mg h KX G=>K36.txt KX G

end
