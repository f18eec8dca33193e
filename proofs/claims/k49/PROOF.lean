import PyProof.Rows.All
import Wide.All
import OpenK.AllK
import Wide.FinOn
import Lean
import KE.KIntText
import PyProof.EqAt
import PyProof.EqKinds
import PyProof.TupleCall
import PySem.Challenge.RW_manyreaders_k49_rules_and_rooms_refused
set_option genSizeOf false
set_option genSizeOfSpec false
set_option compiler.extract_closed false
set_option bootstrap.genMatcherCode false
open Option renaming some -> U,none -> Y
local macro_rules|`(tactic|ac_rfl)=>`(tactic|exact⟨rfl,rfl,rfl,by decide +kernel,rfl,by decide +kernel,by decide +kernel⟩)
noncomputable section
set_option Elab.async false
set_option linter.all false
set_option maxRecDepth 100000
open PySem renaming Value -> dn,Shared -> gw,Addr -> gV,Expr -> pc,Program -> pr,World -> sv,Stmt -> tu,Around -> tx,Heap -> wo,sizeLine -> ww,starEach -> zH,foldedSetIterable -> zI,mainGlobals -> Cn,compareOp -> Db,binaryOp -> Ec,wpAny -> Ew
open PySem.W renaming Frag -> FA
open List renaming replicate -> Ga
open PySem PySem.Spec PyProof.Rows
section
local macro_rules|`(command|def $x:declId $y:optDeclSig $v:declVal)=>`(command|noncomputable def $x:declId $y:optDeclSig $v:declVal)
def Ww:=@Option.bind_eq_some_iff
def Wx:=@wpAny_bind
def Wy:=@Heap.get?_push_of_some
def Wz:=@Bool.and_eq_true
def WA:=@wpAny_pure
def WB:=@List.mem_cons_of_mem
def WC:=@List.getElem?_eq_some_iff
def WD:=@List.size_toArray
def WE:=@List.mem_cons_self
def WF:=@List.length_cons
def WG:=@Heap.lt_size
def WH:=@Nat.le_refl
def WI:=@List.length_map
def WJ:=@Bool.false_ne_true
def WK:=@List.getElem?_eq_getElem
def WL:=@Heap.get?_push_size
def WM:=@decide_eq_true_eq
def WN:=@if_pos
def WO:=@List.map_cons
def WP:=@List.all_eq_true
def WQ:=@List.mem_cons
def WR:=@Bool.false_eq_true
def WS:=@List.getElem?_append_left
def WT:=@Heap.get?_update_other
def WU:=@Bool.not_true
def WV:=@wpAny_mono
def WW:=@Nat.lt_of_lt_of_le
def WX:=@if_neg
def WY:=@Bool.not_false
def WZ:=@Nat.ne_of_lt
def Xa:=@Nat.le_trans
def Xb:=@List.mem_append
def Xc:=@List.mem_singleton
def Xd:=@wpAny_holding
def Xe:=@Bool.false_and
def Xf:=@List.length_append
def Xg:=@wpAny_newObj_type
def Xh:=@Heap.get?_update_self
def Xi:=@Bool.true_and
def Xj:=@List.mem_append_right
def Xk:=@decide_eq_true
def Xl:=@List.getElem?_set_ne
def Xm:=@List.replicate_succ
def Xn:=@List.not_mem_nil
def Xo:=@decide_eq_false
def Xp:=@Option.some.inj
def Xq:=@Bool.eq_iff_iff
def Xr:=@wpAny_field
def Xs:=@List.mem_map
def Xt:=@List.append_nil
def Xu:=@List.filterMap_cons
def Xv:=@List.getElem?_set_self
def Xw:=@List.mem_of_getElem?
def Xx:=@if_false
def Xy:=@Heap.get?_update_ne
def Xz:=@PyProof.Rows.slot_tuple_getitem
def XA:=@List.mem_append_left
def XB:=@wpAny_setField
def XC:=@List.all_cons
def XD:=@W.mg_none_of
def XE:=@wpAny_standAt
def XF:=@wpAny_callSpecial?_slot
def XG:=@List.length_nil
def XH:=@codeAny_mono
def XI:=@Nat.ne_of_gt
def XJ:=@List.getElem?_append_right
def XM:=@of_decide_eq_true
def XN:=@PySem.mem_of_lookup
def XO:=@List.flatten_cons
def XQ:=@List.append_assoc
def XR:=@List.take_append_drop
def XS:=@Nat.lt_irrefl
def XT:=@List.nodup_append
def XU:=@List.getElem?_map
def XV:=@List.filter_eq_self
def XW:=@Heap.SameBut.update
def XX:=@List.drop_eq_getElem_cons
def XY:=@Heap.size_push
def XZ:=@List.mem_of_mem_take
def Ya:=@wpAny_loadPart_at
def Yb:=@call_meets
def Yc:=@W.kia_one
def Yd:=@Option.isSome_iff_exists
def Ye:=@List.mem_filter
def Yf:=@List.map_append
def Yg:=@List.foldl_cons
def Yh:=@beq_eq_false_iff_ne
def Yi:=@List.sum_cons
def Yj:=@Array.length_toList
def Yk:=@wpAny_call_entry
def Yl:=@wpAny_seqItems
def Ym:=@List.mem_range
def Yn:=@or_false
def Yo:=@Obj.data_mapFields
def Yp:=@Nat.lt_of_le_of_lt
def Yq:=@if_true
def Yr:=@Obj.isFreed_of_fields
def Ys:=@List.nodup_cons
def Yt:=@List.map_map
def Yu:=@List.getElem?_eq_none
def Yv:=@List.forIn_cons
def Yw:=@List.all_map
def Yx:=@wpAny_truthy_bool
def Yy:=@wpAny_pyIter_list
def Yz:=@List.any_cons
def YA:=@Int.toNat_natCast
def YB:=@F.slot_tuple_iterator_next
def YC:=@Array.getElem?_eq_some_iff
def YD:=@List.length_take
def YE:=@List.length_drop
def YF:=@wpAny_getItem_str_slice
def YG:=@wpAny_Call_Name_kw
def YH:=@W.mg_of
def YI:=@Int.emod_nonneg
def YJ:=@Option.map_eq_some_iff
def YK:=@Nat.le_of_succ_le_succ
def YL:=@List.take_of_length_le
def YM:=@List.reverse_cons
def YN:=@List.length_singleton
def YO:=@beq_self_eq_true
def YQ:=@Str.append_assoc
def YR:=@List.lookup_cons
def YS:=@List.eq_nil_of_length_eq_zero
def YT:=@List.mem_of_mem_drop
def YU:=@typeIs_str
def YV:=@wpAny_passesOwn
def YW:=@wpAny_isSubtype_exc
def YX:=@wpAny_execs_nil
def YY:=@PyProof.Rows.callWith_type1
def YZ:=@Nat.zero_le
def Za:=@List.nil_append
def Zb:=@List.mem_map_of_mem
def Zc:=@Bool.or_eq_true
def Zd:=@Calls.Name_function_global
def Ze:=@Nat.le_of_lt
def Zf:=@List.drop_zero
def Zg:=@wpAny_comprehension_free
def Zh:=@wpAny_call
def Zi:=@Nat.lt_succ_of_lt
def Zj:=@AutoSeq1.sub_tuple_tuple
def Zk:=@F.plain_set_update_loop
def Zl:=@List.drop_length
def Zm:=@List.any_eq_true
def Zn:=@F.slot_str_split
def Zo:=@F.plainAttrs_str
def Zp:=@Calls.callWith_builtin
def Zq:=@post_val_or_str
def Zr:=@Nat.succ_mul
def Zs:=@List.mem_iff_getElem?
def Zt:=@List.map_nil
def Zu:=@List.find?_cons
def Zv:=@List.count_cons
def Zw:=@F.slot_zip_next
def Zx:=@F.slot_int_rmul
def Zy:=@wpAny_rule
def Zz:=@codeAny_call_builtin
def ZA:=@Calls.evalArgs_plain
def ZB:=@slicePart_none
def ZC:=@sizeLine_eq
def ZD:=@ne_true_of_eq_false
def ZE:=@entry_tuple_getitem
def ZF:=@List.takeWhile_cons
def ZG:=@List.map_congr_left
def ZH:=@wpAny_pyIter_tuple
def ZI:=@wpAny_onRaise
def ZJ:=@wpAny_attempt
def ZK:=@evalPart_none
def ZL:=@assignInOrder_cons
def ZM:=@args_tuple_getitem
def ZN:=@StrLaws.join_split
def ZO:=@List.mem_filterMap
def ZP:=@List.contains_cons
def ZQ:=@Int.emod_lt_of_pos
def ZR:=@Heap.IsSliceOf.new
def ZS:=@F.args_tuple_add_2
def ZT:=@F.args_str_split_2
def ZU:=@Code.quiet_builtin
def ZV:=@Bool.and_true
def ZW:=@wpAny_sequenceKey
def ZX:=@typeIs_int
def ZY:=@eqIsQuiet_byValue
def ZZ:=@List.pairwise_map
def aaa:=@List.length_range
def aab:=@F.entry_tuple_add
def aac:=@F.entry_str_split
def aad:=@wpAny_typeOf
def aae:=@Nat.mul_comm
def aaf:=@Nat.le_of_eq
def aag:=@Bool.or_true
def aah:=@wpAny_execs_cons
def aai:=@noFill_tuple_add
def aaj:=@List.mem_flatMap
def aak:=@F.slot_tuple_add
def aal:=@AutoSeq1.idx_int
def aam:=@F.args_tuple_iterator_next_1
def aan:=@wpAny_specialOf
def aao:=@codeAny_of_tree
def aap:=@codeAny_builtin
def aaq:=@boot_isinstance
def aar:=@W.kitx_list
def aas:=@Sum.inr.inj
def aat:=@PassesOwn.never
def aau:=@Nat.le_succ
def aav:=@List.of_mem_zip
def aaw:=@F.slot_dict_get
def aax:=@F.entry_tuple_iterator_next
def aay:=@wpAny_bindName
def aaz:=@wpAny_binaryOp_repeat_ref
def aaA:=@List.nodup_nil
def aaB:=@Bool.and_false
def aaC:=@Bool.and_assoc
def aaD:=@Array.getElem?_eq_getElem
def aaE:=@wpAny_getItem_list_slice
def aaF:=@intBits_le
def aaG:=@Subscript_
def aaH:=@Nat.not_lt
def aaI:=@List.getElem?_take_of_lt
def aaJ:=@tupleItemsOf_
def aaK:=@tail_any
def aaL:=@seq_tuple_add
def aaM:=@Paired.length
def aaN:=@List.map_take
def aaO:=@List.getElem?_cons_succ
def aaP:=@F.entry_set_update_loop
def aaQ:=@Calls.loadGlobal_global
def aaR:=@Bool.or_false
def aaS:=@Bool.false_or
def aaT:=@wpAny_pyNext_list_item
def aaU:=@wpAny_Call_method_late
def aaV:=@subscriptTail_builtinR
def aaW:=@List.range_succ_eq_map
def aaX:=@wpAny_pyNext_list_end
def aaY:=@seqIndex_neg
def aaZ:=@pure_bind
def aba:=@concat_meets
def abb:=@boot_list
def abc:=@List.length_filter_le
def abd:=@Int.ediv_one
def abe:=@wpAny_newFunctionEnv
def abf:=@Heap.get?_none_of_le
def abg:=@Bool.and_eq_true_iff
def abh:=@Array.mem_toList_iff
def abi:=@Around.under_plainId
def abj:=@wpAny_of_eq
def abk:=@wpAny_Slice
def abl:=@seqIndex_of
def abm:=@W.kitx_dict
def abn:=@Nat.mul_le_mul_left
def abo:=@List.toList_toArray
def abp:=@List.length_reverse
def abq:=@wpAny_entryPlaceOf
def abr:=@not_or
def abt:=@List.filterMap_map
def abu:=@F.slot_list_insert
def abv:=@F.slot_list_append
def abw:=@Calls.Constant_str
def abx:=@Array.size_extract
def aby:=@Array.forIn_toList
def abz:=@Array.find?_toList
namespace L2
noncomputable abbrev bD:=Sum Int Str
def wd:bD->dn->Bool
 | .inl k,v=>Value.isInt k v
 | .inr x,v=>Value.isStrOf x v
def keyH(w:sv):bD->Int
 | .inl k=>hashInt k
 | .inr x=>hashStr w x
theorem cR:∀ {k:bD} {v:dn},wd k v=true->(∃ i t,k=Sum.inl i/\v=Value.int i t)\/(∃ x t,k=Sum.inr x/\v=Value.str x t)
 | .inl i,v,h=>by
  obtain⟨t,e⟩:=Value.isInt_shape (k:=i) (v:=v) h
  exact .inl ⟨i,t,rfl,e⟩
 | .inr x,v,h=>by
  obtain⟨t,e⟩:=Value.isStrOf_shape (x:=x) (v:=v) h
  exact .inr ⟨x,t,rfl,e⟩
theorem FX(i:Int)(t:Tok):wd (.inl i) (.int i t)=true:=by simp[wd,Value.isInt]
theorem FW(x:Str)(t:Tok):wd (.inr x) (.str x t)=true:=by simp[wd,Value.isStrOf]
theorem Uz(a b:Int):decide ((Sum.inl a:bD)=Sum.inl b)=(a==b):=by
 by_cases e:a=b
 ·subst e;simp
 ·have h:¬ (Sum.inl a:bD)=Sum.inl b:=λq=>e (Sum.inl.inj q)
  rw[Xo h]
  exact(Yh.mpr e).symm
theorem Uw(a b:Str):decide ((Sum.inr a:bD)=Sum.inr b)=decide (a=b):=by
 by_cases e:a=b
 ·subst e;simp
 ·have h:¬ (Sum.inr a:bD)=Sum.inr b:=λq=>e (aas q)
  rw[Xo h,Xo e]
theorem Uy(a:Int)(b:Str):decide ((Sum.inl a:bD)=Sum.inr b)=false:=Xo (λq=>nomatch q)
theorem Ux(a:Str)(b:Int):decide ((Sum.inr a:bD)=Sum.inl b)=false:=Xo (λq=>nomatch q)
def fh(prog:pr)(w:sv):PySem.KeyKind prog w bD where
 is:=wd
 hash:=keyH w
 inj:=λv a b ha hb=>by
  rcases cR ha with ⟨i,t,rfl,rfl⟩ | ⟨x,t,rfl,rfl⟩
  ·rcases cR hb with ⟨j,u,rfl,e⟩ | ⟨y,u,rfl,e⟩
   ·injection e with e1 _;rw[e1]
   ·exact nomatch e
  ·rcases cR hb with ⟨j,u,rfl,e⟩ | ⟨y,u,rfl,e⟩
   ·exact nomatch e
   ·injection e with e1 _;rw[e1]
 byValue:=λk v h=>by
  rcases cR h with ⟨i,t,rfl,rfl⟩ | ⟨x,t,rfl,rfl⟩<;>rfl
 pyHash:=λhv h=>by
  rcases cR hv with ⟨i,t,rfl,rfl⟩ | ⟨x,t,rfl,rfl⟩
  ·exact wpAny_pyHash_int h
  ·exact wpAny_pyHash_str h
 eqBool:=λhu hv h=>by
  rcases cR hu with ⟨i,t,rfl,rfl⟩ | ⟨x,t,rfl,rfl⟩
  ·rcases cR hv with ⟨j,u,rfl,rfl⟩ | ⟨y,u,rfl,rfl⟩
   ·rw[Uz] at h;exact wpAny_eqBool_int h
   ·rw[Uy] at h;exact SeqAt.EqAt.int_str i t y u _ _ _ _ h
  ·rcases cR hv with ⟨j,u,rfl,rfl⟩ | ⟨y,u,rfl,rfl⟩
   ·rw[Ux] at h;exact SeqAt.EqAt.str_int x t j u _ _ _ _ h
   ·rw[Uw] at h;exact wpAny_eqBool_str h
 «strs»:=λk x t v h=>by
  rcases cR h with ⟨i,u,rfl,e⟩ | ⟨y,u,rfl,e⟩
  ·exact nomatch e
  ·injection e with e1 _
   subst e1
   cases v<;>rfl
theorem zB(prog:pr)(w:sv)(i:Int)(t:Tok):(fh prog w).is (.inl i) (.int i t)=true:=FX i t
theorem zA(prog:pr)(w:sv)(x:Str)(t:Tok):(fh prog w).is (.inr x) (.str x t)=true:=FW x t
open PySem.W SeqAt
inductive DK where
 | non | int (i:Int) | str (s:Str) | tup (l:List DK)
mutual
def DK.beq:DK->DK->Bool
 | .non,.non=>true
 | .int i,.int j=>decide (i=j)
 | .str x,.str y=>decide (x=y)
 | .tup l,.tup m=>DK.beqs l m
 | _,_=>false
def DK.beqs:List DK->List DK->Bool
 | [],[]=>true
 | k::l,k'::m=>DK.beq k k'&&DK.beqs l m
 | _,_=>false
end
mutual
theorem DK.beq_iff:∀ k l:DK,DK.beq k l=true↔k=l
 | .non,l=>by cases l<;>simp[DK.beq]
 | .int i,l=>by cases l<;>simp[DK.beq]
 | .str x,l=>by cases l<;>simp[DK.beq]
 | .tup l,m=>by
  cases m with
  | tup m=>rw[DK.beq,DK.beqs_iff l m];simp
  | _=>simp[DK.beq]
theorem DK.beqs_iff:∀ l m:List DK,DK.beqs l m=true↔l=m
 | [],m=>by cases m<;>simp[DK.beqs]
 | k::l,m=>by
  cases m with
  | nil=>simp[DK.beqs]
  | cons k' m=>rw[DK.beqs,Wz,DK.beq_iff k k',DK.beqs_iff l m];simp
end
noncomputable instance:DecidableEq DK:=λk l=>decidable_of_iff _ (DK.beq_iff k l)
mutual
inductive IsDK(h:wo):DK->dn->Prop
 | non:IsDK h .non .none
 | int (i:Int) (t:Tok):IsDK h (.int i) (.int i t)
 | str (x:Str) (t:Tok):IsDK h (.str x) (.str x t)
 | tup {l:List DK} {a:gV} {its:List dn} (e:h.IsTuple a its.toArray) (r:IsDKs h l its):IsDK h (.tup l) (.ref a)
inductive IsDKs(h:wo):List DK->List dn->Prop
 | nil:IsDKs h [] []
 | cons {k:DK} {v:dn} {l:List DK} {vs:List dn} (e:IsDK h k v) (r:IsDKs h l vs):IsDKs h (k::l) (v::vs)
end
mutual
def DK.depth:DK->Nat
 | .tup l=>DK.depths l+1
 | _=>0
def DK.depths:List DK->Nat
 | []=>0
 | k::l=>max k.depth (DK.depths l)
end
mutual
def DK.draws:DK->Nat
 | .tup l=>DK.drawsL l+1
 | _=>1
def DK.drawsL:List DK->Nat
 | []=>0
 | k::l=>k.draws+DK.drawsL l
end
mutual
def DK.hash(w:sv):DK->Int
 | .non=>0xFCA86420
 | .int i=>hashInt i
 | .str x=>hashStr w x
 | .tup l=>reduceHash (Builtin.Tuple.tupleHashOf (DK.hashes w l))
def DK.hashes(w:sv):List DK->List Int
 | []=>[]
 | k::l=>k.hash w::DK.hashes w l
end
section
variable{prog:pr}{w:sv}{E:dn->gw->Prop}
mutual
theorem vG:∀ (k:DK) (v:dn) (A:tx) (s:gw) (Q:Int->gw->Prop),IsDK s.heap k v->A.units+k.depth<cLine->Q (k.hash w) { s with toks:=s.toks+k.draws }->Ew (model prog w) A (pyHash v) Q E s
 | .non,_,A,s,Q,x,hu,h=>by
  cases x
  exact pyHash_slot (T:="NoneType") rfl F.slot_NoneType_hash F.entry_NoneType_hash (F.args_NoneType_hash_1 _) (beq_builtin_none _) (.inr (by omega)) (Wx (WA (Wx (wpAny_mkInt (WA ⟨_,_,rfl,h⟩)))))
 | .int i,_,A,s,Q,x,hu,h=>by cases x;exact wpAny_pyHash_int h
 | .str y,_,A,s,Q,x,hu,h=>by cases x;exact wpAny_pyHash_str h
 | .tup l,_,A,s,Q,x,hu,h=>by
  cases x with
  | @tup _ a its e r=>
   obtain⟨o,ho,hc,n,hd⟩:=e
   refine pyHash_slot (T:="tuple") ⟨_,ho,hc⟩ F.slot_tuple_hash F.entry_tuple_hash (F.args_tuple_hash_1 _) (beq_builtin_none _) (.inr (by omega)) ?_
   show Ew _ _ (Builtin.Tuple.tupleItemsOf (.ref a) >>= _) _ _ s
   refine Wx (wpAny_tupleItemsOf ho hd ?_)
   refine Wx ?_
   rw[<- aby]
   refine hash_loop l its A.in1 s #[] _ r (by simp only[DK.depth,Around.in1_units] at hu ⊢;omega) λb hb=>?_
   show Ew _ _ (retInt (Builtin.Tuple.tupleHashOf b.toList)) _ _ _
   rw[hb]
   refine Wx (wpAny_mkInt (WA ⟨_,_,rfl,?_⟩))
   simpa[DK.hash,DK.draws,Nat.add_assoc] using h
theorem hash_loop:∀ (l:List DK) (vs:List dn) (A:tx) (s:gw) (b:Array Int) (Q:Array Int->gw->Prop),IsDKs s.heap l vs->A.units+DK.depths l<cLine ->
  (∀ b',b'.toList=b.toList++DK.hashes w l->Q b' { s with toks:=s.toks+DK.drawsL l }) ->
  Ew (model prog w) A (forIn vs b λx r=>do let h <- pyHash x;pure PUnit.unit;pure (ForInStep.yield (r.push h))) Q E s
 | [],_,A,s,b,Q,x,_,h=>by cases x;exact WA (by simpa[DK.drawsL] using h b (by simp[DK.hashes]))
 | k::l,_,A,s,b,Q,x,hu,h=>by
  cases x with
  | cons x1 x2=>
   simp only[DK.depths] at hu
   rw[Yv]
   refine Wx (Wx (vG k _ A s _ x1 (by omega) ?_))
   refine Wx (WA (WA ?_))
   exact hash_loop l _ A _ _ Q x2 (by omega) λb' hb=>by
    have:=h b' (by simp[hb,DK.hashes])
    simpa[DK.drawsL,Nat.add_assoc] using this
end
mutual
theorem IsDK.inj:∀ {h:wo} {x y:DK} {v:dn},IsDK h x v->IsDK h y v->x=y
 | h,.non,y,v,a,b=>by cases a;cases b;rfl
 | h,.int i,y,v,a,b=>by cases a;cases b;rfl
 | h,.str i,y,v,a,b=>by cases a;cases b;rfl
 | h,.tup l,y,v,a,b=>by
  cases a with
  | tup e r=>
   cases b with
   | tup e' r'=>
    obtain⟨o,ho,_,n,hd⟩:=e
    obtain⟨o',ho',_,n',hd'⟩:=e'
    rw[ho] at ho';cases ho'
    rw[hd] at hd'
    injection hd' with h1 h2
    have:(_:List dn)=_:=congrArg Array.toList h1
    simp only[abo] at this
    subst this
    rw[IsDKs.inj r r']
theorem IsDKs.inj:∀ {h:wo} {x y:List DK} {vs:List dn},IsDKs h x vs->IsDKs h y vs->x=y
 | h,[],y,vs,a,b=>by cases a;cases b;rfl
 | h,k::l,y,vs,a,b=>by
  cases a with
  | cons e r=>
   cases b with
   | cons e' r'=>rw[IsDK.inj e e',IsDKs.inj r r']
end
mutual
theorem IsDK.keeps{h h':wo}(hk:∀ a its,h.IsTuple a its->h'.IsTuple a its):∀ {k:DK} {v:dn},IsDK h k v->IsDK h' k v
 | .non,_,x=>by cases x;exact .non
 | .int _,_,x=>by cases x;exact .int _ _
 | .str _,_,x=>by cases x;exact .str _ _
 | .tup l,_,x=>by cases x with | tup e r=>exact .tup (hk _ _ e) (IsDKs.keeps hk r)
theorem IsDKs.keeps{h h':wo}(hk:∀ a its,h.IsTuple a its->h'.IsTuple a its):∀ {l:List DK} {vs:List dn},IsDKs h l vs->IsDKs h' l vs
 | [],_,x=>by cases x;exact .nil
 | k::l,_,x=>by cases x with | cons e r=>exact .cons (IsDK.keeps hk e) (IsDKs.keeps hk r)
end
variable{A:tx}{s:gw}
theorem IsDKs.len:∀ {h:wo} {l:List DK} {vs:List dn},IsDKs h l vs->l.length=vs.length
 | h,[],_,x=>by cases x;rfl
 | h,k::l,_,x=>by cases x with | cons e r=>rw[WF,WF,r.len]
theorem IsDKs.at:∀ {h:wo} {l:List DK} {vs:List dn} {j:Nat} {x:DK} {u:dn},IsDKs h l vs->l[j]?=U x->vs[j]?=U u->IsDK h x u
 | h,[],_,j,x,u,r,h1,h2=>by cases h1
 | h,k::l,_,j,x,u,r,h1,h2=>by
  cases r with
  | cons e r=>
   cases j with
   | zero=>cases h1;cases h2;exact e
   | succ j=>exact IsDKs.at r h1 h2
def LS(l m:List DK)(j:Nat):Bool:=match l[j]?,m[j]? with | some x,U y=>decide (x=y) | _,_=>true
theorem LR:∀ (l m:List DK),((List.range (min l.length m.length)).all (LS l m)&&l.length==m.length)=decide (l=m)
 | [],m=>by cases m<;>simp
 | k::l,[]=>by simp
 | k::l,k'::m=>by
  have ih:=LR l m
  have e:(List.range (min (k::l).length (k'::m).length)).all (LS (k::l) (k'::m))=(decide (k=k')&&(List.range (min l.length m.length)).all (LS l m)):=by
   rw[WF,WF,Nat.succ_min_succ,aaW,XC,Yw]
   rfl
  rw[e,WF,WF,aaC,show(l.length+1==m.length+1)=(l.length==m.length) by simp,ih]
  by_cases h1:k=k'<;>by_cases h2:l=m<;>simp[h1,h2]
mutual
theorem RV:∀ (k l:DK) (u v:dn) (A:tx),IsDK s.heap k u->IsDK s.heap l v->A.units+k.depth<cLine->EqAt A s u v (decide (k=l))
 | .non,l,u,v,A,x,y,hu=>by
  cases x
  cases y with
  | non=>exact EqAt.same _
  | int i t=>exact EqAt.none_int i t
  | str z t=>exact EqAt.none_str z t
  | tup e r=>exact EqAt.none_tuple e (by omega)
 | .int i,l,u,v,A,x,y,hu=>by
  cases x with
  | int i t=>
   cases y with
   | non=>exact EqAt.int_none i t
   | int j t'=>
    have:=EqAt.int_int (A:=A) (s:=s) i t j t'
    rw[show decide (DK.int i=DK.int j)=(i==j) by by_cases h:i=j<;>simp[h]]
    exact this
   | str z t'=>exact EqAt.int_str i t z t'
   | tup e r=>exact EqAt.int_tuple i t e (by omega)
 | .str z,l,u,v,A,x,y,hu=>by
  cases x with
  | str z t=>
   cases y with
   | non=>exact EqAt.str_none z t
   | int j t'=>exact EqAt.str_int z t j t'
   | str z' t'=>
    have:=EqAt.str_str (A:=A) (s:=s) z t z' t'
    rw[show decide (DK.str z=DK.str z')=(z==z') by by_cases h:z=z'<;>simp[h]]
    exact this
   | tup e r=>exact EqAt.str_tuple z t e (by omega)
 | .tup l,m,u,v,A,x,y,hu=>by
  cases x with
  | @tup _ a its e r=>
   simp only[DK.depth] at hu
   cases y with
   | non=>exact EqAt.tuple_none e (by omega)
   | int j t=>exact EqAt.tuple_int j t e (by omega)
   | str z t=>exact EqAt.tuple_str z t e (by omega)
   | @tup m b its' e' r'=>
    have all:∀ j (h1:j<its.toArray.size) (h2:j<its'.toArray.size),EqAt A.in1 s its.toArray[j] its'.toArray[j] (LS l m j):=λj h1 h2=>by
     rw[WD] at h1 h2
     have l1:j<l.length:=by rw[r.len];exact h1
     have l2:j<m.length:=by rw[r'.len];exact h2
     have:=eq_dks l its A.in1 r (by rw[Around.in1_units];omega) j l[j] its[j] m[j] its'[j] (WK l1) (WK h1) (IsDKs.at r' (WK l2) (WK h2))
     unfold LS
     rw[WK l1,WK l2]
     simpa using this
    have key:=RcAt.tuples (A:=A) (s:=s) e e' (by omega) all
    rw[WD,WD,<- r.len,<- r'.len,LR] at key
    rw[show decide (DK.tup l=DK.tup m)=decide (l=m) by by_cases h:l=m<;>simp[h]]
    by_cases hl:a=b
    ·subst hl
     obtain⟨o,ho,_,n,hd⟩:=e
     obtain⟨o',ho',_,n',hd'⟩:=e'
     rw[ho] at ho';cases ho'
     rw[hd] at hd'
     injection hd' with h1 h2
     have:(_:List dn)=_:=congrArg Array.toList h1
     simp only[abo] at this
     subst this
     rw[IsDKs.inj r r',Xk rfl]
     exact EqAt.same _
    ·exact EqAt.of_refs hl key
theorem eq_dks:∀ (l:List DK) (vs:List dn) (A:tx),IsDKs s.heap l vs->A.units+DK.depths l<cLine->∀ (j:Nat) (x:DK) (u:dn) (y:DK) (v:dn),l[j]?=U x->vs[j]?=U u->IsDK s.heap y v->EqAt A s u v (decide (x=y))
 | [],_,A,r,hu,j,x,u,y,v,h1,h2,h3=>by cases h1
 | k::l,_,A,r,hu,j,x,u,y,v,h1,h2,h3=>by
  simp only[DK.depths] at hu
  cases r with
  | cons e r=>
   cases j with
   | zero=>cases h1;cases h2;exact RV k y _ _ A e h3 (by omega)
   | succ j=>exact eq_dks l _ A r (by omega) j x u y v h1 h2 h3
end
mutual
theorem zj:∀ (k:DK) (v:dn) (n:Nat) (Q:Bool->gw->Prop),IsDK s.heap k v->k.depth<=n->Q true s->Ew (model prog w) A (eqIsQuiet n v) Q E s
 | .non,_,n,Q,x,_,h=>by cases x;rw[ZY n rfl];exact WA h
 | .int _,_,n,Q,x,_,h=>by cases x;rw[ZY n rfl];exact WA h
 | .str _,_,n,Q,x,_,h=>by cases x;rw[ZY n rfl];exact WA h
 | .tup l,_,n,Q,x,hn,h=>by
  cases x with
  | @tup _ a its e r=>
   simp only[DK.depth] at hn
   obtain⟨m,rfl⟩:∃ m,n=m+1:=⟨n - 1,by omega⟩
   obtain⟨o,ho,hc,n',hd⟩:=e
   have hT:s.TypeIs (.ref a) "tuple":=⟨o,ho,hc⟩
   unfold eqIsQuiet
   refine Wx (aan hT F.slot_tuple_eq.lookup ?_)
   show Ew _ _ (isInstance (.ref a) (.type "tuple") >>= _) _ _ s
   refine Wx (wpAny_isInstance hT isSubtype_tuple_tuple ?_)
   simp only[WU,WR,Xx]
   refine Wx (Yl ho hd ?_)
   refine Wx ?_
   show Ew _ _ (forIn its.toArray _ _) _ _ s
   rw[<- aby]
   refine wpAny_forIn_list _ (λrest r s'=>r.1=Y/\s'=s/\∀ v∈rest,∀ Q:Bool->gw->Prop,Q true s->Ew (model prog w) A (eqIsQuiet m v) Q E s) _ ?_ ?_ _ _ ⟨rfl,rfl,quiet_dks l its m r (by omega)⟩
   ·rintro v rest r s' ⟨hr,rfl,hall⟩
    refine Wx (hall v WE _ ?_)
    simp only[WU,WR,Xx]
    exact WA ⟨rfl,rfl,λu hu'=>hall u (WB _ hu')⟩
   ·rintro⟨r1,r2⟩ s' ⟨hr,rfl,_⟩
    simp only at hr
    subst hr
    exact WA h
theorem quiet_dks:∀ (l:List DK) (vs:List dn) (n:Nat),IsDKs s.heap l vs->DK.depths l<=n->∀ v∈vs,∀ Q:Bool->gw->Prop,Q true s->Ew (model prog w) A (eqIsQuiet n v) Q E s
 | [],_,n,r,_,v,hv,Q,h=>by cases r;cases hv
 | k::l,_,n,r,hn,v,hv,Q,h=>by
  simp only[DK.depths] at hn
  cases r with
  | cons e r=>
   rcases WQ.mp hv with rfl | hv
   ·exact zj k _ n Q e (by omega) h
   ·exact quiet_dks l _ n r (by omega) v hv Q h
end
end
def LY(prog:pr)(w:sv):HeapKind prog w DK where
 is:=λh k a=>IsDK h k (.ref a)/\k.depth<=8
 hash:=DK.hash w
 draws:=DK.draws
 room:=λA=>A.units+8<cLine
 inj:=λhx hy=>hx.1.inj hy.1
 keeps:=λx ho hd hs=>⟨x.1.keeps λb its e=>(by
  obtain⟨o',ho',hc,n,hd'⟩:=e
  refine⟨o',(hs.2 b ?_).trans ho',hc,n,hd'⟩
  rintro rfl
  obtain rfl:=Xp (ho'.symm.trans ho)
  rw[hd] at hd';exact(nomatch hd')),x.2⟩
 pyHash:=λhu hk h=>vG _ _ _ _ _ hk.1 (by have:=hk.2;omega) h
 eqBool:=λhu hx hy h=>RV _ _ _ _ _ hx.1 hy.1 (by have:=hx.2;omega) _ _ _ _ h
 quiet:=λhk h=>zj _ _ 8 _ hk.1 hk.2 h
inductive V where
 | non | bl (b:Bool) | int (i:Int) | str (x:Str) | byt (b:Array UInt8) | flt (b:UInt64) | ref (a:gV) | ty (n:String)
 deriving DecidableEq
def RelV:V->dn->Prop
 | .non,u=>u=Value.none
 | .bl b,u=>u=Value.bool b
 | .int i,u=>∃ t,u=Value.int i t
 | .str x,u=>∃ t,u=Value.str x t
 | .byt b,u=>∃ t,u=Value.bytes b t
 | .flt b,u=>∃ t,u=Value.float b t
 | .ref a,u=>u=Value.ref a
 | .ty n,u=>u=Value.type n
noncomputable abbrev Vals:List V->List dn->Prop:=Paired RelV
theorem Vals.length{xs:List V}{us:List dn}(r:Vals xs us):xs.length=us.length:=aaM r
theorem Vals.get:∀ {xs:List V} {us:List dn} {i:Nat} {x:V},Vals xs us->xs[i]?=U x->∃ u,us[i]?=U u/\RelV x u
 | _,_,_,_,.nil,e=>by simp at e
 | _,_,0,_,.cons r _,e=>by simp at e;subst e;exact⟨_,rfl,r⟩
 | _,_,i+1,x,.cons _ t,e=>by
  obtain⟨u,h1,h2⟩:=Vals.get (i:=i) (x:=x) t (by simpa using e)
  exact⟨u,by simpa using h1,h2⟩
theorem Vals.set(r:RelV x u):∀ {xs:List V} {us:List dn} (i:Nat),Vals xs us->Vals (xs.set i x) (us.set i u)
 | _,_,_,.nil=>.nil
 | _,_,0,.cons _ t=>.cons r t
 | _,_,i+1,.cons q t=>.cons q (Vals.set r i t)
theorem Vals.append:∀ {xs ys:List V} {us ws:List dn},Vals xs us->Vals ys ws->Vals (xs++ys) (us++ws)
 | _,_,_,_,.nil,s=>s
 | _,_,_,_,.cons r t,s=>.cons r (Vals.append t s)
theorem Vals.take:∀ {xs:List V} {us:List dn} (n:Nat),Vals xs us->Vals (xs.take n) (us.take n)
 | _,_,0,_=>.nil
 | _,_,_+1,.nil=>.nil
 | _,_,n+1,.cons r t=>.cons r (Vals.take n t)
theorem Vals.drop:∀ {xs:List V} {us:List dn} (n:Nat),Vals xs us->Vals (xs.drop n) (us.drop n)
 | _,_,0,r=>r
 | _,_,_+1,.nil=>.nil
 | _,_,n+1,.cons _ t=>Vals.drop n t
def RelO:Option V->Option dn->Prop
 | some v,U u=>RelV v u
 | none,Y=>True
 | _,_=>False
def KV{κ:Type}:List (κ×V)->List (κ×dn)->Prop:=Paired λ(p:κ×V) (q:κ×dn)=>p.1=q.1/\RelV p.2 q.2
def kV:bD->V
 | .inl i=>.int i
 | .inr x=>.str x
inductive HO where
 | lst (xs:List V)
 | tup (xs:List V)
 | dK (kvs:List (bD×V)) | dT (kvs:List (DK×gV×V))
 | set (S:Int->Bool) (n:Nat)
 | ins (C dx:gV) (fs:List (Str×V))
 | own (x:gV)
 | xd (fs:List (Str×V))
 | met (f x:gV)
 | rng (lo hi:Int)
 | frz (o:Obj) (u:HO)
 | tbl (ps:Array dn)
 | ext (φ:wo->Prop)
noncomputable abbrev Hp:=gV->Option HO
def upd(H:Hp)(a:gV)(o:HO):Hp:=λb=>if b=a then U o else H b
theorem aB:upd H a o a=U o:=by unfold upd;rw[WN rfl]
theorem aA{a b:gV}(h:b≠a):upd H a o b=H b:=by unfold upd;rw[WX h]
theorem bG{H:Hp}{o:HO}(h:H a=U o)(h':H b=Y):a≠b:=by
 intro e;subst e;rw[h] at h';cases h'
def IsTupN(h:wo)(a:gV)(items:Array dn):Prop:=∃ o,h.get? a=U o/\o.cls=.type "tuple"/\(∃ n,o.data=.seq items n)/\o.dict=Y
theorem IsTupN.up(x:IsTupN h a items):IsTup h a items:=by
 obtain⟨o,e,c,d,_⟩:=x
 exact⟨o,e,c,d⟩
theorem IsTupN.lt(x:IsTupN h a items):a<h.objs.size:=x.up.lt
theorem IsTupN.new(h:wo)(items:Array dn):IsTupN (h.push { cls:=.type "tuple",data:=.seq items }) h.objs.size items:=⟨_,WL _ rfl,rfl,⟨_,rfl⟩,rfl⟩
section
variable(P:pr)(w:sv)
def ObjOk(H:Hp)(h:wo)(a:gV):HO->Prop
 | .lst xs=>xs.length<=ww/\∃ (its:List dn) (n:Nat),Vals xs its/\h.get? a=U { cls:=.type "list",data:=.seq its.toArray n }
 | .tup xs=>xs.length<=ww/\∃ its:List dn,Vals xs its/\IsTupN h a its.toArray
 | .dK kvs=>kvs.length<=ww/\(a==sysModules)=false/\∃ vs,KV kvs vs/\h.DictOf (fh P w) a vs
 | .dT kvs=>kvs.length<=ww/\(a==sysModules)=false/\∃ xs:List (DK×gV×dn),
   Paired (λ(p:DK×gV×V) (q:DK×gV×dn)=>p.1=q.1/\p.2.1=q.2.1/\RelV p.2.2 q.2.2) kvs xs /\
   ∃ o es ep,h.get? a=U o/\o.ExactDict/\o.data=.dict es ep/\es.toList=xs.map (entryOfKey (LY P w))/\(xs.map (·.1)).Nodup
 | .set S n=>h.SetOf (intKind P w) a S n
 | .ins C dx fs=>H dx=U (.own a)/\fs.length<=1000/\dx≠a/\h.get? a=U (W.instObj C dx) /\
   ∃ mA,h.Ns1 dx mA/\(∀ f,RelO (fs.lookup f) (mA f))/\PySem.Within mA (fs.map (·.1))
 | .own _=>∃ o,h.get? a=U o
 | .xd fs=>∃ mA,h.Ns1 a mA/\∀ f,RelO (fs.lookup f) (mA f)
 | .rng lo hi=>∃ t u v,h.get? a=U { cls:=.type "range",data:=.fields #[.int lo t,.int hi u,.int 1 v] }
 | .frz o u=>h.get? a=U o/\ObjOk H h a u
 | .tbl ps=>h.get? a=U { cls:=.none,data:=.fields ps }
 | .met f x=>h.get? a=U (W.methodObj (.ref f) (.ref x))
 | .ext φ=>φ h/\(∃ o,h.get? a=U o)/\∀ h1 h2:wo,φ h1->(∀ o,h1.get? a=U o->h2.get? a=U o)->φ h2
def HOk(H:Hp)(h:wo):Prop:=∀ a o,H a=U o->ObjOk P w H h a o
end
section
variable{P:pr}{w:sv}{H H':Hp}{h h':wo}{a:gV}{o:HO}
theorem ObjOk.lt(x:ObjOk P w H h a o):a<h.objs.size:=by
 cases o with
 | lst xs=>obtain⟨_,_,_,_,e⟩:=x;exact WG e
 | tup xs=>obtain⟨_,_,_,p⟩:=x;exact p.lt
 | dK kvs=>obtain⟨_,_,_,_,o,_,_,e,_⟩:=x;exact WG e
 | dT kvs=>obtain⟨_,_,_,_,o,_,_,e,_⟩:=x;exact WG e
 | set S n=>obtain⟨o,_,_,_,e,_⟩:=x;exact WG e
 | ins C dx fs=>obtain⟨_,_,_,e,_⟩:=x;exact WG e
 | own y=>obtain⟨_,e⟩:=x;exact WG e
 | xd fs=>obtain⟨_,⟨_,_,_,e,_⟩,_⟩:=x;exact WG e
 | rng lo hi=>obtain⟨_,_,_,e⟩:=x;exact WG e
 | frz ob u=>obtain⟨e,_⟩:=x;exact WG e
 | tbl ps=>exact WG (show h.get? a=U _ from x)
 | met f y=>exact WG (show h.get? a=U _ from x)
 | ext φ=>obtain⟨_,⟨_,e⟩,_⟩:=x;exact WG e
theorem ObjOk.stay(x:ObjOk P w H h a o)(k:∀ b u,(b=a\/H b=U (.own a))->h.get? b=U u->h'.get? b=U u)
  (ho:∀ b,H b=U (.own a)->H' b=U (.own a)) (ht:∀ b xs,H b=U (.tup xs)->H' b=U (.tup xs)):ObjOk P w H' h' a o:=by
 induction o with
 | lst xs=>obtain⟨z,its,n,r,e⟩:=x;exact⟨z,its,n,r,k _ _ (.inl rfl) e⟩
 | tup xs=>obtain⟨z,its,r,ob,e,c⟩:=x;exact⟨z,its,r,ob,k _ _ (.inl rfl) e,c⟩
 | dK kvs=>obtain⟨z,y,vs,r,ob,es,ep,e,c⟩:=x;exact⟨z,y,vs,r,ob,es,ep,k _ _ (.inl rfl) e,c⟩
 | dT kvs=>
  obtain⟨z,y,xs,r,ob,es,ep,e,c⟩:=x
  exact⟨z,y,xs,r,ob,es,ep,k _ _ (.inl rfl) e,c⟩
 | set S n=>obtain⟨ob,es,ep,t,e,c⟩:=x;exact⟨ob,es,ep,t,k _ _ (.inl rfl) e,c⟩
 | ins C dx fs=>
  obtain⟨d,z,ne,e,mA,⟨od,es,ep,e2,c⟩,r⟩:=x
  exact⟨ho _ d,z,ne,k _ _ (.inl rfl) e,mA,⟨od,es,ep,k _ _ (.inr d) e2,c⟩,r⟩
 | own y=>obtain⟨ob,e⟩:=x;exact⟨ob,k _ _ (.inl rfl) e⟩
 | xd fs=>obtain⟨mA,⟨od,es,ep,e,c⟩,r⟩:=x;exact⟨mA,⟨od,es,ep,k _ _ (.inl rfl) e,c⟩,r⟩
 | rng lo hi=>obtain⟨t,u,v,e⟩:=x;exact⟨t,u,v,k _ _ (.inl rfl) e⟩
 | frz ob u ih=>obtain⟨e,q⟩:=x;exact⟨k _ _ (.inl rfl) e,ih q⟩
 | tbl ps=>
  have e:h.get? a=U { cls:=.none,data:=.fields ps }:=x
  show h'.get? a=U { cls:=.none,data:=.fields ps }
  exact k a _ (.inl rfl) e
 | met f y=>
  have e:h.get? a=U (W.methodObj (.ref f) (.ref y)):=x
  show h'.get? a=U (W.methodObj (.ref f) (.ref y))
  exact k a _ (.inl rfl) e
 | ext φ=>obtain⟨p,⟨o,e⟩,st⟩:=x;exact⟨st _ _ p λo q=>k _ _ (.inl rfl) q,⟨o,k _ _ (.inl rfl) e⟩,st⟩
theorem HOk.lt(x:HOk P w H h)(e:H a=U o):a<h.objs.size:=(x a o e).lt
theorem HOk.fresh(x:HOk P w H h)(e:h.objs.size<=a):H a=Y:=by
 cases q:H a with
 | none=>rfl
 | some u=>exact absurd (WW (x.lt q) e) (XS _)
theorem HOk.kept(x:HOk P w H h)(k:∀ b u,h.get? b=U u->h'.get? b=U u):HOk P w H h':=λa o e=>
 (x a o e).stay (λb u _ q=>k b u q) (λ_ q=>q) λ_ _ q=>q
theorem HOk.laid(x:HOk P w H h)(k:∀ b u,h.get? b=U u->h'.get? b=U u)(hp:h.objs.size<=a)(new:ObjOk P w (upd H a o) h' a o):HOk P w (upd H a o) h':=λb u e=>by
 have hn:=x.fresh hp
 by_cases hb:b=a
 ·subst hb;rw[aB] at e;cases e;exact new
 ·rw[aA hb] at e
  exact(x b u e).stay (λc v _ q=>k c v q) (λc q=>by rw[aA (bG q hn)];exact q) λc xs q=>by rw[aA (bG q hn)];exact q
end
def Rd(H:Hp)(a:gV)(u:HO):Prop:=H a=U u\/∃ o,H a=U (.frz o u)
theorem Rd.ok(r:Rd H a u)(x:HOk P w H h):ObjOk P w H h a u:=by
 rcases r with r | ⟨o,r⟩
 ·exact x a u r
 ·obtain⟨_,q⟩:=x a _ r
  exact q
def Mut:Option HO->Prop
 | some (.lst _)=>True
 | some (.dK _)=>True
 | some (.dT _)=>True
 | some (.set _ _)=>True
 | some (.ins _ _ _)=>True
 | some (.ext _)=>True
 | _=>False
section
variable{P:pr}{w:sv}{H:Hp}{h h':wo}{x e:gV}{o':HO}
theorem HOk.write(ok:HOk P w H h)(mu:Mut (H x))(he:e=x\/H e=U (.own x))(k:∀ b u,b≠e->h.get? b=U u->h'.get? b=U u)(heo:∃ u,h'.get? e=U u)
  (new:ObjOk P w (upd H x o') h' x o'):HOk P w (upd H x o') h':=λb u q=>by
 have nown:∀ c y,H c=U (.own y)->c≠x:=λc y r z=>by subst z;rw[r] at mu;exact mu
 have ntup:∀ c xs,H c=U (.tup xs)->c≠x:=λc xs r z=>by subst z;rw[r] at mu;exact mu
 by_cases hb:b=x
 ·subst hb;rw[aB] at q;cases q;exact new
 ·rw[aA hb] at q
  by_cases hbe:b=e
  ·have q':H b=U (.own x):=by
    rcases he with z | z
    ·exact absurd (hbe.trans z) hb
    ·rw[hbe];exact z
   rw[q] at q';cases q'
   obtain⟨v,hv⟩:=heo
   exact⟨v,by rw[hbe];exact hv⟩
  ·refine(ok b u q).stay (λc v hc r=>k c v ?_ r) (λc r=>by rw[aA (nown c b r)];exact r) λc xs r=>by rw[aA (ntup c xs r)];exact r
   rcases hc with rfl | hc
   ·exact hbe
   ·rintro rfl
    rcases he with z | z
    ·exact nown c b hc z
    ·rw[hc] at z;cases z;exact hb rfl
end
structure Un(fs ex:List gV)(H H':Hp)(h h':wo):Prop where
 keep:∀ b o,h.get? b=U o->H b=Y->b∉fs->b∉ex->h'.get? b=U o
 slot:∀ b o,h.get? b=U o->H b=Y->b∈fs->b∉ex->∃ sl,h'.get? b=U { o with slots:=sl }
 free:∀ b o,h.get? b=U o->H b=Y->b∉ex->H' b=Y
 there:∀ b o,h.get? b=U o->b∉ex->∃ o',h'.get? b=U o'
 tups:∀ b xs,H b=U (.tup xs)->H' b=U (.tup xs)
 frzs:∀ b o u,H b=U (.frz o u)->H' b=U (.frz o u)
 tbls:∀ b ps,H b=U (.tbl ps)->∃ more,H' b=U (.tbl (ps++more))
section
variable{fs fs' ex ex':List gV}{H H1 H2:Hp}{h h1 h2 h':wo}{a x e:gV}{o:HO}
theorem Un.any(u:Un fs ex H H1 h h1){ob:Obj}(q:h.get? b=U ob)(n:H b=Y)(hx:b∉ex):∃ sl,h1.get? b=U { ob with slots:=sl }:=by
 by_cases hb:b∈fs
 ·exact u.slot b ob q n hb hx
 ·exact⟨ob.slots,u.keep b ob q n hb hx⟩
theorem Un.kept(k:∀ b u,h.get? b=U u->h'.get? b=U u):Un fs ex H H h h':=
 ⟨λb ob q _ _ _=>k b ob q,λb ob q _ _ _=>⟨ob.slots,k b ob q⟩,λ_ _ _ n _=>n,λb ob q _=>⟨ob,k b ob q⟩,λ_ _ q=>q,λ_ _ _ q=>q,λ_ ps q=>⟨#[],by rw[q];simp⟩⟩
theorem Un.refl:Un fs ex H H h h:=Un.kept λ_ _ q=>q
theorem Un.laid(k:∀ b u,h.get? b=U u->h'.get? b=U u)(hp:h.objs.size<=a)(hn:H a=Y):Un fs ex H (upd H a o) h h' where
 keep:=λb u q _ _ _=>k b u q
 slot:=λb u q _ _ _=>⟨u.slots,k b u q⟩
 free:=λb u q n _=>by rw[aA (WZ (WW (WG q) hp))];exact n
 there:=λb u q _=>⟨u,k b u q⟩
 tups:=λb xs q=>by rw[aA (bG q hn)];exact q
 frzs:=λb u xs q=>by rw[aA (bG q hn)];exact q
 tbls:=λb ps q=>⟨#[],by rw[aA (bG q hn),q];simp⟩
theorem Un.write(mu:Mut (H x))(he:e=x\/H e=U (.own x))(k:∀ b u,b≠e->h.get? b=U u->h'.get? b=U u)(heo:∃ u,h'.get? e=U u):Un fs ex H (upd H x o) h h':=by
 have hx:∀ b,H b=Y->b≠x:=λb n z=>by subst z;rw[n] at mu;exact mu
 have hb:∀ b,H b=Y->b≠e:=λb n z=>by
  subst z
  rcases he with r | r
  ·exact hx b n r
  ·rw[n] at r;cases r
 have hm:∀ b u,H b=U u->¬ Mut (U u)->b≠x:=λb u q nm z=>by subst z;rw[q] at mu;exact nm mu
 refine⟨λb u q n _ _=>k b u (hb b n) q,λb u q n _ _=>⟨u.slots,k b u (hb b n) q⟩,λb u q n _=>by rw[aA (hx b n)];exact n,λb u q _=>?_,
  λb xs q=>by rw[aA (hm b _ q λz=>z)];exact q,λb u xs q=>by rw[aA (hm b _ q λz=>z)];exact q,λb ps q=>⟨#[],by rw[aA (hm b _ q λz=>z),q];simp⟩⟩
 by_cases hbe:b=e
 ·subst hbe;exact heo
 ·exact⟨u,k b u hbe q⟩
end
def trk(h:wo)(H:Hp):List gV:=(List.range h.objs.size).filter λa=>(H a).isSome
def yl(h:wo)(H:Hp):wo:=W.hideAll h (trk h H)
theorem Gi(h:wo)(H:Hp):(yl h H).objs.size=h.objs.size:=W.hideAll_size _ _
theorem Kv{h:wo}{H:Hp}{o:Obj}(e:h.get? b=U o)(n:H b=Y):(yl h H).get? b=U o:=
 W.hideAll_get _ e λhm=>by
  have q:(H b).isSome=true:=(Ye.mp hm).2
  rw[n] at q;simp at q
theorem OA{o:Obj}(e:(yl h H).get? b=U o):h.get? b=U o/\H b=Y:=by
 have e':h.get? b=U o:=W.of_hideAll (trk h H) e
 refine⟨e',?_⟩
 cases q:H b with
 | none=>rfl
 | some x=>
  have hm:b∈trk h H:=Ye.mpr ⟨Ym.mpr (WG e'),by simp[q]⟩
  have z:(yl h H).get? b=Y:=W.hideAll_none (trk h H) hm
  rw[z] at e;cases e
structure Mod(K:FA)(mg:Str->Option dn)(base:wo):Prop where
 kin:K.In base
 glob:base.Ns Cn mg
 blt:∃ mb,base.Ns builtinsNs mb/\∀ x:Str,x≠"__name__"->mb x=bootBuiltins x
 nolimit:base.NoLimit
structure Cx where
 prog:pr
 w:sv
 K:FA
 mg:Str->Option dn
 base:wo
 A:tx
 N:List Str
 s₀:gw
 H₀:Hp
 env:Env
 outer:List Env
 stack:List Env
 ex:List gV
 fn:Str->Bool
 calm:Bool
 pn:List (gV×Obj)
 xe:dn->gw->Prop
def wx(l:List Env):List gV:=l.filterMap (·.frame)
noncomputable abbrev Cx.fs(X:Cx):List gV:=wx X.outer
def QQ(sc:Scope)(x:Str):Prop:=sc.names.lookup x=U .local\/sc.names.lookup x=U .cell\/sc.names.lookup x=U .free
def MR(sc:Scope)(x:Str):Prop:=sc.names.lookup x=U .local\/sc.names.lookup x=U .cell
def Look(env:Env)(h:wo)(m:Str->Option dn)(x:Str)(u:dn):Prop:=
 (env.kindOf x=U .local/\m x=U u)\/((env.kindOf x=U .cell\/env.kindOf x=U .free)/\∃ c,env.cells.lookup x=U c/\h.IsCell c (U u))
structure Cx.Ok(X:Cx):Prop where
 mod:Mod X.K X.mg X.base
 kind:X.env.scope.kind=.function
 glob:X.env.globals=Cn
 blt:X.env.builtins=builtinsNs
 above:X.s₀.heap.objs.size<=X.env.locals
 inj:∀ x y c,X.env.cells.lookup x=U c->X.env.cells.lookup y=U c->x=y
 has:∀ x,(X.env.kindOf x=U .cell\/X.env.kindOf x=U .free)->∃ c,X.env.cells.lookup x=U c
 cab:∀ x c,X.fn x=true->X.env.cells.lookup x=U c->X.s₀.heap.objs.size<=c
 hd:X.calm=true->X.A.handled=Y
 frames:X.A.frames=U X.stack
 stk:X.stack=X.outer\/(X.stack=X.env::X.outer/\X.env.frame=U X.env.locals)
 exf:∀ b∈X.ex,b≠X.env.locals/\∀ x c,X.env.cells.lookup x=U c->c≠b
 bs:∀ b o,X.base.get? b=U o->X.s₀.heap.get? b=U o/\X.H₀ b=Y
 bsz:X.base.objs.size<=X.s₀.heap.objs.size
 noex:∀ b o,X.base.get? b=U o->b∉X.ex
 exfs:∀ b∈X.ex,b∉X.fs
 funs:X.s₀.heap.FunFrames X.base X.outer
 frf:∀ b∈X.fs,X.H₀ b=Y
structure Inv(X:Cx)(pins:List (gV×Obj))(σ:List (Option V))(H:Hp)(s:gw):Prop where
 ok:X.Ok
 os:s.os=X.s₀.os
 bare:AllBare s.gens
 base:Un X.fs X.ex X.H₀ H X.s₀.heap s.heap
 loc:∃ m,s.heap.Ns X.env.locals m/\∀ (i:Nat) (x:Str) (v:V),X.N[i]?=U x->σ[i]?=U (U v)->QQ X.env.scope x->∃ u,RelV v u/\Look X.env s.heap m x u
 cell:∀ x c,X.env.cells.lookup x=U c->∃ v,s.heap.IsCell c v
 free:H X.env.locals=Y
 freeC:∀ x c,X.env.cells.lookup x=U c->H c=Y
 pin:∀ p∈X.pn++pins,s.heap.get? p.1=U p.2/\H p.1=Y/\p.1≠X.env.locals/\p.1∉X.fs/\∀ v,p.2.data≠.cell v
 hok:HOk X.prog X.w H s.heap
 len:σ.length=X.N.length
section
variable{X:Cx}{pins:List (gV×Obj)}{σ:List (Option V)}{H H':Hp}{s:gw}{h':wo}
theorem Cx.Ok.nofr(ok:X.Ok){o:Obj}(e:X.base.get? b=U o):b∉X.fs:=λhb=>by
 have:=(ok.funs.mem hb).1
 rw[e] at this;cases this
theorem Inv.bs(I:Inv X pins σ H s):∀ b o,X.base.get? b=U o->s.heap.get? b=U o/\H b=Y:=λb o e=>
 ⟨I.base.keep b o (I.ok.bs b o e).1 (I.ok.bs b o e).2 (I.ok.nofr e) (I.ok.noex b o e),I.base.free b o (I.ok.bs b o e).1 (I.ok.bs b o e).2 (I.ok.noex b o e)⟩
theorem Inv.bk(I:Inv X pins σ H s):∀ b o,X.base.get? b=U o->s.heap.get? b=U o:=λb o e=>(I.bs b o e).1
theorem Inv.mod(I:Inv X pins σ H s):Mod X.K X.mg X.base:=I.ok.mod
theorem Inv.kIn(I:Inv X pins σ H s):X.K.In s.heap:=I.ok.mod.kin.keeps I.bk
theorem Inv.lt(I:Inv X pins σ H s):X.env.locals<s.heap.objs.size:=let ⟨_,hn,_⟩:=I.loc;hn.lt
theorem Inv.sz(I:Inv X pins σ H s):X.s₀.heap.objs.size<=s.heap.objs.size:=Xa I.ok.above (Ze I.lt)
theorem Inv.nofs(I:Inv X pins σ H s){a:gV}(h:s.heap.objs.size<=a):a∉X.fs:=λhb=>by
 obtain⟨_,o,ho,_⟩:=I.ok.funs.mem hb
 exact absurd (WW (WG ho) (Xa I.sz h)) (XS _)
theorem Inv.cne(I:Inv X pins σ H s):∀ x c,X.env.cells.lookup x=U c->c≠X.env.locals:=λx c e z=>by
 obtain⟨v,o,ho,hd⟩:=I.cell x c e
 obtain⟨m,⟨o',es,ep,ho',hd',_⟩,_⟩:=I.loc
 rw[z,ho'] at ho;cases ho;rw[hd'] at hd;cases hd
theorem Inv.funs(I:Inv X pins σ H s):s.heap.FunFrames X.base X.outer:=by
 have all:∀ (l:List Env),(∀ b∈wx l,b∈X.fs)->X.s₀.heap.FunFrames X.base l->s.heap.FunFrames X.base l:=by
  intro l
  induction l with
  | nil=>intro _ _;trivial
  | cons env r ih=>
   intro hs hl
   obtain⟨hk,⟨L,o,hf,hn,ho,hd⟩,hr⟩:=hl
   have hL:L∈X.fs:=hs L (by unfold wx;rw[Xu,hf];exact WE)
   obtain⟨sl,e⟩:=I.base.slot L o ho (I.ok.frf L hL) hL λz=>I.ok.exfs L z hL
   exact⟨hk,⟨L,_,hf,hn,e,hd⟩,ih (λb hb=>hs b (by unfold wx;rw[Xu,hf];exact WB _ hb)) hr⟩
 exact all X.outer (λ_ hb=>hb) I.ok.funs
theorem Inv.stack(I:Inv X pins σ H s):s.heap.FunFrames X.base X.stack:=by
 rcases I.ok.stk with e | ⟨e,hf⟩
 ·rw[e];exact I.funs
 ·rw[e]
  obtain⟨m,hn,_⟩:=I.loc
  refine .cons (by rw[I.ok.kind];decide) hf hn ?_ I.funs
  exact abf (Xa I.ok.bsz I.ok.above)
theorem Inv.stkSub(I:Inv X pins σ H s):∀ b∈wx X.stack,b∈X.env.locals::X.fs:=λb hb=>by
 rcases I.ok.stk with e | ⟨e,hf⟩
 ·rw[e] at hb;exact WB _ hb
 ·rw[e] at hb
  unfold wx at hb
  rw[Xu,hf] at hb
  exact hb
theorem Inv.stkFree(I:Inv X pins σ H s):∀ b∈wx X.stack,H b=Y:=λb hb=>by
 rcases WQ.mp (I.stkSub b hb) with e | hb
 ·rw[e];exact I.free
 ·obtain⟨_,o,ho,_⟩:=I.ok.funs.mem hb
  exact I.base.free b o ho (I.ok.frf b hb) λz=>I.ok.exfs b z hb
theorem Inv.step{t':Nat}{d':Drawn}{ch:List gV}(I:Inv X pins σ H s)
  (hch:∀ b∈ch,(b∈X.ex\/X.s₀.heap.objs.size<=b)/\b≠X.env.locals/\(∀ x c,X.env.cells.lookup x=U c->c≠b)/\∀ p∈X.pn++pins,p.1≠b)
  (keep:∀ b o,b≠X.env.locals->b∉X.fs->b∉ch->s.heap.get? b=U o->H b=Y->h'.get? b=U o)
  (slot:∀ b o,b≠X.env.locals->b∈X.fs->b∉ch->s.heap.get? b=U o->H b=Y->∃ sl,h'.get? b=U { o with slots:=sl }) (free:∀ b o,b∉ch->s.heap.get? b=U o->H b=Y->H' b=Y)
  (there:∀ b o,b∉ch->s.heap.get? b=U o->∃ o',h'.get? b=U o')
  (tups:∀ b xs,H b=U (.tup xs)->H' b=U (.tup xs)) (frzs:∀ b o u,H b=U (.frz o u)->H' b=U (.frz o u)) (tbls:∀ b ps,H b=U (.tbl ps)->∃ more,H' b=U (.tbl (ps++more)))
  (ns:∀ m,s.heap.Ns X.env.locals m->h'.Ns X.env.locals m) (hok:HOk X.prog X.w H' h') (hg:AllBare g') :
  Inv X pins σ H' { s with heap:=h',gens:=g',drawn:=d',toks:=t' }:=by
 have neL:∀ b o,X.s₀.heap.get? b=U o->b≠X.env.locals:=λb o e=>WZ (WW (WG e) I.ok.above)
 have neC:∀ b o,X.s₀.heap.get? b=U o->b∉X.ex->b∉ch:=λb o e hx hb=>by
  rcases(hch b hb).1 with z | z
  ·exact hx z
  ·exact absurd (WW (WG e) z) (XS _)
 have cellK:∀ x c,X.env.cells.lookup x=U c->∀ v,s.heap.IsCell c v->h'.IsCell c v:=λx c e v z0=>by
  obtain⟨o,ho,hd⟩:=z0
  have nch:c∉ch:=λz=>(hch c z).2.2.1 x c e rfl
  by_cases hc:c∈X.fs
  ·obtain⟨sl,q⟩:=slot c o (I.cne x c e) hc nch ho (I.freeC x c e)
   exact⟨_,q,hd⟩
  ·exact⟨o,keep c o (I.cne x c e) hc nch ho (I.freeC x c e),hd⟩
 refine⟨I.ok,I.os,hg,⟨λb o e n hb hx=>?_,λb o e n hb hx=>?_,λb o e n hx=>?_,λb o e hx=>?_,λb xs e=>tups b xs (I.base.tups b xs e),λb o xs e=>frzs b o xs (I.base.frzs b o xs e),λb ps e=>?_⟩,?_,λx c e=>?_,?_,λx c e=>?_,λp hp=>?_,hok,I.len⟩
 ·exact keep b o (neL b o e) hb (neC b o e hx) (I.base.keep b o e n hb hx) (I.base.free b o e n hx)
 ·obtain⟨sl,e1⟩:=I.base.slot b o e n hb hx
  obtain⟨sl',e2⟩:=slot b _ (neL b o e) hb (neC b o e hx) e1 (I.base.free b o e n hx)
  exact⟨sl',e2⟩
 ·obtain⟨o',e1⟩:=I.base.there b o e hx
  exact free b o' (neC b o e hx) e1 (I.base.free b o e n hx)
 ·obtain⟨o',e1⟩:=I.base.there b o e hx
  exact there b o' (neC b o e hx) e1
 ·obtain⟨m1,e1⟩:=I.base.tbls b ps e
  obtain⟨m2,e2⟩:=tbls b _ e1
  exact⟨m1++m2,by rw[e2,Array.append_assoc]⟩
 ·obtain⟨m,hn,hl⟩:=I.loc
  refine⟨m,ns m hn,λi x v e1 e2 e3=>?_⟩
  obtain⟨u,r,l⟩:=hl i x v e1 e2 e3
  refine⟨u,r,?_⟩
  rcases l with l | ⟨k,c,e,z⟩
  ·exact .inl l
  ·exact .inr ⟨k,c,e,cellK x c e _ z⟩
 ·obtain⟨v,z⟩:=I.cell x c e
  exact⟨v,cellK x c e v z⟩
 ·obtain⟨m,⟨o,_,_,ho,_⟩,_⟩:=I.loc
  exact free _ o (λz=>(hch _ z).2.1 rfl) ho I.free
 ·obtain⟨v,o,ho,hd⟩:=I.cell x c e
  exact free c o (λz=>(hch c z).2.2.1 x c e rfl) ho (I.freeC x c e)
 ·obtain⟨e,n,ne,nf,d⟩:=I.pin p hp
  have nch:p.1∉ch:=λz=>(hch p.1 z).2.2.2 p hp rfl
  exact⟨keep p.1 p.2 ne nf nch e n,free p.1 p.2 nch e n,ne,nf,d⟩
theorem Inv.un{t':Nat}(I:Inv X pins σ H s)(u:Un X.fs [] H H' s.heap h')(hok:HOk X.prog X.w H' h'):Inv X pins σ H' { s with heap:=h',toks:=t' }:=by
 obtain⟨m,⟨o,es,ep,ho,r⟩,_⟩:=id I.loc
 obtain⟨sl,hL⟩:=u.any ho I.free (by simp)
 exact I.step (g':=s.gens) (d':=s.drawn) (ch:=[]) (λ_ z=>nomatch z) (λb o _ hb _ e n=>u.keep b o e n hb (by simp)) (λb o _ hb _ e n=>u.slot b o e n hb (by simp)) (λb o _ e n=>u.free b o e n (by simp)) (λb o _ e=>u.there b o e (by simp)) u.tups u.frzs u.tbls (λm' hm=>by
  obtain⟨o',es',ep',ho',r'⟩:=hm
  rw[ho] at ho';cases ho'
  exact⟨_,es',ep',hL,r'⟩) hok I.bare
theorem Inv.call{t':Nat}{d':Drawn}(I:Inv X pins σ H s)(u:Un (wx X.stack) ch H H' s.heap h')(hok:HOk X.prog X.w H' h')(hg:AllBare g')
  (hch:∀ b∈ch,(b∈X.ex\/X.s₀.heap.objs.size<=b)/\b≠X.env.locals/\(∀ x c,X.env.cells.lookup x=U c->c≠b)/\∀ p∈X.pn++pins,p.1≠b) :
  Inv X pins σ H' { s with heap:=h',gens:=g',drawn:=d',toks:=t' }:=by
 obtain⟨m,⟨o,es,ep,ho,r⟩,_⟩:=id I.loc
 obtain⟨sl,hL⟩:=u.any ho I.free λz=>(hch _ z).2.1 rfl
 exact I.step (ch:=ch) hch (λb o hL hb hc e n=>u.keep b o e n (λz=>(WQ.mp (I.stkSub b z)).elim hL hb) hc) (λb o _ _ hc e n=>u.any e n hc) (λb o hc e n=>u.free b o e n hc) (λb o hc e=>u.there b o e hc) u.tups u.frzs u.tbls (λm' hm=>by
  obtain⟨o',es',ep',ho',r'⟩:=hm
  rw[ho] at ho';cases ho'
  exact⟨_,es',ep',hL,r'⟩) hok hg
theorem Inv.turned{t':Nat}{it:gV}(I:Inv X pins σ H s)(k:∀ b o,b≠it->s.heap.get? b=U o->h'.get? b=U o)(hn:H it=Y)(hL:it≠X.env.locals)
  (h1:it∈X.ex\/X.s₀.heap.objs.size<=it) (h2:∀ x c,X.env.cells.lookup x=U c->c≠it) (h3:∀ p∈X.pn++pins,p.1≠it):Inv X pins σ H { s with heap:=h',toks:=t' }:=by
 have nit:∀ b u,H b=U u->b≠it:=λb u e z=>by rw[z,hn] at e;cases e
 refine I.step (g':=s.gens) (d':=s.drawn) (ch:=[it]) (λb hb=>?_) (λb o _ _ hc e _=>k b o (λz=>hc (by simp[z])) e) (λb o _ _ hc e _=>⟨o.slots,k b o (λz=>hc (by simp[z])) e⟩) (λ_ _ _ _ n=>n)
  (λb o hc e=>⟨o,k b o (λz=>hc (by simp[z])) e⟩) (λ_ _ e=>e) (λ_ _ _ e=>e) (λb ps e=>⟨#[],by rw[e];simp⟩) (λm hm=>?_) (λb u e=>?_) I.bare
 ·have e:b=it:=by simpa using hb
  subst e
  exact⟨h1,hL,h2,h3⟩
 ·obtain⟨o,es,ep,ho,r⟩:=hm
  exact⟨o,es,ep,k _ o (Ne.symm hL) ho,r⟩
 ·refine(I.hok b u e).stay (λc v hc q=>k c v ?_ q) (λ_ q=>q) λ_ _ q=>q
  rcases hc with z | z
  ·rw[z];exact nit b u e
  ·exact nit c _ z
theorem Inv.tok(I:Inv X pins σ H s)(t:Nat):Inv X pins σ H { s with toks:=t }:=I.un (h':=s.heap) (t':=t) Un.refl I.hok
theorem Inv.kept{t':Nat}(I:Inv X pins σ H s)(k:∀ b u,s.heap.get? b=U u->h'.get? b=U u):Inv X pins σ H { s with heap:=h',toks:=t' }:=I.un (Un.kept k) (I.hok.kept k)
theorem Inv.laid{a:gV}{t':Nat}(I:Inv X pins σ H s)(k:∀ b u,s.heap.get? b=U u->h'.get? b=U u)(hp:s.heap.objs.size<=a)(new:ObjOk X.prog X.w (upd H a o) h' a o) :
  Inv X pins σ (upd H a o) { s with heap:=h',toks:=t' }:=I.un (Un.laid k hp (I.hok.fresh hp)) (I.hok.laid k hp new)
theorem Inv.write{e:gV}{t':Nat}(I:Inv X pins σ H s)(mu:Mut (H x))(he:e=x\/H e=U (.own x))(k:∀ b u,b≠e->s.heap.get? b=U u->h'.get? b=U u)(heo:∃ u,h'.get? e=U u)
  (new:ObjOk X.prog X.w (upd H x o) h' x o):Inv X pins σ (upd H x o) { s with heap:=h',toks:=t' }:=I.un (Un.write mu he k heo) (I.hok.write mu he k heo new)
theorem Inv.pins_of{pins':List (gV×Obj)}(I:Inv X pins σ H s)(h:∀ p∈pins',s.heap.get? p.1=U p.2/\H p.1=Y/\p.1≠X.env.locals/\p.1∉X.fs/\∀ v,p.2.data≠.cell v):Inv X pins' σ H s:=
 ⟨I.ok,I.os,I.bare,I.base,I.loc,I.cell,I.free,I.freeC,λp hp=>(Xb.mp hp).elim (λz=>I.pin p (XA _ z)) (h p),I.hok,I.len⟩
theorem sV{N:List Str}(hN:N.Nodup){i j:Nat}{x:Str}(a:N[i]?=U x)(b:N[j]?=U x):i=j:=by
 obtain⟨h1,e1⟩:=WC.mp a
 obtain⟨h2,e2⟩:=WC.mp b
 exact(List.getElem_inj hN).mp (e1.trans e2.symm)
theorem vA{A:tx}{i:Nat}{x:Str}{Q:Unit->gw->Prop}(I:Inv X pins σ H s)(hN:X.N.Nodup)(hi:X.N[i]?=U x)(hx:MR X.env.scope x)(r:RelV v u)
  (h:∀ s',Inv X pins (σ.set i (U v)) H s'->(∃ a,Heap.SameBut a s.heap s'.heap/\(a=X.env.locals\/X.env.cells.lookup x=U a))->Q () s') (hf:X.fn x=true\/X.env.scope.names.lookup x=U .local:=by first | exact .inl rfl | exact .inr rfl | assumption):Ew M A (storeName X.env x u) Q E s:=by
 obtain⟨m,hn,hl⟩:=id I.loc
 have hcls:(X.env.scope.kind==.class||(X.env.scope.kind==.module&&X.env.locals != X.env.globals))=false:=by rw[I.ok.kind];rfl
 have hiσ:i < σ.length:=by rw[I.len];exact(WC.mp hi).1
 have cne:=I.cne
 have tracked:∀ {a:gV} {h':wo},(∃ o,s.heap.get? a=U o/\H a=Y)->Heap.SameBut a s.heap h'->HOk X.prog X.w H h':=λ{a h'} ha hs b ob e=>by
  obtain⟨_,_,hfree⟩:=ha
  refine(I.hok b ob e).stay (λc w' hc q=>(hs.2 c ?_).trans q) (λ_ q=>q) λ_ _ q=>q
  rintro rfl
  rcases hc with rfl | hc
  ·rw[hfree] at e;cases e
  ·rw[hfree] at hc;cases hc
 rcases hx with hk | hk
 ·refine wpAny_storeName_local hk hn (λh' hn' hs=>?_) hcls
  obtain⟨oL,_,_,hoL,_⟩:=id hn
  refine h _ ⟨I.ok,I.os,I.bare,⟨λb o e n hb hx=>?_,λb o e n hb hx=>?_,I.base.free,λb o e hx=>?_,I.base.tups,I.base.frzs,I.base.tbls⟩,⟨_,hn',λj y v' e1 e2 e3=>?_⟩,λy c e=>?_,I.free,I.freeC,λp hp=>?_,tracked ⟨oL,hoL,I.free⟩ hs,by simpa using I.len⟩ ⟨_,hs,.inl rfl⟩
  ·exact(hs.2 b (WZ (WW (WG e) I.ok.above))).trans (I.base.keep b o e n hb hx)
  ·obtain⟨sl,e1⟩:=I.base.slot b o e n hb hx
   exact⟨sl,(hs.2 b (WZ (WW (WG e) I.ok.above))).trans e1⟩
  ·obtain⟨o',e1⟩:=I.base.there b o e hx
   exact⟨o',(hs.2 b (WZ (WW (WG e) I.ok.above))).trans e1⟩
  ·by_cases hj:j=i
   ·subst hj
    rw[hi] at e1;cases e1
    rw[Xv hiσ] at e2
    cases e2
    exact⟨u,r,.inl ⟨hk,by simp⟩⟩
   ·rw[Xl (Ne.symm hj)] at e2
    obtain⟨u',r',q⟩:=hl j y v' e1 e2 e3
    refine⟨u',r',?_⟩
    rcases q with ⟨k,e⟩ | ⟨k,c,e,z⟩
    ·refine .inl ⟨k,?_⟩
     have:y≠x:=λe=>hj (sV hN e1 (e ▸ hi))
     simp[this,e]
    ·exact .inr ⟨k,c,e,z.sameBut hs (cne y c e)⟩
  ·obtain⟨w',z⟩:=I.cell y c e
   exact⟨w',z.sameBut hs (cne y c e)⟩
  ·obtain⟨e,n,ne,nf,d⟩:=I.pin p hp
   exact⟨(hs.2 p.1 ne).trans e,n,ne,nf,d⟩
 ·have hfn:X.fn x=true:=by
   rcases hf with z | z
   ·exact z
   ·rw[z] at hk;cases hk
  obtain⟨c,hc⟩:=I.ok.has x (.inl hk)
  obtain⟨w',z⟩:=I.cell x c hc
  refine wpAny_storeName_cell I.ok.kind hk hc z (λh' hc' hs=>?_)
  obtain⟨oc,hoc,hocd⟩:=id z
  refine h { s with heap:=h' } ⟨I.ok,I.os,I.bare,⟨λb o e n hb hx=>?_,λb o e n hb hx=>?_,I.base.free,λb o e hx=>?_,I.base.tups,I.base.frzs,I.base.tbls⟩,⟨m,hn.sameBut hs (Ne.symm (cne x c hc)),λj y v' e1 e2 e3=>?_⟩,λy c' e=>?_,I.free,I.freeC,λp hp=>?_,tracked ⟨oc,hoc,I.freeC x c hc⟩ hs,by simpa using I.len⟩ ⟨c,hs,.inr hc⟩
  ·exact(hs.2 b (WZ (WW (WG e) (I.ok.cab x c hfn hc)))).trans (I.base.keep b o e n hb hx)
  ·obtain⟨sl,e1⟩:=I.base.slot b o e n hb hx
   exact⟨sl,(hs.2 b (WZ (WW (WG e) (I.ok.cab x c hfn hc)))).trans e1⟩
  ·obtain⟨o',e1⟩:=I.base.there b o e hx
   exact⟨o',(hs.2 b (WZ (WW (WG e) (I.ok.cab x c hfn hc)))).trans e1⟩
  ·by_cases hj:j=i
   ·subst hj
    rw[hi] at e1;cases e1
    rw[Xv hiσ] at e2
    cases e2
    exact⟨u,r,.inr ⟨.inl hk,c,hc,hc'⟩⟩
   ·rw[Xl (Ne.symm hj)] at e2
    obtain⟨u',r',q⟩:=hl j y v' e1 e2 e3
    refine⟨u',r',?_⟩
    rcases q with q | ⟨k,c',e,z'⟩
    ·exact .inl q
    ·refine .inr ⟨k,c',e,z'.sameBut hs ?_⟩
     rintro rfl
     exact hj (sV hN e1 (I.ok.inj _ _ _ e hc ▸ hi))
  ·by_cases hcc:c'=c
   ·subst hcc;exact⟨_,hc'⟩
   ·obtain⟨w2,z2⟩:=I.cell y c' e
    exact⟨w2,z2.sameBut hs hcc⟩
  ·obtain⟨e,n,ne,nf,d⟩:=I.pin p hp
   refine⟨(hs.2 p.1 ?_).trans e,n,ne,nf,d⟩
   intro q
   rw[q,hoc] at e
   have q':oc=p.2:=Xp e
   exact d w' (by rw[<- q'];exact hocd)
theorem iK{A:tx}{i:Nat}{x:Str}{Q:Unit->gw->Prop}(I:Inv X pins σ H s)(hN:X.N.Nodup)(hi:X.N[i]?=U x)(hx:MR X.env.scope x)(r:RelV v u)
  (h:∀ s',Inv X pins (σ.set i (U v)) H s'->Q () s') (hf:X.fn x=true\/X.env.scope.names.lookup x=U .local:=by first | exact .inl rfl | exact .inr rfl | assumption):Ew M A (storeName X.env x u) Q E s:=
 vA I hN hi hx r (λs' I' _=>h s' I') hf
theorem Inv.call'{s':gw}(I:Inv X pins σ H s)(ho:s'.os=s.os)(u:Un (wx X.stack) ch H H' s.heap s'.heap)(hok:HOk X.prog X.w H' s'.heap)(hg:AllBare s'.gens)
  (hch:∀ b∈ch,(b∈X.ex\/X.s₀.heap.objs.size<=b)/\b≠X.env.locals/\(∀ x c,X.env.cells.lookup x=U c->c≠b)/\∀ p∈X.pn++pins,p.1≠b):Inv X pins σ H' s':=by
 obtain⟨h',g',d',t',o'⟩:=s'
 have e:o'=s.os:=ho
 subst e
 exact I.call (g':=g') (t':=t') (d':=d') u hok hg hch
end
noncomputable abbrev XK:=dn->Option gV->Hp->Prop
noncomputable abbrev St:=List (Option V)
noncomputable abbrev VK:=V->Hp->Prop
noncomputable abbrev TE:=St->Hp->VK->Prop
noncomputable abbrev TT:=St->Hp->(Bool->Hp->Prop)->Prop
noncomputable abbrev TA:=St->Hp->(List V->Hp->Prop)->Prop
structure ny where
 nx:St->Hp->Prop
 rt:VK
 bk:St->Hp->Prop:=λ_ _=>False
 ct:St->Hp->Prop:=λ_ _=>False
noncomputable abbrev TS:=ny->St->Hp->Prop
def EP(X:Cx)(pins:List (gV×Obj))(σ:St)(Q:VK)(u:dn)(s':gw):Prop:=∃ v H',Inv X pins σ H' s'/\RelV v u/\Q v H'
def TP(X:Cx)(pins:List (gV×Obj))(σ:St)(Q:Bool->Hp->Prop)(b:Bool)(s':gw):Prop:=∃ H',Inv X pins σ H' s'/\Q b H'
def AP(X:Cx)(pins:List (gV×Obj))(σ:St)(Q:List V->Hp->Prop)(us:List dn)(s':gw):Prop:=∃ vs H',Inv X pins σ H' s'/\Vals vs us/\Q vs H'
def SP(X:Cx)(pins:List (gV×Obj))(D:ny)(f:Flow)(s':gw):Prop:=
 match f with
 | .next=>∃ σ' H',Inv X pins σ' H' s'/\D.nx σ' H'
 | .brk=>∃ σ' H',Inv X pins σ' H' s'/\D.bk σ' H'
 | .cont=>∃ σ' H',Inv X pins σ' H' s'/\D.ct σ' H'
 | .ret u=>∃ v σ' H',Inv X pins σ' H' s'/\RelV v u/\D.rt v H'
def PE(X:Cx)(e:pc)(t:TE):Prop:=
 ∀ (pins:List (gV×Obj)) (s:gw) (σ:St) (H:Hp) (Q:VK),Inv X pins σ H s->t σ H Q->Ew (model X.prog X.w) X.A (eval e X.env) (EP X pins σ Q) X.xe s
def PT(X:Cx)(e:pc)(t:TT):Prop:=
 ∀ (pins:List (gV×Obj)) (s:gw) (σ:St) (H:Hp) (Q:Bool->Hp->Prop),Inv X pins σ H s->t σ H Q->Ew (model X.prog X.w) X.A (isTrue e X.env (eval e X.env)) (TP X pins σ Q) X.xe s
def PW(X:Cx)(e:pc)(t:TT):Prop:=
 ∀ (whole:Sem dn) (pins:List (gV×Obj)) (s:gw) (σ:St) (H:Hp) (Q:Bool->Hp->Prop),Inv X pins σ H s->t σ H Q->Ew (model X.prog X.w) X.A (isTrue e X.env whole) (TP X pins σ Q) X.xe s
theorem PW.pt(h:PW X e t):PT X e t:=h _
def PA(X:Cx)(es:List pc)(t:TA):Prop:=
 ∀ (pos:Pos) (pins:List (gV×Obj)) (s:gw) (σ:St) (H:Hp) (Q:List V->Hp->Prop),Inv X pins σ H s->t σ H Q->Ew (model X.prog X.w) X.A (spliced (backTo pos (zH es X.env))) (AP X pins σ Q) X.xe s
def PS(X:Cx)(st:tu)(t:TS):Prop:=
 ∀ (pins:List (gV×Obj)) (s:gw) (σ:St) (H:Hp) (D:ny),Inv X pins σ H s->t D σ H->Ew (model X.prog X.w) X.A (exec st X.env) (SP X pins D) X.xe s
def PSs(X:Cx)(st:List tu)(t:TS):Prop:=
 ∀ (pins:List (gV×Obj)) (s:gw) (σ:St) (H:Hp) (D:ny),Inv X pins σ H s->t D σ H->Ew (model X.prog X.w) X.A (execs st X.env) (SP X pins D) X.xe s
theorem cz{α:Type}{t:Sem α}{Q Q':α->gw->Prop}{M:Model}{A:tx}{E:dn->gw->Prop}{s:gw}(h:Ew M A t Q E s)(hQ:∀ a s,Q a s->Q' a s):Ew M A t Q' E s:=WV h hQ λ_ _ x=>x
section
variable{X:Cx}
def tVar(i:Nat):TE:=λσ H Q=>∃ v,σ[i]?=U (U v)/\Q v H
def tC(v:V):TE:=λ_ H Q=>Q v H
theorem BN{i:Nat}{x:Str}(hN:X.N[i]?=U x)(hv:QQ X.env.scope x)(hd:(x==("__debug__":Str))=false:=by decide)(hcd:(x==("__classdict__":Str))=false:=by decide):PE X (.Name x pos) (tVar i):=by
 intro pins s σ H Q I h
 obtain⟨v,e,h⟩:=h
 obtain⟨m,hn,hl⟩:=I.loc
 obtain⟨u,r,l⟩:=hl i x v hN e hv
 have fin:EP X pins σ Q u s:=⟨v,H,I,r,h⟩
 rcases l with ⟨hk,hm⟩ | ⟨hk,c,hc,hcell⟩
 ·exact wpAny_Name (wpAny_loadName_local I.ok.kind hk hn hm fin) hd
 ·rcases hk with hk | hk
  ·exact wpAny_Name (wpAny_loadName_cell I.ok.kind hk hc hcell fin) hd
  ·exact wpAny_Name (wpAny_loadName_free I.ok.kind hk hc hcell fin hcd) hd
theorem Tv{i j pos}:PE X (.Constant (.int i) j pos) (tC (.int i)):=λ_ _ _ H _ I h=>wpAny_Constant_int ⟨.int i,H,I.tok _,⟨_,rfl⟩,h⟩
theorem pe_bl{b j pos}:PE X (.Constant (.bool b) j pos) (tC (.bl b)):=λ_ _ _ H _ I h=>Constant_bool ⟨.bl b,H,I,rfl,h⟩
theorem Tu{j pos}:PE X (.Constant .none j pos) (tC .non):=λ_ _ _ H _ I h=>Constant_none ⟨.non,H,I,rfl,h⟩
theorem Tq{x j pos}:PE X (.Constant (.str x) j pos) (tC (.str x)):=λ_ _ _ H _ I h=>abw ⟨.str x,H,I.tok _,⟨_,rfl⟩,h⟩
def Gl(X:Cx)(x:Str):Prop:=X.env.kindOf x=U .globalImplicit
theorem rZ{s:gw}{u:dn}{Q:dn->gw->Prop}(I:Inv X pins σ H s)(hg:Gl X x)(hm:X.mg x=U u)(h:Q u s)
  (hd:(x==("__debug__":Str))=false:=by decide):Ew (model X.prog X.w) X.A (eval (.Name x pos) X.env) Q E s:=
 Zd I.ok.kind hg (aaQ (by rw[I.ok.glob];exact I.mod.glob.keeps I.bk) hm h) hd
theorem tJ{s:gw}{u:dn}{Q:dn->gw->Prop}(I:Inv X pins σ H s)(hg:Gl X x)(hm:X.mg x=Y)(hv:bootBuiltins x=U u)(h:Q u s)
  (hn:x≠"__name__":=by decide) (hd:(x==("__debug__":Str))=false:=by decide):Ew (model X.prog X.w) X.A (eval (.Name x pos) X.env) Q E s:=by
 obtain⟨mb,h1,h2⟩:=I.mod.blt
 exact Zd I.ok.kind hg (Calls.loadGlobal_builtin (by rw[I.ok.glob];exact I.mod.glob.keeps I.bk) hm (by rw[I.ok.blt];exact h1.keeps I.bk) ((h2 x hn).trans hv) h) hd
theorem Dz{u:dn}(hg:Gl X x)(hm:X.mg x=U u)(r:RelV v u)(hd:(x==("__debug__":Str))=false:=by decide):PE X (.Name x pos) (tC v):=
 λ_ _ _ H _ I h=>rZ I hg hm ⟨v,H,I,r,h⟩ hd
theorem DF{u:dn}(hg:Gl X x)(hm:X.mg x=Y)(hv:bootBuiltins x=U u)(r:RelV v u)(hn:x≠"__name__":=by decide)(hd:(x==("__debug__":Str))=false:=by decide):PE X (.Name x pos) (tC v):=
 λ_ _ _ H _ I h=>tJ I hg hm hv ⟨v,H,I,r,h⟩ hn hd
variable{a b:pc}{ta tb:TE}{pos:Pos}
variable{tA tB':TT}{rest:List pc}
def tAnd(t u:TT):TT:=λσ H Q=>t σ H λc H1=>if c=true then u σ H1 Q else Q false H1
def tOr(t u:TT):TT:=λσ H Q=>t σ H λc H1=>if c=true then Q true H1 else u σ H1 Q
def tNot(t:TT):TT:=λσ H Q=>t σ H λc H1=>Q (!c) H1
theorem NJ(ha:PT X a tA):PW X (.BoolOp .And [a] pos) tA:=by
 intro wh pins s σ H Q I h
 refine isTrue_and (cz (ha pins s σ H Q I h) λc s1 e=>?_)
 cases c with
 | true=>exact isTrue_and_nil e
 | false=>exact e
theorem Tb(ha:PT X a tA):PW X (.BoolOp .Or [a] pos) tA:=by
 intro wh pins s σ H Q I h
 refine isTrue_or (cz (ha pins s σ H Q I h) λc s1 e=>?_)
 cases c with
 | false=>exact isTrue_or_nil e
 | true=>exact e
theorem Tc(ha:PT X a tA)(hb:PW X (.BoolOp .And (b::rest) pos) tB'):PW X (.BoolOp .And (a::b::rest) pos) (tAnd tA tB'):=by
 intro wh pins s σ H Q I h
 refine isTrue_and (cz (ha pins s σ H _ I h) λc s1 ⟨H1,I1,q1⟩=>?_)
 cases c with
 | true=>exact hb wh pins s1 σ H1 Q I1 q1
 | false=>exact⟨H1,I1,q1⟩
theorem pw_or(ha:PT X a tA)(hb:PW X (.BoolOp .Or (b::rest) pos) tB'):PW X (.BoolOp .Or (a::b::rest) pos) (tOr tA tB'):=by
 intro wh pins s σ H Q I h
 refine isTrue_or (cz (ha pins s σ H _ I h) λc s1 ⟨H1,I1,q1⟩=>?_)
 cases c with
 | true=>exact⟨H1,I1,q1⟩
 | false=>exact hb wh pins s1 σ H1 Q I1 q1
theorem Td(ha:PT X a tA):PT X (.UnaryOp .Not a pos) (tNot tA):=by
 intro pins s σ H Q I h
 exact isTrue_not (ha pins s σ H (λc H1=>Q (!c) H1) I h)
theorem Tt{op}(h:PE X a t):PE X (.BoolOp op [a] pos) t:=λpins s σ H Q I hw=>BoolOp_one (h pins s σ H Q I hw)
def tIf(t:TT)(ta tb:TE):TE:=λσ H Q=>t σ H λc H1=>if c=true then ta σ H1 Q else tb σ H1 Q
theorem Ja(hc:PT X c tA)(ha:PE X a ta)(hb:PE X b tb):PE X (.IfExp c a b pos) (tIf tA ta tb):=by
 intro pins s σ H Q I h
 refine wpAny_IfExp (cz (hc pins s σ H _ I h) λd s1 ⟨H1,I1,q1⟩=>?_)
 cases d with
 | true=>exact ha pins s1 σ H1 Q I1 q1
 | false=>exact hb pins s1 σ H1 Q I1 q1
end
def kK(K:FA)(H:Hp)(a:gV)(xs:List V):Prop:=
 Rd H a (.lst xs) \/
  ∃ (o:Obj) (its:Array dn) (n:Nat),K.lookup a=U o/\o.cls=.type "list"/\o.dict=Y/\o.data=.seq its n/\its.size<=ww/\Vals xs its.toList
def mj(K:FA)(H:Hp)(a:gV)(xs:List V):Prop:=
 Rd H a (.tup xs) \/
  ∃ (o:Obj) (its:Array dn) (n:Nat),K.lookup a=U o/\o.cls=.type "tuple"/\o.dict=Y/\o.data=.seq its n/\its.size<=ww/\Vals xs its.toList
def absV:dn->Option V
 | .none=>U .non
 | .bool b=>U (.bl b)
 | .int i _=>U (.int i)
 | .str x _=>U (.str x)
 | .bytes b _=>U (.byt b)
 | .float b _=>U (.flt b)
 | .ref a=>U (.ref a)
 | .type n=>U (.ty n)
 | _=>Y
theorem RelV.abs(r:RelV x u):absV u=U x:=by
 cases x with
 | non=>cases r;rfl
 | bl _=>cases r;rfl
 | int _=>obtain⟨t,rfl⟩:=r;rfl
 | str _=>obtain⟨t,rfl⟩:=r;rfl
 | byt _=>obtain⟨t,rfl⟩:=r;rfl
 | flt _=>obtain⟨t,rfl⟩:=r;rfl
 | ref _=>cases r;rfl
 | ty _=>cases r;rfl
theorem RelV.inj(r:RelV x u)(q:RelV y u):x=y:=Xp (r.abs.symm.trans q.abs)
theorem Vals.inj:∀ {xs ys:List V} {us:List dn},Vals xs us->Vals ys us->xs=ys
 | _,_,_,.nil,.nil=>rfl
 | _,_,_,.cons r t,.cons r' t'=>by rw[r.inj r',Vals.inj t t']
section
variable{X:Cx}{pins:List (gV×Obj)}{σ:St}{H:Hp}{s:gw}{a:gV}{xs ys:List V}
theorem Inv.list(I:Inv X pins σ H s)(h:kK X.K H a xs):∃ its:List dn,Vals xs its/\PlainL s.heap a its.toArray/\xs.length<=ww:=by
 rcases h with h | ⟨o,its,n,hk,hc,hd,hs,hz,r⟩
 ·obtain⟨z,its,n,r,e⟩:=h.ok I.hok
  exact⟨its,r,⟨_,n,e,rfl,rfl,rfl⟩,z⟩
 ·refine⟨its.toList,r,⟨o,n,I.kIn a o hk,hc,hd,by simpa using hs⟩,?_⟩
  have e:=r.length
  simp only[Yj] at e
  omega
theorem Inv.tuple(I:Inv X pins σ H s)(h:mj X.K H a xs):∃ its:List dn,Vals xs its/\IsTup s.heap a its.toArray/\xs.length<=ww:=by
 rcases h with h | ⟨o,its,n,hk,hc,hdn,hs,hz,r⟩
 ·obtain⟨z,its,r,p⟩:=h.ok I.hok
  exact⟨its,r,p.up,z⟩
 ·refine⟨its.toList,r,⟨o,I.kIn a o hk,hc,n,by simpa using hs⟩,?_⟩
  have e:=r.length
  simp only[Yj] at e
  omega
theorem Inv.list_inj(I:Inv X pins σ H s)(h:kK X.K H a xs)(h':kK X.K H a ys):xs=ys:=by
 obtain⟨its,r,⟨o,n,e,_,_,d⟩,_⟩:=I.list h
 obtain⟨its',r',⟨o',n',e',_,_,d'⟩,_⟩:=I.list h'
 rw[e] at e';cases e'
 rw[d] at d'
 injection d' with d1 _
 have:its=its':=by simpa using congrArg Array.toList d1
 subst this
 exact r.inj r'
theorem Inv.tuple_inj(I:Inv X pins σ H s)(h:mj X.K H a xs)(h':mj X.K H a ys):xs=ys:=by
 obtain⟨its,r,⟨o,e,_,n,d⟩,_⟩:=I.tuple h
 obtain⟨its',r',⟨o',e',_,n',d'⟩,_⟩:=I.tuple h'
 rw[e] at e';cases e'
 rw[d] at d'
 injection d' with d1 _
 have:its=its':=by simpa using congrArg Array.toList d1
 subst this
 exact r.inj r'
end
noncomputable abbrev Cx.wish(X:Cx)(E:dn->gw->Prop):Cx:={ X with xe:=E }
noncomputable abbrev Cx.nox(X:Cx):Cx:=X.wish λ_ _=>False
theorem Cx.Ok.wish{X:Cx}(ok:X.Ok)(E:dn->gw->Prop):(X.wish E).Ok:=
 ⟨ok.mod,ok.kind,ok.glob,ok.blt,ok.above,ok.inj,ok.has,ok.cab,ok.hd,ok.frames,ok.stk,ok.exf,ok.bs,ok.bsz,ok.noex,ok.exfs,ok.funs,ok.frf⟩
theorem Cx.Ok.unwish{X:Cx}(ok:(X.wish E).Ok):X.Ok:=
 ⟨ok.mod,ok.kind,ok.glob,ok.blt,ok.above,ok.inj,ok.has,ok.cab,ok.hd,ok.frames,ok.stk,ok.exf,ok.bs,ok.bsz,ok.noex,ok.exfs,ok.funs,ok.frf⟩
section
variable{X:Cx}{pins:List (gV×Obj)}{σ:St}{H:Hp}{s:gw}{E:dn->gw->Prop}
theorem Inv.wish(I:Inv X pins σ H s)(E:dn->gw->Prop):Inv (X.wish E) pins σ H s:=⟨I.ok.wish E,I.os,I.bare,I.base,I.loc,I.cell,I.free,I.freeC,I.pin,I.hok,I.len⟩
theorem Inv.unwish(I:Inv (X.wish E) pins σ H s):Inv X pins σ H s:=⟨I.ok.unwish,I.os,I.bare,I.base,I.loc,I.cell,I.free,I.freeC,I.pin,I.hok,I.len⟩
theorem SP.unwish{D:ny}(h:SP (X.wish E) pins D f s'):SP X pins D f s':=by
 cases f with
 | next=>obtain⟨σ',H',I,q⟩:=h;exact⟨σ',H',I.unwish,q⟩
 | brk=>obtain⟨σ',H',I,q⟩:=h;exact⟨σ',H',I.unwish,q⟩
 | cont=>obtain⟨σ',H',I,q⟩:=h;exact⟨σ',H',I.unwish,q⟩
 | ret u=>obtain⟨v,σ',H',I,r,q⟩:=h;exact⟨v,σ',H',I.unwish,r,q⟩
theorem PSs.nox{st:List tu}(h:PSs X.nox st t):PSs X st t:=λpins s σ H D I hw=>
 WV (h pins s σ H D (I.wish _) hw) (λ_ _ q=>q.unwish) λ_ _ z=>False.elim z
end
section
variable{X:Cx}{st:tu}{rest:List tu}{t u:TS}{e:pc}{te:TE}{pos:Pos}
def HW:TS:=λD σ H=>D.nx σ H
def tSeq(t u:TS):TS:=λD σ H=>t { D with nx:=u D } σ H
theorem NN:PSs X [] HW:=λ_ _ σ H _ I h=>YX ⟨σ,H,I,h⟩
theorem zl(h1:PS X st t)(h2:PSs X rest u):PSs X (st::rest) (tSeq t u):=by
 intro pins s σ H D I h
 refine aah (cz (h1 pins s σ H { D with nx:=u D } I h) λf s1 q=>?_)
 cases f with
 | next=>
  obtain⟨σ',H',I',q⟩:=q
  exact h2 pins s1 σ' H' D I' q
 | ret v=>exact q
 | brk=>exact q
 | cont=>exact q
theorem xF(h1:PS X st t):PSs X [st] t:=by
 intro pins s σ H D I h
 refine aah (cz (h1 pins s σ H D I h) λf s1 q=>?_)
 cases f with
 | next=>exact YX q
 | ret v=>exact q
 | brk=>exact q
 | cont=>exact q
def Sy:TS:=λD σ H=>D.bk σ H
def tCont:TS:=λD σ H=>D.ct σ H
theorem NQ:PS X (.Pass pos) HW:=λ_ _ σ H _ I h=>wpAny_Pass ⟨σ,H,I,h⟩
theorem IR:PS X (.Break pos) Sy:=λ_ _ σ H _ I h=>wpAny_Break ⟨σ,H,I,h⟩
theorem zm:PS X (.Continue pos) tCont:=λ_ _ σ H _ I h=>wpAny_Continue ⟨σ,H,I,h⟩
theorem Inv.quiet{s:gw}(I:Inv X pins σ H s):interactive X.env=false:=by simp[interactive,I.ok.kind]
theorem Th{x j pos pos'}:PS X (.Expr (.Constant (.str x) j pos) pos') HW:=λ_ s σ H _ I h=>wpAny_Expr (abw (show SP X _ _ .next { s with toks:=s.toks+1 } from ⟨σ,H,I.tok _,h⟩)) I.quiet
def tDrop(te:TE):TS:=λD σ H=>te σ H λ_ H1=>D.nx σ H1
theorem NS(he:PE X e te)(hs:swapsWith e Y pos.line X.env=pure false:=by rfl):PS X (.Expr e pos) (tDrop te):=by
 intro pins s σ H D I h
 exact wpAny_Expr_any (cz (he pins s σ H _ I h) λv s1 ⟨x,H1,I1,r1,q1⟩=>⟨σ,H1,I1,q1⟩) I.quiet hs
def tRet(te:TE):TS:=λD σ H=>te σ H D.rt
theorem Tf(he:PE X e te):PS X (.Return (U e) pos) (tRet te):=by
 intro pins s σ H D I h
 exact wpAny_Return_some (cz (he pins s σ H _ I h) λv s1 ⟨x,H1,I1,r1,q1⟩=>⟨x,σ,H1,I1,r1,q1⟩)
def tRetN:TS:=λD _ H=>D.rt .non H
theorem NP:PS X (.Return Y pos) tRetN:=λ_ _ σ H _ I h=>wpAny_Return_none ⟨.non,σ,H,I,rfl,h⟩
def tIfS(c:TT)(t u:TS):TS:=λD σ H=>c σ H λb H1=>if b=true then t D σ H1 else u D σ H1
theorem Rn(hc:PT X c tc)(ha:PSs X a t)(hb:PSs X b u):PS X (.If c a b pos) (tIfS tc t u):=by
 intro pins s σ H D I h
 refine wpAny_If (cz (hc pins s σ H _ I h) λd s1 ⟨H1,I1,q1⟩=>?_)
 cases d with
 | true=>exact ha pins s1 σ H1 D I1 q1
 | false=>exact hb pins s1 σ H1 D I1 q1
end
noncomputable abbrev TG:=V->St->Hp->(St->Hp->Prop)->Prop
noncomputable abbrev HA:=List V->St->Hp->(St->Hp->Prop)->Prop
def PG(X:Cx)(target:pc)(t:TG):Prop:=
 ∀ (pins:List (gV×Obj)) (s:gw) (σ:St) (H:Hp) (v:V) (u:dn) (Q:St->Hp->Prop),Inv X pins σ H s->RelV v u->t v σ H Q ->
  Ew (model X.prog X.w) X.A (assign target X.env u) (λ_ s'=>∃ σ' H',Inv X pins σ' H' s'/\Q σ' H') X.xe s
def PGs(X:Cx)(ts:List pc)(t:HA):Prop:=
 ∀ (pins:List (gV×Obj)) (s:gw) (σ:St) (H:Hp) (vs:List V) (us:List dn) (Q:St->Hp->Prop),Inv X pins σ H s->Vals vs us->t vs σ H Q ->
  Ew (model X.prog X.w) X.A (assignInOrder ((assignEach ts X.env).map (·.2)) us) (λ_ s'=>∃ σ' H',Inv X pins σ' H' s'/\Q σ' H') X.xe s
noncomputable abbrev Wo:=V->V->V->Hp->(Hp->Prop)->Prop
def Ws(X:Cx)(t:Wo):Prop:=
 ∀ (pins:List (gV×Obj)) (s:gw) (σ:St) (H:Hp) (o i v:V) (ov iv u:dn) (Q:Hp->Prop),Inv X pins σ H s->RelV o ov->RelV i iv->RelV v u->t o i v H Q ->
  Ew (model X.prog X.w) X.A (setItem ov iv u) (λ_ s'=>∃ H',Inv X pins σ H' s'/\Q H') X.xe s
section
variable{X:Cx}{pos:Pos}
def EN(i:Nat):TG:=λv σ H Q=>Q (σ.set i (U v)) H
theorem Oa{i:Nat}{x:Str}(hN:X.N.Nodup)(hi:X.N[i]?=U x)(hx:MR X.env.scope x)(hf:X.fn x=true\/X.env.scope.names.lookup x=U .local:=by first | exact .inl rfl | exact .inr rfl | assumption):PG X (.Name x pos) (EN i):=by
 intro pins s σ H v u Q I r h
 exact wpAny_assign_Name (iK I hN hi hx r (λs' I'=>⟨_,H,I',h⟩) hf)
def gNil:HA:=λvs σ H Q=>vs=[]/\Q σ H
def gCons(t:TG)(u:HA):HA:=λvs σ H Q=>∃ v r,vs=v::r/\t v σ H λσ' H'=>u r σ' H' Q
theorem NY:PGs X [] gNil:=by
 intro pins s σ H vs us Q I r h
 obtain⟨e,h⟩:=h
 subst e
 cases r
 exact assignInOrder_nil ⟨σ,H,I,h⟩
theorem IV{e:pc}(h1:PG X e t)(h2:PGs X es u)
  (hs:(assignEach (e::es) X.env).map (·.2)=assign e X.env::(assignEach es X.env).map (·.2):=by rfl):PGs X (e::es) (gCons t u):=by
 intro pins s σ H vs us Q I r h
 obtain⟨v,vr,e1,h⟩:=h
 subst e1
 cases r with
 | cons r rr=>
  rw[hs]
  refine ZL (cz (h1 pins s σ H _ _ _ I r h) λ_ s1 ⟨σ1,H1,I1,q1⟩=>?_)
  exact h2 pins s1 σ1 H1 _ _ Q I1 rr q1
def gTup(K:FA)(n:Nat)(t:HA):TG:=λv σ H Q=>∃ a xs,v=.ref a/\mj K H a xs/\xs.length=n/\t xs σ H Q
theorem To{k:Nat}{n:Nat}(hc:X.calm=true)(h:PGs X es t)
  (hn:(assignEach es X.env).length=n:=by rfl) (hst:(assignEach es X.env).findIdx? (·.1)=Y:=by rfl):PG X (.Tuple es k pos) (gTup X.K n t):=by
 intro pins s σ H v u Q I r hw
 obtain⟨a,xs,e1,hq,hl,hw⟩:=hw
 subst e1
 cases r
 obtain⟨its,rv,ht,hz⟩:=I.tuple hq
 refine assign_Tuple_tuple (I.ok.hd hc) ht (by simp[hn,<- hl,rv.length]) hst λh' hx=>?_
 have I1:Inv X pins σ H { s with heap:=h' }:=I.kept (t':=s.toks) λb o e=>hx b o (WZ (WG e)) e
 exact h pins _ σ H xs _ Q I1 (by simpa using rv) hw
def gSub(to ti:TE)(t:Wo):TG:=λv σ H Q=>to σ H λo H1=>ti σ H1 λi H2=>t o i v H2 λH3=>Q σ H3
theorem IW{to:TE}(ho:PE X o to)(hi:PE X i ti)(hs:Ws X t)
  (ha:∀ v,assign (.Subscript o i pos) X.env v=(do
   let ov <- holding [v] (eval o X.env)
   let iv <- holding [v,ov] (eval i X.env)
   standAt pos
   holding [v,ov,iv] (setItem ov iv v)
   release [v,ov,iv] []):=by intro _;rfl):PG X (.Subscript o i pos) (gSub to ti t):=by
 intro pins s σ H v u Q I r h
 rw[ha]
 refine Wx (Xd (cz (ho pins s σ H _ I h) λov s1 ⟨x,H1,I1,r1,q1⟩=>?_))
 refine Wx (Xd (cz (hi pins s1 σ H1 _ I1 q1) λiv s2 ⟨y,H2,I2,r2,q2⟩=>?_))
 refine Wx (XE (Wx (Xd (cz (hs pins s2 σ H2 x y v ov iv u _ I2 r1 r2 r q2) λ_ s3 ⟨H3,I3,q3⟩=>?_))))
 exact wpAny_release ⟨σ,H3,I3,q3⟩
def Ia(te:TE)(g:TG):TS:=λD σ H=>te σ H λx H1=>g x σ H1 D.nx
theorem Ti{g:TG}(he:PE X e te)(hg:PG X tg g)(hs:swapsWithSole [tg] e pos.line X.env=pure false:=by rfl)(hw:swappedStores [tg] e X.env=pure Y:=by rfl)
  (h1:(assignEach [tg] X.env).map (·.2)=[assign tg X.env]:=by rfl):PS X (.Assign [tg] e pos) (Ia te g):=by
 intro pins s σ H D I h
 refine wpAny_Assign_stores (cz (he pins s σ H _ I h) λv s1 ⟨x,H1,I1,r1,q1⟩=>?_) hs hw
 rw[h1]
 exact cz (hg pins s1 σ H1 x v _ I1 r1 q1) λ_ s2 q=>q
theorem Te{i:Nat}{x:Str}(hN:X.N.Nodup)(hi:X.N[i]?=U x)(hx:MR X.env.scope x)(he:PE X e te)(hs:swapsWith e (U (.Name x pos')) pos.line X.env=pure false:=by rfl)(hf:X.fn x=true\/X.env.scope.names.lookup x=U .local:=by first | exact .inl rfl | exact .inr rfl | assumption) :
  PS X (.Assign [.Name x pos'] e pos) (Ia te (EN i)):=by
 intro pins s σ H D I h
 refine wpAny_Assign_Name (cz (he pins s σ H _ I h) λv s1 ⟨y,H1,I1,r1,q1⟩=>?_) hs
 exact iK I1 hN hi hx r1 (λs2 I2=>⟨_,H1,I2,q1⟩) hf
def tPar(i j:Nat)(ta:TA):TS:=λD σ H=>ta σ H λvs H1=>∃ v w,vs=[v,w]/\D.nx ((σ.set i (U v)).set j (U w)) H1
theorem Tg{i j:Nat}{x y:Str}{a b:pc}{pt:Pos}{kt k2 pt2}(hc:X.calm=true)(hN:X.N.Nodup)(hi:X.N[i]?=U x)(hj:X.N[j]?=U y)(hij:i≠j)
  (hx:X.env.scope.names.lookup x=U .local) (hy:X.env.scope.names.lookup y=U .local) (ha:PA X [a,b] ta)
  (hw:swappedStores [.Tuple [.Name x px,.Name y py] kt pt] (.Tuple [a,b] k2 pt2) X.env=pure (U [x,y]))
  (hs:swapsWithSole [.Tuple [.Name x px,.Name y py] kt pt] (.Tuple [a,b] k2 pt2) pos.line X.env=pure false:=by rfl) :
  PS X (.Assign [.Tuple [.Name x px,.Name y py] kt pt] (.Tuple [a,b] k2 pt2) pos) (tPar i j ta):=by
 intro pins s σ H D I h
 rw[exec_Assign_arm]
 refine Wx (XE ?_)
 rw[hs]
 refine Wx (WA ?_)
 rw[WX (by decide)]
 refine Wx (Tuple_ (cz (ha _ pins s σ H _ I h) λus s1 ⟨vs,H1,I1,r1,q1⟩=>?_))
 obtain⟨v,w,e1,q1⟩:=q1
 subst e1
 obtain⟨u1,u2,rfl,rv,rw'⟩:∃ u1 u2,us=[u1,u2]/\RelV v u1/\RelV w u2:=by
  cases r1 with
  | cons p q=>
   cases q with
   | cons p' q'=>
    cases q'
    exact⟨_,_,rfl,p,p'⟩
 refine Xg ?_ (by show 2<=ww;decide)
 have I2:Inv X pins σ H1 { s1 with heap:=s1.heap.push { cls:=.type "tuple",data:=.seq [u1,u2].toArray } }:=I1.kept (t':=s1.toks) λb o e=>Wy _ e
 rw[hw]
 refine Wx (WA ?_)
 show Ew (model X.prog X.w) X.A (do rule "assign.swapped-stores";let items <- unpackItems (.ref s1.heap.objs.size) 2 Y;assignInOrder [λv=>bindName X.env y v,λv=>bindName X.env x v] items.reverse;pure Flow.next) _ _ _
 refine Wx (Zy (Wx (unpackItems_tuple (items:=#[u1,u2]) (I.ok.hd hc) (IsTup.new s1.heap _) λh' hx'=>?_)))
 have I3:=I2.kept (h':=h') (t':=s1.toks) λb o e=>hx' b o (WZ (WG e)) e
 show Ew _ _ (assignInOrder [λv=>bindName X.env y v,λv=>bindName X.env x v] [u2,u1] >>= λ_=>pure Flow.next) _ _ _
 refine Wx (ZL (aay (iK I3 hN hj (.inl hy) rw' (λs2 I4=>?_) (.inr hy))))
 refine ZL (aay (iK I4 hN hi (.inl hx) rv (λs3 I5=>assignInOrder_nil (WA ?_)) (.inr hx)))
 rw[List.set_comm _ _ (Ne.symm hij)] at I5
 exact⟨_,H1,I5,q1⟩
end
structure It where
 go:Nat->Hp->Prop
 yld:Nat->Hp->V->Hp->Prop
 stop:Nat->Hp->Prop
def mF(X:Cx)(pins:List (gV×Obj))(H:Hp)(b:gV):Prop:=
 H b=Y/\b≠X.env.locals/\b∉X.fs/\(b∈X.ex\/X.s₀.heap.objs.size<=b)/\(∀ x c,X.env.cells.lookup x=U c->c≠b)/\∀ p∈X.pn++pins,p.1≠b
theorem Inv.fpOk{H':Hp}{s:gw}{b:gV}(I:Inv X pins σ H s)(hb:s.heap.objs.size<=b)(hn:H' b=Y):mF X pins H' b:=by
 refine⟨hn,XI (WW I.lt hb),I.nofs hb,.inr (Xa I.sz hb),λx c e z=>?_,λp hp z=>?_⟩
 ·obtain⟨v,q⟩:=I.cell x c e
  exact absurd (WW q.lt (by rw[z];exact hb)) (XS _)
 ·exact absurd (WW (WG (I.pin p hp).1) (by rw[z];exact hb)) (XS _)
structure Bh(P:pr)(w:sv)(K:FA)(tg:pc)(J:It)(fp:List gV)(it:gV)(tn:Nat->wo->Prop):Prop where
 mem:it∈fp
 obj:∀ i h,tn i h->∀ b∈fp,∃ o,h.get? b=U o/\∀ v,o.data≠.cell v
 keep:∀ i h h',tn i h->(∀ b∈fp,∀ o,h.get? b=U o->h'.get? b=U o)->tn i h'
 item:∀ (X:Cx),X.prog=P->X.w=w->X.K=K->X.calm=true->∀ (i:Nat) (pins:List (gV×Obj)) (s:gw) (σ:St) (H:Hp) (E:dn->gw->Prop),Inv X pins σ H s->(∀ b∈fp,mF X pins H b)->tn i s.heap->J.go i H ->
  Ew (model P w) X.A (pyNext (.ref it)) (λr s1=>∃ u,r=U u /\
   Ew (model P w) X.A (letOwnedTupleGo tg (.ref it) u) (λ_ s2=>∃ x H',Inv X pins σ H' s2/\RelV x u/\J.yld i H x H'/\tn (i+1) s2.heap/\∀ b∈fp,H' b=Y) E s1) E s
 done:∀ (X:Cx),X.prog=P->X.w=w->X.K=K->X.calm=true->∀ (i:Nat) (pins:List (gV×Obj)) (s:gw) (σ:St) (H:Hp) (E:dn->gw->Prop),Inv X pins σ H s->(∀ b∈fp,mF X pins H b)->tn i s.heap->J.stop i H ->
  Ew (model P w) X.A (pyNext (.ref it)) (λr s1=>r=Y/\Inv X pins σ H s1) E s
 self:∀ (A:tx) (i:Nat) (s:gw) (Q:dn->gw->Prop) (E:dn->gw->Prop),tn i s.heap->Q (.ref it) s->Ew (model P w) A (pyIter (.ref it)) Q E s
noncomputable abbrev TI:=St->Hp->(It->Hp->Prop)->Prop
def PIE(X:Cx)(pins:List (gV×Obj))(σ:St)(tg:pc)(R:It->Hp->Prop)(itv:dn)(s2:gw):Prop:=
 ∃ (it:gV) (fp:List gV) (tn:Nat->wo->Prop) (J:It) (H':Hp),itv=.ref it/\Inv X pins σ H' s2/\Bh X.prog X.w X.K tg J fp it tn/\tn 0 s2.heap/\(∀ b∈fp,mF X pins H' b)/\R J H'
def PI(X:Cx)(tg iter:pc)(wi:TI):Prop:=
 ∀ (pins:List (gV×Obj)) (s:gw) (σ:St) (H:Hp) (R:It->Hp->Prop),Inv X pins σ H s->wi σ H R ->
  Ew (model X.prog X.w) X.A (eval iter X.env) (λv s1=>Ew (model X.prog X.w) X.A (pyIter v) (PIE X pins σ tg R) X.xe s1) X.xe s
theorem EM{A:tx}{s:gw}{o:Obj}{Q:Unit->gw->Prop}(ho:s.heap.get? it=U o)(hc:o.cls=.type n)(hd:o.data=.fields vs)
  (hn:["enumerate","zip","dict_itemiterator","dict_reverseitemiterator","odict_iterator","itertools.zip_longest","itertools.pairwise"].contains n=false) (hQ:Q () s):Ew M A (letOwnedTupleGo tg (.ref it) u) Q E s:=by
 unfold letOwnedTupleGo
 cases tg<;>first
  | exact WA hQ
  | (cases u<;>first
    | exact WA hQ
    | (refine Wx (wpAny_load ho ?_); rw[hc,hd]; show Ew M A (if (["enumerate","zip","dict_itemiterator","dict_reverseitemiterator","odict_iterator","itertools.zip_longest","itertools.pairwise"].contains n&&vs[0]?==U (rawInt _))=true then _ else _) Q E s; rw[WX (by intro h;rw[hn,Xe] at h;cases h)]; exact WA hQ))
def Itl(K:FA)(a:gV):It:=
 ⟨λi H=>∃ xs x,kK K H a xs/\xs[i]?=U x,λi H x H'=>H'=H/\∀ xs,kK K H a xs->xs[i]?=U x,λi H=>∃ xs,kK K H a xs/\xs.length<=i⟩
def Itt(K:FA)(a:gV):It:=
 ⟨λi H=>∃ xs x,mj K H a xs/\xs[i]?=U x,λi H x H'=>H'=H/\∀ xs,mj K H a xs->xs[i]?=U x,λi H=>∃ xs,mj K H a xs/\xs.length<=i⟩
def Itr(lo:Int)(n:Nat):It:=⟨λi _=>i<n,λi H x H'=>H'=H/\x=.int (lo+i),λi _=>n<=i⟩
theorem vi{K:FA}(a it:gV):Bh P w K tg (Itl K a) [it] it (λi h=>h.IsListIter it a i) where
 mem:=by simp
 obj:=λi h st b hb=>by
  have e:b=it:=by simpa using hb
  subst e
  obtain⟨o,e,c,d⟩:=st
  exact⟨o,e,λv z=>by rw[d] at z;cases z⟩
 keep:=λi h h' st k=>st.at λo e=>k it (by simp) o e
 item:=by
  intro X hP hw hK hc i pins s σ H E I hf st hg
  subst hP hw hK
  obtain⟨xs,x,hq,hx⟩:=hg
  obtain⟨its,rv,p,hz⟩:=I.list hq
  obtain⟨u,hu,ru⟩:=rv.get hx
  obtain⟨f0,f1,f2,f3,f4,f5⟩:=hf it (by simp)
  refine aaT st p.isList (x:=u) (by simpa using hu) λh' st' sb=>?_
  have I1:Inv X pins σ H { s with heap:=h' }:=I.turned (t':=s.toks) (λb o hb e=>(sb.2 b hb).trans e) f0 f1 f3 f4 f5
  obtain⟨o,e,c,d⟩:=id st'
  exact⟨u,rfl,EM (s:={ s with heap:=h' }) e c d (by decide) ⟨x,H,I1,ru,⟨rfl,λys hy=>by rw[I.list_inj hy hq];exact hx⟩,st',λb hb=>(hf b hb).1⟩⟩
 done:=by
  intro X hP hw hK hc i pins s σ H E I hf st hg
  subst hP hw hK
  obtain⟨xs,hq,hx⟩:=hg
  obtain⟨its,rv,p,hz⟩:=I.list hq
  obtain⟨f0,f1,f2,f3,f4,f5⟩:=hf it (by simp)
  have hl:=rv.length
  exact aaX (I.ok.hd hc) st p.isList (by simp;omega) λh' eb=>⟨rfl,I.turned (t':=s.toks) (λb o hb e=>eb b o hb e) f0 f1 f3 f4 f5⟩
 self:=λ_ _ _ _ _ st h=>wpAny_pyIter_listiter st h
theorem Bq{K:FA}(a it:gV):Bh P w K tg (Itt K a) [it] it (λi h=>h.IsTupleIter it a i) where
 mem:=by simp
 obj:=λi h st b hb=>by
  have e:b=it:=by simpa using hb
  subst e
  obtain⟨o,e,c,d⟩:=st
  exact⟨o,e,λv z=>by rw[d] at z;cases z⟩
 keep:=λi h h' st k=>st.at λo e=>k it (by simp) o e
 item:=by
  intro X hP hw hK hc i pins s σ H E I hf st hg
  subst hP hw hK
  obtain⟨xs,x,hq,hx⟩:=hg
  obtain⟨its,rv,p,hz⟩:=I.tuple hq
  obtain⟨u,hu,ru⟩:=rv.get hx
  obtain⟨f0,f1,f2,f3,f4,f5⟩:=hf it (by simp)
  refine wpAny_pyNext_tuple_item st (show s.heap.IsTuple a its.toArray from p) (x:=u) (by simpa using hu) λh' st' sb=>?_
  have I1:Inv X pins σ H { s with heap:=h' }:=I.turned (t':=s.toks) (λb o hb e=>(sb.2 b hb).trans e) f0 f1 f3 f4 f5
  obtain⟨o,e,c,d⟩:=id st'
  exact⟨u,rfl,EM (s:={ s with heap:=h' }) e c d (by decide) ⟨x,H,I1,ru,⟨rfl,λys hy=>by rw[I.tuple_inj hy hq];exact hx⟩,st',λb hb=>(hf b hb).1⟩⟩
 done:=by
  intro X hP hw hK hc i pins s σ H E I hf st hg
  subst hP hw hK
  obtain⟨xs,hq,hx⟩:=hg
  obtain⟨its,rv,p,hz⟩:=I.tuple hq
  obtain⟨f0,f1,f2,f3,f4,f5⟩:=hf it (by simp)
  have hl:=rv.length
  exact wpAny_pyNext_tuple_end (I.ok.hd hc) st (show s.heap.IsTuple a its.toArray from p) (by simp;omega) λh' eb=>⟨rfl,I.turned (t':=s.toks) (λb o hb e=>eb b o hb e) f0 f1 f3 f4 f5⟩
 self:=λ_ _ _ _ _ st h=>wpAny_pyIter_tupleiter st h
theorem Br{K:FA}(it:gV)(lo:Int)(n:Nat):Bh P w K tg (Itr lo n) [it] it (λi h=>IsRangeIter h it (lo+(i:Nat)*1) ((n:Int) - (i:Nat)) 1) where
 mem:=by simp
 obj:=λi h st b hb=>by
  have e:b=it:=by simpa using hb
  subst e
  exact⟨_,st,λv z=>by
   have z':Data.fields _=Data.cell v:=z
   cases z'⟩
 keep:=λi h h' st k=>k it (by simp) _ st
 item:=by
  intro X hP hw hK hc i pins s σ H E I hf st hg
  subst hP hw hK
  obtain⟨f0,f1,f2,f3,f4,f5⟩:=hf it (by simp)
  have W:=Walks.range (prog:=X.prog) (w:=X.w) (I.ok.hd hc) it lo 1 n
  refine W.item i s _ _ hg st λv h' tk hv st' kk=>?_
  obtain⟨t,rfl⟩:=hv
  have I1:Inv X pins σ H { s with heap:=h',toks:=tk }:=I.turned (λb o hb e=>kk b o (by simpa using hb) e) f0 f1 f3 f4 f5
  refine⟨_,rfl,EM (s:={ s with heap:=h',toks:=tk }) (n:="range_iterator") st' rfl rfl (by decide) ⟨.int (lo+i),H,I1,⟨t,?_⟩,⟨rfl,rfl⟩,st',λb hb=>(hf b hb).1⟩⟩
  rw[Int.mul_one]
 done:=by
  intro X hP hw hK hc i pins s σ H E I hf st hg
  subst hP hw hK
  obtain⟨f0,f1,f2,f3,f4,f5⟩:=hf it (by simp)
  exact wpAny_pyNext_range_end (I.ok.hd hc) st (by have:n<=i:=hg;omega) λh' eb=>⟨rfl,I.turned (t':=s.toks) (λb o hb e=>eb b o hb e) f0 f1 f3 f4 f5⟩
 self:=λ_ _ _ _ _ st h=>wpAny_pyIter_rangeiter st h
section
variable{X:Cx}{tg:pc}
def iList(K:FA)(tl:TE):TI:=λσ H R=>tl σ H λx H1=>∃ a,x=.ref a/\(∃ xs,kK K H1 a xs)/\R (Itl K a) H1
theorem NW(hl:PE X l tl):PI X tg l (iList X.K tl):=by
 intro pins s σ H R I h
 refine cz (hl pins s σ H _ I h) λv s1 ⟨x,H1,I1,r1,q1⟩=>?_
 obtain⟨a,e,⟨xs,hq⟩,q⟩:=q1
 subst e
 cases r1
 obtain⟨its,rv,p,hz⟩:=I1.list hq
 refine Yy p.isList ?_
 refine⟨s1.heap.objs.size,[s1.heap.objs.size],_,_,H1,rfl,I1.kept (t':=s1.toks) λb o e=>Wy _ e,vi a _,⟨_,WL _ rfl,rfl,rfl⟩,λb hb=>?_,q⟩
 have e:b=s1.heap.objs.size:=by simpa using hb
 subst e
 exact I1.fpOk (WH _) (I1.hok.fresh (WH _))
theorem IL{s:gw}{R:It->Hp->Prop}{lo hi:Int}{tk:Nat}(I:Inv X pins σ H s)(h1:-(2^62)<=lo)(h2:lo<2^62)(h3:-(2^62)<=hi)(h4:hi<2^62)
  (q:R (Itr lo (hi - lo).toNat) H):Ew (model X.prog X.w) X.A (pyIter (.ref s.heap.objs.size)) (PIE X pins σ tg R) E { s with heap:=s.heap.push { cls:=.type "range",data:=.fields #[.int lo t,.int hi u,.int 1 v] },toks:=tk }:=by
 refine wpAny_pyIter_range (IsRange.new ..) (small_one h1 h2 h3 h4) ?_
 have I1:Inv X pins σ H { s with heap:=s.heap.push { cls:=.type "range",data:=.fields #[.int lo t,.int hi u,.int 1 v] },toks:=tk }:=I.kept λb o e=>Wy _ e
 refine⟨(s.heap.push { cls:=.type "range",data:=.fields #[.int lo t,.int hi u,.int 1 v] }).objs.size,[(s.heap.push { cls:=.type "range",data:=.fields #[.int lo t,.int hi u,.int 1 v] }).objs.size],_,_,H,rfl,
  I1.kept (t':=tk) λb o e=>Wy _ e,Br _ lo (hi - lo).toNat,?_,λb hb=>?_,q⟩
 ·have e1:lo+((0:Nat):Int)*1=lo:=by simp
  have e2:(((hi - lo).toNat:Nat):Int) - ((0:Nat):Int)=Builtin.Range.rangeSize lo hi 1:=by rw[rangeSize_one];split<;>omega
  show IsRangeIter _ _ (lo+((0:Nat):Int)*1) ((((hi - lo).toNat:Nat):Int) - ((0:Nat):Int)) 1
  rw[e1,e2]
  exact WL _ rfl
 ·have e:b=(s.heap.push { cls:=.type "range",data:=.fields #[.int lo t,.int hi u,.int 1 v] }).objs.size:=by simpa using hb
  subst e
  exact I1.fpOk (WH _) (I1.hok.fresh (WH _))
def iRng1(ta:TA):TI:=λσ H R=>ta σ H λvs H1=>∃ j:Int,vs=[.int j]/\-(2^62)<=j/\j<2^62/\R (Itr 0 j.toNat) H1
theorem vH{a:pc}{p:Pos}(hg:Gl X "range")(hm:X.mg "range" = Y)(ha:PA X [a] ta)(hs:zH [a] X.env=[(false,eval a X.env)]:=by rfl):PI X tg (.Call (.Name "range" p) [a] [] pos) (iRng1 ta):=by
 intro pins s σ H R I h
 refine Call_ (tJ I hg hm boot_range (YY (cz (ha pos pins s σ H _ I h) λus s1 ⟨vs,H1,I1,r1,q1⟩=>?_) hs rfl))
 obtain⟨j,e,q1,q2,q⟩:=q1
 subst e
 cases r1 with
 | cons r rr=>
  cases rr
  obtain⟨t,rfl⟩:=r
  exact call_range_1 (IL I1 (by omega) (by omega) q1 q2 (by simpa using q))
def tFor(wi:TI)(g:TG)(tb:TS):TS:=λD σ H=>wi σ H λJ H1=>∃ W:Nat->Nat->St->Hp->Prop,(∃ m,W 0 m σ H1)/\∀ i m σ H,W i m σ H ->
 (J.stop i H/\D.nx σ H)\/(J.go i H/\∃ N:St->Hp->Prop,(∀ σ' H',N σ' H'->∃ m',m'<m/\W (i+1) m' σ' H')/\∀ x H',J.yld i H x H'->g x σ H' λσ2 H2=>tb { D with nx:=N,ct:=N,bk:=D.nx } σ2 H2)
def pK(fp:List gV)(h:wo):List (gV×Obj):=fp.filterMap λb=>(h.get? b).map λo=>(b,o)
theorem gJ{fp:List gV}{h:wo}{b:gV}{o:Obj}(hb:b∈fp)(e:h.get? b=U o):(b,o)∈pK fp h:=ZO.mpr ⟨b,hb,by rw[e];rfl⟩
theorem FO{p:gV×Obj}(hp:p∈pK fp h):p.1∈fp/\h.get? p.1=U p.2:=by
 obtain⟨b,hb,e⟩:=ZO.mp hp
 cases q:h.get? b with
 | none=>rw[q] at e;cases e
 | some o=>
  rw[q] at e
  have e':(b,o)=p:=Xp e
  subst e'
  exact⟨hb,q⟩
theorem Inv.pinned{s:gw}{fp:List gV}(I:Inv X pins σ H s)(hf:∀ b∈fp,mF X pins H b)(ho:∀ b∈fp,∃ o,s.heap.get? b=U o/\∀ v,o.data≠.cell v):Inv X (pins++pK fp s.heap) σ H s:=
 I.pins_of λp hp=>(Xb.mp hp).elim (λz=>I.pin p (Xj _ z)) λz=>by
  obtain⟨hb,e⟩:=FO z
  obtain⟨f0,f1,f2,_⟩:=hf p.1 hb
  obtain⟨o,e',d⟩:=ho p.1 hb
  rw[e] at e';cases e'
  exact⟨e,f0,f1,f2,d⟩
theorem Inv.unpinned{pins pl:List (gV×Obj)}{s:gw}(I:Inv X (pins++pl) σ H s):Inv X pins σ H s:=I.pins_of λp hp=>I.pin p (Xj _ (XA _ hp))
theorem IQ{iter:pc}{g:TG}(hp:PassesOwn (model X.prog X.w) X.A X.env X.xe)(hc:X.calm=true)(hi:PI X tg iter wi)(hg:PG X tg g)(hb:PSs X body tb)
  (hs:∀ x,zI iter X.env x=pure x:=by intro _;rfl):PS X (.For tg iter body [] pos) (tFor wi g tb):=by
 intro pins s σ H D I h
 refine wpAny_For (cz (hi pins s σ H _ I h) λv s1 h1=>cz h1 λitv s2 h2=>?_) hs
 obtain⟨it,fp,tn,J,H2,e,I2,T,st2,f2,W,⟨m0,w0⟩,turn⟩:=h2
 subst e
 have stat:∀ {H':Hp},(∀ b∈fp,H' b=Y)->∀ b∈fp,mF X pins H' b:=λhn b hb=>⟨hn b hb,(f2 b hb).2⟩
 refine codeAny_forLoop_any (λn s'=>∃ i σ' H',Inv X pins σ' H' s'/\tn i s'.heap/\(∀ b∈fp,H' b=Y)/\W i n σ' H') ?_ m0 ⟨0,σ,H2,I2,st2,λb hb=>(f2 b hb).1,w0⟩
 rintro n s3 ⟨i,σ3,H3,I3,st3,fr3,w3⟩
 rcases turn i n σ3 H3 w3 with ⟨stop,qn⟩ | ⟨go,N,hN,step⟩
 ·refine YV hp (cz (T.done X rfl rfl rfl hc i pins s3 σ3 H3 X.xe I3 (stat fr3) st3 stop) λr s4 ⟨hr,I4⟩=>?_)
  subst hr
  exact YX ⟨σ3,H3,I4,qn⟩
 ·refine YV hp (cz (T.item X rfl rfl rfl hc i pins s3 σ3 H3 X.xe I3 (stat fr3) st3 go) λr s4 ⟨u,hr,h4⟩=>?_)
  subst hr
  refine YV hp (cz h4 λ_ s5 ⟨x,H5,I5,r5,y5,st5,fr5⟩=>?_)
  have I5':=I5.pinned (stat fr5) (T.obj _ _ st5)
  refine YV hp (cz (hg _ s5 σ3 H5 x u _ I5' r5 (step x H5 y5)) λ_ s6 ⟨σ6,H6,I6,q6⟩=>?_)
  refine YV hp (cz (hb _ s6 σ6 H6 _ I6 q6) λf s7 q7=>?_)
  have again:∀ {σ7:St} {H7:Hp},Inv X (pins++pK fp s5.heap) σ7 H7 s7->N σ7 H7->∃ m,m<n/\∃ i σ' H',Inv X pins σ' H' s7/\tn i s7.heap/\(∀ b∈fp,H' b=Y)/\W i m σ' H':=λ{σ7 H7} I7 n7=>by
   obtain⟨m',hm,w7⟩:=hN σ7 H7 n7
   refine⟨m',hm,i+1,σ7,H7,I7.unpinned,T.keep _ _ _ st5 λb hb o e=>(I7.pin (b,o) (Xj _ (Xj _ (gJ hb e)))).1,λb hb=>?_,w7⟩
   obtain⟨o,e,d⟩:=T.obj _ _ st5 b hb
   exact(I7.pin (b,o) (Xj _ (Xj _ (gJ hb e)))).2.1
  cases f with
  | next=>obtain⟨σ7,H7,I7,n7⟩:=q7;exact again I7 n7
  | cont=>obtain⟨σ7,H7,I7,n7⟩:=q7;exact again I7 n7
  | brk=>obtain⟨σ7,H7,I7,q7⟩:=q7;exact⟨σ7,H7,I7.unpinned,q7⟩
  | ret v=>obtain⟨x7,σ7,H7,I7,r7,q7⟩:=q7;exact⟨x7,σ7,H7,I7.unpinned,r7,q7⟩
end
noncomputable abbrev R2:=V->V->Hp->VK->Prop
def OpR(X:Cx)(f:dn->dn->Sem dn)(r:R2):Prop:=
 ∀ (pins:List (gV×Obj)) (s:gw) (σ:St) (H:Hp) (x y:V) (v u:dn) (Q:VK),Inv X pins σ H s->RelV x v->RelV y u->r x y H Q ->
  Ew (model X.prog X.w) X.A (f v u) (EP X pins σ Q) X.xe s
def UnR(X:Cx)(f:dn->Sem dn)(r:V->Hp->VK->Prop):Prop:=
 ∀ (pins:List (gV×Obj)) (s:gw) (σ:St) (H:Hp) (x:V) (v:dn) (Q:VK),Inv X pins σ H s->RelV x v->r x H Q ->
  Ew (model X.prog X.w) X.A (f v) (EP X pins σ Q) X.xe s
def CallR(X:Cx)(f:dn)(r:List V->Hp->VK->Prop):Prop:=
 ∀ (pins:List (gV×Obj)) (s:gw) (σ:St) (H:Hp) (xs:List V) (us:List dn) (Q:VK),Inv X pins σ H s->Vals xs us->r xs H Q ->
  Ew (model X.prog X.w) X.A (call f us) (EP X pins σ Q) X.xe s
def TruR(X:Cx)(r:V->Hp->(Bool->Hp->Prop)->Prop):Prop:=
 ∀ (pins:List (gV×Obj)) (s:gw) (σ:St) (H:Hp) (x:V) (v:dn) (Q:Bool->Hp->Prop),Inv X pins σ H s->RelV x v->r x H Q ->
  Ew (model X.prog X.w) X.A (truthy v) (TP X pins σ Q) X.xe s
def tOp(r:R2)(ta tb:TE):TE:=λσ H Q=>ta σ H λx H1=>tb σ H1 λy H2=>r x y H2 Q
def tUn(r:V->Hp->VK->Prop)(ta:TE):TE:=λσ H Q=>ta σ H λx H1=>r x H1 Q
def rI(C:Int->Int->Prop)(g:Int->Int->V):R2:=λx y H Q=>∃ i j,x=.int i/\y=.int j/\C i j/\Q (g i j) H
def NF(g:Int->Int->V):R2:=λx y H Q=>∃ i j,x=.int i/\y=.int j/\Q (g i j) H
def rU(g:Int->V):V->Hp->VK->Prop:=λx H Q=>∃ i,x=.int i/\Q (g i) H
section
variable{X:Cx}{a b c:pc}{ta tb tc:TE}{pos:Pos}
theorem Wi(ha:PE X a ta)(hb:PE X b tb){s:gw}{R:V->V->Hp->Prop}(I:Inv X pins σ H s)
  (h:ta σ H λx H1=>tb σ H1 λy H2=>R x y H2) {f:dn->dn->Sem dn}
  (hf:∀ v u s2 x y H2,Inv X pins σ H2 s2->RelV x v->RelV y u->R x y H2->Ew (model X.prog X.w) X.A (f v u) Q X.xe s2) :
  Ew (model X.prog X.w) X.A (eval a X.env) (λv s₁=>Ew (model X.prog X.w) X.A (eval b X.env) (λu s₂=>Ew (model X.prog X.w) X.A (f v u) Q X.xe s₂) X.xe s₁) X.xe s:=by
 refine cz (ha pins s σ H _ I h) λv s1 ⟨x,H1,I1,r1,q1⟩=>?_
 refine cz (hb pins s1 σ H1 _ I1 q1) λu s2 ⟨y,H2,I2,r2,q2⟩=>?_
 exact hf v u s2 x y H2 I2 r1 r2 q2
theorem pe_op(ho:OpR X (Ec op) r)(ha:PE X a ta)(hb:PE X b tb):PE X (.BinOp a op b pos) (tOp r ta tb):=by
 intro pins s σ H Q I h
 exact wpAny_BinOp (Wi ha hb I h λv u s2 x y H2 I2 rx ry q=>ho pins s2 σ H2 x y v u Q I2 rx ry q)
theorem pe_un(ho:UnR X (unaryOp op) r)(ha:PE X a ta):PE X (.UnaryOp op a pos) (tUn r ta):=by
 intro pins s σ H Q I h
 exact UnaryOp_ (cz (ha pins s σ H _ I h) λv s1 ⟨x,H1,I1,r1,q1⟩=>ho pins s1 σ H1 x v Q I1 r1 q1)
theorem opI{f:dn->dn->Sem dn}{C:Int->Int->Prop}{g:Int->Int->Int}
  (rule:∀ (i j:Int) (t u:Tok) (s:gw) (Q:dn->gw->Prop) (E:dn->gw->Prop),C i j->Q (.int (g i j) s.toks) { s with toks:=s.toks+1 }->Ew (model X.prog X.w) X.A (f (.int i t) (.int j u)) Q E s) :
  OpR X f (rI C λi j=>.int (g i j)):=by
 intro pins s σ H x y v u Q I rx ry h
 obtain⟨i,j,rfl,rfl,hc,q⟩:=h
 obtain⟨t,rfl⟩:=rx
 obtain⟨t',rfl⟩:=ry
 exact rule i j t t' s _ _ hc ⟨.int (g i j),H,I.tok _,⟨_,rfl⟩,q⟩
theorem opI0{f:dn->dn->Sem dn}{g:Int->Int->Int}
  (rule:∀ (i j:Int) (t u:Tok) (s:gw) (Q:dn->gw->Prop) (E:dn->gw->Prop),Q (.int (g i j) s.toks) { s with toks:=s.toks+1 }->Ew (model X.prog X.w) X.A (f (.int i t) (.int j u)) Q E s) :
  OpR X f (NF λi j=>.int (g i j)):=by
 intro pins s σ H x y v u Q I rx ry h
 obtain⟨i,j,rfl,rfl,q⟩:=h
 obtain⟨t,rfl⟩:=rx
 obtain⟨t',rfl⟩:=ry
 exact rule i j t t' s _ _ ⟨.int (g i j),H,I.tok _,⟨_,rfl⟩,q⟩
theorem Ox{f:dn->dn->Sem dn}{g:Int->Int->Bool}
  (rule:∀ (i j:Int) (t u:Tok) (s:gw) (Q:dn->gw->Prop) (E:dn->gw->Prop),Q (.bool (g i j)) s->Ew (model X.prog X.w) X.A (f (.int i t) (.int j u)) Q E s) :
  OpR X f (NF λi j=>.bl (g i j)):=by
 intro pins s σ H x y v u Q I rx ry h
 obtain⟨i,j,rfl,rfl,q⟩:=h
 obtain⟨t,rfl⟩:=rx
 obtain⟨t',rfl⟩:=ry
 exact rule i j t t' s _ _ ⟨.bl (g i j),H,I,rfl,q⟩
def CDiv(i j:Int):Prop:=0<j/\j<1073741824
def CPow(i j:Int):Prop:=0<=j/\j<=1000000/\i.natAbs<2^64
theorem TN:OpR X (Ec .Add) (NF λi j=>.int (i+j)):=opI0 λ_ _ _ _ _ _ _ q=>add_int q
theorem TJ:OpR X (Ec .Sub) (NF λi j=>.int (i - j)):=opI0 λ_ _ _ _ _ _ _ q=>sub_int q
theorem Oq:OpR X (Ec .FloorDiv) (rI CDiv λi j=>.int (i / j)):=opI λi j _ _ _ _ _ hc q=>by
 have h1:(0:Int)<j:=hc.1
 have h2:j<1073741824:=hc.2
 exact floordiv_int (by omega) (by rw[Int.fdiv_eq_ediv_of_nonneg i (by omega)];exact q) (.inl (PyProof.noPylong_small (by omega)))
theorem TM:OpR X (Ec .Mod) (rI (λ_ j=>0<j) λi j=>.int (i%j)):=opI λi j _ _ _ _ _ hc q=>by
 have h1:(0:Int)<j:=hc
 exact mod_int' (by omega) (by rw[Int.fmod_eq_emod_of_nonneg i (by omega)];exact q)
theorem TL:OpR X (Ec .Pow) (rI CPow λi j=>.int (i^j.toNat)):=opI λ_ _ _ _ _ _ _ hc q=>pow_int_small hc.1 hc.2.1 hc.2.2 q
theorem unI{f:dn->Sem dn}{g:Int->Int}
  (rule:∀ (i:Int) (t:Tok) (s:gw) (Q:dn->gw->Prop) (E:dn->gw->Prop),Q (.int (g i) s.toks) { s with toks:=s.toks+1 }->Ew (model X.prog X.w) X.A (f (.int i t)) Q E s) :
  UnR X f (rU λi=>.int (g i)):=by
 intro pins s σ H x v Q I rx h
 obtain⟨i,rfl,q⟩:=h
 obtain⟨t,rfl⟩:=rx
 exact rule i t s _ _ ⟨.int (g i),H,I.tok _,⟨_,rfl⟩,q⟩
theorem Sl:UnR X (unaryOp .USub) (rU λi=>.int (-i)):=unI λ_ _ _ _ _ q=>neg_int q
end
section
variable{X:Cx}{a b c:pc}{ta tb tc:TE}{pos:Pos}
theorem op_lt:OpR X (Db .Lt) (NF λi j=>.bl (decide (i<j))):=Ox λ_ _ _ _ _ _ _ q=>lt_int q
theorem op_le:OpR X (Db .LtE) (NF λi j=>.bl (decide (i<=j))):=Ox λ_ _ _ _ _ _ _ q=>le_int q
theorem op_gt:OpR X (Db .Gt) (NF λi j=>.bl (decide (j<i))):=Ox λ_ _ _ _ _ _ _ q=>gt_int q
theorem op_ge:OpR X (Db .GtE) (NF λi j=>.bl (decide (j<=i))):=Ox λ_ _ _ _ _ _ _ q=>ge_int q
theorem OpR.or(h:OpR X f r)(h':OpR X f r'):OpR X f (λx y H Q=>r x y H Q\/r' x y H Q):=by
 intro pins s σ H x y v u Q I rx ry q
 rcases q with q | q
 ·exact h pins s σ H x y v u Q I rx ry q
 ·exact h' pins s σ H x y v u Q I rx ry q
theorem Of(ho:OpR X (Db op) r)(ha:PE X a ta)(hb:PE X b tb)(hm:behindInMarks op b=false):PE X (.Compare a [op] [b] pos) (tOp r ta tb):=by
 intro pins s σ H Q I h
 exact wpAny_Compare1 (Wi ha hb I h λv u s2 x y H2 I2 rx ry q=>ho pins s2 σ H2 x y v u Q I2 rx ry q) hm
def Ra(t:TE):TT:=λσ H Q=>t σ H λx H'=>∃ k,x=.bl k/\Q k H'
theorem NM(ho:OpR X (Db op) r)(ha:PE X a ta)(hb:PE X b tb)(hm:behindInMarks op b=false):PT X (.Compare a [op] [b] pos) (Ra (tOp r ta tb)):=by
 intro pins s σ H Q I h
 refine wpAny_isTrue_Compare1 (cz (ha pins s σ H _ I h) λv s1 ⟨x,H1,I1,r1,q1⟩=>cz (hb pins s1 σ H1 _ I1 q1) λu s2 ⟨y,H2,I2,r2,q2⟩=>
  cz (ho pins s2 σ H2 x y v u _ I2 r1 r2 q2) λc s3 ⟨z,H3,I3,r3,k,e,q3⟩=>?_) hm
 subst e
 cases r3
 exact Yx ⟨H3,I3,q3⟩
def Bv(r r':R2)(ta tb tc:TE):TE:=λσ H Q=>ta σ H λx H1=>tb σ H1 λy H2=>r x y H2 λz H3=>∃ k,z=.bl k /\
 (if k=true then tc σ H3 λw' H4=>r' y w' H4 Q else Q (.bl false) H3)
theorem Jb(ho:OpR X (Db op) r)(ho':OpR X (Db op') r')(ha:PE X a ta)(hb:PE X b tb)(hc:PE X c tc)
  (hm:lastMarks [op,op'] [b,c]=false:=by with_unfolding_all rfl):PE X (.Compare a [op,op'] [b,c] pos) (Bv r r' ta tb tc):=by
 intro pins s σ H Q I h
 refine Compare_chain (cz (ha pins s σ H _ I h) λv s1 ⟨x,H1,I1,r1,q1⟩=>chain_link (cz (hb pins s1 σ H1 _ I1 q1) λu s2 ⟨y,H2,I2,r2,q2⟩=>
  cz (ho pins s2 σ H2 x y v u _ I2 r1 r2 q2) λd s3 ⟨z,H3,I3,r3,k,e,q3⟩=>?_)) hm
 subst e
 cases r3
 refine Yx ?_
 cases k with
 | false=>exact ite_ff ⟨.bl false,H3,I3,rfl,q3⟩
 | true=>exact ite_tt (chain_last (cz (hc pins s3 σ H3 _ I3 q3) λw' s4 ⟨z',H4,I4,r4,q4⟩=>ho' pins s4 σ H4 y z' u w' Q I4 r2 r4 q4))
theorem IN(ho:OpR X (Db op) r)(ho':OpR X (Db op') r')(ha:PE X a ta)(hb:PE X b tb)(hc:PE X c tc)
  (hm:lastMarks [op,op'] [b,c]=false:=by with_unfolding_all rfl):PT X (.Compare a [op,op'] [b,c] pos) (Ra (Bv r r' ta tb tc)):=by
 intro pins s σ H Q I h
 refine isTrue_chain (cz (ha pins s σ H _ I h) λv s1 ⟨x,H1,I1,r1,q1⟩=>test_link (cz (hb pins s1 σ H1 _ I1 q1) λu s2 ⟨y,H2,I2,r2,q2⟩=>
  cz (ho pins s2 σ H2 x y v u _ I2 r1 r2 q2) λd s3 ⟨z,H3,I3,r3,k,e,q3⟩=>?_)) hm
 subst e
 cases r3
 refine Yx ?_
 cases k with
 | false=>
  obtain⟨k',e',q'⟩:=q3
  cases e'
  exact ite_ff ⟨H3,I3,q'⟩
 | true=>
  refine ite_tt (test_last (cz (hc pins s3 σ H3 _ I3 q3) λw' s4 ⟨z',H4,I4,r4,q4⟩=>cz (ho' pins s4 σ H4 y z' u w' _ I4 r2 r4 q4) λd' s5 ⟨z2,H5,I5,r5,k2,e2,q5⟩=>?_))
  subst e2
  cases r5
  exact Yx ⟨H5,I5,q5⟩
def Hq(K:FA)(x:V)(H:Hp)(k:Bool):Prop:=
 match x with
 | .non=>k=false
 | .bl b=>k=b
 | .int i=>k=(i != 0)
 | .str y=>y.length<=ww/\k=((y.length:Int) != 0)
 | .byt y=>y.size<=ww/\k=((y.size:Int) != 0)
 | .ref p=>(∃ xs,kK K H p xs/\k = !xs.isEmpty)\/(∃ xs,mj K H p xs/\k = !xs.isEmpty)\/∃ kvs,H p=U (.dK kvs)/\k = !kvs.isEmpty
 | _=>False
theorem CB{κ:Type}{kvs:List (κ×V)}{vs:List (κ×dn)}(r:KV kvs vs):(!vs.isEmpty) = !kvs.isEmpty:=by
 cases r<;>rfl
theorem tT{xs:List V}{its:List dn}(r:Vals xs its):(!its.toArray.isEmpty) = !xs.isEmpty:=by
 cases r<;>simp
theorem nj:(ww:Nat)<2^63:=by rw[ZC];decide
theorem xa:TruR X (λx H Q=>∃ k,Hq X.K x H k/\Q k H):=by
 intro pins s σ H x v Q I rx h
 obtain⟨k,e,q⟩:=h
 have hl:=nj
 have hs:ww=16777216:=ZC
 cases x with
 | non=>
  cases rx
  have e':k=false:=e
  subst e'
  exact truthy_none ⟨H,I,q⟩
 | bl b=>
  cases rx
  have e':k=b:=e
  subst e'
  exact Yx ⟨H,I,q⟩
 | int i=>
  obtain⟨t,rfl⟩:=rx
  have e':k=(i != 0):=e
  subst e'
  exact PySem.P.truthy_int ⟨H,I,q⟩
 | str y=>
  obtain⟨t,rfl⟩:=rx
  obtain⟨hy,e'⟩:y.length<=ww/\k=((y.length:Int) != 0):=e
  subst e'
  exact PySem.P.truthy_str (by omega) ⟨H,I.tok _,q⟩
 | byt y=>
  obtain⟨t,rfl⟩:=rx
  obtain⟨hy,e'⟩:y.size<=ww/\k=((y.size:Int) != 0):=e
  subst e'
  exact W.truthy_bytes (by omega) ⟨H,I.tok _,q⟩
 | ref p=>
  cases rx
  have e':(∃ xs,kK X.K H p xs/\k = !xs.isEmpty)\/(∃ xs,mj X.K H p xs/\k = !xs.isEmpty)\/∃ kvs,H p=U (.dK kvs)/\k = !kvs.isEmpty:=e
  rcases e' with ⟨xs,hx,e'⟩ | ⟨xs,hx,e'⟩ | ⟨kvs,hx,e'⟩
  ·subst e'
   obtain⟨its,r,pl,hz⟩:=I.list hx
   have hlen:=r.length
   exact wpAny_truthy_list pl.isList (by simp only[WD];omega) ⟨H,I.tok _,by rw[tT r];exact q⟩
  ·subst e'
   obtain⟨its,r,pl,hz⟩:=I.tuple hx
   have hlen:=r.length
   exact truthy_tuple pl (by simp only[WD];omega) ⟨H,I.tok _,by rw[tT r];exact q⟩
  ·subst e'
   obtain⟨hz,hS,vs,r,m⟩:kvs.length<=ww/\(p==sysModules)=false/\∃ vs,KV kvs vs/\s.heap.DictOf (fh X.prog X.w) p vs:=I.hok p _ hx
   have hlen:kvs.length=vs.length:=aaM r
   exact wpAny_truthy_dict hS m (by omega) ⟨H,I.tok _,by rw[CB r];exact q⟩
 | _=>exact(show False from e).elim
theorem IM(ha:PE X a ta)(he:∀ whole,isTrue a X.env whole=(do let v <- whole;standAt a.pos;holding [v] (truthy v))) :
  PT X a (λσ H Q=>ta σ H λx H'=>∃ k,Hq X.K x H' k/\Q k H'):=by
 intro pins s σ H Q I h
 exact isTrue_plain (cz (ha pins s σ H _ I h) λv s1 ⟨x,H1,I1,r1,q1⟩=>xa pins s1 σ H1 x v Q I1 r1 q1) (he _)
theorem BO:OpR X (Ec .Add) (λx y H Q=>∃ i j,x=.str i/\y=.str j/\i.length+j.length<=ww/\Q (.str (i++j)) H):=by
 intro pins s σ H x y v u Q I rx ry h
 obtain⟨i,j,rfl,rfl,hz,q⟩:=h
 obtain⟨t,rfl⟩:=rx
 obtain⟨t',rfl⟩:=ry
 exact add_str (λt' tk=>⟨.str (i++j),H,I.tok _,⟨_,rfl⟩,q⟩) hz
theorem gm{x:V}(r:Vals [x] us):∃ u,us=[u]/\RelV x u:=by
 cases r with
 | cons r1 r2=>cases r2;exact⟨_,rfl,r1⟩
theorem yO{x y:V}(r:Vals [x,y] us):∃ u w',us=[u,w']/\RelV x u/\RelV y w':=by
 cases r with
 | cons r1 r2=>
  cases r2 with
  | cons r3 r4=>cases r4;exact⟨_,_,rfl,r1,r3⟩
theorem Hc(hc:X.calm=true):CallR X (.builtin "max") (λxs H Q=>∃ i j,xs=[.int i,.int j]/\Q (.int (if j>i then j else i)) H):=by
 intro pins s σ H xs us Q I r h
 obtain⟨i,j,rfl,q⟩:=h
 obtain⟨u,w',rfl,⟨t,rfl⟩,⟨t',rfl⟩⟩:=yO r
 refine max_two_ints (I.ok.hd hc) λh' tk k=>⟨_,H,I.kept k,?_,q⟩
 by_cases hj:j>i
 ·rw[WN hj,WN hj];exact⟨_,rfl⟩
 ·rw[WX hj,WX hj];exact⟨_,rfl⟩
theorem Ha(hc:X.calm=true):CallR X (.builtin "min") (λxs H Q=>∃ i j,xs=[.int i,.int j]/\Q (.int (if j<i then j else i)) H):=by
 intro pins s σ H xs us Q I r h
 obtain⟨i,j,rfl,q⟩:=h
 obtain⟨u,w',rfl,⟨t,rfl⟩,⟨t',rfl⟩⟩:=yO r
 refine min_two_ints (I.ok.hd hc) λh' tk k=>⟨_,H,I.kept k,?_,q⟩
 by_cases hj:j<i
 ·rw[WN hj,WN hj];exact⟨_,rfl⟩
 ·rw[WX hj,WX hj];exact⟨_,rfl⟩
theorem Hh:CallR X (.type "int") (λxs H Q=>(∃ i,xs=[.int i]/\Q (.int i) H)\/∃ k,xs=[.bl k]/\Q (.int (if k then 1 else 0)) H):=by
 intro pins s σ H xs us Q I r h
 rcases h with ⟨i,rfl,q⟩ | ⟨k,rfl,q⟩
 ·obtain⟨u,rfl,t,rfl⟩:=gm r
  exact call_int_int ⟨.int i,H,I,⟨_,rfl⟩,q⟩
 ·obtain⟨u,rfl,r1⟩:=gm r
  cases r1
  exact call_int_bool ⟨.int (if k then 1 else 0),H,I.tok _,⟨_,rfl⟩,q⟩
theorem yA:CallR X (.type "str") (λxs H Q=>∃ i,xs=[.int i]/\i.natAbs.log2<1920/\Q (.str (toString i)) H):=by
 intro pins s σ H xs us Q I r h
 obtain⟨i,rfl,hz,q⟩:=h
 obtain⟨u,rfl,t,rfl⟩:=gm r
 exact PySem.P.str_of_int hz ⟨.str _,H,I.tok _,⟨_,rfl⟩,q⟩
end
theorem wb{h:wo}(n:h.Ns1 dx mA):∃ od,h.get? dx=U od/\∀ name,W.lookIn name od=U (mA name):=by
 obtain⟨o,es,ep,ho,hd,hk,_,hm⟩:=n
 refine⟨o,ho,λname=>?_⟩
 have e:=hm name
 unfold nsFind findBy at e
 rw[<- abz] at e
 unfold W.lookIn
 rw[hd]
 dsimp only
 split
 ·rename_i y q
  rw[q] at e
  exact congrArg U e
 ·rename_i q
  rw[q] at e
  have a:es.toList.any (·.refKey)=false:=by
   rw[List.any_eq_false]
   intro y hy
   obtain⟨z,t,hkey⟩:=hk y (abh.mp hy)
   simp[DictEntry.refKey,hkey]
  have a':¬ es.toList.any (·.refKey)=true:=by rw[a];exact WJ
  rw[WX a']
  exact congrArg U e
theorem RelO.some_of{v:V}(r:RelO (U v) o):∃ u,o=U u/\RelV v u:=by
 cases o with
 | none=>exact(show False from r).elim
 | some u=>exact⟨u,rfl,r⟩
theorem Gn(r:RelV v u):W.handedIn u=true:=by
 cases v with
 | non=>cases(show u=Value.none from r);rfl
 | bl b=>cases(show u=Value.bool b from r);rfl
 | int i=>obtain⟨t,e⟩:=(show ∃ t,u=Value.int i t from r);cases e;rfl
 | str x=>obtain⟨t,e⟩:=(show ∃ t,u=Value.str x t from r);cases e;rfl
 | byt b=>obtain⟨t,e⟩:=(show ∃ t,u=Value.bytes b t from r);cases e;rfl
 | flt b=>obtain⟨t,e⟩:=(show ∃ t,u=Value.float b t from r);cases e;rfl
 | ref a=>cases(show u=Value.ref a from r);rfl
 | ty n=>cases(show u=Value.type n from r);rfl
section
variable{X:Cx}{pins:List (gV×Obj)}{σ:St}{H:Hp}{s:gw}{a C dx:gV}{fs:List (Str×V)}{f:Str}{v:V}{A:tx}{E:dn->gw->Prop}
theorem QI{f:Str}{s:gw}(hb:attributeBase e f env (eval e env)=eval e env)
  (h:Ew (model prog w) A (eval e env) (λo s₁=>Ew (model prog w) A (getAttr o f true) Q E s₁) E s):Ew (model prog w) A (eval (.Attribute e f pos) env) Q E s:=
 Attribute_any_ h (by rw[arm_eval_Attribute,hb])
end
structure Room(k:Nat)(A:tx):Prop where
 hd:A.handled=Y
 dp:A.depth+3*k+5<recursionLimit
 un:A.units+16*k+200<cLine
theorem Room.mono{j k:Nat}{A:tx}(r:Room k A)(h:j<=k):Room j A:=⟨r.hd,by have:=r.dp;omega,by have:=r.un;omega⟩
theorem Room.deeper{k:Nat}{A:tx}(r:Room (k+1) A)(env:Env):Room k (A.deeper env):=
 ⟨r.hd,by have:=r.dp;show A.depth+1+3*k+5<_;omega,by have:=r.un;show A.units+3+16*k+200<_;omega⟩
theorem Cd{A:tx}{us:List dn}{kw:List (Str×dn)}:(A.under (.builtin "type.__call__" ⟨.ref C::us,kw⟩)).depth=A.depth+1:=by
 first | rfl | simp[Around.under,Code.weight,Code.isCreation,Code.isGuard,Code.isCaller,Code.frames,Code.isFrame,guardIds]
theorem Cc{A:tx}{us:List dn}{kw:List (Str×dn)}:(A.under (.builtin "type.__call__" ⟨.ref C::us,kw⟩)).units=A.units+1:=by
 first | rfl | simp[Around.under,Code.cUnits,Code.frames,Code.isFrame]
theorem Room.make{k:Nat}{A:tx}(r:Room (k+1) A)(C:gV)(us:List dn)(kw:List (Str×dn)):Room k (A.under (.builtin "type.__call__" ⟨.ref C::us,kw⟩)):=
 ⟨r.hd,by have:=r.dp;rw[Cd];omega,by have:=r.un;rw[Cc];omega⟩
theorem Room.depth{k:Nat}{A:tx}(r:Room k A):A.depth<recursionLimit:=by have:=r.dp;omega
theorem Room.units{k:Nat}{A:tx}(r:Room k A):A.units+64<cLine:=by have:=r.un;omega
def tNil:TA:=λ_ H Q=>Q [] H
def tCons(ta:TE)(tr:TA):TA:=λσ H Q=>ta σ H λx H1=>tr σ H1 λxs H2=>Q (x::xs) H2
section
variable{X:Cx}{e:pc}{es:List pc}{te:TE}{t:TA}{pos:Pos}
theorem pL:PA X [] tNil:=λ_ _ _ _ H Q I h=>Calls.spliced_nil ⟨[],H,I,.nil,h⟩
theorem io(ha:PE X e te)(hr:PA X es t)(hs:zH (e::es) X.env=(false,eval e X.env)::zH es X.env:=by rfl):PA X (e::es) (tCons te t):=by
 intro pos pins s σ H Q I h
 rw[hs]
 show Ew _ _ (spliced ((false,eval e X.env)::backTo pos (zH es X.env))) _ _ s
 refine Calls.spliced_cons (cz (ha pins s σ H _ I h) λu s1 ⟨x,H1,I1,r1,q1⟩=>?_)
 exact cz (hr pos pins s1 σ H1 _ I1 q1) λus s2 ⟨xs,H2,I2,r2,q2⟩=>⟨x::xs,H2,I2,.cons r1 r2,q2⟩
def tTup(t:TA):TE:=λσ H Q=>t σ H λxs H1=>xs.length<=ww/\∀ p,H1 p=Y->Q (.ref p) (upd H1 p (.tup xs))
def tLst(t:TA):TE:=λσ H Q=>t σ H λxs H1=>xs.length<=ww/\∀ p,H1 p=Y->Q (.ref p) (upd H1 p (.lst xs))
theorem IY{x1}(h:PA X es t):PE X (.Tuple es x1 pos) (tTup t):=by
 intro pins s σ H Q I hq
 refine wpAny_Tuple_spliced (cz (h pos pins s σ H _ I hq) λus s1 ⟨xs,H1,I1,r,z,q⟩=>⟨by rw[<- r.length];exact z,?_⟩)
 have hf:H1 s1.heap.objs.size=Y:=I1.hok.fresh (WH _)
 refine⟨.ref s1.heap.objs.size,upd H1 s1.heap.objs.size (.tup xs),I1.laid (t':=s1.toks) (λb u e=>Wy _ e) (WH _) ?_,rfl,q _ hf⟩
 exact⟨z,us,r,⟨_,WL _ rfl,rfl,⟨_,rfl⟩,rfl⟩⟩
theorem IZ(h:PA X es t):PE X (.List es pos) (tLst t):=by
 intro pins s σ H Q I hq
 refine wpAny_List_spliced (cz (h pos pins s σ H _ I hq) λus s1 ⟨xs,H1,I1,r,z,q⟩=>⟨by rw[<- r.length];exact z,?_⟩)
 have hf:H1 s1.heap.objs.size=Y:=I1.hok.fresh (WH _)
 refine⟨.ref s1.heap.objs.size,upd H1 s1.heap.objs.size (.lst xs),I1.laid (t':=s1.toks) (λb u e=>Wy _ e) (WH _) ?_,rfl,q _ hf⟩
 exact⟨z,us,0,r,WL _ rfl⟩
end
noncomputable abbrev Sp:=List V->Hp->VK->XK->Prop
noncomputable abbrev Hv:=List Env->Hp->gw->XK->dn->gw->Prop
structure Env0(P:pr)(w:sv)(K:FA)(mg:Str->Option dn)(base:wo)(A:tx)(outer:List Env)(s:gw)(H:Hp):Prop where
 frames:A.frames=U outer
 mod:Mod K mg base
 bs:∀ b o,base.get? b=U o->s.heap.get? b=U o/\H b=Y
 bsz:base.objs.size<=s.heap.objs.size
 funs:s.heap.FunFrames base outer
 frf:∀ b∈wx outer,H b=Y
 hok:HOk P w H s.heap
 bare:AllBare s.gens
def CE(outer:List Env)(P:pr)(w:sv)(H:Hp)(s:gw)(Q:VK)(u:dn)(s':gw):Prop:=
 ∃ v H',s'.os=s.os/\AllBare s'.gens/\Un (wx outer) [] H H' s.heap s'.heap/\HOk P w H' s'.heap/\RelV v u/\Q v H'
def CR(CX:Hv)(outer:List Env)(P:pr)(w:sv)(H:Hp)(s:gw)(Q:VK)(E:XK)(r:Result)(s':gw):Prop:=
 match r with
 | .ok (.ret u)=>CE outer P w H s Q u s'
 | .ok _=>False
 | .error e=>CX outer H s E e s'
structure FnOk(P:pr)(w:sv)(K:FA)(mg:Str->Option dn)(base:wo)(CX:Hv)(k:Nat)(f:gV)(fd:FuncData)(ps:List Str)(sp:Sp):Prop where
 len:∀ vs H Q E,sp vs H Q E->vs.length=ps.length
 run:∀ (A:tx) (outer:List Env) (s:gw) (H:Hp) (args:Args) (us:List dn) (vs:List V) (Q:VK) (E:XK),Room k A->Env0 P w K mg base A outer s H->BindsTo s fd args (ps.zip us)->Vals vs us->sp vs H Q E ->
  codeAny (model P w) A (.call (.ref f) args) (CR CX outer P w H s Q E) s
theorem FnOk.mono{K:FA}{k:Nat}(F:FnOk P w K mg base CX j f fd ps sp)(h:j<=k) :
  FnOk P w K mg base CX k f fd ps sp:=⟨F.len,λA outer s H args us vs Q E hr=>F.run A outer s H args us vs Q E (hr.mono h)⟩
theorem Env0.make{K:FA}{A:tx}{s:gw}(e:Env0 P w K mg base A outer s H)(C:gV)(us:List dn)(kw:List (Str×dn)) :
  Env0 P w K mg base (A.under (.builtin "type.__call__" ⟨.ref C::us,kw⟩)) outer s H:=⟨by first | exact e.frames | (simpa[Around.under,Code.envs,Code.isFrame,pushEnvs] using e.frames),e.mod,e.bs,e.bsz,e.funs,e.frf,e.hok,e.bare⟩
section
variable{X:Cx}{pins:List (gV×Obj)}{σ:St}{H:Hp}{s s':gw}
theorem Inv.env0(I:Inv X pins σ H s):Env0 X.prog X.w X.K X.mg X.base X.A X.stack s H:=
 ⟨I.ok.frames,I.ok.mod,I.bs,Xa I.ok.bsz I.sz,I.stack,I.stkFree,I.hok,I.bare⟩
theorem Inv.after(I:Inv X pins σ H s)(h:CE X.stack X.prog X.w H s Q u s'):EP X pins σ Q u s':=by
 obtain⟨v,H',os,bare,un,hok,r,q⟩:=h
 obtain⟨hh,g,d,t,os'⟩:=s'
 obtain rfl:os'=s.os:=os
 exact⟨v,H',I.call (h':=hh) (g':=g) (d':=d) (t':=t) (ch:=[]) un hok bare (λb z=>absurd z (by simp)),r,q⟩
end
def Dv(sp:Sp)(dvs:List V)(E:XK)(t:TA):TE:=λσ H Q=>t σ H λvs H1=>sp (vs++dvs) H1 Q E
def Binds(K:FA)(fd:FuncData)(ps:List Str)(ds:List dn):Prop:=
 ∀ (s:gw) (us:List dn),K.In s.heap->(us++ds).length=ps.length->BindsTo s fd ⟨us,[]⟩ (ps.zip (us++ds))
theorem Binds.all{K:FA}{ps:List Str}(h:∀ us:List dn,us.length=ps.length->bindArgs fd ⟨us,[]⟩=pure (ps.zip us)):Binds K fd ps []:=λs us _ hl=>by
 rw[Xt] at hl ⊢
 exact .of_eq (h us hl)
def yH(CX:Hv)(X:Cx)(E:XK):Prop:=∀ (pins:List (gV×Obj)) (σ:St) (H:Hp) (s:gw) (e:dn) (s':gw),Inv X pins σ H s->CX X.stack H s E e s'->X.xe e s'
section
variable{X:Cx}{CX:Hv}{k:Nat}{f C:gV}{fd:FuncData}{ps:List Str}{sp:Sp}{dvs:List V}{ds:List dn}{E:XK}{x m:Str}{p pos apos:Pos}{e o:pc}{es:List pc}{ta:TE}{t:TA}
theorem IB{s:gw}(F:FnOk X.prog X.w X.K X.mg X.base CX k f fd ps sp)(hr:Room k X.A)(hb:Binds X.K fd ps ds)(hd:Vals dvs ds)(hx:yH CX X E)
  (I:Inv X pins σ H s) (r:Vals vs us) (h:sp (vs++dvs) H Q E):Ew (model X.prog X.w) X.A (call (.ref f) us) (EP X pins σ Q) X.xe s:=by
 have r2:Vals (vs++dvs) (us++ds):=r.append hd
 have hl:(us++ds).length=ps.length:=by rw[<- r2.length];exact F.len _ _ _ _ h
 refine Zh (XH (F.run X.A X.stack s H ⟨us,[]⟩ (us++ds) (vs++dvs) Q E hr I.env0 (hb s us I.kIn hl) r2 h) λr s' hq=>?_)
 cases r with
 | error e=>exact hx pins σ H s e s' I hq
 | ok fl=>
  cases fl with
  | ret u=>exact I.after hq
  | next=>exact False.elim hq
  | brk=>exact False.elim hq
  | cont=>exact False.elim hq
theorem Og(F:FnOk X.prog X.w X.K X.mg X.base CX k f fd ps sp)(hr:Room k X.A)(hg:Gl X x)(hm:X.mg x=U (.ref f))(hk:W.keepIn X.K (.ref f)=true)(hb:Binds X.K fd ps ds)(hd:Vals dvs ds)(hx:yH CX X E)
  (ha:PA X (e::es) t) (hdb:(x==("__debug__":Str))=false:=by decide) (he:zH (e::es) X.env=(false,eval e X.env)::zH es X.env:=by rfl) (hpl:(backTo pos (zH es X.env)).any (·.1)=false:=by rfl) :
  PE X (.Call (.Name x p) (e::es) [] pos) (Dv sp dvs E t):=by
 intro pins s σ H Q I h
 refine YG (rZ I hg hm ?_ hdb)
 refine W.callWith_K (h₀:=X.base) I.ok.mod.kin hk (cz (ha pos pins s σ H _ I h) λus s1 ⟨vs,H1,I1,r,q⟩=>⟨I1.kIn,?_⟩) he hpl
 exact IB F hr hb hd hx I1 r q
theorem Jc(F:FnOk X.prog X.w X.K X.mg X.base CX k f fd ps sp)(hr:Room k X.A)(hg:Gl X x)(hm:X.mg x=U (.ref f))(hk:W.keepIn X.K (.ref f)=true)(hb:Binds X.K fd ps ds)(hd:Vals dvs ds)(hx:yH CX X E)
  (hdb:(x==("__debug__":Str))=false:=by decide):PE X (.Call (.Name x p) [] [] pos) (Dv sp dvs E tNil):=by
 intro pins s σ H Q I h
 refine YG (rZ I hg hm ?_ hdb)
 exact W.callWith_K0 I.kIn hk (IB (us:=[]) F hr hb hd hx I .nil h)
end
structure aN(N P:List Str)(sc:Scope):Prop where
 kind:sc.kind=.function
 co:sc.isCoroutine=false
 gen:sc.isGenerator=false
 nd:N.Nodup
 pre:N.take P.length=P
 par:∀ x∈P,sc.names.lookup x=U .local\/sc.names.lookup x=U .cell
 nofree:∀ y∈sc.names,y.2≠.free
theorem wP{kindOf:Str->Option NameKind}{x:Str}:∀ {binds:List (Str×dn)} {m:Str->Option dn},(∀ v,(x,v)∉binds)->bindL kindOf binds m x=m x
 | [],_,_=>rfl
 | (n,v)::r,m,h=>by
  unfold bindL
  rw[wP λw hw=>h w (WB _ hw)]
  split
  ·have:x≠n:=by rintro rfl;exact h v WE
   simp[this]
  ·rfl
theorem wR{kindOf:Str->Option NameKind}{x:Str}:∀ {binds:List (Str×dn)} {m:Str->Option dn},(∀ v,(x,v)∉binds)->bindC kindOf binds m x=m x
 | [],_,_=>rfl
 | (n,v)::r,m,h=>by
  unfold bindC
  rw[wR λw hw=>h w (WB _ hw)]
  split
  ·rfl
  ·have:x≠n:=by rintro rfl;exact h v WE
   simp[this]
theorem wQ{kindOf:Str->Option NameKind}{x:Str}{v:dn}:∀ {P:List Str} {vs:List dn} {i:Nat} {m:Str->Option dn},P.Nodup->P[i]?=U x->vs[i]?=U v->kindOf x=U .local ->
  bindL kindOf (P.zip vs) m x=U v
 | [],_,_,_,_,h,_,_=>by simp at h
 | _::_,[],_,_,_,_,h,_=>by simp at h
 | p::P,w::vs,0,m,nd,h1,h2,hk=>by
  simp at h1 h2;subst h1;subst h2
  show bindL kindOf ((p,w)::P.zip vs) m p=_
  unfold bindL
  rw[wP λv hv=>(Ys.mp nd).1 (aav hv).1,WN hk]
  simp
 | p::P,w::vs,i+1,m,nd,h1,h2,hk=>by
  show bindL kindOf ((p,w)::P.zip vs) m x=_
  unfold bindL
  exact wQ (i:=i) (Ys.mp nd).2 (by simpa using h1) (by simpa using h2) hk
theorem wS{kindOf:Str->Option NameKind}{x:Str}{v:dn}:∀ {P:List Str} {vs:List dn} {i:Nat} {m:Str->Option dn},P.Nodup->P[i]?=U x->vs[i]?=U v->kindOf x≠U .local ->
  bindC kindOf (P.zip vs) m x=U v
 | [],_,_,_,_,h,_,_=>by simp at h
 | _::_,[],_,_,_,_,h,_=>by simp at h
 | p::P,w::vs,0,m,nd,h1,h2,hk=>by
  simp at h1 h2;subst h1;subst h2
  show bindC kindOf ((p,w)::P.zip vs) m p=_
  unfold bindC
  rw[wR λv hv=>(Ys.mp nd).1 (aav hv).1,WX hk]
  simp
 | p::P,w::vs,i+1,m,nd,h1,h2,hk=>by
  show bindC kindOf ((p,w)::P.zip vs) m x=_
  unfold bindC
  exact wS (i:=i) (Ys.mp nd).2 (by simpa using h1) (by simpa using h2) hk
def start(N:List Str)(vs:List V):St:=vs.map U++Ga (N.length - vs.length) Y
def rQ(CX:Hv)(P:pr)(w:sv)(K:FA)(mg:Str->Option dn)(base:wo)(N:List Str)(qual:Str)(scope:Scope)(f:gV)(cd:dn)(A:tx)(outer:List Env)(s:gw)(H:Hp)(E:XK):Cx where
 prog:=P
 w:=w
 K:=K
 mg:=mg
 base:=base
 A:=A.deeper (envOfC qual scope s.heap.objs.size f cd)
 N:=N
 s₀:=s
 H₀:=H
 env:=envOfC qual scope s.heap.objs.size f cd
 outer:=outer
 stack:=envOfC qual scope s.heap.objs.size f cd::outer
 ex:=[]
 calm:=true
 fn:=λ_=>true
 pn:=[]
 xe:=λe s'=>Ew (model P w) (A.deeper (envOfC qual scope s.heap.objs.size f cd)) (leaving (envOfC qual scope s.heap.objs.size f cd) e) (λ_ s''=>CX outer H s E e s'') (λe' s''=>CX outer H s E e' s'') s'
theorem AY{sc:Scope}(h:sc.names.lookup x=U .cell):∃ c,(cellsFrom n sc.names []).lookup x=U c:=by
 have q:=W.cellsFrom_some sc.names n [] (.inl h)
 exact Yd.mp q
theorem Gg{K:FA}{A:tx}{s:gw}{vs:List V}
  (S:aN N ps scope) (hd:A.handled=Y) (e0:Env0 P w K mg base A outer s H) (hl:vs.length=ps.length) (r:Vals vs us)
  (x:InCallC s s.heap.objs.size (bindL (envOfC qual scope s.heap.objs.size f cd).kindOf (ps.zip us) λ_=>Y) (cellsFrom (s.heap.objs.size+1) scope.names []) (bindC (envOfC qual scope s.heap.objs.size f cd).kindOf (ps.zip us) λ_=>Y) s1) :
  Inv (rQ CX P w K mg base N qual scope f cd A outer s H E) [] (start N vs) H s1:=by
 have hpl:ps.length<=N.length:=by have:=congrArg List.length S.pre;rw[YD] at this;omega
 obtain⟨h1,tk,rfl,hk⟩:=x.done
 have noA:∀ b:gV,b∉(rQ CX P w K mg base N qual scope f cd A outer s H E).ex:=λb z=>absurd (show b∈([]:List gV) from z) (by simp)
 refine⟨⟨e0.mod,S.kind,rfl,rfl,WH _,λy z c h1 h2=>?_,λy hy=>?_,λy c _ h=>?_,λ_=>hd,Around.frames_deeper e0.frames,.inr ⟨rfl,rfl⟩,λb z=>absurd z (noA b),e0.bs,e0.bsz,λb _ _=>noA b,λb z=>absurd z (noA b),e0.funs,e0.frf⟩,
  rfl,e0.bare,Un.kept hk,⟨_,x.toInCall.ns,λi y v h1 h2 h3=>?_⟩,λy c h=>⟨_,x.cell y c h⟩,e0.hok.fresh (WH _),λy c h=>?_,λp hp=>absurd (show p∈([]:List (gV×Obj)) from hp) (by simp),e0.hok.kept hk,?_⟩
 ·exact name_of_addr x.apart (XN h1) (XN h2)
 ·have hy:scope.names.lookup y=U .cell\/scope.names.lookup y=U .free:=hy
  rcases hy with hy | hy
  ·exact AY hy
  ·exact absurd rfl (S.nofree _ (XN hy))
 ·exact Ze (x.above y c (XN h))
 ·have hi:i<vs.length:=by
   unfold start at h2
   by_cases hi:i<vs.length
   ·exact hi
   ·rw[XJ (by simpa using hi)] at h2
    rw[List.getElem?_replicate] at h2
    split at h2<;>cases h2
  have ha:vs[i]?=U v:=by
   unfold start at h2
   rw[WS (by simpa using hi),XU] at h2
   cases e:vs[i]? with
   | none=>rw[e] at h2;cases h2
   | some a=>rw[e] at h2;cases h2;rfl
  obtain⟨u,hu,rv⟩:=r.get ha
  have hp:ps[i]?=U y:=by
   rw[<- S.pre,aaI (by omega)];exact h1
  have ndP:ps.Nodup:=by rw[<- S.pre];exact S.nd.sublist (List.take_sublist _ _)
  refine⟨u,rv,?_⟩
  rcases S.par y (Xw hp) with k | k
  ·exact .inl ⟨k,wQ ndP hp hu k⟩
  ·obtain⟨c,e⟩:=AY (n:=s.heap.objs.size+1) k
   refine .inr ⟨.inl k,c,e,?_⟩
   have q:=x.cell y c e
   rw[wS ndP hp hu (by show scope.names.lookup y≠_;rw[k];decide)] at q
   exact q
 ·exact e0.hok.fresh (Ze (x.above y c (XN h)))
 ·unfold start
  show _=N.length
  rw[Xf,WI,List.length_replicate]
  omega
theorem KB{K:FA}{k:Nat}{kV oc:dn}{od:Option gV}
  {osl:Array (Option dn)} {sp:Sp} (lk:K.lookup f=U ⟨oc,od,.func (W.fnOf name qual params body scope dV kV doc pm an cdv ct),osl⟩) (hcd:W.codeIn K cdv qual=true) (S:aN N ps scope)
  (len:∀ vs H Q E,sp vs H Q E->vs.length=ps.length)
  (hbody:∀ (A:tx) (outer:List Env) (s:gw) (H:Hp) (vs:List V) (Q:VK) (E:XK),Room k (A.deeper (envOfC qual scope s.heap.objs.size f cdv))->sp vs H Q E ->
   ∃ t,PSs (rQ CX P w K mg base N qual scope f cdv A outer s H E) body t/\t { nx:=λ_ H'=>Q .non H',rt:=Q } (start N vs) H) :
  FnOk P w K mg base CX (k+1) f (W.fnOf name qual params body scope dV kV doc pm an cdv ct) ps sp:=by
 refine⟨len,λA outer s H args us vs Q E hr e0 hb r hsp=>?_⟩
 have hl:=len _ _ _ _ hsp
 have KX:K.In s.heap:=e0.mod.kin.keeps λb o e=>(e0.bs b o e).1
 have lim:s.heap.NoLimit:=e0.mod.nolimit.keeps λb o e=>(e0.bs b o e).1
 have hkind:∀ y∈ps.zip us,scope.names.lookup y.1=U .local\/(scope.names.lookup y.1=U .cell/\((cellsFrom (s.heap.objs.size+1) scope.names []).lookup y.1).isSome=true):=λ⟨n,v⟩ hy=>by
  rcases S.par n (aav hy).1 with q | q
  ·exact .inl q
  ·exact .inr ⟨q,W.cellsFrom_some _ _ _ (.inl q)⟩
 refine codeAny_call_function hr.depth (KX _ _ lk) rfl S.co S.gen rfl (W.codeRec_of KX hcd) (hb _ _ _ _ ?_)
 refine wpAny_newFunctionEnv_cells S.kind hkind λenv he s1 x=>?_
 subst he
 refine⟨lim.keeps x.toInCall.keep,codeAny_func ?_⟩
 obtain⟨t,ht,hq⟩:=hbody A outer s H vs Q E (hr.deeper _) hsp
 have I:Inv (rQ CX P w K mg base N qual scope f cdv A outer s H E) [] (start N vs) H s1:=Gg S hr.hd e0 hl r x
 refine WV (ht [] s1 (start N vs) H _ I hq) (λfl s' hs=>?_) λe s' hs=>hs
 have fin:∀ {σ':St} {H':Hp} {v:V} {u:dn},Inv (rQ CX P w K mg base N qual scope f cdv A outer s H E) [] σ' H' s'->RelV v u->Q v H'->CE outer P w H s Q u s':=
  λ{σ' H' v u} J rv q=>⟨v,H',J.os,J.bare,J.base,J.hok,rv,q⟩
 cases fl with
 | ret u=>
  obtain⟨v,σ',H',J,rv,q⟩:=hs
  exact fin J rv q
 | next=>
  obtain⟨σ',H',J,q⟩:=hs
  exact fin (v:=V.non) (u:=Value.none) J rfl q
 | brk=>
  obtain⟨_,_,_,q⟩:=hs
  exact False.elim q
 | cont=>
  obtain⟨_,_,_,q⟩:=hs
  exact False.elim q
section
variable{X:Cx}{x:Str}{p pos:Pos}{e:pc}{es:List pc}{t:TA}{id T:String}{r:List V->Hp->VK->Prop}
def tCB(r:List V->Hp->VK->Prop)(t:TA):TE:=λσ H Q=>t σ H λvs H1=>r vs H1 Q
theorem kY(hc:CallR X (.builtin id) r)(hg:Gl X x)(hm:X.mg x=Y)(hv:bootBuiltins x=U (.builtin id))(ha:PA X (e::es) t)(hn:x≠"__name__":=by decide)(hdb:(x==("__debug__":Str))=false:=by decide)
  (he:zH (e::es) X.env=(false,eval e X.env)::zH es X.env:=by rfl) (hpl:(backTo pos (zH es X.env)).any (·.1)=false:=by rfl):PE X (.Call (.Name x p) (e::es) [] pos) (tCB r t):=by
 intro pins s σ H Q I h
 refine YG (tJ I hg hm hv ?_ hn hdb)
 exact PyProof.Rows.callWith_builtin1 (cz (ha pos pins s σ H _ I h) λus s1 ⟨vs,H1,I1,r1,q1⟩=>hc pins s1 σ H1 vs us Q I1 r1 q1) he hpl
theorem vJ(hc:CallR X (.type T) r)(hg:Gl X x)(hm:X.mg x=Y)(hv:bootBuiltins x=U (.type T))(ha:PA X (e::es) t)(hn:x≠"__name__":=by decide)(hdb:(x==("__debug__":Str))=false:=by decide)
  (he:zH (e::es) X.env=(false,eval e X.env)::zH es X.env:=by rfl) (hpl:(backTo pos (zH es X.env)).any (·.1)=false:=by rfl):PE X (.Call (.Name x p) (e::es) [] pos) (tCB r t):=by
 intro pins s σ H Q I h
 refine YG (tJ I hg hm hv ?_ hn hdb)
 exact YY (cz (ha pos pins s σ H _ I h) λus s1 ⟨vs,H1,I1,r1,q1⟩=>hc pins s1 σ H1 vs us Q I1 r1 q1) he hpl
end
end L2
namespace HT
section
variable{prog:pr}{w:sv}{A:tx}{E:dn->gw->Prop}{s:gw}
theorem QF{vs ws:List dn}{Q:dn->gw->Prop}(ht:IsTup s.heap t vs.toArray)(hb:IsTup s.heap b ws.toArray)(hv:vs≠[])
  (h1:ws=[]->Q (.ref t) s) (h2:ws≠[]->Q (.ref s.heap.objs.size) { s with heap:=s.heap.push { cls:=.type "tuple",data:=.seq (vs++ws).toArray } })
  (hsz:vs.length+ws.length<=ww):Ew (model prog w) A (Ec .Add (.ref t) (.ref b)) Q E s:=by
 obtain⟨⟨cls,dd,data,sl⟩,ho,hc,n,hd⟩:=id ht
 obtain⟨⟨cls2,dd2,data2,sl2⟩,ho2,hc2,n2,hd2⟩:=id hb
 simp only at hc hd hc2 hd2
 subst hc hd hc2 hd2
 have e:vs.toArray++ws.toArray=(vs++ws).toArray:=by simp
 by_cases hw:ws=[]
 ·exact aba ⟨_,ho,rfl⟩ ⟨_,ho2,rfl⟩ aai aaL aak aab (ZS _ _)
   (tuple_addW1 t b vs.toArray ws.toArray n n2 dd dd2 sl sl2 (by simpa using hv) (by simp[hw])) ⟨ho,ho2,h1 hw⟩
 ·refine aba ⟨_,ho,rfl⟩ ⟨_,ho2,rfl⟩ aai aaL aak aab (ZS _ _)
   (tuple_addW2 t b vs.toArray ws.toArray n n2 dd dd2 sl sl2 (by simpa using hv) (by simpa using hw) (by rw[WD,WD];exact hsz)) ⟨ho,ho2,?_⟩
  rw[e]
  exact h2 hw
def ff(n d:Nat):Option Int->Nat
 | none=>d
 | some v=>if v<0 then(v+(n:Int)).toNat else min v.toNat n
theorem SM(n d:Nat)(hd:d<=n)(o:Option Int):ff n d o<=n:=by
 cases o with
 | none=>exact hd
 | some v=>
  show(if v<0 then(v+(n:Int)).toNat else min v.toNat n)<=n
  by_cases hv:v<0
  ·rw[WN hv];omega
  ·rw[WX hv];exact Nat.min_le_right _ _
theorem Fg(v:Int)(n d:Nat):(if v<0 then max (v+(n:Int)) 0 else min v (n:Int))=((ff n d (U v):Nat):Int):=by
 show(if v<0 then max (v+(n:Int)) 0 else min v (n:Int))=(((if v<0 then(v+(n:Int)).toNat else min v.toNat n):Nat):Int)
 by_cases hv:v<0
 ·simp only[WN hv];omega
 ·simp only[WX hv];omega
theorem Dk(lo hi:Option Int)(n:Nat):Builtin.Slice.sliceAdjust lo hi 1 (n:Int)=(((ff n 0 lo:Nat):Int),((ff n n hi:Nat):Int)):=by
 have h1:¬ ((1:Int)<0):=by omega
 unfold Builtin.Slice.sliceAdjust
 simp only[h1,Xx]
 refine Prod.ext ?_ ?_
 ·cases lo with
  | none=>rfl
  | some v=>exact Fg v n 0
 ·cases hi with
  | none=>rfl
  | some v=>exact Fg v n n
theorem BM(i j:Nat):Builtin.Slice.slicePlaces (i:Int) (j:Int) 1=j - i:=by
 unfold Builtin.Slice.slicePlaces
 have h1:(1:Int)>0:=by omega
 simp only[h1,Yq,abd]
 split<;>omega
theorem sG{Q:Option Int->gw->Prop}(p:IsPart v o)(h:Q o s):Ew (model prog w) A (Builtin.Slice.slicePartIndex v) Q E s:=by
 cases p with
 | none=>exact ZB h
 | int i t=>exact slicePart_int h
theorem jx{lo:Option Int}{n:Nat}{Q:Int×Int×Nat->gw->Prop}(hs:s.heap.IsSliceOf sl vl vu .none)(pl:IsPart vl lo)(pu:IsPart vu hi)
  (h:Q (((ff n 0 lo:Nat):Int),1,ff n n hi - ff n 0 lo) s):Ew (model prog w) A (Builtin.Slice.sliceApplied (.ref sl) (pure (n:Int))) Q E s:=by
 obtain⟨os,hos,hcs,hds⟩:=id hs
 unfold Builtin.Slice.sliceApplied Builtin.Slice.sliceFields
 refine Wx (Wx (Xr hos hds (x:=vl) rfl (Wx (Xr hos hds (x:=vu) rfl (Wx (Xr hos hds (x:=.none) rfl (WA ?_)))))))
 refine Wx (ZB ?_)
 show Ew _ _ (if ((1:Int)==0)=true then _ else _) _ _ s
 rw[WX (by decide)]
 refine Wx (sG pl (Wx (sG pu (Wx (WA ?_)))))
 show Ew _ _ (match Builtin.Slice.sliceAdjust lo hi 1 (n:Int) with | (lo,hi)=>pure (lo,(1:Int),Builtin.Slice.slicePlaces lo hi 1)) _ _ s
 rw[Dk lo hi n]
 show Ew _ _ (pure (((ff n 0 lo:Nat):Int),(1:Int),Builtin.Slice.slicePlaces ((ff n 0 lo:Nat):Int) ((ff n n hi:Nat):Int) 1)) _ _ s
 rw[BM]
 exact WA h
theorem IT(xs:Array dn)(i k:Nat):((List.range k).filterMap λ(m:Nat)=>xs[((i:Int)+(m:Int)*1).toNat]?).toArray=((xs.toList.drop i).take k).toArray:=by
 have e:(λ(m:Nat)=>xs[((i:Int)+(m:Int)*1).toNat]?)=λm=>xs[i+m]?:=by
  funext m
  have:((i:Int)+(m:Int)*1).toNat=i+m:=by omega
  rw[this]
 rw[e]
 have:=pick_run xs i k
 rw[abt] at this
 have e2:((λx=>xs[x]?) ∘ λx=>i+x)=λm=>xs[i+m]?:=rfl
 rw[e2] at this
 rw[this]
theorem oH{lo:Option Int}{Q:dn->gw->Prop}(ht:IsTup s.heap t items)(hs:s.heap.IsSliceOf sl vl vu .none)(pl:IsPart vl lo)(pu:IsPart vu hi)
  (hw:¬ (ff items.size 0 lo=0/\ff items.size items.size hi=items.size))
  (h:Q (.ref s.heap.objs.size) { s with heap:=s.heap.push { cls:=.type "tuple",data:=.seq ((items.toList.drop (ff items.size 0 lo)).take (ff items.size items.size hi - ff items.size 0 lo)).toArray } })
  (hsz:items.size<=ww):Ew (model prog w) A (getItem (.ref t) (.ref sl)) Q E s:=by
 have htake:sizeOk (.seq ((items.toList.drop (ff items.size 0 lo)).take (ff items.size items.size hi - ff items.size 0 lo)).toArray):=by
  show((items.toList.drop (ff items.size 0 lo)).take (ff items.size items.size hi - ff items.size 0 lo)).toArray.size<=ww
  rw[WD,YD,YE,Yj]
  omega
 have hj:ff items.size items.size hi<=items.size:=SM _ _ (WH _) hi
 obtain⟨os,hos,hcs,hds⟩:=id hs
 have hTs:s.TypeIs (.ref sl) "slice":=⟨os,hos,hcs⟩
 unfold getItem
 try with_reducible refine Xd ?_
 first | refine Wx (WA ?_) | skip
 refine Wx (ZW ht.typeIs (by decide) ?_)
 refine Wx (XF (name:=Str.ofString "__getitem__") ht.typeIs Xz
  (Yk Xz ht.typeIs ZE ?_ (ZM _ _)))
 show Ew _ _ (Builtin.Tuple.tupleItemsOf (.ref t) >>= _) _ _ s
 refine Wx (aaJ ht ?_)
 refine Wx (aad hTs ?_)
 rw[WN (by decide)]
 refine Wx (jx hs pl pu ?_)
 have hno:¬ ((((ff items.size 0 lo:Nat):Int)==0&&(1:Int)==1&&(ff items.size items.size hi - ff items.size 0 lo)==items.size)=true):=by
  intro q
  rw[Wz,Wz] at q
  have q1:((ff items.size 0 lo:Nat):Int)=0:=eq_of_beq q.1.1
  have q2:ff items.size items.size hi - ff items.size 0 lo=items.size:=eq_of_beq q.2
  exact hw ⟨by omega,by omega⟩
 show Ew _ _ (if (((ff items.size 0 lo:Nat):Int)==0&&(1:Int)==1&&(ff items.size items.size hi - ff items.size 0 lo)==items.size)=true then _ else _) _ _ s
 rw[WX hno,IT]
 first
  | exact Wx (m:=Builtin.Tuple.tupleExact _) (Xg (WA ⟨_,rfl,WA h⟩) htake)
  | exact Wx (m:=Builtin.Tuple.tupleExact _) (Xg (Wx (WA (WA ⟨_,rfl,WA h⟩))) htake)
  | exact Wx (Wx (m:=Builtin.Tuple.tupleExact _) (Xg (WA (WA ⟨_,rfl,WA h⟩)) htake))
  | exact Wx (Wx (m:=Builtin.Tuple.tupleExact _) (Xg (WA ⟨_,rfl,WA h⟩) htake))
end
end HT
namespace L2
noncomputable abbrev TO:=St->Hp->(Option Int->Hp->Prop)->Prop
def PO(X:Cx)(e:Option pc)(t:TO):Prop:=
 ∀ (pins:List (gV×Obj)) (s:gw) (σ:St) (H:Hp) (Q:Option Int->Hp->Prop),Inv X pins σ H s->t σ H Q ->
  Ew (model X.prog X.w) X.A (evalPart e X.env) (λu s'=>∃ o H',Inv X pins σ H' s'/\IsPart u o/\Q o H') X.xe s
def No:TO:=λ_ H Q=>Q Y H
def tPart(t:TE):TO:=λσ H Q=>t σ H λx H1=>∃ i,x=.int i/\Q (U i) H1
section
variable{X:Cx}{e:pc}{te:TE}{lo hi:Option pc}{tl th:TO}{pos p2:Pos}
theorem NV:PO X Y No:=by
 intro pins s σ H Q I h
 rw[ZK]
 exact WA ⟨Y,H,I,.none,h⟩
theorem NU(h:PE X e te):PO X (U e) (tPart te):=by
 intro pins s σ H Q I hw
 rw[evalPart_some]
 refine cz (h pins s σ H _ I hw) λu s1 ⟨x,H1,I1,r1,q1⟩=>?_
 obtain⟨i,rfl,q⟩:=q1
 obtain⟨t,rfl⟩:=r1
 exact⟨U i,H1,I1,.int i t,q⟩
def SlR(X:Cx)(r:V->Option Int->Option Int->Hp->VK->Prop):Prop:=
 ∀ (pins:List (gV×Obj)) (s:gw) (σ:St) (H:Hp) (x:V) (v vl vu:dn) (lo hi:Option Int) (sl:gV) (Q:VK),Inv X pins σ H s->RelV x v->s.heap.IsSliceOf sl vl vu .none->IsPart vl lo->IsPart vu hi->r x lo hi H Q ->
  ∃ T id,typeLookup (.type T) "__getitem__" = pure (U (.builtin id))/\s.TypeIs v T/\Ew (model X.prog X.w) X.A (getItem v (.ref sl)) (EP X pins σ Q) X.xe s
theorem SlR.or(h:SlR X r)(h':SlR X r'):SlR X (λx lo hi H Q=>r x lo hi H Q\/r' x lo hi H Q):=by
 intro pins s σ H x v vl vu lo hi sl Q I rx hs pl pu q
 rcases q with q | q
 ·exact h pins s σ H x v vl vu lo hi sl Q I rx hs pl pu q
 ·exact h' pins s σ H x v vl vu lo hi sl Q I rx hs pl pu q
def tSl(r:V->Option Int->Option Int->Hp->VK->Prop)(te:TE)(tl th:TO):TE:=λσ H Q=>te σ H λx H1=>tl σ H1 λl H2=>th σ H2 λu H3=>r x l u H3 Q
theorem zo(hr:SlR X r)(he:PE X e te)(hl:PO X lo tl)(hu:PO X hi th):PE X (.Subscript e (.Slice lo hi Y p2) pos) (tSl r te tl th):=by
 intro pins s σ H Q I h
 refine aaG (cz (he pins s σ H _ I h) λv s1 ⟨x,H1,I1,r1,q1⟩=>?_)
 refine abk (cz (hl pins s1 σ H1 _ I1 q1) λvl s2 ⟨l,H2,I2,pl,q2⟩=>cz (hu pins s2 σ H2 _ I2 q2) λvu s3 ⟨u,H3,I3,pu,q3⟩=>?_)
 rw[ZK]
 refine WA ?_
 have I4:Inv X pins σ H3 { s3 with heap:=s3.heap.push { cls:=.type "slice",data:=.fields #[vl,vu,.none] } }:=I3.kept (t':=s3.toks) λb ob q=>Wy _ q
 obtain⟨T,id,hT,ht,hg⟩:=hr pins { s3 with heap:=s3.heap.push { cls:=.type "slice",data:=.fields #[vl,vu,.none] } } σ H3 x v vl vu l u s3.heap.objs.size Q I4 r1 (ZR ..) pl pu q3
 show Ew (model X.prog X.w) X.A (subscriptTail e (.Slice lo hi Y p2) v (.ref s3.heap.objs.size)) (EP X pins σ Q) X.xe { s3 with heap:=s3.heap.push { cls:=.type "slice",data:=.fields #[vl,vu,.none] } }
 exact aaK (ops:=[.ref s3.heap.objs.size,v]) ht hT hg (by with_unfolding_all rfl)
def AV(xs:List V)(lo hi:Option Int):List V:=(xs.drop (HT.ff xs.length 0 lo)).take (HT.ff xs.length xs.length hi - HT.ff xs.length 0 lo)
theorem rg(xs:List V)(lo hi:Option Int):(AV xs lo hi).length<=xs.length:=by
 unfold AV
 rw[YD,YE]
 omega
def rSlT(K:FA):V->Option Int->Option Int->Hp->VK->Prop:=λx lo hi H Q=>∃ a xs,x=.ref a/\mj K H a xs /\
 ¬ (HT.ff xs.length 0 lo=0/\HT.ff xs.length xs.length hi=xs.length)/\∀ p,H p=Y->Q (.ref p) (upd H p (.tup (AV xs lo hi)))
theorem SI:SlR X (rSlT X.K):=by
 intro pins s σ H x v vl vu lo hi sl Q I rx hs pl pu h
 obtain⟨a,xs,rfl,hx,hw,q⟩:=h
 cases rx
 obtain⟨its,r,ht,hz⟩:=I.tuple hx
 have hlen:its.toArray.size=xs.length:=by rw[WD];exact r.length.symm
 refine⟨"tuple",_,PyProof.Rows.slot_tuple_getitem.lookup,ht.typeIs,?_⟩
 refine HT.oH ht hs pl pu (by rw[hlen];exact hw) ?_ (by rw[hlen];exact hz)
 rw[hlen]
 refine⟨.ref s.heap.objs.size,_,I.laid (t':=s.toks) (o:=.tup (AV xs lo hi)) (λb ob q=>Wy _ q) (WH _) ?_,rfl,q _ (I.hok.fresh (WH _))⟩
 exact⟨Xa (rg xs lo hi) hz,_,(r.drop (HT.ff xs.length 0 lo)).take (HT.ff xs.length xs.length hi - HT.ff xs.length 0 lo),IsTupN.new _ _⟩
def rCatT(K:FA):R2:=λx y H Q=>∃ a b xs ys,x=.ref a/\y=.ref b/\mj K H a xs/\mj K H b ys/\xs≠[]/\xs.length+ys.length<=ww /\
 (ys=[]->Q (.ref a) H)/\(ys≠[]->∀ p,H p=Y->Q (.ref p) (upd H p (.tup (xs++ys))))
theorem Vals.nil_iff(r:Vals xs us):us=[]↔xs=[]:=by
 cases r with
 | nil=>simp
 | cons _ _=>simp
theorem Os:OpR X (Ec .Add) (rCatT X.K):=by
 intro pins s σ H x y v u Q I rx ry h
 obtain⟨a,b,xs,ys,rfl,rfl,ha,hb,hx,hz,q1,q2⟩:=h
 cases rx
 cases ry
 obtain⟨its,r1,p1,_⟩:=I.tuple ha
 obtain⟨its2,r2,p2,_⟩:=I.tuple hb
 refine HT.QF p1 p2 (λz=>hx (r1.nil_iff.mp z)) (λz=>⟨.ref a,H,I,rfl,q1 (r2.nil_iff.mp z)⟩) (λz=>?_) (by rw[<- r1.length,<- r2.length];exact hz)
 refine⟨.ref s.heap.objs.size,_,I.laid (t':=s.toks) (o:=.tup (xs++ys)) (λb ob q=>Wy _ q) (WH _) ?_,rfl,q2 (λw=>z (r2.nil_iff.mpr w)) _ (I.hok.fresh (WH _))⟩
 exact⟨by rw[Xf];exact hz,_,r1.append r2,IsTupN.new _ _⟩
end
def Gf(n:Nat)(i:Int):Option Nat:=if 0<=i then(if i<n then U i.toNat else Y) else if -(n:Int)<=i then U (i+n).toNat else Y
def mD{α:Type}(xs:List α)(i:Int):Option α:=(Gf xs.length i).bind λj=>xs[j]?
theorem EI{j:Nat}(h:Gf n i=U j):seqIndex? i n=U j/\j<n/\-(n:Int)<=i/\i<n:=by
 unfold Gf at h
 by_cases h0:0<=i
 ·rw[WN h0] at h
  by_cases h1:i<n
  ·rw[WN h1] at h
   have e:i.toNat=j:=Xp h
   exact⟨by rw[abl h0 h1,e],by omega,by omega,h1⟩
  ·rw[WX h1] at h;cases h
 ·rw[WX h0] at h
  by_cases h1:-(n:Int)<=i
  ·rw[WN h1] at h
   have e:(i+n).toNat=j:=Xp h
   exact⟨by rw[aaY (by omega) h1,e],by omega,h1,by omega⟩
  ·rw[WX h1] at h;cases h
theorem yD{α:Type}{xs:List α}{i:Int}{v:α}(h:mD xs i=U v):∃ j,seqIndex? i xs.length=U j/\xs[j]?=U v/\j<xs.length/\-(xs.length:Int)<=i/\i<xs.length:=by
 unfold mD at h
 cases e:Gf xs.length i with
 | none=>rw[e] at h;cases h
 | some j=>
  rw[e] at h
  obtain⟨h1,h2,h3,h4⟩:=EI e
  exact⟨j,h1,h,h2,h3,h4⟩
def yG(b:pc):Prop:=∀ o i,subscripted b false o i=operate [o,i] (getItem o i)
def IxR(X:Cx)(r:R2):Prop:=
 ∀ (value slice:pc) (pins:List (gV×Obj)) (s:gw) (σ:St) (H:Hp) (x y:V) (v u:dn) (Q:VK),Inv X pins σ H s->RelV x v->RelV y u->r x y H Q ->
  subscripted slice false v u=operate [v,u] (getItem v u)->Ew (model X.prog X.w) X.A (subscriptTail value slice v u) (EP X pins σ Q) X.xe s
def MtR(X:Cx)(id:String)(r:V->List V->Hp->VK->Prop):Prop:=
 ∀ (pins:List (gV×Obj)) (s:gw) (σ:St) (H:Hp) (x:V) (xs:List V) (v:dn) (us:List dn) (Q:VK),Inv X pins σ H s->RelV x v->Vals xs us->r x xs H Q ->
  Ew (model X.prog X.w) X.A (call (.builtin id) (v::us)) (EP X pins σ Q) X.xe s
section
variable{X:Cx}{a b:pc}{ta tb:TE}{pos:Pos}
theorem IxR.or(h:IxR X r)(h':IxR X r'):IxR X (λx y H Q=>r x y H Q\/r' x y H Q):=by
 intro value slice pins s σ H x y v u Q I rx ry q hs
 rcases q with q | q
 ·exact h value slice pins s σ H x y v u Q I rx ry q hs
 ·exact h' value slice pins s σ H x y v u Q I rx ry q hs
theorem Ro(hr:IxR X r)(ha:PE X a ta)(hb:PE X b tb)(hs:yG b):PE X (.Subscript a b pos) (tOp r ta tb):=by
 intro pins s σ H Q I h
 exact aaG (Wi ha hb I h λv u s2 x y H2 I2 rx ry q=>hr a b pins s2 σ H2 x y v u Q I2 rx ry q (hs _ _))
def rIxL(K:FA):R2:=λx y H Q=>∃ p xs i v,x=.ref p/\y=.int i/\kK K H p xs/\mD xs i=U v/\Q v H
def rIxT(K:FA):R2:=λx y H Q=>∃ p xs i v,x=.ref p/\y=.int i/\mj K H p xs/\mD xs i=U v/\Q v H
def rIxS:R2:=λx y H Q=>∃ z i c,x=.str z/\y=.int i/\z.length<=ww/\mD z.cps.toList i=U c/\Q (.str ⟨#[c]⟩) H
theorem ix_list:IxR X (rIxL X.K):=by
 intro value slice pins s σ H x y v u Q I rx ry h hs
 obtain⟨p,xs,i,z,rfl,rfl,hq,he,q⟩:=h
 cases rx
 obtain⟨t,rfl⟩:=ry
 obtain⟨its,r,pl,hz⟩:=I.list hq
 obtain⟨j,h1,h2,h3,h4,h5⟩:=yD he
 obtain⟨w,ew,rw'⟩:=r.get h2
 have hl:=r.length
 have hn:=nj
 have fin:EP X pins σ Q w s:=⟨z,H,I,rw',q⟩
 by_cases h0:0<=i
 ·have hj:i.toNat=j:=by
   rw[abl h0 h5] at h1
   exact Xp h1
  exact item_listR pl.isList h0 (by omega) (by rw[hj];simpa using ew) fin hs
 ·have hj:(i+(its.toArray.size:Int)).toNat=j:=by
   rw[aaY (by omega) h4] at h1
   rw[WD,<- hl]
   exact Xp h1
  exact aaV (x:=w) pl.isList.typeIs slot_list_getitem.lookup
   (wpAny_getItem_list_neg (Q:=λr s'=>r=w/\EP X pins σ Q r s') pl.isList (by omega) (by rw[WD]<;>omega) (by omega) (by rw[hj];simpa using ew) ⟨rfl,fin⟩) hs
theorem Vd:IxR X (rIxT X.K):=by
 intro value slice pins s σ H x y v u Q I rx ry h hs
 obtain⟨p,xs,i,z,rfl,rfl,hq,he,q⟩:=h
 cases rx
 obtain⟨t,rfl⟩:=ry
 obtain⟨its,r,pl,hz⟩:=I.tuple hq
 obtain⟨j,h1,h2,h3,h4,h5⟩:=yD he
 obtain⟨w,ew,rw'⟩:=r.get h2
 have hl:=r.length
 have hn:=nj
 have fin:EP X pins σ Q w s:=⟨z,H,I,rw',q⟩
 exact aaV (x:=w) pl.typeIs slot_tuple_getitem.lookup
  (getItem_tuple (j:=j) (Q:=λr s'=>r=w/\EP X pins σ Q r s') pl (by omega) (by omega) (by rw[WD,<- hl];exact h1) (by simpa using ew) ⟨rfl,fin⟩) hs
theorem ix_str:IxR X rIxS:=by
 intro value slice pins s σ H x y v u Q I rx ry h hs
 obtain⟨z,i,c,rfl,rfl,hz,he,q⟩:=h
 obtain⟨t,rfl⟩:=rx
 obtain⟨t',rfl⟩:=ry
 obtain⟨j,h1,h2,h3,h4,h5⟩:=yD he
 have hl:z.cps.toList.length=z.length:=by simp[Str.length]
 rw[hl] at h1 h4 h5
 have hn:=nj
 exact aaK (YU s z t) slot_str_getitem.lookup (getItem_str (c:=c) (by
  have e1:decide (i < -(2^63:Int))=false:=Xo (by omega)
  have e2:decide (i≥2^63)=false:=Xo (by omega)
  rw[e1,e2,aaR]) (by rw[h1];simpa using h2) ⟨.str ⟨#[c]⟩,H,I.tok _,⟨_,rfl⟩,q⟩) hs
theorem Cb(its:List dn)(n j:Nat)(u:dn):Obj.mapSeq (·.setIfInBounds j u) { cls:=.type "list",data:=.seq its.toArray n } = { cls:=.type "list",data:=.seq (its.set j u).toArray n }:=by
 simp[Obj.mapSeq]
theorem Inv.lst{s:gw}(I:Inv X pins σ H s)(h:H p=U (.lst xs)) :
  ∃ (its:List dn) (n:Nat),Vals xs its/\s.heap.get? p=U { cls:=.type "list",data:=.seq its.toArray n }/\xs.length<=ww:=by
 obtain⟨z,its,n,r,e⟩:=I.hok p _ h
 exact⟨its,n,r,e,z⟩
theorem Inv.lstUpd{s:gw}{its its':List dn}{f:Obj->Obj}(I:Inv X pins σ H s)(h:H p=U (.lst xs))
  (ho:s.heap.get? p=U { cls:=.type "list",data:=.seq its.toArray n }) (hf:f { cls:=.type "list",data:=.seq its.toArray n } = { cls:=.type "list",data:=.seq its'.toArray n' }) (r:Vals ys its') (hz:ys.length<=ww) (t:Nat) :
  Inv X pins σ (upd H p (.lst ys)) { s with heap:=s.heap.update p f,toks:=t }:=by
 have e:(s.heap.update p f).get? p=U { cls:=.type "list",data:=.seq its'.toArray n' }:=by
  rw[Xh f ho (by rw[hf]<;>rfl),hf]
 refine I.write (x:=p) (e:=p) (by rw[h];trivial) (.inl rfl) (λb u hb q=>(WT _ _ (Ne.symm hb)).trans q) ⟨_,e⟩ ?_
 exact⟨hz,its',n',r,e⟩
def rSetL:V->V->V->Hp->(Hp->Prop)->Prop:=λo i v H Q=>∃ p xs k j,o=.ref p/\i=.int k/\H p=U (.lst xs)/\Gf xs.length k=U j/\Q (upd H p (.lst (xs.set j v)))
theorem Ip:Ws X rSetL:=by
 intro pins s σ H o i v ov iv u Q I ro ri rv h
 obtain⟨p,xs,k,j,rfl,rfl,hp,hj,q⟩:=h
 cases ro
 obtain⟨t,rfl⟩:=ri
 obtain⟨its,n,r,ho,hz⟩:=I.lst hp
 obtain⟨h1,h2,h3,h4⟩:=EI hj
 have hl:=r.length
 have hn:=nj
 have I':Inv X pins σ (upd H p (.lst (xs.set j v))) { s with heap:=s.heap.update p (Obj.mapSeq (·.setIfInBounds j u)) }:=
  I.lstUpd hp ho (Cb its n j u) (r.set rv j) (by rw[List.length_set];exact hz) s.toks
 by_cases h0:0<=k
 ·have hk:k.toNat=j:=by
   rw[abl h0 h4] at h1
   exact Xp h1
  exact W.ki_setAt ho h0 (by omega) (by rw[WD,<- hl];exact h4) (by rw[hk];exact⟨_,I',q⟩)
 ·have hk:(k+(its.toArray.size:Int)).toNat=j:=by
   rw[aaY (by omega) h3] at h1
   rw[WD,<- hl]
   exact Xp h1
  exact W.ki_setBack ho (by omega) (by rw[WD,<- hl];exact h3) (by omega) (by rw[hk];exact⟨_,I',q⟩)
theorem xq(lo hi:Option Int)(n:Nat):(sliceBounds lo hi Y n).1=((HT.ff n 0 lo:Nat):Int)/\(sliceBounds lo hi Y n).2.1=((HT.ff n n hi:Nat):Int)/\(sliceBounds lo hi Y n).2.2=1:=by
 refine⟨?_,?_,rfl⟩
 ·cases lo with
  | none=>simp[sliceBounds,HT.ff]
  | some i=>
   simp only[sliceBounds,HT.ff,Option.getD_none,show(1:Int)>0 by decide,Yq]
   by_cases h:i<0
   ·simp only[h,Yq]<;>omega
   ·simp only[h,Xx]<;>omega
 ·cases hi with
  | none=>simp[sliceBounds,HT.ff]
  | some i=>
   simp only[sliceBounds,HT.ff,Option.getD_none,show(1:Int)>0 by decide,Yq]
   by_cases h:i<0
   ·simp only[h,Yq]<;>omega
   ·simp only[h,Xx]<;>omega
theorem uF(its:List dn)(lo hi:Option Int):slicePick its.toArray lo hi Y=((its.drop (HT.ff its.length 0 lo)).take (HT.ff its.length its.length hi - HT.ff its.length 0 lo)).toArray:=by
 obtain⟨h1,h2,h3⟩:=xq lo hi its.toArray.size
 unfold slicePick
 rw[h1,h2,h3]
 simp only[sliceRange_one,pick_run,WD]<;>rfl
def rSlL(K:FA):V->Option Int->Option Int->Hp->VK->Prop:=λx lo hi H Q=>∃ a xs,x=.ref a/\kK K H a xs/\∀ p,H p=Y->Q (.ref p) (upd H p (.lst (AV xs lo hi)))
theorem Nw:SlR X (rSlL X.K):=by
 intro pins s σ H x v vl vu lo hi sl Q I rx hs pl pu h
 obtain⟨a,xs,rfl,hx,q⟩:=h
 cases rx
 obtain⟨its,r,ht,hz⟩:=I.list hx
 have hlen:=r.length
 refine⟨"list",_,slot_list_getitem.lookup,ht.isList.typeIs,?_⟩
 refine aaE ht.isList hs pl pu .none (by simp) ?_ (by rw[WD]<;>omega)
 rw[uF,<- hlen]
 refine⟨.ref s.heap.objs.size,_,I.laid (t':=s.toks) (o:=.lst (AV xs lo hi)) (λb ob q=>Wy _ q) (WH _) ?_,rfl,q _ (I.hok.fresh (WH _))⟩
 exact⟨Xa (rg xs lo hi) hz,_,0,(r.drop (HT.ff xs.length 0 lo)).take (HT.ff xs.length xs.length hi - HT.ff xs.length 0 lo),WL _ rfl⟩
theorem call_len_seq:CallR X (.builtin "len") (λxs H Q=>∃ p ys,xs=[.ref p]/\(kK X.K H p ys\/mj X.K H p ys)/\Q (.int ys.length) H):=by
 intro pins s σ H xs us Q I r h
 obtain⟨p,ys,rfl,hq,q⟩:=h
 obtain⟨u,rfl,rx⟩:=gm r
 cases rx
 have hn:=nj
 rcases hq with hq | hq
 ·obtain⟨its,r',pl,hz⟩:=I.list hq
  have hlen:=r'.length
  exact Calls.call_len_list pl.isList (by simp only[WD]<;>omega) ⟨.int ys.length,H,I.tok _,⟨s.toks+1,by rw[WD,hlen]⟩,q⟩
 ·obtain⟨its,r',pl,hz⟩:=I.tuple hq
  have hlen:=r'.length
  exact len_tuple pl (by simp only[WD]<;>omega) ⟨.int ys.length,H,I.tok _,⟨s.toks+1,by rw[WD,hlen]⟩,q⟩
theorem yB:CallR X (.builtin "len") (λxs H Q=>∃ z,xs=[.str z]/\z.length<=ww/\Q (.int z.length) H):=by
 intro pins s σ H xs us Q I r h
 obtain⟨z,rfl,hz,q⟩:=h
 obtain⟨u,rfl,t,rfl⟩:=gm r
 have hn:=nj
 exact len_str (by omega) ⟨.int z.length,H,I.tok _,⟨_,rfl⟩,q⟩
theorem CallR.or(h:CallR X f r)(h':CallR X f r'):CallR X f (λxs H Q=>r xs H Q\/r' xs H Q):=by
 intro pins s σ H xs us Q I rs q
 rcases q with q | q
 ·exact h pins s σ H xs us Q I rs q
 ·exact h' pins s σ H xs us Q I rs q
theorem pd:CallR X (.type "list") (λxs H Q=>∃ p ys,xs=[.ref p]/\(kK X.K H p ys\/mj X.K H p ys)/\∀ l,H l=Y->Q (.ref l) (upd H l (.lst ys))):=by
 intro pins s σ H xs us Q I r h
 obtain⟨p,ys,rfl,hq,q⟩:=h
 obtain⟨u,rfl,rx⟩:=gm r
 cases rx
 have fin:∀ (its:List dn),Vals ys its->ys.length<=ww->∀ (h':wo) (c':Nat),(∀ b o',s.heap.get? b=U o'->h'.get? b=U o') ->
   h'.get? s.heap.objs.size=U { cls:=.type "list",dict:=Y,data:=.seq its.toArray c',slots:=#[] }->EP X pins σ Q (.ref s.heap.objs.size) { s with heap:=h' }:=λits r' hz h' c' kp e=>
  ⟨.ref s.heap.objs.size,_,I.laid (t':=s.toks) kp (WH _) (show ObjOk X.prog X.w _ h' _ (.lst ys) from ⟨hz,its,c',r',e⟩),rfl,q _ (I.hok.fresh (WH _))⟩
 rcases hq with hq | hq
 ·obtain⟨its,r',pl,hz⟩:=I.list hq
  have hlen:=r'.length
  obtain⟨o,ho,hc,n,hd⟩:=pl.isList
  exact call_list_seq p (.inl rfl) ho hc hd (λh' c' kp e=>fin its r' hz h' c' kp e) (by simp only[WD]<;>omega)
 ·obtain⟨its,r',pl,hz⟩:=I.tuple hq
  have hlen:=r'.length
  obtain⟨o,ho,hc,n,hd⟩:=pl
  exact call_list_seq p (.inr rfl) ho hc hd (λh' c' kp e=>fin its r' hz h' c' kp e) (by simp only[WD]<;>omega)
theorem vc:CallR X (.type "tuple") (λxs H Q=>∃ p ys,xs=[.ref p]/\((kK X.K H p ys/\∀ l,H l=Y->Q (.ref l) (upd H l (.tup ys)))\/(mj X.K H p ys/\Q (.ref p) H))):=by
 intro pins s σ H xs us Q I r h
 obtain⟨p,ys,rfl,h⟩:=h
 obtain⟨u,rfl,rx⟩:=gm r
 cases rx
 rcases h with ⟨hq,q⟩ | ⟨hq,q⟩
 ·obtain⟨its,r',pl,hz⟩:=I.list hq
  have hlen:=r'.length
  refine call_tuple_list pl.isList (λh' kp=>?_) (by simp only[WD]<;>omega)
  have I1:Inv X pins σ H { s with heap:=h' }:=I.kept (t':=s.toks) kp
  have I2:Inv X pins σ (upd H h'.objs.size (.tup ys)) { s with heap:=h'.push { cls:=.type "tuple",data:=.seq its.toArray } }:=
   I1.laid (t':=s.toks) (λb o e=>Wy _ e) (WH _) (show ObjOk X.prog X.w _ _ _ (.tup ys) from ⟨hz,its,r',IsTupN.new _ _⟩)
  exact⟨.ref h'.objs.size,_,I2,rfl,q _ (I1.hok.fresh (WH _))⟩
 ·obtain⟨its,r',pl,hz⟩:=I.tuple hq
  exact call_tuple_same pl ⟨.ref p,H,I,rfl,q⟩
def tyV(K:FA)(T:String)(x:V)(H:Hp):Prop:=match x with
 | .str _=>T = "str"
 | .int _=>T = "int"
 | .ref p=>(T = "list"/\∃ xs,kK K H p xs)\/(T = "tuple"/\∃ o,K.lookup p=U o/\o.cls=.type "tuple"/\o.dict=Y) \/
   (T = "dict"/\((∃ kvs,H p=U (.dK kvs))\/∃ kvs,H p=U (.dT kvs)))\/(T = "set"/\∃ S n,H p=U (.set S n))
 | _=>False
theorem HM{s:gw}(I:Inv X pins σ H s)(r:RelV x v)(ty:tyV X.K T x H) :
  s.TypeIs v T/\∀ a,v=.ref a->∃ ob,s.heap.get? a=U ob/\ob.dict=Y:=by
 cases x with
 | str z=>
  obtain⟨t,rfl⟩:=r
  cases(show T = "str" from ty)
  exact⟨YU s z t,λ_ e=>nomatch e⟩
 | int i=>
  obtain⟨t,rfl⟩:=r
  cases(show T = "int" from ty)
  exact⟨ZX s i t,λ_ e=>nomatch e⟩
 | ref p=>
  cases r
  rcases ty with ⟨rfl,xs,hq⟩ | ⟨rfl,o,hk,hc,hd⟩ | ⟨rfl,hk⟩ | ⟨rfl,S,n,hk⟩
  ·obtain⟨its,_,pl,_⟩:=I.list hq
   refine⟨pl.isList.typeIs,λa e=>?_⟩
   cases e
   obtain⟨o,n,e,c,hd,_⟩:=pl
   exact⟨o,e,hd⟩
  ·refine⟨⟨o,I.kIn p o hk,hc⟩,λa e=>?_⟩
   cases e
   exact⟨o,I.kIn _ o hk,hd⟩
  ·have z:∃ o,s.heap.get? p=U o/\o.ExactDict:=by
    rcases hk with ⟨kvs,hk⟩ | ⟨kvs,hk⟩
    ·obtain⟨_,_,_,_,o,_,_,e,ex,_⟩:=I.hok p _ hk
     exact⟨o,e,ex⟩
    ·obtain⟨_,_,_,_,o,_,_,e,ex,_⟩:=I.hok p _ hk
     exact⟨o,e,ex⟩
   obtain⟨o,e,ex⟩:=z
   refine⟨⟨o,e,ex.1⟩,λa e2=>?_⟩
   cases e2
   exact⟨o,e,ex.2.1⟩
  ·obtain⟨o,_,_,_,e,ex,_⟩:=I.hok p _ hk
   refine⟨⟨o,e,ex.1⟩,λa e2=>?_⟩
   cases e2
   exact⟨o,e,ex.2.1⟩
 | _=>exact False.elim ty
def tBM0(K:FA)(T:String)(r:V->List V->Hp->VK->Prop)(to:TE):TE:=λσ H Q=>to σ H λx H1=>tyV K T x H1/\r x [] H1 Q
def tBM(K:FA)(T:String)(r:V->List V->Hp->VK->Prop)(to:TE)(t:TA):TE:=λσ H Q=>to σ H λx H1=>tyV K T x H1/\t σ H1 λxs H2=>r x xs H2 Q
variable{o e:pc}{es:List pc}{to:TE}{t:TA}{name:Str}{apos cpos:Pos}{T id:String}{r:V->List V->Hp->VK->Prop}
theorem Tz(pa:PlainAttrs T)(slot:Slot T name id)(hty:typeOf (.builtin id)=pure (.type "method_descriptor"))(hm:MtR X id r)(ho:PE X o to)
  (hbase:attributeBase o name X.env (eval o X.env)=eval o X.env:=by rfl) (hline:(apos.endLine==cpos.line)=true:=by rfl):PE X (.Call (.Attribute o name apos) [] [] cpos) (tBM0 X.K T r to):=by
 intro pins s σ H Q I h
 refine wpAny_Call_method0_late hbase hline (cz (ho pins s σ H _ I h) λv s1 ⟨x,H1,I1,r1,ty,q1⟩=>?_)
 obtain⟨h1,h2⟩:=HM I1 r1 ty
 exact⟨T,id,pa,slot,hty,h1,h2,Zp rfl (PySem.evalArgs_none (hm pins s1 σ H1 x [] v [] Q I1 r1 .nil q1))⟩
theorem DD(pa:PlainAttrs T)(slot:Slot T name id)(hty:typeOf (.builtin id)=pure (.type "method_descriptor"))(hm:MtR X id r)(ho:PE X o to)(ha:PA X (e::es) t)
  (hbase:attributeBase o name X.env (eval o X.env)=eval o X.env:=by rfl)
  (hfew:((backTo cpos (zH (e::es) X.env)).all (λx=>!x.1)&&(backToKw cpos (keywordEach [] X.env)).all (λx=>x.1.isSome)
  &&decide ((e::es).length+([]:List Keyword).length+(if ([]:List Keyword).isEmpty then 0 else 1)<30))=true:=by rfl)
  (hline:(apos.endLine==cpos.line)=true:=by rfl) (hs:zH (e::es) X.env=(false,eval e X.env)::zH es X.env:=by rfl) (hplain:(backTo cpos (zH es X.env)).any (·.1)=false:=by rfl) :
  PE X (.Call (.Attribute o name apos) (e::es) [] cpos) (tBM X.K T r to t):=by
 intro pins s σ H Q I h
 refine aaU hbase hfew hline rfl (cz (ho pins s σ H _ I h) λv s1 ⟨x,H1,I1,r1,ty,q1⟩=>?_)
 obtain⟨h1,h2⟩:=HM I1 r1 ty
 refine⟨T,id,pa,slot,hty,h1,h2,?_⟩
 have hA:=ha cpos pins s1 σ H1 _ I1 q1
 rw[hs] at hA ⊢
 refine Zp (by show(false||(backTo cpos (zH es X.env)).any (·.1))=false;rw[hplain]<;>rfl) (ZA ?_)
 exact cz hA λus s2 ⟨vs,H2,I2,r2,q2⟩=>hm pins s2 σ H2 x vs v us Q I2 r1 r2 q2
end
def MtM(X:Cx)(id:String)(r:V->List V->Hp->VK->Prop):Prop:=
 ∀ (pins:List (gV×Obj)) (s:gw) (σ:St) (H:Hp) (x:V) (xs:List V) (v:dn) (us:List dn) (Q:VK),Inv X pins σ H s->RelV x v->Vals xs us->r x xs H Q ->
  Ew (model X.prog X.w) X.A (call (.builtin id) (v::us)) (EP X pins σ Q) X.xe s
theorem Vals.one:∀ {x:V} {us:List dn},Vals [x] us->∃ u,us=[u]/\RelV x u:=by
 intro x us h;cases h with | cons r t=>cases t;exact⟨_,rfl,r⟩
theorem Vals.two:∀ {x y:V} {us:List dn},Vals [x,y] us->∃ u v,us=[u,v]/\RelV x u/\RelV y v:=by
 intro x y us h;cases h with | cons r t=>cases t with | cons q t=>cases t;exact⟨_,_,rfl,r,q⟩
theorem Vals.reverse(h:Vals xs us):Vals xs.reverse us.reverse:=by
 induction h with
 | nil=>exact .nil
 | cons r t ih=>rw[YM,YM];exact Vals.append ih (.cons r .nil)
theorem Vals.rep(h:Vals xs us):∀ k:Nat,Vals (Ga k xs).flatten (Ga k us).flatten
 | 0=>.nil
 | k+1=>by
  rw[Xm,Xm,XO,XO]
  exact Vals.append h (Vals.rep h k)
theorem wz(its:List dn):∀ (k:Nat) (acc:List dn),
  List.foldl (λx1 x2=>x1++x2) acc.toArray (Ga k its.toArray)=(acc++(Ga k its).flatten).toArray
 | 0,acc=>by simp
 | k+1,acc=>by
  have e:acc.toArray++its.toArray=(acc++its).toArray:=by simp
  have e2:(acc++its)++(Ga k its).flatten=acc++(Ga (k+1) its).flatten:=by
   rw[Xm,XO,XQ]
  rw[<- e2,<- wz its k (acc++its),<- e,Xm,Yg]
section
variable{X:Cx}{pins:List (gV×Obj)}{σ:St}{H:Hp}{s:gw}{l b:gV}{xs ys zs:List V}
theorem Inv.lset{its its':List dn}{f:Array dn->Array dn}{t':Nat}(I:Inv X pins σ H s)(hH:H l=U (.lst xs))
  (e:s.heap.get? l=U { cls:=.type "list",data:=.seq its.toArray n }) (hf:f its.toArray=its'.toArray) (hv:Vals ys its') (hz:ys.length<=ww) :
  Inv X pins σ (upd H l (.lst ys)) { s with heap:=s.heap.update l (Obj.mapSeq f),toks:=t' }:=by
 have q:=PySem.IsL.update e f
 rw[hf] at q
 refine I.write (x:=l) (e:=l) (by rw[hH];exact trivial) (.inl rfl) (λb' u hb hu=>(WT s.heap (Obj.mapSeq f) (Ne.symm hb)).trans hu) ⟨_,q⟩ ?_
 exact⟨hz,its',_,hv,q⟩
theorem Inv.lnew{t':Nat}(I:Inv X pins σ H s)(hv:Vals ys its)(hz:ys.length<=ww) :
  Inv X pins σ (upd H s.heap.objs.size (.lst ys)) { s with heap:=s.heap.push { cls:=.type "list",data:=.seq its.toArray },toks:=t' }:=
 I.laid (λ_ _ q=>Wy _ q) (WH _) ⟨hz,its,0,hv,WL _ rfl⟩
theorem Inv.fresh(I:Inv X pins σ H s):H s.heap.objs.size=Y:=I.hok.fresh (WH _)
theorem Inv.lstM(I:Inv X pins σ H s)(hH:H l=U (.lst xs)):xs.length<=ww/\∃ (its:List dn) (n:Nat),Vals xs its/\xs.length=its.length/\s.heap.get? l=U { cls:=.type "list",data:=.seq its.toArray n }:=by
 obtain⟨z,its,n,r,e⟩:=I.hok l _ hH
 exact⟨z,its,n,r,r.length,e⟩
theorem zv{n:Nat}(h:n<=ww):Builtin.List.listTooLong n=false:=by
 unfold Builtin.List.listTooLong
 exact Xo (by omega)
end
section
variable{X:Cx}
def NI:V->List V->Hp->VK->Prop:=λx vs H Q=>∃ l xs y,x=.ref l/\vs=[y]/\H l=U (.lst xs)/\xs.length<ww/\Q .non (upd H l (.lst (xs++[y])))
theorem vK:MtM X "list.append" NI:=by
 intro pins s σ H x vs v us Q I rx rv h
 obtain⟨l,xs,y,rfl,rfl,hH,hz,q⟩:=h
 cases rx
 obtain⟨u,rfl,ru⟩:=rv.one
 obtain⟨z,its,n,r,hl,e⟩:=I.lstM hH
 refine Yb abv ⟨_,e,rfl⟩ F.entry_list_append (F.args_list_append_2 _ _) (PySem.list_append l its.toArray n u (by rw[WD];omega)) ⟨e,?_⟩
 refine⟨.non,_,I.lset (its':=its++[u]) hH e (by simp) (r.append (.cons ru .nil)) ?_,rfl,q⟩
 rw[Xf,YN]
 omega
def rCat:R2:=λx y H Q=>∃ l b xs zs,x=.ref l/\y=.ref b/\H l=U (.lst xs)/\H b=U (.lst zs)/\xs.length+zs.length<=ww/\∀ p,H p=Y->Q (.ref p) (upd H p (.lst (xs++zs)))
theorem Jf:OpR X (Ec .Add) rCat:=by
 intro pins s σ H x y v u Q I rx ry h
 obtain⟨l,b,xs,zs,rfl,rfl,hH,hB,hz,q⟩:=h
 cases rx
 cases ry
 obtain⟨z,its,n,r,hl,e⟩:=I.lstM hH
 obtain⟨z2,its2,n2,r2,hl2,e2⟩:=I.lstM hB
 refine PySem.P.add_list e e2 ?_ (by rw[WD,WD];omega)
 have ea:its.toArray++its2.toArray=(its++its2).toArray:=by simp
 rw[ea]
 exact⟨.ref _,_,I.lnew (t':=s.toks) (r.append r2) (by rw[Xf];omega),rfl,q _ I.fresh⟩
def rRep:R2:=λx y H Q=>∃ l k xs,x=.ref l/\y=.int k/\H l=U (.lst xs)/\-(2^63)<=k/\k<2^63/\xs.length*k.toNat<=ww /\
 ∀ p,H p=Y->Q (.ref p) (upd H p (.lst (Ga k.toNat xs).flatten))
theorem yc{α:Type}(xs:List α)(k:Nat):(Ga k xs).flatten.length=k*xs.length:=by
 induction k with
 | zero=>simp
 | succ k ih=>rw[Xm,XO,Xf,ih,Zr,Nat.add_comm]
theorem TK:OpR X (Ec .Mult) rRep:=by
 intro pins s σ H x y v u Q I rx ry h
 obtain⟨l,k,xs,rfl,rfl,hH,h1,h2,hz,q⟩:=h
 cases rx
 obtain⟨t,rfl⟩:=ry
 obtain⟨z,its,n,r,hl,e⟩:=I.lstM hH
 have hlen:its.toArray.size*k.toNat<=ww:=by rw[WD,<- hl];exact hz
 have hcap:¬ its.toArray.size*k.toNat>(2^63 - 1) / 8:=by
  have:(ww:Nat)<=(2^63 - 1) / 8:=by decide
  omega
 have hfit:¬ (!Builtin.List.listFitsIndex k)=true:=by
  rw[fitsIndex_both h1 h2]
  exact WJ
 have hlong:¬ Builtin.List.listTooLong (its.toArray.size*k.toNat)=true:=by
  rw[zv hlen]
  exact WJ
 have hnew:List.foldl (λx1 x2=>x1++x2) #[] (Ga (if its.toArray.isEmpty=true then 0 else k.toNat) its.toArray)=(Ga k.toNat its).flatten.toArray:=by
  have f0:∀ m:Nat,List.foldl (λx1 x2=>x1++x2) #[] (Ga m its.toArray)=(Ga m its).flatten.toArray:=λm=>by
   have:=wz its m []
   rw[Za] at this
   exact this
  rw[f0]
  cases its with
  | nil=>simp
  | cons a r'=>rw[WX (by simp)]
 refine aaz (T:="list") (U:="int") (by decide) ⟨_,e,rfl⟩ (λs'=>ZX s' k t) noFill_list_mul F.fills_int_mul Zx repeat_list F.slot_int_index.lookup
  (Yb Zx (ZX s k t) F.entry_int_rmul (F.args_int_rmul_2 _ _) (int___rmul___int_list k t l its.toArray n)
   ⟨e,rfl,⟨_,e,rfl⟩,Yb F.slot_list_mul ⟨_,e,rfl⟩ F.entry_list_mul (F.args_list_mul_2 _ _) (AutoListH.list___mul___list_int_3 l its.toArray n k t hfit hcap hlong) ⟨e,?_⟩⟩)
 rw[hnew]
 exact⟨.ref _,_,I.lnew (t':=s.toks) (r.rep k.toNat) (by rw[yc,aae];exact hz),rfl,q _ I.fresh⟩
end
section
variable{κ:Type}[DecidableEq κ]
def sA(kvs:List (κ×V))(k:κ):Option V:=(kvs.find? λkv=>decide (kv.1=k)).map (·.2)
def kW(kvs:List (κ×V))(k:κ)(v:V):List (κ×V):=
 if (kvs.any λkv=>decide (kv.1=k))=true then kvs.map (λkv=>if kv.1=k then(kv.1,v) else kv) else kvs++[(k,v)]
theorem yR{p:κ×V}{r:List (κ×V)}{k:κ}(e:p.1=k):sA (p::r) k=U p.2:=by simp[sA,Zu,e]
theorem sy{p:κ×V}{r:List (κ×V)}{k:κ}(e:¬ p.1=k):sA (p::r) k=sA r k:=by simp[sA,Zu,e]
theorem lq(kvs:List (κ×V))(k:κ)(v:V):(kW kvs k v).length<=kvs.length+1:=by
 unfold kW
 split
 ·rw[WI];omega
 ·rw[Xf,WF,XG];omega
theorem RelO.getD{d:V}(r:RelO o u)(rd:RelV d d'):RelV (o.getD d) (u.getD d'):=by
 cases o with
 | none=>cases u with
  | none=>exact rd
  | some _=>exact(show False from r).elim
 | some _=>cases u with
  | none=>exact(show False from r).elim
  | some _=>exact r
theorem KV.val(r:KV kvs vs)(k:κ):RelO (sA kvs k) (valueAt vs k):=by
 unfold KV at r
 induction r with
 | nil=>exact True.intro
 | @cons p q ps qs h t ih=>
  obtain⟨h1,h2⟩:=h
  by_cases e:p.1=k
  ·have e':q.1=k:=h1.symm.trans e
   have b:valueAt (q::qs) k=U q.2:=by simp[valueAt,Zu,e']
   rw[yR e,b];exact h2
  ·have e':¬ q.1=k:=λz=>e (h1.trans z)
   have b:valueAt (q::qs) k=valueAt qs k:=by simp[valueAt,Zu,e']
   rw[sy e,b];exact ih
theorem KV.any(r:KV kvs vs)(k:κ):(kvs.any λkv=>decide (kv.1=k))=vs.any λkv=>decide (kv.1=k):=by
 unfold KV at r
 induction r with
 | nil=>rfl
 | cons h t ih=>rw[Yz,Yz,ih,h.1]
theorem KV.repl(r:KV kvs vs)(k:κ)(ry:RelV y u) :
  KV (kvs.map λkv=>if kv.1=k then(kv.1,y) else kv) (vs.map λkv=>if kv.1=k then(kv.1,u) else kv):=by
 unfold KV at r ⊢
 induction r with
 | nil=>exact .nil
 | @cons p q ps qs h t ih=>
  rw[WO,WO]
  refine .cons ?_ ih
  obtain⟨h1,h2⟩:=h
  by_cases e:p.1=k
  ·rw[WN e,WN (h1.symm.trans e)];exact⟨h1,ry⟩
  ·rw[WX e,WX (λz=>e (h1.trans z))];exact⟨h1,h2⟩
theorem KV.put(r:KV kvs vs)(k:κ)(ry:RelV y u):KV (kW kvs k y) (stored vs k u):=by
 unfold kW stored
 rw[r.any k]
 by_cases e:(vs.any λkv=>decide (kv.1=k))=true
 ·rw[WN e,WN e];exact r.repl k ry
 ·rw[WX e,WX e];exact Paired.snoc r ⟨rfl,ry⟩
theorem KV.length{kvs:List (κ×V)}{vs:List (κ×dn)}(r:KV kvs vs):kvs.length=vs.length:=aaM r
end
theorem we{k:bD}(r:RelV (kV k) u):(fh P w).is k u=true:=by
 cases k with
 | inl i=>obtain⟨t,e⟩:=(show ∃ t,u=Value.int i t from r);subst e;exact zB P w i t
 | inr x=>obtain⟨t,e⟩:=(show ∃ t,u=Value.str x t from r);subst e;exact zA P w x t
section
variable{P:pr}{w:sv}{H:Hp}{h:wo}{a:gV}
theorem Rk(ok:HOk P w H h)(e:Rd H a u):ObjOk P w H h a u:=e.ok ok
theorem wJ(ok:HOk P w H h)(e:Rd H a (.dK kvs)):kvs.length<=ww/\(a==sysModules)=false/\∃ vs,KV kvs vs/\h.DictOf (fh P w) a vs:=
 show ObjOk P w H h a (.dK kvs) from Rk ok e
theorem LQ(ok:HOk P w H h)(e:H a=U (.dK kvs)):kvs.length<=ww/\(a==sysModules)=false/\∃ vs,KV kvs vs/\h.DictOf (fh P w) a vs:=wJ ok (.inl e)
end
def DGet(H:Hp)(a:gV)(y:V)(r:Option V):Prop:=
 ∃ kvs k,Rd H a (.dK kvs)/\y=kV k/\r=sA kvs k
def DPut(H:Hp)(a:gV)(y v:V)(H':Hp):Prop:=
 ∃ kvs k,H a=U (.dK kvs)/\y=kV k/\kvs.length<ww/\H'=upd H a (.dK (kW kvs k v))
theorem DGet.k{H:Hp}{k:bD}(e:H a=U (.dK kvs)):DGet H a (kV k) (sA kvs k):=⟨kvs,k,.inl e,rfl,rfl⟩
theorem DPut.k{H:Hp}{k:bD}(e:H a=U (.dK kvs))(hl:kvs.length<ww):DPut H a (kV k) v (upd H a (.dK (kW kvs k v))):=⟨kvs,k,e,rfl,hl,rfl⟩
section
variable{X:Cx}{pins:List (gV×Obj)}{σ:St}{H:Hp}{s:gw}{a:gV}{y v:V}{u r:dn}{o:Option V}{A:tx}{E:dn->gw->Prop}
theorem Inv.big(I:Inv X pins σ H s):sysModules<s.heap.objs.size:=by
 have h:Cn<s.heap.objs.size:=(I.mod.glob.keeps I.bk).lt
 exact Nat.lt_trans (by decide) h
theorem GU{Q:dn->gw->Prop}(hu:A.units+1<cLine)(I:Inv X pins σ H s)(g:DGet H a y (U v))(ry:RelV y u)(h:∀ w' s',Inv X pins σ H s'->RelV v w'->Q w' s') :
  Ew (model X.prog X.w) A (getItem (.ref a) u) Q E s:=by
 obtain⟨kvs,k,e,ey,l⟩:=g
 ·subst ey
  obtain⟨z,hd,vs,rel,dd⟩:=wJ I.hok e
  obtain⟨w',hw,rw'⟩:=RelO.some_of (v:=v) (o:=valueAt vs k) (by rw[l];exact rel.val k)
  exact wpAny_getItem_of (we ry) dd.mapOf hw (h w' _ (I.tok _) rw')
theorem yx{t':Nat}{ob:HO}(I:Inv X pins σ H s)(mu:Mut (H a))(hs:Heap.SameBut a s.heap h')(he:∃ q,h'.get? a=U q)(new:ObjOk X.prog X.w (upd H a ob) h' a ob) :
  Inv X pins σ (upd H a ob) { s with heap:=h',toks:=t' }:=
 I.write (x:=a) (e:=a) mu (.inl rfl) (λb q hb z=>(hs.2 b hb).trans z) he new
theorem CV{h':wo}{kvs:List (bD×V)}(z:kvs.length<=ww)(hd:(a==sysModules)=false)(rel:KV kvs vs)(dd:h'.DictOf (fh P w) a vs) :
  ObjOk P w H' h' a (.dK kvs):=⟨z,hd,vs,rel,dd⟩
theorem GT{Q:Unit->gw->Prop}(hu:A.units+1<cLine)(I:Inv X pins σ H s)(g:DPut H a y v H')(ry:RelV y u)(rv:RelV v r)(h:∀ s',Inv X pins σ H' s'->Q () s') :
  Ew (model X.prog X.w) A (setItem (.ref a) u r) Q E s:=by
 obtain⟨kvs,k,e,ey,l,eH⟩:=g
 ·subst ey eH
  obtain⟨z,hd,vs,rel,dd⟩:=LQ I.hok e
  have hz:vs.length<=ww:=by rw[<- rel.length];exact z
  have hl:(kW kvs k v).length<=ww:=by have:=lq kvs k v;omega
  refine wpAny_setItem_pairs (hsz:=hz) (we ry) dd λh' dd' hs=>h _ ?_
  have he:∃ q,h'.get? a=U q:=let ⟨q,_,_,hq,_⟩:=dd';⟨q,hq⟩
  exact yx I (by rw[e];exact True.intro) hs he (CV hl hd (rel.put k rv) dd')
end
theorem AT{s:gw}(I:Inv X pins σ H s)(g:DGet H a y o):s.TypeIs (.ref a) "dict":=by
 obtain⟨kvs,k,e,_,_⟩:=g
 ·obtain⟨_,_,vs,_,dd⟩:=wJ I.hok e
  exact dd.typeIs
theorem ur(h:wo)(hb:sysModules<h.objs.size):ObjOk P w H (h.push { cls:=.type "dict",data:=.dict #[] }) h.objs.size (.dK []):=
 ⟨YZ _,Yh.mpr (Ne.symm (WZ hb)),[],.nil,Heap.DictOf.new h⟩
def Sx:TE:=λ_ H Q=>∀ p,H p=Y->Q (.ref p) (upd H p (.dK []))
section
variable{X:Cx}{pos:Pos}
theorem zp:PE X (.Dict [] [] pos) Sx:=λpins s σ H Q I h=>
 wpAny_Dict_empty ⟨.ref s.heap.objs.size,_,I.laid (a:=s.heap.objs.size) (o:=.dK []) (t':=s.toks) (λ_ _ q=>Wy _ q) (WH _) (ur s.heap I.big),rfl,h _ (I.hok.fresh (WH _))⟩
end
def xj:List (TE×TE)->St->Hp->(List (V×V)->Hp->Prop)->Prop
 | [],_,H,Q=>Q [] H
 | (tk,tv)::r,σ,H,Q=>tk σ H λx H1=>tv σ H1 λy H2=>xj r σ H2 λps H3=>Q ((x,y)::ps) H3
noncomputable abbrev VV:List (V×V)->List (dn×dn)->Prop:=Paired λp q=>RelV p.1 q.1/\RelV p.2 q.2
def PPs(X:Cx)(pos:Pos)(keys:List (Option pc))(values:List pc)(trs:List (TE×TE)):Prop:=
 ∀ (pins:List (gV×Obj)) (s:gw) (σ:St) (H:Hp) (Q:List (V×V)->Hp->Prop),Inv X pins σ H s->xj trs σ H Q ->
  Ew (model X.prog X.w) X.A (evalPairs (pairTrees keys values X.env pos)) (λvs s'=>∃ ps H',Inv X pins σ H' s'/\VV ps vs/\Q ps H') X.xe s
theorem NT:PPs X pos [] [] []:=λpins s σ H Q I h=>pairTrees_nil_walk ⟨[],H,I,.nil,h⟩
theorem IS{k:pc}{tk:TE}(hk:PE X k tk)(hv:PE X v tv)(hr:PPs X pos ks vs trs) :
  PPs X pos (U k::ks) (v::vs) ((tk,tv)::trs):=λpins s σ H Q I h=>
 pairTrees_cons_walk (cz (hk pins s σ H _ I h) λu s1 ⟨x,H1,I1,rx,q1⟩=>cz (hv pins s1 σ H1 _ I1 q1) λw2 s2 ⟨y,H2,I2,ry,q2⟩=>
  cz (hr pins s2 σ H2 _ I2 q2) λws s3 ⟨ps,H3,I3,rel,q3⟩=>⟨(x,y)::ps,H3,I3,.cons ⟨rx,ry⟩ rel,q3⟩)
def kZ(kvs more:List (bD×V)):List (bD×V):=more.foldl (λacc kv=>kW acc kv.1 kv.2) kvs
theorem KV.merge:∀ {more:List (bD×V)} {rs:List (bD×dn)} {kvs:List (bD×V)} {vs:List (bD×dn)},KV more rs->KV kvs vs->KV (kZ kvs more) (merged vs rs):=by
 intro more rs kvs vs r
 unfold KV at r
 induction r generalizing kvs vs with
 | nil=>intro q;exact q
 | @cons p q ps qs h t ih=>
  intro r0
  have e:KV (kW kvs p.1 p.2) (stored vs q.1 q.2):=by
   have:=r0.put p.1 h.2
   rw[<- h.1];exact this
  exact ih e
theorem mO:∀ (more kvs:List (bD×V)),(kZ kvs more).length<=kvs.length+more.length
 | [],kvs=>by show kvs.length<=kvs.length+0;omega
 | p::r,kvs=>by
  have h1:=mO r (kW kvs p.1 p.2)
  have h2:=lq kvs p.1 p.2
  show(kZ (kW kvs p.1 p.2) r).length<=_
  rw[WF];omega
theorem uy:∀ {kvs:List (bD×V)} {ws:List (dn×dn)},VV (kvs.map λkv=>(kV kv.1,kv.2)) ws->∃ rs,Carries (fh P w) ws rs/\KV kvs rs
 | [],_,r=>by rw[Zt] at r;cases r;exact⟨[],True.intro,.nil⟩
 | p::kvs,_,r=>by
  rw[WO] at r
  cases r with
  | @cons a b as bs h t=>
   obtain⟨rs,c,q⟩:=uy (P:=P) (w:=w) t
   obtain⟨b1,b2⟩:=b
   exact⟨(p.1,b2)::rs,⟨we h.1,rfl,c⟩,.cons ⟨rfl,h.2⟩ q⟩
def tDisp(trs:List (TE×TE)):TE:=λσ H Q=>∀ p,H p=Y->xj trs σ (upd H p (.dK [])) λps H2=>H2 p=U (.dK [])/\∃ kvs:List (bD×V),ps=kvs.map (λkv=>(kV kv.1,kv.2))/\kvs.length<=15/\Q (.ref p) (upd H2 p (.dK (kZ [] kvs)))
theorem DB{keys:List (Option pc)}(h:PPs X pos keys values trs)(hall:keys.all (·.isSome)=true)(hl:keys.length=values.length)(h0:keys≠[])
  (h15:keys.length<=15):PE X (.Dict keys values pos) (tDisp trs):=by
 intro pins s σ H Q I q
 have hn:=I.hok.fresh (WH s.heap.objs.size)
 have I1:=I.laid (a:=s.heap.objs.size) (o:=.dK []) (h':=s.heap.push { cls:=.type "dict",data:=.dict #[] }) (t':=s.toks) (λ_ _ q=>Wy _ q) (WH _) (ur s.heap I.big)
 refine wpAny_Dict_walk (knd:=fh X.prog X.w) hall hl h0 h15 (cz (h pins _ σ _ _ I1 (q _ hn)) λws s2 ⟨ps,H2,I2,rel,e,kvs,ep,lk,q2⟩=>?_)
 subst ep
 obtain⟨rs,c,rk⟩:=uy (P:=X.prog) (w:=X.w) rel
 obtain⟨z,hd,vs0,r0,dd⟩:=LQ I2.hok e
 cases r0
 refine⟨rs,c,dd,λh' dd' hs=>⟨.ref s.heap.objs.size,_,?_,rfl,q2⟩⟩
 have hz:(kZ [] kvs).length<=ww:=by
  have h1:=mO kvs []
  rw[XG] at h1
  rw[ZC];omega
 have he:∃ q,h'.get? s.heap.objs.size=U q:=let ⟨q,_,_,hq,_⟩:=dd';⟨q,hq⟩
 exact yx I2 (by rw[e];exact True.intro) hs he (CV hz hd (rk.merge .nil) dd')
def IsD(H:Hp)(a:gV):Prop:=(∃ kvs,Rd H a (.dK kvs))\/∃ kvs,Rd H a (.dT kvs)
theorem Vg{s:gw}(I:Inv X pins σ H s)(d:IsD H a) :
  s.TypeIs (.ref a) "dict"/\(∀ b,Value.ref a=.ref b->∃ ob,s.heap.get? b=U ob/\ob.dict=Y)/\(a==sysModules)=false:=by
 rcases d with ⟨kvs,e⟩ | ⟨kvs,e⟩
 ·obtain⟨_,hd,vs,_,dd⟩:=wJ I.hok e
  refine⟨dd.typeIs,λb q=>?_,hd⟩
  cases q
  obtain⟨ob,_,_,h1,h2,_⟩:=dd
  exact⟨ob,h1,h2.2.1⟩
 ·obtain⟨_,hd,xs,_,ob,es,ep,h1,h2,_⟩:=(show ObjOk X.prog X.w H s.heap a (.dT kvs) from Rk I.hok e)
  refine⟨⟨ob,h1,h2.1⟩,λb q=>?_,hd⟩
  cases q
  exact⟨ob,h1,h2.2.1⟩
section
variable{X:Cx}{pins:List (gV×Obj)}{σ:St}{H:Hp}{s:gw}{a:gV}{y d:V}{u r:dn}{o:Option V}{A:tx}{E:dn->gw->Prop}
theorem Wc{Q:dn->gw->Prop}(hu:A.units+1<cLine)(I:Inv X pins σ H s)(g:DGet H a y o)(ry:RelV y u)(h:∀ w' s',Inv X pins σ H s'->RelV (o.getD .non) w'->Q w' s') :
  Ew (model X.prog X.w) A (call (.builtin "dict.get") [.ref a,u]) Q E s:=by
 obtain⟨kvs,k,e,ey,l⟩:=g
 ·subst ey
  obtain⟨z,hd,vs,rel,dd⟩:=wJ I.hok e
  refine call_meetsIn aaw dd.typeIs F.entry_dict_get (F.args_dict_get_2 _ _) (meets_dict_get (fh X.prog X.w) a (we ry) hd) ⟨_,dd.mapOf,h _ _ (I.tok _) ?_⟩
  rw[l]
  exact(rel.val k).getD rfl
theorem Wb{Q:dn->gw->Prop}(hu:A.units+1<cLine)(I:Inv X pins σ H s)(g:DGet H a y o)(ry:RelV y u)(rd:RelV d r)(h:∀ w' s',Inv X pins σ H s'->RelV (o.getD d) w'->Q w' s') :
  Ew (model X.prog X.w) A (call (.builtin "dict.get") [.ref a,u,r]) Q E s:=by
 obtain⟨kvs,k,e,ey,l⟩:=g
 ·subst ey
  obtain⟨z,hd,vs,rel,dd⟩:=wJ I.hok e
  refine call_meetsIn aaw dd.typeIs F.entry_dict_get (F.args_dict_get_3 _ _ _) (meets_dict_get_default (fh X.prog X.w) a (we ry) hd r) ⟨_,dd.mapOf,h _ _ (I.tok _) ?_⟩
  rw[l]
  exact(rel.val k).getD rd
end
end L2
namespace Att
open PySem.W PySem.Calls
theorem rN:∀ (ns:List Int) (vs:List dn),WellAll P h vs (ns.map WData.int)->IntsAre vs ns:=by
 intro ns
 induction ns with
 | nil=>
  intro vs w
  rw[Zt] at w
  cases w
  exact .nil
 | cons n ns ih=>
  intro vs w
  rw[WO] at w
  cases w with
  | cons a b=>
   cases a
   exact .cons _ _ (ih _ b)
theorem Fx{l:OpenLaw}{n:Nat}(hn:l.most=U n)
  (hpre:l.row.toRowW.claim.pre args=true) (hwl:WellAll P h vals args) :
  ∃ a vs ns,vals=[Value.ref a]/\args=[WData.list (ns.map WData.int)]/\h.get? a=U { cls:=.type "list",data:=.seq vs.toArray }/\IntsAre vs ns/\ns.length<=n:=by
 have hsh:WShape.hasAll [] args [.list .int]=true:=(pre_splitW hpre).1
 have hc:l.pre.holds [] { args:=args } = true:=(pre_splitW hpre).2
 obtain⟨d,r,rfl,h1,h2⟩:=hasAllW_cons hsh
 obtain rfl:=hasAllW_nil h2
 obtain⟨xs,rfl,h3⟩:=hasW_list h1
 obtain⟨ns,rfl⟩:=items_int h3
 have hlen:ns.length<=n:=by
  unfold OpenLaw.pre at hc
  have h4:(WTm.not (.lt (.lit (.int (n:Int))) (.len (.arg 0)))).holds [] { args:=[.list (ns.map .int)] } = true:=by
   have h4:=(holds_andW hc).1
   rw[hn] at h4
   exact h4
  have h5:=condW_of h4 (w_not (w_lt w_lit (w_len_list (w_arg rfl))))
  rw[WI] at h5
  refine Nat.le_of_not_lt λq=>?_
  have q':(n:Int)<((ns.length:Nat):Int):=by omega
  first
   | (rw[Xk q'] at h5;exact absurd h5 (by decide))
   | (simp at h5;omega)
 cases hwl with
 | cons w1 w2=>
  cases w2
  cases w1 with
  | list ho hall=>exact⟨_,_,ns,rfl,rfl,ho,rN ns _ hall,hlen⟩
theorem FG(l:OpenLaw)(args:List WData):l.row.toRowW.claim.post args (.bool true) args=true:=
 postW_of (r:=l.row.toRowW) (X:=(true==true))
  (show WShape.has [] (.bool true) .bool=true by first | rfl | decide | simp[WShape.has,WShape.arms,WShape.armsAll])
  (show(WTm.eq .res (.lit (.bool true))).value [] { args:=args,res:=U (.bool true),after:=args } = U (.bool (true==true)) from w_eq_bool (w_res rfl) w_lit) rfl
theorem Be{l:OpenLaw}{n:Nat}{YP:sv->wo->Prop}{d:DefRec}
  (hn:l.most=U n) (hdf:d.params.defaults=[])
  (call:∀ (w:sv) (s₀ s₁:gw) (mg mb:Str->Option dn) (fa:gV) (o:Obj) (pm cd doc:dn) (a:gV) (vs:List dn) (ns:List Int),
   Ground q loose [] XP w s₀ mg mb s₁.heap->YP w s₁.heap ->
   s₁.heap.get? fa=U o->o.data=.func (docDef d.name d.params d.body d.scope pm cd doc)->s₁.heap.CodeRec cd d.name->mg d.name=U (.ref fa) ->
   s₁.heap.get? a=U { cls:=.type "list",data:=.seq vs.toArray }->IntsAre vs ns->ns.length<=n->s₁.gens = #[] ->
   codeAny (model l.prog w) callerA (.call (.ref fa) ⟨[.ref a],[]⟩) (λr s'=>r=.ok (.ret (.bool true))/\OldK s₁.heap s'.heap/\s'.os=s₁.os/\AllBare s'.gens) s₁) :
  WalkO q loose XP YP l.row.toRowW d [] (λf vs=>PySem.call f vs):=by
 intro w s₀ s₁ mg mb G Y0 fa o pm cd doc dV kV ho hd hcd hD hmg hg args vals as hpre hlay hrd hwl hlo
 obtain rfl:dV=.none:=Dflts.none hD hdf
 obtain rfl:kV=.none:=Dflts.noKw hD
 obtain⟨a,vs,ns,rfl,rfl,hobj,hints,hlen⟩:=Fx hn hpre hwl
 refine enter_call (XH (call w s₀ s₁ mg mb fa o pm cd doc a vs ns G Y0 ho (fd_plain hd) hcd hmg hobj hints hlen hg) λr s' hq=>?_)
 obtain⟨rfl,h2,h3,h4⟩:=hq
 exact⟨.inl ⟨.bool true,.bool true,[],rfl,λ_=>rfl,.bool true,FG l _,λ_=>⟨List.Pairwise.nil,λ_ hm=>(nomatch hm)⟩⟩,h2,h3,h4⟩
end Att
namespace L2
theorem vh:∀ {vs:List dn} {ns:List Int},IntsAre vs ns->Vals (ns.map V.int) vs
 | _,_,.nil=>.nil
 | _,_,.cons n t h=>.cons ⟨t,rfl⟩ (vh h)
def Wt(H:Hp):Prop:=∀ b,H b=Y\/∃ o xs,H b=U (.frz o (.lst xs))
theorem JQ{K:FA}{mb:Str->Option dn}{k:Nat}{x:Str}{s₁:gw}{vs:List dn}
  (KX:K.In s₁.heap) (hns:s₁.heap.Ns Cn mg) (hb:s₁.heap.Ns builtinsNs mb) (hbb:∀ x:Str,x≠"__name__"->mb x=bootBuiltins x) (hlim:s₁.heap.NoLimit) (hg:s₁.gens = #[])
  (ha:s₁.heap.get? a=U { cls:=.type "list",data:=.seq vs.toArray }) (hi:IntsAre vs ns) (hl:ns.length<=ww) (hr:Room k callerA)
  (F:∀ base:wo,K.In base->base.Ns Cn mg->FnOk P w K mg base CX k fa fd [x] sp) (hbind:∀ (s:gw) (u:dn),BindsTo s fd ⟨[u],[]⟩ [(x,u)])
  (hsp:∀ H:Hp,Wt H->kK K H a (ns.map V.int)->sp [.ref a] H (λv _=>v=.bl true) λ_ _ _=>False)
  (hCX:∀ H e s',CX [] H s₁ (λ_ _ _=>False) e s'->False) :
  codeAny (model P w) callerA (.call (.ref fa) ⟨[.ref a],[]⟩) (λr s'=>r=.ok (.ret (.bool true))/\OldK s₁.heap s'.heap/\s'.os=s₁.os/\AllBare s'.gens) s₁:=by
 have rv:=vh hi
 have lenV:=hi.length
 have core:∀ H:Hp,Wt H->kK K H a (ns.map V.int)->HOk P w H s₁.heap->(∀ b,H b≠Y->b=a)->(H a≠Y->K.lookup a=Y) ->
   codeAny (model P w) callerA (.call (.ref fa) ⟨[.ref a],[]⟩) (λr s'=>r=.ok (.ret (.bool true))/\OldK s₁.heap s'.heap/\s'.os=s₁.os/\AllBare s'.gens) s₁:=by
  intro H hO hS hok hA hK
  have base_of:∀ {b:gV} {o:Obj},s₁.heap.get? b=U o->H b=Y->(yl s₁.heap H).get? b=U o:=λe n=>Kv e n
  have noA:∀ {b:gV} {o:Obj} {es:Array DictEntry} {ep:Nat},s₁.heap.get? b=U o->o.data=.dict es ep->H b=Y:=λ{b o es ep} e d=>by
   cases q:H b with
   | none=>rfl
   | some u=>
    have e':b=a:=hA b (by rw[q];simp)
    subst e'
    rw[ha] at e;cases e
    have d':Data.seq vs.toArray _=Data.dict es ep:=d
    cases d'
  have nsK:∀ {b:gV} {m:Str->Option dn},s₁.heap.Ns b m->(yl s₁.heap H).Ns b m:=λ{b m} ⟨o,es,ep,e,d,r⟩=>⟨o,es,ep,base_of e (noA e d),d,r⟩
  have hKb:K.In (yl s₁.heap H):=λb o e=>base_of (KX b o e) (by
   cases q:H b with
   | none=>rfl
   | some u=>
    have e':b=a:=hA b (by rw[q];simp)
    subst e'
    rw[hK (by rw[q];simp)] at e;cases e)
  have hM:Mod K mg (yl s₁.heap H):=⟨hKb,nsK hns,⟨mb,nsK hb,hbb⟩,let ⟨mc,h1,h2⟩:=hlim;⟨mc,nsK h1,h2⟩⟩
  have e0:Env0 P w K mg (yl s₁.heap H) callerA [] s₁ H:=⟨rfl,hM,λb o e=>OA e,aaf (Gi _ _),trivial,λb hb=>absurd (show b∈([]:List gV) from hb) (by simp),hok,.of_eq hg⟩
  refine XH ((F _ hKb (nsK hns)).run callerA [] s₁ H ⟨[.ref a],[]⟩ [.ref a] [.ref a] _ _ hr e0 (hbind s₁ (.ref a)) (.cons rfl .nil) (hsp H hO hS)) λr s' h=>?_
  cases r with
  | error e=>exact(hCX H e s' h).elim
  | ok fl=>
   cases fl with
   | next=>exact False.elim h
   | brk=>exact False.elim h
   | cont=>exact False.elim h
   | ret u=>
    obtain⟨v,H',os,bare,un,hok',r',q⟩:=h
    have q':v=.bl true:=q
    subst q'
    obtain rfl:u=Value.bool true:=r'
    refine⟨rfl,OldK.of_keep λb o e=>?_,os,bare⟩
    cases q:H b with
    | none=>exact un.keep b o e q (by intro z;exact absurd (show b∈([]:List gV) from z) (by simp)) (by simp)
    | some u=>
     rcases hO b with z | ⟨ob,xs,z⟩
     ·rw[q] at z;cases z
     ·have z2:=un.frzs b ob _ z
      obtain⟨e1,_⟩:=hok b _ z
      obtain⟨e2,_⟩:=hok' b _ z2
      rw[e] at e1;cases e1
      exact e2
 cases hk:K.lookup a with
 | some o=>
  have e:=KX a o hk
  rw[ha] at e
  cases e
  refine core (λ_=>Y) (λ_=>.inl rfl) (.inr ⟨_,vs.toArray,_,hk,rfl,rfl,rfl,by rw[WD,lenV];exact hl,by simpa using rv⟩) (λb u z=>by have z':(Y:Option HO)=U u:=z;cases z') (λb z=>absurd rfl z) λz=>absurd rfl z
 | none=>
  refine core (λb=>if b=a then U (.frz { cls:=.type "list",data:=.seq vs.toArray } (.lst (ns.map V.int))) else Y) (λb=>?_) (.inl (.inr ⟨{ cls:=.type "list",data:=.seq vs.toArray },WN rfl⟩)) (λb u z=>?_) (λb z=>?_) λ_=>hk
  ·by_cases hb:b=a
   ·exact .inr ⟨_,_,WN hb⟩
   ·exact .inl (WX hb)
  ·by_cases hb:b=a
   ·have z':=(WN hb).symm.trans z
    cases z'
    subst hb
    exact⟨ha,by rw[WI];exact hl,vs,_,rv,ha⟩
   ·have z':=(WX hb).symm.trans z
    cases z'
  ·by_cases hb:b=a
   ·exact hb
   ·exact absurd (WX hb) z
theorem Nd{l:W.OpenLaw}{n k:Nat}{YP:sv->wo->Prop}{d:DefRec}{K:Params->FA}{CX:sv->Hv}{sp:sv->Sp}{x:Str}
  (hn:l.most=U n) (hn2:n<=ww) (hdf:d.params.defaults=[]) (hr:Room k callerA)
  (hY:∀ (w:sv) (h:wo),YP w h->(K w.params).In h)
  (F:∀ (w:sv) (mg:Str->Option dn) (fa:gV) (h:wo),(K w.params).In h->h.Ns Cn mg->mg d.name=U (.ref fa) ->
   ∃ fd:FuncData,(∀ (s:gw) (u:dn),BindsTo s fd ⟨[u],[]⟩ [(x,u)]) /\
    ∀ base:wo,(K w.params).In base->base.Ns Cn mg->FnOk l.prog w (K w.params) mg base (CX w) k fa fd [x] (sp w))
  (hsp:∀ (w:sv) (H:Hp) (a:gV) (ns:List Int),ns.length<=n->Wt H->kK (K w.params) H a (ns.map V.int)->sp w [.ref a] H (λv _=>v=.bl true) λ_ _ _=>False)
  (hCX:∀ (w:sv) (H:Hp) (s:gw) (e:dn) (s':gw),CX w [] H s (λ_ _ _=>False) e s'->False) :
  W.WalkO q loose XP YP l.row.toRowW d [] (λf vs=>PySem.call f vs):=by
 refine Att.Be hn hdf λw s₀ s₁ mg mb fa o pm cd doc a vs ns G Y0 ho hd hcd hmg hobj hints hlen hg=>?_
 have KX:=hY w _ Y0
 obtain⟨fd,hb,hF⟩:=F w mg fa _ KX G.T.g hmg
 exact JQ KX G.T.g G.T.b G.T.builtins G.T.nolimit hg hobj hints (Xa hlen hn2) hr hF hb (λH hO hS=>hsp w H a ns hlen hO hS) λH e s'=>hCX w H s₁ e s'
def fL(s:tu):Arguments:=match s with
 | .FunctionDef _ a _ _ _ _ _ _ _ _=>a
 | _=>{ posonlyargs:=[],args:=[],vararg:=Y,kwonlyargs:=[],kw_defaults:=[],kwarg:=Y,defaults:=[] }
def aE(s:tu):List tu:=match s with
 | .FunctionDef _ _ b _ _ _ _ _ _ _=>b
 | _=>[]
def ar(s:tu):Scope:=match s with
 | .FunctionDef _ _ _ _ _ _ sc _ _ _=>sc
 | _=>{ kind:=.function,names:=[],isGenerator:=false,isCoroutine:=false }
noncomputable abbrev Bn:Hv:=λ_ _ _ _ _ _=>False
noncomputable abbrev E0:XK:=λ_ _ _=>False
theorem Rq:yH Bn X E0:=λ_ _ _ _ _ _ _ h=>h.elim
structure Fun(K:FA)(x qual:Str)(st:tu)(f:gV)(fd:FuncData):Prop where
 ex:∃ (oc:dn) (od:Option gV) (kV doc pm:dn) (an:Option gV) (cdv ct:dn) (osl:Array (Option dn)),
  fd=W.fnOf x qual (fL st) (aE st) (ar st) .none kV doc pm an cdv ct/\K.lookup f=U ⟨oc,od,.func fd,osl⟩/\W.codeIn K cdv qual=true
 kp:W.keepIn K (.ref f)=true
section
variable{P:pr}{w:sv}{K:FA}{mg:Str->Option dn}{base:wo}
theorem Fun.ok{st:tu}{k:Nat}{sp:Sp}(F:Fun K x qual st f fd)(S:aN N ps (ar st))(len:∀ vs H Q E,sp vs H Q E->vs.length=ps.length)
  (hbody:∀ (cdv:dn) (A:tx) (outer:List Env) (s:gw) (H:Hp) (vs:List V) (Q:VK) (E:XK),Room k (A.deeper (envOfC qual (ar st) s.heap.objs.size f cdv))->sp vs H Q E ->
   ∃ t,PSs (rQ Bn P w K mg base N qual (ar st) f cdv A outer s H E).nox (aE st) t/\t { nx:=λ_ H'=>Q .non H',rt:=Q } (start N vs) H):FnOk P w K mg base Bn (k+1) f fd ps sp:=by
 obtain⟨oc,od,kV,doc,pm,an,cdv,ct,osl,rfl,lk,hcd⟩:=F.ex
 refine KB lk hcd S len λA outer s H vs Q E hr hsp=>?_
 obtain⟨t,h,q⟩:=hbody cdv A outer s H vs Q E hr hsp
 exact⟨t,h.nox,q⟩
theorem Fun.binds{st:tu}{ps:List Str}(F:Fun K x qual st f fd)
  (h:∀ (kV doc pm:dn) (an:Option gV) (cdv ct:dn) (us:List dn),us.length=ps.length->bindArgs (W.fnOf x qual (fL st) (aE st) (ar st) .none kV doc pm an cdv ct) ⟨us,[]⟩=pure (ps.zip us)):Binds K fd ps []:=by
 obtain⟨oc,od,kV,doc,pm,an,cdv,ct,osl,rfl,lk,hcd⟩:=F.ex
 exact .all (h kV doc pm an cdv ct)
theorem Vl{st:tu}{oc:dn}{od:Option gV}{osl:Array (Option dn)}{kV:dn}(l:K.lookup f=U ⟨oc,od,.func (W.fnOf x qual (fL st) (aE st) (ar st) .none kV doc pm an cdv ct),osl⟩)
  (c:W.codeIn K cdv qual=true) (k:W.keepIn K (.ref f)=true):Fun K x qual st f (W.fnOf x qual (fL st) (aE st) (ar st) .none kV doc pm an cdv ct):=⟨⟨oc,od,kV,doc,pm,an,cdv,ct,osl,rfl,l,c⟩,k⟩
end
section
variable{X:Cx}
theorem pv(i:Nat){x:Str}(hN:X.N[i]?=U x:=by rfl)(hv:QQ X.env.scope x:=by first | exact Or.inl rfl | exact Or.inr (Or.inl rfl) | exact Or.inr (Or.inr rfl))(hd:(x==("__debug__":Str))=false:=by decide)
  (hcd:(x==("__classdict__":Str))=false:=by decide):PE X (.Name x pos) (tVar i):=BN hN hv hd hcd
end
def kg(cells:List (Str×gV)):List (Str×NameKind)->List (Str×gV)->List (Str×gV)
 | [],acc=>acc
 | (n,k)::r,acc=>if k==.free then kg cells r ((n,(cells.lookup n).getD 0)::acc) else kg cells r acc
theorem ik{env:Env}:∀ (names:List (Str×NameKind)) (acc:List (Str×gV)),(∀ x∈names,x.2=.free->(env.cells.lookup x.1).isSome=true) ->
  (forIn names acc λ(x:Str×NameKind) (r:List (Str×gV))=>(do
   if x.2==.free then do let c <- cellOf env x.1;pure (ForInStep.yield ((x.1,c)::r)) else pure (ForInStep.yield r):Sem (ForInStep (List (Str×gV)))))=pure (kg env.cells names acc)
 | [],acc,_=>rfl
 | (n,k)::r,acc,h=>by
  rw[Yv]
  cases hk:k==NameKind.free with
  | true=>
   have e:k=.free:=by simpa using hk
   have hs:=h (n,k) WE e
   obtain⟨c,hc⟩:=Yd.mp hs
   have hc':env.cells.lookup n=U c:=hc
   have hce:cellOf env n=pure c:=by unfold cellOf;rw[hc']
   simp only[Yq,hce,hc',Option.getD_some,aaZ,kg,hk]
   rw[ik r _ λx hx=>h x (WB _ hx)]
  | false=>
   simp only[WR,Xx,aaZ,kg,hk]
   exact ik r _ λx hx=>h x (WB _ hx)
theorem jv{scope:Scope}{env:Env}(h:∀ x∈scope.names,x.2=.free->(env.cells.lookup x.1).isSome=true):closureFor scope env=pure (kg env.cells scope.names []):=by
 have q:=ik (env:=env) scope.names [] h
 unfold closureFor
 refine Eq.trans ?_ (Eq.trans (congrArg (λ(m:Sem (List (Str×gV)))=>m >>= λcs=>pure cs) q) ?_)
 ·rfl
 ·rfl
theorem qx(cells:List (Str×gV)):∀ (names:List (Str×NameKind)) (acc:List (Str×gV)),(∀ x∈names,x.2=.free->(cells.lookup x.1).isSome=true)->(∀ y c,acc.lookup y=U c->cells.lookup y=U c) ->
  ∀ y c,(kg cells names acc).lookup y=U c->cells.lookup y=U c
 | [],_,_,ha=>ha
 | (n,k)::r,acc,h,ha=>by
  unfold kg
  split
  ·rename_i hk
   refine qx cells r _ (λx hx=>h x (WB _ hx)) λy c e=>?_
   rw[YR] at e
   split at e
   ·rename_i hy
    have hy':y=n:=by simpa using hy
    subst hy'
    obtain⟨c',hc'⟩:=Yd.mp (h (y,k) WE (by simpa using hk))
    have hc'':cells.lookup y=U c':=hc'
    rw[hc''] at e ⊢
    exact e
   ·exact ha y c e
  ·exact qx cells r _ (λx hx=>h x (WB _ hx)) ha
theorem nw(cells:List (Str×gV)):∀ (names:List (Str×NameKind)) (acc:List (Str×gV)) (y:Str),(acc.lookup y).isSome=true->((kg cells names acc).lookup y).isSome=true
 | [],_,_,h=>h
 | (n,k)::r,acc,y,h=>by
  unfold kg
  split
  ·refine nw cells r _ y ?_
   rw[YR]
   split
   ·rfl
   ·exact h
  ·exact nw cells r _ y h
theorem oZ(cells:List (Str×gV)):∀ (names:List (Str×NameKind)) (acc:List (Str×gV)) (y:Str),(y,NameKind.free)∈names->((kg cells names acc).lookup y).isSome=true
 | [],_,_,h=>by simp at h
 | (n,k)::r,acc,y,h=>by
  unfold kg
  rcases WQ.mp h with e | h
  ·cases e
   rw[WN (by rfl)]
   exact nw cells r _ _ (by rw[YR];simp)
  ·split
   ·exact oZ cells r _ y h
   ·exact oZ cells r _ y h
theorem jQ{scope:Scope}{env:Env}{y:Str}:∀ {names:List (Str×NameKind)},
  ((names.map λ(n,k)=>if (k==NameKind.free&&env.scope.kind==.function&&env.kindOf n==U .cell) then(n,NameKind.cell) else(n,k)).lookup y=U .cell \/
  (names.map λ(n,k)=>if (k==NameKind.free&&env.scope.kind==.function&&env.kindOf n==U .cell) then(n,NameKind.cell) else(n,k)).lookup y=U .free) ->
  (∀ x∈names,x.2≠.cell)->(y,NameKind.free)∈names
 | [],h,_=>by simp at h
 | (n,k)::r,h,hc=>by
  have ih:=@jQ scope env y r
  have hr:∀ x∈r,x.2≠.cell:=λx hx=>hc x (WB _ hx)
  rw[WO] at h
  by_cases hq:(k==NameKind.free&&env.scope.kind==.function&&env.kindOf n==U .cell)=true
  ·have hk:k=.free:=by
    have:=hq
    simp only[Wz] at this
    simpa using this.1.1
   simp only[hq,Yq] at h
   simp only[YR] at h
   cases hy:y==n with
   | true=>
    have e:y=n:=by simpa using hy
    rw[e,hk]
    exact WE
   | false=>
    simp only[hy] at h
    exact WB _ (ih h hr)
  ·simp only[hq,WR,Xx] at h
   simp only[YR] at h
   cases hy:y==n with
   | true=>
    simp only[hy] at h
    have e:y=n:=by simpa using hy
    rcases h with h | h
    ·exact absurd (Xp h) (hc (n,k) WE)
    ·rw[e,<- Xp h]
     exact WE
   | false=>
    simp only[hy] at h
    exact WB _ (ih h hr)
def iB(X:Cx)(N':List Str)(scope:Scope)(C:gV)(s:gw)(H:Hp)(fp:List gV):Cx:=
 {X with N:=N',s₀:=s,H₀:=H,env:=compEnvC scope (kg X.env.cells scope.names []) C X.env,outer:=X.stack,ex:=fp,fn:=λ_=>false,pn:=[],xe:=λ_ _=>False }
def Hs(X:Cx)(ifs:List pc)(t:TT):Prop:=
 ∀ (pins:List (gV×Obj)) (s:gw) (σ:St) (H:Hp) (Q:Bool->Hp->Prop),Inv X pins σ H s->t σ H Q->Ew (model X.prog X.w) X.A (forIn ifs true λc r=>if r=true then do let ok <- isTrue c X.env (eval c X.env);pure (ForInStep.yield ok) else pure (ForInStep.yield r)) (TP X pins σ Q) X.xe s
theorem NL:Hs X [] (λ_ H Q=>Q true H):=λ_ _ _ H _ I h=>wpAny_tests_nil ⟨H,I,h⟩
theorem NK(h:PT X c t):Hs X [c] t:=λpins s σ H Q I q=>wpAny_tests_one (h pins s σ H Q I q)
def dE(e tg:pc)(p0:Pos)(ifs:List pc)(d:Nat)(it acc:dn)(env:Env)(bc:Sem Unit):Sem Fin:=do
 standAt p0
 let r <- pyNext it
 match r with
 | none=>pure (Fin.done Flow.next)
 | some v=>do
  letOwnedTupleGo tg it v
  assign tg env v
  let ok <- forIn ifs true λc r=>if r=true then do let ok <- isTrue c env (eval c env);pure (ForInStep.yield ok) else pure (ForInStep.yield r)
  if ok=true then do bc;again (.compLoop e d it acc env) else again (.compLoop e d it acc env)
def uq(elt:pc)(acc:dn)(env:Env):Sem Unit:=do
 let x <- eval elt env
 let _ <- call (.builtin "list.append") [acc,x]
 pure ()
section
variable{prog:pr}{w:sv}{A:tx}{R:Result->gw->Prop}{s:gw}
theorem lK{e:pc}{d:Nat}(he:e=.ListComp elt gens scope pos)(htn:compTurn e d it acc env=dE e tg p0 ifs d it acc env bc)(I:Nat->gw->Prop)
  (turn:∀ n s,I n s->Ew (model prog w) A (pyNext it) (λr s₁=>match r with
   | none=>R (.ok .next) s₁
   | some v=>Ew (model prog w) A (letOwnedTupleGo tg it v) (λ_ s₁'=>Ew (model prog w) A (assign tg env v) (λ_ s₂=>
     Ew (model prog w) A (forIn ifs true λc r=>if r=true then do let ok <- isTrue c env (eval c env);pure (ForInStep.yield ok) else pure (ForInStep.yield r)) (λok s₃=>
      if ok=true then Ew (model prog w) A bc (λ_ s₅=>∃ m,m<n/\I m s₅) (λ_ _=>False) s₃
      else ∃ m,m<n/\I m s₃) (λ_ _=>False) s₂) (λ_ _=>False) s₁') (λ_ _=>False) s₁) (λ_ _=>False) s)
  (n:Nat) (h:I n s) :
  codeAny (model prog w) A (.compLoop e d it acc env) R s:=by
 refine codeAny_loop rfl I (λn s hI=>?_) n h
 subst he
 show Ew _ A ((compTurn (.ListComp elt gens scope pos) d it acc env).onRaise (λx=>do noteFrame x env;theTreesLotGoes x)) _ _ s
 refine wpAny_noted ?_
 rw[htn]
 refine Wx (XE (Wx (WV (turn n s hI) (λr s₁ h₁=>?_) λ_ _ h'=>h'.elim)))
 cases r with
 | none=>exact WA h₁
 | some v=>
  refine Wx (WV h₁ (λ_ s₁' h₁'=>?_) λ_ _ h'=>h'.elim)
  refine Wx (WV h₁' (λ_ s₂ h₂=>Wx (WV h₂ (λok s₃ h₃=>?_) λ_ _ h'=>h'.elim)) λ_ _ h'=>h'.elim)
  cases ok with
  | false=>exact WA ⟨rfl,h₃⟩
  | true=>exact Wx (WV h₃ (λ_ s₅ h₅=>WA ⟨rfl,h₅⟩) λ_ _ h'=>h'.elim)
end
noncomputable abbrev TB:=St->Hp->(St->Hp->Prop)->Prop
def PB(X:Cx)(m:Sem Unit)(tb:TB):Prop:=
 ∀ (pins:List (gV×Obj)) (s:gw) (σ:St) (H:Hp) (Q:St->Hp->Prop),Inv X pins σ H s->tb σ H Q->Ew (model X.prog X.w) X.A m (λ_ s'=>∃ σ' H',Inv X pins σ' H' s'/\Q σ' H') X.xe s
def tEm(te:TE)(p:gV):TB:=λσ H Q=>te σ H λy H5=>∃ ys,H5 p=U (.lst ys)/\ys.length<ww/\Q σ (upd H5 p (.lst (ys++[y])))
theorem xG(he:PE X elt te):PB X (uq elt (.ref p) X.env) (tEm te p):=λpins s σ H Q I h=>by
 refine Wx (cz (he pins s σ H _ I h) λxv s8 ⟨y,H8,J8,r8,q8⟩=>?_)
 obtain⟨ys,hy,hz,q9⟩:=q8
 refine Wx (cz (vK _ s8 σ H8 (.ref p) [y] (.ref p) [xv] (λ_ H9=>H9=upd H8 p (.lst (ys++[y]))) J8 rfl (.cons r8 .nil) ⟨_,ys,y,rfl,rfl,hy,hz,rfl⟩) λ_ s9 ⟨_,H9,J9,_,e9⟩=>?_)
 subst e9
 exact WA ⟨_,_,J9,q9⟩
def pE(J:It)(g:TG)(tt:TT)(tb:TB)(σ:St)(H:Hp)(Q:St->Hp->Prop):Prop:=∃ W:Nat->Nat->St->Hp->Prop,(∃ m,W 0 m σ H)/\∀ i m σ' H',W i m σ' H' ->
 (J.stop i H'/\Q σ' H')\/(J.go i H'/\∀ x H2,J.yld i H' x H2->g x σ' H2 λσ2 H3=>tt σ2 H3 λok H4=>
  if ok=true then tb σ2 H4 λσ3 H5=>∃ m',m'<m/\W (i+1) m' σ3 H5 else ∃ m',m'<m/\W (i+1) m' σ2 H4)
theorem wN{X:Cx}{e:pc}{d:Nat}{g:TG}
  (hc:X.calm=true) (hx:∀ e s,X.xe e s->False) (hl:e=.ListComp elt gens scope pos) (htn:compTurn e d (.ref it) acc X.env=dE e tg p0 ifs d (.ref it) acc X.env bc) (hg:PG X tg g) (ht:Hs X ifs tt) (hb:PB X bc tb) (T:Bh X.prog X.w X.K tg J fp it tn) {s:gw} (I:Inv X pins σ H s) (st:tn 0 s.heap) (f2:∀ b∈fp,mF X pins H b) (h:pE J g tt tb σ H Q) :
  codeAny (model X.prog X.w) X.A (.compLoop e d (.ref it) acc X.env) (λr s'=>∃ σ' H',r=.ok .next/\Inv X pins σ' H' s'/\Q σ' H') s:=by
 obtain⟨W,⟨m0,w0⟩,turn⟩:=h
 have no:∀ e s,X.xe e s->(λ(_:dn) (_:gw)=>False) e s:=hx
 have stat:∀ {H':Hp},(∀ b∈fp,H' b=Y)->∀ b∈fp,mF X pins H' b:=λhn b hb=>⟨hn b hb,(f2 b hb).2⟩
 refine lK hl htn (λn s'=>∃ i σ' H',Inv X pins σ' H' s'/\tn i s'.heap/\(∀ b∈fp,H' b=Y)/\W i n σ' H') ?_ m0 ⟨0,_,_,I,st,λb hb=>(f2 b hb).1,w0⟩
 rintro n s3 ⟨i,σ3,H3,J3,st3,fr3,w3⟩
 rcases turn i n σ3 H3 w3 with ⟨stop,qn⟩ | ⟨go,step⟩
 ·refine cz (T.done X rfl rfl rfl hc i pins s3 σ3 H3 _ J3 (stat fr3) st3 stop) λr s4 ⟨hr,J4⟩=>?_
  subst hr
  exact⟨σ3,H3,rfl,J4,qn⟩
 ·refine cz (T.item X rfl rfl rfl hc i pins s3 σ3 H3 _ J3 (stat fr3) st3 go) λr s4 ⟨u,hr,h4⟩=>?_
  subst hr
  refine cz h4 λ_ s5 ⟨x,H5,J5,r5,y5,st5,fr5⟩=>?_
  have J5':=J5.pinned (stat fr5) (T.obj _ _ st5)
  refine WV (hg _ s5 σ3 H5 x u _ J5' r5 (step x H5 y5)) (λ_ s6 ⟨σ6,H6,J6,q6⟩=>?_) no
  refine WV (ht _ s6 σ6 H6 _ J6 q6) (λok s7 ⟨H7,J7,q7⟩=>?_) no
  have again:∀ {s':gw} {σ7:St} {H7:Hp},Inv X (pins++pK fp s5.heap) σ7 H7 s'->(∃ m',m'<n/\W (i+1) m' σ7 H7)->∃ m,m<n/\∃ i σ' H',Inv X pins σ' H' s'/\tn i s'.heap/\(∀ b∈fp,H' b=Y)/\W i m σ' H':=λ{s' σ7 H7} J7 n7=>by
   obtain⟨m',hm,w7⟩:=n7
   refine⟨m',hm,i+1,σ7,H7,J7.unpinned,T.keep _ _ _ st5 λb hb o e=>(J7.pin (b,o) (Xj _ (Xj _ (gJ hb e)))).1,λb hb=>?_,w7⟩
   obtain⟨o,e,d⟩:=T.obj _ _ st5 b hb
   exact(J7.pin (b,o) (Xj _ (Xj _ (gJ hb e)))).2.1
  cases ok with
  | false=>
   rw[WX WJ] at q7 ⊢
   exact again J7 q7
  | true=>
   rw[WN rfl] at q7 ⊢
   exact WV (hb _ s7 σ6 H7 _ J7 q7) (λ_ s9 ⟨σ9,H9,J9,q9⟩=>again J9 q9) no
structure BlockOk(X:Cx)(N':List Str)(scope:Scope)(cap:List (Option Nat)):Prop where
 kind:scope.kind=.function
 nocell:∀ x∈scope.names,x.2≠.cell
 names:∀ x∈scope.names,x.2=.local->scope.names.lookup x.1=U .local
 free:∀ x∈scope.names,x.2=.free->(X.env.kindOf x.1=U .cell\/X.env.kindOf x.1=U .free)
 nd:N'.Nodup
 len:cap.length=N'.length
 cap:∀ (j i:Nat),cap[j]?=U (U i)->∃ y,N'[j]?=U y/\X.N[i]?=U y/\QQ X.env.scope y/\(X.env.kindOf y=U .cell\/X.env.kindOf y=U .free)/\((relabel scope X.env).names.lookup y=U .cell\/(relabel scope X.env).names.lookup y=U .free)
def σB(cap:List (Option Nat))(σ:St):St:=cap.map λo=>o.bind λi=>(σ[i]?).join
section
variable{X:Cx}{pins:List (gV×Obj)}{σ:St}{H:Hp}{s:gw}{N':List Str}{scope:Scope}{cap:List (Option Nat)}{C:gV}{fp:List gV}
theorem BlockOk.cells(B:BlockOk X N' scope cap)(ok:X.Ok):∀ x∈scope.names,x.2=.free->(X.env.cells.lookup x.1).isSome=true:=λx hx hf=>by
 obtain⟨c,e⟩:=ok.has x.1 (B.free x hx hf)
 rw[e];rfl
theorem BlockOk.cl(B:BlockOk X N' scope cap)(ok:X.Ok):∀ y c,(kg X.env.cells scope.names []).lookup y=U c->X.env.cells.lookup y=U c:=
 qx _ _ _ (B.cells ok) λy c e=>by simp at e
theorem Inv.notStk(I:Inv X pins σ H s){b:gV}(h1:b≠X.env.locals)(h2:b∉X.fs):b∉wx X.stack:=λz=>(WQ.mp (I.stkSub b z)).elim h1 h2
theorem Inv.block{h4:wo}{tk:Nat}(I:Inv X pins σ H s)(B:BlockOk X N' scope cap)(hfp:∀ b∈fp,mF X pins H b/\b<s.heap.objs.size)(hC:s.heap.objs.size<=C)
  (hk:∀ b o,s.heap.get? b=U o->h4.get? b=U o) (hn:h4.Ns C m0):Inv (iB X N' scope C s H fp) [] (σB cap σ) H { s with heap:=h4,toks:=tk }:=by
 have okX:=I.ok
 have hcl:=B.cl okX
 have cellC:∀ x c,(kg X.env.cells scope.names []).lookup x=U c->∃ v,s.heap.IsCell c v:=λx c e=>I.cell x c (hcl x c e)
 have neC:∀ b o,s.heap.get? b=U o->b≠C:=λb o e=>WZ (WW (WG e) hC)
 refine⟨⟨okX.mod,B.kind,okX.glob,okX.blt,hC,λx y c e1 e2=>okX.inj x y c (hcl x c e1) (hcl y c e2),λx hx=>?_,λx c e _=>(by cases e),okX.hd,okX.frames,.inl rfl,λb hb=>⟨λz=>?_,λx c e z=>?_⟩,λb o e=>I.bs b o e,Xa okX.bsz I.sz,λb o e hb=>?_,λb hb z=>?_,I.stack,I.stkFree⟩,
  rfl,I.bare,Un.kept hk,⟨m0,hn,λj y v e1 e2 e3=>?_⟩,λx c e=>?_,I.hok.fresh hC,λx c e=>I.freeC x c (hcl x c e),λp hp=>absurd (show p∈([]:List (gV×Obj)) from hp) (by simp),I.hok.kept hk,?_⟩
 ·have q:=jQ (scope:=scope) (env:=X.env) (y:=x) (names:=scope.names) hx B.nocell
  exact Yd.mp (oZ _ _ _ _ q)
 ·have z':b=C:=z
  exact absurd (hfp b hb).2 (by rw[z'];exact aaH.mpr hC)
 ·exact(hfp b hb).1.2.2.2.2.1 x c (hcl x c e) z
 ·obtain⟨h0,h1,h2,h3,h4',h5⟩:=(hfp b hb).1
  rcases h3 with h3 | h3
  ·exact okX.noex b o e h3
  ·have:=(okX.bs b o e).1
   exact absurd (WW (WG this) h3) (XS _)
 ·obtain⟨h0,h1,h2,h3,h4',h5⟩:=(hfp b hb).1
  exact I.notStk h1 h2 z
 ·have e1':N'[j]?=U y:=e1
  unfold σB at e2
  rw[XU] at e2
  cases ec:cap[j]? with
  | none=>rw[ec] at e2;cases e2
  | some o=>
   rw[ec] at e2
   cases o with
   | none=>cases e2
   | some i=>
    obtain⟨y',n1,n2,vis,kx,kb⟩:=B.cap j i ec
    rw[e1'] at n1;cases n1
    have e2':(σ[i]?).join=U v:=Xp e2
    have e2'':σ[i]?=U (U v):=by
     cases q:σ[i]? with
     | none=>rw[q] at e2';cases e2'
     | some z=>rw[q] at e2';exact congrArg U e2'
    obtain⟨m,hm,hl⟩:=I.loc
    obtain⟨u,ru,lk⟩:=hl i y v n2 e2'' vis
    refine⟨u,ru,.inr ⟨kb,?_⟩⟩
    rcases lk with ⟨k,_⟩ | ⟨k,c,ec',z⟩
    ·rcases kx with kx | kx
     ·rw[kx] at k;cases k
     ·rw[kx] at k;cases k
    ·have q:=jQ (scope:=scope) (env:=X.env) (y:=y) (names:=scope.names) kb B.nocell
     obtain⟨c',hc'⟩:=Yd.mp (oZ X.env.cells scope.names [] y q)
     have:=hcl y c' hc'
     rw[ec'] at this;cases this
     exact⟨c,hc',z.keeps hk⟩
 ·obtain⟨v,z⟩:=cellC x c e
  exact⟨v,z.keeps hk⟩
 ·show(σB cap σ).length=N'.length
  unfold σB
  rw[WI,B.len]
theorem Inv.unblock(I:Inv X pins σ H s)(hfp:∀ b∈fp,mF X pins H b)(J:Inv (iB X N' scope C s H fp) pins' σ' Hf s'):Inv X pins σ Hf s':=
 I.call' (ch:=fp) J.os J.base J.hok J.bare λb hb=>by
  obtain⟨h0,h1,h2,h3,h4,h5⟩:=hfp b hb
  exact⟨h3,h1,h4,h5⟩
end
def sD(wi:TI)(g:TG)(tt:TT)(tb:gV->TB)(cap:List (Option Nat)):TE:=λσ H Q=>wi σ H λJ H1=>∀ p,H1 p=Y->pE J g tt (tb p) (σB cap σ) (upd H1 p (.lst [])) λ_ H'=>Q (.ref p) H'
def HX(wi:TI)(g:TG)(tt:TT)(te:TE)(cap:List (Option Nat)):TE:=sD wi g tt (tEm te) cap
def Behind(X:Cx)(pins:List (gV×Obj))(σ:St)(Q:VK)(acc:dn)(C:gV)(r:Result)(s':gw):Prop:=
 ∃ p Hf m,r=.ok .next/\acc=.ref p/\Inv X pins σ Hf s'/\Q (.ref p) Hf/\s'.heap.Ns C m/\Hf C=Y/\C≠X.env.locals/\X.s₀.heap.objs.size<=C/\(∀ x c,X.env.cells.lookup x=U c->c≠C)/\(∀ q∈X.pn++pins,q.1≠C)
theorem uu{X:Cx}{rest:List Comprehension}{g:TG}{tb:gV->TB}{bc:dn->Env->Sem Unit}
  (hc:X.calm=true) (B:BlockOk X N' scope cap) (hi:PI X tg iter wi) (hg:∀ C s H fp,PG (iB X N' scope C s H fp) tg g) (ht:∀ C s H fp,Hs (iB X N' scope C s H fp) ifs tt)
  (htn:∀ it acc env,compTurn (.ListComp elt (⟨tg,iter,ifs,0⟩::rest) scope pos) 0 it acc env=dE (.ListComp elt (⟨tg,iter,ifs,0⟩::rest) scope pos) tg iter.pos ifs 0 it acc env (bc acc env))
  (hb:∀ C s H fp p,PB (iB X N' scope C s H fp) (bc (.ref p) (iB X N' scope C s H fp).env) (tb p)) {s:gw} (I:Inv X pins σ H s) (h:sD wi g tt tb cap σ H Q) {E:dn->gw->Prop} (hE:∀ e s,X.xe e s->E e s) :
  Ew (model X.prog X.w) X.A (eval iter X.env) (λx s₁=>Ew (model X.prog X.w) X.A (pyIter x) (λit s₂=>Ew (model X.prog X.w) X.A (newList []) (λacc s₃=>
   Ew (model X.prog X.w) X.A (newFunctionEnv scope X.env.globals (kg X.env.cells scope.names []) [] X.env.qual Y .none (U X.env)) (λcenv s₄=>
    codeAny (model X.prog X.w) X.A (.compStart (.ListComp elt (⟨tg,iter,ifs,0⟩::rest) scope pos) 0 it acc { cenv with scope:=relabel scope X.env }) (Behind X pins σ Q acc cenv.locals) s₄) E s₃) E s₂) E s₁) E s:=by
 refine WV (hi pins s σ H _ I h) (λv s1 h1=>WV h1 (λitv s2 h2=>?_) hE) hE
 obtain⟨it,fp,tn,J,H1,e,I2,T,st2,f2,hW⟩:=h2
 subst e
 refine Xg (abe B.nocell (by intro y hy;simp at hy) (λh₁ hns₁ hsb₁=>?_) B.kind)
 dsimp only at hns₁ hsb₁ ⊢
 have hp1:H1 s2.heap.objs.size=Y:=I2.hok.fresh (WH _)
 have hL:=hW s2.heap.objs.size hp1
 have I3:Inv X pins σ (upd H1 s2.heap.objs.size (.lst [])) { s2 with heap:=s2.heap.push { cls:=.type "list",dict:=Y,data:=.seq ([]:List dn).toArray },toks:=s2.toks }:=
  I2.laid (λb o e=>Wy _ e) (WH _) ⟨YZ _,[],_,.nil,WL _ rfl⟩
 generalize hH2:s2.heap.push { cls:=.type "list",dict:=Y,data:=.seq ([]:List dn).toArray } = H2 at hns₁ hsb₁ I3 ⊢
 have hC:H2.objs.size=s2.heap.objs.size+1:=by rw[<- hH2,XY]
 have ltfp:∀ b∈fp,b<s2.heap.objs.size:=λb hb=>by
  obtain⟨o,e,_⟩:=T.obj _ _ st2 b hb
  exact WG e
 have hf3:∀ b∈fp,mF X pins (upd H1 s2.heap.objs.size (.lst [])) b/\b<H2.objs.size:=λb hb=>by
  obtain⟨a0,a⟩:=f2 b hb
  refine⟨⟨?_,a⟩,by rw[hC];exact Zi (ltfp b hb)⟩
  rw[aA (WZ (ltfp b hb))];exact a0
 have up:∀ b o,H2.get? b=U o->h₁.get? b=U o:=λb o e=>hsb₁.extBut b o (WZ (WG e)) (Wy _ e)
 have I4:=I3.block (C:=H2.objs.size) (fp:=fp) (h4:=h₁) (tk:=s2.toks+([]:List (Str×dn)).length) B hf3 (WH _) up hns₁
 have st4:tn 0 h₁:=T.keep _ _ _ st2 λb hb o e=>up b o (by rw[<- hH2];exact Wy _ e)
 have loop:codeAny (model X.prog X.w) X.A (.compLoop (.ListComp elt (⟨tg,iter,ifs,0⟩::rest) scope pos) 0 (.ref it) (.ref s2.heap.objs.size) (compEnvC scope (kg X.env.cells scope.names []) H2.objs.size X.env))
    (Behind X pins σ Q (.ref s2.heap.objs.size) H2.objs.size) { s2 with heap:=h₁,toks:=s2.toks+([]:List (Str×dn)).length }:=by
  refine XH (wN (X:=iB X N' scope H2.objs.size { s2 with heap:=H2,toks:=s2.toks } (upd H1 s2.heap.objs.size (.lst [])) fp) hc (λ_ _ z=>z) rfl (htn _ _ _) (hg _ _ _ _) (ht _ _ _ _) (hb _ _ _ _ _) T I4 st4 (λb hb=>?_) hL) λr s4 ⟨σ4,H4,hr,J4,qn⟩=>?_
  ·obtain⟨h0,h1,h2,h3,h4',h5⟩:=(hf3 b hb).1
   exact⟨h0,WZ (hf3 b hb).2,I3.notStk h1 h2,.inl hb,λx c e=>h4' x c (B.cl I3.ok x c e),λp hp=>absurd (show p∈([]:List (gV×Obj)) from hp) (by simp)⟩
  ·obtain⟨m,hm,_⟩:=J4.loc
   have IX:=I3.unblock (λb hb=>(hf3 b hb).1) J4
   refine⟨_,H4,m,hr,rfl,IX,qn,hm,J4.free,?_,?_,λx c e z=>?_,λq hq z=>?_⟩
   ·exact Ne.symm (WZ I3.lt)
   ·exact I3.sz
   ·obtain⟨v,q⟩:=I3.cell x c e
    exact absurd q.lt (by rw[z];exact XS _)
   ·exact absurd (WG (I3.pin q hq).1) (by rw[z];exact XS _)
 exact codeAny_compStart_list loop (T.self _ 0 _ _ _ st4 loop)
theorem zq{X:Cx}{iter:pc}{rest:List Comprehension}{g:TG}{tb:gV->TB}{bc:dn->Env->Sem Unit}
  (hc:X.calm=true) (B:BlockOk X N' scope cap) (hi:PI X tg iter wi) (hg:∀ C s H fp,PG (iB X N' scope C s H fp) tg g) (ht:∀ C s H fp,Hs (iB X N' scope C s H fp) ifs tt) (htn:∀ it acc env,compTurn (.ListComp elt (⟨tg,iter,ifs,0⟩::rest) scope pos) 0 it acc env=dE (.ListComp elt (⟨tg,iter,ifs,0⟩::rest) scope pos) tg iter.pos ifs 0 it acc env (bc acc env))
  (hb:∀ C s H fp p,PB (iB X N' scope C s H fp) (bc (.ref p) (iB X N' scope C s H fp).env) (tb p))
  (hs:∀ x,zI iter X.env x=pure x:=by intro _;rfl):PE X (.ListComp elt (⟨tg,iter,ifs,0⟩::rest) scope pos) (sD wi g tt tb cap):=by
 intro pins s σ H Q I h
 rw[eval_ListComp]
 refine Zg (use:=Y) rfl hs (jv (B.cells I.ok)) B.kind B.names ?_
 refine WV (uu hc B hi hg ht htn hb I h λ_ _ x=>x) (λx s1 h1=>WV h1 (λit s2 h2=>WV h2 (λacc s3 h3=>WV h3 (λcenv s4 h4=>XH h4 λr s' hr=>?_) λ_ _ x=>x) λ_ _ x=>x) λ_ _ x=>x) λ_ _ x=>x
 obtain⟨p,Hf,m,rfl,rfl,J,q,hn,c1,c2,c3,c4,c5⟩:=hr
 exact⟨m,hn,λh' sb=>⟨_,Hf,J.turned (t':=s'.toks) (λb o hb e=>(sb.2 b hb).trans e) c1 c2 (.inr c3) c4 c5,(show RelV (.ref p) (.ref p) from rfl),q⟩⟩
theorem qD{X:Cx}{iter:pc}{rest:List Comprehension}{spos:Pos}{g:TG}{tb:gV->TB}{bc:dn->Env->Sem Unit}{y:Str}{i:Nat}
  (hN:X.N.Nodup) (hy:X.N[i]?=U y) (hx:MR X.env.scope y)
  (hc:X.calm=true) (B:BlockOk X N' scope cap) (hi:PI X tg iter wi) (hg:∀ C s H fp,PG (iB X N' scope C s H fp) tg g) (ht:∀ C s H fp,Hs (iB X N' scope C s H fp) ifs tt) (htn:∀ it acc env,compTurn (.ListComp elt (⟨tg,iter,ifs,0⟩::rest) scope pos) 0 it acc env=dE (.ListComp elt (⟨tg,iter,ifs,0⟩::rest) scope pos) tg iter.pos ifs 0 it acc env (bc acc env))
  (hb:∀ C s H fp p,PB (iB X N' scope C s H fp) (bc (.ref p) (iB X N' scope C s H fp).env) (tb p))
  (hsw:swapsWith (.ListComp elt (⟨tg,iter,ifs,0⟩::rest) scope pos) (U (.Name y py)) spos.line X.env=pure true:=by rfl)
  (hs:∀ x,zI iter X.env x=pure x:=by intro _;rfl) (hf:X.fn y=true\/X.env.scope.names.lookup y=U .local:=by first | exact .inl rfl | exact .inr rfl | assumption) :
  PS X (.Assign [.Name y py] (.ListComp elt (⟨tg,iter,ifs,0⟩::rest) scope pos) spos) (Ia (sD wi g tt tb cap) (EN i)):=by
 intro pins s σ H D I h
 rw[exec_Assign_Name_used _ _ _ _ hsw]
 refine Wx (XE (Wx ?_))
 show Ew _ _ (do let _ <- comprehension (.ListComp elt (⟨tg,iter,ifs,0⟩::rest) scope pos) scope X.env _ (newList []) false (eval iter X.env) (U (assign (.Name y py) X.env))) _ _ s
 refine Wx (WV (Zg (use:=U (assign (.Name y py) X.env)) (Q:=λ_ s'=>SP X pins D .next s') rfl hs (jv (B.cells I.ok)) B.kind B.names
  (WV (uu hc B hi hg ht htn hb I h λ_ _ x=>x) (λx s1 h1=>WV h1 (λit s2 h2=>WV h2 (λacc s3 h3=>WV h3 (λcenv s4 h4=>XH h4 λr s' hr=>?_) λ_ _ x=>x) λ_ _ x=>x) λ_ _ x=>x) λ_ _ x=>x))
  (λ_ s' hq=>WA (WA hq)) λ_ _ e=>e)
 obtain⟨p,Hf,m,rfl,rfl,J,q,hn,c1,c2,c3,c4,c5⟩:=hr
 refine wpAny_assign_Name (vA J hN hy hx (v:=.ref p) rfl (λs2 J2 ⟨a,sb,ha⟩=>?_) hf)
 refine⟨m,hn.sameBut sb ?_,λh' sb2=>⟨_,Hf,J2.turned (t':=s2.toks) (λb o hb e=>(sb2.2 b hb).trans e) c1 c2 (.inr c3) c4 c5,q⟩⟩
 rcases ha with rfl | ha
 ·exact c2
 ·exact Ne.symm (c4 _ _ ha)
theorem Oe{X:Cx}{iter:pc}{g:TG}
  (hc:X.calm=true) (B:BlockOk X N' scope cap) (hi:PI X tg iter wi) (hg:∀ C s H fp,PG (iB X N' scope C s H fp) tg g) (ht:∀ C s H fp,Hs (iB X N' scope C s H fp) ifs tt) (he:∀ C s H fp,PE (iB X N' scope C s H fp) elt te)
  (hs:∀ x,zI iter X.env x=pure x:=by intro _;rfl):PE X (.ListComp elt [⟨tg,iter,ifs,0⟩] scope pos) (HX wi g tt te cap):=
 zq hc B hi hg ht (λ_ _ _=>compTurn_list ..) (λC s H fp p=>xG (he C s H fp)) hs
theorem BK{X:Cx}{iter:pc}{spos:Pos}{g:TG}{y:Str}{i:Nat}
  (hN:X.N.Nodup) (hy:X.N[i]?=U y) (hx:MR X.env.scope y)
  (hc:X.calm=true) (B:BlockOk X N' scope cap) (hi:PI X tg iter wi) (hg:∀ C s H fp,PG (iB X N' scope C s H fp) tg g) (ht:∀ C s H fp,Hs (iB X N' scope C s H fp) ifs tt) (he:∀ C s H fp,PE (iB X N' scope C s H fp) elt te)
  (hsw:swapsWith (.ListComp elt [⟨tg,iter,ifs,0⟩] scope pos) (U (.Name y py)) spos.line X.env=pure true:=by rfl)
  (hs:∀ x,zI iter X.env x=pure x:=by intro _;rfl) (hf:X.fn y=true\/X.env.scope.names.lookup y=U .local:=by first | exact .inl rfl | exact .inr rfl | assumption) :
  PS X (.Assign [.Name y py] (.ListComp elt [⟨tg,iter,ifs,0⟩] scope pos) spos) (Ia (HX wi g tt te cap) (EN i)):=
 qD hN hy hx hc B hi hg ht (λ_ _ _=>compTurn_list ..) (λC s H fp p=>xG (he C s H fp)) hsw hs hf
def lE(x C dx:gV)(h:wo):Prop:=∃ oe vs,h.get? x=U oe/\oe.cls=.ref C/\oe.dict=U dx/\oe.data=.fields vs
end L2
namespace M
open L2
def vI:Option Int->V
 | none=>.non
 | some i=>.int i
def RK(a:gV)(h:wo):Prop:=∃ o,h.get? a=U o/\o.cls=.type "dict"
inductive D where
 | non
 | bl (b:Bool)
 | int (i:Int)
 | str (x:Str)
 | tup (xs:List D)
 | lst (xs:List D)
 | rol (xs:List D)
 | dct (ks:List bD) (vs:List D)
 | ref (r:Nat)
 | txt
 | obj
 | exc (C:gV) (fl:Str) (i:Option Int)
 | fn (a:gV)
inductive Cell where
 | lst (xs:List D)
 | dct (ks:List bD) (vs:List D)
 | deep (ks:List DK) (vs:List D)
noncomputable abbrev ac:=List Cell
structure Fp where
 cs:List gV
 fb:List gV
def Fp.no(μ:Fp)(a:gV):Prop:=a∉μ.cs/\a∉μ.fb
noncomputable abbrev ax:=List (Option D)
theorem DV{α:Type}{N:List α}(hN:N.Nodup){i j:Nat}{x:α}(a:N[i]?=U x)(b:N[j]?=U x):i=j:=by
 obtain⟨h1,e1⟩:=WC.mp a
 obtain⟨h2,e2⟩:=WC.mp b
 exact(List.getElem_inj hN).mp (e1.trans e2.symm)
def KList(K:FA)(a:gV)(xs:List V):Prop:=∃ (o:Obj) (its:Array dn) (n:Nat),K.lookup a=U o/\o.cls=.type "list"/\o.dict=Y/\o.data=.seq its n/\its.size<=ww/\Vals xs its.toList
def KTup(K:FA)(a:gV)(xs:List V):Prop:=∃ (o:Obj) (its:Array dn) (n:Nat),K.lookup a=U o/\o.cls=.type "tuple"/\o.dict=Y/\o.data=.seq its n/\its.size<=ww/\Vals xs its.toList
mutual
inductive Rep(K:FA)(μ:Fp)(H:Hp):V->D->Prop
 | non:Rep K μ H .non .non
 | bl (b:Bool):Rep K μ H (.bl b) (.bl b)
 | int (i:Int):Rep K μ H (.int i) (.int i)
 | str (x:Str):Rep K μ H (.str x) (.str x)
 | tup {a:gV} {vs:List V} {ds:List D} (h:H a=U (.tup vs)) (n:μ.no a) (r:Reps K μ H vs ds):Rep K μ H (.ref a) (.tup ds)
 | ktup {a:gV} {vs:List V} {ds:List D} (h:KTup K a vs) (r:Reps K μ H vs ds):Rep K μ H (.ref a) (.tup ds)
 | lst {a:gV} {vs:List V} {ds:List D} (h:H a=U (.lst vs)) (n:μ.no a) (r:Reps K μ H vs ds):Rep K μ H (.ref a) (.lst ds)
 | rol {a:gV} {vs:List V} {ds:List D} (h:Rd H a (.lst vs)) (n:μ.no a) (r:Reps K μ H vs ds):Rep K μ H (.ref a) (.rol ds)
 | krol {a:gV} {vs:List V} {ds:List D} (h:KList K a vs) (r:Reps K μ H vs ds):Rep K μ H (.ref a) (.rol ds)
 | dct {a:gV} {kvs:List (bD×V)} {ds:List D} (h:H a=U (.dK kvs)) (n:μ.no a) (r:Reps K μ H (kvs.map (·.2)) ds):Rep K μ H (.ref a) (.dct (kvs.map (·.1)) ds)
 | ref {a:gV} {r:Nat} (h:μ.cs[r]?=U a):Rep K μ H (.ref a) (.ref r)
 | txt (x:Str):Rep K μ H (.str x) .txt
 | obj {a:gV} (h:H a=U (.ext (RK a))) (n:μ.no a):Rep K μ H (.ref a) .obj
 | exc {a dx C:gV} {fl:Str} {i:Option Int} (h:H a=U (.ext (lE a C dx))) (n:μ.no a) (h2:H dx=U (.xd [(fl,vI i)])) (n2:μ.no dx):Rep K μ H (.ref a) (.exc C fl i)
 | fn (a:gV):Rep K μ H (.ref a) (.fn a)
inductive Reps(K:FA)(μ:Fp)(H:Hp):List V->List D->Prop
 | nil:Reps K μ H [] []
 | cons {v:V} {d:D} {vs:List V} {ds:List D} (h:Rep K μ H v d) (t:Reps K μ H vs ds):Reps K μ H (v::vs) (d::ds)
end
structure Ext(μ:Fp)(H:Hp)(μ':Fp)(H':Hp):Prop where
 fb:μ'.fb = μ.fb
 pre:∃ l,μ'.cs = μ.cs++l/\∀ a∈l,H a=Y
 keep:∀ a o,a∉μ.cs->H a=U o->H' a=U o
 dom:∀ a∈μ'.cs,H' a≠Y
section
variable{K:FA}{μ μ' μ'':Fp}{H H' H'':Hp}
theorem Ext.stays(e:Ext μ H μ' H'){o:HO}(h:H a=U o)(n:μ.no a):H' a=U o/\μ'.no a:=by
 refine⟨e.keep a o n.1 h,λz=>?_,by rw[e.fb];exact n.2⟩
 obtain⟨l,q,hl⟩:=e.pre
 rw[q] at z
 rcases Xb.mp z with z | z
 ·exact n.1 z
 ·rw[hl a z] at h;cases h
theorem Ext.keeps(e:Ext μ H μ' H'){o:HO}(h:H a=U o)(n:a∉μ.cs):H' a=U o/\a∉μ'.cs:=by
 refine⟨e.keep a o n h,λz=>?_⟩
 obtain⟨l,q,hl⟩:=e.pre
 rw[q] at z
 rcases Xb.mp z with z | z
 ·exact n z
 ·rw[hl a z] at h;cases h
theorem Ext.trans(e:Ext μ H μ' H')(f:Ext μ' H' μ'' H''):Ext μ H μ'' H'':=by
 obtain⟨l,q,hl⟩:=e.pre
 obtain⟨l',q',hl'⟩:=f.pre
 refine⟨f.fb.trans e.fb,⟨l++l',by rw[q',q,XQ],λa ha=>?_⟩,λa o n h=>?_,f.dom⟩
 ·rcases Xb.mp ha with ha | ha
  ·exact hl a ha
  ·have h1:=hl' a ha
   cases q2:H a with
   | none=>rfl
   | some o=>
    by_cases hm:a∈μ.cs
    ·exact absurd h1 (e.dom a (by rw[q];exact XA _ hm))
    ·rw[e.keep a o hm q2] at h1;cases h1
 ·have:=e.keeps h n
  exact f.keep a o this.2 this.1
theorem Ext.refl(h:∀ a∈μ.cs,H a≠Y):Ext μ H μ H:=⟨rfl,⟨[],by simp,λ_ z=>by simp at z⟩,λ_ _ _ h=>h,h⟩
def kids:D->List D
 | .tup xs=>xs
 | .lst xs=>xs
 | .rol xs=>xs
 | .dct _ xs=>xs
 | _=>[]
theorem Rep.to{P:D->Prop}(hc:∀ d,P d->∀ x∈kids d,P x)(hk:∀ {a:gV} {o:HO},H a=U o->μ.no a->H' a=U o/\μ'.no a)(hr:∀ {r:Nat} {a:gV},P (.ref r)->μ.cs[r]?=U a->μ'.cs[r]?=U a){d:D}(r:Rep K μ H v d):P d->Rep K μ' H' v d:=
 Rep.rec (motive_1:=λv d _=>P d->Rep K μ' H' v d) (motive_2:=λvs ds _=>(∀ d∈ds,P d)->Reps K μ' H' vs ds)
  (λ_=>.non) (λb _=>.bl b) (λi _=>.int i) (λx _=>.str x) (λh n _ ih p=>.tup (hk h n).1 (hk h n).2 (ih (hc _ p))) (λh _ ih p=>.ktup h (ih (hc _ p)))
  (λh n _ ih p=>.lst (hk h n).1 (hk h n).2 (ih (hc _ p))) (λh n _ ih p=>.rol (h.imp (λh=>(hk h n).1) λ⟨o,h⟩=>⟨o,(hk h n).1⟩) (h.elim (λh=>(hk h n).2) λ⟨_,h⟩=>(hk h n).2) (ih (hc _ p))) (λh _ ih p=>.krol h (ih (hc _ p)))
  (λh n _ ih p=>.dct (hk h n).1 (hk h n).2 (ih (hc _ p))) (λh p=>.ref (hr p h)) (λx _=>.txt x) (λh n _=>.obj (hk h n).1 (hk h n).2) (λh n h2 n2 _=>.exc (hk h n).1 (hk h n).2 (hk h2 n2).1 (hk h2 n2).2)
  (λa _=>.fn a)
  (λ_=>.nil) (λ_ _ i1 i2 p=>.cons (i1 (p _ WE)) (i2 λx hx=>p x (WB _ hx))) r
theorem Reps.ind{Q:List V->List D->Prop}(h0:Q [] [])(h1:∀ {v:V} {d:D} {vs:List V} {ds:List D},Rep K μ H v d->Reps K μ H vs ds->Q vs ds->Q (v::vs) (d::ds)):∀ {vs:List V} {ds:List D},Reps K μ H vs ds->Q vs ds
 | _,_,.nil=>h0
 | _,_,.cons h t=>h1 h t (Reps.ind h0 h1 t)
theorem Reps.to{P:D->Prop}(hR:∀ {v:V} {d:D},Rep K μ H v d->P d->Rep K μ' H' v d)(r:Reps K μ H vs ds):(∀ d∈ds,P d)->Reps K μ' H' vs ds:=
 Reps.ind (Q:=λvs ds=>(∀ d∈ds,P d)->Reps K μ' H' vs ds) (λ_=>.nil) (λh _ i p=>.cons (hR h (p _ WE)) (i λx hx=>p x (WB _ hx))) r
theorem Rep.imp(hk:∀ {a:gV} {o:HO},H a=U o->μ.no a->H' a=U o/\μ'.no a)(hr:∀ {r:Nat} {a:gV},μ.cs[r]?=U a->μ'.cs[r]?=U a){d:D}(r:Rep K μ H v d):Rep K μ' H' v d:=Rep.to (P:=λ_=>True) (λ_ _ _ _=>trivial) hk (λ_=>hr) r trivial
theorem Reps.imp(hk:∀ {a:gV} {o:HO},H a=U o->μ.no a->H' a=U o/\μ'.no a)(hr:∀ {r:Nat} {a:gV},μ.cs[r]?=U a->μ'.cs[r]?=U a)(r:Reps K μ H vs ds):Reps K μ' H' vs ds:=Reps.to (P:=λ_=>True) (λr _=>r.imp hk hr) r λ_ _=>trivial
theorem yE{l m:List gV}{k:List gV}(q:k=l++m){r:Nat}{a:gV}(h:l[r]?=U a):k[r]?=U a:=by
 rw[q,WS (WC.mp h).1];exact h
theorem Ext.ix(e:Ext μ H μ' H'){r:Nat}{a:gV}(h:μ.cs[r]?=U a):μ'.cs[r]?=U a:=by
 obtain⟨l,q,_⟩:=e.pre
 exact yE q h
theorem Rep.mono(e:Ext μ H μ' H'){d:D}(r:Rep K μ H v d):Rep K μ' H' v d:=r.imp e.stays e.ix
theorem Reps.mono(e:Ext μ H μ' H')(r:Reps K μ H vs ds):Reps K μ' H' vs ds:=r.imp e.stays e.ix
theorem Reps.length{vs:List V}{ds:List D}(r:Reps K μ H vs ds):vs.length=ds.length:=Reps.ind (Q:=λvs ds=>vs.length=ds.length) rfl (λ_ _ i=>congrArg (· + 1) i) r
theorem Reps.get:∀ {vs:List V} {ds:List D} {i:Nat} {d:D},Reps K μ H vs ds->ds[i]?=U d->∃ v,vs[i]?=U v/\Rep K μ H v d
 | _,_,_,_,.nil,e=>by simp at e
 | _,_,0,_,.cons h _,e=>by simp at e;subst e;exact⟨_,rfl,h⟩
 | _,_,i+1,d,.cons _ t,e=>by
  obtain⟨u,h1,h2⟩:=Reps.get (i:=i) (d:=d) t (by simpa using e)
  exact⟨u,by simpa using h1,h2⟩
theorem Reps.append(r:Reps K μ H vs ds)(s:Reps K μ H ws es):Reps K μ H (vs++ws) (ds++es):=Reps.ind (Q:=λvs ds=>Reps K μ H (vs++ws) (ds++es)) s (λr _ i=>.cons r i) r
theorem Reps.take:∀ {vs:List V} {ds:List D} (n:Nat),Reps K μ H vs ds->Reps K μ H (vs.take n) (ds.take n)
 | _,_,0,_=>.nil
 | _,_,_+1,.nil=>.nil
 | _,_,n+1,.cons r t=>.cons r (Reps.take n t)
theorem Reps.drop:∀ {vs:List V} {ds:List D} (n:Nat),Reps K μ H vs ds->Reps K μ H (vs.drop n) (ds.drop n)
 | _,_,0,r=>r
 | _,_,_+1,.nil=>.nil
 | _,_,n+1,.cons _ t=>Reps.drop n t
theorem Reps.set{d:D}(r:Rep K μ H x d):∀ {vs:List V} {ds:List D} (i:Nat),Reps K μ H vs ds->Reps K μ H (vs.set i x) (ds.set i d)
 | _,_,_,.nil=>.nil
 | _,_,0,.cons _ t=>.cons r t
 | _,_,i+1,.cons q t=>.cons q (Reps.set r i t)
theorem Reps.flat:∀ (k:Nat) {ds:List D},Reps K μ H xs ds->Reps K μ H (Ga k xs).flatten (Ga k ds).flatten
 | 0,_,_=>.nil
 | k+1,_,r=>by rw[Xm,Xm,XO,XO];exact r.append (Reps.flat k r)
mutual
def dkD:DK->D
 | .non=>.non
 | .int i=>.int i
 | .str x=>.str x
 | .tup l=>.tup (dkDs l)
def dkDs:List DK->List D
 | []=>[]
 | k::l=>dkD k::dkDs l
end
def CellOk(K:FA)(μ:Fp)(H:Hp)(a:gV):Cell->Prop
 | .lst ds=>∃ vs,H a=U (.lst vs)/\Reps K μ H vs ds
 | .dct ks ds=>∃ kvs,H a=U (.dK kvs)/\ks=kvs.map (·.1)/\Reps K μ H (kvs.map (·.2)) ds
 | .deep ks ds=>∃ kvs:List (DK×gV×V),H a=U (.dT kvs)/\ks=kvs.map (·.1)/\Reps K μ H (kvs.map λp=>.ref p.2.1) (dkDs ks)/\Reps K μ H (kvs.map (·.2.2)) ds
structure SOk(K:FA)(μ:Fp)(S:ac)(H:Hp):Prop where
 nd:μ.cs.Nodup
 len:μ.cs.length=S.length
 cell:∀ (r:Nat) (a:gV) (c:Cell),μ.cs[r]?=U a->S[r]?=U c->CellOk K μ H a c
 fdom:∀ a∈μ.fb,H a≠Y
 disj:∀ a∈μ.fb,a∉μ.cs
theorem CellOk.ne_none(h:CellOk K μ H a c):H a≠Y:=by
 cases c with
 | lst ds=>obtain⟨vs,h,_⟩:=h;rw[h];simp
 | dct ks ds=>obtain⟨vs,h,_⟩:=h;rw[h];simp
 | deep ks ds=>obtain⟨vs,h,_⟩:=h;rw[h];simp
theorem CellOk.mono(e:Ext μ H μ' H')(he:H' a=H a)(h:CellOk K μ H a c):CellOk K μ' H' a c:=by
 cases c with
 | lst ds=>obtain⟨vs,h,r⟩:=h;exact⟨vs,he.trans h,r.mono e⟩
 | dct ks ds=>obtain⟨vs,h,q,r⟩:=h;exact⟨vs,he.trans h,q,r.mono e⟩
 | deep ks ds=>obtain⟨vs,h,q,r,r'⟩:=h;exact⟨vs,he.trans h,q,r.mono e,r'.mono e⟩
theorem SOk.dom(s:SOk K μ S H):∀ a∈μ.cs,H a≠Y:=λa ha=>by
 obtain⟨r,hr⟩:=Zs.mp ha
 have hl:=(WC.mp hr).1
 rw[s.len] at hl
 exact(s.cell r a S[r] hr (by simp[hl])).ne_none
theorem SOk.ext(s:SOk K μ S H):Ext μ H μ H:=.refl s.dom
theorem SOk.notMem(s:SOk K μ S H)(h:H p=Y):μ.no p:=⟨λz=>s.dom p z h,λz=>s.fdom p z h⟩
theorem SOk.laid(s:SOk K μ S H)(h:H p=Y):Ext μ H μ (upd H p o)/\SOk K μ S (upd H p o):=by
 have e:Ext μ H μ (upd H p o):=⟨rfl,⟨[],by simp,λ_ z=>by simp at z⟩,λa o' _ q=>by rw[aA (bG q h)];exact q,λa ha=>by
  by_cases z:a=p
  ·subst z;rw[aB];simp
  ·rw[aA z];exact s.dom a ha⟩
 refine⟨e,s.nd,s.len,λr a c h1 h2=>(s.cell r a c h1 h2).mono e ?_,λa ha=>?_,s.disj⟩
 case refine_2=>
  by_cases z:a=p
  ·subst z;rw[aB];simp
  ·rw[aA z];exact s.fdom a ha
 have:=(s.cell r a c h1 h2).ne_none
 refine aA λz=>?_
 rw[z] at this
 exact this h
theorem SOk.alloc(s:SOk K μ S H)(h:H p=Y)(r:Reps K μ H vs ds):Ext μ H ⟨μ.cs++[p],μ.fb⟩ (upd H p (.lst vs))/\SOk K ⟨μ.cs++[p],μ.fb⟩ (S++[.lst ds]) (upd H p (.lst vs)):=by
 have hp:=s.notMem h
 have e:Ext μ H ⟨μ.cs++[p],μ.fb⟩ (upd H p (.lst vs)):=⟨rfl,⟨[p],rfl,λa z=>by rw[Xc.mp z];exact h⟩,λa o' _ q=>by rw[aA (bG q h)];exact q,λa ha=>by
  by_cases z:a=p
  ·subst z;rw[aB];simp
  ·rw[aA z]
   rcases Xb.mp ha with q | q
   ·exact s.dom a q
   ·exact absurd (Xc.mp q) z⟩
 refine⟨e,?_,by simp[s.len],λi a c h1 h2=>?_,λa ha=>?_,λa ha z=>?_⟩
 case refine_3=>
  by_cases z:a=p
  ·subst z;rw[aB];simp
  ·rw[aA z];exact s.fdom a ha
 case refine_4=>
  rcases Xb.mp z with q | q
  ·exact s.disj a ha q
  ·rw[Xc.mp q] at ha;exact hp.2 ha
 ·show(μ.cs++[p]).Nodup
  rw[XT]
  exact⟨s.nd,by simp,λa ha b hb=>by rw[Xc.mp hb];rintro rfl;exact hp.1 ha⟩
 ·have h1:(μ.cs++[p])[i]?=U a:=h1
  by_cases hi:i < μ.cs.length
  ·rw[WS hi] at h1
   rw[WS (by rw[<- s.len];exact hi)] at h2
   have q:=s.cell i a c h1 h2
   refine q.mono e (aA λz=>?_)
   exact hp.1 (z ▸ Xw h1)
  ·have hl:i = μ.cs.length:=by
    have:=(WC.mp h1).1
    simp at this;omega
   subst hl
   rw[XJ (WH _)] at h1
   rw[s.len,XJ (WH _)] at h2
   simp at h1 h2
   subst h1 h2
   exact⟨vs,aB,r.mono e⟩
theorem SOk.write(s:SOk K μ S H){i:Nat}{a:gV}(hi:μ.cs[i]?=U a)(h:H a=U (.lst vs))(r:Reps K μ H vs' ds):Ext μ H μ (upd H a (.lst vs'))/\SOk K μ (S.set i (.lst ds)) (upd H a (.lst vs')):=by
 have ha:=Xw hi
 have e:Ext μ H μ (upd H a (.lst vs')):=⟨rfl,⟨[],by simp,λ_ z=>by simp at z⟩,λb o' n q=>by rw[aA (by rintro rfl;exact n ha)];exact q,λb hb=>by
  by_cases z:b=a
  ·subst z;rw[aB];simp
  ·rw[aA z];exact s.dom b hb⟩
 refine⟨e,s.nd,by simp[s.len],λj b c h1 h2=>?_,λb hb=>?_,s.disj⟩
 case refine_2=>
  by_cases z:b=a
  ·subst z;rw[aB];simp
  ·rw[aA z];exact s.fdom b hb
 by_cases hj:j=i
 ·subst hj
  rw[hi] at h1;cases h1
  have hl:j<S.length:=by rw[<- s.len];exact(WC.mp hi).1
  rw[Xv hl] at h2
  cases h2
  exact⟨vs',aB,r.mono e⟩
 ·rw[Xl (Ne.symm hj)] at h2
  refine(s.cell j b c h1 h2).mono e (aA λz=>hj ?_)
  subst z
  exact DV s.nd h1 hi
inductive EOk(K:FA)(μ:Fp)(H:Hp):L2.St->ax->Prop
 | nil:EOk K μ H [] []
 | no {x:Option V} {σ:L2.St} {env:ax} (t:EOk K μ H σ env):EOk K μ H (x::σ) (Y::env)
 | yes {v:V} {d:D} {σ:L2.St} {env:ax} (h:Rep K μ H v d) (t:EOk K μ H σ env):EOk K μ H (U v::σ) (U d::env)
theorem EOk.to(hR:∀ {v:V} {d:D},Rep K μ H v d->Rep K μ' H' v d)(h:EOk K μ H σ env):EOk K μ' H' σ env:=by
 induction h with
 | nil=>exact .nil
 | no _ ih=>exact .no ih
 | yes h _ ih=>exact .yes (hR h) ih
theorem EOk.mono(e:Ext μ H μ' H')(h:EOk K μ H σ env):EOk K μ' H' σ env:=h.to (·.mono e)
theorem EOk.get:∀ {σ:L2.St} {env:ax} {i:Nat} {d:D},EOk K μ H σ env->env[i]?=U (U d)->∃ v,σ[i]?=U (U v)/\Rep K μ H v d
 | _,_,_,_,.nil,h=>by simp at h
 | _,_,0,_,.no _,h=>by simp at h
 | _,_,0,_,.yes h _,q=>by simp at q;subst q;exact⟨_,rfl,h⟩
 | _,_,i+1,d,.no t,h=>by
  obtain⟨v,h1,h2⟩:=EOk.get (i:=i) (d:=d) t (by simpa using h)
  exact⟨v,by simpa using h1,h2⟩
 | _,_,i+1,d,.yes _ t,h=>by
  obtain⟨v,h1,h2⟩:=EOk.get (i:=i) (d:=d) t (by simpa using h)
  exact⟨v,by simpa using h1,h2⟩
theorem EOk.set{d:D}(r:Rep K μ H v d):∀ {σ:L2.St} {env:ax} (i:Nat),EOk K μ H σ env->EOk K μ H (σ.set i (Option.some v)) (env.set i (Option.some d))
 | _,_,_,.nil=>.nil
 | _,_,0,.no t=>.yes r t
 | _,_,0,.yes _ t=>.yes r t
 | _,_,i+1,.no t=>.no (EOk.set r i t)
 | _,_,i+1,.yes h t=>.yes h (EOk.set r i t)
theorem EOk.length{σ:L2.St}{env:ax}(h:EOk K μ H σ env):σ.length=env.length:=by induction h<;>simp[*]
theorem EOk.start{N:Nat}:∀ {vs:List V} {ds:List D},Reps K μ H vs ds->EOk K μ H (vs.map Option.some++Ga N Option.none) (ds.map Option.some++Ga N Option.none)
 | _,_,.nil=>by
  induction N with
  | zero=>exact .nil
  | succ n ih=>exact .no ih
 | _,_,.cons h t=>.yes h (EOk.start t)
theorem EOk.block(h:EOk K μ H σ env):∀ (cap:List (Option Nat)),EOk K μ H (σB cap σ) (cap.map λo=>o.bind λi=>(env[i]?).join)
 | []=>.nil
 | Option.none::r=>.no (EOk.block h r)
 | Option.some i::r=>by
  show EOk K μ H ((σ[i]?).join::σB r σ) ((env[i]?).join::_)
  cases q:(env[i]?).join with
  | none=>exact .no (EOk.block h r)
  | some d=>
   have q':env[i]?=Option.some (Option.some d):=by
    cases z:env[i]? with
    | none=>rw[z] at q;cases q
    | some y=>rw[z] at q;exact congrArg Option.some q
   obtain⟨v,h1,h2⟩:=h.get q'
   rw[h1]
   exact .yes h2 (EOk.block h r)
theorem DZ{p:gV}{cs fb:List gV}(n:(⟨cs,p::fb⟩:Fp).no a):(⟨cs,fb⟩:Fp).no a:=⟨n.1,λz=>n.2 (WB _ z)⟩
theorem Rep.less{p:gV}{cs fb:List gV}{d:D}(r:Rep K ⟨cs,p::fb⟩ H v d):Rep K ⟨cs,fb⟩ H v d:=r.imp (λh n=>⟨h,DZ n⟩) λh=>h
theorem Reps.less{p:gV}{cs fb:List gV}{d:List D}(r:Reps K ⟨cs,p::fb⟩ H v d):Reps K ⟨cs,fb⟩ H v d:=r.imp (λh n=>⟨h,DZ n⟩) λh=>h
theorem DX{cs fb:List gV}(hp:H p=Y){o':HO}(h:H a=U o')(n:(⟨cs,fb⟩:Fp).no a):upd H p o a=U o'/\(⟨cs,p::fb⟩:Fp).no a:=⟨(aA (bG h hp)).trans h,n.1,λz=>(WQ.mp z).elim (bG h hp) n.2⟩
theorem Rep.more{cs fb:List gV}(hp:H p=Y){d:D}(r:Rep K ⟨cs,fb⟩ H v d):Rep K ⟨cs,p::fb⟩ (upd H p o) v d:=r.imp (DX hp) λh=>h
theorem Reps.more{cs fb:List gV}(hp:H p=Y){d:List D}(r:Reps K ⟨cs,fb⟩ H v d):Reps K ⟨cs,p::fb⟩ (upd H p o) v d:=r.imp (DX hp) λh=>h
theorem Fp.no.ne{μ:Fp}{p:gV}(n:μ.no a)(hp:p∈μ.fb):a≠p:=λz=>n.2 (by rw[z];exact hp)
theorem Rep.chg{p:gV}(hp:p∈μ.fb){d:D}(r:Rep K μ H v d):Rep K μ (upd H p o) v d:=r.imp (λh n=>⟨(aA (n.ne hp)).trans h,n⟩) λh=>h
theorem Reps.chg{p:gV}(hp:p∈μ.fb){d:List D}(r:Reps K μ H v d):Reps K μ (upd H p o) v d:=r.imp (λh n=>⟨(aA (n.ne hp)).trans h,n⟩) λh=>h
theorem EOk.more{cs fb:List gV}(hp:H p=Y)(h:EOk K ⟨cs,fb⟩ H σ env):EOk K ⟨cs,p::fb⟩ (upd H p o) σ env:=h.to (·.more hp)
theorem EOk.chg{p:gV}(hp:p∈μ.fb)(h:EOk K μ H σ env):EOk K μ (upd H p o) σ env:=h.to (·.chg hp)
theorem CellOk.upd{p a:gV}(μ':Fp)(hpa:a≠p)(h:CellOk K μ H a c)(f:∀ vs ds,Reps K μ H vs ds->Reps K μ' (upd H p o) vs ds):CellOk K μ' (upd H p o) a c:=by
 cases c with
 | lst ds=>obtain⟨vs,h,r⟩:=h;exact⟨vs,(aA hpa).trans h,f _ _ r⟩
 | dct ks ds=>obtain⟨vs,h,q,r⟩:=h;exact⟨vs,(aA hpa).trans h,q,f _ _ r⟩
 | deep ks ds=>obtain⟨vs,h,q,r,r'⟩:=h;exact⟨vs,(aA hpa).trans h,q,f _ _ r,f _ _ r'⟩
theorem SOk.less{p:gV}{cs fb:List gV}(s:SOk K ⟨cs,p::fb⟩ S H):SOk K ⟨cs,fb⟩ S H:=
 ⟨s.nd,s.len,λr a c h1 h2=>by
  have:=s.cell r a c h1 h2
  cases c with
  | lst ds=>obtain⟨vs,h,r⟩:=this;exact⟨vs,h,r.less⟩
  | dct ks ds=>obtain⟨vs,h,q,r⟩:=this;exact⟨vs,h,q,r.less⟩
  | deep ks ds=>obtain⟨vs,h,q,r,r'⟩:=this;exact⟨vs,h,q,r.less,r'.less⟩,λa ha=>s.fdom a (WB _ ha),λa ha=>s.disj a (WB _ ha)⟩
theorem SOk.more{cs fb:List gV}(s:SOk K ⟨cs,fb⟩ S H)(hp:H p=Y):SOk K ⟨cs,p::fb⟩ S (upd H p o):=by
 have hn:=s.notMem hp
 refine⟨s.nd,s.len,λr a c h1 h2=>(s.cell r a c h1 h2).upd _ (λz=>?_) λvs ds r=>r.more hp,λa ha=>?_,λa ha z=>?_⟩
 ·exact hn.1 (z ▸ Xw h1)
 ·by_cases z:a=p
  ·subst z;rw[aB];simp
  ·rw[aA z];exact s.fdom a ((WQ.mp ha).resolve_left z)
 ·rcases WQ.mp ha with rfl | ha
  ·exact hn.1 z
  ·exact s.disj a ha z
theorem SOk.chg{p:gV}(s:SOk K μ S H)(hp:p∈μ.fb):SOk K μ S (upd H p o):=by
 refine⟨s.nd,s.len,λr a c h1 h2=>(s.cell r a c h1 h2).upd _ (λz=>?_) λvs ds r=>r.chg hp,λa ha=>?_,s.disj⟩
 ·exact s.disj p hp (z ▸ Xw h1)
 ·by_cases z:a=p
  ·subst z;rw[aB];simp
  ·rw[aA z];exact s.fdom a ha
end
noncomputable abbrev ME:=ax->ac->Option (D×ac)
noncomputable abbrev MT:=ax->ac->Option (Bool×ac)
noncomputable abbrev MA:=ax->ac->Option (List D×ac)
inductive qA where
 | nx (env:ax) (S:ac)
 | rt (d:D) (S:ac)
 | bk (env:ax) (S:ac)
 | ct (env:ax) (S:ac)
noncomputable abbrev MS:=ax->ac->Option qA
def Post(K:FA)(μ:Fp)(H:Hp)(S':ac)(d:D)(Q:VK):Prop:=∀ v H' μ',Ext μ H μ' H'->SOk K μ' S' H'->Rep K μ' H' v d->Q v H'
def PostT(K:FA)(μ:Fp)(H:Hp)(S':ac)(b:Bool)(Q:Bool->Hp->Prop):Prop:=∀ H' μ',Ext μ H μ' H'->SOk K μ' S' H'->Q b H'
def PostA(K:FA)(μ:Fp)(H:Hp)(S':ac)(ds:List D)(Q:List V->Hp->Prop):Prop:=∀ vs H' μ',Ext μ H μ' H'->SOk K μ' S' H'->Reps K μ' H' vs ds->Q vs H'
def PostN(K:FA)(μ:Fp)(H:Hp)(S':ac)(env':ax)(Q:L2.St->Hp->Prop):Prop:=∀ σ' H' μ',Ext μ H μ' H'->SOk K μ' S' H'->EOk K μ' H' σ' env'->Q σ' H'
def PostS(K:FA)(μ:Fp)(H:Hp)(o:qA)(E:ny):Prop:=match o with
 | .nx env' S'=>PostN K μ H S' env' E.nx
 | .rt d S'=>Post K μ H S' d E.rt
 | .bk env' S'=>PostN K μ H S' env' E.bk
 | .ct env' S'=>PostN K μ H S' env' E.ct
inductive tM(K:FA)(m:ME)(σ:L2.St)(H:Hp)(Q:VK):Prop
 | mk (μ:Fp) (S:ac) (env:ax) (d:D) (S':ac) (hS:SOk K μ S H) (hE:EOk K μ H σ env) (h:m env S=U (d,S')) (post:Post K μ H S' d Q)
inductive xk(K:FA)(m:MT)(σ:L2.St)(H:Hp)(Q:Bool->Hp->Prop):Prop
 | mk (μ:Fp) (S:ac) (env:ax) (b:Bool) (S':ac) (hS:SOk K μ S H) (hE:EOk K μ H σ env) (h:m env S=U (b,S')) (post:PostT K μ H S' b Q)
inductive tMA(K:FA)(m:MA)(σ:L2.St)(H:Hp)(Q:List V->Hp->Prop):Prop
 | mk (μ:Fp) (S:ac) (env:ax) (ds:List D) (S':ac) (hS:SOk K μ S H) (hE:EOk K μ H σ env) (h:m env S=U (ds,S')) (post:PostA K μ H S' ds Q)
inductive Su(K:FA)(m:MS)(E:ny)(σ:L2.St)(H:Hp):Prop
 | mk (μ:Fp) (S:ac) (env:ax) (o:qA) (hS:SOk K μ S H) (hE:EOk K μ H σ env) (h:m env S=U o) (post:PostS K μ H o E)
inductive kn(K:FA)(f:ac->D->D->Option D)(x y:V)(H:Hp)(Q:VK):Prop
 | mk (μ:Fp) (S:ac) (dx dy dz:D) (hS:SOk K μ S H) (h1:Rep K μ H x dx) (h2:Rep K μ H y dy) (h3:f S dx dy=U dz) (post:Post K μ H S dz Q)
inductive rM1(K:FA)(f:ac->D->Option D)(x:V)(H:Hp)(Q:VK):Prop
 | mk (μ:Fp) (S:ac) (dx dz:D) (hS:SOk K μ S H) (h1:Rep K μ H x dx) (h3:f S dx=U dz) (post:Post K μ H S dz Q)
inductive BJ(K:FA)(f:List D->ac->Option (D×ac))(vs:List V)(H:Hp)(Q:VK):Prop
 | mk (μ:Fp) (S:ac) (ds:List D) (d:D) (S':ac) (hS:SOk K μ S H) (h1:Reps K μ H vs ds) (h3:f ds S=U (d,S')) (post:Post K μ H S' d Q)
def DE(X:Cx)(e:pc)(m:ME):Prop:=PE X e (tM X.K m)
def DT(X:Cx)(e:pc)(m:MT):Prop:=PT X e (xk X.K m)
def DW(X:Cx)(e:pc)(m:MT):Prop:=PW X e (xk X.K m)
def DA(X:Cx)(es:List pc)(m:MA):Prop:=PA X es (tMA X.K m)
def DS(X:Cx)(st:tu)(m:MS):Prop:=PS X st (Su X.K m)
def yK(X:Cx)(st:List tu)(m:MS):Prop:=PSs X st (Su X.K m)
section
variable{X:Cx}{K:FA}{μ μ':Fp}{H H':Hp}{S S':ac}
theorem Post.ext{d:D}(e:Ext μ H μ' H')(p:Post K μ H S' d Q):Post K μ' H' S' d Q:=λv H2 μ2 e2 s r=>p v H2 μ2 (e.trans e2) s r
theorem Post.here{d:D}(p:Post K μ H S d Q)(s:SOk K μ S H)(r:Rep K μ H v d):Q v H:=p v H μ s.ext s r
theorem PE.imp{t':TE}(h:PE X e t)(i:∀ σ H Q,t' σ H Q->t σ H Q):PE X e t':=λpins s σ H Q I q=>h pins s σ H Q I (i σ H Q q)
theorem PT.imp{t':TT}(h:PT X e t)(i:∀ σ H Q,t' σ H Q->t σ H Q):PT X e t':=λpins s σ H Q I q=>h pins s σ H Q I (i σ H Q q)
theorem PW.imp{t':TT}(h:PW X e t)(i:∀ σ H Q,t' σ H Q->t σ H Q):PW X e t':=λw pins s σ H Q I q=>h w pins s σ H Q I (i σ H Q q)
theorem PA.imp{t':TA}(h:PA X e t)(i:∀ σ H Q,t' σ H Q->t σ H Q):PA X e t':=λpos pins s σ H Q I q=>h pos pins s σ H Q I (i σ H Q q)
theorem PS.imp{t':TS}(h:PS X e t)(i:∀ E σ H,t' E σ H->t E σ H):PS X e t':=λpins s σ H E I q=>h pins s σ H E I (i E σ H q)
theorem PSs.imp{t':TS}(h:PSs X e t)(i:∀ E σ H,t' E σ H->t E σ H):PSs X e t':=λpins s σ H E I q=>h pins s σ H E I (i E σ H q)
theorem OpR.imp{r':R2}(h:OpR X f r)(i:∀ x y H Q,r' x y H Q->r x y H Q):OpR X f r':=λpins s σ H x y v u Q I rx ry q=>h pins s σ H x y v u Q I rx ry (i x y H Q q)
theorem UnR.imp{r':V->Hp->VK->Prop}(h:UnR X f r)(i:∀ x H Q,r' x H Q->r x H Q):UnR X f r':=λpins s σ H x v Q I rx q=>h pins s σ H x v Q I rx (i x H Q q)
theorem CallR.imp{r':List V->Hp->VK->Prop}(h:CallR X f r)(i:∀ x H Q,r' x H Q->r x H Q):CallR X f r':=λpins s σ H x v Q I rx q=>h pins s σ H x v Q I rx (i x H Q q)
theorem IxR.imp{r':R2}(h:IxR X r)(i:∀ x y H Q,r' x y H Q->r x y H Q):IxR X r':=λva sl pins s σ H x y v u Q I rx ry q=>h va sl pins s σ H x y v u Q I rx ry (i x y H Q q)
def ae(i:Nat):ME:=λenv S=>(env[i]?).join.bind λd=>U (d,S)
def mC(d:D):ME:=λ_ S=>U (d,S)
theorem Ge{α:Type}{o:Option (Option α)}{a:α}(h:o.join=U a):o=U (U a):=by
 cases o with
 | none=>cases h
 | some o=>exact congrArg U h
theorem Ma{i:Nat}{x:Str}(hN:X.N[i]?=U x)(hv:QQ X.env.scope x)(hd:(x==("__debug__":Str))=false:=by decide)(hcd:(x==("__classdict__":Str))=false:=by decide):DE X (.Name x pos) (ae i):=
 PE.imp (BN hN hv hd hcd) λσ H Q z0=>by
  obtain⟨μ,S,env,d,S',hS,hE,hm,post⟩:=z0
  obtain⟨d',h1,h2⟩:=Ww.mp hm
  cases h2
  obtain⟨v,e,r⟩:=hE.get (Ge h1)
  exact⟨v,e,post.here hS r⟩
theorem lI{d:D}(h:PE X e (tC v))(r:∀ μ H,Rep X.K μ H v d):DE X e (mC d):=
 PE.imp h λσ H Q ⟨μ,S,env,d',S',hS,hE,hm,post⟩=>by cases hm;exact post.here hS (r μ H)
theorem VX{j pos}:DE X (.Constant (.int i) j pos) (mC (.int i)):=lI Tv λ_ _=>.int i
theorem de_bl{b j pos}:DE X (.Constant (.bool b) j pos) (mC (.bl b)):=lI pe_bl λ_ _=>.bl b
theorem VS{j pos}:DE X (.Constant .none j pos) (mC .non):=lI Tu λ_ _=>.non
theorem VP{x j pos}:DE X (.Constant (.str x) j pos) (mC (.str x)):=lI Tq λ_ _=>.str x
structure GC(K:FA)(mg:Str->Option dn)(x:Str)(d:D):Prop where
 ex:∃ u v,mg x=U u/\RelV v u/\∀ μ H,Rep K μ H v d
theorem Qq{d:D}(g:GC X.K X.mg x d)(hg:Gl X x:=by rfl)(hd:(x==("__debug__":Str))=false:=by decide):DE X (.Name x pos) (mC d):=by
 obtain⟨u,v,h1,h2,h3⟩:=g.ex
 exact lI (Dz hg h1 h2 hd) h3
def az(f:ac->D->D->Option D)(a b:ME):ME:=λenv S=>(a env S).bind λp=>(b env p.2).bind λq=>(f q.2 p.1 q.1).bind λz=>U (z,q.2)
theorem JC{S S':ac}{d:D}(h:az f a b env S=U (d,S')):∃ x S1 y,a env S=U (x,S1)/\b env S1=U (y,S')/\f S' x y=U d:=by
 obtain⟨⟨x,S1⟩,h1,h⟩:=Ww.mp h
 obtain⟨⟨y,S2⟩,h2,h⟩:=Ww.mp h
 obtain⟨z,h3,h⟩:=Ww.mp h
 cases h
 exact⟨x,S1,y,h1,h2,h3⟩
theorem sC{mb:ME}(h:tM K (az f ma mb) σ H Q):tOp (kn K f) (tM K ma) (tM K mb) σ H Q:=by
 obtain⟨μ,S,env,d,S',hS,hE,hm,post⟩:=h
 obtain⟨x,S1,y,h1,h2,h3⟩:=JC hm
 exact⟨μ,S,env,x,S1,hS,hE,h1,λv H1 μ1 e1 s1 r1=>⟨μ1,S1,env,y,S',s1,hE.mono e1,h2,λw H2 μ2 e2 s2 r2=>⟨μ2,S',x,y,d,s2,r1.mono e2,r2,h3,(post.ext e1).ext e2⟩⟩⟩
section
variable{a b c:pc}{ma mb mc:ME}{pos:Pos}
theorem oW(ho:OpR X (Ec op) (kn X.K f))(ha:DE X a ma)(hb:DE X b mb):DE X (.BinOp a op b pos) (az f ma mb):=
 PE.imp (pe_op ho ha hb) λ_ _ _ h=>sC h
theorem VZ(ho:OpR X (Db op) (kn X.K f))(ha:DE X a ma)(hb:DE X b mb)(hm:behindInMarks op b=false):DE X (.Compare a [op] [b] pos) (az f ma mb):=
 PE.imp (Of ho ha hb hm) λ_ _ _ h=>sC h
def aF(m:ME):MT:=λenv S=>(m env S).bind λp=>match p.1 with | .bl k=>U (k,p.2) | _=>Y
theorem tj{S S':ac}{k:Bool}(h:aF m env S=U (k,S')):m env S=U (.bl k,S'):=by
 obtain⟨⟨x,S1⟩,h1,h⟩:=Ww.mp h
 cases x<;>first | (cases h;exact h1) | cases h
theorem Rep.bl_inv{k:Bool}(h:Rep K μ H v (.bl k)):v=.bl k:=by cases h;rfl
theorem Rep.int_inv{k:Int}(h:Rep K μ H v (.int k)):v=.int k:=by cases h;rfl
theorem Rep.str_inv{k:Str}(h:Rep K μ H v (.str k)):v=.str k:=by cases h;rfl
theorem VD(ho:OpR X (Db op) (kn X.K f))(ha:DE X a ma)(hb:DE X b mb)(hm:behindInMarks op b=false):DT X (.Compare a [op] [b] pos) (aF (az f ma mb)):=
 PT.imp (NM ho ha hb hm) λσ H Q z0=>by
  obtain⟨μ,S,env,k,S',hS,hE,hm,post⟩:=z0
  have h:=tj hm
  refine sC ⟨μ,S,env,_,S',hS,hE,h,λv H' μ' e s r=>?_⟩
  exact⟨k,r.bl_inv,post H' μ' e s⟩
def cq(f g:ac->D->D->Option D)(a b c:ME):ME:=λenv S=>(a env S).bind λp=>(b env p.2).bind λq=>(f q.2 p.1 q.1).bind λz=>match z with
 | .bl true=>(c env q.2).bind λr=>(g r.2 q.1 r.1).bind λz=>U (z,r.2)
 | .bl false=>U (.bl false,q.2)
 | _=>Y
theorem vq{g:ac->D->D->Option D}(h:tM K (cq f g ma mb mc) σ H Q):Bv (kn K f) (kn K g) (tM K ma) (tM K mb) (tM K mc) σ H Q:=by
 obtain⟨μ,S,env,d,S',hS,hE,hm,post⟩:=h
 obtain⟨⟨x,S1⟩,h1,hm⟩:=Ww.mp hm
 obtain⟨⟨y,S2⟩,h2,hm⟩:=Ww.mp hm
 obtain⟨z,h3,hm⟩:=Ww.mp hm
 refine⟨μ,S,env,x,S1,hS,hE,h1,λv H1 μ1 e1 s1 r1=>⟨μ1,S1,env,y,S2,s1,hE.mono e1,h2,λw H2 μ2 e2 s2 r2=>⟨μ2,S2,x,y,z,s2,r1.mono e2,r2,h3,λu H3 μ3 e3 s3 r3=>?_⟩⟩⟩
 cases z with
 | bl k=>
  refine⟨k,r3.bl_inv,?_⟩
  cases k with
  | false=>cases hm;rw[WX WJ];exact post _ H3 μ3 ((e1.trans e2).trans e3) s3 (.bl false)
  | true=>
   obtain⟨⟨t,S4⟩,h4,hm⟩:=Ww.mp hm
   obtain⟨z,h5,hm⟩:=Ww.mp hm
   cases hm
   rw[WN rfl]
   exact⟨μ3,S2,env,t,S4,s3,hE.mono ((e1.trans e2).trans e3),h4,λu' H4 μ4 e4 s4 r4=>⟨μ4,_,y,t,_,s4,(r2.mono e3).mono e4,r4,h5,post.ext (((e1.trans e2).trans e3).trans e4)⟩⟩
 | _=>cases hm
theorem Ml{g:ac->D->D->Option D}(ho:OpR X (Db op) (kn X.K f))(ho':OpR X (Db op') (kn X.K g))(ha:DE X a ma)(hb:DE X b mb)(hc:DE X c mc)
  (hm:lastMarks [op,op'] [b,c]=false:=by with_unfolding_all rfl):DE X (.Compare a [op,op'] [b,c] pos) (cq f g ma mb mc):=
 PE.imp (Jb ho ho' ha hb hc hm) λ_ _ _ h=>vq h
theorem LG{g:ac->D->D->Option D}(ho:OpR X (Db op) (kn X.K f))(ho':OpR X (Db op') (kn X.K g))(ha:DE X a ma)(hb:DE X b mb)(hc:DE X c mc)
  (hm:lastMarks [op,op'] [b,c]=false:=by with_unfolding_all rfl):DT X (.Compare a [op,op'] [b,c] pos) (aF (cq f g ma mb mc)):=
 PT.imp (IN ho ho' ha hb hc hm) λσ H Q z0=>by
  obtain⟨μ,S,env,k,S',hS,hE,hm,post⟩:=z0
  have h:=tj hm
  refine vq ⟨μ,S,env,_,S',hS,hE,h,λv H' μ' e s r=>?_⟩
  exact⟨k,r.bl_inv,post H' μ' e s⟩
def sB(S:ac):D->Option Bool
 | .non=>U false
 | .bl b=>U b
 | .int i=>U (i != 0)
 | .str y=>if y.length<=ww then U ((y.length:Int) != 0) else Y
 | .tup xs=>U (!xs.isEmpty)
 | .lst xs=>U (!xs.isEmpty)
 | .rol xs=>U (!xs.isEmpty)
 | .dct ks _=>U (!ks.isEmpty)
 | .ref r=>match S[r]? with
  | some (.lst xs)=>U (!xs.isEmpty)
  | some (.dct ks _)=>U (!ks.isEmpty)
  | _=>Y
 | .txt=>Y
 | .obj=>Y
 | .exc _ _ _=>Y
 | .fn _=>Y
theorem Reps.isEmpty{vs:List V}{ds:List D}(r:Reps K μ H vs ds):(!ds.isEmpty) = !vs.isEmpty:=by cases r<;>rfl
theorem qL{α β:Type}(f:α->β)(l:List α):(!(l.map f).isEmpty) = !l.isEmpty:=by cases l<;>rfl
theorem rS{d:D}{k:Bool}(s:SOk K μ S H)(r:Rep K μ H x d)(h:sB S d=U k):Hq K x H k:=by
 cases r with
 | non=>cases h;rfl
 | bl b=>cases h;rfl
 | int i=>cases h;rfl
 | str y=>
  simp only[sB] at h
  split at h
  ·rename_i hy;cases h;exact⟨hy,rfl⟩
  ·cases h
 | @tup a vs ds h' n r=>cases h;exact .inr (.inl ⟨vs,.inl (.inl h'),r.isEmpty⟩)
 | @ktup a vs ds h' r=>cases h;exact .inr (.inl ⟨vs,.inr h',r.isEmpty⟩)
 | @lst a vs ds h' n r=>cases h;exact .inl ⟨vs,.inl (.inl h'),r.isEmpty⟩
 | @rol a vs ds h' n r=>cases h;exact .inl ⟨vs,.inl h',r.isEmpty⟩
 | @krol a vs ds h' r=>cases h;exact .inl ⟨vs,.inr h',r.isEmpty⟩
 | @dct a kvs ds h' n r=>cases h;exact .inr (.inr ⟨kvs,h',qL _ _⟩)
 | txt x=>cases h
 | obj h' n=>cases h
 | exc h' n h2 n2=>cases h
 | fn a=>cases h
 | @ref a i h'=>
  simp only[sB] at h
  cases q:S[i]? with
  | none=>rw[q] at h;cases h
  | some c=>
   rw[q] at h
   have ck:=s.cell i a c h' q
   cases c with
   | lst xs=>cases h;obtain⟨vs,e,r⟩:=ck;exact .inl ⟨vs,.inl (.inl e),r.isEmpty⟩
   | dct ks xs=>cases h;obtain⟨kvs,e,rfl,r⟩:=ck;exact .inr (.inr ⟨kvs,e,qL _ _⟩)
   | deep ks xs=>cases h
def cn(m:ME):MT:=λenv S=>(m env S).bind λp=>(sB p.2 p.1).bind λk=>U (k,p.2)
theorem AQ(ha:DE X a ma)(he:∀ whole,isTrue a X.env whole=(do let v <- whole;standAt a.pos;holding [v] (truthy v)):=by intro _;rfl):DT X a (cn ma):=
 PT.imp (IM ha he) λσ H Q z0=>by
  obtain⟨μ,S,env,k,S',hS,hE,hm,post⟩:=z0
  obtain⟨⟨x,S1⟩,h1,hm⟩:=Ww.mp hm
  obtain⟨k',h2,hm⟩:=Ww.mp hm
  cases hm
  exact⟨μ,S,env,x,S1,hS,hE,h1,λv H' μ' e s r=>⟨k,rS s r h2,post H' μ' e s⟩⟩
variable{ta tb tc:MT}{rest:List pc}
def gd(a b:MT):MT:=λenv S=>(a env S).bind λp=>if p.1=true then b env p.2 else U (false,p.2)
def cD(a b:MT):MT:=λenv S=>(a env S).bind λp=>if p.1=true then U (true,p.2) else b env p.2
def bO(a:MT):MT:=λenv S=>(a env S).bind λp=>U (!p.1,p.2)
theorem Nr(h:xk K (gd ta tb) σ H Q):tAnd (xk K ta) (xk K tb) σ H Q:=by
 obtain⟨μ,S,env,k,S',hS,hE,hm,post⟩:=h
 obtain⟨⟨x,S1⟩,h1,hm⟩:=Ww.mp hm
 refine⟨μ,S,env,x,S1,hS,hE,h1,λH1 μ1 e1 s1=>?_⟩
 cases x with
 | true=>rw[WN rfl] at hm ⊢;exact⟨μ1,S1,env,k,S',s1,hE.mono e1,hm,λH2 μ2 e2 s2=>post H2 μ2 (e1.trans e2) s2⟩
 | false=>rw[WX WJ] at hm ⊢;cases hm;exact post H1 μ1 e1 s1
theorem Ss(h:xk K (cD ta tb) σ H Q):tOr (xk K ta) (xk K tb) σ H Q:=by
 obtain⟨μ,S,env,k,S',hS,hE,hm,post⟩:=h
 obtain⟨⟨x,S1⟩,h1,hm⟩:=Ww.mp hm
 refine⟨μ,S,env,x,S1,hS,hE,h1,λH1 μ1 e1 s1=>?_⟩
 cases x with
 | false=>rw[WX WJ] at hm ⊢;exact⟨μ1,S1,env,k,S',s1,hE.mono e1,hm,λH2 μ2 e2 s2=>post H2 μ2 (e1.trans e2) s2⟩
 | true=>rw[WN rfl] at hm ⊢;cases hm;exact post H1 μ1 e1 s1
theorem EZ(ha:DT X a ta):DW X (.BoolOp .And [a] pos) ta:=NJ ha
theorem LC(ha:DT X a ta):DW X (.BoolOp .Or [a] pos) ta:=Tb ha
theorem LD(ha:DT X a ta)(hb:DW X (.BoolOp .And (b::rest) pos) tb):DW X (.BoolOp .And (a::b::rest) pos) (gd ta tb):=PW.imp (Tc ha hb) λ_ _ _ h=>Nr h
theorem RX(ha:DT X a ta)(hb:DW X (.BoolOp .Or (b::rest) pos) tb):DW X (.BoolOp .Or (a::b::rest) pos) (cD ta tb):=PW.imp (pw_or ha hb) λ_ _ _ h=>Ss h
theorem PQ(h:DW X a ta):DT X a ta:=PW.pt h
theorem VC(ha:DT X a ta):DT X (.UnaryOp .Not a pos) (bO ta):=PT.imp (Td ha) λσ H Q z0=>by
 obtain⟨μ,S,env,k,S',hS,hE,hm,post⟩:=z0
 obtain⟨⟨x,S1⟩,h1,hm⟩:=Ww.mp hm
 cases hm
 exact⟨μ,S,env,x,S1,hS,hE,h1,λH1 μ1 e1 s1=>post H1 μ1 e1 s1⟩
def ie(a b:ME):ME:=λenv S=>(a env S).bind λp=>match p.1 with | .bl true=>b env p.2 | .bl false=>U (.bl false,p.2) | _=>Y
def Ej(a b:ME):ME:=λenv S=>(a env S).bind λp=>match p.1 with | .bl false=>b env p.2 | .bl true=>U (.bl true,p.2) | _=>Y
theorem Mf{op}(h:DE X a ma):DE X (.BoolOp op [a] pos) ma:=Tt h
def kD(a:ME):ME:=λenv S=>(a env S).bind λp=>match p.1 with | .bl k=>U (.bl (!k),p.2) | _=>Y
def pW(t:MT)(a b:ME):ME:=λenv S=>(t env S).bind λp=>if p.1=true then a env p.2 else b env p.2
theorem de_if(hc:DT X c tc)(ha:DE X a ma)(hb:DE X b mb):DE X (.IfExp c a b pos) (pW tc ma mb):=PE.imp (Ja hc ha hb) λσ H Q z0=>by
 obtain⟨μ,S,env,d,S',hS,hE,hm,post⟩:=z0
 obtain⟨⟨x,S1⟩,h1,hm⟩:=Ww.mp hm
 refine⟨μ,S,env,x,S1,hS,hE,h1,λH1 μ1 e1 s1=>?_⟩
 cases x with
 | true=>rw[WN rfl] at hm ⊢;exact⟨μ1,S1,env,d,S',s1,hE.mono e1,hm,post.ext e1⟩
 | false=>rw[WX WJ] at hm ⊢;exact⟨μ1,S1,env,d,S',s1,hE.mono e1,hm,post.ext e1⟩
variable{es:List pc}{ms:MA}
def af:MA:=λ_ S=>U ([],S)
def aa(a:ME)(r:MA):MA:=λenv S=>(a env S).bind λp=>(r env p.2).bind λq=>U (p.1::q.1,q.2)
theorem Wa:DA X [] af:=PA.imp pL λσ H Q ⟨μ,S,env,d,S',hS,hE,hm,post⟩=>by cases hm;exact post [] H μ hS.ext hS .nil
theorem QA(ha:DE X a ma)(hr:DA X es ms)(hs:zH (a::es) X.env=(false,eval a X.env)::zH es X.env:=by rfl):DA X (a::es) (aa ma ms):=PA.imp (io ha hr hs) λσ H Q z0=>by
 obtain⟨μ,S,env,ds,S',hS,hE,hm,post⟩:=z0
 obtain⟨⟨x,S1⟩,h1,hm⟩:=Ww.mp hm
 obtain⟨⟨xs,S2⟩,h2,hm⟩:=Ww.mp hm
 cases hm
 exact⟨μ,S,env,x,S1,hS,hE,h1,λv H1 μ1 e1 s1 r1=>⟨μ1,S1,env,xs,S2,s1,hE.mono e1,h2,λvs H2 μ2 e2 s2 r2=>post (v::vs) H2 μ2 (e1.trans e2) s2 (.cons (r1.mono e2) r2)⟩⟩
def bB(ms:MA):ME:=λenv S=>(ms env S).bind λp=>if p.1.length<=ww then U (.tup p.1,p.2) else Y
def cP(ms:MA):ME:=λenv S=>(ms env S).bind λp=>if p.1.length<=ww then U (.lst p.1,p.2) else Y
def fA(ms:MA):ME:=λenv S=>(ms env S).bind λp=>if p.1.length<=ww then U (.ref p.2.length,p.2++[.lst p.1]) else Y
theorem Post.tup(post:Post K μ H S (.tup ds) Q)(s:SOk K μ S H)(hp:H p=Y)(r:Reps K μ H vs ds):Q (.ref p) (upd H p (.tup vs)):=by
 obtain⟨e,s'⟩:=s.laid (o:=.tup vs) hp
 exact post _ _ _ e s' (.tup aB (s.notMem hp) (r.mono e))
theorem Post.lst(post:Post K μ H S (.lst ds) Q)(s:SOk K μ S H)(hp:H p=Y)(r:Reps K μ H vs ds):Q (.ref p) (upd H p (.lst vs)):=by
 obtain⟨e,s'⟩:=s.laid (o:=.lst vs) hp
 exact post _ _ _ e s' (.lst aB (s.notMem hp) (r.mono e))
theorem Post.lstR(post:Post K μ H (S++[.lst ds]) (.ref S.length) Q)(s:SOk K μ S H)(hp:H p=Y)(r:Reps K μ H vs ds):Q (.ref p) (upd H p (.lst vs)):=by
 obtain⟨e,s'⟩:=s.alloc hp r
 exact post _ _ _ e s' (.ref (by rw[<- s.len,XJ (WH _)];simp))
theorem VO{k}(h:DA X es ms):DE X (.Tuple es k pos) (bB ms):=PE.imp (IY h) λσ H Q z0=>by
 obtain⟨μ,S,env,d,S',hS,hE,hm,post⟩:=z0
 obtain⟨⟨xs,S1⟩,h1,hm⟩:=Ww.mp hm
 dsimp only at hm
 split at hm
 ·rename_i hl
  cases hm
  exact⟨μ,S,env,_,_,hS,hE,h1,λvs H1 μ1 e1 s1 r1=>⟨by rw[r1.length];exact hl,λp hp=>(post.ext e1).tup s1 hp r1⟩⟩
 ·cases hm
theorem VT(h:DA X es ms):DE X (.List es pos) (cP ms):=PE.imp (IZ h) λσ H Q z0=>by
 obtain⟨μ,S,env,d,S',hS,hE,hm,post⟩:=z0
 obtain⟨⟨xs,S1⟩,h1,hm⟩:=Ww.mp hm
 dsimp only at hm
 split at hm
 ·rename_i hl
  cases hm
  exact⟨μ,S,env,_,_,hS,hE,h1,λvs H1 μ1 e1 s1 r1=>⟨by rw[r1.length];exact hl,λp hp=>(post.ext e1).lst s1 hp r1⟩⟩
 ·cases hm
theorem Qo(h:DA X es ms):DE X (.List es pos) (fA ms):=PE.imp (IZ h) λσ H Q z0=>by
 obtain⟨μ,S,env,d,S',hS,hE,hm,post⟩:=z0
 obtain⟨⟨xs,S1⟩,h1,hm⟩:=Ww.mp hm
 dsimp only at hm
 split at hm
 ·rename_i hl
  cases hm
  exact⟨μ,S,env,_,_,hS,hE,h1,λvs H1 μ1 e1 s1 r1=>⟨by rw[r1.length];exact hl,λp hp=>(post.ext e1).lstR s1 hp r1⟩⟩
 ·cases hm
theorem Qs:DE X (.Dict [] [] pos) (mC (.dct [] [])):=PE.imp zp λσ H Q z0=>by
 obtain⟨μ,S,env,d,S',hS,hE,hm,post⟩:=z0
 cases hm
 intro p hp
 obtain⟨e,s'⟩:=hS.laid (o:=.dK []) hp
 exact post _ _ _ e s' (.dct (kvs:=[]) aB (hS.notMem hp) .nil)
end
end
mutual
def jI:D->D->Bool
 | .non,.non=>true
 | .bl a,.bl b=>a==b
 | .bl a,.int b=>(if a then 1 else 0)==b
 | .int a,.bl b=>a==(if b then 1 else 0)
 | .int a,.int b=>a==b
 | .str a,.str b=>a==b
 | .tup xs,.tup ys=>eqDs xs ys
 | .lst xs,.lst ys=>eqDs xs ys
 | _,_=>false
def eqDs:List D->List D->Bool
 | [],[]=>true
 | x::xs,y::ys=>jI x y&&eqDs xs ys
 | _,_=>false
end
def bN:Nat->D->Bool
 | _,.non=>true
 | _,.bl _=>true
 | _,.int _=>true
 | _,.str _=>true
 | n+1,.tup xs=>xs.all (bN n)
 | n+1,.lst xs=>xs.all (bN n)
 | _,_=>false
theorem sU:∀ {n m:Nat} {d:D},n<=m->bN n d=true->bN m d=true
 | n,m,.non,_,_=>by simp[bN]
 | n,m,.bl _,_,_=>by simp[bN]
 | n,m,.int _,_,_=>by simp[bN]
 | n,m,.str _,_,_=>by simp[bN]
 | 0,m,.tup _,_,h=>by simp[bN] at h
 | 0,m,.lst _,_,h=>by simp[bN] at h
 | n+1,m+1,.tup xs,hl,h=>by
  simp only[bN,WP] at h ⊢
  exact λd hd=>sU (YK hl) (h d hd)
 | n+1,m+1,.lst xs,hl,h=>by
  simp only[bN,WP] at h ⊢
  exact λd hd=>sU (YK hl) (h d hd)
 | n+1,0,.tup _,hl,_=>absurd hl (by omega)
 | n+1,0,.lst _,hl,_=>absurd hl (by omega)
 | n,m,.rol _,_,h=>by cases n<;>simp[bN] at h
 | n,m,.txt,_,h=>by cases n<;>simp[bN] at h
 | n,m,.obj,_,h=>by cases n<;>simp[bN] at h
 | n,m,.exc _ _ _,_,h=>by cases n<;>simp[bN] at h
 | n,m,.fn _,_,h=>by cases n<;>simp[bN] at h
 | n,m,.dct _ _,_,h=>by cases n<;>simp[bN] at h
 | n,m,.ref _,_,h=>by cases n<;>simp[bN] at h
theorem yu:∀ (xs ys:List D),eqDs xs ys=((List.range (min xs.length ys.length)).all (λj=>match xs[j]?,ys[j]? with | some a,U b=>jI a b | _,_=>true)&&xs.length==ys.length)
 | [],[]=>rfl
 | [],y::ys=>by simp[eqDs]
 | x::xs,[]=>by simp[eqDs]
 | x::xs,y::ys=>by
  have ih:=yu xs ys
  rw[eqDs,ih]
  have hm:min (x::xs).length (y::ys).length=min xs.length ys.length+1:=by simp only[WF];omega
  rw[hm,aaW,XC,Yw]
  simp only[List.getElem?_cons_zero,WF,aaC]
  congr 1
  congr 1
  rw[Xq];simp
section
variable{X:Cx}{pins:List (gV×Obj)}{σ:L2.St}{H:Hp}{s:gw}{μ:Fp}{A:tx}
theorem Rep.sqT{K:FA}(r:Rep K μ H v (.tup ds)):∃ a vs,v=.ref a/\mj K H a vs/\Reps K μ H vs ds:=by
 cases r with
 | tup h n r=>exact⟨_,_,rfl,.inl (.inl h),r⟩
 | ktup h r=>exact⟨_,_,rfl,.inr h,r⟩
theorem Rep.sqL{K:FA}(r:Rep K μ H v (.lst ds)):∃ a vs,v=.ref a/\H a=U (.lst vs)/\μ.no a/\Reps K μ H vs ds:=by
 cases r with
 | lst h n r=>exact⟨_,_,rfl,h,n,r⟩
theorem Rep.sqR{K:FA}(r:Rep K μ H v (.rol ds)):∃ a vs,v=.ref a/\kK K H a vs/\Reps K μ H vs ds:=by
 cases r with
 | rol h n r=>exact⟨_,_,rfl,.inl h,r⟩
 | krol h r=>exact⟨_,_,rfl,.inr h,r⟩
theorem ntl(I:Inv X pins σ H s)(h:mj X.K H a xs)(h':kK X.K H a ys):False:=by
 obtain⟨its,_,⟨o,e,c,_⟩,_⟩:=I.tuple h
 obtain⟨its',_,⟨o',n',e',c',_⟩,_⟩:=I.list h'
 rw[e] at e';cases e'
 rw[c] at c'
 exact absurd c' (by simp)
theorem Rep.non_inv{K:FA}(h:Rep K μ H v .non):v=.non:=by cases h;rfl
theorem DM:bN n (.rol xs)=false:=by cases n<;>rfl
theorem DR:bN n (.dct ks xs)=false:=by cases n<;>rfl
theorem DN:bN n (.ref r)=false:=by cases n<;>rfl
theorem DL:bN n .txt=false:=by cases n<;>rfl
theorem DP:bN n .obj=false:=by cases n<;>rfl
theorem DQ:bN n (.exc C fl i)=false:=by cases n<;>rfl
theorem Ji:bN n (.fn a)=false:=by cases n<;>rfl
theorem rW(h:bN n (.tup xs)=true):∃ m,m+1=n/\∀ x∈xs,bN m x=true:=by
 cases n with
 | zero=>cases h
 | succ n=>exact⟨n,rfl,WP.mp h⟩
theorem rX(h:bN n (.lst xs)=true):∃ m,m+1=n/\∀ x∈xs,bN m x=true:=by
 cases n with
 | zero=>cases h
 | succ n=>exact⟨n,rfl,WP.mp h⟩
inductive Fm(K:FA)(μ:Fp)(H:Hp):D->V->Prop
 | non:Fm K μ H .non .non
 | bl (b:Bool):Fm K μ H (.bl b) (.bl b)
 | int (i:Int):Fm K μ H (.int i) (.int i)
 | str (x:Str):Fm K μ H (.str x) (.str x)
 | tup {xs:List D} {l:gV} {vs:List V} (q:mj K H l vs) (r:Reps K μ H vs xs):Fm K μ H (.tup xs) (.ref l)
 | lst {xs:List D} {l:gV} {vs:List V} (q:kK K H l vs) (r:Reps K μ H vs xs):Fm K μ H (.lst xs) (.ref l)
theorem qV{K:FA}(hx:bN n x=true)(r:Rep K μ H a x):Fm K μ H x a:=by
 cases x with
 | non=>rw[r.non_inv];exact .non
 | bl b=>rw[r.bl_inv];exact .bl b
 | int b=>rw[r.int_inv];exact .int b
 | str b=>rw[r.str_inv];exact .str b
 | tup xs=>obtain⟨l,vs,rfl,q,r⟩:=r.sqT;exact .tup q r
 | lst xs=>obtain⟨l,vs,rfl,q,_,r⟩:=r.sqL;exact .lst (.inl (.inl q)) r
 | rol _=>rw[DM] at hx;cases hx
 | dct _ _=>rw[DR] at hx;cases hx
 | ref _=>rw[DN] at hx;cases hx
 | txt=>rw[DL] at hx;cases hx
 | obj=>rw[DP] at hx;cases hx
 | exc C fl i=>rw[DQ] at hx;cases hx
 | fn a=>rw[Ji] at hx;cases hx
theorem Reps.injN{K:FA}(ih:∀ {v:V} {x y:D},bN n x=true->bN n y=true->Rep K μ H v x->Rep K μ H v y->x=y):∀ {vs:List V} {xs ys:List D},(∀ x∈xs,bN n x=true)->(∀ y∈ys,bN n y=true)->Reps K μ H vs xs->Reps K μ H vs ys->xs=ys
 | _,_,_,_,_,.nil,.nil=>rfl
 | _,_,_,hx,hy,.cons h t,.cons h' t'=>by
  rw[ih (hx _ WE) (hy _ WE) h h',Reps.injN ih (λx m=>hx x (WB _ m)) (λx m=>hy x (WB _ m)) t t']
theorem As(I:Inv X pins σ H s)(n:Nat)(ih:∀ m,m+1=n->∀ {v:V} {x y:D},bN m x=true->bN m y=true->Rep X.K μ H v x->Rep X.K μ H v y->x=y)(hx:bN n x=true)(hy:bN n y=true)(rx:Rep X.K μ H v x)(ry:Rep X.K μ H v y):x=y:=by
 have fy:=qV hy ry
 cases x with
 | tup xs=>
  obtain⟨a,vs,rfl,q,r⟩:=rx.sqT
  obtain⟨m,hm,ox⟩:=rW hx
  cases fy with
  | tup q' r'=>
   cases I.tuple_inj q' q
   obtain⟨m',hm',oy⟩:=rW hy
   have:m'=m:=by omega
   subst this
   rw[Reps.injN (ih m' hm) ox oy r r']
  | lst q' _=>exact(ntl I q q').elim
 | lst xs=>
  obtain⟨a,vs,rfl,q,_,r⟩:=rx.sqL
  obtain⟨m,hm,ox⟩:=rX hx
  cases y with
  | lst ys=>
   obtain⟨m',hm',oy⟩:=rX hy
   have:m'=m:=by omega
   subst this
   obtain⟨a',vs',e,q',_,r'⟩:=ry.sqL
   cases e
   rw[q] at q';cases q'
   rw[Reps.injN (ih m' hm) ox oy r r']
  | _=>cases fy<;>exact(ntl I (by assumption) (.inl (.inl q))).elim
 | non=>rw[rx.non_inv] at fy;cases fy;rfl
 | bl b=>rw[rx.bl_inv] at fy;cases fy;rfl
 | int b=>rw[rx.int_inv] at fy;cases fy;rfl
 | str b=>rw[rx.str_inv] at fy;cases fy;rfl
 | rol _=>rw[DM] at hx;cases hx
 | dct _ _=>rw[DR] at hx;cases hx
 | ref _=>rw[DN] at hx;cases hx
 | txt=>rw[DL] at hx;cases hx
 | obj=>rw[DP] at hx;cases hx
 | exc C fl i=>rw[DQ] at hx;cases hx
 | fn a=>rw[Ji] at hx;cases hx
theorem Rep.inj(I:Inv X pins σ H s)(n:Nat):∀ {v:V} {x y:D},bN n x=true->bN n y=true->Rep X.K μ H v x->Rep X.K μ H v y->x=y:=by
 induction n with
 | zero=>exact λhx hy rx ry=>As I 0 (λm h=>absurd h (Nat.succ_ne_zero m)) hx hy rx ry
 | succ n ih=>exact λhx hy rx ry=>As I (n+1) (λm h=>by cases h;exact ih) hx hy rx ry
theorem lG:∀ (n:Nat) (x:D),bN n x=true->jI x x=true
 | n,.non,_=>rfl
 | n,.bl _,_=>by simp[jI]
 | n,.int _,_=>by simp[jI]
 | n,.str _,_=>by simp[jI]
 | 0,.tup _,h=>by simp[bN] at h
 | 0,.lst _,h=>by simp[bN] at h
 | n+1,.tup xs,h=>by
  simp only[bN,WP] at h
  rw[jI]
  induction xs with
  | nil=>rfl
  | cons x xs ih=>rw[eqDs,lG n x (h x WE),ih λy m=>h y (WB _ m)];rfl
 | n+1,.lst xs,h=>by
  simp only[bN,WP] at h
  rw[jI]
  induction xs with
  | nil=>rfl
  | cons x xs ih=>rw[eqDs,lG n x (h x WE),ih λy m=>h y (WB _ m)];rfl
 | n,.rol _,h=>by cases n<;>simp[bN] at h
 | n,.txt,h=>by cases n<;>simp[bN] at h
 | n,.obj,h=>by cases n<;>simp[bN] at h
 | n,.exc _ _ _,h=>by cases n<;>simp[bN] at h
 | n,.fn _,h=>by cases n<;>simp[bN] at h
 | n,.dct _ _,h=>by cases n<;>simp[bN] at h
 | n,.ref _,h=>by cases n<;>simp[bN] at h
open PySem.SeqAt
theorem in1_units(A:tx):A.in1.units=A.units+1:=rfl
theorem wj{P:dn->dn->Bool->Prop}(r1:Vals vs its)(q1:Reps X.K μ H vs xs)(r2:Vals ws its2)(q2:Reps X.K μ H ws ys)
  (h:∀ (j:Nat) (v w:V) (u u':dn) (x y:D),xs[j]?=U x->ys[j]?=U y->Rep X.K μ H v x->Rep X.K μ H w y->RelV v u->RelV w u'->P u u' (jI x y)) :
  ∀ j (h1:j<its.toArray.size) (h2:j<its2.toArray.size),P its.toArray[j] its2.toArray[j] (match xs[j]?,ys[j]? with | some a,U b=>jI a b | _,_=>true):=λj h1 h2=>by
 have l1:=r1.length
 have l2:=r2.length
 have m1:=q1.length
 have m2:=q2.length
 have h1':j<its.length:=by simpa using h1
 have h2':j<its2.length:=by simpa using h2
 have hx:xs[j]?=U xs[j]:=WK (by omega)
 have hy:ys[j]?=U ys[j]:=WK (by omega)
 obtain⟨v,e1,p1⟩:=q1.get hx
 obtain⟨w,e2,p2⟩:=q2.get hy
 obtain⟨u,f1,g1⟩:=r1.get e1
 obtain⟨u',f2,g2⟩:=r2.get e2
 rw[hx,hy]
 have:=h j v w u u' _ _ hx hy p1 p2 g1 g2
 have f1':its.toArray[j]=u:=by simpa[WK h1'] using f1
 have f2':its2.toArray[j]=u':=by simpa[WK h2'] using f2
 rw[f1',f2']
 exact this
structure Wv(A:tx)(s:gw)(u v:dn)(b:Bool):Prop where
 eq:EqAt A s u v b
 rc:RcAt A s u v b
 ne:RcNeAt A s u v (!b)
theorem EY(I:Inv X pins σ H s)(n:Nat)(ih:∀ m,m+1=n->∀ (A:tx) {a b:V} {u v:dn} {x y:D},A.units+m<cLine->bN m x=true->bN m y=true->Rep X.K μ H a x->Rep X.K μ H b y->RelV a u->RelV b v->Wv A s u v (jI x y))
  (A:tx) (hn:A.units+n<cLine) (hx:bN n x=true) (hy:bN n y=true) (rx:Rep X.K μ H a x) (ry:Rep X.K μ H b y) (ra:RelV a u) (rb:RelV b v):Wv A s u v (jI x y):=by
 have hu:A.units<cLine:=by omega
 cases qV hx rx with
 | non=>
  cases ra
  cases qV hy ry with
  | non=>cases rb;exact⟨EqAt.same _,RcAt.none_none,RcNeAt.none_none⟩
  | bl b=>cases rb;exact⟨EqAt.none_bool b,RcAt.none_bool b,RcNeAt.none_bool b⟩
  | int b=>obtain⟨t,rfl⟩:=rb;exact⟨EqAt.none_int b t,RcAt.none_int b t,RcNeAt.none_int b t⟩
  | str b=>obtain⟨t,rfl⟩:=rb;exact⟨EqAt.none_str b t,RcAt.none_str b t,RcNeAt.none_str b t⟩
  | tup q r=>cases rb;obtain⟨its,rv,p,_⟩:=I.tuple q;exact⟨EqAt.none_tuple p hu,RcAt.none_tuple p hu,RcNeAt.none_tuple p hu⟩
  | lst q r=>cases rb;obtain⟨its,rv,p,_⟩:=I.list q;exact⟨EqAt.none_list p.isList hu,RcAt.none_list p.isList hu,RcNeAt.none_list p.isList hu⟩
 | bl a=>
  cases ra
  cases qV hy ry with
  | non=>cases rb;exact⟨EqAt.bool_none a,RcAt.bool_none a,RcNeAt.bool_none a⟩
  | bl b=>cases rb;exact⟨EqAt.bool_bool a b,RcAt.bool_bool a b,RcNeAt.bool_bool a b⟩
  | int b=>obtain⟨t,rfl⟩:=rb;exact⟨EqAt.bool_int a b t,RcAt.bool_int a b t,RcNeAt.bool_int a b t⟩
  | str b=>obtain⟨t,rfl⟩:=rb;exact⟨EqAt.bool_str a b t,RcAt.bool_str a b t,RcNeAt.bool_str a b t⟩
  | tup q r=>cases rb;obtain⟨its,rv,p,_⟩:=I.tuple q;exact⟨EqAt.bool_tuple a p hu,RcAt.bool_tuple a p hu,RcNeAt.bool_tuple a p hu⟩
  | lst q r=>cases rb;obtain⟨its,rv,p,_⟩:=I.list q;exact⟨EqAt.bool_list a p.isList hu,RcAt.bool_list a p.isList hu,RcNeAt.bool_list a p.isList hu⟩
 | int a=>
  obtain⟨t',rfl⟩:=ra
  cases qV hy ry with
  | non=>cases rb;exact⟨EqAt.int_none a t',RcAt.int_none a t',RcNeAt.int_none a t'⟩
  | bl b=>cases rb;exact⟨EqAt.int_bool a t' b,RcAt.int_bool a t' b,RcNeAt.int_bool a t' b⟩
  | int b=>obtain⟨t,rfl⟩:=rb;exact⟨EqAt.int_int a t' b t,RcAt.int_int a t' b t,RcNeAt.int_int a t' b t⟩
  | str b=>obtain⟨t,rfl⟩:=rb;exact⟨EqAt.int_str a t' b t,RcAt.int_str a t' b t,RcNeAt.int_str a t' b t⟩
  | tup q r=>cases rb;obtain⟨its,rv,p,_⟩:=I.tuple q;exact⟨EqAt.int_tuple a t' p hu,RcAt.int_tuple a t' p hu,RcNeAt.int_tuple a t' p hu⟩
  | lst q r=>cases rb;obtain⟨its,rv,p,_⟩:=I.list q;exact⟨EqAt.int_list a t' p.isList hu,RcAt.int_list a t' p.isList hu,RcNeAt.int_list a t' p.isList hu⟩
 | str a=>
  obtain⟨t',rfl⟩:=ra
  cases qV hy ry with
  | non=>cases rb;exact⟨EqAt.str_none a t',RcAt.str_none a t',RcNeAt.str_none a t'⟩
  | bl b=>cases rb;exact⟨EqAt.str_bool a t' b,RcAt.str_bool a t' b,RcNeAt.str_bool a t' b⟩
  | int b=>obtain⟨t,rfl⟩:=rb;exact⟨EqAt.str_int a t' b t,RcAt.str_int a t' b t,RcNeAt.str_int a t' b t⟩
  | str b=>obtain⟨t,rfl⟩:=rb;exact⟨EqAt.str_str a t' b t,RcAt.str_str a t' b t,RcNeAt.str_str a t' b t⟩
  | tup q r=>cases rb;obtain⟨its,rv,p,_⟩:=I.tuple q;exact⟨EqAt.str_tuple a t' p hu,RcAt.str_tuple a t' p hu,RcNeAt.str_tuple a t' p hu⟩
  | lst q r=>cases rb;obtain⟨its,rv,p,_⟩:=I.list q;exact⟨EqAt.str_list a t' p.isList hu,RcAt.str_list a t' p.isList hu,RcNeAt.str_list a t' p.isList hu⟩
 | @tup xs l vs q r=>
  cases ra
  obtain⟨its,rv,p,_⟩:=I.tuple q
  cases qV hy ry with
  | non=>cases rb;exact⟨EqAt.tuple_none p hu,RcAt.tuple_none p hu,RcNeAt.tuple_none p hu⟩
  | bl b=>cases rb;exact⟨EqAt.tuple_bool b p hu,RcAt.tuple_bool b p hu,RcNeAt.tuple_bool b p hu⟩
  | int b=>obtain⟨t,rfl⟩:=rb;exact⟨EqAt.tuple_int b t p hu,RcAt.tuple_int b t p hu,RcNeAt.tuple_int b t p hu⟩
  | str b=>obtain⟨t,rfl⟩:=rb;exact⟨EqAt.tuple_str b t p hu,RcAt.tuple_str b t p hu,RcNeAt.tuple_str b t p hu⟩
  | @tup ys l' vs' q' r'=>
   cases rb
   obtain⟨its',rv',p',_⟩:=I.tuple q'
   obtain⟨m,hm,ox⟩:=rW hx
   obtain⟨m',hm',oy⟩:=rW hy
   have:m'=m:=by omega
   subst this
   have all:=wj (P:=λu u' b=>EqAt A.in1 s u u' b) rv r rv' r' λj v w u u' x y hx' hy' q1 q2 g1 g2=>
    (ih m' hm A.in1 (by rw[in1_units];omega) (ox x (Xw hx')) (oy y (Xw hy')) q1 q2 g1 g2).eq
   have e0:its.toArray.size=xs.length:=by rw[WD,<- rv.length,r.length]
   have e1:its'.toArray.size=ys.length:=by rw[WD,<- rv'.length,r'.length]
   have key:=RcAt.tuples (A:=A) (s:=s) p p' hu all
   have kne:=RcNeAt.tuples (A:=A) (s:=s) p p' hu all
   rw[e0,e1,<- yu] at key kne
   refine⟨?_,key,kne⟩
   by_cases hl:l=l'
   ·subst hl
    rw[<- Rep.inj I n hx hy rx ry,lG _ _ hx]
    exact EqAt.same _
   ·exact EqAt.of_refs hl key
  | lst q' r'=>cases rb;obtain⟨its',rv',p',_⟩:=I.list q';exact⟨EqAt.tuple_list p p'.isList hu,RcAt.tuple_list p p'.isList hu,RcNeAt.tuple_list p p'.isList hu⟩
 | @lst xs l vs q r=>
  cases ra
  obtain⟨its,rv,p0,_⟩:=I.list q
  have p:=p0.isList
  cases qV hy ry with
  | non=>cases rb;exact⟨EqAt.list_none p hu,RcAt.list_none p hu,RcNeAt.list_none p hu⟩
  | bl b=>cases rb;exact⟨EqAt.list_bool b p hu,RcAt.list_bool b p hu,RcNeAt.list_bool b p hu⟩
  | int b=>obtain⟨t,rfl⟩:=rb;exact⟨EqAt.list_int b t p hu,RcAt.list_int b t p hu,RcNeAt.list_int b t p hu⟩
  | str b=>obtain⟨t,rfl⟩:=rb;exact⟨EqAt.list_str b t p hu,RcAt.list_str b t p hu,RcNeAt.list_str b t p hu⟩
  | tup q' r'=>cases rb;obtain⟨its',rv',p',_⟩:=I.tuple q';exact⟨EqAt.list_tuple p p' hu,RcAt.list_tuple p p' hu,RcNeAt.list_tuple p p' hu⟩
  | @lst ys l' vs' q' r'=>
   cases rb
   obtain⟨its',rv',p0',_⟩:=I.list q'
   have p':=p0'.isList
   obtain⟨m,hm,ox⟩:=rX hx
   obtain⟨m',hm',oy⟩:=rX hy
   have:m'=m:=by omega
   subst this
   have all:=wj (P:=λu u' b=>EqAt A.in1 s u u' b) rv r rv' r' λj v w u u' x y hx' hy' q1 q2 g1 g2=>
    (ih m' hm A.in1 (by rw[in1_units];omega) (ox x (Xw hx')) (oy y (Xw hy')) q1 q2 g1 g2).eq
   have e0:its.toArray.size=xs.length:=by rw[WD,<- rv.length,r.length]
   have e1:its'.toArray.size=ys.length:=by rw[WD,<- rv'.length,r'.length]
   have key:RcAt A s (.ref l) (.ref l') (eqDs xs ys)/\RcNeAt A s (.ref l) (.ref l') (!eqDs xs ys):=by
    rw[yu]
    by_cases hlen:xs.length=ys.length
    ·have k1:=RcAt.lists (A:=A) (s:=s) p p' (by rw[e0,e1,hlen]) hu all
     have k2:=RcNeAt.lists (A:=A) (s:=s) p p' (by rw[e0,e1,hlen]) hu all
     rw[e0] at k1 k2
     rw[<- hlen,Nat.min_self,YO,ZV]
     exact⟨k1,k2⟩
    ·rw[show(xs.length==ys.length)=false from Yh.mpr hlen,aaB]
     exact⟨RcAt.lists_lengths (A:=A) (s:=s) p p' (by rw[e0,e1];exact bne_iff_ne.mpr hlen) hu,RcNeAt.lists_lengths (A:=A) (s:=s) p p' (by rw[e0,e1];exact bne_iff_ne.mpr hlen) hu⟩
   refine⟨?_,key.1,key.2⟩
   by_cases hl:l=l'
   ·subst hl
    rw[<- Rep.inj I n hx hy rx ry,lG _ _ hx]
    exact EqAt.same _
   ·exact EqAt.of_refs hl key.1
theorem We(I:Inv X pins σ H s)(n:Nat):∀ (A:tx) {a b:V} {u v:dn} {x y:D},A.units+n<cLine->bN n x=true->bN n y=true->Rep X.K μ H a x->Rep X.K μ H b y->RelV a u->RelV b v->Wv A s u v (jI x y):=by
 induction n with
 | zero=>exact λA _ _ _ _ _ _ hn hx hy rx ry ra rb=>EY I 0 (λm h=>absurd h (Nat.succ_ne_zero m)) A hn hx hy rx ry ra rb
 | succ n ih=>exact λA _ _ _ _ _ _ hn hx hy rx ry ra rb=>EY I (n+1) (λm h=>by cases h;exact ih) A hn hx hy rx ry ra rb
theorem eqRc(I:Inv X pins σ H s)(n:Nat)(A:tx)(hn:A.units+n<cLine)(hx:bN n x=true)(hy:bN n y=true)(rx:Rep X.K μ H a x)(ry:Rep X.K μ H b y)(ra:RelV a u)(rb:RelV b v) :
  EqAt A s u v (jI x y)/\RcAt A s u v (jI x y):=⟨(We I n A hn hx hy rx ry ra rb).eq,(We I n A hn hx hy rx ry ra rb).rc⟩
theorem neRc(I:Inv X pins σ H s)(n:Nat)(A:tx)(hn:A.units+n<cLine)(hx:bN n x=true)(hy:bN n y=true)(rx:Rep X.K μ H a x)(ry:Rep X.K μ H b y)(ra:RelV a u)(rb:RelV b v) :
  RcNeAt A s u v (!jI x y):=(We I n A hn hx hy rx ry ra rb).ne
end
def fO(S:ac):D->Option (List D)
 | .tup xs=>U xs
 | .lst xs=>U xs
 | .rol xs=>U xs
 | .ref r=>match S[r]? with | some (.lst xs)=>U xs | _=>Y
 | _=>Y
section
variable{X:Cx}{K:FA}{μ:Fp}{H:Hp}{S:ac}
theorem gS{d:D}{ds:List D}(s:SOk K μ S H)(r:Rep K μ H x d)(h:fO S d=U ds):∃ a vs,x=.ref a/\(kK K H a vs\/mj K H a vs)/\Reps K μ H vs ds:=by
 cases r with
 | tup h' n r=>cases h;exact⟨_,_,rfl,.inr (.inl (.inl h')),r⟩
 | ktup h' r=>cases h;exact⟨_,_,rfl,.inr (.inr h'),r⟩
 | lst h' n r=>cases h;exact⟨_,_,rfl,.inl (.inl (.inl h')),r⟩
 | rol h' n r=>cases h;exact⟨_,_,rfl,.inl (.inl h'),r⟩
 | krol h' r=>cases h;exact⟨_,_,rfl,.inl (.inr h'),r⟩
 | @ref a i h'=>
  simp only[fO] at h
  cases q:S[i]? with
  | none=>rw[q] at h;cases h
  | some c=>
   rw[q] at h
   have ck:=s.cell i a c h' q
   cases c with
   | lst xs=>cases h;obtain⟨vs,e,r⟩:=ck;exact⟨_,vs,rfl,.inl (.inl (.inl e)),r⟩
   | dct ks xs=>cases h
   | deep ks xs=>cases h
 | _=>cases h
theorem Rep.free{d:D}(h:bN n d=true)(r:Rep K μ H v d):Rep K ⟨[],[]⟩ H v d:=
 Rep.to (P:=λd=>∃ n,bN n d=true) (λd ⟨n,h⟩ x hx=>by
  cases n with
  | zero=>cases d<;>first | (cases hx;done) | (simp[bN] at h;done)
  | succ n=>cases d<;>first | (cases hx;done) | exact⟨n,WP.mp h x hx⟩ | (simp[bN] at h;done)) (λh _=>⟨h,by simp,by simp⟩) (λ⟨n,h⟩=>by cases n<;>simp[bN] at h) r ⟨n,h⟩
theorem Reps.free{ds:List D}(h:ds.all (bN n)=true)(r:Reps K μ H vs ds):Reps K ⟨[],[]⟩ H vs ds:=Reps.to (P:=λd=>bN n d=true) (λr h=>Rep.free h r) r (WP.mp h)
def lH(S:ac):D->D
 | .ref r=>match S[r]? with | some (.lst xs)=>.lst xs | _=>.ref r
 | d=>d
theorem so{d:D}(h:bN n d=true):lH S d=d:=by
 cases d<;>first | rfl | (cases n<;>simp[bN] at h)
theorem oV{d:D}(s:SOk K μ S H)(r:Rep K μ H v d)(h:bN n (lH S d)=true):Rep K ⟨[],[]⟩ H v (lH S d):=by
 by_cases hd:lH S d=d
 ·rw[hd] at h ⊢;exact Rep.free h r
 ·cases r with
  | @ref a i h'=>
   cases q:S[i]? with
   | none=>exact absurd (by simp only[lH,q]) hd
   | some c=>
    cases c with
    | dct ks vs=>exact absurd (by simp only[lH,q]) hd
    | deep ks vs=>exact absurd (by simp only[lH,q]) hd
    | lst xs=>
     have e:lH S (.ref i)=.lst xs:=by simp only[lH,q]
     rw[e] at h ⊢
     obtain⟨vs,e,r⟩:=s.cell i a _ h' q
     cases n with
     | zero=>simp[bN] at h
     | succ n=>exact .lst e ⟨by simp,by simp⟩ (Reps.free (n:=n) h r)
  | _=>exact absurd rfl hd
def jG(S:ac)(x y:D):Option D:=if bN 40 (lH S x)=true/\bN 40 (lH S y)=true then U (.bl (jI (lH S x) (lH S y))) else Y
def mw(S:ac)(x y:D):Option D:=if bN 40 (lH S x)=true/\bN 40 (lH S y)=true then U (.bl (!jI (lH S x) (lH S y))) else Y
theorem op_Eq(hu:X.A.units+64<cLine):OpR X (Db .Eq) (kn X.K jG):=by
 intro pins s σ H x y v u Q I rx ry h
 obtain⟨μ,S,dx,dy,dz,hS,h1,h2,h3,post⟩:=h
 simp only[jG] at h3
 split at h3
 ·rename_i hk
  cases h3
  exact(eqRc I 40 X.A (by omega) hk.1 hk.2 (oV hS h1 hk.1) (oV hS h2 hk.2) rx ry).2 X.prog X.w X.xe _ ⟨.bl _,H,I,rfl,post.here hS (.bl _)⟩
 ·cases h3
theorem op_Ne(hu:X.A.units+64<cLine):OpR X (Db .NotEq) (kn X.K mw):=by
 intro pins s σ H x y v u Q I rx ry h
 obtain⟨μ,S,dx,dy,dz,hS,h1,h2,h3,post⟩:=h
 simp only[mw] at h3
 split at h3
 ·rename_i hk
  cases h3
  exact neRc I 40 X.A (by omega) hk.1 hk.2 (oV hS h1 hk.1) (oV hS h2 hk.2) rx ry X.prog X.w X.xe _ ⟨.bl _,H,I,rfl,post.here hS (.bl _)⟩
 ·cases h3
open Classical in
def gE(K:FA)(μ:Fp)(H:Hp)(x:D)(u:dn):Bool:=decide (∃ v d,RelV v u/\Rep K μ H v d/\bN 39 d=true/\jI d x=true)
open Classical in
theorem ul{s:gw}(I:Inv X pins σ H s){d:D}(rv:RelV v u)(r:Rep X.K μ H v d)(ok:bN 39 d=true):gE X.K μ H x u=jI d x:=by
 unfold gE
 cases e:jI d x with
 | true=>exact Xk ⟨v,d,rv,r,ok,e⟩
 | false=>
  refine Xo ?_
  rintro⟨v',d',rv',r',ok',e'⟩
  cases rv.inj rv'
  rw[Rep.inj I 39 ok ok' r r'] at e
  rw[e] at e';cases e'
theorem jK{s:gw}(I:Inv X pins σ H s):∀ {vs:List V} {us:List dn} {ds:List D},Vals vs us->Reps X.K μ H vs ds->(∀ d∈ds,bN 39 d=true) ->
  us.any (gE X.K μ H x)=ds.any λd=>jI d x
 | _,_,_,.nil,.nil,_=>rfl
 | _,_,_,.cons rv tv,.cons r t,ok=>by
  rw[Yz,Yz,ul I rv r (ok _ WE),jK I tv t λd m=>ok d (WB _ m)]
theorem iF{s:gw}(I:Inv X pins σ H s){A:tx}(hu:A.units+40<cLine)(rx:RelV v u)(rD:Rep X.K μ H v x)(okx:bN 40 x=true) :
  ∀ {vs:List V} {us:List dn} {ds:List D},Vals vs us->Reps X.K μ H vs ds->(∀ d∈ds,bN 39 d=true)->∀ w∈us,SeqAt.EqAt A s w u (gE X.K μ H x w)
 | _,_,_,.nil,.nil,_=>λw hw=>by cases hw
 | _,_,_,.cons rv tv,.cons r t,ok=>λw hw=>by
  rcases WQ.mp hw with rfl | hw
  ·rw[ul I rv r (ok _ WE)]
   exact(eqRc I 40 A hu (sU (by decide) (ok _ WE)) okx r rD rv rx).1
  ·exact iF I hu rx rD okx tv t (λd m=>ok d (WB _ m)) w hw
def yJ(S:ac)(x y:D):Option D:=(fO S y).bind λds=>if bN 40 x=true/\ds.all (bN 39)=true then U (.bl (ds.any λd=>jI d x)) else Y
def ej(S:ac)(x y:D):Option D:=(fO S y).bind λds=>if bN 40 x=true/\ds.all (bN 39)=true then U (.bl (!ds.any λd=>jI d x)) else Y
theorem op_In(hu:X.A.units+64<cLine):OpR X (Db .In) (kn X.K yJ):=by
 intro pins s σ H x y v u Q I rx ry h
 obtain⟨μ,S,dx,dy,dz,hS,h1,h2,h3,post⟩:=h
 obtain⟨ds,e,h3⟩:=Ww.mp h3
 split at h3
 ·rename_i hk
  cases h3
  obtain⟨a,vs,rfl,hq,r⟩:=gS hS h2 e
  cases ry
  have ok:=WP.mp hk.2
  rcases hq with hq | hq
  ·obtain⟨its,rv,pl,hz⟩:=I.list hq
   refine SeqAt.in_listAt (gE X.K μ H dx) pl.isList (λw hw=>iF I (by show X.A.units+1+40<cLine;omega) rx h1 hk.1 rv r ok w (by simpa using hw)) ⟨.bl _,H,I,rfl,?_⟩
   rw[show its.toArray.any (gE X.K μ H dx)=its.any (gE X.K μ H dx) by simp,jK I rv r ok]
   exact post.here hS (.bl _)
  ·obtain⟨its,rv,pl,hz⟩:=I.tuple hq
   refine SeqAt.in_tupleAt (gE X.K μ H dx) pl (λw hw=>iF I (by show X.A.units+1+40<cLine;omega) rx h1 hk.1 rv r ok w (by simpa using hw)) ⟨.bl _,H,I,rfl,?_⟩
   rw[show its.toArray.any (gE X.K μ H dx)=its.any (gE X.K μ H dx) by simp,jK I rv r ok]
   exact post.here hS (.bl _)
 ·cases h3
theorem Jg(hu:X.A.units+64<cLine):OpR X (Db .NotIn) (kn X.K ej):=by
 intro pins s σ H x y v u Q I rx ry h
 obtain⟨μ,S,dx,dy,dz,hS,h1,h2,h3,post⟩:=h
 obtain⟨ds,e,h3⟩:=Ww.mp h3
 split at h3
 ·rename_i hk
  cases h3
  obtain⟨a,vs,rfl,hq,r⟩:=gS hS h2 e
  cases ry
  have ok:=WP.mp hk.2
  rcases hq with hq | hq
  ·obtain⟨its,rv,pl,hz⟩:=I.list hq
   refine SeqAt.notIn_listAt (gE X.K μ H dx) pl.isList (λw hw=>iF I (by show X.A.units+1+40<cLine;omega) rx h1 hk.1 rv r ok w (by simpa using hw)) ⟨.bl _,H,I,rfl,?_⟩
   rw[show its.toArray.any (gE X.K μ H dx)=its.any (gE X.K μ H dx) by simp,jK I rv r ok]
   exact post.here hS (.bl _)
  ·obtain⟨its,rv,pl,hz⟩:=I.tuple hq
   refine SeqAt.notIn_tupleAt (gE X.K μ H dx) pl (λw hw=>iF I (by show X.A.units+1+40<cLine;omega) rx h1 hk.1 rv r ok w (by simpa using hw)) ⟨.bl _,H,I,rfl,?_⟩
   rw[show its.toArray.any (gE X.K μ H dx)=its.any (gE X.K μ H dx) by simp,jK I rv r ok]
   exact post.here hS (.bl _)
 ·cases h3
def qj:D->D->Bool
 | .non,.non=>true
 | .bl a,.bl b=>a==b
 | _,_=>false
def ET(S:ac)(x y:D):Option D:=match y with | .non=>U (.bl (qj x y)) | .bl _=>U (.bl (qj x y)) | _=>Y
def nr(S:ac)(x y:D):Option D:=match y with | .non=>U (.bl (!qj x y)) | .bl _=>U (.bl (!qj x y)) | _=>Y
theorem Ks(h1:Rep K μ H x dx)(h2:Rep K μ H y dy)(rx:RelV x v)(ry:RelV y u)(hy:dy=.non\/∃ b,dy=.bl b):plainIs v u=true/\(v==u)=qj dx dy:=by
 rcases hy with rfl | ⟨b,rfl⟩
 ·cases h2;cases ry
  cases h1<;>first | (cases rx;exact⟨rfl,rfl⟩) | (obtain⟨t,rfl⟩:=rx;exact⟨rfl,rfl⟩)
 ·cases h2;cases ry
  cases h1<;>first | (cases rx;exact⟨rfl,rfl⟩) | (obtain⟨t,rfl⟩:=rx;exact⟨rfl,rfl⟩) | (cases rx;rename_i c;refine⟨rfl,?_⟩;cases b<;>cases c<;>rfl)
theorem op_Is:OpR X (Db .Is) (kn X.K ET):=by
 intro pins s σ H x y v u Q I rx ry h
 obtain⟨μ,S,dx,dy,dz,hS,h1,h2,h3,post⟩:=h
 have hy:(dy=.non\/∃ b,dy=.bl b)/\dz=.bl (qj dx dy):=by
  cases dy<;>first | (cases h3;exact⟨.inl rfl,rfl⟩) | (cases h3;exact⟨.inr ⟨_,rfl⟩,rfl⟩) | cases h3
 obtain⟨p,e⟩:=Ks h1 h2 rx ry hy.1
 cases hy.2
 exact wpAny_is_plain p ⟨.bl _,H,I,congrArg Value.bool e,post.here hS (.bl _)⟩
theorem Jh:OpR X (Db .IsNot) (kn X.K nr):=by
 intro pins s σ H x y v u Q I rx ry h
 obtain⟨μ,S,dx,dy,dz,hS,h1,h2,h3,post⟩:=h
 have hy:(dy=.non\/∃ b,dy=.bl b)/\dz=.bl (!qj dx dy):=by
  cases dy<;>first | (cases h3;exact⟨.inl rfl,rfl⟩) | (cases h3;exact⟨.inr ⟨_,rfl⟩,rfl⟩) | cases h3
 obtain⟨p,e⟩:=Ks h1 h2 rx ry hy.1
 cases hy.2
 exact wpAny_isNot_plain p ⟨.bl _,H,I,congrArg (λb=>Value.bool (!b)) e,post.here hS (.bl _)⟩
end
end M
namespace HT
section
variable{prog:pr}{w:sv}{A:tx}{E:dn->gw->Prop}{s:gw}
theorem QG{ws:List dn}{Q:dn->gw->Prop}(ht:IsTup s.heap t #[])(hb:IsTup s.heap b ws.toArray)(h:Q (.ref b) s):Ew (model prog w) A (Ec .Add (.ref t) (.ref b)) Q E s:=by
 obtain⟨⟨cls,dd,data,sl⟩,ho,hc,n,hd⟩:=id ht
 obtain⟨⟨cls2,dd2,data2,sl2⟩,ho2,hc2,n2,hd2⟩:=id hb
 simp only at hc hd hc2 hd2
 subst hc hd hc2 hd2
 exact aba ⟨_,ho,rfl⟩ ⟨_,ho2,rfl⟩ aai aaL aak aab (ZS _ _)
   (tuple_addW0 t b #[] ws.toArray n n2 dd dd2 sl sl2 rfl) ⟨ho,ho2,h⟩
theorem mr{lo:Option Int}{Q:dn->gw->Prop}(ht:IsTup s.heap t items)(hs:s.heap.IsSliceOf sl vl vu .none)(pl:IsPart vl lo)(pu:IsPart vu hi)
  (hw:ff items.size 0 lo=0/\ff items.size items.size hi=items.size) (h:Q (.ref t) s):Ew (model prog w) A (getItem (.ref t) (.ref sl)) Q E s:=by
 obtain⟨os,hos,hcs,hds⟩:=id hs
 have hTs:s.TypeIs (.ref sl) "slice":=⟨os,hos,hcs⟩
 unfold getItem
 try with_reducible refine Xd ?_
 first | refine Wx (WA ?_) | skip
 refine Wx (ZW ht.typeIs (by decide) ?_)
 refine Wx (XF (name:=Str.ofString "__getitem__") ht.typeIs Xz
  (Yk Xz ht.typeIs ZE ?_ (ZM _ _)))
 show Ew _ _ (Builtin.Tuple.tupleItemsOf (.ref t) >>= _) _ _ s
 refine Wx (aaJ ht ?_)
 refine Wx (aad hTs ?_)
 rw[WN (by decide)]
 refine Wx (jx hs pl pu ?_)
 have hyes:(((ff items.size 0 lo:Nat):Int)==0&&(1:Int)==1&&(ff items.size items.size hi - ff items.size 0 lo)==items.size)=true:=by
  rw[hw.1,hw.2];simp
 show Ew _ _ (if (((ff items.size 0 lo:Nat):Int)==0&&(1:Int)==1&&(ff items.size items.size hi - ff items.size 0 lo)==items.size)=true then _ else _) _ _ s
 rw[WN hyes]
 unfold Builtin.Tuple.tupleIsExact
 refine Wx (Wx (aad ht.typeIs (WA ?_)))
 rw[WN (by decide)]
 exact Wx (Zy (Wx (WA (WA ⟨_,rfl,WA h⟩))))
end
end HT
namespace M
open L2
section
variable{X:Cx}{K:FA}{μ μ':Fp}{H H':Hp}{S:ac}
def Gq(g:Int->Int->D)(S:ac)(x y:D):Option D:=match x,y with | .int i,.int j=>U (g i j) | _,_=>Y
def AL(C:Int->Int->Bool)(g:Int->Int->D)(S:ac)(x y:D):Option D:=match x,y with | .int i,.int j=>if C i j=true then U (g i j) else Y | _,_=>Y
theorem nK{g:Int->Int->V}{g':Int->Int->D}(h:OpR X f (NF g))(hg:∀ i j μ H,Rep X.K μ H (g i j) (g' i j)):OpR X f (kn X.K (Gq g')):=
 OpR.imp h λx y H Q z0=>by
  obtain⟨μ,S,dx,dy,dz,hS,h1,h2,h3,post⟩:=z0
  cases dx<;>first | (cases h3;done) | (cases dy<;>first | cases h3 | skip)
  exact⟨_,_,h1.int_inv,h2.int_inv,post.here hS (hg _ _ _ _)⟩
theorem xH{C':Int->Int->Bool}{g:Int->Int->V}{g':Int->Int->D}(h:OpR X f (rI C g))(hC:∀ i j,C' i j=true->C i j)(hg:∀ i j μ H,Rep X.K μ H (g i j) (g' i j)):OpR X f (kn X.K (AL C' g')):=
 OpR.imp h λx y H Q z0=>by
  obtain⟨μ,S,dx,dy,dz,hS,h1,h2,h3,post⟩:=z0
  cases dx<;>first | (cases h3;done) | (cases dy<;>first | cases h3 | skip)
  simp only[AL] at h3
  split at h3
  ·rename_i hc
   cases h3
   exact⟨_,_,h1.int_inv,h2.int_inv,hC _ _ hc,post.here hS (hg _ _ _ _)⟩
  ·cases h3
def Po:=Gq λi j=>.int (i - j)
def KP:=Gq λi j=>.bl (decide (i<j))
def Ps:=Gq λi j=>.bl (decide (i<=j))
def CJ:=Gq λi j=>.bl (decide (j<i))
def fGe:=Gq λi j=>.bl (decide (j<=i))
theorem TQ:OpR X (Ec .Sub) (kn X.K Po):=nK TJ λ_ _ _ _=>.int _
theorem op_Lt:OpR X (Db .Lt) (kn X.K KP):=nK op_lt λ_ _ _ _=>.bl _
theorem op_Le:OpR X (Db .LtE) (kn X.K Ps):=nK op_le λ_ _ _ _=>.bl _
theorem op_Gt:OpR X (Db .Gt) (kn X.K CJ):=nK op_gt λ_ _ _ _=>.bl _
theorem op_Ge:OpR X (Db .GtE) (kn X.K fGe):=nK op_ge λ_ _ _ _=>.bl _
def lB:=AL (λ_ j=>decide (0<j)) λi j=>.int (i%j)
def Gs:=AL (λ_ j=>decide (0<j)&&decide (j<1073741824)) λi j=>.int (i / j)
def uV:=AL (λi j=>decide (0<=j)&&decide (j<=1000000)&&decide (i.natAbs<2^64)) λi j=>.int (i^j.toNat)
theorem TV:OpR X (Ec .Mod) (kn X.K lB):=xH TM (λ_ _ h=>XM h) λ_ _ _ _=>.int _
theorem TW:OpR X (Ec .FloorDiv) (kn X.K Gs):=xH Oq (λ_ _ h=>by simpa[CDiv] using h) λ_ _ _ _=>.int _
theorem TR:OpR X (Ec .Pow) (kn X.K uV):=xH TL (λi j h=>by
 simp only[Wz,WM] at h
 exact⟨h.1.1,h.1.2,h.2⟩) λ_ _ _ _=>.int _
def nP(i j:Int):Bool:=decide (i.natAbs<18446744073709551616)||decide (j.natAbs<18446744073709551616)||(decide (i.natAbs<2^4000)&&decide (j.natAbs<2^4000))
theorem OC(h:nP i j=true):IntMulOk i j:=by
 unfold nP at h
 simp only[Zc,Wz,WM] at h
 rcases h with (h | h) | h
 ·exact .of_left (aaF (k:=64) (by omega))
 ·exact .of_right (aaF (k:=64) (by omega))
 ·exact .of_bits (Xa (aaF (k:=4000) h.1) (by decide)) (Xa (aaF (k:=4000) h.2) (by decide))
theorem Op:OpR X (Ec .Mult) (rI (λi j=>nP i j=true) λi j=>.int (i*j)):=opI λ_ _ _ _ _ _ _ hc q=>mul_int q (OC hc)
def Vs(S:ac)(x y:D):Option D:=match x,y with
 | .int i,.int j=>if nP i j=true then U (.int (i*j)) else Y
 | _,_=>Y
theorem TU:OpR X (Ec .Mult) (kn X.K Vs):=OpR.imp Op λx y H Q z0=>by
 obtain⟨μ,S,dx,dy,dz,hS,h1,h2,h3,post⟩:=z0
 cases dx<;>first | (cases h3;done) | (cases dy<;>first | cases h3 | skip)
 simp only[Vs] at h3
 split at h3
 ·rename_i hc
  cases h3
  exact⟨_,_,h1.int_inv,h2.int_inv,hc,post.here hS (.int _)⟩
 ·cases h3
def KZ(S:ac)(x y:D):Option D:=match x,y with
 | .int i,.int j=>U (.int (i+j))
 | .str i,.str j=>if i.length+j.length<=ww then U (.str (i++j)) else Y
 | .tup xs,.tup ys=>if xs.length+ys.length<=ww then U (.tup (xs++ys)) else Y
 | .lst xs,.lst ys=>if xs.length+ys.length<=ww then U (.lst (xs++ys)) else Y
 | _,_=>Y
theorem TX:OpR X (Ec .Add) (kn X.K KZ):=by
 intro pins s σ H x y v u Q I rx ry h
 obtain⟨μ,S,dx,dy,dz,hS,h1,h2,h3,post⟩:=h
 cases dx<;>first | (cases h3;done) | (cases dy<;>first | cases h3 | skip)
 case int.int i j=>exact TN pins s σ H x y v u Q I rx ry ⟨_,_,h1.int_inv,h2.int_inv,post.here hS (.int _)⟩
 case str.str i j=>
  simp only[KZ] at h3
  split at h3
  ·rename_i hl;cases h3
   exact BO pins s σ H x y v u Q I rx ry ⟨_,_,h1.str_inv,h2.str_inv,hl,post.here hS (.str _)⟩
  ·cases h3
 case tup.tup xs ys=>
  simp only[KZ] at h3
  split at h3
  ·rename_i hl;cases h3
   have h2':=h2
   have h1':=h1
   obtain⟨a,vs,rfl,q1,r1⟩:=h1.sqT
   obtain⟨b,ws,rfl,q2,r2⟩:=h2.sqT
   have e1:=r1.length
   have e2:=r2.length
   by_cases hv:vs=[]
   ·subst hv
    have hx:xs=[]:=YS (by simpa using e1.symm)
    subst hx
    cases rx;cases ry
    obtain⟨its,rv,p1,_⟩:=I.tuple q1
    obtain⟨its2,rv2,p2,_⟩:=I.tuple q2
    have:its=[]:=rv.nil_iff.mpr rfl
    subst this
    exact HT.QG p1 p2 ⟨.ref b,H,I,rfl,post.here hS h2'⟩
   ·refine Os pins s σ H _ _ v u Q I rx ry ⟨a,b,vs,ws,rfl,rfl,q1,q2,hv,by omega,λhw=>?_,λhw p hp=>post.tup hS hp (r1.append r2)⟩
    subst hw
    have hy:ys=[]:=YS (by simpa using e2.symm)
    subst hy
    rw[Xt] at post
    exact post.here hS h1'
  ·cases h3
 case lst.lst xs ys=>
  simp only[KZ] at h3
  split at h3
  ·rename_i hl;cases h3
   obtain⟨a,vs,rfl,q1,n1,r1⟩:=h1.sqL
   obtain⟨b,ws,rfl,q2,n2,r2⟩:=h2.sqL
   have e1:=r1.length
   have e2:=r2.length
   exact Jf pins s σ H _ _ v u Q I rx ry ⟨a,b,vs,ws,rfl,rfl,q1,q2,by omega,λp hp=>post.lst hS hp (r1.append r2)⟩
  ·cases h3
theorem Sm:UnR X (unaryOp .USub) (rM1 X.K λ_ x=>match x with | .int i=>U (.int (-i)) | _=>Y):=UnR.imp Sl λx H Q z0=>by
 obtain⟨μ,S,dx,dz,hS,h1,h3,post⟩:=z0
 cases dx<;>first | cases h3 | skip
 exact⟨_,h1.int_inv,post.here hS (.int _)⟩
def Bm(f:ac->D->Option D)(a:ME):ME:=λenv S=>(a env S).bind λp=>(f p.2 p.1).bind λz=>U (z,p.2)
theorem de_un(ho:UnR X (unaryOp op) (rM1 X.K f))(ha:DE X a ma):DE X (.UnaryOp op a pos) (Bm f ma):=
 PE.imp (pe_un ho ha) λσ H Q z0=>by
  obtain⟨μ,S,env,d,S',hS,hE,hm,post⟩:=z0
  obtain⟨⟨x,S1⟩,h1,hm⟩:=Ww.mp hm
  obtain⟨z,h2,hm⟩:=Ww.mp hm
  cases hm
  exact⟨μ,S,env,x,_,hS,hE,h1,λv H1 μ1 e1 s1 r1=>⟨μ1,_,x,_,s1,r1,h2,post.ext e1⟩⟩
theorem QJ{d:D}(r:Reps K μ H vs ds)(h:mD ds i=U d):∃ v,mD vs i=U v/\Rep K μ H v d:=by
 unfold mD at h ⊢
 rw[r.length]
 obtain⟨j,h1,h2⟩:=Ww.mp h
 obtain⟨v,h3,h4⟩:=r.get h2
 exact⟨v,by rw[h1];exact h3,h4⟩
def fIx(S:ac)(x y:D):Option D:=match y with | .int i=>(fO S x).bind λxs=>mD xs i | _=>Y
theorem ix_D:IxR X (kn X.K fIx):=IxR.imp (ix_list.or Vd) λx y H Q z0=>by
 obtain⟨μ,S,dx,dy,dz,hS,h1,h2,h3,post⟩:=z0
 cases dy<;>first | cases h3 | skip
 rename_i i
 obtain⟨xs,e,h3⟩:=Ww.mp h3
 obtain⟨a,vs,rfl,hq,r⟩:=gS hS h1 e
 obtain⟨v,h4,h5⟩:=QJ r h3
 rcases hq with hq | hq
 ·exact .inl ⟨a,vs,i,v,rfl,h2.int_inv,hq,h4,post.here hS h5⟩
 ·exact .inr ⟨a,vs,i,v,rfl,h2.int_inv,hq,h4,post.here hS h5⟩
def iY{α:Type}(xs:List α)(lo hi:Option Int):List α:=(xs.drop (HT.ff xs.length 0 lo)).take (HT.ff xs.length xs.length hi - HT.ff xs.length 0 lo)
noncomputable abbrev MO:=ax->ac->Option (Option Int×ac)
def aW:MO:=λ_ S=>U (Y,S)
def bA(m:ME):MO:=λenv S=>(m env S).bind λp=>match p.1 with | .int i=>U (U i,p.2) | _=>Y
inductive tMO(K:FA)(m:MO)(σ:L2.St)(H:Hp)(Q:Option Int->Hp->Prop):Prop
 | mk (μ:Fp) (S:ac) (env:ax) (o:Option Int) (S':ac) (hS:SOk K μ S H) (hE:EOk K μ H σ env) (h:m env S=U (o,S')) (post:∀ H' μ',Ext μ H μ' H'->SOk K μ' S' H'->Q o H')
def DO(X:Cx)(e:Option pc)(m:MO):Prop:=PO X e (tMO X.K m)
theorem PO.imp{t':TO}(h:PO X e t)(i:∀ σ H Q,t' σ H Q->t σ H Q):PO X e t':=λpins s σ H Q I q=>h pins s σ H Q I (i σ H Q q)
theorem Qc:DO X Y aW:=PO.imp NV λσ H Q ⟨μ,S,env,d,S',hS,hE,hm,post⟩=>by cases hm;exact post H μ hS.ext hS
theorem Qb(h:DE X e m):DO X (U e) (bA m):=PO.imp (NU h) λσ H Q z0=>by
 obtain⟨μ,S,env,d,S',hS,hE,hm,post⟩:=z0
 obtain⟨⟨x,S1⟩,h1,hm⟩:=Ww.mp hm
 cases x<;>first | cases hm | skip
 exact⟨μ,S,env,_,_,hS,hE,h1,λv H1 μ1 e1 s1 r1=>⟨_,r1.int_inv,post H1 μ1 e1 s1⟩⟩
def cB(a:ME)(lo hi:MO):ME:=λenv S=>(a env S).bind λp=>(lo env p.2).bind λl=>(hi env l.2).bind λh=>match p.1 with
 | .tup xs=>U (.tup (iY xs l.1 h.1),h.2)
 | .lst xs=>U (.lst (iY xs l.1 h.1),h.2)
 | .rol xs=>U (.lst (iY xs l.1 h.1),h.2)
 | .ref r=>match h.2[r]? with | some (.lst xs)=>U (.lst (iY xs l.1 h.1),h.2) | _=>Y
 | _=>Y
theorem sr{lo:Option Int}(r:Reps K μ H vs ds):Reps K μ H (AV vs lo hi) (iY ds lo hi):=by
 unfold AV iY
 rw[r.length]
 exact(r.drop _).take _
theorem Nv:SlR X (λx lo hi H Q=>∃ a xs,x=.ref a/\mj X.K H a xs/\(HT.ff xs.length 0 lo=0/\HT.ff xs.length xs.length hi=xs.length)/\Q (.ref a) H):=by
 intro pins s σ H x v vl vu lo hi sl Q I rx hs pl pu h
 obtain⟨a,xs,rfl,hx,hw,q⟩:=h
 cases rx
 obtain⟨its,r,ht,hz⟩:=I.tuple hx
 have hlen:its.toArray.size=xs.length:=by rw[WD];exact r.length.symm
 refine⟨"tuple",_,PyProof.Rows.slot_tuple_getitem.lookup,ht.typeIs,?_⟩
 exact HT.mr ht hs pl pu (by rw[hlen];exact hw) ⟨.ref a,H,I,rfl,q⟩
theorem AU{lo:Option pc}(ha:DE X a ma)(hl:DO X lo ml)(hh:DO X hi mh):DE X (.Subscript a (.Slice lo hi Y p2) pos) (cB ma ml mh):=
 PE.imp (zo (SlR.or Nv (SlR.or SI Nw)) ha hl hh) λσ H Q z0=>by
  obtain⟨μ,S,env,d,S',hS,hE,hm,post⟩:=z0
  obtain⟨⟨x,S1⟩,h1,hm⟩:=Ww.mp hm
  obtain⟨⟨l,S2⟩,h2,hm⟩:=Ww.mp hm
  obtain⟨⟨h,S3⟩,h3,hm⟩:=Ww.mp hm
  refine⟨μ,S,env,x,S1,hS,hE,h1,λv H1 μ1 e1 s1 r1=>⟨μ1,S1,env,l,S2,s1,hE.mono e1,h2,λH2 μ2 e2 s2=>⟨μ2,S2,env,h,S3,s2,(hE.mono e1).mono e2,h3,λH3 μ3 e3 s3=>?_⟩⟩⟩
  have r3:=(r1.mono e2).mono e3
  have e:=(e1.trans e2).trans e3
  cases x with
  | tup xs=>
   cases hm
   have r3':=r3
   obtain⟨a,vs,rfl,q1,r⟩:=r3.sqT
   by_cases hw:HT.ff vs.length 0 l=0/\HT.ff vs.length vs.length h=vs.length
   ·refine .inl ⟨a,vs,rfl,q1,hw,?_⟩
    have:iY xs l h=xs:=by unfold iY;rw[<- r.length,hw.1,hw.2];simp[r.length]
    rw[this] at post
    exact post _ H3 μ3 e s3 r3'
   ·exact .inr (.inl ⟨a,vs,rfl,q1,hw,λp hp=>(post.ext e).tup s3 hp (sr r)⟩)
  | lst xs=>
   cases hm
   obtain⟨a,vs,rfl,q1,n1,r⟩:=r3.sqL
   exact .inr (.inr ⟨a,vs,rfl,.inl (.inl q1),λp hp=>(post.ext e).lst s3 hp (sr r)⟩)
  | rol xs=>
   cases hm
   obtain⟨a,vs,rfl,q1,r⟩:=r3.sqR
   exact .inr (.inr ⟨a,vs,rfl,q1,λp hp=>(post.ext e).lst s3 hp (sr r)⟩)
  | ref r=>
   dsimp only at hm
   split at hm
   ·rename_i xs q
    cases hm
    cases r3 with
    | @ref a _ ha=>
     obtain⟨vs,hv,rv⟩:=s3.cell r a _ ha q
     exact .inr (.inr ⟨a,vs,rfl,.inl (.inl hv),λp hp=>(post.ext e).lst s3 hp (sr rv)⟩)
   ·cases hm
  | _=>cases hm
end
section
variable{X:Cx}{K:FA}{μ μ':Fp}{H H':Hp}{S:ac}
def ay(f:List D->ac->Option (D×ac))(ms:MA):ME:=λenv S=>(ms env S).bind λp=>f p.1 p.2
theorem HZ(h:tM K (ay f ms) σ H Q):tCB (BJ K f) (tMA K ms) σ H Q:=by
 obtain⟨μ,S,env,d,S',hS,hE,hm,post⟩:=h
 obtain⟨⟨xs,S1⟩,h1,hm⟩:=Ww.mp hm
 exact⟨μ,S,env,xs,S1,hS,hE,h1,λvs H1 μ1 e1 s1 r1=>⟨μ1,S1,xs,d,S',s1,r1,hm,post.ext e1⟩⟩
section
variable{x:Str}{p pos:Pos}{e:pc}{es:List pc}{ms:MA}{id T:String}{f:List D->ac->Option (D×ac)}
theorem oX(hc:CallR X (.builtin id) (BJ X.K f))(hm:X.mg x=Y)(hv:bootBuiltins x=U (.builtin id))(ha:DA X (e::es) ms)(hg:Gl X x:=by rfl)(hn:x≠"__name__":=by decide)(hdb:(x==("__debug__":Str))=false:=by decide)
  (he:zH (e::es) X.env=(false,eval e X.env)::zH es X.env:=by rfl) (hpl:(backTo pos (zH es X.env)).any (·.1)=false:=by rfl):DE X (.Call (.Name x p) (e::es) [] pos) (ay f ms):=
 PE.imp (kY hc hg hm hv ha hn hdb he hpl) λ_ _ _ h=>HZ h
theorem gQ(hc:CallR X (.type T) (BJ X.K f))(hm:X.mg x=Y)(hv:bootBuiltins x=U (.type T))(ha:DA X (e::es) ms)(hg:Gl X x:=by rfl)(hn:x≠"__name__":=by decide)(hdb:(x==("__debug__":Str))=false:=by decide)
  (he:zH (e::es) X.env=(false,eval e X.env)::zH es X.env:=by rfl) (hpl:(backTo pos (zH es X.env)).any (·.1)=false:=by rfl):DE X (.Call (.Name x p) (e::es) [] pos) (ay f ms):=
 PE.imp (vJ hc hg hm hv ha hn hdb he hpl) λ_ _ _ h=>HZ h
end
theorem Reps.one{d:D}(r:Reps K μ H vs [d]):∃ v,vs=[v]/\Rep K μ H v d:=by
 cases r with
 | cons h t=>cases t;exact⟨_,rfl,h⟩
theorem Reps.two{d e:D}(r:Reps K μ H vs [d,e]):∃ v w,vs=[v,w]/\Rep K μ H v d/\Rep K μ H w e:=by
 cases r with
 | cons h t=>cases t with | cons h' t=>cases t;exact⟨_,_,rfl,h,h'⟩
def ak(f:ac->List D->Option D):List D->ac->Option (D×ac):=λds S=>(f S ds).bind λd=>U (d,S)
theorem cG{S S':ac}{d:D}(h:ak f ds S=U (d,S')):S'=S/\f S ds=U d:=by
 obtain⟨z,h1,h⟩:=Ww.mp h
 cases h
 exact⟨rfl,h1⟩
def bT(S:ac):List D->Option D
 | [.str z]=>if z.length<=ww then U (.int z.length) else Y
 | [d]=>(fO S d).bind λxs=>U (.int xs.length)
 | _=>Y
theorem Mv:CallR X (.builtin "len") (BJ X.K (ak bT)):=CallR.imp (call_len_seq.or yB) λxs H Q z0=>by
 obtain⟨μ,S,ds,d,S',hS,hr,hm,post⟩:=z0
 obtain⟨rfl,hm⟩:=cG hm
 match ds,hr,hm with
 | [D.str z],hr,hm=>
  obtain⟨v,rfl,r⟩:=hr.one
  simp only[bT] at hm
  split at hm
  ·rename_i hl;cases hm;exact .inr ⟨z,by rw[r.str_inv],hl,post.here hS (.int _)⟩
  ·cases hm
 | [D.non],hr,hm=>cases hm
 | [D.bl _],hr,hm=>cases hm
 | [D.int _],hr,hm=>cases hm
 | [D.dct _ _],hr,hm=>cases hm
 | [D.tup xs],hr,hm=>
  obtain⟨v,rfl,r⟩:=hr.one
  cases hm
  obtain⟨a,vs,rfl,hq,r⟩:=gS hS r rfl
  exact .inl ⟨a,vs,rfl,hq,by rw[r.length];exact post.here hS (.int _)⟩
 | [D.lst xs],hr,hm=>
  obtain⟨v,rfl,r⟩:=hr.one
  cases hm
  obtain⟨a,vs,rfl,hq,r⟩:=gS hS r rfl
  exact .inl ⟨a,vs,rfl,hq,by rw[r.length];exact post.here hS (.int _)⟩
 | [D.rol xs],hr,hm=>
  obtain⟨v,rfl,r⟩:=hr.one
  cases hm
  obtain⟨a,vs,rfl,hq,r⟩:=gS hS r rfl
  exact .inl ⟨a,vs,rfl,hq,by rw[r.length];exact post.here hS (.int _)⟩
 | [D.ref i],hr,hm=>
  obtain⟨v,rfl,r⟩:=hr.one
  obtain⟨xs,h1,hm⟩:=Ww.mp hm
  cases hm
  obtain⟨a,vs,rfl,hq,r⟩:=gS hS r h1
  exact .inl ⟨a,vs,rfl,hq,by rw[r.length];exact post.here hS (.int _)⟩
 | [],hr,hm=>cases hm
 | a::b::c,hr,hm=>simp[bT] at hm
def iX(S:ac):List D->Option D
 | [.int i]=>U (.int i)
 | [.bl k]=>U (.int (if k then 1 else 0))
 | _=>Y
theorem Mw:CallR X (.type "int") (BJ X.K (ak iX)):=CallR.imp Hh λxs H Q z0=>by
 obtain⟨μ,S,ds,d,S',hS,hr,hm,post⟩:=z0
 obtain⟨rfl,hm⟩:=cG hm
 match ds,hr,hm with
 | [D.int i],hr,hm=>obtain⟨v,rfl,r⟩:=hr.one;cases hm;exact .inl ⟨i,by rw[r.int_inv],post.here hS (.int _)⟩
 | [D.bl k],hr,hm=>obtain⟨v,rfl,r⟩:=hr.one;cases hm;exact .inr ⟨k,by rw[r.bl_inv],post.here hS (.int _)⟩
 | [D.non],hr,hm=>cases hm
 | [D.str _],hr,hm=>cases hm
 | [D.dct _ _],hr,hm=>cases hm
 | [D.tup _],hr,hm=>cases hm
 | [D.lst _],hr,hm=>cases hm
 | [D.rol _],hr,hm=>cases hm
 | [D.ref _],hr,hm=>cases hm
 | [],hr,hm=>cases hm
 | a::b::c,hr,hm=>simp[iX] at hm
def RR(S:ac):List D->Option D
 | [.int i,.int j]=>U (.int (if j>i then j else i))
 | _=>Y
def AJ(S:ac):List D->Option D
 | [.int i,.int j]=>U (.int (if j<i then j else i))
 | _=>Y
theorem RL{ds:List D}{f:Int->Int->D}{d:D}(h:(match ds with | [.int i,.int j]=>U (f i j) | _=>Y)=U d):∃ i j,ds=[.int i,.int j]/\d=f i j:=by
 split at h
 ·cases h;exact⟨_,_,rfl,rfl⟩
 ·cases h
theorem Hk(hc:X.calm=true):CallR X (.builtin "max") (BJ X.K (ak RR)):=CallR.imp (Hc hc) λxs H Q z0=>by
 obtain⟨μ,S,ds,d,S',hS,hr,hm,post⟩:=z0
 obtain⟨rfl,hm⟩:=cG hm
 obtain⟨i,j,rfl,rfl⟩:=RL (f:=λi j=>.int (if j>i then j else i)) hm
 obtain⟨v,w,rfl,r1,r2⟩:=hr.two
 exact⟨i,j,by rw[r1.int_inv,r2.int_inv],post.here hS (.int _)⟩
theorem Hi(hc:X.calm=true):CallR X (.builtin "min") (BJ X.K (ak AJ)):=CallR.imp (Ha hc) λxs H Q z0=>by
 obtain⟨μ,S,ds,d,S',hS,hr,hm,post⟩:=z0
 obtain⟨rfl,hm⟩:=cG hm
 obtain⟨i,j,rfl,rfl⟩:=RL (f:=λi j=>.int (if j<i then j else i)) hm
 obtain⟨v,w,rfl,r1,r2⟩:=hr.two
 exact⟨i,j,by rw[r1.int_inv,r2.int_inv],post.here hS (.int _)⟩
def em(c:List D->D)(S:ac):List D->Option D
 | [d]=>(fO S d).bind λxs=>U (c xs)
 | _=>Y
theorem ub{S:ac}{d:D}(h:em c S ds=U d):∃ x xs,ds=[x]/\fO S x=U xs/\d=c xs:=by
 match ds,h with
 | [x],h=>
  obtain⟨xs,h1,h⟩:=Ww.mp h
  cases h
  exact⟨x,xs,rfl,h1,rfl⟩
 | [],h=>cases h
 | _::_::_,h=>cases h
theorem Hl:CallR X (.type "list") (BJ X.K (ak (em .lst))):=CallR.imp pd λxs H Q z0=>by
 obtain⟨μ,S,ds,d,S',hS,hr,hm,post⟩:=z0
 obtain⟨rfl,hm⟩:=cG hm
 obtain⟨x,ys,rfl,h1,rfl⟩:=ub hm
 obtain⟨v,rfl,r⟩:=hr.one
 obtain⟨a,vs,rfl,hq,r⟩:=gS hS r h1
 exact⟨a,vs,rfl,hq,λl hl=>post.lst hS hl r⟩
theorem De:CallR X (.type "tuple") (BJ X.K (ak (em .tup))):=CallR.imp vc λxs H Q z0=>by
 obtain⟨μ,S,ds,d,S',hS,hr,hm,post⟩:=z0
 obtain⟨rfl,hm⟩:=cG hm
 obtain⟨x,ys,rfl,h1,rfl⟩:=ub hm
 obtain⟨v,rfl,r⟩:=hr.one
 cases x with
 | tup zs=>
  cases h1
  have r':=r
  obtain⟨a,vs,rfl,q,r⟩:=r.sqT
  exact⟨a,vs,rfl,.inr ⟨q,post.here hS r'⟩⟩
 | lst zs=>
  cases h1
  obtain⟨a,vs,rfl,q,n,r⟩:=r.sqL
  exact⟨a,vs,rfl,.inl ⟨.inl (.inl q),λl hl=>post.tup hS hl r⟩⟩
 | rol zs=>
  cases h1
  obtain⟨a,vs,rfl,q,r⟩:=r.sqR
  exact⟨a,vs,rfl,.inl ⟨q,λl hl=>post.tup hS hl r⟩⟩
 | ref i=>
  simp only[fO] at h1
  cases r with
  | @ref a _ h'=>
   cases q:S'[i]? with
   | none=>rw[q] at h1;cases h1
   | some c=>
    rw[q] at h1
    have ck:=hS.cell i a c h' q
    cases c with
    | lst xs=>cases h1;obtain⟨vs,e,r⟩:=ck;exact⟨a,vs,rfl,.inl ⟨.inl (.inl e),λl hl=>post.tup hS hl r⟩⟩
    | dct ks xs=>cases h1
    | deep ks xs=>cases h1
 | _=>cases h1
def kh:List D->Option (List Bool)
 | []=>U []
 | .bl b::r=>(kh r).bind λbs=>U (b::bs)
 | _=>Y
def mx(S:ac):List D->Option D
 | [.lst xs]=>(kh xs).bind λbs=>U (.bl (bs.all id))
 | _=>Y
theorem rq:∀ {vs:List V} {ds:List D} {us:List dn} {bs:List Bool},Reps K μ H vs ds->Vals vs us->kh ds=U bs->LSm.BoolsAre us bs
 | _,_,_,_,.nil,.nil,h=>by cases h;exact .nil
 | _,_,_,_,.cons (d:=d) r t,.cons rv tv,h=>by
  cases d<;>first | cases h | skip
  obtain⟨cs,h1,h⟩:=Ww.mp h
  cases h
  cases r;cases rv
  exact .cons _ (rq t tv h1)
theorem Mx(hc:X.calm=true):CallR X (.builtin "all") (BJ X.K (ak mx)):=by
 intro pins s σ H xs us Q I rv h
 obtain⟨μ,S,ds,d,S',hS,hr,hm,post⟩:=h
 obtain⟨rfl,hm⟩:=cG hm
 match ds,hr,hm with
 | [D.lst zs],hr,hm=>
  obtain⟨v,rfl,r⟩:=hr.one
  obtain⟨bs,h1,hm⟩:=Ww.mp hm
  cases hm
  obtain⟨u,rfl,ru⟩:=gm rv
  obtain⟨a,vs,rfl,q,n,r⟩:=r.sqL
  cases ru
  obtain⟨its,rv',pl,hz⟩:=I.list (.inl (.inl q))
  have hl:=pl.isList
  have hb:=rq r rv' h1
  have hlt:a<s.heap.objs.size:=by obtain⟨_,e,_⟩:=hl;exact WG e
  refine call_all_walk (Yy hl ?_)
  refine⟨s.heap.objs.size,[s.heap.objs.size,a],[s.heap.objs.size],its.toArray.size,_,_,λi=>(bs[i]?).getD true,rfl,Walks.list (A:=X.A.in1) (I.ok.hd hc) _ a (WZ hlt) its.toArray,
   ⟨⟨_,WL _ rfl,rfl,rfl⟩,hl.push _⟩,λi v s' Q' E' hP hQ=>?_,λh' tk hk=>?_⟩
  ·obtain⟨b,e,rfl⟩:=hb.get i v (by simpa using hP)
   simp only[e,Option.getD_some] at hQ
   exact Yx hQ
  ·have e:((List.range its.toArray.size).all λi=>(bs[i]?).getD true)=bs.all id:=by
    rw[WD,hb.length];exact LSm.range_all bs
   rw[e]
   exact⟨.bl _,H,I.kept (LSm.kept_iter hk),rfl,post.here hS (.bl _)⟩
 | [D.non],hr,hm=>cases hm
 | [D.bl _],hr,hm=>cases hm
 | [D.int _],hr,hm=>cases hm
 | [D.str _],hr,hm=>cases hm
 | [D.dct _ _],hr,hm=>cases hm
 | [D.tup _],hr,hm=>cases hm
 | [D.rol _],hr,hm=>cases hm
 | [D.ref _],hr,hm=>cases hm
 | [],hr,hm=>cases hm
 | a::b::c,hr,hm=>simp[mx] at hm
def tyD(S:ac):D->Option String
 | .non=>U "NoneType"
 | .bl _=>U "bool"
 | .int _=>U "int"
 | .str _=>U "str"
 | .tup _=>U "tuple"
 | .lst _=>U "list"
 | .rol _=>U "list"
 | .dct _ _=>U "dict"
 | .ref r=>match S[r]? with | some (.lst _)=>U "list" | some (.dct _ _)=>U "dict" | _=>Y
 | .txt=>U "str"
 | .obj=>U "dict"
 | .exc _ _ _=>Y
 | .fn _=>Y
def Ko(T:String)(t:String):Bool:=t==T||(t=="bool"&&T=="int")
def gO(T:String)(S:ac)(d:D):Option D:=(tyD S d).bind λt=>U (.bl (Ko T t))
def du(T:String)(m:ME):ME:=λenv S=>(m env S).bind λp=>(gO T p.2 p.1).bind λd=>U (d,p.2)
theorem Fs{S:ac}{d:D}{t:String}(h:tyD S d=U t):t = "NoneType"\/t = "bool"\/t = "int"\/t = "str"\/t = "tuple"\/t = "list"\/t = "dict":=by
 cases d<;>simp only[tyD] at h<;>first | (cases h;simp) | (split at h<;>first | (cases h;simp) | cases h) | cases h
theorem OP(K:FA){T t:String}(hT:T = "int"\/T = "bool"\/T = "str"\/T = "tuple"\/T = "list"\/T = "dict")(ht:t = "NoneType"\/t = "bool"\/t = "int"\/t = "str"\/t = "tuple"\/t = "list"\/t = "dict") :
  W.kitOne K (.type t) (.type T)=U (Ko T t):=by
 rcases hT with rfl | rfl | rfl | rfl | rfl | rfl<;>rcases ht with rfl | rfl | rfl | rfl | rfl | rfl | rfl<;>rfl
theorem kia_D{s:gw}{d:D}{t:String}{b:Bool}{Q:dn->gw->Prop}(I:Inv X pins σ H s)(hS:SOk X.K μ S H)(r:Rep X.K μ H v d)(ru:RelV v u)(ht:tyD S d=U t)
  (e:W.kitOne X.K (.type t) c=U b) (h:∀ tk,Q (.bool b) { s with toks:=tk }):Ew (model X.prog X.w) X.A (call (.builtin "isinstance") [u,c]) Q E s:=by
 have tupK:∀ {a:gV} {vs:List V},mj X.K H a vs->W.KitAt a "tuple" s.heap:=λ{a vs} q=>by
  obtain⟨its,_,⟨o,h1,h2,_⟩,_⟩:=I.tuple q;exact⟨o,h1,h2⟩
 have lstK:∀ {a:gV} {vs:List V},kK X.K H a vs->W.KitAt a "list" s.heap:=λ{a vs} q=>by
  obtain⟨its,_,⟨o,n,h1,h2,_⟩,_⟩:=I.list q;exact⟨o,h1,h2⟩
 have dK:∀ {a:gV} {kvs:List (bD×V)},H a=U (.dK kvs)->W.KitAt a "dict" s.heap:=λ{a kvs} q=>by
  obtain⟨_,_,vs,_,p⟩:=(show ObjOk X.prog X.w H s.heap a (.dK kvs) from I.hok a _ q)
  obtain⟨o,es,ep,h1,h2,_⟩:=p
  exact⟨o,h1,h2.1⟩
 cases r with
 | non=>cases ht;cases ru;exact Yc W.kitx_none I.kIn True.intro e (λz=>nomatch z) h
 | bl y=>cases ht;cases ru;exact Yc W.kitx_bool I.kIn True.intro e (λz=>nomatch z) h
 | int i=>cases ht;obtain⟨t,rfl⟩:=ru;exact Yc W.kitx_int I.kIn True.intro e (λz=>nomatch z) h
 | str y=>cases ht;obtain⟨t,rfl⟩:=ru;exact Yc W.kitx_str I.kIn True.intro e (λz=>nomatch z) h
 | tup q n r=>cases ht;cases ru;exact Yc W.kitx_tuple I.kIn (tupK (.inl (.inl q))) e (λz=>nomatch z) h
 | ktup q r=>cases ht;cases ru;exact Yc W.kitx_tuple I.kIn (tupK (.inr q)) e (λz=>nomatch z) h
 | lst q n r=>cases ht;cases ru;exact Yc aar I.kIn (lstK (.inl (.inl q))) e (λz=>nomatch z) h
 | rol q n r=>cases ht;cases ru;exact Yc aar I.kIn (lstK (.inl q)) e (λz=>nomatch z) h
 | krol q r=>cases ht;cases ru;exact Yc aar I.kIn (lstK (.inr q)) e (λz=>nomatch z) h
 | dct q n r=>cases ht;cases ru;exact Yc abm I.kIn (dK q) e (λz=>nomatch z) h
 | txt y=>cases ht;obtain⟨t,rfl⟩:=ru;exact Yc W.kitx_str I.kIn True.intro e (λz=>nomatch z) h
 | obj q n=>cases ht;cases ru;exact Yc abm I.kIn ((show ObjOk X.prog X.w H s.heap _ (.ext (RK _)) from I.hok _ _ q).1) e (λz=>nomatch z) h
 | exc q n q2 n2=>cases ht
 | fn a=>cases ht
 | @ref a i h'=>
  cases ru
  simp only[tyD] at ht
  cases q:S[i]? with
  | none=>rw[q] at ht;cases ht
  | some c'=>
   rw[q] at ht
   have ck:=hS.cell i a c' h' q
   cases c' with
   | lst xs=>cases ht;obtain⟨vs,q,r⟩:=ck;exact Yc aar I.kIn (lstK (.inl (.inl q))) e (λz=>nomatch z) h
   | dct ks xs=>cases ht;obtain⟨kvs,q,r⟩:=ck;exact Yc abm I.kIn (dK q) e (λz=>nomatch z) h
   | deep ks xs=>cases ht
theorem GS{p:Pos}(hm:X.mg "isinstance" = Y)(hmT:X.mg x=Y)(hb:bootBuiltins x=U (.type T))(ha:DE X a ma)
  (hT:T = "int"\/T = "bool"\/T = "str"\/T = "tuple"\/T = "list"\/T = "dict":=by simp)
  (hg:Gl X "isinstance":=by rfl) (hgT:Gl X x:=by rfl) (hn:x≠"__name__":=by decide) (hd:(x==("__debug__":Str))=false:=by decide)
  (hs1:zH [a,.Name x p2] X.env=(false,eval a X.env)::zH [.Name x p2] X.env:=by rfl) (hs2:zH [.Name x p2] X.env=(false,eval (.Name x p2) X.env)::zH [] X.env:=by rfl) (hpl:(backTo pos (zH [.Name x p2] X.env)).any (·.1)=false:=by rfl) :
  DE X (.Call (.Name "isinstance" p) [a,.Name x p2] [] pos) (du T ma):=by
 have hc:CallR X (.builtin "isinstance") (λvs H Q=>∃ v μ S d t,vs=[v,.ty T]/\SOk X.K μ S H/\Rep X.K μ H v d/\tyD S d=U t/\Q (.bl (Ko T t)) H):=by
  intro pins s σ H xs us Q I rv h
  obtain⟨v,μ,S,d,t,rfl,hS,r,ht,q⟩:=h
  obtain⟨u,w',rfl,r1,r2⟩:=yO rv
  cases r2
  exact kia_D I hS r r1 ht (OP _ hT (Fs ht)) λtk=>⟨.bl _,H,I.tok _,rfl,q⟩
 refine PE.imp (kY hc hg hm aaq (io ha (io (DF (v:=.ty T) hgT hmT hb rfl hn hd) pL hs2) hs1) (by decide) (by decide) hs1 hpl) λσ H Q ⟨μ,S,env,d,S',hS,hE,hm,post⟩=>?_
 obtain⟨⟨x,S1⟩,h1,hm⟩:=Ww.mp hm
 obtain⟨z,h2,hm⟩:=Ww.mp hm
 cases hm
 obtain⟨t,h3,h2⟩:=Ww.mp h2
 cases h2
 exact⟨μ,S,env,x,S1,hS,hE,h1,λv H1 μ1 e1 s1 r1=>⟨v,μ1,S1,x,t,rfl,s1,r1,h3,post _ H1 μ1 e1 s1 (.bl _)⟩⟩
end
section
variable{X:Cx}{K:FA}{μ μ':Fp}{H H':Hp}{S:ac}
def Hx(K:FA)(n:Nat)(f:List D->ac->Option (D×ac)):Sp:=λvs H Q _=>∃ μ S ds d S',SOk K μ S H/\Reps K μ H vs ds/\ds.length=n/\f ds S=U (d,S')/\Post K μ H S' d Q
structure Fn(P:pr)(w:sv)(K:FA)(mg:Str->Option dn)(base:wo)(k:Nat)(x:Str)(n:Nat)(f:List D->ac->Option (D×ac)):Prop where
 ex:∃ (a:gV) (fd:FuncData) (ps:List Str),ps.length=n/\FnOk P w K mg base Bn k a fd ps (Hx K n f)/\mg x=U (.ref a)/\W.keepIn K (.ref a)=true/\Binds K fd ps []
def ai(n:Nat)(f:List D->ac->Option (D×ac))(ms:MA):ME:=λenv S=>(ms env S).bind λp=>if p.1.length=n then f p.1 p.2 else Y
theorem HY(h:tM K (ai n f ms) σ H Q):Dv (Hx K n f) [] E0 (tMA K ms) σ H Q:=by
 obtain⟨μ,S,env,d,S',hS,hE,hm,post⟩:=h
 obtain⟨⟨xs,S1⟩,h1,hm⟩:=Ww.mp hm
 dsimp only at hm
 split at hm
 ·rename_i hn
  refine⟨μ,S,env,xs,S1,hS,hE,h1,λvs H1 μ1 e1 s1 r1=>?_⟩
  show Hx K n f (vs++[]) H1 Q E0
  rw[Xt]
  exact⟨μ1,S1,xs,d,S',s1,r1,hn,hm,post.ext e1⟩
 ·cases hm
theorem Qv{k:Nat}{e:pc}{es:List pc}(F:Fn X.prog X.w X.K X.mg X.base k x n f)(hr:Room k X.A)(ha:DA X (e::es) ms)(hg:Gl X x:=by rfl)
  (hdb:(x==("__debug__":Str))=false:=by decide) (he:zH (e::es) X.env=(false,eval e X.env)::zH es X.env:=by rfl) (hpl:(backTo pos (zH es X.env)).any (·.1)=false:=by rfl) :
  DE X (.Call (.Name x p) (e::es) [] pos) (ai n f ms):=by
 obtain⟨a,fd,ps,hn,F,hm,hk,hb⟩:=F.ex
 exact PE.imp (Og F hr hg hm hk hb .nil Rq ha hdb he hpl) λ_ _ _ h=>HY h
theorem Mm{k:Nat}(F:Fn X.prog X.w X.K X.mg X.base k x 0 f)(hr:Room k X.A)(hg:Gl X x:=by rfl)
  (hdb:(x==("__debug__":Str))=false:=by decide):DE X (.Call (.Name x p) [] [] pos) (ai 0 f af):=by
 obtain⟨a,fd,ps,hn,F,hm,hk,hb⟩:=F.ex
 refine PE.imp (Jc F hr hg hm hk hb .nil Rq hdb) λσ H Q h=>?_
 obtain⟨μ,S,env,d,S',hS,hE,hm,post⟩:=h
 exact⟨μ,S,[],d,S',hS,.nil,rfl,hm,post⟩
mutual
def oY(n:Nat):D->Bool
 | .tup xs=>closDs n xs
 | .lst xs=>closDs n xs
 | .rol xs=>closDs n xs
 | .dct _ xs=>closDs n xs
 | .ref r=>decide (r<n)
 | _=>true
def closDs(n:Nat):List D->Bool
 | []=>true
 | d::ds=>oY n d&&closDs n ds
end
def wO(n:Nat):Cell->Bool
 | .lst xs=>closDs n xs
 | .dct _ xs=>closDs n xs
 | .deep ks xs=>closDs n (dkDs ks)&&closDs n xs
theorem nv:∀ {ds:List D},closDs n ds=true->∀ d∈ds,oY n d=true
 | _::_,c,_,.head _=>(Wz _ _ |>.mp c).1
 | _::_,c,_,.tail _ h=>nv (Wz _ _ |>.mp c).2 _ h
theorem Rep.trunc{cs l fb:List gV}{d:D}(r:Rep K ⟨cs++l,fb⟩ H v d)(c:oY cs.length d=true):Rep K ⟨cs,fb⟩ H v d:=
 Rep.to (μ:=⟨cs++l,fb⟩) (μ':=⟨cs,fb⟩) (P:=λd=>oY cs.length d=true) (λd c x hx=>by cases d<;>first | (cases hx;done) | exact nv c x hx) (λh n=>⟨h,λz=>n.1 (XA _ z),n.2⟩) (λc (h:(cs++l)[_]?=U _)=>by rw[WS (XM c)] at h;exact h) r c
theorem Reps.trunc{cs l fb:List gV}(r:Reps K ⟨cs++l,fb⟩ H vs ds)(c:closDs cs.length ds=true):Reps K ⟨cs,fb⟩ H vs ds:=Reps.to (μ:=⟨cs++l,fb⟩) (μ':=⟨cs,fb⟩) (P:=λd=>oY cs.length d=true) (λr c=>r.trunc c) r (nv c)
theorem Rep.closed{d:D}(r:Rep K μ H v d):oY μ.cs.length d=true:=
 Rep.rec (motive_1:=λ_ d _=>oY μ.cs.length d=true) (motive_2:=λ_ ds _=>closDs μ.cs.length ds=true) rfl (λ_=>rfl) (λ_=>rfl) (λ_=>rfl) (λ_ _ _ i=>i) (λ_ _ i=>i) (λ_ _ _ i=>i) (λ_ _ _ i=>i) (λ_ _ i=>i) (λ_ _ _ i=>i) (λh=>Xk (WC.mp h).1) (λ_=>rfl) (λ_ _=>rfl) (λ_ _ _ _=>rfl) (λ_=>rfl) rfl (λ_ _ i j=>by rw[closDs,i,j];rfl) r
theorem Reps.closed:∀ {vs:List V} {ds:List D},Reps K μ H vs ds->closDs μ.cs.length ds=true
 | _,_,.nil=>rfl
 | _,_,.cons h t=>by rw[closDs,Rep.closed h,Reps.closed t];rfl
theorem SOk.closed(s:SOk K μ S H):∀ c∈S,wO S.length c=true:=λc hc=>by
 obtain⟨r,hr⟩:=Zs.mp hc
 have hl:=(WC.mp hr).1
 have hl':r < μ.cs.length:=by rw[s.len];exact hl
 have:=s.cell r _ c (WK hl') hr
 cases c with
 | lst ds=>obtain⟨vs,_,q⟩:=this;rw[<- s.len];exact q.closed
 | dct ks ds=>obtain⟨vs,_,_,q⟩:=this;rw[<- s.len];exact q.closed
 | deep ks ds=>obtain⟨vs,_,_,q,q'⟩:=this;rw[<- s.len];exact abg.mpr ⟨q.closed,q'.closed⟩
theorem SOk.trunc{S' g:ac}(s:SOk K μ (S'++g) H)(hc:∀ c∈S',wO S'.length c=true):∃ cs l,μ.cs=cs++l/\cs.length=S'.length/\SOk K ⟨cs,μ.fb⟩ S' H:=by
 obtain⟨cs0,fb⟩:=μ
 have hlen:cs0.length=S'.length+g.length:=by have:=s.len;simpa using this
 have hcl:(cs0.take S'.length).length=S'.length:=by rw[YD];omega
 refine⟨cs0.take S'.length,cs0.drop S'.length,(XR _ _).symm,hcl,s.nd.sublist (List.take_sublist _ _),hcl,λr a c h1 h2=>?_,s.fdom,λa ha z=>s.disj a ha (XZ z)⟩
 have hr:=(WC.mp h2).1
 have h1':cs0[r]?=U a:=by
  have h1:(cs0.take S'.length)[r]?=U a:=h1
  rwa[aaI hr] at h1
 have ck:=s.cell r a c h1' (by rw[WS hr];exact h2)
 have cc:=hc c (Xw h2)
 have e:cs0=cs0.take S'.length++cs0.drop S'.length:=(XR _ _).symm
 cases c with
 | lst ds=>
  obtain⟨vs,q,r⟩:=ck
  have r':Reps K ⟨cs0.take S'.length++cs0.drop S'.length,fb⟩ H vs ds:=by rw[<- e];exact r
  exact⟨vs,q,r'.trunc (by rw[hcl];exact cc)⟩
 | dct ks ds=>
  obtain⟨vs,q,q2,r⟩:=ck
  have r':Reps K ⟨cs0.take S'.length++cs0.drop S'.length,fb⟩ H (vs.map (·.2)) ds:=by rw[<- e];exact r
  exact⟨vs,q,q2,r'.trunc (by rw[hcl];exact cc)⟩
 | deep ks ds=>
  obtain⟨vs,q,q2,r,u⟩:=ck
  have cc:=abg.mp cc
  have r':Reps K ⟨cs0.take S'.length++cs0.drop S'.length,fb⟩ H (vs.map λp=>.ref p.2.1) (dkDs ks):=by rw[<- e];exact r
  have u':Reps K ⟨cs0.take S'.length++cs0.drop S'.length,fb⟩ H (vs.map (·.2.2)) ds:=by rw[<- e];exact u
  exact⟨vs,q,q2,r'.trunc (by rw[hcl];exact cc.1),u'.trunc (by rw[hcl];exact cc.2)⟩
theorem Post.trunc{g:ac}{d:D}(post:Post K μ H S' d Q)(hd:oY S'.length d=true)(hc:∀ c∈S',wO S'.length c=true)(hl:μ.cs.length<=S'.length):Post K μ H (S'++g) d Q:=λv H' μ' e s r=>by
 obtain⟨cs,l,q,hcl,s'⟩:=s.trunc hc
 obtain⟨cs',fb'⟩:=μ'
 have q':cs'=cs++l:=q
 subst q'
 refine post v H' ⟨cs,fb'⟩ ⟨e.fb,?_,e.keep,λa ha=>e.dom a (XA _ ha)⟩ s' (r.trunc (by rw[hcl];exact hd))
 obtain⟨l0,q0,h0⟩:=e.pre
 have q0:cs++l = μ.cs++l0:=q0
 have hle:μ.cs.length<=cs.length:=by rw[hcl];exact hl
 refine⟨cs.drop μ.cs.length,?_,λa ha=>h0 a ?_⟩
 ·have t1:(cs++l).take μ.cs.length = μ.cs:=by rw[q0];simp
  rw[List.take_append_of_le_length hle] at t1
  show cs = μ.cs++cs.drop μ.cs.length
  conv=>lhs;rw[<- XR μ.cs.length cs,t1]
 ·have t2:(cs++l).drop μ.cs.length=l0:=by rw[q0];simp
  rw[<- t2,List.drop_append_of_le_length hle]
  exact XA _ ha
def Runs(m:MS)(env:ax)(S:ac)(d:D)(S':ac):Prop:=
 ∃ o g,m env S=U o/\(g=[]\/(oY S'.length d=true/\(∀ c∈S',wO S'.length c=true)/\S.length<=S'.length))/\(o=.rt d (S'++g)\/(d=.non/\∃ env',o=.nx env' (S'++g)))
theorem Runs.ret{m:MS}{d:D}(h:m env S=U (.rt d S')):Runs m env S d S':=⟨_,[],h,.inl rfl,.inl (by rw[Xt])⟩
def aV(N:List Str)(ds:List D):ax:=ds.map U++Ga (N.length - ds.length) Y
theorem RN{k:Nat}{st:tu}{f:List D->ac->Option (D×ac)}
  (F:L2.Fun K x qual st a fd) (Sc:aN N ps (ar st))
  (hbody:∀ (cdv:dn) (A:tx) (outer:List PySem.Env) (s:gw) (H:Hp) (E:XK),Room k (A.deeper (envOfC qual (ar st) s.heap.objs.size a cdv)) ->
   ∃ m,yK (rQ Bn P w K mg base N qual (ar st) a cdv A outer s H E).nox (aE st) m/\∀ ds S d S',ds.length=ps.length->(∀ c∈S,wO S.length c=true)->closDs S.length ds=true->f ds S=U (d,S')->Runs m (aV N ds) S d S') :
  FnOk P w K mg base Bn (k+1) a fd ps (Hx K ps.length f):=by
 refine F.ok Sc (λvs H Q E h=>?_) (λcdv A outer s H vs Q E hr h=>?_)
 ·obtain⟨μ,S,ds,d,S',hS,hr,hn,hf,post⟩:=h
  rw[hr.length,hn]
 ·obtain⟨m,hm,run⟩:=hbody cdv A outer s H E hr
  refine⟨_,hm,?_⟩
  obtain⟨μ,S,ds,d,S',hS,hrp,hn,hf,post⟩:=h
  obtain⟨o,g,ho,hg,hend⟩:=run ds S d S' hn hS.closed (by rw[<- hS.len];exact hrp.closed) hf
  have post':Post K μ H (S'++g) d Q:=by
   rcases hg with rfl | ⟨c1,c2,c3⟩
   ·rw[Xt];exact post
   ·exact post.trunc c1 c2 (by rw[hS.len];exact c3)
  have hEnv:EOk K μ H (L2.start N vs) (aV N ds):=by unfold L2.start aV;rw[hrp.length];exact EOk.start hrp
  rcases hend with rfl | ⟨rfl,env',rfl⟩
  ·exact⟨μ,S,_,_,hS,hEnv,ho,post'⟩
  ·exact⟨μ,S,_,_,hS,hEnv,ho,λσ' H' μ' e s' _=>post' .non H' μ' e s' .non⟩
theorem RO{mg:Str->Option dn}{k:Nat}{st:tu}{f:List D->ac->Option (D×ac)}
  (F:L2.Fun K x qual st a fd) (Sc:aN N ps (ar st)) (hmg:mg x=U (.ref a)) (hb:Binds K fd ps [])
  (hbody:∀ (cdv:dn) (A:tx) (outer:List PySem.Env) (s:gw) (H:Hp) (E:XK),Room k (A.deeper (envOfC qual (ar st) s.heap.objs.size a cdv)) ->
   ∃ m,yK (rQ Bn P w K mg base N qual (ar st) a cdv A outer s H E).nox (aE st) m/\∀ ds S d S',ds.length=ps.length->(∀ c∈S,wO S.length c=true)->closDs S.length ds=true->f ds S=U (d,S')->Runs m (aV N ds) S d S') :
  Fn P w K mg base (k+1) x ps.length f:=⟨a,fd,ps,rfl,RN F Sc hbody,hmg,F.kp,hb⟩
end
section
variable{X:Cx}{K:FA}{μ μ':Fp}{H H':Hp}{S:ac}
theorem PostN.ext(e:Ext μ H μ' H')(p:PostN K μ H S' env' Q):PostN K μ' H' S' env' Q:=λσ2 H2 μ2 e2 s r=>p σ2 H2 μ2 (e.trans e2) s r
theorem PostS.ext(e:Ext μ H μ' H')(p:PostS K μ H o E):PostS K μ' H' o E:=by
 cases o with
 | nx env S=>exact PostN.ext e p
 | rt d S=>exact Post.ext e p
 | bk env S=>exact PostN.ext e p
 | ct env S=>exact PostN.ext e p
def aL:MS:=λenv S=>U (.nx env S)
def aD(a b:MS):MS:=λenv S=>(a env S).bind λo=>match o with | .nx env' S'=>b env' S' | o=>U o
theorem Fb:yK X [] aL:=PSs.imp NN λE σ H ⟨μ,S,env,o,hS,hE,hm,post⟩=>by cases hm;exact post σ H μ hS.ext hS hE
theorem Nm(h:Su K (aD a b) E σ H):tSeq (Su K a) (Su K b) E σ H:=by
 obtain⟨μ,S,env,o,hS,hE,hm,post⟩:=h
 obtain⟨o1,h1,hm⟩:=Ww.mp hm
 refine⟨μ,S,env,o1,hS,hE,h1,?_⟩
 cases o1 with
 | nx env' S'=>exact λσ' H' μ' e s r=>⟨μ',S',env',o,s,r,hm,post.ext e⟩
 | rt d S'=>cases hm;exact post
 | bk env' S'=>cases hm;exact post
 | ct env' S'=>cases hm;exact post
theorem LH{st:tu}(h1:DS X st a)(h2:yK X rest b):yK X (st::rest) (aD a b):=PSs.imp (zl h1 h2) λ_ _ _ h=>Nm h
theorem Fa{st:tu}(h1:DS X st a):yK X [st] a:=xF h1
variable{pos:Pos}{e c:pc}{m:ME}{mt:MT}{a b:List tu}{ma mb:MS}
theorem PV:DS X (.Pass pos) aL:=PS.imp NQ λE σ H ⟨μ,S,env,o,hS,hE,hm,post⟩=>by cases hm;exact post σ H μ hS.ext hS hE
theorem LJ:DS X (.Break pos) (λenv S=>U (.bk env S)):=PS.imp IR λE σ H ⟨μ,S,env,o,hS,hE,hm,post⟩=>by cases hm;exact post σ H μ hS.ext hS hE
theorem AS:DS X (.Continue pos) (λenv S=>U (.ct env S)):=PS.imp zm λE σ H ⟨μ,S,env,o,hS,hE,hm,post⟩=>by cases hm;exact post σ H μ hS.ext hS hE
theorem VH{x j p}:DS X (.Expr (.Constant (.str x) j p) pos) aL:=PS.imp Th λE σ H ⟨μ,S,env,o,hS,hE,hm,post⟩=>by cases hm;exact post σ H μ hS.ext hS hE
def aX(m:ME):MS:=λenv S=>(m env S).bind λp=>U (.rt p.1 p.2)
theorem VF(he:DE X e m):DS X (.Return (U e) pos) (aX m):=PS.imp (Tf he) λE σ H z0=>by
 obtain⟨μ,S,env,o,hS,hE,hm,post⟩:=z0
 obtain⟨⟨d,S1⟩,h1,hm⟩:=Ww.mp hm
 cases hm
 exact⟨μ,S,env,d,S1,hS,hE,h1,post⟩
theorem PU:DS X (.Return Y pos) (λ_ S=>U (.rt .non S)):=PS.imp NP λE σ H ⟨μ,S,env,o,hS,hE,hm,post⟩=>by cases hm;exact Post.here post hS .non
def dN(m:ME):MS:=λenv S=>(m env S).bind λp=>U (.nx env p.2)
theorem PZ(he:DE X e m)(hs:swapsWith e Y pos.line X.env=pure false:=by rfl):DS X (.Expr e pos) (dN m):=PS.imp (NS he hs) λE σ H z0=>by
 obtain⟨μ,S,env,o,hS,hE,hm,post⟩:=z0
 obtain⟨⟨d,S1⟩,h1,hm⟩:=Ww.mp hm
 cases hm
 exact⟨μ,S,env,d,S1,hS,hE,h1,λv H' μ' ex s r=>post σ H' μ' ex s (hE.mono ex)⟩
def bJ(t:MT)(a b:MS):MS:=λenv S=>(t env S).bind λp=>if p.1=true then a env p.2 else b env p.2
theorem ds_if(hc:DT X c mt)(ha:yK X a ma)(hb:yK X b mb):DS X (.If c a b pos) (bJ mt ma mb):=PS.imp (Rn hc ha hb) λE σ H z0=>by
 obtain⟨μ,S,env,o,hS,hE,hm,post⟩:=z0
 obtain⟨⟨k,S1⟩,h1,hm⟩:=Ww.mp hm
 refine⟨μ,S,env,k,S1,hS,hE,h1,λH1 μ1 e1 s1=>?_⟩
 cases k with
 | true=>rw[WN rfl] at hm ⊢;exact⟨μ1,S1,env,o,s1,hE.mono e1,hm,post.ext e1⟩
 | false=>rw[WX WJ] at hm ⊢;exact⟨μ1,S1,env,o,s1,hE.mono e1,hm,post.ext e1⟩
noncomputable abbrev MG:=D->ax->ac->Option (ax×ac)
noncomputable abbrev mE:=List D->ax->ac->Option (ax×ac)
inductive Hw(K:FA)(g:MG)(v:V)(σ:L2.St)(H:Hp)(Q:L2.St->Hp->Prop):Prop
 | mk (μ:Fp) (S:ac) (env:ax) (d:D) (env':ax) (S':ac) (hS:SOk K μ S H) (hE:EOk K μ H σ env) (h1:Rep K μ H v d) (h:g d env S=U (env',S')) (post:PostN K μ H S' env' Q)
inductive tMGs(K:FA)(g:mE)(vs:List V)(σ:L2.St)(H:Hp)(Q:L2.St->Hp->Prop):Prop
 | mk (μ:Fp) (S:ac) (env:ax) (ds:List D) (env':ax) (S':ac) (hS:SOk K μ S H) (hE:EOk K μ H σ env) (h1:Reps K μ H vs ds) (h:g ds env S=U (env',S')) (post:PostN K μ H S' env' Q)
def DG(X:Cx)(tg:pc)(g:MG):Prop:=PG X tg (Hw X.K g)
def QU(X:Cx)(tg:List pc)(g:mE):Prop:=PGs X tg (tMGs X.K g)
theorem PG.imp{t':TG}(h:PG X tg t)(i:∀ v σ H Q,t' v σ H Q->t v σ H Q):PG X tg t':=λpins s σ H v u Q I r q=>h pins s σ H v u Q I r (i v σ H Q q)
theorem PGs.imp{t':HA}(h:PGs X tg t)(i:∀ v σ H Q,t' v σ H Q->t v σ H Q):PGs X tg t':=λpins s σ H v u Q I r q=>h pins s σ H v u Q I r (i v σ H Q q)
def aj(i:Nat):MG:=λd env S=>U (env.set i (U d),S)
theorem Fd{i:Nat}{x:Str}(hN:X.N.Nodup)(hi:X.N[i]?=U x)(hx:MR X.env.scope x)(hf:X.fn x=true\/X.env.scope.names.lookup x=U .local:=by first | exact .inl rfl | exact .inr rfl | assumption):DG X (.Name x pos) (aj i):=
 PG.imp (Oa hN hi hx hf) λv σ H Q ⟨μ,S,env,d,env',S',hS,hE,hr,hm,post⟩=>by cases hm;exact post _ H μ hS.ext hS (hE.set hr i)
def bU:mE:=λds env S=>match ds with | []=>U (env,S) | _=>Y
def au(g:MG)(gs:mE):mE:=λds env S=>match ds with | d::r=>(g d env S).bind λp=>gs r p.1 p.2 | []=>Y
theorem Qe:QU X [] bU:=PGs.imp NY λv σ H Q z0=>by
 obtain⟨μ,S,env,ds,env',S',hS,hE,hr,hm,post⟩:=z0
 cases hr with
 | nil=>cases hm;exact⟨rfl,post σ H μ hS.ext hS hE⟩
 | cons _ _=>cases hm
theorem LU{t:pc}{g:MG}(h1:DG X t g)(h2:QU X ts gs)(hs:(assignEach (t::ts) X.env).map (·.2)=assign t X.env::(assignEach ts X.env).map (·.2):=by rfl):QU X (t::ts) (au g gs):=
 PGs.imp (IV h1 h2 hs) λv σ H Q z0=>by
  obtain⟨μ,S,env,ds,env',S',hS,hE,hr,hm,post⟩:=z0
  cases hr with
  | nil=>cases hm
  | @cons v d vs ds h t=>
   obtain⟨⟨env1,S1⟩,h1,hm⟩:=Ww.mp hm
   exact⟨v,vs,rfl,μ,S,env,d,env1,S1,hS,hE,h,h1,λσ1 H1 μ1 e1 s1 r1=>⟨μ1,S1,env1,ds,env',S',s1,r1,t.mono e1,hm,post.ext e1⟩⟩
def cj(n:Nat)(gs:mE):MG:=λd env S=>match d with | .tup xs=>if xs.length=n then gs xs env S else Y | _=>Y
theorem LV{k n:Nat}(hc:X.calm=true)(h:QU X es gs)(hn:(assignEach es X.env).length=n:=by rfl)(hst:(assignEach es X.env).findIdx? (·.1)=Y:=by rfl):DG X (.Tuple es k pos) (cj n gs):=
 PG.imp (To hc h hn hst) λv σ H Q z0=>by
  obtain⟨μ,S,env,d,env',S',hS,hE,hr,hm,post⟩:=z0
  cases d with
  | tup xs=>
   simp only[cj] at hm
   split at hm
   ·rename_i hl
    obtain⟨a,vs,rfl,q,r⟩:=hr.sqT
    exact⟨a,vs,rfl,q,by rw[r.length];exact hl,μ,S,env,xs,env',S',hS,hE,r,hm,post⟩
   ·cases hm
  | _=>cases hm
def gx(o i:ME):MG:=λd env S=>(o env S).bind λp=>(i env p.2).bind λq=>match p.1,q.1 with
 | .ref r,.int k=>match q.2[r]? with
  | some (.lst xs)=>(Gf xs.length k).bind λj=>U (env,q.2.set r (.lst (xs.set j d)))
  | _=>Y
 | _,_=>Y
theorem VL(ho:DE X o mo)(hi:DE X i mi)(ha:∀ v,assign (.Subscript o i pos) X.env v=(do
   let ov <- holding [v] (eval o X.env)
   let iv <- holding [v,ov] (eval i X.env)
   standAt pos
   holding [v,ov,iv] (setItem ov iv v)
   release [v,ov,iv] []):=by intro _;rfl):DG X (.Subscript o i pos) (gx mo mi):=
 PG.imp (IW ho hi Ip ha) λv σ H Q z0=>by
  obtain⟨μ,S,env,d,env',S',hS,hE,hr,hm,post⟩:=z0
  obtain⟨⟨x,S1⟩,h1,hm⟩:=Ww.mp hm
  obtain⟨⟨y,S2⟩,h2,hm⟩:=Ww.mp hm
  refine⟨μ,S,env,x,S1,hS,hE,h1,λv1 H1 μ1 e1 s1 r1=>⟨μ1,S1,env,y,S2,s1,hE.mono e1,h2,λv2 H2 μ2 e2 s2 r2=>?_⟩⟩
  cases x with
  | ref r=>
   cases y with
   | int k=>
    dsimp only at hm
    cases q:S2[r]? with
    | none=>rw[q] at hm;cases hm
    | some c=>
     rw[q] at hm
     cases c with
     | lst xs=>
      obtain⟨j,h3,hm⟩:=Ww.mp hm
      cases hm
      have r1':=r1.mono e2
      cases r1' with
      | @ref a _ h'=>
       obtain⟨vs,hv,rv⟩:=s2.cell r a _ h' q
       have rd:=(hr.mono e1).mono e2
       obtain⟨e3,s3⟩:=s2.write h' hv (rv.set rd j)
       exact⟨a,vs,k,j,rfl,r2.int_inv,hv,by rw[rv.length];exact h3,post σ _ μ2 ((e1.trans e2).trans e3) s3 (hE.mono ((e1.trans e2).trans e3))⟩
     | dct ks xs=>cases hm
     | deep ks xs=>cases hm
   | _=>cases hm
  | _=>cases hm
def aH(m:ME)(g:MG):MS:=λenv S=>(m env S).bind λp=>(g p.1 env p.2).bind λq=>U (.nx q.1 q.2)
theorem Nq{g:MG}(h:Su K (aH m g) E σ H):Ia (tM K m) (Hw K g) E σ H:=by
 obtain⟨μ,S,env,o,hS,hE,hm,post⟩:=h
 obtain⟨⟨d,S1⟩,h1,hm⟩:=Ww.mp hm
 obtain⟨⟨env2,S2⟩,h2,hm⟩:=Ww.mp hm
 cases hm
 exact⟨μ,S,env,d,S1,hS,hE,h1,λv H1 μ1 e1 s1 r1=>⟨μ1,S1,env,d,env2,S2,s1,hE.mono e1,r1,h2,PostN.ext e1 post⟩⟩
theorem LK{g:MG}(he:DE X e m)(hg:DG X tg g)(hs:swapsWithSole [tg] e pos.line X.env=pure false:=by rfl)(hw:swappedStores [tg] e X.env=pure Y:=by rfl)
  (h1:(assignEach [tg] X.env).map (·.2)=[assign tg X.env]:=by rfl):DS X (.Assign [tg] e pos) (aH m g):=PS.imp (Ti he hg hs hw h1) λ_ _ _ h=>Nq h
theorem yw{i:Nat}{x:Str}(hN:X.N.Nodup)(hi:X.N[i]?=U x)(hx:MR X.env.scope x)(he:DE X e m)(hs:swapsWith e (U (.Name x pos')) pos.line X.env=pure false:=by rfl)(hf:X.fn x=true\/X.env.scope.names.lookup x=U .local:=by first | exact .inl rfl | exact .inr rfl | assumption) :
  DS X (.Assign [.Name x pos'] e pos) (aH m (aj i)):=PS.imp (Te hN hi hx he hs hf) λE σ H h=>by
 obtain⟨μ,S,env,o,hS,hE,hm,post⟩:=h
 obtain⟨⟨d,S1⟩,h1,hm⟩:=Ww.mp hm
 cases hm
 exact⟨μ,S,env,d,S1,hS,hE,h1,λv H1 μ1 e1 s1 r1=>post _ H1 μ1 e1 s1 ((hE.mono e1).set r1 i)⟩
structure ExtP(μ:Fp)(H:Hp)(μ':Fp)(H':Hp):Prop where
 fb:∃ l,μ'.fb=l++μ.fb/\∀ a∈l,H a=Y
 pre:∃ l,μ'.cs = μ.cs++l/\∀ a∈l,H a=Y
 keep:∀ a o,a∉μ.cs->H a=U o->H' a=U o
 dom:∀ a∈μ'.cs,H' a≠Y
theorem Ext.toP(e:Ext μ H μ' H'):ExtP μ H μ' H':=⟨⟨[],by rw[e.fb];rfl,λ_ z=>by simp at z⟩,e.pre,e.keep,e.dom⟩
theorem ExtP.stays(e:ExtP μ H μ' H'){a:gV}{o:HO}(h:H a=U o)(n:μ.no a):H' a=U o/\μ'.no a:=by
 refine⟨e.keep a o n.1 h,λz=>?_,λz=>?_⟩
 ·obtain⟨l,q,hl⟩:=e.pre
  rw[q] at z
  rcases Xb.mp z with z | z
  ·exact n.1 z
  ·rw[hl a z] at h;cases h
 ·obtain⟨l,q,hl⟩:=e.fb
  rw[q] at z
  rcases Xb.mp z with z | z
  ·rw[hl a z] at h;cases h
  ·exact n.2 z
theorem ExtP.then(e:ExtP μ H μ' H')(f:Ext μ' H' μ'' H''):ExtP μ H μ'' H'':=by
 obtain⟨l,q,hl⟩:=e.pre
 obtain⟨l',q',hl'⟩:=f.pre
 refine⟨by rw[f.fb];exact e.fb,⟨l++l',by rw[q',q,XQ],λa ha=>?_⟩,λa o n h=>?_,f.dom⟩
 ·rcases Xb.mp ha with ha | ha
  ·exact hl a ha
  ·have h1:=hl' a ha
   cases q2:H a with
   | none=>rfl
   | some o=>
    by_cases hm:a∈μ.cs
    ·exact absurd h1 (e.dom a (by rw[q];exact XA _ hm))
    ·rw[e.keep a o hm q2] at h1;cases h1
 ·have h1:=e.keep a o n h
  refine f.keep a o (λz=>?_) h1
  rw[q] at z
  rcases Xb.mp z with z | z
  ·exact n z
  ·rw[hl a z] at h;cases h
theorem ExtP.chg(e:ExtP μ H μ' H')(hp:H p=Y):ExtP μ H μ' (upd H' p o):=
 ⟨e.fb,e.pre,λa o' n h=>by rw[aA (bG h hp)];exact e.keep a o' n h,λa ha=>by
  by_cases z:a=p
  ·subst z;rw[aB];simp
  ·rw[aA z];exact e.dom a ha⟩
theorem ExtP.ix(e:ExtP μ H μ' H'){r:Nat}{a:gV}(h:μ.cs[r]?=U a):μ'.cs[r]?=U a:=by
 obtain⟨l,q,_⟩:=e.pre
 exact yE q h
theorem Rep.monoP(e:ExtP μ H μ' H'){d:D}(r:Rep K μ H v d):Rep K μ' H' v d:=r.imp e.stays e.ix
def Hu(K:FA)(μ:Fp)(H:Hp)(J:It)(xs:List D):Prop:=
 ∀ μ' H' S',ExtP μ H μ' H'->SOk K μ' S' H'->∀ i,(∀ d,xs[i]?=U d->J.go i H'/\∀ x H2,J.yld i H' x H2->Ext μ' H' μ' H2/\SOk K μ' S' H2/\Rep K μ' H2 x d)/\(xs.length<=i->J.stop i H')
inductive iM(K:FA)(m:MA)(σ:L2.St)(H:Hp)(R:It->Hp->Prop):Prop
 | mk (μ:Fp) (S:ac) (env:ax) (xs:List D) (S':ac) (hS:SOk K μ S H) (hE:EOk K μ H σ env) (h:m env S=U (xs,S')) (post:∀ J H' μ',Ext μ H μ' H'->SOk K μ' S' H'->Hu K μ' H' J xs->R J H')
def DI(X:Cx)(tg iter:pc)(m:MA):Prop:=PI X tg iter (iM X.K m)
theorem PI.imp{t':TI}(h:PI X tg iter t)(i:∀ σ H R,t' σ H R->t σ H R):PI X tg iter t':=λpins s σ H R I q=>h pins s σ H R I (i σ H R q)
theorem lT{v:V}{a:gV}{d:D}{xs:List D}(hd:d=.lst xs\/d=.rol xs)(r:Rep K μ H v d)(hv:v=.ref a):Hu K μ H (Itl K a) xs:=λμ' H' S' e s i=>by
 have r':=r.monoP e
 obtain⟨vs,q,rs⟩:∃ vs,kK K H' a vs/\Reps K μ' H' vs xs:=by
  subst hv
  rcases hd with rfl | rfl
  ·obtain⟨a',vs,ea,q,_,rs⟩:=r'.sqL;cases ea;exact⟨vs,.inl (.inl q),rs⟩
  ·obtain⟨a',vs,ea,q,rs⟩:=r'.sqR;cases ea;exact⟨vs,q,rs⟩
 refine⟨λd hd=>?_,λhl=>⟨vs,q,by rw[rs.length];exact hl⟩⟩
 obtain⟨v,hv,rv⟩:=rs.get hd
 refine⟨⟨vs,v,q,hv⟩,λx H2 ⟨e2,hy⟩=>?_⟩
 subst e2
 have:=hy vs q
 rw[hv] at this;cases this
 exact⟨s.ext,s,rv⟩
theorem Ar{a:gV}{xs:List D}(r:Rep K μ H (.ref a) (.tup xs)):Hu K μ H (Itt K a) xs:=λμ' H' S' e s i=>by
 obtain⟨a',vs,ea,q,rs⟩:=(r.monoP e).sqT
 cases ea
 refine⟨λd hd=>?_,λhl=>⟨vs,q,by rw[rs.length];exact hl⟩⟩
 obtain⟨v,hv,rv⟩:=rs.get hd
 refine⟨⟨vs,v,q,hv⟩,λx H2 ⟨e2,hy⟩=>?_⟩
 subst e2
 have:=hy vs q
 rw[hv] at this;cases this
 exact⟨s.ext,s,rv⟩
variable{tg iter:pc}
def cA(lo:Int)(n:Nat):List D:=(List.range n).map λ(i:Nat)=>D.int (lo+(i:Int))
theorem sM(lo:Int)(n i:Nat)(d:D)(h:(cA lo n)[i]?=U d):i<n/\d=.int (lo+(i:Int)):=by
 unfold cA at h
 rw[XU] at h
 cases q:(List.range n)[i]? with
 | none=>rw[q] at h;cases h
 | some j=>
  rw[q] at h;cases h
  obtain⟨h1,h2⟩:=WC.mp q
  simp at h1 h2
  exact⟨h1,by rw[h2]⟩
theorem tS(lo:Int)(n:Nat):Hu K μ H (Itr lo n) (cA lo n):=λμ' H' S' e s i=>by
 refine⟨λd hd=>?_,λhl=>?_⟩
 ·obtain⟨h1,rfl⟩:=sM lo n i d hd
  refine⟨h1,λx H2 ⟨e2,hy⟩=>?_⟩
  subst e2 hy
  exact⟨s.ext,s,.int _⟩
 ·have:(cA lo n).length=n:=by simp[cA]
  rw[this] at hl;exact hl
def bg(ms:MA):MA:=λenv S=>(ms env S).bind λp=>match p.1 with | [.int j]=>if -(2^62)<=j/\j<2^62 then U (cA 0 j.toNat,p.2) else Y | _=>Y
theorem GN{a:pc}{p:Pos}(hm:X.mg "range" = Y)(ha:DA X [a] ms)(hg:Gl X "range":=by rfl)(hs:zH [a] X.env=[(false,eval a X.env)]:=by rfl):DI X tg (.Call (.Name "range" p) [a] [] pos) (bg ms):=
 PI.imp (vH hg hm ha hs) λσ H R z0=>by
  obtain⟨μ,S,env,xs,S',hS,hE,hm,post⟩:=z0
  obtain⟨⟨ds,S1⟩,h1,hm⟩:=Ww.mp hm
  refine⟨μ,S,env,ds,S1,hS,hE,h1,λvs H1 μ1 e1 s1 r1=>?_⟩
  dsimp only at hm
  split at hm
  ·split at hm
   ·rename_i hb
    cases hm
    obtain⟨v,rfl,r⟩:=r1.one
    exact⟨_,by rw[r.int_inv],hb.1,hb.2,post _ H1 μ1 e1 s1 (tS 0 _)⟩
   ·cases hm
  ·cases hm
def cE(g:MG)(body:MS):List D->ax->ac->Option qA
 | [],env,S=>U (.nx env S)
 | d::ds,env,S=>(g d env S).bind λp=>(body p.1 p.2).bind λo=>match o with
  | .nx e s=>cE g body ds e s
  | .ct e s=>cE g body ds e s
  | .bk e s=>U (.nx e s)
  | .rt d s=>U (.rt d s)
def gY(mi:MA)(g:MG)(body:MS):MS:=λenv S=>(mi env S).bind λp=>cE g body p.1 env p.2
theorem LI{g:MG}{mb:MS}(hp:PassesOwn (model X.prog X.w) X.A X.env X.xe)(hc:X.calm=true)(hi:DI X tg iter mi)(hg:DG X tg g)(hb:yK X body mb)
  (hs:∀ x,zI iter X.env x=pure x:=by intro _;rfl):DS X (.For tg iter body [] pos) (gY mi g mb):=PS.imp (IQ hp hc hi hg hb hs) λE σ H z0=>by
 obtain⟨μ,S,env,o,hS,hE,hm,post⟩:=z0
 obtain⟨⟨xs,S1⟩,h1,hm⟩:=Ww.mp hm
 refine⟨μ,S,env,xs,S1,hS,hE,h1,λJ H1 μ1 e1 s1 it=>?_⟩
 refine⟨λi n σ H=>n=xs.length - i/\i<=xs.length/\∃ μ' S' env' o',Ext μ1 H1 μ' H/\SOk X.K μ' S' H/\EOk X.K μ' H σ env'/\cE g mb (xs.drop i) env' S'=U o'/\PostS X.K μ' H o' E,
  ⟨xs.length,by simp,YZ _,μ1,S1,env,o,s1.ext,s1,hE.mono e1,by rw[Zf];exact hm,post.ext e1⟩,?_⟩
 rintro i n σ' H' ⟨rfl,hi,μ',S',env',o',e',s',r',hl,post'⟩
 have iti:=it μ' H' S' e'.toP s' i
 by_cases hlt:i<xs.length
 ·refine .inr ⟨(iti.1 xs[i] (WK hlt)).1,λσ2 H2=>∃ μ2 S2 env2 o2,Ext μ1 H1 μ2 H2/\SOk X.K μ2 S2 H2/\EOk X.K μ2 H2 σ2 env2/\cE g mb (xs.drop (i+1)) env2 S2=U o2/\PostS X.K μ2 H2 o2 E,
   λσ2 H2 ⟨μ2,S2,env2,o2,q1,q2,q3,q4,q5⟩=>⟨xs.length - (i+1),by omega,rfl,hlt,μ2,S2,env2,o2,q1,q2,q3,q4,q5⟩,λx H2 y=>?_⟩
  obtain⟨e2,s2,rx⟩:=(iti.1 xs[i] (WK hlt)).2 x H2 y
  rw[XX hlt] at hl
  obtain⟨⟨env3,S3⟩,h3,hl⟩:=Ww.mp hl
  obtain⟨o4,h4,hl⟩:=Ww.mp hl
  refine⟨μ',S',env',xs[i],env3,S3,s2,r'.mono e2,rx,h3,λσ3 H3 μ3 e3 s3 r3=>⟨μ3,S3,env3,o4,s3,r3,h4,?_⟩⟩
  have eT:Ext μ1 H1 μ3 H3:=(e'.trans e2).trans e3
  have pT:PostS X.K μ3 H3 o' E:=(post'.ext e2).ext e3
  cases o4 with
  | nx e5 s5=>exact λσ6 H6 μ6 e6 s6 r6=>⟨μ6,s5,e5,o',eT.trans e6,s6,r6,hl,pT.ext e6⟩
  | ct e5 s5=>exact λσ6 H6 μ6 e6 s6 r6=>⟨μ6,s5,e5,o',eT.trans e6,s6,r6,hl,pT.ext e6⟩
  | bk e5 s5=>cases hl;exact pT
  | rt d5 s5=>cases hl;exact pT
 ·have e:i=xs.length:=by omega
  subst e
  refine .inl ⟨iti.2 (WH _),?_⟩
  rw[Zl] at hl
  cases hl
  exact post' σ' H' μ' s'.ext s' r'
def mz(cap:List (Option Nat))(env:ax):ax:=cap.map λo=>o.bind λi=>(env[i]?).join
def HB(X:Cx)(ifs:List pc)(m:MT):Prop:=Hs X ifs (xk X.K m)
theorem PP:HB X [] (λ_ S=>U (true,S)):=λpins s σ H Q I ⟨μ,S,env,b,S',hS,hE,hm,post⟩=>by cases hm;exact NL pins s σ H Q I (post H μ hS.ext hS)
theorem PN{c:pc}(h:DT X c t):HB X [c] t:=NK h
def fQ(g:MG)(t:MT)(e:ME):List D->ax->ac->Option (List D×ac)
 | [],_,S=>U ([],S)
 | d::ds,env,S=>(g d env S).bind λp=>(t p.1 p.2).bind λb=>if b.1=true then(e p.1 b.2).bind λq=>(fQ g t e ds p.1 q.2).bind λr=>U (q.1::r.1,r.2) else fQ g t e ds p.1 b.2
def cg(mi:MA)(g:MG)(t:MT)(e:ME)(cap:List (Option Nat)):ME:=λenv S=>(mi env S).bind λp=>if p.1.length<=ww then(fQ g t e p.1 (mz cap env) p.2).bind λq=>U (.lst q.1,q.2) else Y
inductive CpJ(K:FA)(μ1:Fp)(H1:Hp)(p:gV)(R:ax->ac->List D->Prop)(ys:List D)(i:Nat)(σ:L2.St)(H:Hp):Prop
 | mk (cs:List gV) (S:ac) (env:ax) (vs:List V) (zs rest:List D) (eP:ExtP μ1 H1 ⟨cs,p::μ1.fb⟩ H) (s:SOk K ⟨cs,p::μ1.fb⟩ S H) (r:EOk K ⟨cs,p::μ1.fb⟩ H σ env) (hp:H p=U (.lst vs)) (rz:Reps K ⟨cs,p::μ1.fb⟩ H vs zs) (hl:R env S rest) (hy:ys=zs++rest) (hv:vs.length<=i)
theorem CpJ.start{R:ax->ac->List D->Prop}(s1:SOk K μ1 S H1)(hE:EOk K μ1 H1 σ env)(hp:H1 p=Y)(h:R env S ys):CpJ K μ1 H1 p R ys 0 σ (upd H1 p (.lst [])):=
 .mk μ1.cs S env [] [] ys ⟨⟨[p],rfl,λa z=>by rw[Xc.mp z];exact hp⟩,⟨[],by simp,λ_ z=>by simp at z⟩,λa o' n h=>by rw[aA (bG h hp)];exact h,λa ha=>by
  by_cases z:a=p
  ·subst z;rw[aB];simp
  ·rw[aA z];exact s1.dom a ha⟩ (s1.more hp) (hE.more hp) aB .nil h rfl (WH _)
theorem yW{mi:MA}{g:MG}{t:MT}{e:ME}{cap:List (Option Nat)}{σ:L2.St}{Q:VK}(h:tM K (cg mi g t e cap) σ H Q):HX (iM K mi) (Hw K g) (xk K t) (tM K e) cap σ H Q:=by
 obtain⟨μ,S,env,d,S',hS,hE,hm,post⟩:=h
 obtain⟨⟨xs,S1⟩,h1,hm⟩:=Ww.mp hm
 dsimp only at hm
 split at hm
 case isFalse=>cases hm
 rename_i hsz
 obtain⟨⟨ys,S2⟩,h2,hm⟩:=Ww.mp hm
 cases hm
 refine⟨μ,S,env,xs,S1,hS,hE,h1,λJ H1 μ1 e1 s1 it p hp=>?_⟩
 have hpn:=s1.notMem hp
 refine⟨λi n σ' H'=>n=xs.length - i/\i<=xs.length/\CpJ K μ1 H1 p (λenv S rest=>fQ g t e (xs.drop i) env S=U (rest,S2)) ys i σ' H',⟨xs.length,by simp,YZ _,.start s1 ((hE.mono e1).block cap) hp (by rw[Zf];exact h2)⟩,?_⟩
 rintro i n σ' H' ⟨rfl,hi,c⟩
 cases c with | mk cs S' env' vs zs rest eP s' r' hpv rz hl hy hvl=>?_
 subst hy
 have iti:=it _ H' S' eP s' i
 by_cases hlt:i<xs.length
 ·refine .inr ⟨(iti.1 xs[i] (WK hlt)).1,λx H2 y=>?_⟩
  obtain⟨e2,s2,rx⟩:=(iti.1 xs[i] (WK hlt)).2 x H2 y
  rw[XX hlt] at hl
  obtain⟨⟨env3,S3⟩,h3,hl⟩:=Ww.mp hl
  obtain⟨⟨b,S4⟩,h4,hl⟩:=Ww.mp hl
  refine⟨_,S',env',xs[i],env3,S3,s2,r'.mono e2,rx,h3,λσ3 H3 μ3 e3 s3 r3=>⟨μ3,S3,env3,b,S4,s3,r3,h4,λH4 μ4 e4 s4=>?_⟩⟩
  have eA:=(e2.trans e3).trans e4
  have pcs:p∉cs:=λz=>s'.disj p WE z
  cases b with
  | false=>
   rw[WX WJ] at hl
   dsimp only
   rw[WX WJ]
   obtain⟨cs4,fb4⟩:=μ4
   have hfb:fb4=p::μ1.fb:=eA.fb
   subst hfb
   exact⟨xs.length - (i+1),by omega,rfl,hlt,.mk cs4 S4 env3 vs zs rest (eP.then eA) s4 (r3.mono e4) (eA.keeps hpv pcs).1 (rz.mono eA) hl rfl (by omega)⟩
  | true=>
   rw[WN rfl] at hl
   dsimp only
   rw[WN rfl]
   obtain⟨⟨dv,S5⟩,h5,hl⟩:=Ww.mp hl
   obtain⟨⟨rs,S6⟩,h6,hl⟩:=Ww.mp hl
   cases hl
   refine⟨μ4,S4,env3,dv,S5,s4,r3.mono e4,h5,λv H5 μ5 e5 s5 r5=>?_⟩
   have eB:=eA.trans e5
   obtain⟨cs5,fb5⟩:=μ5
   have hfb:fb5=p::μ1.fb:=eB.fb
   subst hfb
   refine⟨vs,(eB.keeps hpv pcs).1,by omega,xs.length - (i+1),by omega,rfl,hlt,.mk cs5 S5 env3 (vs++[v]) (zs++[dv]) rs ((eP.then eB).chg hp) (s5.chg WE) (((r3.mono e4).mono e5).chg WE) aB (Reps.chg WE ((rz.mono eB).append (.cons r5 .nil))) h6 (by simp) (by rw[Xf,YN];omega)⟩
 ·have e:i=xs.length:=by omega
  subst e
  refine .inl ⟨iti.2 (WH _),?_⟩
  rw[Zl] at hl
  cases hl
  have eF:Ext μ1 H1 ⟨cs,μ1.fb⟩ H':=⟨rfl,eP.pre,eP.keep,eP.dom⟩
  dsimp only at post
  rw[Xt] at post
  exact post _ H' ⟨cs,μ1.fb⟩ (e1.trans eF) s'.less (.lst hpv ⟨λz=>s'.disj p WE z,hpn.2⟩ rz.less)
theorem Qu{g:MG}
  (hc:X.calm=true) (B:BlockOk X N' scope cap) (hi:DI X tg iter mi) (hg:∀ C s H fp,DG (iB X N' scope C s H fp) tg g) (ht:∀ C s H fp,HB (iB X N' scope C s H fp) ifs t) (he:∀ C s H fp,DE (iB X N' scope C s H fp) elt me)
  (hs:∀ x,zI iter X.env x=pure x:=by intro _;rfl):DE X (.ListComp elt [⟨tg,iter,ifs,0⟩] scope pos) (cg mi g t me cap):=
 PE.imp (Oe (g:=Hw X.K g) (tt:=xk X.K t) (te:=tM X.K me) hc B hi hg ht he hs) λ_ _ _ h=>yW h
theorem CT{spos:Pos}{g:MG}{y:Str}{i:Nat}
  (hN:X.N.Nodup) (hy:X.N[i]?=U y) (hx:MR X.env.scope y)
  (hc:X.calm=true) (B:BlockOk X N' scope cap) (hi:DI X tg iter mi) (hg:∀ C s H fp,DG (iB X N' scope C s H fp) tg g) (ht:∀ C s H fp,HB (iB X N' scope C s H fp) ifs t) (he:∀ C s H fp,DE (iB X N' scope C s H fp) elt me)
  (hsw:swapsWith (.ListComp elt [⟨tg,iter,ifs,0⟩] scope pos) (U (.Name y py)) spos.line X.env=pure true:=by rfl)
  (hs:∀ x,zI iter X.env x=pure x:=by intro _;rfl) (hf:X.fn y=true\/X.env.scope.names.lookup y=U .local:=by first | exact .inl rfl | exact .inr rfl | assumption) :
  DS X (.Assign [.Name y py] (.ListComp elt [⟨tg,iter,ifs,0⟩] scope pos) spos) (aH (cg mi g t me cap) (aj i)):=
 PS.imp (BK (g:=Hw X.K g) (tt:=xk X.K t) (te:=tM X.K me) hN hy hx hc B hi hg ht he hsw hs hf) λE σ H h=>by
  obtain⟨μ,S,env,o,hS,hE,hm,post⟩:=h
  obtain⟨⟨d,S1⟩,h1,hm⟩:=Ww.mp hm
  cases hm
  exact yW ⟨μ,S,env,d,S1,hS,hE,h1,λv H1 μ1 e1 s1 r1=>post _ H1 μ1 e1 s1 ((hE.mono e1).set r1 i)⟩
end
section
variable{X:Cx}{K:FA}{μ μ':Fp}{H H':Hp}{S:ac}{pos p2:Pos}{tg iter:pc}{m:ME}
def vb(N N':List Str)(kX kB:Str->Option NameKind):List (Option Nat)->List Str->Bool
 | [],[]=>true
 | none::r,_::s=>vb N N' kX kB r s
 | some i::r,y::s=>N[i]?==U y&&(kX y==U .cell||kX y==U .free)&&(kB y==U .cell||kB y==U .free)&&vb N N' kX kB r s
 | _,_=>false
theorem yz{kX:Str->Option NameKind}:∀ {cap:List (Option Nat)} {ys:List Str},vb N N' kX kB cap ys=true->cap.length=ys.length/\∀ (j i:Nat),cap[j]?=U (U i)->∃ y,ys[j]?=U y/\N[i]?=U y/\(kX y=U .cell\/kX y=U .free)/\(kB y=U .cell\/kB y=U .free)
 | [],[],_=>⟨rfl,λj i e=>by simp at e⟩
 | none::r,y::s,h=>by
  obtain⟨h1,h2⟩:=yz (cap:=r) (ys:=s) h
  refine⟨by simp[h1],λj i e=>?_⟩
  cases j with
  | zero=>simp at e
  | succ j=>simpa using h2 j i (by simpa using e)
 | some k::r,y::s,h=>by
  rw[vb,Wz,Wz,Wz,Zc,Zc] at h
  obtain⟨h1,h2⟩:=yz (cap:=r) (ys:=s) h.2
  refine⟨by simp[h1],λj i e=>?_⟩
  cases j with
  | zero=>
   simp at e;subst e
   refine⟨y,rfl,by simpa using h.1.1.1,?_,?_⟩
   ·exact h.1.1.2.imp (λz=>by simpa using z) λz=>by simpa using z
   ·exact h.1.2.imp (λz=>by simpa using z) λz=>by simpa using z
  | succ j=>simpa using h2 j i (by simpa using e)
 | [],_::_,h=>by simp[vb] at h
 | none::_,[],h=>by simp[vb] at h
 | some _::_,[],h=>by simp[vb] at h
theorem blk{N':List Str}{scope:Scope}(nd:N'.Nodup)(k:scope.kind=.function:=by rfl)(nc:(scope.names.all λx=>x.2 != .cell)=true:=by rfl)(nm:(scope.names.all λx=>x.2 != .local||scope.names.lookup x.1==U .local)=true:=by rfl)
  (fr:(scope.names.all λx=>x.2 != .free||X.env.kindOf x.1==U .cell||X.env.kindOf x.1==U .free)=true:=by rfl)
  (cp:vb X.N N' X.env.kindOf (λy=>(relabel scope X.env).names.lookup y) cap N'=true:=by rfl):BlockOk X N' scope cap:=by
 obtain⟨h1,h2⟩:=yz cp
 refine⟨k,λx hx=>?_,λx hx hl=>?_,λx hx hf=>?_,nd,h1,λj i e=>?_⟩
 ·have:=WP.mp nc x hx
  simpa using this
 ·have:=WP.mp nm x hx
  simpa[hl] using this
 ·have:=WP.mp fr x hx
  simpa[hf] using this
 ·obtain⟨y,a,b,c,d⟩:=h2 j i e
  exact⟨y,a,b,.inr c,c,d⟩
theorem IU(hl:PE X l tl):PI X tg l (λσ H R=>tl σ H λx H1=>∃ a,x=.ref a/\(((∃ xs,kK X.K H1 a xs)/\R (Itl X.K a) H1)\/((∃ xs,mj X.K H1 a xs)/\R (Itt X.K a) H1))):=by
 intro pins s σ H R I h
 refine cz (hl pins s σ H _ I h) λv s1 ⟨x,H1,I1,r1,q1⟩=>?_
 obtain⟨a,e,⟨⟨xs,hq⟩,q⟩ | ⟨⟨xs,hq⟩,q⟩⟩:=q1
 ·subst e
  cases r1
  obtain⟨its,rv,p,hz⟩:=I1.list hq
  refine Yy p.isList ?_
  refine⟨s1.heap.objs.size,[s1.heap.objs.size],_,_,H1,rfl,I1.kept (t':=s1.toks) λb o e=>Wy _ e,vi a _,⟨_,WL _ rfl,rfl,rfl⟩,λb hb=>?_,q⟩
  have e:b=s1.heap.objs.size:=by simpa using hb
  subst e
  exact I1.fpOk (WH _) (I1.hok.fresh (WH _))
 ·subst e
  cases r1
  obtain⟨its,rv,p,hz⟩:=I1.tuple hq
  refine ZH (show s1.heap.IsTuple a its.toArray from p) ?_
  refine⟨s1.heap.objs.size,[s1.heap.objs.size],_,_,H1,rfl,I1.kept (t':=s1.toks) λb o e=>Wy _ e,Bq a _,⟨_,WL _ rfl,rfl,rfl⟩,λb hb=>?_,q⟩
  have e:b=s1.heap.objs.size:=by simpa using hb
  subst e
  exact I1.fpOk (WH _) (I1.hok.fresh (WH _))
def eD(m:ME):MA:=λenv S=>(m env S).bind λp=>match p.1 with | .lst xs=>U (xs,p.2) | .rol xs=>U (xs,p.2) | .tup xs=>U (xs,p.2) | _=>Y
theorem CY(h:DE X iter m):DI X tg iter (eD m):=PI.imp (IU h) λσ H R z0=>by
 obtain⟨μ,S,env,xs,S',hS,hE,hm,post⟩:=z0
 obtain⟨⟨d,S1⟩,h1,hm⟩:=Ww.mp hm
 refine⟨μ,S,env,d,S1,hS,hE,h1,λv H1 μ1 e1 s1 r1=>?_⟩
 cases d with
 | lst ys=>
  cases hm
  have r1':=r1
  obtain⟨a,vs,rfl,q,_,rs⟩:=r1.sqL
  exact⟨a,rfl,.inl ⟨⟨vs,.inl (.inl q)⟩,post _ H1 μ1 e1 s1 (lT (.inl rfl) r1' rfl)⟩⟩
 | rol ys=>
  cases hm
  have r1':=r1
  obtain⟨a,vs,rfl,q,rs⟩:=r1.sqR
  exact⟨a,rfl,.inl ⟨⟨vs,q⟩,post _ H1 μ1 e1 s1 (lT (.inr rfl) r1' rfl)⟩⟩
 | tup ys=>
  cases hm
  have r1':=r1
  obtain⟨a,vs,rfl,q,rs⟩:=r1.sqT
  exact⟨a,rfl,.inr ⟨⟨vs,q⟩,post _ H1 μ1 e1 s1 (Ar r1')⟩⟩
 | _=>cases hm
end
def bv(N:List Str)(m:MS)(n:Nat):List D->ac->Option (D×ac):=λds S=>if ds.length=n then(m (aV N ds) S).bind λo=>match o with | .rt d S'=>U (d,S') | .nx _ S'=>U (.non,S') | _=>Y else Y
theorem vC{S':ac}{d:D}(h:bv N m n ds S=U (d,S')):Runs m (aV N ds) S d S':=by
 unfold bv at h
 split at h
 ·obtain⟨o,h1,h⟩:=Ww.mp h
  cases o with
  | rt d' S2=>cases h;exact .ret h1
  | nx e S2=>cases h;exact⟨_,[],h1,.inl rfl,.inr ⟨rfl,e,by rw[Xt]⟩⟩
  | bk _ _=>cases h
  | ct _ _=>cases h
 ·cases h
structure bS(K:FA)(mg:Str->Option dn)(x:Str)(st:tu):Prop where
 ex:∃ (a:gV) (fd:FuncData),L2.Fun K x x st a fd/\mg x=U (.ref a)
def nA(x:Str)(st:tu)(ps:List Str):Prop:=∀ (kV doc pm:dn) (an:Option gV) (cdv ct:dn) (us:List dn),us.length=ps.length->bindArgs (W.fnOf x x (fL st) (aE st) (ar st) .none kV doc pm an cdv ct) ⟨us,[]⟩=pure (ps.zip us)
theorem VM{K:FA}{k:Nat}{st:tu}
  (F:bS K mg x st) (Sc:aN N ps (ar st)) (hb:nA x st ps)
  (hbody:∀ (a:gV) (cdv:dn) (A:tx) (outer:List PySem.Env) (s:gw) (H:Hp) (E:XK),Room k (A.deeper (envOfC x (ar st) s.heap.objs.size a cdv)) ->
   yK (rQ Bn P w K mg base N x (ar st) a cdv A outer s H E).nox (aE st) m) :
  Fn P w K mg base (k+1) x ps.length (bv N m ps.length):=by
 obtain⟨a,fd,F,hmg⟩:=F.ex
 exact RO F Sc hmg (F.binds hb) λcdv A outer s H E hr=>⟨m,hbody a cdv A outer s H E hr,λds S d S' hn hS hd h=>vC h⟩
theorem Fn.up{K:FA}{k k':Nat}(F:Fn P w K mg base k x n f)(h:k<=k':=by decide):Fn P w K mg base k' x n f:=by
 obtain⟨a,fd,ps,h1,h2,h3⟩:=F.ex
 exact⟨a,fd,ps,h1,h2.mono h,h3⟩
theorem Ut{K:FA}{f:List D->ac->Option (D×ac)}(h:∀ ns:List Int,ns.length<=63->∃ S',f [.rol (ns.map .int)] []=U (.bl true,S')){ns:List Int}(hl:ns.length<=63)(hS:kK K H a (ns.map V.int)) :
  Hx K 1 f [.ref a] H (λv _=>v=.bl true) E:=by
 obtain⟨S',hf⟩:=h ns hl
 have hr:∀ l:List Int,Reps K ⟨[],[]⟩ H (l.map V.int) (l.map D.int):=λl=>by
  induction l with
  | nil=>exact .nil
  | cons x l ih=>exact .cons (.int x) ih
 refine⟨⟨[],[]⟩,[],_,_,S',⟨aaA,rfl,λr a c h=>by simp at h,λa h=>by simp at h,λa h=>by simp at h⟩,.cons ?_ .nil,rfl,hf,λv H' μ' e s r=>r.bl_inv⟩
 rcases hS with hS | hS
 ·exact .rol hS ⟨by simp,by simp⟩ (hr ns)
 ·exact .krol hS (hr ns)
def KM(_:ac)(x:D):Option D:=match x with | .int i=>U (.int (-i)) | _=>Y
theorem Nh:UnR X (unaryOp .USub) (rM1 X.K KM):=Sm
def bq:MT:=λ_ S=>U (true,S)
theorem LF:HB X [] bq:=PP
theorem Uu{K:FA}{k:Nat}{st:tu}(F:bS K mg "law" st)(hfa:mg "law" = U (.ref fa))(Sc:aN N ["_law_script"] (ar st))
  (hbt:∀ (kV doc pm:dn) (an:Option gV) (cdv ct v:dn),bindArgs (W.fnOf "law" "law" (fL st) (aE st) (ar st) .none kV doc pm an cdv ct) ⟨[v],[]⟩=pure [(("_law_script":Str),v)])
  (hbody:∀ (base:wo) (a:gV) (cdv:dn) (A:tx) (outer:List PySem.Env) (s:gw) (H:Hp) (E:XK),Room k (A.deeper (envOfC "law" (ar st) s.heap.objs.size a cdv)) ->
   yK (rQ Bn P w K mg base N "law" (ar st) a cdv A outer s H E).nox (aE st) m) :
  ∃ fd:FuncData,(∀ (s:gw) (v:dn),BindsTo s fd ⟨[v],[]⟩ [("_law_script",v)])/\∀ base:wo,K.In base->base.Ns Cn mg->FnOk P w K mg base Bn (k+1) fa fd ["_law_script"] (Hx K 1 (bv N m 1)):=by
 obtain⟨a,fd,F,hmg⟩:=F.ex
 rw[hfa] at hmg
 have e:fa=a:=by cases hmg;rfl
 subst e
 refine⟨fd,λs v=>?_,λbase _ _=>RN F Sc λcdv A outer s H E hr=>⟨m,hbody base fa cdv A outer s H E hr,λds S d S' hn hS hd h=>vC h⟩⟩
 obtain⟨oc,od,kV,doc,pm,an,cdv,ct,osl,rfl,lk,hcd⟩:=F.ex
 exact .of_eq (hbt kV doc pm an cdv ct v)
end M
namespace HT
open AutoSeq1 (wpAny_loadPart')
theorem BS:fillsNumberSlot (.type "tuple") "mul" = pure false:=
 PySem.fillsNumberSlot_seq (id:="tuple.__mul__") (r:=U (.builtin "tuple.__rmul__"))
  F.slot_tuple_mul.lookup (by decide +kernel) F.slot_tuple_rmul.lookup (by decide +kernel)
theorem SS:seqRepeat? (.type "tuple")=pure (U (.builtin "tuple.__mul__")):=by
 unfold seqRepeat?
 rw[PySem.seqSlot_of (T:="tuple") (name:="__mul__") (id:="tuple.__mul__") F.slot_tuple_mul.lookup (by decide +kernel)]
 rw[PySem.seqSlot_of (T:="tuple") (name:="__rmul__") (id:="tuple.__rmul__") F.slot_tuple_rmul.lookup (by decide +kernel)]
 rfl
theorem IH(a:Int)(t:Tok)(l:gV)(items:Array dn)(n:Nat)(dd:Option gV)(sl:Array (Option dn)) :
  Meets (Builtin.«int.__rmul__» ⟨[.int a t,.ref l],[]⟩) (λ_ R s=>s.heap.get? l=U ⟨.type "tuple",dd,.seq items n,sl⟩/\R (.ok (.ret Value.notImplemented)) s):=
 .of_wp λprog w A R s h=>by
  obtain⟨hp,g,d,tk,os⟩:=s
  obtain⟨hl,h⟩:=h
  wp_walk
  exact⟨_,rfl,h⟩
theorem mulT0(l:gV)(items:Array dn)(n:Nat)(k:Int)(t:Tok)(dd:Option gV)(sl:Array (Option dn))(h1:¬ (decide (k < -(2^63))||decide (k≥2^63))=true)(hc:(items.isEmpty||k==1)=true) :
  Meets (Builtin.«tuple.__mul__» ⟨[.ref l,.int k t],[]⟩) (λ_ R s=>s.heap.get? l=U ⟨.type "tuple",dd,.seq items n,sl⟩/\R (.ok (.ret (.ref l))) s):=
 .of_wp λprog w A R s h=>by
  obtain⟨hp,g,d,tk,os⟩:=s
  obtain⟨hl,h⟩:=h
  have f1:=aal
  have f2:=Zj
  wp_walk using wpAny_loadPart' hl
  rw[WX h1]
  wp_walk using wpAny_loadPart' hl
  exact⟨_,rfl,h⟩
theorem mulT1(l:gV)(items:Array dn)(n:Nat)(k:Int)(t:Tok)(dd:Option gV)(sl:Array (Option dn))(h1:¬ (decide (k < -(2^63))||decide (k≥2^63))=true)(hc:¬ (items.isEmpty||k==1)=true)(hk:(decide (k<=0)||items.isEmpty)=true) :
  Meets (Builtin.«tuple.__mul__» ⟨[.ref l,.int k t],[]⟩) (λ_ R s=>s.heap.get? l=U ⟨.type "tuple",dd,.seq items n,sl⟩/\R (.ok (.ret (.ref s.heap.objs.size))) { s with heap:=s.heap.push { cls:=.type "tuple",data:=.seq #[] },toks:=s.toks }):=
 .of_wp λprog w A R s h=>by
  obtain⟨hp,g,d,tk,os⟩:=s
  obtain⟨hl,h⟩:=h
  have f1:=aal
  have f2:=Zj
  wp_walk using wpAny_loadPart' hl
  rw[WX h1]
  wp_walk using wpAny_loadPart' hl
  exact⟨_,rfl,h⟩
theorem mulT2(l:gV)(items:Array dn)(n:Nat)(k:Int)(t:Tok)(dd:Option gV)(sl:Array (Option dn))(h1:¬ (decide (k < -(2^63))||decide (k≥2^63))=true)(hc:¬ (items.isEmpty||k==1)=true)(hk:¬ (decide (k<=0)||items.isEmpty)=true)
  (hb:¬ ((items.size:Int)*k>(2^63 - 1) / 8)) (hm:¬ Builtin.Tuple.tupleTooMany ((items.size:Int)*k)=true) (hz:(List.foldl (λx1 x2=>x1++x2) #[] (Ga k.toNat items)).size<=ww) :
  Meets (Builtin.«tuple.__mul__» ⟨[.ref l,.int k t],[]⟩) (λ_ R s=>s.heap.get? l=U ⟨.type "tuple",dd,.seq items n,sl⟩/\R (.ok (.ret (.ref s.heap.objs.size))) { s with heap:=s.heap.push { cls:=.type "tuple",data:=.seq (List.foldl (λx1 x2=>x1++x2) #[] (Ga k.toNat items)) },toks:=s.toks }):=
 .of_wp λprog w A R s h=>by
  obtain⟨hp,g,d,tk,os⟩:=s
  obtain⟨hl,h⟩:=h
  have f1:=aal
  have f2:=Zj
  wp_walk using wpAny_loadPart' hl
  rw[WX h1]
  wp_walk using wpAny_loadPart' hl
  rw[WX hb]
  wp_walk using wpAny_loadPart' hl
  exact⟨_,rfl,h⟩
end HT
namespace L2
section
variable{X:Cx}
theorem vrep(h:Vals xs us):∀ k:Nat,Vals (Ga k xs).flatten (Ga k us).flatten
 | 0=>.nil
 | k+1=>by rw[Xm,Xm,XO,XO];exact h.append (vrep h k)
theorem frep(its:List dn):∀ (m:Nat) (acc:List dn),List.foldl (λx1 x2=>x1++x2) acc.toArray (Ga m its.toArray)=(acc++(Ga m its).flatten).toArray
 | 0,acc=>by simp
 | m+1,acc=>by
  rw[Xm,Yg,List.append_toArray,frep its m (acc++its),Xm,XO,XQ]
def rRepT(K:FA):R2:=λx y H Q=>∃ a k xs,x=.ref a/\y=.int k/\mj K H a xs/\-(2^62)<=k/\k<2^62/\xs.length*k.toNat<=ww /\
 ((xs=[]\/k=1)->Q (.ref a) H)/\((xs≠[]/\k≠1)->∀ p,H p=Y->Q (.ref p) (upd H p (.tup (Ga k.toNat xs).flatten)))
theorem On:OpR X (Ec .Mult) (rRepT X.K):=by
 intro pins s σ H x y v u Q I rx ry h
 obtain⟨l,k,xs,rfl,rfl,hq,h1,h2,hz,q1,q2⟩:=h
 cases rx
 obtain⟨t,rfl⟩:=ry
 obtain⟨its,r,hT,hzz⟩:=I.tuple hq
 obtain⟨⟨cls,dd,data,sl⟩,e,hc,n,hd⟩:=id hT
 simp only at hc hd
 subst hc hd
 have hlen:xs.length=its.length:=r.length
 have g1:¬ (decide (k < -(2^63))||decide (k≥2^63))=true:=by simp;omega
 have road:∀ {S:PySem.Spec},Meets (Builtin.«tuple.__mul__» ⟨[.ref l,.int k t],[]⟩) S->S X.A (wants (EP X pins σ Q) X.xe) s->Ew (model X.prog X.w) X.A (Ec .Mult (.ref l) (.int k t)) (EP X pins σ Q) X.xe s:=λM hS=>
  aaz (T:="tuple") (U:="int") (by decide) ⟨_,e,rfl⟩ (λs'=>ZX s' k t) HT.BS F.fills_int_mul Zx HT.SS F.slot_int_index.lookup
   (Yb Zx (ZX s k t) F.entry_int_rmul (F.args_int_rmul_2 _ _) (HT.IH k t l its.toArray n dd sl)
    ⟨e,rfl,⟨_,e,rfl⟩,Yb F.slot_tuple_mul ⟨_,e,rfl⟩ F.entry_tuple_mul (F.args_tuple_mul_2 _ _) M hS⟩)
 by_cases hs:xs=[]\/k=1
 ·have hcc:(its.toArray.isEmpty||k==1)=true:=by
   rcases hs with rfl | rfl
   ·cases r;rfl
   ·simp
  exact road (HT.mulT0 l its.toArray n k t dd sl g1 hcc) ⟨e,.ref l,H,I,rfl,q1 hs⟩
 ·have hx:xs≠[]:=λz=>hs (.inl z)
  have hk1:k≠1:=λz=>hs (.inr z)
  have hi:its≠[]:=λz=>by subst z;cases r;exact hx rfl
  have hcc:¬ (its.toArray.isEmpty||k==1)=true:=by simp[hi,hk1]
  by_cases hk:k<=0
  ·have hk':(decide (k<=0)||its.toArray.isEmpty)=true:=by simp[hk]
   have k0:k.toNat=0:=by omega
   refine road (HT.mulT1 l its.toArray n k t dd sl g1 hcc hk') ⟨e,.ref _,_,I.laid (o:=.tup []) (λ_ _ q=>Wy _ q) (WH _) ⟨by simp,[],.nil,⟨_,WL _ rfl,rfl,⟨0,rfl⟩,rfl⟩⟩,rfl,?_⟩
   have:=q2 ⟨hx,hk1⟩ s.heap.objs.size I.fresh
   rw[k0] at this
   exact this
  ·have hk':¬ (decide (k<=0)||its.toArray.isEmpty)=true:=by simp[hi];omega
   have km:(k.toNat:Int)=k:=by omega
   have hpr:((its.length:Int)*k)<=ww:=by rw[<- km,<- hlen];exact_mod_cast hz
   have hsl:((ww:Nat):Int)<=(2^63 - 1) / 8:=by decide
   have hf:=frep its k.toNat []
   rw[Za] at hf
   have hf':List.foldl (λx1 x2=>x1++x2) #[] (Ga k.toNat its.toArray)=(Ga k.toNat its).flatten.toArray:=hf
   have hl2:(Ga k.toNat its).flatten.length<=ww:=by rw[yc,<- hlen,aae];exact hz
   refine road (HT.mulT2 l its.toArray n k t dd sl g1 hcc hk' (by rw[WD];omega) (by unfold Builtin.Tuple.tupleTooMany;rw[WD];simp;omega) (by rw[hf',WD];exact hl2)) ⟨e,?_⟩
   rw[hf']
   exact⟨.ref _,_,I.laid (o:=.tup (Ga k.toNat xs).flatten) (λ_ _ q=>Wy _ q) (WH _) ⟨by rw[yc,aae];exact hz,(Ga k.toNat its).flatten,vrep r _,⟨_,WL _ rfl,rfl,⟨0,rfl⟩,rfl⟩⟩,rfl,q2 ⟨hx,hk1⟩ _ I.fresh⟩
end
section
variable{X:Cx}
def Vh(n:Nat)(i:Int):Nat:=if i<0 then(i+(n:Int)).toNat else min i.toNat n
def jZ{α:Type}(xs:List α)(i:Int)(y:α):List α:=xs.take (Vh xs.length i)++y::xs.drop (Vh xs.length i)
def NE:V->List V->Hp->VK->Prop:=λx vs H Q=>∃ l xs i y,x=.ref l/\vs=[.int i,y]/\H l=U (.lst xs)/\xs.length<ww/\-(2^62)<=i/\i<2^62/\Q .non (upd H l (.lst (jZ xs i y)))
theorem FQ:MtM X "list.insert" NE:=by
 intro pins s σ H x vs v us Q I rx rv h
 obtain⟨l,xs,i,y,rfl,rfl,hH,hz,h1,h2,q⟩:=h
 cases rx
 obtain⟨u1,u,rfl,⟨t,rfl⟩,ru⟩:=rv.two
 obtain⟨z,its,n,r,hl,e⟩:=I.lstM hH
 have hfit:¬ (!Builtin.List.listFitsIndex i)=true:=by
  rw[fitsIndex_both (by omega) (by omega)];exact WJ
 refine Yb abu ⟨_,e,rfl⟩ F.entry_list_insert (F.args_list_insert_3 _ _ _) (AutoListH.list_insert_list_int_val_1 l its.toArray n i t u hfit (by rw[WD];omega)) ⟨e,?_⟩
 refine⟨.non,_,I.lset (its':=jZ its i u) hH e ?_ (ys:=jZ xs i y) ?_ ?_,rfl,q⟩
 ·unfold jZ Vh
  simp
  rw[YL (by rw[YE];exact WH _)]
 ·unfold jZ
  rw[hl]
  exact(r.take _).append (.cons ru (r.drop _))
 ·unfold jZ
  rw[Xf,WF,YD,YE]
  omega
end
end L2
namespace M
open L2
section
variable{X:Cx}{K:FA}{μ μ':Fp}{H H':Hp}{S:ac}
def dD(S:ac)(x y:D):Option D:=match x,y with
 | .tup xs,.int k=>if -(2^62)<=k/\k<2^62/\xs.length*k.toNat<=ww then U (.tup (Ga k.toNat xs).flatten) else Y
 | .lst xs,.int k=>if -(2^62)<=k/\k<2^62/\xs.length*k.toNat<=ww then U (.lst (Ga k.toNat xs).flatten) else Y
 | x,y=>Vs S x y
theorem flat1{α:Type}(xs:List α):(Ga 1 xs).flatten=xs:=by simp
theorem Ou:OpR X (Ec .Mult) (kn X.K dD):=OpR.imp (OpR.or TU (OpR.or On TK)) λx y H Q z0=>by
 obtain⟨μ,S,dx,dy,dz,hS,h1,h2,h3,post⟩:=z0
 unfold dD at h3
 split at h3
 ·rename_i xs k
  split at h3
  ·rename_i hk
   cases h3
   obtain⟨a,vs,rfl,q,r⟩:=h1.sqT
   have h1':=h1
   refine .inr (.inl ⟨a,k,vs,rfl,h2.int_inv,q,hk.1,hk.2.1,by rw[r.length];exact hk.2.2,λhs=>?_,λ_ p hp=>post.tup hS hp (Reps.flat _ r)⟩)
   have e:(Ga k.toNat xs).flatten=xs:=by
    rcases hs with rfl | rfl
    ·cases r;simp
    ·exact flat1 xs
   rw[e] at post
   exact post.here hS h1'
  ·cases h3
 ·rename_i xs k
  split at h3
  ·rename_i hk
   cases h3
   obtain⟨a,vs,rfl,q,n,r⟩:=h1.sqL
   exact .inr (.inr ⟨a,k,vs,rfl,h2.int_inv,q,by omega,by omega,by rw[r.length];exact hk.2.2,λp hp=>post.lst hS hp (Reps.flat _ r)⟩)
  ·cases h3
 ·exact .inl ⟨μ,S,dx,dy,dz,hS,h1,h2,h3,post⟩
noncomputable abbrev MF:=D->List D->ac->Option (D×ac)
inductive ND(K:FA)(f:MF)(x:V)(vs:List V)(H:Hp)(Q:VK):Prop
 | mk (μ:Fp) (S:ac) (dx:D) (ds:List D) (d:D) (S':ac) (hS:SOk K μ S H) (h1:Rep K μ H x dx) (h2:Reps K μ H vs ds) (h3:f dx ds S=U (d,S')) (post:Post K μ H S' d Q)
theorem MtR.imp{id:String}{r':V->List V->Hp->VK->Prop}(h:MtR X id r)(i:∀ x xs H Q,r' x xs H Q->r x xs H Q):MtR X id r':=λpins s σ H x xs v us Q I rx rv q=>h pins s σ H x xs v us Q I rx rv (i x xs H Q q)
def cU:MF:=λo ds S=>match o,ds with
 | .ref r,[y]=>match S[r]? with | some (.lst xs)=>if xs.length<ww then U (.non,S.set r (.lst (xs++[y]))) else Y | _=>Y
 | _,_=>Y
def gW:MF:=λo ds S=>match o,ds with
 | .ref r,[.int i,y]=>match S[r]? with | some (.lst xs)=>if xs.length<ww/\-(2^62)<=i/\i<2^62 then U (.non,S.set r (.lst (jZ xs i y))) else Y | _=>Y
 | _,_=>Y
def yo:MF:=λo ds S=>match ds with
 | [x]=>(fO S o).bind λys=>if bN 40 x=true/\ys.all (bN 39)=true then U (.int (ys.countP λd=>jI d x),S) else Y
 | _=>Y
theorem FS:MtR X "list.append" (ND X.K cU):=MtR.imp vK λx vs H Q z0=>by
 obtain⟨μ,S,dx,ds,d,S',hS,r1,r2,h,post⟩:=z0
 unfold cU at h
 split at h
 ·rename_i r y
  obtain⟨v,rfl,rv⟩:=r2.one
  cases q:S[r]? with
  | none=>rw[q] at h;cases h
  | some c=>
   rw[q] at h
   cases c with
   | dct _ _=>cases h
   | deep _ _=>cases h
   | lst xs=>
    dsimp only at h
    split at h
    ·rename_i hz
     cases h
     cases r1 with
     | @ref a _ h'=>
      obtain⟨ws,hw,rw'⟩:=hS.cell r a _ h' q
      obtain⟨e,s'⟩:=hS.write h' hw (rw'.append (.cons rv .nil))
      exact⟨a,ws,v,rfl,rfl,hw,by rw[rw'.length];exact hz,post _ _ μ e s' .non⟩
    ·cases h
 ·cases h
theorem Kt{d:D}(r:Reps K μ H vs ds)(q:Rep K μ H v d):Reps K μ H (jZ vs i v) (jZ ds i d):=by
 unfold jZ;rw[r.length]
 exact(r.take _).append (.cons q (r.drop _))
theorem FR:MtR X "list.insert" (ND X.K gW):=MtR.imp FQ λx vs H Q z0=>by
 obtain⟨μ,S,dx,ds,d,S',hS,r1,r2,h,post⟩:=z0
 unfold gW at h
 split at h
 ·rename_i r i y
  obtain⟨v,w,rfl,rv,rw0⟩:=r2.two
  cases q:S[r]? with
  | none=>rw[q] at h;cases h
  | some c=>
   rw[q] at h
   cases c with
   | dct _ _=>cases h
   | deep _ _=>cases h
   | lst xs=>
    dsimp only at h
    split at h
    ·rename_i hz
     cases h
     cases r1 with
     | @ref a _ h'=>
      obtain⟨ws,hw,rw'⟩:=hS.cell r a _ h' q
      obtain⟨e,s'⟩:=hS.write h' hw (Kt (i:=i) rw' rw0)
      exact⟨a,ws,i,w,rfl,by rw[rv.int_inv],hw,by rw[rw'.length];exact hz.1,hz.2.1,hz.2.2,post _ _ μ e s' .non⟩
    ·cases h
 ·cases h
theorem rh{s:gw}(I:Inv X pins σ H s):∀ {vs:List V} {us:List dn} {ds:List D},Vals vs us->Reps X.K μ H vs ds->(∀ d∈ds,bN 39 d=true) ->
  us.countP (gE X.K μ H x)=ds.countP λd=>jI d x
 | _,_,_,.nil,.nil,_=>rfl
 | _,_,_,.cons rv tv,.cons r t,ok=>by
  rw[List.countP_cons,List.countP_cons,ul I rv r (ok _ WE),rh I tv t λd m=>ok d (WB _ m)]
def uU(S:ac):D->Bool
 | .lst _=>true
 | .rol _=>true
 | .ref r=>match S[r]? with | some (.lst _)=>true | _=>false
 | _=>false
theorem oq{d:D}(hS:SOk K μ S H)(r:Rep K μ H v d)(h:uU S d=true):∃ a vs ds,v=.ref a/\kK K H a vs/\fO S d=U ds/\Reps K μ H vs ds:=by
 cases r with
 | lst h' n r=>exact⟨_,_,_,rfl,.inl (.inl h'),rfl,r⟩
 | rol h' n r=>exact⟨_,_,_,rfl,.inl h',rfl,r⟩
 | krol h' r=>exact⟨_,_,_,rfl,.inr h',rfl,r⟩
 | @ref a i h'=>
  simp only[uU] at h
  cases q:S[i]? with
  | none=>rw[q] at h;cases h
  | some c=>
   rw[q] at h
   cases c with
   | dct _ _=>cases h
   | deep _ _=>cases h
   | lst xs=>
    obtain⟨vs,e,r⟩:=hS.cell i a _ h' q
    exact⟨a,vs,xs,rfl,.inl (.inl e),by simp only[fO,q],r⟩
 | _=>cases h
def yn:MF:=λo ds S=>if uU S o=true then yo o ds S else Y
theorem Jp(hu:X.A.units+64<cLine):MtR X "list.count" (ND X.K yn):=by
 intro pins s σ H x vs v us Q I rx rv h
 obtain⟨μ,S,dx,ds,d,S',hS,r1,r2,h,post⟩:=h
 unfold yn at h
 split at h
 ·rename_i hl
  unfold yo at h
  split at h
  ·rename_i y
   obtain⟨a,ws,es,rfl,hq,hse,re⟩:=oq hS r1 hl
   rw[hse] at h
   dsimp only[Option.bind_some] at h
   split at h
   ·rename_i hk
    cases h
    cases rx
    obtain⟨w,rfl,rw0⟩:=r2.one
    obtain⟨u,rfl,ru⟩:=rv.one
    obtain⟨its,rvs,⟨⟨cls,dd,data,sl⟩,n,e,hc,hdd,hd⟩,hz⟩:=I.list hq
    simp only at hc hdd hd
    subst hc hdd hd
    have ok:=WP.mp hk.2
    refine Yb F.slot_list_count ⟨_,e,rfl⟩ F.entry_list_count (F.args_list_count_2 _ _) (SeqAt.list_countAt a its.toArray n Y sl u (gE X.K μ H y)) ⟨e,λw' hw'=>?_,?_⟩
    ·exact iF I (by show X.A.units+1+40<cLine;omega) ru rw0 hk.1 rvs re ok w' (by simpa using hw')
    ·refine⟨.int _,H,I.tok _,⟨_,rfl⟩,?_⟩
     rw[rh I rvs re ok]
     exact post.here hS (.int _)
   ·cases h
  ·cases h
 ·cases h
def el(f:MF)(o:ME)(ms:MA):ME:=λenv S=>(o env S).bind λp=>if uU p.2 p.1=true then(ms env p.2).bind λq=>f p.1 q.1 q.2 else Y
theorem Qn{e:pc}{es:List pc}{name:Str}{id:String}{apos:Pos}(slot:Slot "list" name id)(hty:typeOf (.builtin id)=pure (.type "method_descriptor"))(hm:MtR X id (ND X.K f))(ho:DE X o mo)(ha:DA X (e::es) ms)
  (hbase:attributeBase o name X.env (eval o X.env)=eval o X.env)
  (hfew:((backTo cpos (zH (e::es) X.env)).all (λx=>!x.1)&&(backToKw cpos (keywordEach [] X.env)).all (λx=>x.1.isSome)&&decide ((e::es).length+([]:List Keyword).length+(if ([]:List Keyword).isEmpty then 0 else 1)<30))=true)
  (hline:(apos.endLine==cpos.line)=true) (hs:zH (e::es) X.env=(false,eval e X.env)::zH es X.env) (hpl:(backTo cpos (zH es X.env)).any (·.1)=false) :
  DE X (.Call (.Attribute o name apos) (e::es) [] cpos) (el f mo ms):=
 PE.imp (DD F.plainAttrs_list slot hty hm ho ha hbase hfew hline hs hpl) λσ H Q z0=>by
  obtain⟨μ,S,env,d,S',hS,hE,h,post⟩:=z0
  obtain⟨⟨x,S1⟩,h1,h⟩:=Ww.mp h
  dsimp only at h
  split at h
  ·rename_i hl
   obtain⟨⟨xs,S2⟩,h2,h⟩:=Ww.mp h
   refine⟨μ,S,env,x,S1,hS,hE,h1,λv H1 μ1 e1 s1 r1=>⟨?_,μ1,S1,env,xs,S2,s1,hE.mono e1,h2,λvs H2 μ2 e2 s2 r2=>⟨μ2,S2,x,xs,d,S',s2,r1.mono e2,r2,h,(post.ext e1).ext e2⟩⟩⟩
   obtain⟨a,ws,es,rfl,hq,_,_⟩:=oq s1 r1 hl
   exact .inl ⟨rfl,ws,hq⟩
  ·cases h
end
end M
namespace HT
open AutoSeq1 (wpAny_loadPart')
section
variable{prog:pr}{w:sv}{A:tx}{E:dn->gw->Prop}{s:gw}
theorem CU{x:dn}{Q:dn->gw->Prop}(hit:s.heap.IsTupleIter it t i)(ht:s.heap.IsTuple t items)(hx:items[i]?=U x)
  (hQ:∀ h',h'.IsTupleIter it t (i+1)->Heap.SameBut it s.heap h'->Q x { s with heap:=h' }):Ew (model prog w) A (Builtin.SmallTypes.nextOf (.ref it)) Q E s:=by
 obtain⟨o,ho,hc,hd⟩:=id hit;obtain⟨ol,hol,_,nl,hdl⟩:=ht
 unfold Builtin.SmallTypes.nextOf
 refine Wx (XF (name:=Str.ofString "__next__") hit.typeIs YB (Yk YB hit.typeIs aax ?_ (aam _)))
 show Ew _ _ (field (.ref it) 0 >>= _) _ _ s;refine Wx (Xr ho hd (x:=.ref t) rfl ?_)
 show Ew _ _ (if (Value.ref t==Value.none)=true then _ else _) _ _ s;rw[WX (show ¬ ((Value.ref t==Value.none)=true) from WJ)]
 show Ew _ _ (field (.ref it) 1 >>= _) _ _ s;refine Wx (Xr ho hd (x:=.int i 0) rfl ?_)
 show Ew _ _ (seqItems? (.ref t) >>= _) _ _ s;refine Wx (Yl hol hdl ?_);simp only[YA,hx]
 refine Wx (XB ho hd (by simp) (WA ⟨x,rfl,WA (hQ _ ⟨_,Xh _ ho (Yr (Yo hd _)),(Obj.cls_mapFields ..).trans hc,?_⟩ (XW ..))⟩))
 rw[Yo hd];simp[rawInt]
theorem wH(hh:A.handled=Y)(hit:s.heap.IsTupleIter it t i)(ht:s.heap.IsTuple t items)(hx:items[i]?=Y)
  (hE:∀ h' e,Heap.ExtBut it s.heap h'->(∃ o,h'.get? e=U o/\o.cls=.type "StopIteration")->E (.ref e) { s with heap:=h' }):Ew (model prog w) A (Builtin.SmallTypes.nextOf (.ref it)) Q E s:=by
 obtain⟨o,ho,hc,hd⟩:=id hit;obtain⟨ol,hol,_,nl,hdl⟩:=ht
 unfold Builtin.SmallTypes.nextOf
 refine Wx (XF (name:=Str.ofString "__next__") hit.typeIs YB (Yk YB hit.typeIs aax ?_ (aam _)))
 show Ew _ _ (field (.ref it) 0 >>= _) _ _ s;refine Wx (Xr ho hd (x:=.ref t) rfl ?_)
 show Ew _ _ (if (Value.ref t==Value.none)=true then _ else _) _ _ s;rw[WX (show ¬ ((Value.ref t==Value.none)=true) from WJ)]
 show Ew _ _ (field (.ref it) 1 >>= _) _ _ s;refine Wx (Xr ho hd (x:=.int i 0) rfl ?_)
 show Ew _ _ (seqItems? (.ref t) >>= _) _ _ s;refine Wx (Yl hol hdl ?_);simp only[YA,hx]
 refine Wx (Zy (Wx (XB ho hd (by simp) ?_)));show Ew _ _ (newExc (.type "StopIteration") [] >>= _) _ _ _
 refine Wx ?_;simp only[newExc,newTuple];refine Wx (Xg ?_ (by size_fits))
 refine Wx (m:=firstArgMember _ _) (abj (a:=Value.none) (by first | rfl | (simp only[firstArgMember];rfl)) (Xg ?_ (by size_fits)))
 simp only[raiseNew];refine Wx (wpAny_handled ?_);(first | rw[show A.in1.handled=Y from hh] | rw[hh])
 refine Wx (WA (wpAny_throw (hE _ _ (((XW ..).extBut.push _).push _) ⟨_,WL _ rfl,rfl⟩)))
end
theorem LL{A:tx}(hh:A.handled=Y)(it t:gV)(hne:t≠it)(items:Array dn) :
  Draws prog w A it [it,t] items.size (λi v=>items[i]?=U v) (λi h=>h.IsTupleIter it t i/\h.IsTuple t items) where
 live:=λ_ _ st=>by obtain⟨o,ho,_⟩:=st.1;exact⟨o,ho⟩
 frame:=λ_ _ _ st hk=>by
  obtain⟨⟨o,ho,r⟩,⟨o2,ho2,r2⟩⟩:=st
  exact⟨⟨o,hk it (by simp) o ho,r⟩,⟨o2,hk t (by simp) o2 ho2,r2⟩⟩
 item:=λi s Q E hi st hQ=>CU st.1 st.2 (x:=items[i]) (by simp[hi]) λh' hit' hs'=>hQ _ h' s.toks (by simp[hi]) ⟨hit',st.2.extBut hs'.extBut hne⟩ hs'
 done:=λs Q E st hE=>wH hh st.1 st.2 (by simp) hE
end HT
namespace L2
section
variable{X:Cx}{pins:List (gV×Obj)}{σ:St}{H:Hp}{s:gw}{h':wo}
theorem Inv.turnLaid{fp:List gV}{a:gV}{o:HO}{t':Nat}(I:Inv X pins σ H s)(k:∀ b o,b∉fp->s.heap.get? b=U o->h'.get? b=U o)(hf:∀ b∈fp,mF X pins H b)(hp:s.heap.objs.size<=a)
  (new:ObjOk X.prog X.w (upd H a o) h' a o):Inv X pins σ (upd H a o) { s with heap:=h',toks:=t' }:=by
 have hn:H a=Y:=I.hok.fresh hp
 have st:∀ b u,H b=U u->upd H a o b=U u:=λb u e=>(aA (bG e hn)).trans e
 have nfp:∀ b u,H b=U u->b∉fp:=λb u e z=>by rw[(hf b z).1] at e;cases e
 refine I.step (g':=s.gens) (d':=s.drawn) (ch:=fp) (λb hb=>?_) (λb o _ _ hc e _=>k b o hc e) (λb o _ _ hc e _=>⟨o.slots,k b o hc e⟩) (λb u _ e n=>?_) (λb o hc e=>⟨o,k b o hc e⟩) (λb xs e=>st b _ e) (λb o u e=>st b _ e) (λb ps e=>⟨#[],by rw[st b _ e];simp⟩) (λm hm=>?_) (λb u e=>?_) I.bare
 ·obtain⟨f0,f1,f2,f3,f4,f5⟩:=hf b hb
  exact⟨f3,f1,f4,f5⟩
 ·rw[aA (WZ (WW (WG e) hp))];exact n
 ·obtain⟨o',es,ep,ho,r⟩:=hm
  exact⟨o',es,ep,k _ o' (λz=>(hf _ z).2.1 rfl) ho,r⟩
 ·by_cases hb:b=a
  ·subst hb
   rw[aB] at e
   cases e
   exact new
  ·rw[aA hb] at e
   refine(I.hok b u e).stay (λc v hc q=>k c v ?_ q) (λ_ q=>st _ _ q) λ_ _ q=>st _ _ q
   rcases hc with z | z
   ·rw[z];exact nfp b u e
   ·exact nfp c _ z
theorem Inv.turnedL{fp:List gV}{t':Nat}(I:Inv X pins σ H s)(k:∀ b o,b∉fp->s.heap.get? b=U o->h'.get? b=U o)(hf:∀ b∈fp,mF X pins H b):Inv X pins σ H { s with heap:=h',toks:=t' }:=by
 have nfp:∀ b u,H b=U u->b∉fp:=λb u e z=>by rw[(hf b z).1] at e;cases e
 refine I.step (g':=s.gens) (d':=s.drawn) (ch:=fp) (λb hb=>?_) (λb o _ _ hc e _=>k b o hc e) (λb o _ _ hc e _=>⟨o.slots,k b o hc e⟩) (λb u _ e n=>n) (λb o hc e=>⟨o,k b o hc e⟩) (λb xs e=>e) (λb o u e=>e) (λb ps e=>⟨#[],by rw[e];simp⟩) (λm hm=>?_) (λb u e=>?_) I.bare
 ·obtain⟨f0,f1,f2,f3,f4,f5⟩:=hf b hb
  exact⟨f3,f1,f4,f5⟩
 ·obtain⟨o',es,ep,ho,r⟩:=hm
  exact⟨o',es,ep,k _ o' (λz=>(hf _ z).2.1 rfl) ho,r⟩
 ·refine(I.hok b u e).stay (λc v hc q=>k c v ?_ q) (λ_ q=>q) λ_ _ q=>q
  rcases hc with z | z
  ·rw[z];exact nfp b u e
  ·exact nfp c _ z
end
end L2
namespace HT
section
variable{prog:pr}{w:sv}{A:tx}{E:dn->gw->Prop}{s:gw}
theorem QO(n:Nat):Builtin.Slice.sliceAdjust Y Y (-1) (n:Int)=((n:Int) - 1,-1):=rfl
theorem BL(n:Nat):Builtin.Slice.slicePlaces ((n:Int) - 1) (-1) (-1)=n:=by
 unfold Builtin.Slice.slicePlaces
 rw[WX (by decide)]
 by_cases h:n=0
 ·subst h;rfl
 ·rw[WN (by omega)]
  show(((n:Int) - 1 - -1 - 1) / 1+1).toNat=n
  rw[abd];omega
theorem zn(xs:Array dn):((List.range xs.size).filterMap λ(m:Nat)=>xs[(((xs.size:Nat):Int) - 1+(m:Int)*-1).toNat]?).toArray=xs.toList.reverse.toArray:=by
 congr 1
 apply List.ext_getElem?
 intro i
 have e:∀ l:List Nat,(∀ m∈l,m<xs.size)->(l.filterMap λ(m:Nat)=>xs[(((xs.size:Nat):Int) - 1+(m:Int)*-1).toNat]?)=l.map λm=>xs[xs.size - 1 - m]?.getD .none:=by
  intro l
  induction l with
  | nil=>intro _;rfl
  | cons m l ih=>
   intro h
   have hm:=h m WE
   have e1:(((xs.size:Nat):Int) - 1+(m:Int)*-1).toNat=xs.size - 1 - m:=by omega
   have e2:xs[xs.size - 1 - m]?=U (xs[xs.size - 1 - m]'(by omega)):=aaD _
   rw[Xu,e1,e2,WO,ih λk hk=>h k (WB _ hk),e2]
   rfl
 rw[e _ λm hm=>Ym.mp hm]
 by_cases hi:i<xs.size
 ·rw[XU,List.getElem?_range hi,List.getElem?_reverse (by simpa using hi)]
  have e2:xs[xs.size - 1 - i]?=U (xs[xs.size - 1 - i]'(by omega)):=aaD _
  simp[e2]
 ·rw[Yu (by simp;omega),Yu (by simp;omega)]
theorem Bf{n:Nat}{Q:Int×Int×Nat->gw->Prop}(hs:s.heap.IsSliceOf sl .none .none (.int (-1) u))(h:Q ((n:Int) - 1,-1,n) s) :
  Ew (model prog w) A (Builtin.Slice.sliceApplied (.ref sl) (pure (n:Int))) Q E s:=by
 obtain⟨os,hos,hcs,hds⟩:=id hs
 unfold Builtin.Slice.sliceApplied Builtin.Slice.sliceFields
 refine Wx (Wx (Xr hos hds (x:=.none) rfl (Wx (Xr hos hds (x:=.none) rfl (Wx (Xr hos hds (x:=.int (-1) u) rfl (WA ?_)))))))
 refine Wx (slicePart_int ?_)
 show Ew _ _ (if ((-1:Int)==0)=true then _ else _) _ _ s
 rw[WX (by decide)]
 refine Wx (ZB (Wx (ZB (Wx (WA ?_)))))
 show Ew _ _ (match Builtin.Slice.sliceAdjust Y Y (-1) (n:Int) with | (lo,hi)=>pure (lo,(-1:Int),Builtin.Slice.slicePlaces lo hi (-1))) _ _ s
 rw[QO]
 show Ew _ _ (pure ((n:Int) - 1,(-1:Int),Builtin.Slice.slicePlaces ((n:Int) - 1) (-1) (-1))) _ _ s
 rw[BL]
 exact WA h
theorem oG{Q:dn->gw->Prop}(ht:IsTup s.heap t items)(hs:s.heap.IsSliceOf sl .none .none (.int (-1) u))
  (h:Q (.ref s.heap.objs.size) { s with heap:=s.heap.push { cls:=.type "tuple",data:=.seq items.toList.reverse.toArray } }) (hsz:items.size<=ww):Ew (model prog w) A (getItem (.ref t) (.ref sl)) Q E s:=by
 have htake:sizeOk (.seq items.toList.reverse.toArray):=by
  show items.toList.reverse.toArray.size<=ww
  simpa using hsz
 obtain⟨os,hos,hcs,hds⟩:=id hs
 have hTs:s.TypeIs (.ref sl) "slice":=⟨os,hos,hcs⟩
 unfold getItem
 try with_reducible refine Xd ?_
 first | refine Wx (WA ?_) | skip
 refine Wx (ZW ht.typeIs (by decide) ?_)
 refine Wx (XF (name:=Str.ofString "__getitem__") ht.typeIs Xz (Yk Xz ht.typeIs ZE ?_ (ZM _ _)))
 show Ew _ _ (Builtin.Tuple.tupleItemsOf (.ref t) >>= _) _ _ s
 refine Wx (aaJ ht ?_)
 refine Wx (aad hTs ?_)
 rw[WN (by decide)]
 refine Wx (Bf hs ?_)
 show Ew _ _ (if ((((items.size:Nat):Int) - 1)==0&&(-1:Int)==1&&items.size==items.size)=true then _ else _) _ _ s
 rw[WX (by simp),zn]
 first
  | exact Wx (m:=Builtin.Tuple.tupleExact _) (Xg (WA ⟨_,rfl,WA h⟩) htake)
  | exact Wx (m:=Builtin.Tuple.tupleExact _) (Xg (Wx (WA (WA ⟨_,rfl,WA h⟩))) htake)
  | exact Wx (Wx (m:=Builtin.Tuple.tupleExact _) (Xg (WA (WA ⟨_,rfl,WA h⟩)) htake))
  | exact Wx (Wx (m:=Builtin.Tuple.tupleExact _) (Xg (WA ⟨_,rfl,WA h⟩) htake))
end
end HT
namespace L2
section
variable{X:Cx}{e st:pc}{te:TE}{ts:TO}{pos p2:Pos}
def tRev(K:FA)(te:TE)(ts:TO):TE:=λσ H Q=>te σ H λx H1=>ts σ H1 λk H2=>∃ a xs,x=.ref a/\k=U (-1)/\mj K H2 a xs/\∀ p,H2 p=Y->Q (.ref p) (upd H2 p (.tup xs.reverse))
theorem Tr(he:PE X e te)(hs:PO X (U st) ts):PE X (.Subscript e (.Slice Y Y (U st) p2) pos) (tRev X.K te ts):=by
 intro pins s σ H Q I h
 refine aaG (cz (he pins s σ H _ I h) λv s1 ⟨x,H1,I1,r1,q1⟩=>?_)
 refine abk ?_
 rw[ZK]
 refine WA ?_
 refine WA (cz (hs pins s1 σ H1 _ I1 q1) λvk s2 ⟨k,H2,I2,pk,q2⟩=>?_)
 obtain⟨a,xs,rfl,rfl,hq,q⟩:=q2
 cases r1
 cases pk with
 | int _ u=>
  have I4:Inv X pins σ H2 { s2 with heap:=s2.heap.push { cls:=.type "slice",data:=.fields #[.none,.none,.int (-1) u] } }:=I2.kept (t':=s2.toks) λb ob q=>Wy _ q
  obtain⟨its,r,ht,hz⟩:=I4.tuple hq
  have hlen:its.toArray.size=xs.length:=by rw[WD];exact r.length.symm
  show Ew (model X.prog X.w) X.A (subscriptTail e (.Slice Y Y (U st) p2) (.ref a) (.ref s2.heap.objs.size)) (EP X pins σ Q) X.xe { s2 with heap:=s2.heap.push { cls:=.type "slice",data:=.fields #[.none,.none,.int (-1) u] } }
  refine aaK (ops:=[.ref a,.ref s2.heap.objs.size]) ht.typeIs PyProof.Rows.slot_tuple_getitem.lookup (HT.oG ht (ZR ..) ?_ (by rw[hlen];exact hz)) (by with_unfolding_all rfl)
  refine⟨.ref _,_,I4.laid (t':=s2.toks) (o:=.tup xs.reverse) (λb ob q=>Wy _ q) (WH _) ⟨by simpa using hz,its.reverse,r.reverse,IsTupN.new _ _⟩,rfl,q _ (I4.hok.fresh (WH _))⟩
end
end L2
namespace M
open L2
section
variable{X:Cx}{K:FA}{μ:Fp}{H:Hp}{S:ac}
theorem Reps.reverse:∀ {vs:List V} {ds:List D},Reps K μ H vs ds->Reps K μ H vs.reverse ds.reverse
 | _,_,.nil=>.nil
 | _,_,.cons h t=>by rw[YM,YM];exact(Reps.reverse t).append (.cons h .nil)
def mq(a:ME)(st:MO):ME:=λenv S=>(a env S).bind λp=>(st env p.2).bind λk=>match p.1,k.1 with
 | .tup xs,U j=>if j = -1 then U (.tup xs.reverse,k.2) else Y
 | _,_=>Y
theorem VQ{st:pc}(ha:DE X a ma)(hs:DO X (U st) ms):DE X (.Subscript a (.Slice Y Y (U st) p2) pos) (mq ma ms):=
 PE.imp (Tr ha hs) λσ H Q z0=>by
  obtain⟨μ,S,env,d,S',hS,hE,h,post⟩:=z0
  obtain⟨⟨x,S1⟩,h1,h⟩:=Ww.mp h
  obtain⟨⟨k,S2⟩,h2,h⟩:=Ww.mp h
  refine⟨μ,S,env,x,S1,hS,hE,h1,λv H1 μ1 e1 s1 r1=>⟨μ1,S1,env,k,S2,s1,hE.mono e1,h2,λH2 μ2 e2 s2=>?_⟩⟩
  dsimp only at h
  split at h
  ·split at h
   ·rename_i xs j hj
    cases h
    obtain⟨b,vs,rfl,q,r⟩:=(r1.mono e2).sqT
    exact⟨b,vs,rfl,by rw[hj],q,λp hp=>((post.ext e1).ext e2).tup s2 hp r.reverse⟩
   ·cases h
  ·cases h
end
end M
namespace HT
section
variable{prog:pr}{w:sv}{A:tx}{R:Result->gw->Prop}{it:gV}{fp wr:List gV}{G:Array GenState->Array GenState->Prop}{n:Nat}{P:Nat->dn->Prop}{St:Nat->gw->Prop}
def yS(val:Nat->Str):Nat->List Str
 | 0=>[]
 | i+1=>if (yS val i).any (·==val i) then yS val i else yS val i++[val i]
theorem Bp(val:Nat->Str):∀ i,(yS val i).length<=i
 | 0=>WH _
 | i+1=>by
  have:=Bp val i
  unfold yS;split
  ·omega
  ·rw[Xf,YN];omega
theorem Ng(val:Nat->Str)(i:Nat)(x:Str):((yS val i).any (·==x)||decide (x=val i))=(yS val (i+1)).any (·==x):=by
 rw[yS]
 by_cases h:(yS val i).any (·==val i)=true
 ·rw[WN h]
  by_cases e:x=val i
  ·subst e;rw[h];rfl
  ·rw[Xo e,aaR]
 ·rw[WX h,List.any_append,Yz,List.any_nil,aaR]
  congr 1
  rw[Xq,decide_eq_true_iff,beq_iff_eq]
  exact⟨Eq.symm,Eq.symm⟩
theorem Nf(val:Nat->Str)(i:Nat):(if (yS val i).any (·==val i) then(yS val i).length else(yS val i).length+1)=(yS val (i+1)).length:=by
 rw[yS];split<;>simp
noncomputable abbrev IsSetT(prog:pr)(w:sv)(h:wo)(a:gV)(val:Nat->Str)(i:Nat):Prop:=h.SetOf (strKind prog w) a (λx=>(yS val i).any (·==x)) (yS val i).length
theorem IsSetT.stays{h':wo}{val:Nat->Str}(x:IsSetT prog w h a val i)(k:∀ o,h.get? a=U o->h'.get? a=U o):IsSetT prog w h' a val i:=by
 obtain⟨o,es,ep,tb,ho,c⟩:=x
 exact⟨o,es,ep,tb,k o ho,c⟩
theorem Iu(W:WalksS prog w A.in1 it fp wr G n P St)(a:gV)(ha:a∉fp)(val:Nat->Str)(hv:∀ i v,P i v->∃ t,v=.str (val i) t)(hn:n+1<scanBound) :
  ∀ (m i:Nat) (s:gw),i+m=n->St i s->IsSetT prog w s.heap a val i->(∀ s',Moved (a::wr) G s s'->IsSetT prog w s'.heap a val n->R (.ok (.ret .none)) s')->codeAny (model prog w) A (.builtin "set.update.loop" ⟨[.ref a,.ref it],[]⟩) R s:=by
 have hw:a∉wr:=λz=>ha (W.sub a z)
 have up:∀ b∈wr,b∈a::wr:=λb z=>WB a z
 intro m
 induction m with
 | zero=>
  intro i s e st x fin
  obtain rfl:i=n:=e
  refine aap aaP ?_
  rw[abi Zk _]
  refine Wx (m:=pyNext (.ref it)) (W.done s _ _ st λs' mv=>WA (fin s' (mv.mono up) (x.stays λo q=>mv.heap a o hw q)))
 | succ m ih=>
  intro i s e st x fin
  refine aap aaP ?_
  rw[abi Zk _]
  refine Wx (m:=pyNext (.ref it)) (W.item i s _ _ (by omega) st λv s1 hp st1 mv=>?_)
  obtain⟨t,rfl⟩:=hv i v hp
  have x1:IsSetT prog w s1.heap a val i:=x.stays λo q=>mv.heap a o hw q
  refine Wx (m:=holding [Value.str (val i) t] (setAdd a (.str (val i) t))) (Xd ?_)
  unfold setAdd
  refine Xd (Wx ((strKind prog w).pyHash (k:=val i) (strKind_is _ _ _ _) ?_))
  have few:=Bp val i
  refine wpAny_setAddHashed_of (knd:=strKind prog w) (s:={ s1 with toks:=s1.toks+1 }) (strKind_is _ _ _ _) rfl x1 (by omega) λh2 sb x2=>?_
  have x3:IsSetT prog w h2 a val (i+1):=SetOf_congr x2 (λk=>Ng val i k) (Nf val i)
  refine WA ⟨plainId_quiet Zk _,ih (i+1) _ (by omega) (W.frame _ s1 _ _ st1 (aau _) λb z o q=>by rw[sb.2 b (λy:b=a=>ha (y ▸ z))];exact q) x3 λs3 mv3 x4=>?_⟩
  exact fin s3 (Moved.trans W.gtrans ((mv.mono up).then_heap (aau _) λb o z q=>by rw[sb.2 b (λy:b=a=>z (y ▸ WE))];exact q) mv3) x4
end
section
variable{prog:pr}{w:sv}{A:tx}{E:dn->gw->Prop}{s:gw}
noncomputable abbrev TY(led:Bool):Obj:={ cls:=.type "set",dict:=Y,data:=.set #[] 0 (.fresh 0 0 led) }
set_option maxHeartbeats 3200000 in
theorem uz{val:Nat->Str}{Q:dn->gw->Prop}(hh:A.handled=Y)(hl:s.heap.IsList l items)(hi:∀ (i:Nat) (v:dn),items[i]?=U v->∃ t,v=.str (val i) t)(hb:items.size+1<scanBound)
  (h:∀ (h':wo) (tk:Nat),IsSetT prog w h' s.heap.objs.size val items.size->(∀ b o,b<s.heap.objs.size->s.heap.get? b=U o->h'.get? b=U o)->Q (.ref s.heap.objs.size) { s with heap:=h',toks:=tk }) :
  Ew (model prog w) A (call (.type "set") [.ref l]) Q E s:=by
 obtain⟨c,tl,hmro⟩:=F.called_set.mro
 have hmade:=F.called_set.made
 have hsub:=F.called_set.sub
 refine Zh (aao ?_)
 show Ew _ _ (callAny (.type "set") _) _ _ _
 refine WA ⟨ZU _ (by decide +kernel),aap F.entry_type_call ?_⟩
 rw[Around.under_plain (weight_type_call_type "set" [.ref l] []) rfl]
 have h1:=F.called_set.notType
 have h2:=F.called_set.canCreate
 have hct:=F.typeCall_set_1 (.ref l)
 repeat (any_goals (first | assumption | wp_step))
 refine XH (code_set_new_1 (.ref l) (E:=E) (Q₁:=λx s1=>∃ led:Bool,x=.ref s.heap.objs.size/\s1 = { s with heap:=s.heap.push { cls:=.type "set",dict:=Y,data:=.set #[] 0 (.fresh 0 0 led) } }) λled=>⟨led,rfl,rfl⟩) λres s1 hr=>?_
 cases res with
 | error e=>exact hr
 | ok fl=>
  cases fl with
  | ret x=>
   obtain⟨led,rfl,rfl⟩:=hr
   have g0:(s.heap.push (TY led)).get? s.heap.objs.size=U (TY led):=WL _ rfl
   have hT:Shared.TypeIs { s with heap:=s.heap.push (TY led) } (.ref s.heap.objs.size) "set":=⟨_,g0,rfl⟩
   have hli:=F.called_set.init.lookup
   have hbi:=F.called_set.init.bind (.ref s.heap.objs.size)
   repeat (any_goals (first | assumption | wp_step))
   refine XH (Zz (R:=wants (λv s2=>v=.none/\∃ h' tk,s2 = { s with heap:=h',toks:=tk }/\IsSetT prog w h' s.heap.objs.size val items.size/\∀ b o,b<s.heap.objs.size->s.heap.get? b=U o->h'.get? b=U o) E) F.called_set.init.plain F.entry_set_init (check_set_init_1 hT ?_)) λres2 s2 hr2=>?_
   ·obtain⟨ol,hol,hcl,nl,hdl⟩:=hl
    obtain⟨ocls,odict,odata,oslots⟩:=ol
    simp only at hcl hdl
    subst hcl hdl
    have hol':(s.heap.push (TY led)).get? l=U { cls:=.type "list",dict:=odict,data:=.seq items nl,slots:=oslots }:=Wy _ hol
    have hsls:=F.sub_list_set
    have hslf:=F.sub_list_frozenset
    have hne:(Value.type "list"==Value.type "dict")=false:=by decide
    have hl1:(s.heap.push (TY led)).IsList l items:=⟨_,hol',rfl,nl,rfl⟩
    unfold Builtin.«set.__init__» noKeywords Builtin.Frozenset.updateFrom
    generalize hPI:pyIter=PI
    wp_walk
    subst hPI
    refine Yy hl1 ?_
    refine Wx (wpAny_runValue ?_)
    have lS:l<s.heap.objs.size:=WG hol
    have zs:(s.heap.push (TY led)).objs.size=s.heap.objs.size+1:=XY ..
    refine Iu ((Walks.list (by simp[hh]) _ l (by rw[zs];exact WZ (Zi lS)) items).toS) s.heap.objs.size (by rw[zs];simp only[WQ,Xn,Yn,abr];exact⟨WZ (Nat.lt_succ_self _),XI lS⟩) val hi hb items.size 0 _ (by omega) ⟨⟨_,WL _ rfl,rfl,rfl⟩,hl1.push _⟩ ?_ λs' mv x=>?_
    ·have g1:=Wy (h:=s.heap.push (TY led)) { cls:=.type "list_iterator",data:=.fields #[.ref l,.int 0 0] } g0
     exact SetOf_congr ((setObjOf_fresh (knd:=strKind prog w) led).setOf g1 (by unfold scanBound;omega)) (λ_=>rfl) rfl
    ·obtain⟨h',g',d',tk',os'⟩:=s'
     obtain rfl:g'=s.gens:=mv.gens
     obtain rfl:d'=s.drawn:=mv.drawn
     obtain rfl:os'=s.os:=mv.os
     refine WA (WA ⟨rfl,h',tk',rfl,x,λb o z q=>?_⟩)
     exact mv.heap b o (by rw[zs];simp only[WQ,Xn,Yn,abr];exact⟨WZ z,WZ (Zi z)⟩) (Wy _ (Wy _ q))
   ·cases res2 with
    | error e=>exact hr2
    | ok fl2=>
     cases fl2 with
     | ret v=>
      obtain⟨rfl,h',tk,rfl,x,kk⟩:=hr2
      repeat (any_goals (first | assumption | wp_step))
      exact h _ _ x kk
     | _=>exact hr2.elim
  | _=>exact hr.elim
end
end HT
namespace L2
section
variable{X:Cx}
theorem wm:∀ {ns:List Int} {us:List dn},Vals (ns.map V.int) us->IntsAre us ns
 | [],_,.nil=>.nil
 | n::ns,_,.cons ⟨t,e⟩ r=>by subst e;exact .cons n t (wm r)
def my(ns:List Int):Nat:=(firstMet (λi=>ns.getD i 0) ns.length).length
theorem GZ:CallR X (.type "set") (λxs H Q=>X.calm=true/\∃ p ns,xs=[.ref p]/\kK X.K H p (ns.map V.int)/\ns.length<64/\∀ S q,H q=Y->Q (.ref q) (upd H q (.set S (my ns)))):=by
 intro pins s σ H xs us Q I r h
 obtain⟨hc,p,ns,rfl,hq,h64,q⟩:=h
 obtain⟨u,rfl,rx⟩:=gm r
 cases rx
 obtain⟨its,rv,pl,hz⟩:=I.list hq
 have hl:=rv.length
 rw[WI] at hl
 refine call_set_list (I.ok.hd hc) pl.isList (by simpa using wm rv) (Yp (show its.toArray.size+1<=100 by rw[WD];omega) (by decide)) λh' tk hS kk=>?_
 have ek:its.toArray.size=ns.length:=by rw[WD];exact hl.symm
 rw[ek] at hS
 exact⟨.ref _,_,I.laid (t':=tk) (o:=.set _ (my ns)) (λb o q=>kk b o (WG q) q) (WH _) hS,rfl,q _ _ I.fresh⟩
theorem vt:∀ {ks:List Str} {us:List dn},Vals (ks.map V.str) us->∀ (i:Nat) (v:dn),us[i]?=U v->∃ t,v=.str (ks.getD i Str.empty) t
 | [],_,.nil,i,v,h=>by simp at h
 | k::ks,_,.cons ⟨t,e⟩ r,0,v,h=>by subst e;simp at h;exact⟨t,h.symm⟩
 | k::ks,_,.cons _ r,i+1,v,h=>by
  rw[aaO] at h
  obtain⟨t,e⟩:=vt r i v h
  exact⟨t,by rw[e];rfl⟩
def GO(ks:List Str):Nat:=(HT.yS (λi=>ks.getD i Str.empty) ks.length).length
def Ir(P:pr)(w:sv)(q:gV)(ks:List Str)(h:wo):Prop:=HT.IsSetT P w h q (λi=>ks.getD i Str.empty) ks.length
theorem GY:CallR X (.type "set") (λxs H Q=>X.calm=true/\∃ p ks,xs=[.ref p]/\kK X.K H p (ks.map V.str)/\ks.length<64/\∀ q,H q=Y->Q (.ref q) (upd H q (.ext (Ir X.prog X.w q ks)))):=by
 intro pins s σ H xs us Q I r h
 obtain⟨hc,p,ks,rfl,hq,h64,q⟩:=h
 obtain⟨u,rfl,rx⟩:=gm r
 cases rx
 obtain⟨its,rv,pl,hz⟩:=I.list hq
 have hl:=rv.length
 rw[WI] at hl
 have ek:its.toArray.size=ks.length:=by rw[WD];exact hl.symm
 refine HT.uz (val:=λi=>ks.getD i Str.empty) (I.ok.hd hc) pl.isList (λi v hv=>vt rv i v (by simpa using hv)) (Yp (show its.toArray.size+1<=100 by rw[ek];omega) (by decide)) λh' tk hS kk=>?_
 rw[ek] at hS
 have hS':Ir X.prog X.w s.heap.objs.size ks h':=hS
 refine⟨.ref _,_,I.laid (t':=tk) (o:=.ext (Ir X.prog X.w s.heap.objs.size ks)) (λb o q=>kk b o (WG q) q) (WH _) ⟨hS',?_,λh1 h2 y k=>HT.IsSetT.stays y k⟩,rfl,q _ I.fresh⟩
 obtain⟨o,_,_,_,e,_⟩:=hS
 exact⟨o,e⟩
theorem Hd:CallR X (.builtin "len") (λxs H Q=>∃ p ks,xs=[.ref p]/\H p=U (.ext (Ir X.prog X.w p ks))/\GO ks<1000/\Q (.int (GO ks:Nat)) H):=by
 intro pins s σ H xs us Q I r h
 obtain⟨p,ks,rfl,hH,hn,q⟩:=h
 obtain⟨u,rfl,rx⟩:=gm r
 cases rx
 obtain⟨⟨o,es,ep,t,e,hx,hd,_,_,_,hf,hsz⟩,_⟩:=I.hok p _ hH
 have hsz':es.size=GO ks:=hsz
 exact call_len_set e hx hd hf (by omega) ⟨.int (GO ks:Nat),H,I.tok _,⟨s.toks+1,by rw[hsz']⟩,q⟩
theorem Qj(ks:List Str):GO ks<=ks.length:=HT.Bp _ _
theorem He:CallR X (.builtin "len") (λxs H Q=>∃ p S n,xs=[.ref p]/\H p=U (.set S n)/\n<1000/\Q (.int (n:Nat)) H):=by
 intro pins s σ H xs us Q I r h
 obtain⟨p,S,n,rfl,hH,hn,q⟩:=h
 obtain⟨u,rfl,rx⟩:=gm r
 cases rx
 obtain⟨o,es,ep,t,e,hx,hd,_,_,_,hf,hsz⟩:=I.hok p _ hH
 exact call_len_set e hx hd hf (by omega) ⟨.int (n:Nat),H,I.tok _,⟨s.toks+1,by rw[hsz]⟩,q⟩
end
end L2
namespace M
open L2
def nq:List D->Option (List Int)
 | []=>U []
 | .int i::r=>(nq r).bind λns=>U (i::ns)
 | _::_=>Y
theorem qM:∀ {ds:List D} {ns:List Int},nq ds=U ns->ds=ns.map D.int
 | [],ns,h=>by cases h;rfl
 | .int i::r,ns,h=>by
  obtain⟨ms,h1,h2⟩:=Ww.mp h
  cases h2
  rw[WO,<- qM h1]
 | .non::_,ns,h=>by cases h
 | .bl _::_,ns,h=>by cases h
 | .str _::_,ns,h=>by cases h
 | .tup _::_,ns,h=>by cases h
 | .lst _::_,ns,h=>by cases h
 | .rol _::_,ns,h=>by cases h
 | .dct _ _::_,ns,h=>by cases h
 | .ref _::_,ns,h=>by cases h
theorem tV:∀ ns:List Int,nq (ns.map D.int)=U ns
 | []=>rfl
 | n::ns=>by rw[WO,nq,tV ns];rfl
section
variable{X:Cx}{K:FA}{μ:Fp}{H:Hp}{S:ac}
theorem vF:∀ {vs:List V} {ns:List Int},Reps K μ H vs (ns.map D.int)->vs=ns.map V.int
 | _,[],.nil=>rfl
 | _,n::ns,.cons h t=>by rw[h.int_inv,vF t];rfl
def qN(S:ac)(d:D):Option (List Int):=if uU S d=true then(fO S d).bind λds=>(nq ds).bind λns=>if ns.length<64 then U ns else Y else Y
theorem tW{d:D}{ns:List Int}(hS:SOk K μ S H)(r:Rep K μ H v d)(h:qN S d=U ns):∃ a,v=.ref a/\kK K H a (ns.map V.int)/\ns.length<64:=by
 unfold qN at h
 split at h
 ·rename_i hl
  obtain⟨a,vs,ds,rfl,hq,hs,rs⟩:=oq hS r hl
  rw[hs] at h
  have h:((nq ds).bind λns=>if ns.length<64 then U ns else Y)=U ns:=h
  obtain⟨ms,h1,h2⟩:=Ww.mp h
  split at h2
  ·rename_i h3
   cases h2
   have:=qM h1
   subst this
   exact⟨a,rfl,by rw[<- vF rs];exact hq,h3⟩
  ·cases h2
 ·cases h
def xn:List D->Option (List Str)
 | []=>U []
 | .str x::r=>(xn r).bind λns=>U (x::ns)
 | _::_=>Y
theorem qC:∀ {ds:List D} {ns:List Str},xn ds=U ns->ds=ns.map D.str
 | [],ns,h=>by cases h;rfl
 | d::r,ns,h=>by
  cases d with
  | str x=>
   obtain⟨ms,h1,h2⟩:=Ww.mp h
   cases h2
   rw[WO,<- qC h1]
  | _=>cases h
theorem vE:∀ {vs:List V} {ns:List Str},Reps K μ H vs (ns.map D.str)->vs=ns.map V.str
 | _,[],.nil=>rfl
 | _,n::ns,.cons h t=>by cases h;rw[vE t];rfl
def Ie(S:ac)(d:D):Option (List Str):=if uU S d=true then(fO S d).bind λds=>(xn ds).bind λns=>if ns.length<64 then U ns else Y else Y
theorem Bx{d:D}{ns:List Str}(hS:SOk K μ S H)(r:Rep K μ H v d)(h:Ie S d=U ns):∃ a,v=.ref a/\kK K H a (ns.map V.str)/\ns.length<64:=by
 unfold Ie at h
 split at h
 ·rename_i hl
  obtain⟨a,vs,ds,rfl,hq,hs,rs⟩:=oq hS r hl
  rw[hs] at h
  have h:((xn ds).bind λns=>if ns.length<64 then U ns else Y)=U ns:=h
  obtain⟨ms,h1,h2⟩:=Ww.mp h
  split at h2
  ·rename_i h3
   cases h2
   have:=qC h1
   subst this
   exact⟨a,rfl,by rw[<- vE rs];exact hq,h3⟩
  ·cases h2
 ·cases h
def lX(S:ac):List D->Option D
 | [d]=>match qN S d with | some ns=>U (.int (my ns:Nat)) | none=>(Ie S d).bind λks=>U (.int (GO ks:Nat))
 | _=>Y
def cQ(ms:MA):ME:=λenv S=>(ms env S).bind λp=>(lX p.2 p.1).bind λd=>U (d,p.2)
theorem Qk(ns:List Int):my ns<=ns.length:=firstMet_length_le _ _
theorem GQ{a:pc}{p p2:Pos}(hc:X.calm=true)(hm:X.mg "len" = Y)(hm2:X.mg "set" = Y)(hg:Gl X "len")(hg2:Gl X "set")(ha:DA X [a] ms)(hs:zH [a] X.env=[(false,eval a X.env)]) :
  DE X (.Call (.Name "len" p) [.Call (.Name "set" p2) [a] [] pos2] [] pos) (cQ ms):=by
 have hset:=vJ (X:=X) (pos:=pos2) (p:=p2) (CallR.or GZ GY) hg2 hm2 boot_set ha (by decide) (by decide) hs rfl
 refine PE.imp (kY (CallR.or He Hd) hg hm boot_len (io hset pL rfl) (by decide) (by decide) rfl rfl) λσ H Q ⟨μ,S,env,d,S',hS,hE,h,post⟩=>?_
 obtain⟨⟨ds,S1⟩,h1,h⟩:=Ww.mp h
 obtain⟨d',h2,h⟩:=Ww.mp h
 cases h
 dsimp only at h2
 unfold lX at h2
 split at h2
 ·rename_i dd _
  refine⟨μ,S,env,[dd],S1,hS,hE,h1,λvs H1 μ1 e1 s1 r1=>?_⟩
  obtain⟨v,rfl,rv⟩:=r1.one
  split at h2
  ·rename_i ns h3
   cases h2
   obtain⟨b,rfl,hq,h64⟩:=tW s1 rv h3
   refine .inl ⟨hc,b,ns,rfl,hq,h64,λT q hn=>?_⟩
   obtain⟨e2,s2⟩:=s1.laid (o:=.set T (my ns)) hn
   exact .inl ⟨q,T,my ns,rfl,aB,by have:=Qk ns;omega,post _ _ μ1 (e1.trans e2) s2 (.int _)⟩
  ·obtain⟨ks,h3,h4⟩:=Ww.mp h2
   cases h4
   obtain⟨b,rfl,hq,h64⟩:=Bx s1 rv h3
   refine .inr ⟨hc,b,ks,rfl,hq,h64,λq hn=>?_⟩
   obtain⟨e2,s2⟩:=s1.laid (o:=.ext (Ir X.prog X.w q ks)) hn
   exact .inr ⟨q,ks,rfl,aB,by have:=Qj ks;omega,post _ _ μ1 (e1.trans e2) s2 (.int _)⟩
 ·cases h2
end
section
variable{X:Cx}{K:FA}{μ:Fp}{H:Hp}{S:ac}
def lm(i j:Nat)(ms:MA):MS:=λenv S=>(ms env S).bind λp=>match p.1 with | [v,w]=>U (.nx ((env.set i (U v)).set j (U w)) p.2) | _=>Y
theorem VG{i j:Nat}{x y:Str}{a b:pc}{pt:Pos}(hc:X.calm=true)(hN:X.N.Nodup)(hi:X.N[i]?=U x)(hj:X.N[j]?=U y)(hij:i≠j)
  (hx:X.env.scope.names.lookup x=U .local) (hy:X.env.scope.names.lookup y=U .local) (ha:DA X [a,b] ms)
  (hw:swappedStores [.Tuple [.Name x px,.Name y py] kt pt] (.Tuple [a,b] k2 pt2) X.env=pure (U [x,y])) :
  DS X (.Assign [.Tuple [.Name x px,.Name y py] kt pt] (.Tuple [a,b] k2 pt2) pos) (lm i j ms):=
 PS.imp (Tg hc hN hi hj hij hx hy ha hw rfl) λE σ H z0=>by
  obtain⟨μ,S,env,o,hS,hE,h,post⟩:=z0
  obtain⟨⟨ds,S1⟩,h1,h⟩:=Ww.mp h
  refine⟨μ,S,env,ds,S1,hS,hE,h1,λvs H1 μ1 e1 s1 r1=>?_⟩
  dsimp only at h
  split at h
  ·rename_i v w
   cases h
   obtain⟨v',w',rfl,rv,rw'⟩:=r1.two
   exact⟨v',w',rfl,post _ H1 μ1 e1 s1 (((hE.mono e1).set rv i).set rw' j)⟩
  ·cases h
def sP:pc->Bool
 | .Starred _ _=>false
 | _=>true
theorem Ib{px py pt:Pos}(hb:X.env.blockKind=.function)(hx:X.env.scope.names.lookup x=U .local)(hy:X.env.scope.names.lookup y=U .local)(hne:(x==y)=false)
  (hl:(py.line==px.line)=true) (ha:sP a=true) (hb':sP b=true) (hf:(foldedForSure 8 a&&foldedForSure 8 b)=false) (hcn:(constantsAlone 8 a&&constantsAlone 8 b)=false) :
  swappedStores [.Tuple [.Name x px,.Name y py] kt pt] (.Tuple [a,b] k2 pt2) X.env=pure (U [x,y]):=by
 have hkx:X.env.kindOf x=U .local:=hx
 have hky:X.env.kindOf y=U .local:=hy
 have hs:([a,b].any λe=>match e with | .Starred ..=>true | _=>false)=false:=by
  have q:∀ e:pc,sP e=true->(match e with | .Starred ..=>true | _=>false:Bool)=false:=λe h=>by cases e<;>first | rfl | cases h
  simp only[Yz,List.any_nil,q a ha,q b hb',Bool.or_self]
 have hxy:(y==x)=false:=by
  rw[Bool.eq_false_iff] at hne ⊢
  intro z;exact hne (by rw[beq_iff_eq] at z ⊢;exact z.symm)
 have hed:([x,y]:List Str).eraseDups=[x,y]:=by simp[List.eraseDups_cons,hxy]
 have hl':py.line=px.line:=by simpa using hl
 unfold swappedStores
 simp only[WF,XG,hb]
 simp only[XC,List.all_nil,ZV,hf,hcn]
 generalize hg:List.filterMap _ [Expr.Name x px,Expr.Name y py]=L
 have hL:L=[x,y]:=by
  rw[<- hg]
  have e0:(Option.map (λ(x:pc)=>x.pos.line) [Expr.Name x px,Expr.Name y py].head?).getD 0=px.line:=rfl
  rw[Xu,Xu]
  have e1:(Expr.Name x px).pos=px:=rfl
  simp[hkx,hky,e0,e1,hl']
 subst hL
 rw[WX (by decide)]
 rw[WX (by
  intro z
  have:([a,b].any λe=>match e with | .Starred ..=>true | _=>false)=true:=z
  rw[hs] at this;cases this)]
 rw[WX (by rw[hed];simp),WX WJ,WX WJ]
end
end M
namespace HT
section
variable{prog:pr}{w:sv}{A:tx}{E:dn->gw->Prop}{s:gw}
structure Dn(z TI TO i1 i2:gV)(fp1 fp2:List gV):Prop where
 TIz:TI≠z
 TOz:TO≠z
 TITO:TI≠TO
 z1:z∉fp1
 z2:z∉fp2
 o1:TO∉fp1
 o2:TO∉fp2
 i12:i1∉fp2
 i21:i2∉fp1
 t1:TI≠i1
 t2:TI≠i2
 m1:i1∈fp1
 m2:i2∈fp2
theorem Fj{TI TO:gV}{Q:dn->gw->Prop}
  (Z:Dn z TI TO i1 i2 fp1 fp2) (D1:Draws prog w A i1 fp1 n1 P1 St1) (D2:Draws prog w A i2 fp2 n2 P2 St2) (hz:IsZip s.heap z TI TO .none) (hTI:IsPair s.heap TI (.ref i1) (.ref i2)) (hTO:IsPair s.heap TO a b)
  (s1:St1 k1 s.heap) (s2:St2 k2 s.heap) (l1:k1<n1) (l2:k2<n2)
  (hQ:∀ x y h' tk,P1 k1 x->P2 k2 y->IsZip h' z TI TO (rawInt s.heap.objs.size)->IsPair h' TO x y->St1 (k1+1) h'->St2 (k2+1) h'->IsPair h' s.heap.objs.size x y->h'.objs.size=s.heap.objs.size+1 ->
   (∀ c o,c≠z->c≠TO->c≠i1->c≠i2->s.heap.get? c=U o->h'.get? c=U o)->Q (.ref s.heap.objs.size) { s with heap:=h',toks:=tk }) :
  Ew (model prog w) A (Builtin.«zip.__next__» ⟨[.ref z],[]⟩) (λfin s'=>∃ v,fin=.done (.ret v)/\Q v s') E s:=by
 unfold Builtin.«zip.__next__»
 show Ew _ _ (field (.ref z) 2 >>= _) _ _ s
 refine Wx (Xr hz rfl (x:=.bool false) rfl ?_)
 refine Wx (Xr hz rfl (x:=.ref TI) rfl ?_)
 refine Wx (Yl hTI rfl ?_)
 show Ew _ _ (Builtin.SmallTypes.ownedTupleIsFree (.ref z) >>= _) _ _ s
 refine Wx ?_
 unfold Builtin.SmallTypes.ownedTupleIsFree
 refine Wx (Xr hz rfl (x:=.none) rfl (WA ?_))
 show Ew _ _ (rule "zip.__next__.owned-tuple-again" >>= _) _ _ s
 refine Wx (Zy ?_)
 refine Wx (Xr hz rfl (x:=.ref TO) rfl ?_)
 refine Wx (XB hz rfl (by simp) ?_)
 refine Wx ?_
 show Ew _ _ (forIn [((Value.ref i1,0):dn×Nat),(Value.ref i2,1)] _ _) _ _ _
 rw[Yv]
 refine Wx ?_
 refine Wx (ZI ?_)
 refine Wx ?_
 have ez:(s.heap.update z (Obj.mapFields λvs=>vs.setIfInBounds 0 .ellipsis)).get? z=U { cls:=.type "zip",data:=.fields #[.ellipsis,.bool false,.bool false,.ref TI,.ref TO] }:=Xh _ hz rfl
 have ne0:∀ c,c≠z->(s.heap.update z (Obj.mapFields λvs=>vs.setIfInBounds 0 .ellipsis)).get? c=s.heap.get? c:=λc hc=>Xy _ _ _ _ hc
 have sz0:(s.heap.update z (Obj.mapFields λvs=>vs.setIfInBounds 0 .ellipsis)).objs.size=s.heap.objs.size:=(XW ..).1
 generalize (s.heap.update z (Obj.mapFields λvs=>vs.setIfInBounds 0 .ellipsis))=h0 at ez ne0 sz0 ⊢
 have zi1:z≠i1:=λe=>Z.z1 (e ▸ Z.m1)
 have zi2:z≠i2:=λe=>Z.z2 (e ▸ Z.m2)
 have oi1:TO≠i1:=λe=>Z.o1 (e ▸ Z.m1)
 have oi2:TO≠i2:=λe=>Z.o2 (e ▸ Z.m2)
 refine D1.item k1 { s with heap:=h0 } _ _ l1 (D1.frame _ _ _ s1 λc hc o ho=>(ne0 c (λe=>Z.z1 (e ▸ hc))).trans ho) λx h1 tk1 px st1 sb1=>WA ?_
 have o1:h1.get? TO=U { cls:=.type "tuple",data:=.seq #[a,b] }:=(sb1.2 TO oi1).trans ((ne0 TO Z.TOz).trans hTO)
 show Ew _ _ (seqItems? (Value.ref TO) >>= _) _ _ _
 refine Wx (Yl o1 rfl ?_)
 refine Wx (wpAny_updateSeq o1 rfl ?_ (by show 2<=ww;decide) (by simp;decide))
 refine Wx (wpAny_letGo (WA ?_))
 have eo:(h1.update TO (Obj.mapSeq λvs=>vs.setIfInBounds 0 x)).get? TO=U { cls:=.type "tuple",data:=.seq #[x,b] }:=Xh _ o1 rfl
 have ne1:∀ c,c≠TO->(h1.update TO (Obj.mapSeq λvs=>vs.setIfInBounds 0 x)).get? c=h1.get? c:=λc hc=>Xy _ _ _ _ hc
 have sz1:(h1.update TO (Obj.mapSeq λvs=>vs.setIfInBounds 0 x)).objs.size=s.heap.objs.size:=(XW ..).1.trans (sb1.1.trans sz0)
 generalize (h1.update TO (Obj.mapSeq λvs=>vs.setIfInBounds 0 x))=h2 at eo ne1 sz1 ⊢
 show Ew _ _ (forIn [((Value.ref i2,1):dn×Nat)] _ _) _ _ _
 rw[Yv]
 refine Wx ?_
 refine Wx (ZI ?_)
 refine Wx ?_
 refine D2.item k2 { s with heap:=h2,toks:=tk1 } _ _ l2 (D2.frame _ _ _ s2 λc hc o ho=>(ne1 c (λe=>Z.o2 (e ▸ hc))).trans ((sb1.2 c (λe=>Z.i12 (e ▸ hc))).trans ((ne0 c (λe=>Z.z2 (e ▸ hc))).trans ho))) λy h3 tk2 py st2 sb2=>WA ?_
 have o2:h3.get? TO=U { cls:=.type "tuple",data:=.seq #[x,b] }:=(sb2.2 TO oi2).trans eo
 show Ew _ _ (seqItems? (Value.ref TO) >>= _) _ _ _
 refine Wx (Yl o2 rfl ?_)
 refine Wx (wpAny_updateSeq o2 rfl ?_ (by show 2<=ww;decide) (by simp;decide))
 refine Wx (wpAny_letGo (WA ?_))
 have eo2:(h3.update TO (Obj.mapSeq λvs=>vs.setIfInBounds 1 y)).get? TO=U { cls:=.type "tuple",data:=.seq #[x,y] }:=Xh _ o2 rfl
 have ne2:∀ c,c≠TO->(h3.update TO (Obj.mapSeq λvs=>vs.setIfInBounds 1 y)).get? c=h3.get? c:=λc hc=>Xy _ _ _ _ hc
 have sz2:(h3.update TO (Obj.mapSeq λvs=>vs.setIfInBounds 1 y)).objs.size=s.heap.objs.size:=(XW ..).1.trans (sb2.1.trans sz1)
 generalize (h3.update TO (Obj.mapSeq λvs=>vs.setIfInBounds 1 y))=h4 at eo2 ne2 sz2 ⊢
 show Ew _ _ (pure _) _ _ _
 refine WA ?_
 show Ew _ _ (seqItems? (Value.ref TO) >>= _) _ _ _
 refine Wx (Yl eo2 rfl ?_)
 show Ew _ _ (newTuple [x,y] >>= _) _ _ _
 refine Wx ?_
 simp only[newTuple]
 refine Xg ?_ (by size_fits)
 have ez4:h4.get? z=U { cls:=.type "zip",data:=.fields #[.ellipsis,.bool false,.bool false,.ref TI,.ref TO] }:=(ne2 z Z.TOz.symm).trans ((sb2.2 z zi2).trans ((ne1 z Z.TOz.symm).trans ((sb1.2 z zi1).trans ez)))
 have ez5:=Wy { cls:=.type "tuple",data:=.seq #[x,y] } ez4
 have et5:=WL h4 (o:={ cls:=.type "tuple",data:=.seq #[x,y] }) rfl
 have kk5:∀ c o,h4.get? c=U o->(h4.push { cls:=.type "tuple",data:=.seq #[x,y] }).get? c=U o:=λc o=>Wy _
 have sz5:(h4.push { cls:=.type "tuple",data:=.seq #[x,y] }).objs.size=s.heap.objs.size+1:=by rw[XY,sz2]
 dsimp only
 show Ew _ _ _ _ _ { s with heap:=h4.push { cls:=.type "tuple",data:=.seq #[x,y] },toks:=tk2 }
 generalize (h4.push { cls:=.type "tuple",data:=.seq #[x,y] })=h5 at ez5 et5 kk5 sz5 ⊢
 rw[sz2] at et5 ⊢
 show Ew _ _ ((setField (.ref z) 0 (rawInt s.heap.objs.size) >>= λ_=>setField (.ref z) 1 (.bool false)) >>= _) _ _ _
 refine Wx (Wx (XB ez5 rfl (by simp) ?_))
 have ez6:(h5.update z (Obj.mapFields λvs=>vs.setIfInBounds 0 (rawInt s.heap.objs.size))).get? z=U { cls:=.type "zip",data:=.fields #[rawInt s.heap.objs.size,.bool false,.bool false,.ref TI,.ref TO] }:=Xh _ ez5 rfl
 have ne6:∀ c,c≠z->(h5.update z (Obj.mapFields λvs=>vs.setIfInBounds 0 (rawInt s.heap.objs.size))).get? c=h5.get? c:=λc hc=>Xy _ _ _ _ hc
 have sz6:(h5.update z (Obj.mapFields λvs=>vs.setIfInBounds 0 (rawInt s.heap.objs.size))).objs.size=s.heap.objs.size+1:=(XW ..).1.trans sz5
 generalize (h5.update z (Obj.mapFields λvs=>vs.setIfInBounds 0 (rawInt s.heap.objs.size)))=h6 at ez6 ne6 sz6 ⊢
 refine XB ez6 rfl (by simp) ?_
 have ez7:(h6.update z (Obj.mapFields λvs=>vs.setIfInBounds 1 (.bool false))).get? z=U { cls:=.type "zip",data:=.fields #[rawInt s.heap.objs.size,.bool false,.bool false,.ref TI,.ref TO] }:=Xh _ ez6 rfl
 have ne7:∀ c,c≠z->(h6.update z (Obj.mapFields λvs=>vs.setIfInBounds 1 (.bool false))).get? c=h6.get? c:=λc hc=>Xy _ _ _ _ hc
 have sz7:(h6.update z (Obj.mapFields λvs=>vs.setIfInBounds 1 (.bool false))).objs.size=s.heap.objs.size+1:=(XW ..).1.trans sz6
 generalize (h6.update z (Obj.mapFields λvs=>vs.setIfInBounds 1 (.bool false)))=h7 at ez7 ne7 sz7 ⊢
 have k57:∀ c o,c≠z->h4.get? c=U o->h7.get? c=U o:=λc o hc ho=>(ne7 c hc).trans ((ne6 c hc).trans (kk5 c o ho))
 have newz:s.heap.objs.size≠z:=XI (WG hz)
 refine WA ⟨_,rfl,hQ x y h7 tk2 px py ez7 (k57 TO _ Z.TOz eo2) ?_ ?_ ((ne7 _ newz).trans ((ne6 _ newz).trans et5)) sz7 λc o c1 c2 c3 c4 ho=>k57 c o c1 ((ne2 c c2).trans ((sb2.2 c c4).trans ((ne1 c c2).trans ((sb1.2 c c3).trans ((ne0 c c1).trans ho)))))⟩
 ·exact D1.frame _ _ _ st1 λc hc o ho=>k57 c o (λe=>Z.z1 (e ▸ hc)) ((ne2 c (λe=>Z.o1 (e ▸ hc))).trans ((sb2.2 c (λe=>Z.i21 (e ▸ hc))).trans ((ne1 c (λe=>Z.o1 (e ▸ hc))).trans ho)))
 ·exact D2.frame _ _ _ st2 λc hc o ho=>k57 c o (λe=>Z.z2 (e ▸ hc)) ((ne2 c (λe=>Z.o2 (e ▸ hc))).trans ho)
theorem Fk{TI TO:gV}
  (Z:Dn z TI TO i1 i2 fp1 fp2) (D1:Draws prog w A i1 fp1 n1 P1 St1) (hz:IsZip s.heap z TI TO .none) (hTI:IsPair s.heap TI (.ref i1) (.ref i2)) (hTO:IsPair s.heap TO a b)
  (s1:St1 n1 s.heap)
  (hE:∀ h' e tk,(∀ c o,c≠z->c≠TO->c≠i1->c≠i2->s.heap.get? c=U o->h'.get? c=U o)->(∃ o,h'.get? e=U o/\o.cls=.type "StopIteration")->E (.ref e) { s with heap:=h',toks:=tk }) :
  Ew (model prog w) A (Builtin.«zip.__next__» ⟨[.ref z],[]⟩) Q E s:=by
 unfold Builtin.«zip.__next__»
 show Ew _ _ (field (.ref z) 2 >>= _) _ _ s
 refine Wx (Xr hz rfl (x:=.bool false) rfl ?_)
 refine Wx (Xr hz rfl (x:=.ref TI) rfl ?_)
 refine Wx (Yl hTI rfl ?_)
 show Ew _ _ (Builtin.SmallTypes.ownedTupleIsFree (.ref z) >>= _) _ _ s
 refine Wx ?_
 unfold Builtin.SmallTypes.ownedTupleIsFree
 refine Wx (Xr hz rfl (x:=.none) rfl (WA ?_))
 show Ew _ _ (rule "zip.__next__.owned-tuple-again" >>= _) _ _ s
 refine Wx (Zy ?_)
 refine Wx (Xr hz rfl (x:=.ref TO) rfl ?_)
 refine Wx (XB hz rfl (by simp) ?_)
 refine Wx ?_
 show Ew _ _ (forIn [((Value.ref i1,0):dn×Nat),(Value.ref i2,1)] _ _) _ _ _
 rw[Yv]
 refine Wx ?_
 refine Wx (ZI ?_)
 refine Wx ?_
 have ez:(s.heap.update z (Obj.mapFields λvs=>vs.setIfInBounds 0 .ellipsis)).get? z=U { cls:=.type "zip",data:=.fields #[.ellipsis,.bool false,.bool false,.ref TI,.ref TO] }:=Xh _ hz rfl
 have ne0:∀ c,c≠z->(s.heap.update z (Obj.mapFields λvs=>vs.setIfInBounds 0 .ellipsis)).get? c=s.heap.get? c:=λc hc=>Xy _ _ _ _ hc
 generalize (s.heap.update z (Obj.mapFields λvs=>vs.setIfInBounds 0 .ellipsis))=h0 at ez ne0 ⊢
 have zi1:z≠i1:=λe=>Z.z1 (e ▸ Z.m1)
 have zi2:z≠i2:=λe=>Z.z2 (e ▸ Z.m2)
 have oi1:TO≠i1:=λe=>Z.o1 (e ▸ Z.m1)
 have oi2:TO≠i2:=λe=>Z.o2 (e ▸ Z.m2)
 refine D1.done { s with heap:=h0 } _ _ (D1.frame _ _ _ s1 λc hc o ho=>(ne0 c (λe=>Z.z1 (e ▸ hc))).trans ho) λh1 e xb ⟨o,ho,hc⟩=>?_
 have z1:=xb z _ zi1 ez
 refine XB z1 rfl (by simp) (hE _ e s.toks (λc o c1 c2 c3 c4 ho=>(Xy _ _ _ _ c1).trans (xb c o c3 ((ne0 c c1).trans ho))) ?_)
 refine⟨o,(Xy _ _ _ _ λh=>?_).trans ho,hc⟩
 rw[h,z1] at ho;cases ho;exact absurd (show Value.type "zip" = Value.type "StopIteration" from hc) (by decide)
theorem zk{TI TO:gV}{Q:Option dn->gw->Prop}
  (Z:Dn z TI TO i1 i2 fp1 fp2) (D1:Draws prog w A.in1 i1 fp1 n1 P1 St1) (D2:Draws prog w A.in1 i2 fp2 n2 P2 St2) (hz:IsZip s.heap z TI TO .none) (hTI:IsPair s.heap TI (.ref i1) (.ref i2)) (hTO:IsPair s.heap TO a b)
  (s1:St1 k1 s.heap) (s2:St2 k2 s.heap) (l1:k1<n1) (l2:k2<n2)
  (hQ:∀ x y h' tk,P1 k1 x->P2 k2 y->IsZip h' z TI TO (rawInt s.heap.objs.size)->IsPair h' TO x y->St1 (k1+1) h'->St2 (k2+1) h'->IsPair h' s.heap.objs.size x y->h'.objs.size=s.heap.objs.size+1 ->
   (∀ c o,c≠z->c≠TO->c≠i1->c≠i2->s.heap.get? c=U o->h'.get? c=U o)->Q (U (.ref s.heap.objs.size)) { s with heap:=h',toks:=tk }) :
  Ew (model prog w) A (pyNext (.ref z)) Q E s:=by
 unfold pyNext
 refine Wx (ZJ ?_)
 refine XF (name:=Str.ofString "__next__") (T:="zip") ?_ Zw (Yk Zw ?_ F.entry_zip_next (Fj Z D1 D2 hz hTI hTO s1 s2 l1 l2 λx y h' tk a1 a2 a3 a4 a5 a6 a7 a8 a9=>WA (hQ x y h' tk a1 a2 a3 a4 a5 a6 a7 a8 a9)) (F.args_zip_next_1 _))<;>exact⟨_,hz,rfl⟩
end
end HT
namespace HT
section
variable{prog:pr}{w:sv}{A:tx}{E:dn->gw->Prop}{s:gw}
theorem xE{TI TO:gV}{Q:Option dn->gw->Prop}
  (Z:Dn z TI TO i1 i2 fp1 fp2) (D1:Draws prog w A.in1 i1 fp1 n1 P1 St1) (hz:IsZip s.heap z TI TO .none) (hTI:IsPair s.heap TI (.ref i1) (.ref i2)) (hTO:IsPair s.heap TO a b)
  (s1:St1 n1 s.heap) (hQ:∀ h' tk,(∀ c o,c≠z->c≠TO->c≠i1->c≠i2->s.heap.get? c=U o->h'.get? c=U o)->Q Y { s with heap:=h',toks:=tk }) :
  Ew (model prog w) A (pyNext (.ref z)) Q E s:=by
 unfold pyNext
 refine Wx (ZJ ?_)
 refine XF (name:=Str.ofString "__next__") (T:="zip") ⟨_,hz,rfl⟩ Zw (Yk Zw ⟨_,hz,rfl⟩ F.entry_zip_next (Fk Z D1 hz hTI hTO s1 λh' e tk kk hc=>?_) (F.args_zip_next_1 _))
 show Ew _ _ (isInstance (.ref e) (.type "StopIteration") >>= _) _ _ _
 exact Wx (wpAny_isInstance (T:="StopIteration") (b:=true) hc (by first | exact sub_StopIteration | rfl) (WA (hQ h' tk kk)))
end
theorem HD(l1 l2:gV)(xs ys:Array dn) :
  Meets (Builtin.«zip.__new__» ⟨[.type "zip",.ref l1,.ref l2],[]⟩) (λ_ R s=>s.heap.IsTuple l1 xs/\s.heap.IsTuple l2 ys /\
   ∀ h',IsZip h' (s.heap.objs.size+4) (s.heap.objs.size+2) (s.heap.objs.size+3) .none->IsPair h' (s.heap.objs.size+2) (.ref s.heap.objs.size) (.ref (s.heap.objs.size+1))->IsPair h' (s.heap.objs.size+3) .none .none ->
    h'.IsTupleIter s.heap.objs.size l1 0->h'.IsTupleIter (s.heap.objs.size+1) l2 0->h'.objs.size=s.heap.objs.size+5->(∀ c o,s.heap.get? c=U o->h'.get? c=U o)->R (.ok (.ret (.ref (s.heap.objs.size+4)))) { s with heap:=h' }):=
 .of_wp λprog w A R s h=>by
  obtain⟨hl,hl2,h⟩:=h
  unfold Builtin.«zip.__new__»
  refine Wx ?_
  show Ew _ _ (isType (.type "zip") >>= _) _ _ _
  refine Wx (abj (a:=true) (by first | rfl | simp[isType]) ?_)
  show Ew _ _ (isSubtype (.type "zip") (.type "zip") >>= _) _ _ _
  refine Wx (abj sub_zip (WA ?_))
  show Ew _ _ (Builtin.SmallTypes.iterAll [.ref l1,.ref l2] >>= _) _ _ _
  refine Wx ?_
  unfold Builtin.SmallTypes.iterAll
  refine Wx ?_
  rw[Yv]
  refine Wx (Wx (Xd (ZH hl (WA ?_))))
  have g1:=WL s.heap (o:={ cls:=.type "tuple_iterator",data:=.fields #[.ref l1,.int 0 0] }) rfl
  have k1:∀ c o,s.heap.get? c=U o->(s.heap.push { cls:=.type "tuple_iterator",data:=.fields #[.ref l1,.int 0 0] }).get? c=U o:=λc o=>Wy _
  have z1:(s.heap.push { cls:=.type "tuple_iterator",data:=.fields #[.ref l1,.int 0 0] }).objs.size=s.heap.objs.size+1:=XY ..
  generalize s.heap.push { cls:=.type "tuple_iterator",data:=.fields #[.ref l1,.int 0 0] } = h1 at g1 k1 z1 ⊢
  have hl2':h1.IsTuple l2 ys:=by obtain⟨o,ho,r⟩:=hl2;exact⟨o,k1 _ _ ho,r⟩
  show Ew _ _ (forIn [Value.ref l2] _ _) _ _ _
  rw[Yv]
  refine Wx (Wx (Xd (ZH hl2' (WA ?_))))
  dsimp only
  have g2:=WL h1 (o:={ cls:=.type "tuple_iterator",data:=.fields #[.ref l2,.int 0 0] }) rfl
  have k2:∀ c o,h1.get? c=U o->(h1.push { cls:=.type "tuple_iterator",data:=.fields #[.ref l2,.int 0 0] }).get? c=U o:=λc o=>Wy _
  have z2:(h1.push { cls:=.type "tuple_iterator",data:=.fields #[.ref l2,.int 0 0] }).objs.size=s.heap.objs.size+2:=by rw[XY,z1]
  generalize h1.push { cls:=.type "tuple_iterator",data:=.fields #[.ref l2,.int 0 0] } = h2 at g2 k2 z2 ⊢
  rw[z1] at g2 ⊢
  show Ew _ _ (pure _) _ _ _
  refine WA (WA ?_)
  show Ew _ _ (newTuple [.ref s.heap.objs.size,.ref (s.heap.objs.size+1)] >>= _) _ _ _
  refine Wx ?_
  simp only[newTuple]
  refine Xg ?_ (by size_fits)
  have g3:=WL h2 (o:={ cls:=.type "tuple",data:=.seq #[.ref s.heap.objs.size,.ref (s.heap.objs.size+1)] }) rfl
  have k3:∀ c o,h2.get? c=U o->(h2.push { cls:=.type "tuple",data:=.seq #[.ref s.heap.objs.size,.ref (s.heap.objs.size+1)] }).get? c=U o:=λc o=>Wy _
  have z3:(h2.push { cls:=.type "tuple",data:=.seq #[.ref s.heap.objs.size,.ref (s.heap.objs.size+1)] }).objs.size=s.heap.objs.size+3:=by rw[XY,z2]
  dsimp only
  show Ew _ _ _ _ _ { s with heap:=h2.push { cls:=.type "tuple",data:=.seq #[.ref s.heap.objs.size,.ref (s.heap.objs.size+1)] } }
  generalize h2.push { cls:=.type "tuple",data:=.seq #[.ref s.heap.objs.size,.ref (s.heap.objs.size+1)] } = h3 at g3 k3 z3 ⊢
  rw[z2] at g3 ⊢
  refine Wx ?_
  show Ew _ _ (newObj (.type "tuple") (.seq #[.none,.none])) _ _ _
  refine Xg ?_ (by size_fits)
  have g4:=WL h3 (o:={ cls:=.type "tuple",data:=.seq #[.none,.none] }) rfl
  have k4:∀ c o,h3.get? c=U o->(h3.push { cls:=.type "tuple",data:=.seq #[.none,.none] }).get? c=U o:=λc o=>Wy _
  have z4:(h3.push { cls:=.type "tuple",data:=.seq #[.none,.none] }).objs.size=s.heap.objs.size+4:=by rw[XY,z3]
  dsimp only
  generalize h3.push { cls:=.type "tuple",data:=.seq #[.none,.none] } = h4 at g4 k4 z4 ⊢
  rw[z3] at g4 ⊢
  refine Wx ?_
  show Ew _ _ (newObj (.type "zip") (.fields #[.none,.bool false,.bool false,.ref (s.heap.objs.size+2),.ref (s.heap.objs.size+3)])) _ _ _
  refine Xg ?_ (by size_fits)
  have g5:=WL h4 (o:={ cls:=.type "zip",data:=.fields #[.none,.bool false,.bool false,.ref (s.heap.objs.size+2),.ref (s.heap.objs.size+3)] }) rfl
  have k5:∀ c o,h4.get? c=U o->(h4.push { cls:=.type "zip",data:=.fields #[.none,.bool false,.bool false,.ref (s.heap.objs.size+2),.ref (s.heap.objs.size+3)] }).get? c=U o:=λc o=>Wy _
  have z5:(h4.push { cls:=.type "zip",data:=.fields #[.none,.bool false,.bool false,.ref (s.heap.objs.size+2),.ref (s.heap.objs.size+3)] }).objs.size=s.heap.objs.size+5:=by rw[XY,z4]
  dsimp only
  generalize h4.push { cls:=.type "zip",data:=.fields #[.none,.bool false,.bool false,.ref (s.heap.objs.size+2),.ref (s.heap.objs.size+3)] } = h5 at g5 k5 z5 ⊢
  rw[z4] at g5 ⊢
  refine WA ⟨_,rfl,h h5 g5 (k5 _ _ (k4 _ _ g3)) (k5 _ _ g4) ⟨_,k5 _ _ (k4 _ _ (k3 _ _ (k2 _ _ g1))),rfl,rfl⟩ ⟨_,k5 _ _ (k4 _ _ (k3 _ _ g2)),rfl,rfl⟩ z5 λc o e=>k5 _ _ (k4 _ _ (k3 _ _ (k2 _ _ (k1 _ _ e))))⟩
section
variable{prog:pr}{w:sv}{A:tx}{E:dn->gw->Prop}{s:gw}
theorem GW{l2:gV}{Q:dn->gw->Prop}(hL:s.heap.IsTuple l1 xs)(hL2:s.heap.IsTuple l2 ys)
  (h:∀ h':wo,IsZip h' (s.heap.objs.size+4) (s.heap.objs.size+2) (s.heap.objs.size+3) .none->IsPair h' (s.heap.objs.size+2) (.ref s.heap.objs.size) (.ref (s.heap.objs.size+1))->IsPair h' (s.heap.objs.size+3) .none .none ->
    h'.IsTupleIter s.heap.objs.size l1 0->h'.IsTupleIter (s.heap.objs.size+1) l2 0->h'.objs.size=s.heap.objs.size+5->(∀ c o,s.heap.get? c=U o->h'.get? c=U o)->Q (.ref (s.heap.objs.size+4)) { s with heap:=h' }) :
  Ew (model prog w) A (call (.type "zip") [.ref l1,.ref l2]) Q E s:=by
 refine callType_new F.called_zip (by decide) (F.typeCall_zip_2 _ _) (F.newCall_zip_2 _ _) (λobj=>F.args_object_init_3 obj _ _) F.entry_zip_new (HD l1 l2 xs ys) ⟨hL,hL2,λh' a b c d e f g=>?_⟩
 exact⟨⟨_,a,rfl⟩,h h' a b c d e f g⟩
end
end HT
namespace L2
section
def Itz(K:FA)(a b:gV):It:=
 ⟨λi H=>∃ xs ys x y,mj K H a xs/\mj K H b ys/\xs[i]?=U x/\ys[i]?=U y,
 λi H x H'=>∃ p v u,x=.ref p/\H p=Y/\H'=upd H p (.tup [v,u])/\(∀ xs,mj K H a xs->xs[i]?=U v)/\∀ ys,mj K H b ys->ys[i]?=U u,
 λi H=>∃ xs ys,mj K H a xs/\mj K H b ys/\xs.length<=i⟩
def TnZ(z TI TO i1 i2 a b:gV)(i:Nat)(h:wo):Prop:=IsZip h z TI TO .none/\IsPair h TI (.ref i1) (.ref i2)/\(∃ u v,IsPair h TO u v)/\h.IsTupleIter i1 a i/\h.IsTupleIter i2 b i
theorem LM{A:tx}(hh:A.handled=Y)(it a:gV)(items:Array dn)(i:Nat)(hx:items[i]?=Y) :
  Draws prog w A it [it,a] i (λ_ _=>True) (λj h=>j=i/\h.IsTupleIter it a i/\h.IsTuple a items):=
 {live:=λ_ _ q=>by obtain⟨_,⟨o,ho,_⟩,_⟩:=q;exact⟨o,ho⟩
  frame:=λ_ _ _ q hk=>by
   obtain⟨q0,⟨o,ho,r⟩,⟨o2,ho2,r2⟩⟩:=q
   exact⟨q0,⟨o,hk it (by simp) o ho,r⟩,⟨o2,hk a (by simp) o2 ho2,r2⟩⟩
  item:=λj _ _ _ hj q _=>absurd q.1 (WZ hj)
  done:=λs Q E q hE=>HT.wH hh q.2.1 q.2.2 hx hE }
theorem HR{K:FA}{k:Nat}(a b z TI TO i1 i2:gV)(Z:HT.Dn z TI TO i1 i2 [i1,a] [i2,b]):Bh P w K (.Tuple es k pos) (Itz K a b) [z,TI,TO,i1,i2] z (TnZ z TI TO i1 i2 a b) where
 mem:=by simp
 obj:=λi h st c hc=>by
  obtain⟨hz,hTI,⟨u,v,hTO⟩,⟨o,ho,hc1,hd⟩,⟨o2,ho2,hc2,hd2⟩⟩:=st
  simp only[WQ,Xn,Yn] at hc
  rcases hc with rfl | rfl | rfl | rfl | rfl
  ·exact⟨_,hz,λv z=>by cases z⟩
  ·exact⟨_,hTI,λv z=>by cases z⟩
  ·exact⟨_,hTO,λv z=>by cases z⟩
  ·exact⟨o,ho,λv z=>by rw[hd] at z;cases z⟩
  ·exact⟨o2,ho2,λv z=>by rw[hd2] at z;cases z⟩
 keep:=λi h h' st kk=>by
  obtain⟨hz,hTI,⟨u,v,hTO⟩,⟨o,ho,r⟩,⟨o2,ho2,r2⟩⟩:=st
  exact⟨kk z (by simp) _ hz,kk TI (by simp) _ hTI,⟨u,v,kk TO (by simp) _ hTO⟩,⟨o,kk i1 (by simp) _ ho,r⟩,⟨o2,kk i2 (by simp) _ ho2,r2⟩⟩
 item:=by
  intro X hP hw hK hc i pins s σ H E I hf st hg
  subst hP hw hK
  obtain⟨xs,ys,x,y,hq,hq2,hx,hy⟩:=hg
  obtain⟨its,rv,p,hz0⟩:=I.tuple hq
  obtain⟨its2,rv2,p2,hz2⟩:=I.tuple hq2
  have hT:s.heap.IsTuple a its.toArray:=p
  have hT2:s.heap.IsTuple b its2.toArray:=p2
  have hh:=I.ok.hd hc
  obtain⟨hz,hTI,⟨u0,v0,hTO⟩,hit1,hit2⟩:=st
  have li:i<its.toArray.size:=by rw[WD,<- rv.length];exact(WC.mp hx).1
  have li2:i<its2.toArray.size:=by rw[WD,<- rv2.length];exact(WC.mp hy).1
  have nea:a≠i1:=λe=>by
   obtain⟨o',ho',hc',_⟩:=hit1
   obtain⟨o,ho,hcl,_⟩:=hT
   rw[e,ho'] at ho;cases ho;rw[hc'] at hcl;exact absurd hcl (by decide)
  have neb:b≠i2:=λe=>by
   obtain⟨o',ho',hc',_⟩:=hit2
   obtain⟨o,ho,hcl,_⟩:=hT2
   rw[e,ho'] at ho;cases ho;rw[hc'] at hcl;exact absurd hcl (by decide)
  have Tn:∀ c,c∈[z,TI,TO,i1,i2]->s.heap.objs.size≠c:=λc hc=>by
   simp only[WQ,Xn,Yn] at hc
   rcases hc with rfl | rfl | rfl | rfl | rfl
   ·exact XI (WG hz)
   ·exact XI (WG hTI)
   ·exact XI (WG hTO)
   ·obtain⟨o,ho,_⟩:=hit1;exact XI (WG ho)
   ·obtain⟨o,ho,_⟩:=hit2;exact XI (WG ho)
  refine HT.zk Z (HT.LL (prog:=X.prog) (w:=X.w) (A:=X.A.in1) hh i1 a nea its.toArray) (HT.LL (prog:=X.prog) (w:=X.w) (A:=X.A.in1) hh i2 b neb its2.toArray) hz hTI hTO ⟨hit1,hT⟩ ⟨hit2,hT2⟩ li li2 λx' y' h1 tk hx' hy' ez eo st1 st2 hT1 hsz kk=>⟨_,rfl,?_⟩
  refine wpAny_letOwnedTupleGo_zip ez λh2 ez2 sb=>?_
  generalize hTT:s.heap.objs.size=T at *
  obtain⟨u,hu,ru⟩:=rv.get hx
  obtain⟨u2,hu2,ru2⟩:=rv2.get hy
  have ex:x'=u:=by
   rw[show its.toArray[i]?=its[i]? by simp,hu] at hx'
   exact(Xp hx').symm
  have ey:y'=u2:=by
   rw[show its2.toArray[i]?=its2[i]? by simp,hu2] at hy'
   exact(Xp hy').symm
  subst ex ey
  have kall:∀ c o,c∉[z,TI,TO,i1,i2]->s.heap.get? c=U o->h2.get? c=U o:=λc o hb q=>by
   simp only[WQ,Xn,Yn,abr] at hb
   exact(sb.2 c hb.1).trans (kk c o hb.1 hb.2.2.1 hb.2.2.2.1 hb.2.2.2.2 q)
  have hTp:IsTupN h2 T #[x',y']:=⟨_,(sb.2 T (Tn z (by simp))).trans hT1,rfl,⟨_,rfl⟩,rfl⟩
  have hTs:s.heap.objs.size<=T:=aaf hTT
  have TIi:TI≠i1/\TI≠i2:=⟨Z.t1,Z.t2⟩
  refine⟨.ref T,upd H T (.tup [x,y]),I.turnLaid kall hf hTs ⟨by show 2<=ww;decide,[x',y'],.cons ru (.cons ru2 .nil),hTp⟩,rfl,⟨T,x,y,rfl,I.hok.fresh hTs,rfl,λzs hz=>by rw[I.tuple_inj hz hq];exact hx,λzs hz=>by rw[I.tuple_inj hz hq2];exact hy⟩,⟨ez2,(sb.2 TI Z.TIz).trans (kk TI _ Z.TIz Z.TITO Z.t1 Z.t2 hTI),⟨x',y',(sb.2 TO Z.TOz).trans eo⟩,?_,?_⟩,λc hc=>?_⟩
  ·obtain⟨⟨o,ho,r⟩,_⟩:=st1
   exact⟨o,(sb.2 i1 (λe=>Z.z1 (by simp[e]))).trans ho,r⟩
  ·obtain⟨⟨o,ho,r⟩,_⟩:=st2
   exact⟨o,(sb.2 i2 (λe=>Z.z2 (by simp[e]))).trans ho,r⟩
  ·rw[aA (Tn c hc).symm]
   exact(hf c hc).1
 done:=by
  intro X hP hw hK hc i pins s σ H E I hf st hg
  subst hP hw hK
  obtain⟨xs,ys,hq,hq2,hl⟩:=hg
  obtain⟨its,rv,p,hz0⟩:=I.tuple hq
  obtain⟨its2,rv2,p2,hz2⟩:=I.tuple hq2
  have hT:s.heap.IsTuple a its.toArray:=p
  have hT2:s.heap.IsTuple b its2.toArray:=p2
  have hh:=I.ok.hd hc
  obtain⟨hz,hTI,⟨u0,v0,hTO⟩,hit1,hit2⟩:=st
  have fin:∀ h' tk,(∀ c o,c≠z->c≠TO->c≠i1->c≠i2->s.heap.get? c=U o->h'.get? c=U o)->(Y:Option dn)=Y/\Inv X pins σ H { s with heap:=h',toks:=tk }:=λh' tk kk=>⟨rfl,I.turnedL (fp:=[z,TI,TO,i1,i2]) (λc o hb q=>by
   simp only[WQ,Xn,Yn,abr] at hb
   exact kk c o hb.1 hb.2.2.1 hb.2.2.2.1 hb.2.2.2.2 q) hf⟩
  exact HT.xE Z (LM (prog:=X.prog) (w:=X.w) (A:=X.A.in1) hh i1 a its.toArray i (by simp;have:=rv.length;omega)) hz hTI hTO ⟨rfl,hit1,hT⟩ fin
 self:=λA i s Q E st h=>wpAny_pyIter_zip st.1 h
def iZip(K:FA)(t:TA):TI:=λσ H R=>t σ H λxs H1=>∃ a b,xs=[.ref a,.ref b]/\(∃ ys,mj K H1 a ys)/\(∃ ys,mj K H1 b ys)/\R (Itz K a b) H1
variable{X:Cx}
theorem HC{n t t2:Nat}(h1:t<n)(h2:t2<n):HT.Dn (n+4) (n+2) (n+3) n (n+1) [n,t] [n+1,t2]:=by
 constructor<;>simp only[WQ,Xn,Yn,abr,ne_eq,true_or]<;>(try (show ¬ ((_:Nat)=_)))<;>(try omega)
 all_goals (refine⟨?_,?_⟩<;>(show ¬ ((_:Nat)=_))<;>omega)
theorem MX{n b:Nat}(h:b∈[n+4,n+2,n+3,n,n+1]):n<=b:=by
 simp only[WQ,Xn,Yn] at h
 omega
theorem Tk{a b:pc}{k:Nat}{p:Pos}(hg:Gl X "zip")(hm:X.mg "zip" = Y)(ha:PA X [a,b] ta)(hs:zH [a,b] X.env=[(false,eval a X.env),(false,eval b X.env)])(hs2:zH [b] X.env=[(false,eval b X.env)]) :
  PI X (.Tuple es k tp) (.Call (.Name "zip" p) [a,b] [] pos) (iZip X.K ta):=by
 intro pins s σ H R I h
 refine Call_ (tJ I hg hm boot_zip (YY (cz (ha pos pins s σ H _ I h) λus s1 ⟨vs,H1,I1,r1,q1⟩=>?_) (by rw[hs,hs2]) (by rw[hs2];rfl)))
 obtain⟨t,t2,rfl,⟨ys,hq⟩,⟨ys2,hq2⟩,q⟩:=q1
 obtain⟨u,v,rfl,ru,rv⟩:=r1.two
 cases ru
 cases rv
 obtain⟨its,rv,pt,hz⟩:=I1.tuple hq
 obtain⟨its2,rv2,pt2,hz2⟩:=I1.tuple hq2
 have l1:t<s1.heap.objs.size:=by obtain⟨o,ho,_⟩:=pt;exact WG ho
 have l2:t2<s1.heap.objs.size:=by obtain⟨o,ho,_⟩:=pt2;exact WG ho
 refine HT.GW pt pt2 λh' hz hTI hTO hi1 hi2 hsz kk=>wpAny_pyIter_zip hz ?_
 have Z:HT.Dn (s1.heap.objs.size+4) (s1.heap.objs.size+2) (s1.heap.objs.size+3) s1.heap.objs.size (s1.heap.objs.size+1) [s1.heap.objs.size,t] [s1.heap.objs.size+1,t2]:=HC l1 l2
 refine⟨s1.heap.objs.size+4,[s1.heap.objs.size+4,s1.heap.objs.size+2,s1.heap.objs.size+3,s1.heap.objs.size,s1.heap.objs.size+1],_,_,H1,rfl,I1.kept (t':=s1.toks) kk,HR t t2 _ _ _ _ _ Z,⟨hz,hTI,⟨_,_,hTO⟩,hi1,hi2⟩,λb hb=>?_,q⟩
 have hb':s1.heap.objs.size<=b:=MX hb
 exact I1.fpOk hb' (I1.hok.fresh hb')
end
end L2
namespace M
open L2
section
variable{X:Cx}{K:FA}{μ μ':Fp}{H H':Hp}{S:ac}
def jo:List D->List D->List D
 | x::r,y::q=>.tup [x,y]::jo r q
 | _,_=>[]
theorem yL:∀ (xs ys:List D) (i:Nat),xs.length<=ys.length->(jo xs ys).length<=i->xs.length<=i
 | [],_,i,_,_=>YZ _
 | _::_,[],i,h,_=>by simp at h
 | x::r,y::q,0,_,h=>by simp[jo] at h
 | x::r,y::q,i+1,hl,h=>Nat.succ_le_succ (yL r q i (YK hl) (YK h))
theorem yM:∀ (xs ys:List D) (i:Nat) (d:D),(jo xs ys)[i]?=U d->∃ x y,xs[i]?=U x/\ys[i]?=U y/\d=.tup [x,y]
 | [],_,i,d,h=>by simp[jo] at h
 | _::_,[],i,d,h=>by simp[jo] at h
 | x::r,y::q,0,d,h=>by simp[jo] at h;exact⟨x,y,rfl,rfl,h.symm⟩
 | x::r,y::q,i+1,d,h=>by
  rw[jo,aaO] at h
  simpa using yM r q i d h
theorem Km(r:Rep K μ H (.ref a) (.tup xs))(q:Rep K μ H (.ref b) (.tup ys))(hz:xs.length<=ys.length):Hu K μ H (Itz K a b) (jo xs ys):=λμ' H' S' e s i=>by
 have r':=r.monoP e
 have q':=q.monoP e
 obtain⟨b1,vs,hb,hq,rs⟩:=r'.sqT
 cases hb
 obtain⟨b2,ws,hb,hq2,qs⟩:=q'.sqT
 cases hb
 refine⟨λd hd=>?_,λhl=>⟨vs,ws,hq,hq2,by rw[rs.length];exact yL _ _ _ hz hl⟩⟩
 obtain⟨x,y,hx,hy,rfl⟩:=yM xs ys i d hd
 obtain⟨v,hv,rv⟩:=rs.get hx
 obtain⟨u,hu,ru⟩:=qs.get hy
 refine⟨⟨vs,ws,v,u,hq,hq2,hv,hu⟩,λy H2 hy=>?_⟩
 obtain⟨p,v',u',rfl,hp,rfl,hw,hw2⟩:=hy
 have ev:v'=v:=by have:=hw vs hq;rw[hv] at this;exact(Xp this).symm
 have eu:u'=u:=by have:=hw2 ws hq2;rw[hu] at this;exact(Xp this).symm
 subst ev eu
 obtain⟨e2,s2⟩:=s.laid (o:=.tup [v',u']) hp
 refine⟨e2,s2,?_⟩
 exact .tup aB (s.notMem hp) (.cons (rv.mono e2) (.cons (ru.mono e2) .nil))
def mY(ms:MA):MA:=λenv S=>(ms env S).bind λp=>match p.1 with | [.tup xs,.tup ys]=>if xs.length<=ys.length then U (jo xs ys,p.2) else Y | _=>Y
theorem VI{a b:pc}{k:Nat}{p:Pos}(hm:X.mg "zip" = Y)(ha:DA X [a,b] ms)(hg:Gl X "zip")(hs:zH [a,b] X.env=[(false,eval a X.env),(false,eval b X.env)])(hs2:zH [b] X.env=[(false,eval b X.env)]) :
  DI X (.Tuple es k tp) (.Call (.Name "zip" p) [a,b] [] pos) (mY ms):=PI.imp (Tk hg hm ha hs hs2) λσ H R z0=>by
 obtain⟨μ,S,env,xs,S',hS,hE,h,post⟩:=z0
 obtain⟨⟨ds,S1⟩,h1,h⟩:=Ww.mp h
 refine⟨μ,S,env,ds,S1,hS,hE,h1,λvs H1 μ1 e1 s1 r1=>?_⟩
 dsimp only at h
 split at h
 ·rename_i xs ys
  split at h
  case isFalse=>cases h
  rename_i hz
  cases h
  obtain⟨v,u,rfl,rv,ru⟩:=r1.two
  have rv':=rv
  have ru':=ru
  obtain⟨b,ws,rfl,hq,rs⟩:=rv.sqT
  obtain⟨b2,ws2,rfl,hq2,rs2⟩:=ru.sqT
  exact⟨b,b2,rfl,⟨ws,hq⟩,⟨ws2,hq2⟩,post _ H1 μ1 e1 s1 (Km rv' ru' hz)⟩
 ·cases h
end
section
variable{X:Cx}{K:FA}{μ μ':Fp}{H H':Hp}{S S':ac}
def iQ:D->Option bD
 | .int i=>U (.inl i)
 | .str x=>U (.inr x)
 | _=>Y
theorem iG{d:D}{k:bD}(h:iQ d=U k)(r:Rep K μ H v d):v=kV k:=by
 cases d<;>first | cases h | skip
 ·rw[r.int_inv];rfl
 ·rw[r.str_inv];rfl
def eg(kvs:List (bD×D))(k:bD):Option D:=match kvs with
 | []=>Y
 | p::r=>if p.1=k then U p.2 else eg r k
def Gk(kvs:List (bD×D))(k:bD):Bool:=match kvs with
 | []=>false
 | p::r=>if p.1=k then true else Gk r k
def zd(kvs:List (bD×D))(k:bD)(d:D):List (bD×D):=match kvs with
 | []=>[]
 | p::r=>(if p.1=k then(p.1,d) else p)::zd r k d
def jR(kvs:List (bD×D))(k:bD)(d:D):List (bD×D):=if Gk kvs k then zd kvs k d else kvs++[(k,d)]
def bQ(kvs:List (bD×D)):List (bD×D)->List (bD×D)
 | []=>kvs
 | p::r=>bQ (jR kvs p.1 p.2) r
inductive KR(K:FA)(μ:Fp)(H:Hp):List (bD×V)->List (bD×D)->Prop
 | nil:KR K μ H [] []
 | cons {k:bD} {v:V} {d:D} {vs:List (bD×V)} {ds:List (bD×D)} (h:Rep K μ H v d) (t:KR K μ H vs ds):KR K μ H ((k,v)::vs) ((k,d)::ds)
theorem KR.keys:∀ {vs ds},KR K μ H vs ds->vs.map (·.1)=ds.map (·.1)
 | _,_,.nil=>rfl
 | _,_,.cons _ t=>by rw[WO,WO,KR.keys t]
theorem KR.reps:∀ {vs ds},KR K μ H vs ds->Reps K μ H (vs.map (·.2)) (ds.map (·.2))
 | _,_,.nil=>.nil
 | _,_,.cons h t=>.cons h (KR.reps t)
theorem KR.length:∀ {vs ds},KR K μ H vs ds->vs.length=ds.length
 | _,_,.nil=>rfl
 | _,_,.cons _ t=>by rw[WF,WF,KR.length t]
theorem KR.mono(e:Ext μ H μ' H'):∀ {vs ds},KR K μ H vs ds->KR K μ' H' vs ds
 | _,_,.nil=>.nil
 | _,_,.cons h t=>.cons (h.mono e) (KR.mono e t)
theorem KR.less{p:gV}{cs fb:List gV}:∀ {vs ds},KR K ⟨cs,p::fb⟩ H vs ds->KR K ⟨cs,fb⟩ H vs ds
 | _,_,.nil=>.nil
 | _,_,.cons h t=>.cons h.less (KR.less t)
theorem KR.chg{p:gV}(hp:p∈μ.fb):∀ {vs ds},KR K μ H vs ds->KR K μ (upd H p o) vs ds
 | _,_,.nil=>.nil
 | _,_,.cons h t=>.cons (h.chg hp) (KR.chg hp t)
theorem KR.of:∀ {kvs:List (bD×V)} {ks:List bD} {ds:List D},ks=kvs.map (·.1)->Reps K μ H (kvs.map (·.2)) ds->KR K μ H kvs (ks.zip ds)
 | [],_,_,e,r=>by subst e;cases r;exact .nil
 | p::q,_,_,e,r=>by
  subst e
  rw[WO] at r
  cases r with | cons h t=>exact .cons h (KR.of rfl t)
theorem KR.val{k:bD}:∀ {vs ds},KR K μ H vs ds->∀ {d},eg ds k=U d->∃ v,sA vs k=U v/\Rep K μ H v d
 | _,_,.nil,d,h=>by cases h
 | _,_,.cons (k:=k') h t,d,q=>by
  unfold eg at q
  split at q
  ·rename_i e;cases q;exact⟨_,yR e,h⟩
  ·rename_i e
   obtain⟨v,h1,h2⟩:=KR.val t q
   exact⟨v,(sy e).trans h1,h2⟩
theorem KR.valN{k:bD}:∀ {vs ds},KR K μ H vs ds->eg ds k=Y->sA vs k=Y
 | _,_,.nil,_=>rfl
 | _,_,.cons h t,q=>by
  unfold eg at q
  split at q
  ·cases q
  ·rename_i e;exact(sy e).trans (KR.valN t q)
theorem KR.has{k:bD}:∀ {vs ds},KR K μ H vs ds->(vs.any λkv=>decide (kv.1=k))=Gk ds k
 | _,_,.nil=>rfl
 | _,_,.cons (k:=k') h t=>by
  rw[Yz,KR.has t]
  unfold Gk
  by_cases e:k'=k
  ·simp[e]
  ·simp only[Xo e,aaS,WX e];cases t<;>rfl
theorem KR.setv{k:bD}{d:D}(r:Rep K μ H x d):∀ {vs ds},KR K μ H vs ds->KR K μ H (vs.map λkv=>if kv.1=k then(kv.1,x) else kv) (zd ds k d)
 | _,_,.nil=>.nil
 | _,_,.cons (k:=k') h t=>by
  rw[WO]
  unfold zd
  by_cases e:k'=k
  ·simp only[WN e];exact .cons r (KR.setv r t)
  ·simp only[WX e];exact .cons h (KR.setv r t)
theorem KR.snoc{k:bD}{d:D}(r:Rep K μ H x d):∀ {vs ds},KR K μ H vs ds->KR K μ H (vs++[(k,x)]) (ds++[(k,d)])
 | _,_,.nil=>.cons r .nil
 | _,_,.cons h t=>.cons h (KR.snoc r t)
theorem KR.put{k:bD}{d:D}{vs ds}(r:Rep K μ H x d)(t:KR K μ H vs ds):KR K μ H (kW vs k x) (jR ds k d):=by
 unfold kW jR
 rw[t.has]
 split
 ·exact t.setv r
 ·exact t.snoc r
theorem KR.merge:∀ {ws es vs ds},KR K μ H ws es->KR K μ H vs ds->KR K μ H (kZ vs ws) (bQ ds es)
 | _,_,_,_,.nil,t=>t
 | _,_,vs,ds,.cons (k:=k) (v:=v) (d:=d) h q,t=>by
  have:=KR.merge q (t.put (k:=k) h)
  exact this
noncomputable abbrev MP:=ax->ac->Option (List (bD×D)×ac)
def jq:List (ME×ME)->MP
 | []=>λ_ S=>U ([],S)
 | (a,b)::r=>λenv S=>(a env S).bind λp=>(iQ p.1).bind λk=>(b env p.2).bind λq=>(jq r env q.2).bind λz=>U ((k,q.1)::z.1,z.2)
def DPs(X:Cx)(pos:Pos)(keys:List (Option pc))(values:List pc)(ms:List (ME×ME)):Prop:=PPs X pos keys values (ms.map λp=>(tM X.K p.1,tM X.K p.2))
theorem Qa:DPs X pos [] [] []:=NT
theorem LN{k:pc}(hk:DE X k mk)(hv:DE X v mv)(hr:DPs X pos ks vs ms):DPs X pos (U k::ks) (v::vs) ((mk,mv)::ms):=IS hk hv hr
theorem pD:∀ {ms:List (ME×ME)} {μ:Fp} {H:Hp} {S S':ac} {kvs:List (bD×D)} {Q:List (V×V)->Hp->Prop},SOk K μ S H->EOk K μ H σ env->jq ms env S=U (kvs,S') ->
  (∀ vs H' μ',Ext μ H μ' H'->SOk K μ' S' H'->KR K μ' H' vs kvs->Q (vs.map λkv=>(kV kv.1,kv.2)) H')->xj (ms.map λp=>(tM K p.1,tM K p.2)) σ H Q
 | [],μ,H,S,S',kvs,Q,s,e,h,q=>by cases h;exact q [] H μ s.ext s .nil
 | (a,b)::r,μ,H,S,S',kvs,Q,s,e,h,q=>by
  obtain⟨⟨x,S1⟩,h1,h⟩:=Ww.mp h
  obtain⟨k,h2,h⟩:=Ww.mp h
  obtain⟨⟨y,S2⟩,h3,h⟩:=Ww.mp h
  obtain⟨⟨zs,S3⟩,h4,h⟩:=Ww.mp h
  cases h
  refine⟨μ,S,env,x,S1,s,e,h1,λv H1 μ1 e1 s1 r1=>⟨μ1,S1,env,y,S2,s1,e.mono e1,h3,λw H2 μ2 e2 s2 r2=>pD s2 ((e.mono e1).mono e2) h4 λvs H3 μ3 e3 s3 r3=>?_⟩⟩
  have:=q ((k,w)::vs) H3 μ3 ((e1.trans e2).trans e3) s3 (.cons (r2.mono e3) r3)
  rw[WO] at this
  rw[iG h2 r1]
  exact this
theorem Ext.shut{cs fb:List gV}(hp:H p=Y)(hn:p∉fb)(e:Ext ⟨cs,p::fb⟩ (upd H p o) μ2 H2)(s:SOk K μ2 S2 H2) :
  Ext ⟨cs,fb⟩ H ⟨μ2.cs,fb⟩ (upd H2 p o')/\SOk K ⟨μ2.cs,fb⟩ S2 (upd H2 p o')/\(⟨μ2.cs,fb⟩:Fp).no p/\(∀ vs ds,KR K μ2 H2 vs ds->KR K ⟨μ2.cs,fb⟩ (upd H2 p o') vs ds)/\H2 p=U o:=by
 have pm:p∈μ2.fb:=by rw[e.fb];exact WE
 have ncs:p∉μ2.cs:=s.disj p pm
 have ncs0:p∉cs:=λz=>ncs (by obtain⟨l,q,_⟩:=e.pre;rw[q];exact XA _ z)
 have ef:μ2=⟨μ2.cs,p::fb⟩:=by have:=e.fb;obtain⟨a,b⟩:=μ2;simp only at this;rw[this]
 refine⟨⟨rfl,?_,λa o2 na ha=>?_,λa ha=>?_⟩,?_,⟨ncs,?_⟩,λvs ds r=>?_,e.keep p o ncs0 aB⟩
 ·obtain⟨l,q,hl⟩:=e.pre
  refine⟨l,q,λa ha=>?_⟩
  have:=hl a ha
  by_cases z:a=p
  ·subst z;exact hp
  ·rwa[aA z] at this
 ·have z:=bG ha hp
  rw[aA z]
  exact e.keep a o2 na ((aA z).trans ha)
 ·have z:a≠p:=λz=>ncs (z ▸ ha)
  rw[aA z];exact e.dom a ha
 ·have:=(s.chg (o:=o') pm)
  rw[ef] at this
  exact this.less
 ·exact hn
 ·have:=r.chg (o:=o') pm
  rw[ef] at this
  exact this.less
def jj(ms:List (ME×ME)):ME:=λenv S=>(jq ms env S).bind λz=>if z.1.length<=15 then U (.dct ((bQ [] z.1).map (·.1)) ((bQ [] z.1).map (·.2)),z.2) else Y
theorem Qt{keys:List (Option pc)}(h:DPs X pos keys values ms)(hall:keys.all (·.isSome)=true)(hl:keys.length=values.length)(h0:keys≠[])(h15:keys.length<=15) :
  DE X (.Dict keys values pos) (jj ms):=PE.imp (DB h hall hl h0 h15) λσ H Q z0=>by
 obtain⟨μ,S,env,d,S',hS,hE,hm,post⟩:=z0
 obtain⟨⟨kvs,S1⟩,h1,hm⟩:=Ww.mp hm
 dsimp only at hm
 split at hm
 ·rename_i hl
  cases hm
  intro p hp
  obtain⟨cs,fb⟩:=μ
  refine pD (hS.more hp) (hE.more hp) h1 λvs H2 μ2 e2 s2 r2=>?_
  obtain⟨eF,sF,nF,rF,hF⟩:=Ext.shut (o':=.dK (kZ [] vs)) hp (hS.notMem hp).2 e2 s2
  refine⟨hF,vs,rfl,by rw[r2.length];exact hl,post _ _ _ eF sF ?_⟩
  have rr:=(rF _ _ r2).merge KR.nil
  have:=Rep.dct (K:=X.K) (aB (H:=H2) (o:=.dK (kZ [] vs))) nF rr.reps
  rw[rr.keys] at this
  exact this
 ·cases hm
def yV(S:ac):D->Option (List (bD×D))
 | .dct ks vs=>U (ks.zip vs)
 | .ref r=>match S[r]? with | some (.dct ks vs)=>U (ks.zip vs) | _=>Y
 | _=>Y
theorem Du{d:D}{kvs:List (bD×D)}(s:SOk K μ S H)(r:Rep K μ H v d)(h:yV S d=U kvs):∃ a vs,v=.ref a/\H a=U (.dK vs)/\KR K μ H vs kvs:=by
 cases r with
 | dct hd n rr=>cases h;exact⟨_,_,rfl,hd,KR.of rfl rr⟩
 | ref hr=>
  rename_i a i
  unfold yV at h
  dsimp only at h
  cases q:S[i]? with
  | none=>rw[q] at h;cases h
  | some c=>
   rw[q] at h
   have ck:=s.cell _ _ _ hr q
   cases c with
   | lst _=>cases h
   | dct ks xs=>cases h;obtain⟨vs,e,hk,rr⟩:=ck;exact⟨a,vs,rfl,e,KR.of hk rr⟩
   | deep _ _=>cases h
 | _=>cases h
def bz(S:ac)(x y:D):Option D:=match yV S x with
 | some kvs=>(iQ y).bind λk=>eg kvs k
 | none=>fIx S x y
theorem Pc(hu:X.A.units+1<cLine):IxR X (λx y H Q=>∃ a v,x=.ref a/\DGet H a y (U v)/\Q v H):=by
 intro value slice pins s σ H x y v u Q I rx ry h hs
 obtain⟨a,z,rfl,g,q⟩:=h
 cases rx
 exact aaK (AT I g) F.slot_dict_getitem.lookup (GU hu I g ry λw' s' I' rw'=>⟨z,H,I',rw',q⟩) hs
theorem RI(hu:X.A.units+1<cLine):IxR X (kn X.K bz):=IxR.imp ((Pc hu).or ix_D) λx y H Q z0=>by
 obtain⟨μ,S,dx,dy,dz,hS,h1,h2,h3,post⟩:=z0
 unfold bz at h3
 split at h3
 ·rename_i kvs hk
  obtain⟨k,h4,h5⟩:=Ww.mp h3
  obtain⟨a,vs,rfl,ha,rr⟩:=Du hS h1 hk
  obtain⟨v,h6,h7⟩:=rr.val h5
  refine .inl ⟨a,v,rfl,?_,post.here hS h7⟩
  rw[iG h4 h2,<- h6]
  exact DGet.k ha
 ·exact .inr ⟨μ,S,dx,dy,dz,hS,h1,h2,h3,post⟩
theorem VU{mb:ME}(hu:X.A.units+1<cLine)(ha:DE X a ma)(hb:DE X b mb)(hs:yG b:=by intro _ _;rfl):DE X (.Subscript a b pos) (az bz ma mb):=
 PE.imp (Ro (RI hu) ha hb hs) λ_ _ _ h=>sC h
end
end M
namespace L2
section
variable{X:Cx}{o e:pc}{es:List pc}{to:TE}{t:TA}{name:Str}{apos cpos:Pos}{id:String}{r:V->List V->Hp->VK->Prop}
def tBD(r:V->List V->Hp->VK->Prop)(to:TE)(t:TA):TE:=λσ H Q=>to σ H λx H1=>(∃ p,x=.ref p/\IsD H1 p)/\t σ H1 λxs H2=>r x xs H2 Q
theorem Tx(slot:Slot "dict" name id)(hty:typeOf (.builtin id)=pure (.type "method_descriptor"))(hm:MtR X id r)(ho:PE X o to)(ha:PA X (e::es) t)
  (hbase:attributeBase o name X.env (eval o X.env)=eval o X.env)
  (hfew:((backTo cpos (zH (e::es) X.env)).all (λx=>!x.1)&&(backToKw cpos (keywordEach [] X.env)).all (λx=>x.1.isSome)&&decide ((e::es).length+([]:List Keyword).length+(if ([]:List Keyword).isEmpty then 0 else 1)<30))=true)
  (hline:(apos.endLine==cpos.line)=true) (hs:zH (e::es) X.env=(false,eval e X.env)::zH es X.env) (hplain:(backTo cpos (zH es X.env)).any (·.1)=false) :
  PE X (.Call (.Attribute o name apos) (e::es) [] cpos) (tBD r to t):=by
 intro pins s σ H Q I h
 refine aaU hbase hfew hline rfl (cz (ho pins s σ H _ I h) λv s1 ⟨x,H1,I1,r1,ty,q1⟩=>?_)
 obtain⟨p,rfl,hq⟩:=ty
 cases r1
 obtain⟨t1,t2,_⟩:=Vg I1 hq
 refine⟨"dict",id,F.plainAttrs_dict,slot,hty,t1,t2,?_⟩
 have hA:=ha cpos pins s1 σ H1 _ I1 q1
 rw[hs] at hA ⊢
 refine Zp (by show(false||(backTo cpos (zH es X.env)).any (·.1))=false;rw[hplain]<;>rfl) (ZA ?_)
 exact cz hA λus s2 ⟨vs,H2,I2,r2,q2⟩=>hm pins s2 σ H2 (V.ref p) vs _ us Q I2 (show RelV (V.ref p) (Value.ref p) from rfl) r2 q2
theorem OE(hu:X.A.units+1<cLine):MtR X "dict.get" (λx xs H Q=>∃ a y o,x=.ref a/\DGet H a y o/\((xs=[y]/\Q (o.getD .non) H)\/∃ d,xs=[y,d]/\Q (o.getD d) H)):=by
 intro pins s σ H x xs v us Q I rx rv h
 obtain⟨a,y,o,rfl,g,h⟩:=h
 cases rx
 rcases h with ⟨rfl,q⟩ | ⟨d,rfl,q⟩
 ·obtain⟨u,rfl,ru⟩:=rv.one
  exact Wc hu I g ru λw' s3 I3 rw'=>⟨_,H,I3,rw',q⟩
 ·obtain⟨u,u2,rfl,ru,ru2⟩:=rv.two
  exact Wb hu I g ru ru2 λw' s4 I4 rw'=>⟨_,H,I4,rw',q⟩
end
end L2
namespace M
open L2
section
variable{X:Cx}{K:FA}{μ μ':Fp}{H H':Hp}{S S':ac}
theorem SOk.writeD{S:ac}(s:SOk K μ S H){i:Nat}{a:gV}{kvs':List (bD×V)}{ks:List bD}(hi:μ.cs[i]?=U a)(h:H a=U (.dK kvs))(hk:ks=kvs'.map (·.1))(r:Reps K μ H (kvs'.map (·.2)) ds) :
  Ext μ H μ (upd H a (.dK kvs'))/\SOk K μ (S.set i (.dct ks ds)) (upd H a (.dK kvs')):=by
 have ha:=Xw hi
 have e:Ext μ H μ (upd H a (.dK kvs')):=⟨rfl,⟨[],by simp,λ_ z=>by simp at z⟩,λb o' n q=>by rw[aA (by rintro rfl;exact n ha)];exact q,λb hb=>by
  by_cases z:b=a
  ·subst z;rw[aB];simp
  ·rw[aA z];exact s.dom b hb⟩
 refine⟨e,s.nd,by simp[s.len],λj b c h1 h2=>?_,λb hb=>?_,s.disj⟩
 case refine_2=>
  by_cases z:b=a
  ·subst z;rw[aB];simp
  ·rw[aA z];exact s.fdom b hb
 by_cases hj:j=i
 ·subst hj
  rw[hi] at h1;cases h1
  have hl:j<S.length:=by rw[<- s.len];exact(WC.mp hi).1
  rw[Xv hl] at h2
  cases h2
  exact⟨kvs',aB,hk,r.mono e⟩
 ·rw[Xl (Ne.symm hj)] at h2
  refine(s.cell j b c h1 h2).mono e (aA λz=>hj ?_)
  subst z
  exact DV s.nd h1 hi
theorem zw{p:gV}{cs fb:List gV}(n:(⟨cs,p::fb⟩:Fp).no a):(⟨cs++[p],fb⟩:Fp).no a:=
 ⟨λz=>(Xb.mp z).elim n.1 λz=>n.2 (by rw[Xc.mp z];exact WE),λz=>n.2 (WB _ z)⟩
theorem Rep.adopt{p:gV}{cs fb:List gV}{d:D}(r:Rep K ⟨cs,p::fb⟩ H v d):Rep K ⟨cs++[p],fb⟩ H v d:=r.imp (λh n=>⟨h,zw n⟩) λh=>yE rfl h
theorem Reps.adopt{p:gV}{cs fb:List gV}{d:List D}(r:Reps K ⟨cs,p::fb⟩ H v d):Reps K ⟨cs++[p],fb⟩ H v d:=r.imp (λh n=>⟨h,zw n⟩) λh=>yE rfl h
theorem KR.adopt{p:gV}{cs fb:List gV}:∀ {vs ds},KR K ⟨cs,p::fb⟩ H vs ds->KR K ⟨cs++[p],fb⟩ H vs ds
 | _,_,.nil=>.nil
 | _,_,.cons h t=>.cons h.adopt (KR.adopt t)
theorem Ext.shutR{cs fb:List gV}(hp:H p=Y)(hn:p∉fb)(e:Ext ⟨cs,p::fb⟩ (upd H p o) μ2 H2)(s:SOk K μ2 S2 H2)(r:KR K μ2 H2 vs kvs) :
  Ext ⟨cs,fb⟩ H ⟨μ2.cs++[p],fb⟩ (upd H2 p (.dK vs))/\SOk K ⟨μ2.cs++[p],fb⟩ (S2++[.dct (kvs.map (·.1)) (kvs.map (·.2))]) (upd H2 p (.dK vs))/\H2 p=U o:=by
 have pm:p∈μ2.fb:=by rw[e.fb];exact WE
 have ncs:p∉μ2.cs:=s.disj p pm
 have ncs0:p∉cs:=λz=>ncs (by obtain⟨l,q,_⟩:=e.pre;rw[q];exact XA _ z)
 have ef:μ2.fb=p::fb:=e.fb
 obtain⟨cs2,fb2⟩:=μ2
 simp only at ef pm ncs
 subst ef
 refine⟨⟨rfl,?_,λa o2 na ha=>?_,λa ha=>?_⟩,⟨?_,by simp[s.len],λi a c h1 h2=>?_,λa ha=>?_,λa ha z=>?_⟩,e.keep p o ncs0 aB⟩
 ·obtain⟨l,q,hl⟩:=e.pre
  simp only at q
  refine⟨l++[p],by rw[q,XQ],λa ha=>?_⟩
  rcases Xb.mp ha with ha | ha
  ·have:=hl a ha
   by_cases z:a=p
   ·subst z;exact hp
   ·rwa[aA z] at this
  ·rw[Xc.mp ha];exact hp
 ·have z:=bG ha hp
  rw[aA z]
  exact e.keep a o2 na ((aA z).trans ha)
 ·by_cases z:a=p
  ·subst z;rw[aB];simp
  ·rw[aA z]
   rcases Xb.mp ha with ha | ha
   ·exact e.dom a ha
   ·exact absurd (Xc.mp ha) z
 ·exact XT.mpr ⟨s.nd,by simp,λa ha b hb=>by rw[Xc.mp hb];exact λz=>ncs (z ▸ ha)⟩
 ·have sc:=s.chg (o:=.dK vs) pm
  by_cases hi:i<cs2.length
  ·rw[WS hi] at h1
   rw[WS (by rw[<- s.len];exact hi)] at h2
   have ck:=sc.cell i a c h1 h2
   cases c with
   | lst ds=>obtain⟨ws,h,r⟩:=ck;exact⟨ws,h,r.adopt⟩
   | dct ks ds=>obtain⟨ws,h,q,r⟩:=ck;exact⟨ws,h,q,r.adopt⟩
   | deep ks ds=>obtain⟨ws,h,q,r,r'⟩:=ck;exact⟨ws,h,q,r.adopt,r'.adopt⟩
  ·have hi':i=cs2.length:=by
    have:=(WC.mp h1).1
    simp at this;omega
   subst hi'
   rw[XJ (WH _)] at h1
   rw[show cs2.length=S2.length from s.len,XJ (WH _)] at h2
   simp at h1 h2
   subst h1 h2
   have rc:=(r.chg (o:=.dK vs) pm).adopt
   exact⟨vs,aB,rc.keys.symm,rc.reps⟩
 ·by_cases z:a=p
  ·subst z;rw[aB];simp
  ·rw[aA z];exact s.fdom a (WB _ ha)
 ·rcases Xb.mp z with z | z
  ·exact s.disj a (WB _ ha) z
  ·exact hn (Xc.mp z ▸ ha)
def ei(ms:List (ME×ME)):ME:=λenv S=>(jq ms env S).bind λz=>if z.1.length<=15 then U (.ref z.2.length,z.2++[.dct ((bQ [] z.1).map (·.1)) ((bQ [] z.1).map (·.2))]) else Y
theorem Mi{keys:List (Option pc)}(h:DPs X pos keys values ms)(hall:keys.all (·.isSome)=true)(hl:keys.length=values.length)(h0:keys≠[])(h15:keys.length<=15) :
  DE X (.Dict keys values pos) (ei ms):=PE.imp (DB h hall hl h0 h15) λσ H Q z0=>by
 obtain⟨μ,S,env,d,S',hS,hE,hm,post⟩:=z0
 obtain⟨⟨kvs,S1⟩,h1,hm⟩:=Ww.mp hm
 dsimp only at hm
 split at hm
 ·rename_i hl
  cases hm
  intro p hp
  obtain⟨cs,fb⟩:=μ
  refine pD (hS.more hp) (hE.more hp) h1 λvs H2 μ2 e2 s2 r2=>?_
  obtain⟨eF,sF,hF⟩:=Ext.shutR hp (hS.notMem hp).2 e2 s2 (r2.merge KR.nil)
  exact⟨hF,vs,rfl,by rw[r2.length];exact hl,post _ _ _ eF sF (.ref (by rw[<- s2.len];simp))⟩
 ·cases hm
def Mn(S:ac):D->Bool
 | .dct _ _=>true
 | .ref r=>match S[r]? with | some (.dct _ _)=>true | _=>false
 | _=>false
theorem Qx{d:D}(s:SOk K μ S H)(r:Rep K μ H v d)(h:Mn S d=true):∃ a,v=.ref a/\IsD H a:=by
 cases r with
 | dct hd n rr=>exact⟨_,rfl,.inl ⟨_,.inl hd⟩⟩
 | ref hr=>
  rename_i a i
  unfold Mn at h
  dsimp only at h
  cases q:S[i]? with
  | none=>rw[q] at h;cases h
  | some c=>
   rw[q] at h
   have ck:=s.cell _ _ _ hr q
   cases c with
   | lst _=>cases h
   | dct ks xs=>obtain⟨vs,e,hk,rr⟩:=ck;exact⟨a,rfl,.inl ⟨_,.inl e⟩⟩
   | deep _ _=>cases h
 | _=>cases h
def lC:MF:=λo ds S=>(yV S o).bind λkvs=>match ds with
 | [y]=>(iQ y).bind λk=>U ((eg kvs k).getD .non,S)
 | [y,d]=>(iQ y).bind λk=>U ((eg kvs k).getD d,S)
 | _=>Y
theorem KR.getD{k:bD}{vs ds}(t:KR K μ H vs ds)(r:Rep K μ H z e):Rep K μ H ((sA vs k).getD z) ((eg ds k).getD e):=by
 cases q:eg ds k with
 | none=>rw[t.valN q];exact r
 | some d=>obtain⟨v,h1,h2⟩:=t.val q;rw[h1];exact h2
theorem OG(hu:X.A.units+1<cLine):MtR X "dict.get" (ND X.K lC):=MtR.imp (OE hu) λx vs H Q z0=>by
 obtain⟨μ,S,dx,ds,d,S',hS,r1,r2,h,post⟩:=z0
 obtain⟨kvs,hk,h⟩:=Ww.mp h
 obtain⟨a,ws,rfl,ha,rr⟩:=Du hS r1 hk
 split at h
 ·rename_i y
  obtain⟨k,h4,h5⟩:=Ww.mp h
  cases h5
  obtain⟨v,rfl,rv⟩:=r2.one
  have:=iG h4 rv
  subst this
  exact⟨a,_,_,rfl,DGet.k ha,.inl ⟨rfl,post.here hS (rr.getD .non)⟩⟩
 ·rename_i y e
  obtain⟨k,h4,h5⟩:=Ww.mp h
  cases h5
  obtain⟨v,w,rfl,rv,rw0⟩:=r2.two
  have:=iG h4 rv
  subst this
  exact⟨a,_,_,rfl,DGet.k ha,.inr ⟨w,rfl,post.here hS (rr.getD rw0)⟩⟩
 ·cases h
def dH(f:MF)(o:ME)(ms:MA):ME:=λenv S=>(o env S).bind λp=>if Mn p.2 p.1=true then(ms env p.2).bind λq=>f p.1 q.1 q.2 else Y
theorem Mg{e:pc}{es:List pc}{name:Str}{id:String}{apos:Pos}(slot:Slot "dict" name id)(hty:typeOf (.builtin id)=pure (.type "method_descriptor"))(hm:MtR X id (ND X.K f))(ho:DE X o mo)(ha:DA X (e::es) ms)
  (hbase:attributeBase o name X.env (eval o X.env)=eval o X.env)
  (hfew:((backTo cpos (zH (e::es) X.env)).all (λx=>!x.1)&&(backToKw cpos (keywordEach [] X.env)).all (λx=>x.1.isSome)&&decide ((e::es).length+([]:List Keyword).length+(if ([]:List Keyword).isEmpty then 0 else 1)<30))=true)
  (hline:(apos.endLine==cpos.line)=true) (hs:zH (e::es) X.env=(false,eval e X.env)::zH es X.env) (hpl:(backTo cpos (zH es X.env)).any (·.1)=false) :
  DE X (.Call (.Attribute o name apos) (e::es) [] cpos) (dH f mo ms):=
 PE.imp (Tx slot hty hm ho ha hbase hfew hline hs hpl) λσ H Q z0=>by
  obtain⟨μ,S,env,d,S',hS,hE,h,post⟩:=z0
  obtain⟨⟨x,S1⟩,h1,h⟩:=Ww.mp h
  dsimp only at h
  split at h
  ·rename_i hl
   obtain⟨⟨xs,S2⟩,h2,h⟩:=Ww.mp h
   refine⟨μ,S,env,x,S1,hS,hE,h1,λv H1 μ1 e1 s1 r1=>⟨?_,μ1,S1,env,xs,S2,s1,hE.mono e1,h2,λvs H2 μ2 e2 s2 r2=>⟨μ2,S2,x,xs,d,S',s2,r1.mono e2,r2,h,(post.ext e1).ext e2⟩⟩⟩
   exact Qx s1 r1 hl
  ·cases h
end
end M
namespace L2
section
variable{X:Cx}{a b:pc}{rest:List pc}{ta tb:TE}{pos:Pos}
def tAndX(K:FA)(ta tb:TE):TE:=λσ H Q=>ta σ H λx H1=>∃ c,Hq K x H1 c/\if c=true then tb σ H1 Q else Q x H1
def tOrX(K:FA)(ta tb:TE):TE:=λσ H Q=>ta σ H λx H1=>∃ c,Hq K x H1 c/\if c=true then Q x H1 else tb σ H1 Q
def tNotX(K:FA)(ta:TE):TE:=λσ H Q=>ta σ H λx H1=>∃ c,Hq K x H1 c/\Q (.bl (!c)) H1
theorem Oh(ha:PE X a ta)(hb:PE X (.BoolOp .And (b::rest) pos) tb):PE X (.BoolOp .And (a::b::rest) pos) (tAndX X.K ta tb):=by
 intro pins s σ H Q I h
 refine BoolOp_and (cz (ha pins s σ H _ I h) λv s1 ⟨x,H1,I1,r1,q1⟩=>?_)
 obtain⟨c,tv,q1⟩:=q1
 refine cz (xa pins s1 σ H1 x v (λk H'=>k=c/\H'=H1) I1 r1 ⟨c,tv,rfl,rfl⟩) λk s2 z=>?_
 obtain⟨H2,I2,rfl,rfl⟩:=z
 cases k with
 | true=>exact hb pins s2 σ H2 Q I2 q1
 | false=>exact⟨x,H2,I2,r1,q1⟩
theorem Ts(ha:PE X a ta)(hb:PE X (.BoolOp .Or (b::rest) pos) tb):PE X (.BoolOp .Or (a::b::rest) pos) (tOrX X.K ta tb):=by
 intro pins s σ H Q I h
 refine BoolOp_or (cz (ha pins s σ H _ I h) λv s1 ⟨x,H1,I1,r1,q1⟩=>?_)
 obtain⟨c,tv,q1⟩:=q1
 refine cz (xa pins s1 σ H1 x v (λk H'=>k=c/\H'=H1) I1 r1 ⟨c,tv,rfl,rfl⟩) λk s2 z=>?_
 obtain⟨H2,I2,rfl,rfl⟩:=z
 cases k with
 | false=>exact hb pins s2 σ H2 Q I2 q1
 | true=>exact⟨x,H2,I2,r1,q1⟩
theorem Oc(ha:PE X a ta):PE X (.UnaryOp .Not a pos) (tNotX X.K ta):=by
 intro pins s σ H Q I h
 refine UnaryOp_ (cz (ha pins s σ H _ I h) λv s1 ⟨x,H1,I1,r1,q1⟩=>?_)
 obtain⟨c,tv,q1⟩:=q1
 refine not_of (cz (xa pins s1 σ H1 x v (λk H'=>k=c/\H'=H1) I1 r1 ⟨c,tv,rfl,rfl⟩) λk s2 z=>?_)
 obtain⟨H2,I2,rfl,rfl⟩:=z
 exact⟨.bl (!k),H2,I2,rfl,q1⟩
end
end L2
namespace M
open L2
section
variable{X:Cx}{K:FA}{μ μ':Fp}{H H':Hp}{S S':ac}{a b:pc}{ma mb:ME}{rest:List pc}{pos:Pos}
def JL(a b:ME):ME:=λenv S=>(a env S).bind λp=>(sB p.2 p.1).bind λk=>if k=true then b env p.2 else U (p.1,p.2)
def Ud(a b:ME):ME:=λenv S=>(a env S).bind λp=>(sB p.2 p.1).bind λk=>if k=true then U (p.1,p.2) else b env p.2
def JD(a:ME):ME:=λenv S=>(a env S).bind λp=>(sB p.2 p.1).bind λk=>U (.bl (!k),p.2)
theorem Qw(ha:DE X a ma)(hb:DE X (.BoolOp .And (b::rest) pos) mb):DE X (.BoolOp .And (a::b::rest) pos) (JL ma mb):=PE.imp (Oh ha hb) λσ H Q z0=>by
 obtain⟨μ,S,env,d,S',hS,hE,hm,post⟩:=z0
 obtain⟨⟨x,S1⟩,h1,hm⟩:=Ww.mp hm
 obtain⟨k,h2,hm⟩:=Ww.mp hm
 refine⟨μ,S,env,x,S1,hS,hE,h1,λv H1 μ1 e1 s1 r1=>⟨k,rS s1 r1 h2,?_⟩⟩
 cases k with
 | true=>rw[WN rfl];exact⟨μ1,S1,env,d,S',s1,hE.mono e1,hm,post.ext e1⟩
 | false=>cases hm;rw[WX WJ];exact post _ H1 μ1 e1 s1 r1
theorem VR(ha:DE X a ma)(hb:DE X (.BoolOp .Or (b::rest) pos) mb):DE X (.BoolOp .Or (a::b::rest) pos) (Ud ma mb):=PE.imp (Ts ha hb) λσ H Q z0=>by
 obtain⟨μ,S,env,d,S',hS,hE,hm,post⟩:=z0
 obtain⟨⟨x,S1⟩,h1,hm⟩:=Ww.mp hm
 obtain⟨k,h2,hm⟩:=Ww.mp hm
 refine⟨μ,S,env,x,S1,hS,hE,h1,λv H1 μ1 e1 s1 r1=>⟨k,rS s1 r1 h2,?_⟩⟩
 cases k with
 | false=>rw[WX WJ];exact⟨μ1,S1,env,d,S',s1,hE.mono e1,hm,post.ext e1⟩
 | true=>cases hm;rw[WN rfl];exact post _ H1 μ1 e1 s1 r1
theorem Qm(ha:DE X a ma):DE X (.UnaryOp .Not a pos) (JD ma):=PE.imp (Oc ha) λσ H Q z0=>by
 obtain⟨μ,S,env,d,S',hS,hE,hm,post⟩:=z0
 obtain⟨⟨x,S1⟩,h1,hm⟩:=Ww.mp hm
 obtain⟨k,h2,hm⟩:=Ww.mp hm
 cases hm
 exact⟨μ,S,env,x,_,hS,hE,h1,λv H1 μ1 e1 s1 r1=>⟨k,rS s1 r1 h2,post _ H1 μ1 e1 s1 (.bl _)⟩⟩
end
section
variable{X:Cx}{K:FA}{μ μ':Fp}{H H':Hp}{S S':ac}{tg iter:pc}{pos:Pos}
def fE(g:MG)(body:MS)(r:Nat):Nat->Nat->ax->ac->Option qA
 | 0,_,_,_=>Y
 | f+1,i,env,S=>match S[r]? with
  | some (.lst xs)=>match xs[i]? with
   | none=>U (.nx env S)
   | some d=>(g d env S).bind λp=>(body p.1 p.2).bind λo=>match o with
    | .nx e s=>fE g body r f (i+1) e s
    | .ct e s=>fE g body r f (i+1) e s
    | .bk e s=>U (.nx e s)
    | .rt d s=>U (.rt d s)
  | _=>Y
def dM(m:ME)(g:MG)(body:MS):MS:=λenv S=>(m env S).bind λp=>match p.1 with
 | .ref r=>fE g body r 2000 0 env p.2
 | .lst xs=>cE g body xs env p.2
 | .rol xs=>cE g body xs env p.2
 | .tup xs=>cE g body xs env p.2
 | _=>Y
def mForX(m:ME)(g:MG)(body:MS):MS:=λenv S=>(m env S).bind λp=>match p.1 with
 | .ref r=>fE g body r 2000 0 env p.2
 | _=>Y
theorem PX{g:MG}{mb:MS}(hp:PassesOwn (model X.prog X.w) X.A X.env X.xe)(hc:X.calm=true)(hi:DE X iter mi)(hg:DG X tg g)(hb:yK X body mb)
  (hs:∀ x,zI iter X.env x=pure x):DS X (.For tg iter body [] pos) (mForX mi g mb):=PS.imp (IQ hp hc (NW hi) hg hb hs) λE σ H z0=>by
 obtain⟨μ,S,env,o,hS,hE,hm,post⟩:=z0
 obtain⟨⟨d,S1⟩,h1,hm⟩:=Ww.mp hm
 dsimp only at hm
 split at hm
 ·rename_i r
  refine⟨μ,S,env,_,S1,hS,hE,h1,λv H1 μ1 e1 s1 r1=>?_⟩
  cases r1 with
  | @ref a _ ha=>
   have cell:∀ {μ' H' S' xs},Ext μ1 H1 μ' H'->SOk X.K μ' S' H'->S'[r]?=U (.lst xs)->∃ vs,H' a=U (.lst vs)/\Reps X.K μ' H' vs xs:=λ{μ' H' S' xs} e s q=>by
    obtain⟨l,ql,_⟩:=e.pre
    have ha':μ'.cs[r]?=U a:=by rw[ql,WS (WC.mp ha).1];exact ha
    exact s.cell r a _ ha' q
   have hq0:∃ vs,kK X.K H1 a vs:=by
    unfold fE at hm
    split at hm
    ·rename_i xs q
     obtain⟨vs,hv,_⟩:=cell s1.ext s1 q
     exact⟨vs,.inl (.inl hv)⟩
    ·cases hm
   refine⟨a,rfl,hq0,?_⟩
   refine⟨λi n σ H=>∃ μ' S' env' o',Ext μ1 H1 μ' H/\SOk X.K μ' S' H/\EOk X.K μ' H σ env'/\fE g mb r n i env' S'=U o'/\PostS X.K μ' H o' E,
    ⟨2000,μ1,S1,env,o,s1.ext,s1,hE.mono e1,hm,post.ext e1⟩,?_⟩
   rintro i n σ' H' ⟨μ',S',env',o',e',s',r',hl,post'⟩
   cases n with
   | zero=>cases hl
   | succ n=>
    unfold fE at hl
    split at hl
    ·rename_i xs q
     obtain⟨vs,hv,rv⟩:=cell e' s' q
     have hsq:kK X.K H' a vs:=.inl (.inl hv)
     split at hl
     ·rename_i hx
      cases hl
      refine .inl ⟨⟨vs,hsq,?_⟩,post' σ' H' μ' s'.ext s' r'⟩
      rw[rv.length];simpa using hx
     ·rename_i d hx
      obtain⟨w,hw,rw0⟩:=rv.get hx
      refine .inr ⟨⟨vs,w,hsq,hw⟩,λσ2 H2=>∃ μ2 S2 env2 o2,Ext μ1 H1 μ2 H2/\SOk X.K μ2 S2 H2/\EOk X.K μ2 H2 σ2 env2/\fE g mb r n (i+1) env2 S2=U o2/\PostS X.K μ2 H2 o2 E,
       λσ2 H2 ⟨μ2,S2,env2,o2,q1,q2,q3,q4,q5⟩=>⟨n,by omega,μ2,S2,env2,o2,q1,q2,q3,q4,q5⟩,λx H2 y=>?_⟩
      obtain⟨e2,hy⟩:=y
      subst e2
      have ex:x=w:=by have:=hy vs hsq;rw[hw] at this;exact(Xp this).symm
      subst ex
      obtain⟨⟨env3,S3⟩,h3,hl⟩:=Ww.mp hl
      obtain⟨o4,h4,hl⟩:=Ww.mp hl
      refine⟨μ',S',env',d,env3,S3,s',r',rw0,h3,λσ3 H3 μ3 e3 s3 r3=>⟨μ3,S3,env3,o4,s3,r3,h4,?_⟩⟩
      have eT:Ext μ1 H1 μ3 H3:=e'.trans e3
      have pT:PostS X.K μ3 H3 o' E:=post'.ext e3
      cases o4 with
      | nx e5 s5=>exact λσ6 H6 μ6 e6 s6 r6=>⟨μ6,s5,e5,o',eT.trans e6,s6,r6,hl,pT.ext e6⟩
      | ct e5 s5=>exact λσ6 H6 μ6 e6 s6 r6=>⟨μ6,s5,e5,o',eT.trans e6,s6,r6,hl,pT.ext e6⟩
      | bk e5 s5=>cases hl;exact pT
      | rt d5 s5=>cases hl;exact pT
    ·cases hl
 ·cases hm
theorem PY{g:MG}{mb:MS}(hp:PassesOwn (model X.prog X.w) X.A X.env X.xe)(hc:X.calm=true)(hi:DE X iter mi)(hg:DG X tg g)(hb:yK X body mb)
  (hs:∀ x,zI iter X.env x=pure x):DS X (.For tg iter body [] pos) (dM mi g mb):=by
 have hA:=PX (pos:=pos) hp hc hi hg hb hs
 have hB:=LI (pos:=pos) hp hc (CY (tg:=tg) hi) hg hb hs
 intro pins s σ H E I ⟨μ,S,env,o,hS,hE,h,post⟩
 obtain⟨⟨x,S1⟩,h1,h⟩:=Ww.mp h
 cases x with
 | ref r=>exact hA pins s σ H E I ⟨μ,S,env,o,hS,hE,by show(mi env S).bind _=_;rw[h1];exact h,post⟩
 | lst xs=>exact hB pins s σ H E I ⟨μ,S,env,o,hS,hE,by show((mi env S).bind _).bind _=_;rw[h1];exact h,post⟩
 | rol xs=>exact hB pins s σ H E I ⟨μ,S,env,o,hS,hE,by show((mi env S).bind _).bind _=_;rw[h1];exact h,post⟩
 | tup xs=>exact hB pins s σ H E I ⟨μ,S,env,o,hS,hE,by show((mi env S).bind _).bind _=_;rw[h1];exact h,post⟩
 | _=>cases h
end
end M
namespace L2
section
variable{X:Cx}{pos:Pos}
theorem tU:∀ {ns:List Int} {us:List dn},Vals (ns.map V.int) us->∃ xs:List (Int×Tok),us=xs.map (λp=>Value.int p.1 p.2)/\xs.map (·.1)=ns
 | [],_,.nil=>⟨[],rfl,rfl⟩
 | n::ns,_,.cons ⟨t,e⟩ r=>by
  subst e
  obtain⟨xs,e1,e2⟩:=tU r
  exact⟨(n,t)::xs,by rw[e1];rfl,by rw[WO,e2]⟩
theorem Hb(hc:X.calm=true):CallR X (.builtin "max") (λxs H Q=>∃ p ns,xs=[.ref p]/\kK X.K H p (ns.map V.int)/\ns≠[]/\∀ m,m∈ns->(∀ a∈ns,a<=m)->Q (.int m) H):=by
 intro pins s σ H xs us Q I r h
 obtain⟨p,ns,rfl,hq,h0,q⟩:=h
 obtain⟨u,rfl,rx⟩:=gm r
 cases rx
 obtain⟨its,rv,pl,hz⟩:=I.list hq
 obtain⟨ps,e1,e2⟩:=tU rv
 have hl:s.heap.IsList p (intItems ps.toArray):=by
  have:=pl.isList
  rw[e1] at this
  have e:intItems ps.toArray=(ps.map (λp=>Value.int p.1 p.2)).toArray:=by simp[intItems]
  rw[e];exact this
 have hp:0<ps.toArray.size:=by
  rw[WD]
  cases ps with
  | nil=>exact absurd e2.symm h0
  | cons _ _=>simp
 refine max_intList (I.ok.hd hc) hl hp λv h' tk hv kk=>?_
 obtain⟨g1,g2⟩:=argBest_gt (numAt ps.toArray) (ps.toArray.size - 1)
 generalize argBest (λi j=>decide (numAt ps.toArray i>numAt ps.toArray j)) (ps.toArray.size - 1)=b at hv g1 g2
 have hb:b<ps.length:=by rw[WD] at g1 hp;omega
 have nb:∀ j (hj:j<ps.length),numAt ps.toArray j=ps[j].1:=λj hj=>by
  simp[numAt,hj]
 have ev:v=Value.int ps[b].1 ps[b].2:=by
  simp[intItems,hb] at hv
  exact hv.symm
 subst ev
 refine⟨.int ps[b].1,H,I.kept kk,⟨_,rfl⟩,q _ ?_ λa ha=>?_⟩
 ·rw[<- e2];exact Xs.mpr ⟨_,List.getElem_mem hb,rfl⟩
 ·rw[<- e2] at ha
  obtain⟨x,hx,rfl⟩:=Xs.mp ha
  obtain⟨j,hj,rfl⟩:=List.mem_iff_getElem.mp hx
  have:=g2 j (by rw[WD];omega)
  rw[nb j hj,nb b hb] at this
  exact this
end
end L2
namespace M
open L2
section
variable{X:Cx}{K:FA}{μ μ':Fp}{H H':Hp}{S S':ac}{pos:Pos}
def Ez(S:ac):D->Option (List D)
 | .lst xs=>U xs
 | .ref r=>match S[r]? with | some (.lst xs)=>U xs | _=>Y
 | _=>Y
theorem wa{d:D}{ds:List D}(s:SOk K μ S H)(r:Rep K μ H v d)(h:Ez S d=U ds):∃ a vs,v=.ref a/\H a=U (.lst vs)/\Reps K μ H vs ds:=by
 cases r with
 | lst hd n rr=>cases h;exact⟨_,_,rfl,hd,rr⟩
 | ref hr=>
  rename_i a i
  unfold Ez at h
  dsimp only at h
  cases q:S[i]? with
  | none=>rw[q] at h;cases h
  | some c=>
   rw[q] at h
   have ck:=s.cell _ _ _ hr q
   cases c with
   | lst xs=>cases h;obtain⟨vs,e,rr⟩:=ck;exact⟨a,vs,rfl,e,rr⟩
   | dct ks xs=>cases h
   | deep ks xs=>cases h
 | _=>cases h
def Kq:D->Bool
 | .ref _=>true
 | _=>false
def be(S:ac)(x y:D):Option D:=if Kq x||Kq y then(Ez S x).bind λxs=>(Ez S y).bind λys=>if xs.length+ys.length<=ww then U (.lst (xs++ys)) else Y else KZ S x y
theorem DH:OpR X (Ec .Add) (kn X.K be):=OpR.imp (OpR.or Jf TX) λx y H Q z0=>by
 obtain⟨μ,S,dx,dy,dz,hS,h1,h2,h3,post⟩:=z0
 unfold be at h3
 split at h3
 ·obtain⟨xs,e1,h3⟩:=Ww.mp h3
  obtain⟨ys,e2,h3⟩:=Ww.mp h3
  split at h3
  ·rename_i hl
   cases h3
   obtain⟨a,vs,rfl,q1,r1⟩:=wa hS h1 e1
   obtain⟨b,ws,rfl,q2,r2⟩:=wa hS h2 e2
   have l1:=r1.length
   have l2:=r2.length
   exact .inl ⟨a,b,vs,ws,rfl,rfl,q1,q2,by omega,λp hp=>post.lst hS hp (r1.append r2)⟩
  ·cases h3
 ·exact .inr ⟨μ,S,dx,dy,dz,hS,h1,h2,h3,post⟩
def nU:List Int->Int
 | []=>0
 | [a]=>a
 | a::r=>max a (nU r)
theorem vN:∀ {ns:List Int},ns≠[]->nU ns∈ns/\∀ a∈ns,a<=nU ns
 | [a],_=>⟨by simp[nU],λb hb=>by simp at hb;simp[nU,hb]⟩
 | a::b::r,_=>by
  obtain⟨h1,h2⟩:=vN (ns:=b::r) (by simp)
  show max a (nU (b::r))∈_/\∀ c∈_,c<=max a (nU (b::r))
  generalize nU (b::r)=m at h1 h2
  refine⟨?_,λc hc=>?_⟩
  ·by_cases h:m<=a
   ·rw[Int.max_eq_left h];exact WE
   ·rw[Int.max_eq_right (by omega)];exact WB _ h1
  ·rcases WQ.mp hc with rfl | hc
   ·exact Int.le_max_left _ _
   ·exact Int.le_trans (h2 c hc) (Int.le_max_right _ _)
theorem zF{ns:List Int}{m:Int}(h0:ns≠[])(h1:m∈ns)(h2:∀ a∈ns,a<=m):m=nU ns:=by
 obtain⟨g1,g2⟩:=vN h0
 have:=h2 _ g1
 have:=g2 _ h1
 omega
def ue(S:ac):List D->Option D
 | [d]=>(qN S d).bind λns=>if ns.isEmpty then Y else U (.int (nU ns))
 | ds=>RR S ds
theorem CallR.or(h:CallR X f r)(h':CallR X f r'):CallR X f (λxs H Q=>r xs H Q\/r' xs H Q):=by
 intro pins s σ H xs us Q I rv q
 rcases q with q | q
 ·exact h pins s σ H xs us Q I rv q
 ·exact h' pins s σ H xs us Q I rv q
theorem Hj(hc:X.calm=true):CallR X (.builtin "max") (BJ X.K (ak ue)):=CallR.imp (CallR.or (Hb hc) (Hk hc)) λxs H Q z0=>by
 obtain⟨μ,S,ds,d,S',hS,hr,hm,post⟩:=z0
 obtain⟨rfl,hm'⟩:=cG hm
 match ds,hr,hm,hm' with
 | [d0],hr,hm,hm'=>
  obtain⟨ns,h1,h2⟩:=Ww.mp hm'
  split at h2
  ·cases h2
  ·rename_i h0
   cases h2
   have h0:ns≠[]:=λz=>h0 (by rw[z];rfl)
   obtain⟨v,rfl,rv⟩:=hr.one
   obtain⟨b,rfl,hq,h64⟩:=tW hS rv h1
   refine .inl ⟨b,ns,rfl,hq,h0,λm m1 m2=>?_⟩
   rw[zF h0 m1 m2]
   exact post.here hS (.int _)
 | [],hr,hm,hm'=>cases hm'
 | _::_::_,hr,hm,hm'=>exact .inr ⟨μ,_,_,d,_,hS,hr,hm,post⟩
end
inductive yF:List (bD×dn)->List (bD×D)->Prop
 | nil:yF [] []
 | cons {k:bD} {v:dn} {d:D} {vs:List (bD×dn)} {ds:List (bD×D)} (x:V) (h:RelV x v) (r:∀ K μ H,Rep K μ H x d) (t:yF vs ds):yF ((k,v)::vs) ((k,d)::ds)
structure MQ(w:sv)(K:FA)(mg:Str->Option dn)(x:Str)(l:List (bD×D)):Prop where
 ex:∃ (a:gV) (vs:List (bD×dn)),mg x=U (.ref a)/\(∀ (P:pr) (h:wo),K.In h->h.DictOf (fh P w) a vs)/\yF vs l
end M
namespace L2
section
variable{X:Cx}
def rAddS:R2:=λx y H Q=>∃ a b,x=.str a/\y=.str b/\a.length+b.length<=ww/\Q (.str (a++b)) H
theorem Ot:OpR X (Ec .Add) rAddS:=by
 intro pins s σ H x y v u Q I rx ry h
 obtain⟨a,b,rfl,rfl,hz,q⟩:=h
 obtain⟨t,rfl⟩:=rx
 obtain⟨t2,rfl⟩:=ry
 exact add_str (λt' tk=>⟨.str _,H,I.tok _,⟨_,rfl⟩,q⟩) hz
def rMulS:R2:=λx y H Q=>∃ a n,x=.str a/\y=.int n/\a.length<=1048576/\0<=n/\n<=16/\Q (.str (Txt.mul a n)) H
theorem Oo:OpR X (Ec .Mult) rMulS:=by
 intro pins s σ H x y v u Q I rx ry h
 obtain⟨a,n,rfl,rfl,hz,h0,h1,q⟩:=h
 obtain⟨t,rfl⟩:=rx
 obtain⟨t2,rfl⟩:=ry
 exact SB.mul (mulOk_of 1048576 16 hz (by omega) (by omega) (by decide) (by decide)) λt' tk=>⟨.str _,H,I.tok _,⟨_,rfl⟩,q⟩
theorem GX:CallR X (.type "str") (λxs H Q=>(∃ i,xs=[.int i]/\i.natAbs.log2<1920/\Q (.str (toString i)) H)\/(xs=[.non]/\Q (.str "None") H)):=by
 intro pins s σ H xs us Q I r h
 rcases h with h | ⟨rfl,q⟩
 ·exact yA pins s σ H xs us Q I r h
 ·obtain⟨u,rfl,hu⟩:=gm r
  cases hu
  exact PySem.P.str_of_none ⟨.str _,H,I.tok _,⟨_,rfl⟩,q⟩
def tFmt(t:TE):TE:=λσ H Q=>t σ H λx H1=>(∃ y,x=.str y/\y.length<=ww/\Q (.str y) H1)\/∃ i,x=.int i/\i.natAbs.log2<1920/\Q (.str (toString i)) H1
theorem Tw(h:PE X e t):PE X (.FormattedValue e (-1) Y pos) (tFmt t):=by
 intro pins s σ H Q I q
 refine FormattedValue_plain (cz (h pins s σ H _ I q) λv s1 ⟨x,H1,I1,r1,q1⟩=>?_)
 rcases q1 with ⟨y,rfl,hz,q1⟩ | ⟨i,rfl,hz,q1⟩
 ·obtain⟨t,rfl⟩:=r1
  exact formatField_str (λt' tk=>⟨.str _,H1,I1.tok _,⟨_,rfl⟩,q1⟩) hz
 ·obtain⟨t,rfl⟩:=r1
  exact formatField_int_small hz ⟨.str _,H1,I1.tok _,⟨_,rfl⟩,q1⟩
def rJoin(K:FA):V->List V->Hp->VK->Prop:=λx vs H Q=>∃ sep a ys,x=.str sep/\vs=[.ref a]/\(kK K H a (ys.map V.str)\/mj K H a (ys.map V.str))/\(ys.map (·.length)).sum+ys.length*sep.length<=16777216/\Q (.str (Str.join sep ys)) H
theorem mW:∀ {ys:List Str} {us:List dn},Vals (ys.map V.str) us->StrsAre us ys
 | [],_,r=>by cases r;exact .nil
 | y::ys,_,r=>by
  cases r with
  | cons h t=>obtain⟨tk,rfl⟩:=h;exact .cons y tk (mW t)
theorem OD:MtR X "str.join" (rJoin X.K):=by
 intro pins s σ H x vs v us Q I rx rv h
 obtain⟨sep,a,ys,rfl,rfl,hs,hz,q⟩:=h
 obtain⟨t,rfl⟩:=rx
 obtain⟨u,rfl,hu⟩:=gm rv
 cases hu
 have e:Txt.join sep ys=Str.join sep ys:=StrLaws.glued_eq_join sep ys
 rcases hs with hs | hs
 ·obtain⟨its,r,p,_⟩:=I.list hs
  obtain⟨o,n,p1,p2,p3,p4⟩:=p
  exact join_list ⟨o,p1,p2,n,p4⟩ (mW r) hz λt' k=>⟨.str _,H,I.tok _,⟨_,rfl⟩,e ▸ q⟩
 ·obtain⟨its,r,p,_⟩:=I.tuple hs
  exact join_tuple p (mW r) hz λt' k=>⟨.str _,H,I.tok _,⟨_,rfl⟩,e ▸ q⟩
end
end L2
namespace M
open L2
section
variable{X:Cx}{K:FA}{μ μ':Fp}{H H':Hp}{S:ac}
def bI(S:ac)(x y:D):Option D:=match x,y with
 | .str a,.str b=>if a.length+b.length<=ww then U (.str (a++b)) else Y
 | _,_=>Y
def mS(S:ac)(x y:D):Option D:=match x,y with
 | .str a,.int n=>if a.length<=1048576/\0<=n/\n<=16 then U (.str (Txt.mul a n)) else Y
 | _,_=>Y
theorem DJ:OpR X (Ec .Add) (kn X.K bI):=OpR.imp Ot λx y H Q z0=>by
 obtain⟨μ,S,dx,dy,dz,hS,h1,h2,h3,post⟩:=z0
 cases dx<;>first | cases h3 | skip
 cases dy<;>first | cases h3 | skip
 rename_i a b
 dsimp only[bI] at h3
 by_cases hz:a.length+b.length<=ww
 ·rw[WN hz] at h3;cases h3;exact⟨a,b,h1.str_inv,h2.str_inv,hz,post.here hS (.str _)⟩
 ·rw[WX hz] at h3;cases h3
theorem Ov:OpR X (Ec .Mult) (kn X.K mS):=OpR.imp Oo λx y H Q z0=>by
 obtain⟨μ,S,dx,dy,dz,hS,h1,h2,h3,post⟩:=z0
 cases dx<;>first | cases h3 | skip
 cases dy<;>first | cases h3 | skip
 rename_i a n
 dsimp only[mS] at h3
 by_cases hz:a.length<=1048576/\0<=n/\n<=16
 ·rw[WN hz] at h3;cases h3;exact⟨a,n,h1.str_inv,h2.int_inv,hz.1,hz.2.1,hz.2.2,post.here hS (.str _)⟩
 ·rw[WX hz] at h3;cases h3
def dP(S:ac)(ds:List D):Option D:=match ds with
 | [.int i]=>if i.natAbs.log2<1920 then U (.str (toString i)) else Y
 | [.non]=>U (.str "None")
 | _=>Y
theorem Mu:CallR X (.type "str") (BJ X.K (ak dP)):=CallR.imp GX λxs H Q z0=>by
 obtain⟨μ,S,ds,d,S',hS,hr,hm,post⟩:=z0
 obtain⟨rfl,hm⟩:=cG hm
 cases ds with
 | nil=>cases hm
 | cons x r=>
  cases r with
  | cons _ _=>cases x<;>cases hm
  | nil=>
   obtain⟨v,rfl,r⟩:=hr.one
   cases x with
   | non=>cases hm;cases r;exact .inr ⟨rfl,post.here hS (.str _)⟩
   | int i=>
    dsimp only[dP] at hm
    by_cases hz:i.natAbs.log2<1920
    ·rw[WN hz] at hm;cases hm;exact .inl ⟨i,by rw[r.int_inv],hz,post.here hS (.str _)⟩
    ·rw[WX hz] at hm;cases hm
   | _=>cases hm
def Pm:D->Option Str
 | .str y=>if y.length<=ww then U y else Y
 | .int i=>if i.natAbs.log2<1920 then U (toString i) else Y
 | _=>Y
def om(m:ME):ME:=λenv S=>(m env S).bind λp=>(Pm p.1).bind λy=>U (.str y,p.2)
theorem VY(h:DE X e m):DE X (.FormattedValue e (-1) Y pos) (om m):=PE.imp (Tw h) λσ H Q z0=>by
 obtain⟨μ,S,env,d,S',hS,hE,hm,post⟩:=z0
 obtain⟨⟨x,S1⟩,h1,hm⟩:=Ww.mp hm
 obtain⟨y,h2,hm⟩:=Ww.mp hm
 cases hm
 refine⟨μ,S,env,x,S1,hS,hE,h1,λv H1 μ1 e1 s1 r1=>?_⟩
 dsimp only at h2
 cases x with
 | int i=>
  dsimp only[Pm] at h2
  by_cases hz:i.natAbs.log2<1920
  ·rw[WN hz] at h2;cases h2;exact .inr ⟨i,r1.int_inv,hz,post _ H1 μ1 e1 s1 (.str _)⟩
  ·rw[WX hz] at h2;cases h2
 | str z=>
  dsimp only[Pm] at h2
  by_cases hz:z.length<=ww
  ·rw[WN hz] at h2;cases h2;exact .inl ⟨_,r1.str_inv,hz,post _ H1 μ1 e1 s1 (.str _)⟩
  ·rw[WX hz] at h2;cases h2
 | _=>cases h2
def dj:List ME->Str->ME
 | [],out=>λ_ S=>U (.str out,S)
 | m::r,out=>λenv S=>(m env S).bind λp=>match p.1 with
  | .str y=>if (out++y).length<=ww then dj r (out++y) env p.2 else Y
  | _=>Y
inductive DEs(X:Cx):List pc->List ME->Prop
 | nil:DEs X [] []
 | cons {e:pc} {m:ME} {es:List pc} {ms:List ME} (h:DE X e m) (t:DEs X es ms):DEs X (e::es) (m::ms)
theorem Aq:∀ {es:List pc} {ms:List ME},DEs X es ms->∀ (out:Str),out.length<=ww->∀ (pins:List (gV×Obj)) (s:gw) (σ:L2.St) (H:Hp) (Q:VK),Inv X pins σ H s->tM X.K (dj ms out) σ H Q ->
  Ew (model X.prog X.w) X.A (joinParts out (evalEach es X.env)) (EP X pins σ Q) X.xe s
 | _,_,.nil,out,ho,pins,s,σ,H,Q,I,⟨μ,S,env,d,S',hS,hE,hm,post⟩=>by
  cases hm
  exact joinParts_nil ⟨.str _,H,I.tok _,⟨_,rfl⟩,post.here hS (.str _)⟩ ho
 | _,_,.cons h t,out,ho,pins,s,σ,H,Q,I,⟨μ,S,env,d,S',hS,hE,hm,post⟩=>by
  obtain⟨⟨x,S1⟩,h1,hm⟩:=Ww.mp hm
  dsimp only at hm
  cases x<;>first | cases hm | skip
  rename_i y
  dsimp only at hm
  by_cases hz:(out++y).length<=ww
  ·rw[WN hz] at hm
   refine joinParts_cons (cz (h pins s σ H (λw H1=>w=.str y/\tM X.K (dj _ (out++y)) σ H1 Q) I ⟨μ,S,env,_,S1,hS,hE,h1,λv H1 μ1 e1 s1 r1=>⟨r1.str_inv,μ1,S1,env,d,S',s1,hE.mono e1,hm,post.ext e1⟩⟩) λv s1 ⟨w,H1,I1,r1,e1,q1⟩=>?_)
   subst e1
   obtain⟨tk,rfl⟩:=r1
   exact⟨hz,Aq t (out++y) hz pins s1 σ H1 Q I1 q1⟩
  ·rw[WX hz] at hm;cases hm
theorem GR{a b:pc}{es:List pc}(h:DEs X (a::b::es) ms):DE X (.JoinedStr (a::b::es) pos) (dj ms Str.empty):=λpins s σ H Q I q=>
 JoinedStr_many (Aq h Str.empty (by decide) pins s σ H Q I q)
theorem CZ(h:DE X a m):DE X (.JoinedStr [a] pos) m:=λpins s σ H Q I q=>JoinedStr_one (h pins s σ H Q I q)
def vz:List D->Option (List Str)
 | []=>U []
 | .str x::r=>(vz r).bind λxs=>U (x::xs)
 | _::_=>Y
theorem vw:∀ {ds:List D} {vs:List V} {ys:List Str},Reps K μ H vs ds->vz ds=U ys->vs=ys.map V.str
 | _,_,_,.nil,h=>by cases h;rfl
 | d::_,_,_,.cons r t,h=>by
  cases d<;>first | cases h | skip
  obtain⟨zs,h1,h2⟩:=Ww.mp h
  cases h2
  rw[r.str_inv,vw t h1];rfl
def mT:MF:=λo ds S=>match o,ds with
 | .str sep,[y]=>(fO S y).bind λxs=>(vz xs).bind λys=>if (ys.map (·.length)).sum+ys.length*sep.length<=16777216 then U (.str (Str.join sep ys),S) else Y
 | _,_=>Y
theorem OF:MtR X "str.join" (ND X.K mT):=MtR.imp OD λx vs H Q z0=>by
 obtain⟨μ,S,dx,ds,d,S',hS,r1,r2,h,post⟩:=z0
 cases dx<;>first | cases h | skip
 rename_i sep
 cases ds with
 | nil=>cases h
 | cons y l=>
  cases l with
  | cons _ _=>cases h
  | nil=>
   obtain⟨xs,h1,h⟩:=Ww.mp h
   obtain⟨ys,h2,h⟩:=Ww.mp h
   by_cases hz:(ys.map (·.length)).sum+ys.length*sep.length<=16777216
   ·rw[WN hz] at h;cases h
    obtain⟨v,rfl,rv⟩:=r2.one
    obtain⟨a,ws,rfl,hq,rs⟩:=gS hS rv h1
    have e:=vw rs h2
    subst e
    exact⟨sep,a,ys,r1.str_inv,rfl,hq,hz,post.here hS (.str _)⟩
   ·rw[WX hz] at h;cases h
def Kp:D->Bool
 | .str _=>true
 | _=>false
def cC(o:ME)(ms:MA):ME:=λenv S=>(o env S).bind λp=>if Kp p.1=true then(ms env p.2).bind λq=>mT p.1 q.1 q.2 else Y
theorem Me{e:pc}{es:List pc}{apos:Pos}(ho:DE X o mo)(ha:DA X (e::es) ms)
  (hbase:attributeBase o "join" X.env (eval o X.env)=eval o X.env)
  (hfew:((backTo cpos (zH (e::es) X.env)).all (λx=>!x.1)&&(backToKw cpos (keywordEach [] X.env)).all (λx=>x.1.isSome)&&decide ((e::es).length+([]:List Keyword).length+(if ([]:List Keyword).isEmpty then 0 else 1)<30))=true)
  (hline:(apos.endLine==cpos.line)=true) (hs:zH (e::es) X.env=(false,eval e X.env)::zH es X.env) (hpl:(backTo cpos (zH es X.env)).any (·.1)=false) :
  DE X (.Call (.Attribute o "join" apos) (e::es) [] cpos) (cC mo ms):=
 PE.imp (DD (X:=X) Zo F.slot_str_join F.type_str_join OF ho ha hbase hfew hline hs hpl) λσ H Q z0=>by
  obtain⟨μ,S,env,d,S',hS,hE,h,post⟩:=z0
  obtain⟨⟨x,S1⟩,h1,h⟩:=Ww.mp h
  dsimp only at h
  cases x<;>first | cases h | skip
  rename_i z
  obtain⟨⟨xs,S2⟩,h2,h⟩:=Ww.mp h
  refine⟨μ,S,env,_,S1,hS,hE,h1,λv H1 μ1 e1 s1 r1=>⟨?_,μ1,S1,env,xs,S2,s1,hE.mono e1,h2,λvs H2 μ2 e2 s2 r2=>⟨μ2,S2,_,xs,d,S',s2,r1.mono e2,r2,h,(post.ext e1).ext e2⟩⟩⟩
  rw[r1.str_inv]
  exact rfl
end
end M
namespace M
open L2
section
variable{X:Cx}{K:FA}{μ:Fp}{H:Hp}{S:ac}
theorem Iq(hu:X.A.units+1<cLine):Ws X (λo i v H Q=>∃ a H',o=.ref a/\DPut H a i v H'/\Q H'):=λpins s σ H o i v ov iv u Q I ro ri rv z0=>by
 obtain⟨a,H',e,g,q⟩:=z0
 subst e
 cases ro
 exact GT hu I g ri rv λs' I'=>⟨H',I',q⟩
def jm(o i:ME):MG:=λd env S=>(o env S).bind λp=>(i env p.2).bind λq=>match p.1 with
 | .ref r=>match q.2[r]? with
  | some (.dct ks vs)=>(iQ q.1).bind λk=>if ks.length<=500 then U (env,q.2.set r (.dct ((jR (ks.zip vs) k d).map (·.1)) ((jR (ks.zip vs) k d).map (·.2)))) else Y
  | _=>Y
 | _=>Y
theorem Qg(hu:X.A.units+64<cLine)(ho:DE X o mo)(hi:DE X i mi)(ha:∀ v,assign (.Subscript o i pos) X.env v=(do
   let ov <- holding [v] (eval o X.env)
   let iv <- holding [v,ov] (eval i X.env)
   standAt pos
   holding [v,ov,iv] (setItem ov iv v)
   release [v,ov,iv] []):=by intro _;rfl):DG X (.Subscript o i pos) (jm mo mi):=
 PG.imp (IW ho hi (Iq (by omega)) ha) λv σ H Q z0=>by
  obtain⟨μ,S,env,d,env',S',hS,hE,hr,hm,post⟩:=z0
  obtain⟨⟨x,S1⟩,h1,hm⟩:=Ww.mp hm
  obtain⟨⟨y,S2⟩,h2,hm⟩:=Ww.mp hm
  refine⟨μ,S,env,x,S1,hS,hE,h1,λv1 H1 μ1 e1 s1 r1=>⟨μ1,S1,env,y,S2,s1,hE.mono e1,h2,λv2 H2 μ2 e2 s2 r2=>?_⟩⟩
  cases x with
  | ref r=>
   dsimp only at hm
   cases q:S2[r]? with
   | none=>rw[q] at hm;cases hm
   | some c=>
    rw[q] at hm
    cases c with
    | lst xs=>cases hm
    | deep _ _=>cases hm
    | dct ks xs=>
     obtain⟨k,h3,hm⟩:=Ww.mp hm
     split at hm
     ·rename_i hz
      cases hm
      have r1':=r1.mono e2
      cases r1' with
      | @ref a _ h'=>
       obtain⟨kvs,hv,hk,rv⟩:=s2.cell r a _ h' q
       have rd:=(hr.mono e1).mono e2
       have kk:=(KR.of hk rv).put (k:=k) rd
       obtain⟨e3,s3⟩:=s2.writeD h' hv (kvs':=kW kvs k v) (ks:=(jR (ks.zip xs) k d).map (·.1)) kk.keys.symm kk.reps
       have hkey:=iG h3 r2
       subst hkey
       refine⟨a,_,rfl,DPut.k hv ?_,post σ _ μ2 ((e1.trans e2).trans e3) s3 (hE.mono ((e1.trans e2).trans e3))⟩
       rw[hk,WI] at hz
       exact Yp hz (by decide)
     ·cases hm
  | _=>cases hm
end
end M
namespace M
open L2
section
variable{X:Cx}{K:FA}{H:Hp}{pos:Pos}
inductive iMs(K:FA)(m:MA)(σ:L2.St)(H:Hp)(R:It->Hp->Prop):Prop
 | mk (μ:Fp) (S:ac) (env:ax) (xs:List D) (S':ac) (hS:SOk K μ S H) (hE:EOk K μ H σ env) (h:m env S=U (xs,S')) (post:∀ J H' μ',Ext μ H μ' H'->SOk K μ' S' H'->(∀ μ2 H2,(∀ v d,Rep K μ' H' v d->Rep K μ2 H2 v d)->Hu K μ2 H2 J xs)->R J H')
def Wu(X:Cx)(tg iter:pc)(m:MA):Prop:=PI X tg iter (iMs X.K m)
theorem CW{a:pc}{p:Pos}(hm:X.mg "range" = Y)(ha:DA X [a] ms)(hg:Gl X "range":=by rfl)(hs:zH [a] X.env=[(false,eval a X.env)]:=by rfl):Wu X tg (.Call (.Name "range" p) [a] [] pos) (bg ms):=
 PI.imp (vH hg hm ha hs) λσ H R z0=>by
  obtain⟨μ,S,env,xs,S',hS,hE,hm,post⟩:=z0
  obtain⟨⟨ds,S1⟩,h1,hm⟩:=Ww.mp hm
  refine⟨μ,S,env,ds,S1,hS,hE,h1,λvs H1 μ1 e1 s1 r1=>?_⟩
  dsimp only at hm
  split at hm
  ·split at hm
   ·rename_i hb
    cases hm
    obtain⟨v,rfl,r⟩:=r1.one
    exact⟨_,by rw[r.int_inv],hb.1,hb.2,post _ H1 μ1 e1 s1 λ_ _ _=>tS 0 _⟩
   ·cases hm
  ·cases hm
theorem Qd(h:DE X iter m):Wu X tg iter (eD m):=PI.imp (IU h) λσ H R z0=>by
 obtain⟨μ,S,env,xs,S',hS,hE,hm,post⟩:=z0
 obtain⟨⟨d,S1⟩,h1,hm⟩:=Ww.mp hm
 refine⟨μ,S,env,d,S1,hS,hE,h1,λv H1 μ1 e1 s1 r1=>?_⟩
 cases d with
 | lst ys=>
  cases hm
  have r1':=r1
  obtain⟨a,vs,rfl,q,_,rs⟩:=r1.sqL
  exact⟨a,rfl,.inl ⟨⟨vs,.inl (.inl q)⟩,post _ H1 μ1 e1 s1 λ_ _ f=>lT (.inl rfl) (f _ _ r1') rfl⟩⟩
 | tup ys=>
  cases hm
  have r1':=r1
  obtain⟨a,vs,rfl,q,rs⟩:=r1.sqT
  exact⟨a,rfl,.inr ⟨⟨vs,q⟩,post _ H1 μ1 e1 s1 λ_ _ f=>Ar (f _ _ r1')⟩⟩
 | rol ys=>
  cases hm
  have r1':=r1
  obtain⟨a,vs,rfl,q,rs⟩:=r1.sqR
  exact⟨a,rfl,.inl ⟨⟨vs,q⟩,post _ H1 μ1 e1 s1 λ_ _ f=>lT (.inr rfl) (f _ _ r1') rfl⟩⟩
 | _=>cases hm
structure CpI(K:FA)(μ1:Fp)(H1:Hp)(p:gV)(σ:L2.St)(H:Hp)(cs:List gV)(S:ac)(env:ax)(vs:List V)(zs:List D):Prop where
 ext:ExtP μ1 H1 ⟨cs,p::μ1.fb⟩ H
 sok:SOk K ⟨cs,p::μ1.fb⟩ S H
 eok:EOk K ⟨cs,p::μ1.fb⟩ H σ env
 lst:H p=U (.lst vs)
 rep:Reps K ⟨cs,p::μ1.fb⟩ H vs zs
theorem CpI.go{H:Hp}{cs':List gV}(c:CpI K μ1 H1 p σ H cs S env vs zs)(e:Ext ⟨cs,p::μ1.fb⟩ H ⟨cs',p::μ1.fb⟩ H')(s:SOk K ⟨cs',p::μ1.fb⟩ S' H')(r:EOk K ⟨cs',p::μ1.fb⟩ H' σ' env'):CpI K μ1 H1 p σ' H' cs' S' env' vs zs:=
 ⟨c.ext.then e,s,r,(e.keeps c.lst λz=>c.sok.disj p WE z).1,c.rep.mono e⟩
theorem CpI.app{H:Hp}{d:D}(c:CpI K μ1 H1 p σ H cs S env vs zs)(hp:H1 p=Y)(r:Rep K ⟨cs,p::μ1.fb⟩ H v d):CpI K μ1 H1 p σ (upd H p (.lst (vs++[v]))) cs S env (vs++[v]) (zs++[d]):=
 ⟨c.ext.chg hp,c.sok.chg WE,c.eok.chg WE,aB,Reps.chg WE (c.rep.append (.cons r .nil))⟩
variable{elt tg iter tg2 iter2:pc}{ifs ifs2:List pc}{scope:Scope}{spos py:Pos}{N':List Str}{cap:List (Option Nat)}{mi mi2:MA}{g g2:MG}{t t2:MT}{me:ME}{y:Str}{i:Nat}
end
end M
namespace HT
section
variable{prog:pr}{w:sv}{A:tx}{E:dn->gw->Prop}{h:wo}{g:Array GenState}{d:Drawn}{t:Nat}{os:OsState}
variable{nm q:Str}{C N:gV}{bs bm bmB:List dn}{hdct:Bool}{sn:List Str}{sub:List dn}{ab:Bool}{col:Option Bool}{dd:Option gV}{k0 k1 k2 k3 k5:Option dn}{B newId initId:String}
noncomputable abbrev uk(h:wo)(C:gV)(rest:List dn):wo:=(h.push { cls:=.type "tuple",data:=.seq rest.toArray }).push { cls:=.ref C,data:=.fields #[.ref h.objs.size,.none,.none,.none,.bool false,.none] }
theorem hU{o:Obj}(e:h.get? b=U o):(uk h C rest).get? b=U o:=Wy _ (Wy _ e)
theorem qq:(uk h C rest).get? (h.objs.size+1)=U { cls:=.ref C,data:=.fields #[.ref h.objs.size,.none,.none,.none,.bool false,.none] }:=by heap_get
theorem nD(F:ExcBaseFacts B newId initId bmB)(T:OwnTail h bmB bm){rest:List dn}{Q:Fin->gw->Prop}
  (hC:h.get? C=U (excClassObj nm q C N bs bm hdct sn sub ab col dd k0 k1 k2 k3 k5 newId)) (hn:h.Ns N mN) (hni:mN "__init__" = U (.ref f))
  {of:Obj} (hfo:h.get? f=U of) (hfc:of.cls=.type "function") (hrest:rest.length<=ww)
  (hq:Ew (model prog w) A (call (.ref f) (.ref (h.objs.size+1)::rest)) (λv s'=>v=.none/\Q (.done (.ret (.ref (h.objs.size+1)))) s') E ⟨uk h C rest,g,d,t,os⟩) :
  Ew (model prog w) A (Builtin.«type.__call__» ⟨.ref C::rest,[]⟩) Q E ⟨h,g,d,t,os⟩:=by
 repeat (first | wp_step | with_reducible refine wpAny_madeBy_exc hC ?_ | with_reducible refine Ya hC ?_)
 refine codeAny_call_builtin_code (ZU _ F.quiet) (wpAny_check_new_subT F T hC (codeAny_exc_new_subT F T hC ?_ hrest))
 show Ew _ _ _ _ _ _
 have kC:=hU (C:=C) (rest:=rest) hC
 have at0:=qq (h:=h) (C:=C) (rest:=rest)
 have own:(Value.ref C::bm).contains (.ref C)=true:=by simp
 unfold isInstance
 repeat (first | wp_step | with_reducible refine Ya at0 ?_ | (with_reducible refine YW kC ?_;rw[own]))
 show Ew _ _ (typeLookup (.ref C) _) _ _ _
 refine wpAny_typeLookup_tail kC (hn.keeps λb o e=>hU e) (T.keeps λb o e=>hU e) F.mroIs F.init.lookup ?_
 rw[hni]
 refine Xd (Wx (wpAny_bindSpecial_def (of:=of) (hU hfo) hfc (Wx (WV hq (λv s' z=>WA ?_) λ_ _ x=>x))))
 obtain⟨rfl,z⟩:=z
 show Ew _ _ (if (Value.none != Value.none)=true then _ else ret _) _ _ _
 rw[WX (by simp)]
 exact WA z
theorem yC(F:ExcBaseFacts B newId initId bmB)(T:OwnTail h bmB bm){rest:List dn}{Q:dn->gw->Prop}
  (hC:h.get? C=U (excClassObj nm q C N bs bm hdct sn sub ab col dd k0 k1 k2 k3 k5 newId)) (hn:h.Ns N mN) (hni:mN "__init__" = U (.ref f))
  {of:Obj} (hfo:h.get? f=U of) (hfc:of.cls=.type "function") (hrest:rest.length<=ww)
  (hq:Ew (model prog w) (A.under (.builtin "type.__call__" ⟨.ref C::rest,[]⟩)) (call (.ref f) (.ref (h.objs.size+1)::rest)) (λv s'=>v=.none/\Q (.ref (h.objs.size+1)) s') E ⟨uk h C rest,g,d,t,os⟩) :
  Ew (model prog w) A (call (.ref C) rest) Q E ⟨h,g,d,t,os⟩:=by
 have f1:=tc_lookup
 have f2:=tc_bind (.ref C)
 have hT:(⟨h,g,d,t,os⟩:gw).TypeIs (.ref C) "type":=⟨_,hC,rfl⟩
 refine Zh (aao ?_)
 show Ew _ _ (callAny (.ref C) _) _ _ _
 repeat (any_goals (first | assumption | with_reducible refine Ya hC ?_ | wp_step))
 refine⟨rfl,?_⟩
 refine codeAny_call_builtin_at (ZU _ (by decide +kernel)) entry_typeCall (wpAny_check_type_call_sub hC (nD F T hC hn hni hfo hfc hrest ?_))
 exact hq
theorem sO{s:gw}(hbase:bm.contains (.type "BaseException")=true)(hh:A.handled=Y)
  (h:Ew M A x (λv s₁=>∃ e t dx,v=.ref e/\s₁.heap.get? C=U (excClassObj nm q C N bs bm hdct sn sub ab col dd k0 k1 k2 k3 k5 newId) /\
   s₁.heap.get? e=U { cls:=.ref C,dict:=dx,data:=.fields #[.ref t,.none,.none,.none,.bool false,.none] }/\E (.ref e) s₁) E s) :
  Ew M A (raiseStmt env (U x) Y) Q E s:=by
 have hcB:(Value.ref C::bm).contains (.type "BaseException")=true:=by rw[ZP,hbase,aag]
 unfold raiseStmt
 refine Wx (WV h (λv s₁ h₁=>?_) λ_ _ x=>x)
 obtain⟨e,t,dx,rfl,hC,he,hE⟩:=h₁
 obtain⟨hp,g,d,tk,os⟩:=s₁
 repeat (first | with_reducible refine Ya he ?_ | with_reducible refine Ya hC ?_ | (with_reducible refine YW hC ?_;rw[hcB]) | wp_step)
 exact wpAny_raiseNew_none hh hE
end
section
open PySem.W Builtin Builtin.ObjectAttr Builtin.Getset_descriptor
def jg:List dn:=[.type "ValueError",.type "Exception",.type "BaseException",.type "object"]
def CA:dn->Bool
 | .ref _=>true
 | _=>false
inductive qB:List dn->Prop
 | base:qB jg
 | own {c:gV} {r:List dn}:qB r->qB (.ref c::r)
theorem QY:∀ {l:List dn},(l.dropWhile CA==jg)=true->qB l
 | [],e=>absurd e (by decide)
 | x::r,e=>by
  cases hx:CA x with
  | true=>
   rw[List.dropWhile_cons_of_pos hx] at e
   cases x with
   | ref c=>exact .own (QY e)
   | _=>cases hx
  | false=>
   rw[List.dropWhile_cons_of_neg (by simp[hx])] at e
   rw[eq_of_beq e];exact .base
theorem FB(self:dn)(h:qB l):refuseLoop self "__setattr__" l=pure ():=by
 induction h with
 | base=>exact F.store_ValueError.passes self
 | own _ ih=>rw[refuseLoop_ref];exact ih
theorem HL(h:qB l):l.contains (.type "object")=true:=by
 induction h with
 | base=>decide
 | own _ ih=>rw[ZP,ih,aag]
def rV(K:Frag)(C:gV):Bool:=(clsIn K C).any λcd=>cd.mro.dropWhile CA==jg
variable{prog:pr}{w:sv}{A:tx}{E:dn->gw->Prop}{s:gw}{K:Frag}{x C:gV}{R:Result->gw->Prop}
theorem Om{tk:Tok}{r:Option dn}(X:K.In s.heap)(I:InstAt s.heap x ox C od)(hp:rV K C=true)(ht:takerIn K C name=U r)
  (h:∀ b,Ew (model prog w) A.in1 (match r with | some a=>setByDescriptor a (.ref x) v | none=>storeInOwnDict (.ref x) (.ref C) (.str name tk) name v b)
   (λfin s'=>match fin with | .done f=>R (.ok f) s' | .again c'=>c'.quiet=true/\codeAny (model prog w) A c' R s') (λe s'=>R (.error e) s') s) :
  codeAny (model prog w) A (.call (.builtin "object.__setattr__") ⟨[.ref x,.str name tk,v],[]⟩) R s:=by
 have SF:=F.store_object
 obtain⟨cd,hc,ho⟩:=any_some hp
 have ho:=QY ho
 have ne:cd.mro.isEmpty=false:=by
  cases q:cd.mro with
  | nil=>rw[q] at ho;exact absurd (HL ho) (by decide)
  | cons _ _=>rfl
 have sub:Looks (model prog w) s.heap (isInstance (.ref x) (.type "object")) true:=I.type.andThen (looks_mroIn X (by unfold mroIn;rw[hc,Option.bind_some,WX (by rw[ne];decide),HL ho]))
 refine Zz SF.slot.plain SF.entry (@check_slot (model prog w) _ _ s "object.__setattr__" "object" "__setattr__" (.ref x) [.str name tk,v] [] _ SF.kind SF.split sub (SF.args (.ref x) (.str name tk) v) ?_)
 obtain⟨attr,ha,hr⟩:=Ww.mp ht
 have hm:Looks (model prog w) s.heap (mroOf (.ref C)) cd.mro:=(looks_clsIn X hc).andThen .now
 have L3:Looks (model prog w) s.heap (storeTaker? attr) r:=by
  cases attr with
  | none=>cases hr;exact .now
  | some a=>
   obtain⟨b,hb,rfl⟩:=YJ.mp hr
   refine(looks_takesIn X hb).andThen ?_
   cases b<;>exact .now
 rw[osa_eq,refuse_eq]
 refine Wx (Wx (I.type.here (Wx (hm.here ?_))))
 rw[FB _ ho]
 refine WA (Wx (I.type.here (Wx ((looks_findIn X ha).here (Wx (L3.here ?_))))))
 exact h _
theorem Nx{fs:Array dn}{v:dn}{Q:Unit->gw->Prop}(X:K.In s.heap)(I:InstAt s.heap x ⟨.ref C,Y,.fields fs,#[]⟩ C Y)
  (hs:findIn K (.ref C) "__setattr__" = U (U (.builtin "object.__setattr__"))) (hp:rV K C=true) (ht:takerIn K C name=U Y) (hh:hasDictIn K C=true)
  (h:∀ h' t',h'.get? x=U ⟨.ref C,U s.heap.objs.size,.fields fs,#[]⟩->h'.Ns1 s.heap.objs.size (λy=>if y=name then U v else Y) ->
   (∀ b o,b≠x->s.heap.get? b=U o->h'.get? b=U o)->Q () { s with heap:=h',toks:=t' }) :
  Ew (model prog w) A (setAttr (.ref x) name v) Q E s:=by
 refine set_plain X I hs (Om (s:={ s with toks:=s.toks+1 }) (r:=Y) X I hp ht λb=>?_)
 obtain⟨cd,hc,hd'⟩:=any_some hh
 have hx:=I.at_
 refine Wx (WA (Wx (Wx (wpAny_loadPart hx (Wx (Looks.here (s:={ s with toks:=s.toks+1 }) (looks_clsIn X hc) ?_))))))
 rw[hd',WX (by decide)]
 obtain⟨h0,g,d,tk,os⟩:=s
 have hx₁:(h0.push { cls:=.type "dict",data:=.dict #[] }).get? x=U ⟨.ref C,Y,.fields fs,#[]⟩:=Wy _ hx
 have hxs:x≠h0.objs.size:=WZ (WG hx)
 dsimp only
 rw[WX (by simp[typeHasDict])]
 refine Wx (wpAny_alloc' ?_)
 refine Wx (wpAny_update' hx₁ ?_)
 refine WA ?_
 have hgd:((h0.push { cls:=.type "dict",data:=.dict #[] }).update x λo=>{ cls:=o.cls,dict:=U h0.objs.size,data:=o.data,slots:=o.slots }).get? h0.objs.size
   = U { cls:=.type "dict",data:=.dict #[] }:=
  (Xy _ _ _ _ hxs.symm).trans (Heap.get?_push_at rfl rfl)
 have hnd:((h0.push { cls:=.type "dict",data:=.dict #[] }).update x λo=>{ cls:=o.cls,dict:=U h0.objs.size,data:=o.data,slots:=o.slots }).Ns h0.objs.size (λ_=>Y):=
  ⟨_,#[],_,hgd,rfl,λe he=>absurd he (by simp),λ_=>rfl⟩
 show Ew _ _ (storeInDict h0.objs.size (.str name tk) name v) _ _ _
 unfold storeInDict newKeyGuard
 refine Wx (WA (Wx (wpAny_nsSet1 (Heap.Ns1.of_empty hnd) λh' hn' hs=>?_)))
 obtain⟨oD,esD,epD,hoD,hdD,hcD⟩:=hn'.count (Within.cons name v Within.nil)
 refine Wx (wpAny_lookBehind hoD (by rw[hdD];exact pastItsLine_dict (Xa hcD (by rw[WF,XG,ZC];omega))) ?_)
 refine WA (h h' _ ?_ hn' λb ob hbx hb=>?_)
 ·exact(hs.2 x hxs).trans (Xh _ hx₁ rfl)
 ·exact(hs.2 b (WZ (WG hb))).trans ((Xy _ _ _ _ hbx).trans (Wy _ hb))
end
end HT
namespace HT
section
variable{M:Model}{A:tx}{E:dn->gw->Prop}{s:gw}
structure Fly(h:wo)(e T:gV)(C:dn)(dx:Option gV):Prop where
 ne:T≠e
 exc:∃ oe vs,h.get? e=U oe/\oe.cls=C/\oe.dict=dx/\oe.data=.fields vs/\vs[1]?=U (.ref T)
 ent:∃ oT ts,h.get? T=U oT/\oT.data=.fields ts/\ts[3]?=U .none
structure Left(fs:List gV)(no:gV->Prop)(h h':wo):Prop where
 keep:∀ b o,b∉fs->¬ no b->h.get? b=U o->h'.get? b=U o
 slot:∀ b o,b∈fs->h.get? b=U o->∃ sl,h'.get? b=U { o with slots:=sl }
theorem nV(g:Array dn->Array dn)(o:Obj):(o.mapFields g).cls=o.cls/\(o.mapFields g).dict=o.dict:=by
 obtain⟨c,d,dt,sl⟩:=o
 cases dt<;>exact⟨rfl,rfl⟩
theorem Ad{env:Env}{outer:List Env}{L:gV}{oe:Obj}{Q:Unit->gw->Prop}
  (hfr:A.frames=U (env::outer)) (hl:s.heap.FunFrames base (env::outer)) (hf:env.frame=U L)
  (he:s.heap.get? e=U oe) (hd:oe.data=.fields vs) (h1:vs[1]?=U .none)
  (h:∀ h' T,s.heap.objs.size<=T->Fly h' e T oe.cls oe.dict->Left ((env::outer).filterMap (·.frame)) (λb=>b=e) s.heap h'->Q () { s with heap:=h' }):Ew M A (leaving env (.ref e)) Q E s:=by
 have hsz:1<vs.size:=(YC.mp h1).1
 have enf:e∉(env::outer).filterMap (·.frame):=λhm=>by
  obtain⟨_,o,ho,hnf⟩:=hl.mem hm
  rw[he] at ho;cases ho;exact hnf vs hd
 unfold leaving noteFrame
 simp only[hf]
 refine Wx (Wx (Xr he hd h1 ?_))
 rw[WX (by decide)]
 refine Wx (wpAny_frameOf_fun hfr hl hf λh₁ hs=>Wx (abq λpl hpl=>?_))
 have e1:h₁.get? e=U oe:=(hs.2.1 e enf).trans he
 unfold EntryCells.newEntry newFields
 refine Wx (Xg ?_ (hpl.sizeOk5 _ _ _ _ _))
 generalize hts:(([Value.none,.ref L,.none,rawInt L,.none]++(if pl.isEmpty then Ga 6 Value.none else pl)).toArray)=ts
 have t3:3<ts.size:=by rw[<- hts];simp
 have e2:(h₁.push { cls:=.type "traceback",dict:=Y,data:=.fields ts }).get? e=U oe:=Wy _ e1
 have T2:(h₁.push { cls:=.type "traceback",dict:=Y,data:=.fields ts }).get? h₁.objs.size=U { cls:=.type "traceback",dict:=Y,data:=.fields ts }:=WL _ rfl
 have ne:h₁.objs.size≠e:=XI (WG e1)
 refine XB e2 hd hsz ?_
 have d3:=Yo hd (·.setIfInBounds 1 (Value.ref h₁.objs.size))
 have e3:=Xh (Obj.mapFields (·.setIfInBounds 1 (Value.ref h₁.objs.size))) e2 (Yr d3)
 have T3:=(WT _ (Obj.mapFields (·.setIfInBounds 1 (Value.ref h₁.objs.size))) (Ne.symm ne)).trans T2
 unfold setFlight
 refine Wx (Xr e3 d3 (x:=.ref h₁.objs.size) (by simp[hsz]) ?_)
 rw[WN (show(Value.ref h₁.objs.size != Value.none)=true from by simp)]
 refine XB T3 rfl t3 (h _ h₁.objs.size (by rw[hs.1];exact WH _) ⟨ne,?_,?_⟩ ⟨λb o nb ne' hb=>?_,λb o hm hb=>?_⟩)
 ·exact⟨_,_,(WT _ _ ne).trans e3,(nV _ _).1,(nV _ _).2,d3,by simp[hsz]⟩
 ·exact⟨_,_,Xh _ T3 rfl,rfl,by simp[t3]⟩
 ·have b1:h₁.get? b=U o:=(hs.2.1 b nb).trans hb
  have nT:h₁.objs.size≠b:=XI (WG b1)
  exact(WT _ _ nT).trans ((WT _ _ (Ne.symm ne')).trans (Wy _ b1))
 ·obtain⟨sl,b1⟩:=hs.2.2 b o hb
  have nT:h₁.objs.size≠b:=XI (WG b1)
  have nE:e≠b:=λz=>enf (z ▸ hm)
  exact⟨sl,(WT _ _ nT).trans ((WT _ _ nE).trans (Wy _ b1))⟩
theorem OO{env:Env}{outer:List Env}{L:gV}{Q:Unit->gw->Prop}
  (hfr:A.frames=U (env::outer)) (hl:s.heap.FunFrames base (env::outer)) (hf:env.frame=U L) (F:Fly s.heap e T C dx)
  (h:∀ h' T',s.heap.objs.size<=T'->Fly h' e T' C dx->Left ((env::outer).filterMap (·.frame)) (λb=>b=e\/b=T) s.heap h'->Q () { s with heap:=h' }):Ew M A (noteFrame (.ref e) env) (λ_ s₂=>Ew M A (setFlight (.ref e) Y) Q E s₂) E s:=by
 obtain⟨neT,⟨oe,vs,he,hc,hdx,hd,h1⟩,oT,ts0,hT,hdT,h3⟩:=F
 have hsz:1<vs.size:=(YC.mp h1).1
 have h3z:3<ts0.size:=(YC.mp h3).1
 have enf:e∉(env::outer).filterMap (·.frame):=λhm=>by
  obtain⟨_,o,ho,hnf⟩:=hl.mem hm
  rw[he] at ho;cases ho;exact hnf vs hd
 have tnf:T∉(env::outer).filterMap (·.frame):=λhm=>by
  obtain⟨_,o,ho,hnf⟩:=hl.mem hm
  rw[hT] at ho;cases ho;exact hnf ts0 hdT
 unfold noteFrame
 simp only[hf]
 refine Wx (Xr he hd h1 ?_)
 rw[WN (show(Value.ref T != Value.none)=true from by simp)]
 refine Wx (Xr hT hdT h3 ?_)
 rw[WX (by simp[rawInt])]
 refine Wx (XB hT hdT h3z ?_)
 have dT1:=Yo hdT (·.setIfInBounds 3 Value.none)
 have hT1:=Xh (Obj.mapFields (·.setIfInBounds 3 Value.none)) hT (Yr dT1)
 have he1:=(WT s.heap (Obj.mapFields (·.setIfInBounds 3 Value.none)) neT).trans he
 have hl1:(s.heap.update T (Obj.mapFields (·.setIfInBounds 3 Value.none))).FunFrames base (env::outer):=hl.of_keeps λb o hb hnf=>⟨o,(WT s.heap _ λq=>by rw[<- q,hT] at hb;cases hb;exact hnf ts0 hdT).trans hb,rfl⟩
 refine Wx (wpAny_frameOf_fun hfr hl1 hf λh₁ hs=>Wx (abq λpl hpl=>?_))
 have e1:h₁.get? e=U oe:=(hs.2.1 e enf).trans he1
 unfold EntryCells.newEntry newFields
 refine Wx (Xg ?_ (hpl.sizeOk5 _ _ _ _ _))
 generalize hts:(([Value.ref T,.ref L,.none,rawInt L,.none]++(if pl.isEmpty then Ga 6 Value.none else pl)).toArray)=ts
 have t3:3<ts.size:=by rw[<- hts];simp
 have e2:(h₁.push { cls:=.type "traceback",dict:=Y,data:=.fields ts }).get? e=U oe:=Wy _ e1
 have T2:(h₁.push { cls:=.type "traceback",dict:=Y,data:=.fields ts }).get? h₁.objs.size=U { cls:=.type "traceback",dict:=Y,data:=.fields ts }:=WL _ rfl
 have ne:h₁.objs.size≠e:=XI (WG e1)
 have sz:h₁.objs.size=s.heap.objs.size:=hs.1.trans (by simp)
 refine XB e2 hd hsz ?_
 have d3:=Yo hd (·.setIfInBounds 1 (Value.ref h₁.objs.size))
 have e3:=Xh (Obj.mapFields (·.setIfInBounds 1 (Value.ref h₁.objs.size))) e2 (Yr d3)
 have T3:=(WT _ (Obj.mapFields (·.setIfInBounds 1 (Value.ref h₁.objs.size))) (Ne.symm ne)).trans T2
 unfold setFlight
 refine Wx (Xr e3 d3 (x:=.ref h₁.objs.size) (by simp[hsz]) ?_)
 rw[WN (show(Value.ref h₁.objs.size != Value.none)=true from by simp)]
 refine XB T3 rfl t3 (h _ h₁.objs.size (by rw[sz];exact WH _) ⟨ne,?_,?_⟩ ⟨λb o nb ne' hb=>?_,λb o hm hb=>?_⟩)
 ·exact⟨_,_,(WT _ _ ne).trans e3,(nV _ _).1.trans hc,(nV _ _).2.trans hdx,d3,by simp[hsz]⟩
 ·exact⟨_,_,Xh _ T3 rfl,rfl,by simp[t3]⟩
 ·have b0:=(WT s.heap (Obj.mapFields (·.setIfInBounds 3 Value.none)) (a:=T) (b:=b) (λz=>ne' (.inr z.symm))).trans hb
  have b1:h₁.get? b=U o:=(hs.2.1 b nb).trans b0
  have nT:h₁.objs.size≠b:=XI (WG b1)
  exact(WT _ _ nT).trans ((WT _ _ (λz=>ne' (.inl z.symm))).trans (Wy _ b1))
 ·have b0:=(WT s.heap (Obj.mapFields (·.setIfInBounds 3 Value.none)) (a:=T) (b:=b) (λz=>tnf (z ▸ hm))).trans hb
  obtain⟨sl,b1⟩:=hs.2.2 b o b0
  have nT:h₁.objs.size≠b:=XI (WG b1)
  have nE:e≠b:=λz=>enf (z ▸ hm)
  exact⟨sl,(WT _ _ nT).trans ((WT _ _ nE).trans (Wy _ b1))⟩
end
end HT
namespace L2
def mU(P:pr)(w:sv):Hv:=λouter H s E e s'=>∃ x T C dx H',e=.ref x/\HT.Fly s'.heap x T (.ref C) (U dx)/\H' x=Y/\H' T=Y/\s.heap.get? x=Y/\s.heap.get? T=Y /\
 s'.os=s.os/\AllBare s'.gens/\Un (wx outer) [] H H' s.heap s'.heap/\HOk P w H' s'.heap/\E (.ref C) (U dx) H'
theorem EO{h h':wo}:∀ {l:List Env},h.FunFrames base l->(∀ b o,b∈wx l->h.get? b=U o->∃ sl,h'.get? b=U { o with slots:=sl })->h'.FunFrames base l
 | [],_,_=>trivial
 | env::r,hl,k=>by
  obtain⟨hk,⟨L,o,hf,hn,ho,hd⟩,hr⟩:=hl
  obtain⟨sl,e⟩:=k L o (by unfold wx;rw[Xu,hf];exact WE) ho
  exact⟨hk,⟨L,_,hf,hn,e,hd⟩,EO hr λb o hb=>k b o (by unfold wx at hb ⊢;rw[Xu,hf];exact WB _ hb)⟩
section
variable{X:Cx}{pins:List (gV×Obj)}{σ:St}{H:Hp}{s s':gw}{E:XK}{e:dn}
theorem AE(hs:X.stack=X.env::X.outer)(hfm:X.env.frame=U X.env.locals)(hex:X.ex=[])(I:Inv X pins σ H s){dx:gV}{oe:Obj}(he:s.heap.get? x=U oe)(hc:oe.cls=.ref C)
  (hdx:oe.dict=U dx) (hd:oe.data=.fields vs) (h1:vs[1]?=U .none) (nx:H x=Y) (x0:X.s₀.heap.get? x=Y) (q:E (.ref C) (U dx) H) :
  Ew (model X.prog X.w) X.A (leaving X.env (.ref x)) (λ_ s''=>mU X.prog X.w X.outer X.H₀ X.s₀ E (.ref x) s'') E' s:=by
 have hl:=I.stack
 have hfr:X.A.frames=U (X.env::X.outer):=by rw[<- hs];exact I.ok.frames
 have fin:∀ b∈(X.env::X.outer).filterMap (·.frame),H b=Y:=λb hb=>I.stkFree b (by rw[hs];exact hb)
 rw[hs] at hl
 have inL:∀ b o,X.s₀.heap.get? b=U o->b∉wx X.outer->b∉(X.env::X.outer).filterMap (·.frame):=λb o h0 nb z=>by
  rw[Xu,hfm] at z
  rcases WQ.mp z with z | z
  ·exact absurd (WG h0) (by rw[z];exact aaH.mpr I.ok.above)
  ·exact nb z
 have nxe:∀ b:gV,b∉X.ex:=λb=>by rw[hex];simp
 have no:∀ b o,X.s₀.heap.get? b=U o->¬ (b=x):=λb o h0 z=>by rw[z,x0] at h0;cases h0
 refine HT.Ad hfr hl hfm he hd h1 λh' T sz F Lf=>⟨x,T,C,dx,H,rfl,by rw[<- hc,<- hdx];exact F,nx,I.hok.fresh sz,x0,?_,I.os,I.bare,?_,?_,q⟩
 ·cases q0:X.s₀.heap.get? T with
  | none=>rfl
  | some o=>obtain⟨o',e'⟩:=I.base.there T o q0 (nxe T);exact absurd (WG e') (aaH.mpr sz)
 ·refine⟨λb o h0 n nb _=>?_,λb o h0 n hb _=>?_,λb o h0 n _=>I.base.free b o h0 n (nxe b),λb o h0 _=>?_,I.base.tups,I.base.frzs,I.base.tbls⟩
  ·exact Lf.keep b o (inL b o h0 nb) (no b o h0) (I.base.keep b o h0 n nb (nxe b))
  ·obtain⟨sl,e1⟩:=I.base.slot b o h0 n hb (nxe b)
   obtain⟨sl3,e3⟩:=Lf.slot b _ (by rw[Xu,hfm];exact WB _ hb) e1
   exact⟨sl3,e3⟩
  ·obtain⟨o',e'⟩:=I.base.there b o h0 (nxe b)
   by_cases hb:b∈(X.env::X.outer).filterMap (·.frame)
   ·obtain⟨sl,e3⟩:=Lf.slot b o' hb e';exact⟨_,e3⟩
   ·exact⟨o',Lf.keep b o' hb (no b o h0) e'⟩
 ·intro a o ha
  have tr:∀ b,(b=a\/H b=U (.own a))->H b≠Y:=λb hb z=>by
   rcases hb with hb | hb
   ·rw[hb,ha] at z;cases z
   ·rw[hb] at z;cases z
  exact(I.hok a o ha).stay (λb u hb hu=>Lf.keep b u (λz=>tr b hb (fin b z)) (λz=>tr b hb (z ▸ nx)) hu) (λ_ z=>z) λ_ _ z=>z
end
def uX(x C t:gV)(h:wo):Prop:=h.get? x=U ⟨.ref C,Y,.fields #[.ref t,.none,.none,.none,.bool false,.none],#[]⟩
def uW(x C t dx:gV)(h:wo):Prop:=h.get? x=U ⟨.ref C,U dx,.fields #[.ref t,.none,.none,.none,.bool false,.none],#[]⟩
structure uE(K:FA)(C:gV)(f:Str):Prop where
 sa:W.findIn K (.ref C) "__setattr__" = U (U (.builtin "object.__setattr__"))
 ve:HT.rV K C=true
 tk:W.takerIn K C f=U Y
 hd:W.hasDictIn K C=true
def sFldX(K:FA)(ta tv:TE)(f:Str):TS:=λD σ H=>tv σ H λy H1=>ta σ H1 λx H2=>∃ a C t,x=.ref a/\H2 a=U (.ext (uX a C t))/\uE K C f /\
 ∀ dx,H2 dx=Y->D.nx σ (upd (upd H2 a (.ext (uW a C t dx))) dx (.xd [(f,y)]))
section
variable{X:Cx}{o value:pc}{f:Str}{pos pos':Pos}{ta tv:TE}
theorem zc{s:gw}{Q:Unit->gw->Prop}(I:Inv X pins σ H s)(ea:H a=U (.ext (uX a C t)))(c:uE X.K C f)(ry:RelV y u)
  (h:∀ s' dx,H dx=Y->Inv X pins σ (upd (upd H a (.ext (uW a C t dx))) dx (.xd [(f,y)])) s'->Q () s'):Ew (model X.prog X.w) X.A (setAttr (.ref a) f u) Q E s:=by
 have e0:uX a C t s.heap:=(show ObjOk X.prog X.w H s.heap a (.ext (uX a C t)) from I.hok a _ ea).1
 have hn:=I.hok.fresh (WH s.heap.objs.size)
 have na:a≠s.heap.objs.size:=λz=>by rw[<- z,ea] at hn;cases hn
 refine HT.Nx I.kIn ⟨e0,rfl,rfl,trivial⟩ c.sa c.ve c.tk c.hd λh' t' hx hd k=>h _ s.heap.objs.size hn ?_
 have up:∀ b,b≠a->b≠s.heap.objs.size->upd (upd H a (.ext (uW a C t s.heap.objs.size))) s.heap.objs.size (.xd [(f,y)]) b=H b:=λb h1 h2=>by rw[aA h2,aA h1]
 have nT:∀ b o,H b=U o->b≠s.heap.objs.size:=λb o q z=>by rw[z,hn] at q;cases q
 have lt:∀ b o,s.heap.get? b=U o->b≠s.heap.objs.size:=λb o q=>WZ (WG q)
 refine I.un (s:=s) (h':=h') (t':=t') ⟨λb o q n _ _=>k b o (λz=>by rw[z,ea] at n;cases n) q,λb o q n _ _=>⟨o.slots,k b o (λz=>by rw[z,ea] at n;cases n) q⟩,λb o q n _=>?_,λb o q _=>?_,λb xs q=>?_,λb o u q=>?_,λb ps q=>⟨#[],?_⟩⟩ λb o q=>?_
 ·rw[up b (λz=>by rw[z,ea] at n;cases n) (lt b o q)];exact n
 ·by_cases z:b=a
  ·subst z;exact⟨_,hx⟩
  ·exact⟨o,k b o z q⟩
 ·rw[up b (λz=>by rw[z,ea] at q;cases q) (nT b _ q)];exact q
 ·rw[up b (λz=>by rw[z,ea] at q;cases q) (nT b _ q)];exact q
 ·rw[up b (λz=>by rw[z,ea] at q;cases q) (nT b _ q),q];simp
 ·by_cases z:b=s.heap.objs.size
  ·subst z
   rw[aB] at q;cases q
   refine⟨_,hd,λg=>?_⟩
   by_cases hg:g=f
   ·subst hg;rw[WN rfl];simp[List.lookup,RelO,ry]
   ·rw[WX hg]
    have hb:(g==f)=false:=Yh.mpr hg
    simp only[List.lookup,hb,RelO]
  ·by_cases z':b=a
   ·subst z'
    rw[aA z,aB] at q;cases q
    exact⟨hx,⟨_,hx⟩,λh1 h2 e1 e2=>e2 _ e1⟩
   ·rw[up b z' z] at q
    refine(I.hok b o q).stay (λc' u hc hu=>k c' u (λw=>?_) hu) (λc' hc=>?_) λc' xs hc=>?_
    ·rcases hc with hc | hc
     ·exact z' (hc ▸ w)
     ·rw[w,ea] at hc;cases hc
    ·rw[up c' (λw=>by rw[w,ea] at hc;cases hc) (nT c' _ hc)];exact hc
    ·rw[up c' (λw=>by rw[w,ea] at hc;cases hc) (nT c' _ hc)];exact hc
theorem NR(ha:PE X o ta)(hv:PE X value tv)(hs:swapsWith value (U (.Attribute o f pos')) pos.line X.env=pure false):PS X (.Assign [.Attribute o f pos'] value pos) (sFldX X.K ta tv f):=by
 intro pins s σ H D I h
 refine plainObj_wpAny_Assign_Attribute (cz (hv pins s σ H _ I h) λu s1 ⟨y,H1,I1,ry,q⟩=>cz (ha pins s1 σ H1 _ I1 q) λov s2 ⟨x,H2,I2,rx,a,C,t,ex,ea,c,q2⟩=>?_) hs
 subst ex
 obtain rfl:ov=Value.ref a:=rx
 exact zc I2 ea c ry λs3 dx hn I3=>⟨σ,_,I3,q2 dx hn⟩
end
section
variable{X:Cx}{pins:List (gV×Obj)}{σ:St}{H:Hp}{s:gw}
theorem Inv.letgo(I:Inv X pins σ H s)(hx:H x=U (.ext φ)):Inv X pins σ (λb=>if b=x then Y else H b) s:=by
 have ne:∀ {b:gV} {o:HO},H b=U o->(∀ ψ,o≠.ext ψ)->(if b=x then Y else H b)=U o:=λ{b o} q n=>by
  rw[WX λz=>?_];exact q
  rw[z,hx] at q;cases q;exact n _ rfl
 refine I.un (s:=s) (h':=s.heap) (t':=s.toks) ⟨λb o q _ _ _=>q,λb o q _ _ _=>⟨o.slots,q⟩,λb o q n _=>?_,λb o q _=>⟨o,q⟩,λb xs q=>ne q (by intro ψ z;cases z),λb o u q=>ne q (by intro ψ z;cases z),λb ps q=>⟨#[],by rw[ne q (by intro ψ z;cases z)];simp⟩⟩ λb o q=>?_
 ·show(if b=x then Y else H b)=Y
  split
  ·rfl
  ·exact n
 ·by_cases z:b=x
  ·simp[z] at q
  ·have q:H b=U o:=by simpa[z] using q
   exact(I.hok b o q).stay (λ_ _ _ hu=>hu) (λc hc=>ne hc (by intro ψ w;cases w)) λc xs hc=>ne hc (by intro ψ w;cases w)
end
def Bl(K:FA)(C f:gV):Prop:=∃ nm q N bs bm hdct sn sub ab col dd k0 k1 k2 k3 k5 newId mN bmB B initId,mN "__init__" = U (.ref f)/\ExcBaseFacts B newId initId bmB/\bm.contains (.type "BaseException")=true /\
 ∀ h:wo,K.In h->h.get? C=U (excClassObj nm q C N bs bm hdct sn sub ab col dd k0 k1 k2 k3 k5 newId)/\h.Ns N mN/\OwnTail h bmB bm/\∃ of,h.get? f=U of/\of.cls=.type "function"
def Do(P:pr)(w:sv)(K:FA)(mg:Str->Option dn)(base:wo)(k:Nat)(C f:gV)(fl:Str):Prop:=∀ (A:tx) (outer:List Env) (s:gw) (H:Hp) (x t:gV) (v:V) (u:dn),Room k A->Env0 P w K mg base A outer s H ->
 RelV v u->H x=U (.ext (uX x C t))->codeAny (model P w) A (.call (.ref f) ⟨[.ref x,u],[]⟩) (CR Bn outer P w H s (λr H'=>r=.non/\∃ dx,H dx=Y/\H'=upd (upd H x (.ext (uW x C t dx))) dx (.xd [(fl,v)])) E0) s
section
variable{X:Cx}{e:pc}{x:Str}{np cpos pos:Pos}{te:TE}{C f:gV}{fl:Str}{k:Nat}
def SL(C:gV)(fl:Str)(E:XK)(te:TE):TS:=λ_ σ H=>te σ H λy H1=>∀ dx,H1 dx=Y->E (.ref C) (U dx) (upd H1 dx (.xd [(fl,y)]))
theorem IP(R:Bl X.K C f)(N:Do X.prog X.w X.K X.mg X.base k C f fl)(hr:∀ us,Room k (X.A.under (.builtin "type.__call__" ⟨.ref C::us,[]⟩)))(hg:Gl X x)(hm:X.mg x=U (.ref C))(he:PE X e te)(hcalm:X.calm=true)
  (hs:X.stack=X.env::X.outer) (hfm:X.env.frame=U X.env.locals) (hex:X.ex=[])
  (hxe:∀ e' s',Ew (model X.prog X.w) X.A (leaving X.env e') (λ_ s''=>mU X.prog X.w X.outer X.H₀ X.s₀ E e' s'') (λ_ _=>False) s'->X.xe e' s')
  (hd:(x==("__debug__":Str))=false:=by decide) (hst:zH [e] X.env=(false,eval e X.env)::zH [] X.env:=by rfl) :
  PS X (.Raise (U (.Call (.Name x np) [e] [] cpos)) Y pos) (SL C fl E te):=by
 intro pins s σ H D I h
 have hh:=I.ok.hd hcalm
 obtain⟨nm,q,Nn,bs,bm,hdct,sn,sub,ab,col,dd,k0,k1,k2,k3,k5,newId,mN,bmB,B,initId,hni,F,hb,R⟩:=R
 rw[arm_exec_Raise]
 refine Wx (XE (HT.sO (C:=C) (nm:=nm) (q:=q) (N:=Nn) (bs:=bs) (bm:=bm) (hdct:=hdct) (sn:=sn) (sub:=sub) (ab:=ab) (col:=col) (dd:=dd) (k0:=k0) (k1:=k1) (k2:=k2) (k3:=k3) (k5:=k5) (newId:=newId) hb hh ?_))
 refine Wx (WV (wpAny_Call_ofName (rZ I hg hm ?_ hd)) (λv s₃ h₃=>Wx (XE (WA h₃))) λ_ _ z=>z)
 have ev:Ew (model X.prog X.w) X.A (evalArgs (.ref C) true (backTo cpos (zH [e] X.env)) []) (λa s₂=>∃ y u H1,a=⟨[u],[]⟩/\Inv X pins σ H1 s₂/\RelV y u/\∀ dx,H1 dx=Y->E (.ref C) (U dx) (upd H1 dx (.xd [(fl,y)]))) X.xe s:=by
  rw[hst]
  refine ZA (show Ew _ _ (spliced (backTo cpos ((false,eval e X.env)::zH [] X.env))) _ _ _ from ?_)
  rw[<- hst]
  exact spliced_more (cz (he pins s σ H _ I h) λu s1 ⟨y,H1,I1,ry,q1⟩=>spliced_none ⟨y,u,H1,rfl,I1,ry,q1⟩) hst
 have hplain:(backTo cpos (zH [e] X.env)).any (·.1)=false:=by rw[hst];rfl
 unfold callWith
 refine Wx (Xd (WV ev (λa s₂ h₂=>Wx (XE ?_)) λ_ _ z=>z))
 obtain⟨y,u,H1,rfl,I1,ry,q1⟩:=h₂
 obtain⟨hC,hn,T,of,hf,hfc⟩:=R s₂.heap I1.kIn
 obtain⟨hp,g,d,tk,os⟩:=s₂
 simp only[hplain]
 refine Wx (wpAny_keeperOf_exc hC ?_)
 refine Wx (HT.yC F T hC hn hni hf hfc (by rw[ZC];simp) ?_)
 have I2:Inv X pins σ (upd H1 (hp.objs.size+1) (.ext (uX (hp.objs.size+1) C hp.objs.size))) ⟨HT.uk hp C [u],g,d,tk,os⟩:=I1.laid (a:=hp.objs.size+1) (o:=.ext (uX (hp.objs.size+1) C hp.objs.size)) (t':=tk) (λb w z=>HT.hU z) (aau _) ⟨HT.qq,⟨_,HT.qq⟩,λh1 h2 e1 e2=>e2 _ e1⟩
 refine Zh (XH (N _ X.stack _ _ (hp.objs.size+1) hp.objs.size y u (hr [u]) (I2.env0.make C [u] []) ry aB) λr s' z=>?_)
 match r,z with
 | .ok (.ret v),z=>
  obtain⟨v',H',I3,rv,rfl,dx,hdx,rfl⟩:=I2.after z
  cases(show v=Value.none from rv)
  have ndx:dx≠hp.objs.size+1:=λw=>by rw[w,aB] at hdx;cases hdx
  have hx:(upd (upd (upd H1 (hp.objs.size+1) (.ext (uX (hp.objs.size+1) C hp.objs.size))) (hp.objs.size+1) (.ext (uW (hp.objs.size+1) C hp.objs.size dx))) dx (.xd [(fl,y)])) (hp.objs.size+1)=U (.ext (uW (hp.objs.size+1) C hp.objs.size dx)):=by rw[aA (Ne.symm ndx),aB]
  have e1:uW (hp.objs.size+1) C hp.objs.size dx s'.heap:=(show ObjOk X.prog X.w _ s'.heap _ (.ext (uW (hp.objs.size+1) C hp.objs.size dx)) from I3.hok _ _ hx).1
  have I4:=I3.letgo hx
  refine⟨rfl,Wx (Xd (wpAny_point (WA ⟨_,_,U dx,rfl,(R s'.heap I3.kIn).1,e1,hxe _ _ ?_⟩)))⟩
  refine AE hs hfm hex I4 e1 rfl rfl rfl rfl (by simp) ?_ ?_
  ·exact abf (Nat.le_succ_of_le I1.sz)
  ·have n1:H1 (hp.objs.size+1)=Y:=I1.hok.fresh (aau _)
   rw[aA ndx] at hdx
   have eq:(λb=>if b=hp.objs.size+1 then Y else upd (upd (upd H1 (hp.objs.size+1) (.ext (uX (hp.objs.size+1) C hp.objs.size))) (hp.objs.size+1) (.ext (uW (hp.objs.size+1) C hp.objs.size dx))) dx (.xd [(fl,y)]) b)=upd H1 dx (.xd [(fl,y)]):=by
    funext b
    by_cases z1:b=hp.objs.size+1
    ·rw[WN z1,z1,aA (Ne.symm ndx),n1]
    ·rw[WX z1]
     by_cases z2:b=dx
     ·rw[z2,aB,aB]
     ·rw[aA z2,aA z2,aA z1,aA z1]
   rw[eq]
   exact q1 dx hdx
end
section
variable{X:Cx}{pins:List (gV×Obj)}{σ:St}{H:Hp}{s s':gw}{E:XK}{e:dn}
theorem Inv.track(I:Inv X pins σ H s){ox:Obj}{φ:wo->Prop}(hx:s.heap.get? x=U ox)(hd:ox.data=.fields vs)(n:H x=Y)(x0:X.s₀.heap.get? x=Y)(hp:∀ p∈X.pn++pins,p.1≠x)
  (ok:φ s.heap) (st:∀ h1 h2:wo,φ h1->(∀ o,h1.get? x=U o->h2.get? x=U o)->φ h2):Inv X pins σ (upd H x (.ext φ)) s:=by
 have nl:X.env.locals≠x:=λz=>by
  obtain⟨m,⟨o,es,ep,ho,hdo,_⟩,_⟩:=I.loc
  rw[z,hx] at ho;cases ho;rw[hd] at hdo;cases hdo
 have ne0:∀ b o,X.s₀.heap.get? b=U o->b≠x:=λb o q z=>by rw[z,x0] at q;cases q
 have sm:∀ b o,H b=U o->upd H x (.ext φ) b=U o:=λb o q=>by rw[aA λz=>?_];exact q;rw[z,n] at q;cases q
 refine⟨I.ok,I.os,I.bare,⟨I.base.keep,I.base.slot,λb o q m ne=>by rw[aA (ne0 b o q)];exact I.base.free b o q m ne,I.base.there,λb xs q=>sm b _ (I.base.tups b xs q),λb o u q=>sm b _ (I.base.frzs b o u q),λb ps q=>?_⟩,I.loc,I.cell,?_,λy c q=>?_,λp q=>?_,λb o q=>?_,I.len⟩
 ·obtain⟨more,z⟩:=I.base.tbls b ps q
  exact⟨more,sm b _ z⟩
 ·rw[aA nl];exact I.free
 ·rw[aA λz=>?_];exact I.freeC y c q
  obtain⟨v,o,ho,hdo⟩:=I.cell y c q
  rw[z,hx] at ho;cases ho;rw[hd] at hdo;cases hdo
 ·obtain⟨h1,h2,h3⟩:=I.pin p q
  exact⟨h1,by rw[aA (hp p q)];exact h2,h3⟩
 ·by_cases z:b=x
  ·subst z
   rw[aB] at q;cases q
   exact⟨ok,⟨_,hx⟩,st⟩
  ·rw[aA z] at q
   exact(I.hok b o q).stay (λ_ _ _ hu=>hu) (λc hc=>sm c _ hc) λc xs hc=>sm c _ hc
structure yI(X:Cx)(pins:List (gV×Obj))(H:Hp)(s:gw)(x T C dx:gV):Prop where
 fly:HT.Fly s.heap x T (.ref C) (U dx)
 no:H T=Y
 old:X.s₀.heap.objs.size<=T
 pin:∀ p∈X.pn++pins,p.1≠T
theorem CC(hs:X.stack=X.env::X.outer)(hfm:X.env.frame=U X.env.locals)(hex:X.ex=[])(I:Inv X pins σ H s)(hx:mU X.prog X.w X.stack H s E e s'){Q:Unit->gw->Prop}
  (h:∀ s'' x T C dx H',e=.ref x->Inv X pins σ (upd H' x (.ext (lE x C dx))) s''->H' x=Y->E (.ref C) (U dx) H'->yI X pins H' s'' x T C dx->Q () s'') :
  Ew (model X.prog X.w) X.A (noteFrame e X.env) (λ_ s₂=>Ew (model X.prog X.w) X.A (setFlight e Y) Q E' s₂) E' s':=by
 obtain⟨x,T,C,dx,H',rfl,F,nx,nT,fx,fT,os,bare,un,hok,q⟩:=hx
 have fin:∀ b∈wx X.stack,H b=Y:=I.stkFree
 have hl:s'.heap.FunFrames X.base X.stack:=EO I.stack λb o hb ho=>un.slot b o ho (fin b hb) hb (by simp)
 have hfr:X.A.frames=U (X.env::X.outer):=by rw[<- hs];exact I.ok.frames
 rw[hs] at hl
 have nn:∀ b:gV,b∉([]:List gV):=λb=>by simp
 have fr':∀ b∈(X.env::X.outer).filterMap (·.frame),H' b=Y:=λb hb=>by
  have hb:b∈wx X.stack:=by rw[hs];exact hb
  obtain⟨_,o,ho,_⟩:=I.stack.mem hb
  exact un.free b o ho (fin b hb) (nn b)
 have no:∀ b o,s.heap.get? b=U o->¬ (b=x\/b=T):=λb o h0 z=>by
  rcases z with z | z
  ·rw[z,fx] at h0;cases h0
  ·rw[z,fT] at h0;cases h0
 refine HT.OO hfr hl hfm F λh' T' sz F' Lf=>?_
 have un':Un (wx X.stack) [] H H' s.heap h':=by
  refine⟨λb o h0 n nb _=>?_,λb o h0 n hb _=>?_,un.free,λb o h0 _=>?_,un.tups,un.frzs,un.tbls⟩
  ·exact Lf.keep b o (by rw[hs] at nb;exact nb) (no b o h0) (un.keep b o h0 n nb (nn b))
  ·obtain⟨sl2,e2⟩:=un.slot b o h0 n hb (nn b)
   obtain⟨sl3,e3⟩:=Lf.slot b _ (by rw[hs] at hb;exact hb) e2
   exact⟨sl3,e3⟩
  ·obtain⟨o',e'⟩:=un.there b o h0 (nn b)
   by_cases hb:b∈(X.env::X.outer).filterMap (·.frame)
   ·obtain⟨sl,e3⟩:=Lf.slot b o' hb e';exact⟨_,e3⟩
   ·exact⟨o',Lf.keep b o' hb (no b o h0) e'⟩
 have hok':HOk X.prog X.w H' h':=λa o ha=>by
  have tr:∀ b,(b=a\/H' b=U (.own a))->H' b≠Y:=λb hb z=>by
   rcases hb with hb | hb
   ·rw[hb,ha] at z;cases z
   ·rw[hb] at z;cases z
  refine(hok a o ha).stay (λb u hb hu=>Lf.keep b u (λz=>tr b hb (fr' b z)) (λz=>?_) hu) (λ_ z=>z) λ_ _ z=>z
  rcases z with z | z
  ·exact tr b hb (z ▸ nx)
  ·exact tr b hb (z ▸ nT)
 have I2:Inv X pins σ H' { s' with heap:=h' }:=I.call' (s':={ s' with heap:=h' }) (ch:=[]) os un' hok' bare λb z=>absurd z (by simp)
 obtain⟨_,⟨oe,vs,he,hc,hdx,hd,_⟩,_⟩:=id F'
 have x0:X.s₀.heap.get? x=Y:=by
  cases q0:X.s₀.heap.get? x with
  | none=>rfl
  | some o=>obtain⟨o1,e1⟩:=I.base.there x o q0 (by rw[hex];simp);rw[fx] at e1;cases e1
 have s0:X.s₀.heap.objs.size<=s'.heap.objs.size:=by
  refine Xa I.ok.above (Ze ?_)
  obtain⟨m,⟨o,es,ep,ho,_⟩,_⟩:=I.loc
  obtain⟨o',ho'⟩:=un.there _ o ho (nn _)
  exact WG ho'
 refine h _ x T' C dx H' rfl (I2.track he hd nx x0 (λp hp z=>?_) ⟨oe,vs,he,hc,hdx,hd⟩ λh1 h2 ⟨o,ws,z1,z2⟩ k=>⟨o,ws,k o z1,z2⟩) nx q ⟨F',hok.fresh sz,Xa s0 sz,λp hp z=>?_⟩
 rotate_left
 ·obtain⟨o',ho'⟩:=un.there p.1 p.2 (I.pin p hp).1 (nn _)
  exact absurd (WG ho') (by rw[z];exact aaH.mpr sz)
 have:=(I.pin p hp).1
 rw[z,fx] at this;cases this
theorem Gp{Q:Unit->gw->Prop}(I:Inv X pins σ (upd H' x (.ext φ)) s)(L:yI X pins H' s x T C dx)
  (h:∀ s',Inv X pins σ (upd H' x (.ext φ)) s'->yI X pins H' s' x T C dx->Q () s') {A:tx}:Ew (model X.prog X.w) A (setFlight (.ref x) Y) Q E' s:=by
 obtain⟨neT,⟨oe,vs,he,hc,hdx,hd,h1⟩,oT,ts,hT,hdT,h3⟩:=id L.fly
 have h3z:3<ts.size:=(YC.mp h3).1
 unfold setFlight
 refine Wx (Xr he hd h1 ?_)
 rw[WN (show(Value.ref T != Value.none)=true from by simp)]
 refine XB hT hdT h3z ?_
 have dT1:=Yo hdT (·.setIfInBounds 3 Value.none)
 have hT1:=Xh (Obj.mapFields (·.setIfInBounds 3 Value.none)) hT (Yr dT1)
 have ot:∀ b,b≠T->(s.heap.update T (Obj.mapFields (·.setIfInBounds 3 Value.none))).get? b=s.heap.get? b:=λb hb=>WT s.heap _ (Ne.symm hb)
 have nT:upd H' x (.ext φ) T=Y:=by rw[aA neT];exact L.no
 have I2:=I.call (h':=s.heap.update T (Obj.mapFields (·.setIfInBounds 3 Value.none))) (g':=s.gens) (d':=s.drawn) (t':=s.toks) (ch:=[T]) (H':=upd H' x (.ext φ))
  ⟨λb o q _ _ nb=>(ot b λz=>nb (by simp[z])).trans q,λb o q _ _ nb=>⟨o.slots,(ot b λz=>nb (by simp[z])).trans q⟩,λb o _ n _=>n,λb o q nb=>⟨o,(ot b λz=>nb (by simp[z])).trans q⟩,λ_ _ z=>z,λ_ _ _ z=>z,λb ps z=>⟨#[],by rw[z];simp⟩⟩
  (λa o ha=>(I.hok a o ha).stay (λb u hb hu=>(ot b λz=>by
   rcases hb with hb | hb
   ·rw[<- hb,z,nT] at ha;cases ha
   ·rw[z,nT] at hb;cases hb).trans hu) (λ_ z=>z) λ_ _ z=>z) I.bare (λb hb=>by
   obtain rfl:b=T:=by simpa using hb
   refine⟨.inr L.old,λz=>?_,λy c hc' z=>?_,L.pin⟩
   ·obtain⟨m,⟨o,es,ep,ho,hdo,_⟩,_⟩:=I.loc
    rw[<- z,hT] at ho;cases ho;rw[hdT] at hdo;cases hdo
   ·obtain⟨v,o,ho,hdo⟩:=I.cell y c hc'
    rw[z,hT] at ho;cases ho;rw[hdT] at hdo;cases hdo)
 exact h _ I2 ⟨⟨neT,⟨oe,vs,(ot x (Ne.symm neT)).trans he,hc,hdx,hd,h1⟩,⟨_,_,hT1,dT1,by simp[h3z]⟩⟩,L.no,L.old,L.pin⟩
end
section
variable{X:Cx}{k:Nat}{f:gV}{fd:FuncData}{ps:List Str}{sp:Sp}{dvs:List V}{ds:List dn}{E:XK}{x:Str}{p pos:Pos}{e:pc}{es:List pc}{t:TA}{pins:List (gV×Obj)}{σ:St}{H:Hp}{s:gw}{Q:VK}
def Wn(X:Cx)(pins:List (gV×Obj))(σ:St)(E:XK)(e:dn)(s':gw):Prop:=∃ H1 s1,Inv X pins σ H1 s1/\mU X.prog X.w X.stack H1 s1 E e s'
end
section
variable{X:Cx}{pins:List (gV×Obj)}{σ:St}{H:Hp}{s:gw}
theorem Inv.frame{h':wo}{t':Nat}{i:Nat}{x:Str}(I:Inv X pins σ H s)(hN:X.N.Nodup)(hi:X.N[i]?=U x)(hn':h'.Ns X.env.locals m')(hs:Heap.SameBut X.env.locals s.heap h')
  (hm:∃ m,s.heap.Ns X.env.locals m/\∀ y,y≠x->m' y=m y):Inv X pins (σ.set i Y) H { s with heap:=h',toks:=t' }:=by
 obtain⟨m0,hn,hl⟩:=id I.loc
 obtain⟨m,hnm,hm⟩:=hm
 have mm:m=m0:=by
  obtain⟨o,es,ep,e1,e2,e3,e4⟩:=hnm
  obtain⟨o',es',ep',f1,f2,f3,f4⟩:=hn
  rw[e1] at f1;cases f1
  rw[e2] at f2;cases f2
  funext y;rw[<- e4 y,f4 y]
 subst mm
 have nl:∀ b o,X.s₀.heap.get? b=U o->b≠X.env.locals:=λb o e=>WZ (WW (WG e) I.ok.above)
 refine⟨I.ok,I.os,I.bare,⟨λb o e n hb hx=>(hs.2 b (nl b o e)).trans (I.base.keep b o e n hb hx),λb o e n hb hx=>?_,I.base.free,λb o e hx=>?_,I.base.tups,I.base.frzs,I.base.tbls⟩,⟨m',hn',λj y v e1 e2 e3=>?_⟩,λy c e=>?_,I.free,I.freeC,λp hp=>?_,λb o q=>?_,by simpa using I.len⟩
 ·obtain⟨sl,e1⟩:=I.base.slot b o e n hb hx
  exact⟨sl,(hs.2 b (nl b o e)).trans e1⟩
 ·obtain⟨o',e1⟩:=I.base.there b o e hx
  exact⟨o',(hs.2 b (nl b o e)).trans e1⟩
 ·by_cases hj:j=i
  ·subst hj
   rw[List.getElem?_set] at e2
   split at e2
   ·split at e2<;>simp at e2
   ·rename_i z;exact absurd rfl z
  ·rw[Xl (Ne.symm hj)] at e2
   obtain⟨u,ru,lk⟩:=hl j y v e1 e2 e3
   have hy:y≠x:=λz=>hj (sV hN (z ▸ e1) hi)
   refine⟨u,ru,?_⟩
   rcases lk with ⟨k1,k2⟩ | ⟨k1,c,k2,k3⟩
   ·exact .inl ⟨k1,by rw[hm y hy];exact k2⟩
   ·refine .inr ⟨k1,c,k2,?_⟩
    obtain⟨o,ho,hd⟩:=k3
    exact⟨o,(hs.2 c (I.cne y c k2)).trans ho,hd⟩
 ·obtain⟨v,o,ho,hd⟩:=I.cell y c e
  exact⟨v,o,(hs.2 c (I.cne y c e)).trans ho,hd⟩
 ·obtain⟨h1,h2,h3,h4⟩:=I.pin p hp
  exact⟨(hs.2 _ h3).trans h1,h2,h3,h4⟩
 ·refine(I.hok b o q).stay (λc u hc hu=>(hs.2 c λz=>?_).trans hu) (λ_ z=>z) λ_ _ z=>z
  rcases hc with hc | hc
  ·rw[<- hc,z,I.free] at q;cases q
  ·rw[z,I.free] at hc;cases hc
theorem FP{A:tx}{i:Nat}{n:Str}{Q:Unit->gw->Prop}(I:Inv X pins σ H s)(hN:X.N.Nodup)(hi:X.N[i]?=U n)(hk:X.env.scope.names.lookup n=U .local)
  (h:∀ s',Inv X pins (σ.set i Y) H s'->Q () s'):Ew M A (do bindName X.env n .none;unbindBehindTheSuite X.env n pos) Q E s:=by
 have hcls:(X.env.scope.kind==.class||(X.env.scope.kind==.module&&X.env.locals != X.env.globals))=false:=by rw[I.ok.kind];rfl
 have hiσ:i < σ.length:=by rw[I.len];exact(WC.mp hi).1
 refine Wx (aay (iK I hN hi (.inl hk) (v:=.non) (u:=.none) rfl (λs1 I1=>?_) (.inr hk)))
 obtain⟨m,hn,hl⟩:=id I1.loc
 obtain⟨u,ru,lk⟩:=hl i n .non hi (Xv hiσ) (.inl hk)
 have hmn:m n=U u:=by
  rcases lk with ⟨_,z⟩ | ⟨z,_⟩
  ·exact z
  ·rcases z with z | z
   ·rw[show X.env.kindOf n=U .local from hk] at z;cases z
   ·rw[show X.env.kindOf n=U .local from hk] at z;cases z
 unfold unbindBehindTheSuite
 refine ZI (wpAny_unbindName_local hk hn hmn hcls λh' u' hn' hs'=>?_)
 have I2:=I1.frame (t':=s1.toks) hN hi hn' hs' ⟨m,hn,λy hy=>by simp[hy]⟩
 rw[List.set_set] at I2
 exact h _ I2
end
end L2
namespace HT
section
variable{M:Model}{A:tx}{E:dn->gw->Prop}{h:wo}{g:Array GenState}{d:Drawn}{t:Nat}{os:OsState}
variable{nm q nm' q':Str}{C N C' N':gV}{bs bm bs' bm':List dn}{hdct hdct':Bool}{sn sn':List Str}{sub sub':List dn}{ab ab':Bool}{col col':Option Bool}{dd dd':Option gV}{k0 k1 k2 k3 k5 l0 l1 l2 l3 l5:Option dn}{newId newId':String}
theorem zG{oe:Obj}{Q:Bool->gw->Prop}(hC:h.get? C=U (excClassObj nm q C N bs bm hdct sn sub ab col dd k0 k1 k2 k3 k5 newId))(hG:h.get? C'=U (excClassObj nm' q' C' N' bs' bm' hdct' sn' sub' ab' col' dd' l0 l1 l2 l3 l5 newId'))
  (he:h.get? e=U oe) (hcls:oe.cls=.ref C) (hin:(Value.ref C::bm).contains (.ref C')=true) (hbase:bm'.contains (.type "BaseException")=true)
  (hq:Q true ⟨h,g,d,t,os⟩):Ew M A (excMatches (.ref e) (.ref C')) Q E ⟨h,g,d,t,os⟩:=by
 have hcB:(Value.ref C'::bm').contains (.type "BaseException")=true:=by rw[ZP,hbase,aag]
 have f:=tc_notTuple
 unfold excMatches
 repeat (first | (with_reducible refine Ya he ?_;rw[hcls]) | with_reducible refine Ya hG ?_ | (with_reducible refine YW hG ?_;rw[hcB]) | (with_reducible refine YW hC ?_;rw[hin]) | wp_step)
 exact hq
end
end HT
namespace L2
noncomputable abbrev Cx.suite(X:Cx)(v:dn)(E:dn->gw->Prop):Cx:={ X with A:=X.A.mark (U v),calm:=false,xe:=E }
section
variable{X:Cx}{pins:List (gV×Obj)}{σ:St}{H:Hp}{s:gw}{v:dn}{E:dn->gw->Prop}
theorem Cx.Ok.suite(ok:X.Ok):(X.suite v E).Ok:=⟨ok.mod,ok.kind,ok.glob,ok.blt,ok.above,ok.inj,ok.has,ok.cab,(λz=>by cases z),ok.frames,ok.stk,ok.exf,ok.bs,ok.bsz,ok.noex,ok.exfs,ok.funs,ok.frf⟩
theorem Inv.suite(I:Inv X pins σ H s):Inv (X.suite v E) pins σ H s:=⟨I.ok.suite,I.os,I.bare,I.base,I.loc,I.cell,I.free,I.freeC,I.pin,I.hok,I.len⟩
theorem Inv.unsuite(ok:X.Ok)(I:Inv (X.suite v E) pins σ H s):Inv X pins σ H s:=⟨ok,I.os,I.bare,I.base,I.loc,I.cell,I.free,I.freeC,I.pin,I.hok,I.len⟩
def uB(K:FA)(C:gV)(bm:List dn):Prop:=∃ nm q N bs hdct sn sub ab col dd k0 k1 k2 k3 k5 newId,∀ h:wo,K.In h->h.get? C=U (excClassObj nm q C N bs bm hdct sn sub ab col dd k0 k1 k2 k3 k5 newId)
theorem Gm{C:gV}{g:Str}{i:Nat}{n:Str}{b₀:tu}{suite:List tu}{D:ny}(I:Inv X pins σ (upd H' x (.ext (lE x C dx))) s)(L:yI X pins H' s x T C dx)
  (hC:uB X.K C bm) (hG:uB X.K G bmG) (hin:(Value.ref C::bm).contains (.ref G)=true) (hb:bmG.contains (.type "BaseException")=true) (hg:Gl X g) (hm:X.mg g=U (.ref G)) (hN:X.N.Nodup) (hi:X.N[i]?=U n) (hk:X.env.scope.names.lookup n=U .local)
  (hS:∀ v,PSs (X.suite v λ_ _=>False) (b₀::suite) ts) (h:ts { nx:=λσ' H1=>D.nx (σ'.set i Y) H1,rt:=λ_ _=>False } (σ.set i (U (.ref x))) (upd H' x (.ext (lE x C dx)))) (hd:(g==("__debug__":Str))=false:=by decide) :
  Ew (model X.prog X.w) X.A (handleBy (.ref x) X.env [.ExceptHandler (U (.Name g gp)) (U n) (b₀::suite) hp]) (SP X pins D) E s:=by
 obtain⟨nm,q,N,bs,hdct,sn,sub,ab,col,dd,k0,k1,k2,k3,k5,newId,hC⟩:=hC
 obtain⟨nm',q',N',bs',hdct',sn',sub',ab',col',dd',l0,l1,l2,l3,l5,newId',hG⟩:=hG
 have ek:lE x C dx s.heap:=(show ObjOk X.prog X.w _ s.heap x (.ext (lE x C dx)) from I.hok x _ aB).1
 obtain⟨oe,_,he,hc,_⟩:=ek
 refine wpAny_handleBy_cons (codeAny_handlers_test (Zd I.ok.kind hg (aaQ (by rw[I.ok.glob];exact I.mod.glob.keeps I.bk) hm ?_) hd)) (by intro z;cases z)
 have I0:=I
 have L0:=L
 obtain⟨hh,gg,ddr,tk,os⟩:=s
 refine HT.zG (hC hh I0.kIn) (hG hh I0.kIn) he hc hin hb ?_
 show codeAny _ _ _ _ _
 refine codeAny_handlers_suite_as (Gp I0 L0 λs1 I1 L1=>?_)
 refine iK I1 hN hi (.inl hk) (v:=.ref x) (u:=.ref x) rfl (λs2 I2=>?_) (.inr hk)
 refine WV (hS (.ref x) pins s2 _ _ _ I2.suite h) (λf s3 z=>?_) λ_ _ z=>z.elim
 match f,z with
 | .next,⟨σ',H1,I3,q3⟩=>exact FP (I3.unsuite I.ok) hN hi hk λs4 I4=>⟨_,H1,I4,q3⟩
 | .brk,⟨_,_,_,q3⟩=>exact q3.elim
 | .cont,⟨_,_,_,q3⟩=>exact q3.elim
 | .ret _,⟨_,_,_,_,_,q3⟩=>exact q3.elim
end
section
variable{X:Cx}{k:Nat}{f:gV}{fd:FuncData}{ps:List Str}{sp:Sp}{dvs:List V}{ds:List dn}{x:Str}{p cpos p1:Pos}{e:pc}{es:List pc}{t:TA}
def exAs(X:Cx)(G:gV)(i:Nat)(ts:TS)(D:ny)(σ:St):XK:=λCv od H1=>∃ C dx bm,Cv=.ref C/\od=U dx/\uB X.K C bm/\(Value.ref C::bm).contains (.ref G)=true /\
 ∀ a,H1 a=Y->ts { nx:=λσ' H2=>D.nx (σ'.set i Y) H2,rt:=λ_ _=>False } (σ.set i (U (.ref a))) (upd H1 a (.ext (lE a C dx)))
end
def Im(K:FA)(C:gV)(fl:Str):Sp:=λvs H Q _=>∃ x t v,vs=[.ref x,v]/\H x=U (.ext (uX x C t))/\uE K C fl/\∀ dx,H dx=Y->Q .non (upd (upd H x (.ext (uW x C t dx))) dx (.xd [(fl,v)]))
theorem Pd{K:FA}{k:Nat}(F:FnOk P w K mg base Bn k f fd ps (Im K C fl))(hb:Binds K fd ps [])(hl:ps.length=2)(c:uE K C fl) :
  Do P w K mg base k C f fl:=λA outer s H x t v u hr e0 rv hx=>by
 have KX:K.In s.heap:=e0.mod.kin.keeps λb o e=>(e0.bs b o e).1
 have b:=hb s [.ref x,u] KX (by rw[hl];rfl)
 exact F.run A outer s H ⟨[.ref x,u],[]⟩ ([.ref x,u]++[]) [.ref x,v] _ E0 hr e0 b (.cons rfl (.cons rv .nil)) ⟨x,t,v,rfl,hx,c,λdx hdx=>⟨rfl,dx,hdx,rfl⟩⟩
theorem Pe{K:FA}{k:Nat}{kV oc:dn}{od:Option gV}{osl:Array (Option dn)}
  (lk:K.lookup f=U ⟨oc,od,.func (W.fnOf name qual params [.Assign [.Attribute (.Name a p1) fl p2] (.Name b p3) pos] scope dV kV doc pm an cdv ct),osl⟩) (hcd:W.codeIn K cdv qual=true) (S:aN [a,b] [a,b] scope)
  (a1:(a==("__debug__":Str))=false) (a2:(a==("__classdict__":Str))=false) (b1:(b==("__debug__":Str))=false) (b2:(b==("__classdict__":Str))=false) :
  FnOk P w K mg base Bn (k+1) f (W.fnOf name qual params [.Assign [.Attribute (.Name a p1) fl p2] (.Name b p3) pos] scope dV kV doc pm an cdv ct) [a,b] (Im K C fl):=
 KB lk hcd S (λvs H Q E ⟨x,t,v,e,_⟩=>by rw[e];rfl) λA outer s H vs Q E hr z0=>by
  obtain⟨x,t,v,ev,hx,c,q⟩:=z0
  subst ev
  have vis:∀ y∈[a,b],QQ scope y:=λy hy=>(S.par y hy).elim .inl λz=>.inr (.inl z)
  exact⟨_,xF (NR (pv 0 (hv:=vis a (by simp)) (hd:=a1) (hcd:=a2)) (pv 1 (hv:=vis b (by simp)) (hd:=b1) (hcd:=b2)) rfl),v,rfl,.ref x,rfl,x,C,t,rfl,hx,c,q⟩
end L2
namespace HT
open PySem PySem.Spec PySem.Calls PyProof.Rows PySem.W Builtin Builtin.ObjectAttr
structure lN(K:Frag)(C:gV):Prop where
 ga:findIn K (.ref C) "__getattribute__" = U (U (.builtin "BaseException.__getattribute__"))
 gt:findIn K (.ref C) "__getattr__" = U Y
 mb:mroIn K C (.type "BaseException")=U true
section
variable{prog:pr}{w:sv}{A:tx}{E:dn->gw->Prop}{s:gw}{K:Frag}{x C:gV}{ox:Obj}{od:Option Obj}{name:Str}{expr fill:Bool}{Q:dn->gw->Prop}{tk:Tok}
theorem GV{nameV:dn}{Q:Unit->gw->Prop}(X:K.In s.heap)(I:InstAt s.heap x ox C od)(W:lN K C)(hq:Q () s):Ew M A (checkBuiltinCall "BaseException.__getattribute__" ⟨[.ref x,nameV],[]⟩) Q E s:=by
 have hk:builtinKind "BaseException.__getattribute__" = U .slot:=by decide +kernel
 have hsplit:splitId "BaseException.__getattribute__" = U ("BaseException","__getattribute__"):=by decide +kernel
 have ha:=F.args_bexc_ga (.ref x) nameV
 have L0:=I.type (M:=M)
 have L1:=looks_mroIn (M:=M) X W.mb
 have L:Looks M s.heap (isInstance (.ref x) (.type "BaseException")) true:=L0.andThen L1
 simp only[checkBuiltinCall,hk,hsplit]
 refine Wx (L.at ?_)
 repeat (first | assumption | wp_step)
theorem La(X:K.In s.heap)(I:InstAt s.heap x ox C od)(W:lN K C)
  (h:codeAny (model prog w) A (.call (.builtin "BaseException.__getattribute__") ⟨[.ref x,.str name tk],[]⟩) (λr s'=>∃ v,r=.ok (.ret v)/\Ew (model prog w) A (handedOut v) Q E s') s) :
  Ew (model prog w) A (getAttrBy (.ref x) (.str name tk) fill expr) Q E s:=by
 obtain⟨hh,g,d,t,os⟩:=s
 have L0:=I.type (M:=model prog w)
 have L1:=looks_findIn (M:=model prog w) X W.ga
 have L2:=looks_findIn (M:=model prog w) X W.gt
 have hx0:(expr&&onTheHeap (Value.builtin "BaseException.__getattribute__"))=false:=by cases expr<;>rfl
 have f3:=F.attr_ValueError.ga.bind (.ref x)
 unfold getAttrBy
 refine Xd (Wx (L0.at (Wx (L1.at ?_))))
 show Ew _ _ (getAttrByItsOwn _ _ _ _ _ _) _ _ _
 unfold getAttrByItsOwn
 refine Wx ((show Looks (model prog w) hh (hookBefore (.ref C)) Y from L2).at ?_)
 unfold callGetattribute boundAndCalled
 rw[hx0,f3]
 refine Wx (ZJ (Xd ?_))
 refine Wx (WA (Zh (XH h λr s' z=>?_)))
 obtain⟨v,rfl,z⟩:=z
 exact z
theorem AN{R:Result->gw->Prop}(X:K.In s.heap)(I:InstAt s.heap x ox C od)(W:lN K C)
  (h:Ew (model prog w) A.in1 (Builtin.«object.__getattribute__» ⟨[.ref x,.str name tk],[]⟩) (λfin s'=>match fin with | .done f=>R (.ok f) s' | .again c'=>c'.quiet=true/\codeAny (model prog w) A c' R s') (λe s'=>R (.error e) s') s) :
  codeAny (model prog w) A (.call (.builtin "BaseException.__getattribute__") ⟨[.ref x,.str name tk],[]⟩) R s:=
 Zz F.attr_ValueError.ga.plain F.entry_bexc_ga (GV X I W h)
theorem Gu(X:K.In s.heap)(I:InstAt s.heap x ox C od)(W:lN K C)(hf:findObj K C od name=U (.value v))(hh:handedIn v=true)(h:Q v { s with toks:=s.toks+1 }):Ew (model prog w) A (getAttr (.ref x) name expr) Q E s:=by
 unfold getAttr
 refine Wx (wpAny_mkText (La X I W (AN X I W ?_)))
 obtain⟨hp,g,d,t,os⟩:=s
 have L0:=I.type (M:=model prog w)
 have L1:=looks_find (M:=model prog w) X I hf
 unfold Builtin.«object.__getattribute__»
 refine Wx (WA (Wx (WA (Wx (L0.at (Wx (L1.at ?_)))))))
 refine WA ⟨v,rfl,?_⟩
 rw[handedOut_of hh]
 exact WA h
theorem Gv{D:gV}{od:Obj}{Q:Option dn->gw->Prop}(X:K.In s.heap)(I:InstAt s.heap x ox D (U od))(W:lN K D)(hdct:hasDictIn K D=true)(ha:findIn K (.ref D) "__class__" = U (U (.builtin "object.__class__")))
  (hn:specialIn K (.builtin "object.__class__") "__get__" = U (U (.builtin "getset_descriptor.__get__"))) (htk:takesIn K (.builtin "object.__class__")=U true) (hm:mroIn K D (.type "object")=U true)
  (h:Q (U (.ref D)) { s with toks:=s.toks+1 }):Ew (model prog w) A (getAttr? (.ref x) "__class__") Q E s:=by
 have hf:findObj K D (U od) "__class__" = U (.bind (.builtin "getset_descriptor.__get__") (.builtin "object.__class__")):=findObj_data (by obtain⟨cd,hc,_⟩:=any_some hdct;rw[hc];rfl) ha hn htk
 unfold getAttr? getAttrBy?
 refine Wx (wpAny_mkText (Wx (ZJ (La X I W (AN X I W ?_)))))
 obtain⟨hp,g,d,t,os⟩:=s
 have L0:=I.type (M:=model prog w)
 have L1:=looks_find (M:=model prog w) X I hf
 unfold Builtin.«object.__getattribute__»
 refine Wx (WA (Wx (WA (Wx (L0.at (Wx (L1.at ?_)))))))
 show Ew _ _ (holding [Value.builtin "object.__class__"] (call (.builtin "getset_descriptor.__get__") [.builtin "object.__class__",.ref x,.ref D]) >>= ret) _ _ _
 refine Wx (Xd (Zh (class_get (s:=⟨hp,g,d,t+1,os⟩) (ox:=ox) (od:=U od) X I hm ?_)))
 exact WA ⟨_,rfl,WA (WA h)⟩
theorem Af{D:gV}{ox od:Obj}(W:lN K D)(hdct:hasDictIn K D=true)(ha:findIn K (.ref D) "__class__" = U (U (.builtin "object.__class__")))
  (hn:specialIn K (.builtin "object.__class__") "__get__" = U (U (.builtin "getset_descriptor.__get__"))) (htk:takesIn K (.builtin "object.__class__")=U true) (hm:mroIn K D (.type "object")=U true) :
  KitX K (.ref x) (.ref D) (λh=>InstAt h x ox D (U od)) where
 ty:=λ_ _ _ I=>I.type
 it:=λ_ _ X _=>by
  obtain⟨cdD,hcD,_⟩:=any_some hdct
  unfold clsIn at hcD
  split at hcD
  ·rename_i ho
   intro A' Q' E' s' k q
   unfold isType loadHead
   exact Wx (wpAny_loadPart (k _ _ (X _ _ ho)) (WA q))
  ·cases hcD
 ne:=λh tp dd its n sl X htp=>by
  obtain⟨cdD,hcD,_⟩:=any_some hdct
  refine Bool.eq_false_iff.mpr λq=>?_
  have e:D=tp:=Value.ref.inj (beq_iff_eq.mp q)
  subst e
  unfold clsIn at hcD
  split at hcD
  ·rename_i ho
   have z:=(X _ _ ho).symm.trans htp
   cases z
  ·cases hcD
 ca:=λX I k=>Gv X I W hdct ha hn htk hm k
end
end HT
namespace L2
structure uD(K:FA)(C:gV)(f:Str):Prop where
 wy:HT.lN K C
 hd:W.hasDictIn K C=true
 no:W.findIn K (.ref C) f=U Y
def tFldX(K:FA)(ta:TE)(f:Str):TE:=λσ H Q=>ta σ H λx H1=>∃ a C dx fs v,x=.ref a/\H1 a=U (.ext (lE a C dx))/\H1 dx=U (.xd fs)/\uD K C f/\fs.lookup f=U v/\Q v H1
section
variable{X:Cx}{e:pc}{f:Str}{pos:Pos}{ta:TE}
theorem Od(he:PE X e ta)(hb:attributeBase e f X.env (eval e X.env)=eval e X.env):PE X (.Attribute e f pos) (tFldX X.K ta f):=by
 intro pins s σ H Q I h
 refine QI hb (cz (he pins s σ H _ I h) λu s1 ⟨x,H1,I1,rx,a,C,dx,fs,v,ex,ea,ed,c,l,q⟩=>?_)
 subst ex
 obtain rfl:u=Value.ref a:=rx
 obtain⟨oe,ws,h1,h2,h3,h4⟩:lE a C dx s1.heap:=(show ObjOk X.prog X.w _ s1.heap a (.ext (lE a C dx)) from I1.hok a _ ea).1
 obtain⟨mA,hn,r⟩:=(show ObjOk X.prog X.w _ s1.heap dx (.xd fs) from I1.hok dx _ ed)
 obtain⟨u',hu,ru⟩:=RelO.some_of (v:=v) (o:=mA f) (by rw[<- l];exact r f)
 obtain⟨od,ho,hl⟩:=wb hn
 have J:W.InstAt s1.heap a oe C (U od):=⟨h1,h2,by obtain⟨_,_,d,_⟩:=oe;cases h4;rfl,by rw[h3];exact ho⟩
 exact HT.Gu I1.kIn J c.wy (W.findObj_own c.hd c.no rfl (by rw[hl,hu])) (Gn ru) ⟨v,H1,I1.tok _,ru,q⟩
end
end L2
namespace M
open L2
inductive QS where
 | ok (o:qA)
 | xc (i:Option Int) (S:ac)
noncomputable abbrev MY:=ax->ac->Option QS
inductive RY where
 | val (d:D) (S:ac)
 | xc (i:Option Int) (S:ac)
def PostX(K:FA)(C:gV)(fl:Str)(μ:Fp)(H:Hp)(S':ac)(i:Option Int)(E:XK):Prop:=∀ dx H' μ',Ext μ H μ' H'->SOk K μ' S' H'->H' dx=Y->E (.ref C) (U dx) (upd H' dx (.xd [(fl,vI i)]))
def PostY(K:FA)(C:gV)(fl:Str)(E:XK)(μ:Fp)(H:Hp)(o:QS)(D:ny):Prop:=match o with
 | .ok o=>PostS K μ H o D
 | .xc i S'=>PostX K C fl μ H S' i E
inductive tY(K:FA)(C:gV)(fl:Str)(E:XK)(m:MY)(D:ny)(σ:L2.St)(H:Hp):Prop
 | mk (μ:Fp) (S:ac) (env:ax) (o:QS) (hS:SOk K μ S H) (hE:EOk K μ H σ env) (h:m env S=U o) (post:PostY K C fl E μ H o D)
def DY(X:Cx)(C:gV)(fl:Str)(E:XK)(st:tu)(m:MY):Prop:=PS X st (tY X.K C fl E m)
def QT(X:Cx)(C:gV)(fl:Str)(E:XK)(st:List tu)(m:MY):Prop:=PSs X st (tY X.K C fl E m)
structure XOk(X:Cx)(E:XK):Prop where
 hs:X.stack=X.env::X.outer
 hfm:X.env.frame=U X.env.locals
 hex:X.ex=[]
 hxe:∀ e' s',Ew (model X.prog X.w) X.A (leaving X.env e') (λ_ s''=>mU X.prog X.w X.outer X.H₀ X.s₀ E e' s'') (λ_ _=>False) s'->X.xe e' s'
section
variable{X:Cx}{K:FA}{μ μ':Fp}{H H':Hp}{S S':ac}{C:gV}{fl:Str}{E:XK}{Z:ny}{st:tu}{pos:Pos}
theorem PostX.ext(e:Ext μ H μ' H')(p:PostX K C fl μ H S' i E):PostX K C fl μ' H' S' i E:=λdx H2 μ2 e2 s n=>p dx H2 μ2 (e.trans e2) s n
theorem PostY.ext(e:Ext μ H μ' H')(p:PostY K C fl E μ H o Z):PostY K C fl E μ' H' o Z:=by
 cases o with
 | ok o=>exact PostS.ext e p
 | xc i S=>exact PostX.ext e p
def pj(m:MS):MY:=λenv S=>(m env S).bind λo=>U (.ok o)
theorem LA(h:DS X st m):DY X C fl E st (pj m):=PS.imp h λD σ H z0=>by
 obtain⟨μ,S,env,o,hS,hE,hm,post⟩:=z0
 obtain⟨o1,h1,hm⟩:=Ww.mp hm
 cases hm
 exact⟨μ,S,env,o1,hS,hE,h1,post⟩
theorem PM:QT X C fl E [] (pj aL):=PSs.imp Fb λD σ H z0=>by
 obtain⟨μ,S,env,o,hS,hE,hm,post⟩:=z0
 obtain⟨o1,h1,hm⟩:=Ww.mp hm
 cases hm
 exact⟨μ,S,env,o1,hS,hE,h1,post⟩
def fz(a b:MY):MY:=λenv S=>(a env S).bind λo=>match o with | .ok (.nx env' S')=>b env' S' | o=>U o
theorem Lz(h1:DY X C fl E st a)(h2:QT X C fl E rest b):QT X C fl E (st::rest) (fz a b):=PSs.imp (zl h1 h2) λD σ H z0=>by
 obtain⟨μ,S,env,o,hS,hE,hm,post⟩:=z0
 obtain⟨o1,h1,hm⟩:=Ww.mp hm
 refine⟨μ,S,env,o1,hS,hE,h1,?_⟩
 match o1,hm with
 | .ok (.nx env' S'),hm=>exact λσ' H' μ' e s r=>⟨μ',S',env',o,s,r,hm,post.ext e⟩
 | .ok (.rt d S'),hm=>cases hm;exact post
 | .ok (.bk d S'),hm=>cases hm;exact post
 | .ok (.ct d S'),hm=>cases hm;exact post
 | .xc i S',hm=>cases hm;exact post
theorem PL(h1:DY X C fl E st a):QT X C fl E [st] a:=xF h1
def uS(t:MT)(a b:MY):MY:=λenv S=>(t env S).bind λp=>if p.1=true then a env p.2 else b env p.2
theorem dy_if{mt:MT}{mb:MY}(hc:DT X c mt)(ha:QT X C fl E a ma)(hb:QT X C fl E b mb):DY X C fl E (.If c a b pos) (uS mt ma mb):=PS.imp (Rn hc ha hb) λD σ H z0=>by
 obtain⟨μ,S,env,o,hS,hE,hm,post⟩:=z0
 obtain⟨⟨k,S1⟩,h1,hm⟩:=Ww.mp hm
 refine⟨μ,S,env,k,S1,hS,hE,h1,λH1 μ1 e1 s1=>?_⟩
 cases k with
 | true=>rw[WN rfl] at hm ⊢;exact⟨μ1,S1,env,o,s1,hE.mono e1,hm,post.ext e1⟩
 | false=>rw[WX WJ] at hm ⊢;exact⟨μ1,S1,env,o,s1,hE.mono e1,hm,post.ext e1⟩
def ydI:D->Option (Option Int)
 | .non=>U Y
 | .int i=>U (U i)
 | _=>Y
def ydD:Option Int->D
 | none=>.non
 | some i=>.int i
theorem MZ{d:D}{i:Option Int}(r:Rep K μ H v d)(h:ydI d=U i):v=vI i:=by
 cases d<;>first | (cases h;cases r;rfl) | cases h
theorem Na:Rep K μ H (vI i) (ydD i):=by
 cases i with
 | none=>exact .non
 | some i=>exact .int i
def gU(m:ME):MY:=λenv S=>(m env S).bind λp=>(ydI p.1).bind λi=>U (.xc i p.2)
def Bi(P:pr)(w:sv)(K:FA)(mg:Str->Option dn)(base:wo)(x:Str)(C:gV)(fl:Str):Prop:=∃ f,Bl K C f/\Do P w K mg base 1 C f fl/\mg x=U (.ref C)
theorem LB(R:Bi X.prog X.w X.K X.mg X.base x C fl)(hr:Room 2 X.A)(hg:Gl X x)(he:DE X e m)(hcalm:X.calm=true)(O:XOk X E)
  (hd:(x==("__debug__":Str))=false) (hst:zH [e] X.env=(false,eval e X.env)::zH [] X.env):DY X C fl E (.Raise (U (.Call (.Name x np) [e] [] cpos)) Y pos) (gU m):=by
 obtain⟨f,R,N,hm⟩:=R
 refine PS.imp (IP (E:=E) R N (λus=>hr.make C us []) hg hm he hcalm O.hs O.hfm O.hex O.hxe hd hst) λD σ H ⟨μ,S,env,o,hS,hE,hm,post⟩=>?_
 obtain⟨⟨d,S1⟩,h1,hm⟩:=Ww.mp hm
 obtain⟨i,h2,hm⟩:=Ww.mp hm
 cases hm
 refine⟨μ,S,env,d,S1,hS,hE,h1,λv H1 μ1 e1 s1 r1 dx n=>?_⟩
 rw[MZ r1 h2]
 exact post dx H1 μ1 e1 s1 n
end
def spY(K:FA)(C:gV)(fl:Str)(n:Nat)(fy:List D->ac->Option RY):Sp:=λvs H Q E=>∃ μ S ds r,SOk K μ S H/\Reps K μ H vs ds/\ds.length=n/\fy ds S=U r/\match r with | .val d S'=>Post K μ H S' d Q | .xc i S'=>PostX K C fl μ H S' i E
structure FnY(P:pr)(w:sv)(K:FA)(mg:Str->Option dn)(base:wo)(k:Nat)(x:Str)(n:Nat)(fy:List D->ac->Option RY)(C:gV)(fl:Str):Prop where
 ex:∃ (a:gV) (fd:FuncData) (ps:List Str),ps.length=n/\FnOk P w K mg base (mU P w) k a fd ps (spY K C fl n fy)/\mg x=U (.ref a)/\W.keepIn K (.ref a)=true/\Binds K fd ps []
theorem FnY.up{K:FA}{k k':Nat}(F:FnY P w K mg base k x n fy C fl)(h:k<=k':=by decide):FnY P w K mg base k' x n fy C fl:=by
 obtain⟨a,fd,ps,h1,h2,h3⟩:=F.ex
 exact⟨a,fd,ps,h1,h2.mono h,h3⟩
def pJ(N:List Str)(m:MY)(n:Nat):List D->ac->Option RY:=λds S=>if ds.length=n then(m (aV N ds) S).bind λo=>match o with | .ok (.rt d S')=>U (.val d S') | .ok (.nx _ S')=>U (.val .non S') | .xc i S'=>U (.xc i S') | _=>Y else Y
theorem xok{K:FA}{A:tx}{s:gw}:XOk (rQ (mU P w) P w K mg base N q sc a cdv A outer s H E) E:=
 ⟨rfl,rfl,rfl,λe s' h=>WV h (λ_ _ z=>z) λ_ _ z=>z.elim⟩
theorem Vm{K:FA}{k:Nat}{st:tu}
  (F:bS K mg x st) (Sc:aN N ps (ar st)) (hb:nA x st ps)
  (hbody:∀ (a:gV) (cdv:dn) (A:tx) (outer:List PySem.Env) (s:gw) (H:Hp) (E:XK),Room k (A.deeper (envOfC x (ar st) s.heap.objs.size a cdv)) ->
   QT (rQ (mU P w) P w K mg base N x (ar st) a cdv A outer s H E) C fl E (aE st) m) :
  FnY P w K mg base (k+1) x ps.length (pJ N m ps.length) C fl:=by
 obtain⟨a,fd,F,hmg⟩:=F.ex
 have hbd:=F.binds hb
 refine⟨a,fd,ps,rfl,?_,hmg,F.kp,hbd⟩
 obtain⟨oc,od,kV,doc,pm,an,cdv,ct,osl,rfl,lk,hcd⟩:=F.ex
 refine KB lk hcd Sc (λvs H Q E ⟨μ,S,ds,r,hS,hr,hn,_⟩=>by rw[hr.length,hn]) λA outer s H vs Q E hr ⟨μ,S,ds,r,hS,hrp,hn,hf,post⟩=>⟨_,hbody a cdv A outer s H E hr,?_⟩
 have hEnv:EOk K μ H (L2.start N vs) (aV N ds):=by unfold L2.start aV;rw[hrp.length];exact EOk.start hrp
 unfold pJ at hf
 rw[WN hn] at hf
 obtain⟨o,h1,hf⟩:=Ww.mp hf
 match o,hf with
 | .ok (.rt d S'),hf=>cases hf;exact⟨μ,S,_,_,hS,hEnv,h1,post⟩
 | .ok (.nx e S'),hf=>cases hf;exact⟨μ,S,_,_,hS,hEnv,h1,λσ' H' μ' e s' _=>post .non H' μ' e s' .non⟩
 | .xc i S',hf=>cases hf;exact⟨μ,S,_,_,hS,hEnv,h1,post⟩
def Bk(K:FA)(mg:Str->Option dn)(g:Str)(C:gV):Prop:=∃ G bm bmG,mg g=U (.ref G)/\uB K C bm/\uB K G bmG/\(Value.ref C::bm).contains (.ref G)=true/\bmG.contains (.type "BaseException")=true
section
variable{X:Cx}{K:FA}{μ μ':Fp}{H H':Hp}{S S':ac}{C:gV}{fl:Str}
theorem EOk.unset:∀ {σ:L2.St} {env:ax} (i:Nat),EOk K μ H σ env->EOk K μ H (σ.set i Y) (env.set i Y)
 | _,_,_,.nil=>.nil
 | _,_,0,.no t=>.no t
 | _,_,0,.yes _ t=>.no t
 | _,_,i+1,.no t=>.no (EOk.unset i t)
 | _,_,i+1,.yes h t=>.yes h (EOk.unset i t)
structure Ht(K:FA)(C:gV):Prop where
 wy:HT.lN K C
 hd:W.hasDictIn K C=true
 a:W.findIn K (.ref C) "__class__" = U (U (.builtin "object.__class__"))
 n:W.specialIn K (.builtin "object.__class__") "__get__" = U (U (.builtin "getset_descriptor.__get__"))
 t:W.takesIn K (.builtin "object.__class__")=U true
 m:W.mroIn K C (.type "object")=U true
def ClsOk(K:FA)(mg:Str->Option dn)(x:Str)(C:gV)(b:Bool):Prop:=∃ v c,(mg x=U c\/(mg x=Y/\bootBuiltins x=U c/\x≠"__name__"))/\RelV v c/\(∀ u,RelV v u->u=c)/\W.kitOne K (.ref C) c=U b/\Ht K C
theorem ClsOk.pe(c:ClsOk X.K X.mg x C b)(hg:Gl X x)(hd:(x==("__debug__":Str))=false):∃ v c,PE X (.Name x p) (tC v)/\(∀ u,RelV v u->u=c)/\W.kitOne X.K (.ref C) c=U b/\Ht X.K C:=by
 obtain⟨v,c,h,r,u,k,o⟩:=c
 refine⟨v,c,?_,u,k,o⟩
 rcases h with h | ⟨h1,h2,h3⟩
 ·exact Dz hg h r hd
 ·exact DF hg h1 h2 r h3 hd
theorem EK{s:gw}{fs:List (Str×V)}(I:Inv X pins σ H s)(h:H a=U (.ext (lE a C dx)))(h2:H dx=U (.xd fs)):∃ oe od,W.InstAt s.heap a oe C (U od):=by
 obtain⟨oe,ws,q1,q2,q3,q4⟩:lE a C dx s.heap:=(show ObjOk X.prog X.w _ s.heap a (.ext (lE a C dx)) from I.hok a _ h).1
 obtain⟨mA,hn,r⟩:=(show ObjOk X.prog X.w _ s.heap dx (.xd fs) from I.hok dx _ h2)
 obtain⟨od,ho,hl⟩:=wb hn
 exact⟨oe,od,q1,q2,by obtain⟨_,_,d,_⟩:=oe;cases q4;rfl,by rw[q3];exact ho⟩
def ya(C:gV)(b:Bool)(m:ME):ME:=λenv S=>(m env S).bind λp=>match p.1 with | .exc C' _ _=>if C'=C then U (.bl b,p.2) else Y | _=>Y
theorem vY{S S':ac}{d:D}(h:ya C b m env S=U (d,S')):∃ fl i,m env S=U (.exc C fl i,S')/\d=.bl b:=by
 obtain⟨⟨x,S1⟩,h1,hm⟩:=Ww.mp h
 cases x<;>first | (cases hm;done) | skip
 dsimp only at hm
 split at hm
 ·rename_i e;cases hm;subst e;exact⟨_,_,h1,rfl⟩
 ·cases hm
theorem VW{p:Pos}(hm:X.mg "isinstance" = Y)(c:ClsOk X.K X.mg x C b)(hg:Gl X "isinstance")(hgx:Gl X x)(hd:(x==("__debug__":Str))=false)(ha:DE X a ma)
  (hs1:zH [a,.Name x p2] X.env=(false,eval a X.env)::zH [.Name x p2] X.env):DE X (.Call (.Name "isinstance" p) [a,.Name x p2] [] pos) (ya C b ma):=by
 obtain⟨v,c,pe,hv,k,o⟩:=c.pe (p:=p2) hgx hd
 have hc:CallR X (.builtin "isinstance") (λvs H Q=>∃ a dx fs,vs=[.ref a,v]/\H a=U (.ext (lE a C dx))/\H dx=U (.xd fs)/\Q (.bl b) H):=by
  intro pins s σ H xs us Q I rv h
  obtain⟨a,dx,fs,rfl,h1,h2,q⟩:=h
  obtain⟨u,w',rfl,r1,r2⟩:=yO rv
  cases r1
  cases hv _ r2
  obtain⟨oe,od,J⟩:=EK I h1 h2
  exact Yc (HT.Af o.wy o.hd o.a o.n o.t o.m) I.kIn J k (λz=>nomatch z) λtk=>⟨.bl _,H,I.tok _,rfl,q⟩
 refine PE.imp (kY hc hg hm aaq (io ha (io pe pL rfl) hs1) (by decide) (by decide) hs1 rfl) λσ H Q ⟨μ,S,env,d,S',hS,hE,hm,post⟩=>?_
 obtain⟨fl,i,h1,rfl⟩:=vY hm
 refine⟨μ,S,env,_,S',hS,hE,h1,λv H1 μ1 e1 s1 r1=>?_⟩
 cases r1 with
 | exc q1 n1 q2 n2=>exact⟨_,_,_,rfl,q1,q2,post _ H1 μ1 e1 s1 (.bl _)⟩
inductive ClsL(X:Cx)(C:gV):List pc->List Bool->Prop
 | nil:ClsL X C [] []
 | cons {x:Str} {p:Pos} {b:Bool} {es:List pc} {bs:List Bool} (c:ClsOk X.K X.mg x C b) (hg:Gl X x) (hd:(x==("__debug__":Str))=false) (t:ClsL X C es bs):ClsL X C (.Name x p::es) (b::bs)
def tCs(vs:List V):TA:=λ_ H Q=>Q vs H
theorem ClsL.pa:∀ {es:List pc} {bs:List Bool},ClsL X C es bs->∃ vs cs,PA X es (tCs vs)/\(∀ us,Vals vs us->us=cs)/\W.kitAny X.K (.ref C) cs=U (bs.any id)/\vs.length=es.length
 | _,_,.nil=>⟨[],[],pL,λus r=>by cases r;rfl,rfl,rfl⟩
 | _,_,.cons c hg hd t=>by
  obtain⟨v,c,pe,hv,k,o⟩:=c.pe hg hd
  obtain⟨vs,cs,pa,hvs,ks,hl⟩:=ClsL.pa t
  refine⟨v::vs,c::cs,io pe pa rfl,λus r=>?_,?_,by simp[hl]⟩
  ·cases r with
   | cons a r=>rw[hv _ a,hvs _ r]
  ·unfold W.kitAny
   rw[k]
   rename_i b _ _ _
   cases b with
   | true=>rfl
   | false=>exact ks
theorem ClsL.own:∀ {es:List pc} {bs:List Bool},ClsL X C es bs->es≠[]->Ht X.K C
 | _,_,.nil,h=>absurd rfl h
 | _,_,.cons c _ _ _,_=>by obtain⟨_,_,_,_,_,_,o⟩:=c;exact o
theorem Qp{bs:List Bool}{p:Pos}(hm:X.mg "isinstance" = Y)(c:ClsL X C es bs)(hne:es≠[])(hl:es.length<=20)(hg:Gl X "isinstance")(ha:DE X a ma)
  (hs1:zH [a,.Tuple es j p2] X.env=(false,eval a X.env)::zH [.Tuple es j p2] X.env):DE X (.Call (.Name "isinstance" p) [a,.Tuple es j p2] [] pos) (ya C (bs.any id) ma):=by
 obtain⟨vs,cs,pa,hv,k,hvl⟩:=c.pa
 have o:=c.own hne
 have hc:CallR X (.builtin "isinstance") (λws H Q=>∃ a dx fs t,ws=[.ref a,.ref t]/\H t=U (.tup vs)/\H a=U (.ext (lE a C dx))/\H dx=U (.xd fs)/\Q (.bl (bs.any id)) H):=by
  intro pins s σ H xs us Q I rv h
  obtain⟨a,dx,fs,t,rfl,ht,h1,h2,q⟩:=h
  obtain⟨u,w',rfl,r1,r2⟩:=yO rv
  cases r1
  cases r2
  obtain⟨oe,od,J⟩:=EK I h1 h2
  obtain⟨its,rv,⟨ot,q1,q2,n,q3⟩,_⟩:=I.tuple (.inl (.inl ht))
  cases hv _ rv
  obtain⟨_,dd,_,sl⟩:=ot
  cases q2
  cases q3
  exact W.kia_tup (HT.Af o.wy o.hd o.a o.n o.t o.m) I.kIn J q1 k (λz=>nomatch z) λtk=>⟨.bl _,H,I.tok _,rfl,q⟩
 refine PE.imp (kY hc hg hm aaq (io ha (io (IY pa) pL rfl) hs1) (by decide) (by decide) hs1 rfl) λσ H Q ⟨μ,S,env,d,S',hS,hE,hm,post⟩=>?_
 obtain⟨fl,i,h1,rfl⟩:=vY hm
 refine⟨μ,S,env,_,S',hS,hE,h1,λv H1 μ1 e1 s1 r1=>⟨?_,λt nt=>?_⟩⟩
 ·exact Xa (by rw[hvl];exact hl) (by decide)
 ·obtain⟨e2,s2⟩:=s1.laid (o:=.tup vs) nt
  have r2:=r1.mono e2
  cases r2 with
  | exc q1 n1 q2 n2=>exact⟨_,_,_,t,rfl,aB,q1,q2,post _ _ μ1 (e1.trans e2) s2 (.bl _)⟩
def zV(C:gV)(fl:Str)(m:ME):ME:=λenv S=>(m env S).bind λp=>match p.1 with | .exc C' fl' i=>if C'=C/\fl'=fl then U (ydD i,p.2) else Y | _=>Y
theorem Qr(c:uD X.K C fl)(he:DE X e m)(hb:attributeBase e fl X.env (eval e X.env)=eval e X.env):DE X (.Attribute e fl pos) (zV C fl m):=
 PE.imp (Od he hb) λσ H Q z0=>by
  obtain⟨μ,S,env,d,S',hS,hE,hm,post⟩:=z0
  obtain⟨⟨x,S1⟩,h1,hm⟩:=Ww.mp hm
  cases x<;>first | (cases hm;done) | skip
  dsimp only at hm
  split at hm
  ·rename_i e;cases hm;obtain⟨rfl,rfl⟩:=e
   refine⟨μ,S,env,_,_,hS,hE,h1,λv H1 μ1 e1 s1 r1=>?_⟩
   cases r1 with
   | exc q1 n1 q2 n2=>exact⟨_,_,_,_,_,rfl,q1,q2,c,by simp,post _ H1 μ1 e1 s1 Na⟩
  ·cases hm
end
end M
namespace HT
open PySem PySem.Spec PyProof.Rows Builtin
section
variable{prog:pr}{w:sv}{A:tx}{E:dn->gw->Prop}{s:gw}
theorem qu{it t:gV}(hne:t≠it):∀ (n i:Nat) (s:gw) (Q:List dn->gw->Prop),s.heap.IsListIter it t i->s.heap.IsList t items->i+n<=items.size ->
  (∀ h':wo,h'.IsListIter it t (i+n)->Heap.SameBut it s.heap h'->h'.IsList t items->Q ((items.toList.drop i).take n) { s with heap:=h' })->Ew (model prog w) A (draw (.ref it) n) Q E s
 | 0,i,s,Q,hit,hl,_,hQ=>by
  show Ew _ _ (pure []) Q E s
  exact WA (by simpa using hQ s.heap hit (Heap.SameBut.refl ..) hl)
 | n+1,i,s,Q,hit,ht,hle,hQ=>by
  have hlt:i<items.size:=by omega
  show Ew _ _ (pyNext (.ref it) >>= _) Q E s
  refine Wx (aaT hit ht (x:=items[i]) (by simp[hlt]) λh₁ hit₁ hs₁=>?_)
  have ht₁:h₁.IsList t items:=by
   obtain⟨o,ho,r⟩:=ht
   exact⟨o,hs₁.extBut t o hne ho,r⟩
  refine Wx (Xd (qu hne n (i+1) _ _ hit₁ ht₁ (by omega) λh₂ hit₂ hs₂ ht₂=>WA ?_))
  have hd:items.toList.drop i=items[i]::items.toList.drop (i+1):=by simp[XX,hlt]
  have:=hQ h₂ (by rw[show i+(n+1)=i+1+n by omega];exact hit₂) (hs₁.trans hs₂) ht₂
  rw[hd,List.take_succ_cons] at this
  exact this
theorem ph{x1}(hh:A.handled=Y)(ht:s.heap.IsList t items)
  (hn:(assignEach elts env).length=items.size) (hstar:(assignEach elts env).findIdx? (·.1)=Y)
  (h:∀ h',Heap.ExtBut s.heap.objs.size s.heap h'->Ew (model prog w) A (assignInOrder ((assignEach elts env).map (·.2)) items.toList) Q E { s with heap:=h' }) :
  Ew (model prog w) A (assign (.Tuple elts x1 pos) env (.ref t)) Q E s:=by
 have hlt:t≠s.heap.objs.size:=by obtain⟨o,ho,_⟩:=ht;exact WZ (WG ho)
 rw[assign_Tuple]
 refine Wx (XE ?_)
 unfold unpack
 rw[hn,hstar]
 refine Wx (Xd ?_)
 unfold unpackItems
 refine Wx ?_
 unfold notIterableAtAll
 refine Wx (aan ht.typeIs slot_list_iter.lookup ?_)
 refine WA ?_
 simp only[WR,Xx]
 refine Wx (Xd (Yy ht ?_))
 have ht0:(s.heap.push { cls:=.type "list_iterator",data:=.fields #[.ref t,.int 0 0] }).IsList t items:=by
  obtain⟨o,ho,r⟩:=ht
  exact⟨o,Wy _ ho,r⟩
 refine Wx (Xd (qu hlt items.size 0 _ _ ⟨_,WL _ rfl,rfl,rfl⟩ ht0 (by omega) λh₁ hit₁ hs₁ ht₁=>?_))
 have hall:List.take items.size (List.drop 0 items.toList)=items.toList:=by
  rw[Zf];exact YL (by simp)
 rw[hall]
 rw[WX (by simp)]
 refine Wx (Xd (aaX hh hit₁ ht₁ (by simp) λh₂ he₂=>?_))
 simp only[Option.isSome_none,WR,Xx]
 exact WA (h h₂ λb o hb e=>he₂ b o hb (hs₁.extBut b o hb (Wy _ e)))
end
end HT
namespace L2
def gLst(K:FA)(n:Nat)(t:HA):TG:=λv σ H Q=>∃ a xs,v=.ref a/\kK K H a xs/\xs.length=n/\t xs σ H Q
theorem Tp{X:Cx}{k:Nat}{n:Nat}(hc:X.calm=true)(h:PGs X es t)
  (hn:(assignEach es X.env).length=n:=by rfl) (hst:(assignEach es X.env).findIdx? (·.1)=Y:=by rfl):PG X (.Tuple es k pos) (gLst X.K n t):=by
 intro pins s σ H v u Q I r hw
 obtain⟨a,xs,e1,hq,hl,hw⟩:=hw
 subst e1
 cases r
 obtain⟨its,rv,ht,hz⟩:=I.list hq
 refine HT.ph (I.ok.hd hc) ht.isList (by simp[hn,<- hl,rv.length]) hst λh' hx=>?_
 have I1:Inv X pins σ H { s with heap:=h' }:=I.kept (t':=s.toks) λb o e=>hx b o (WZ (WG e)) e
 exact h pins _ σ H xs _ Q I1 (by simpa using rv) hw
end L2
namespace M
open L2
def jk(n:Nat)(gs:mE):MG:=λd env S=>match d with | .lst xs=>if xs.length=n then gs xs env S else Y | _=>Y
theorem Qf{X:Cx}{k n:Nat}(hc:X.calm=true)(h:QU X es gs)(hn:(assignEach es X.env).length=n:=by rfl)(hst:(assignEach es X.env).findIdx? (·.1)=Y:=by rfl):DG X (.Tuple es k pos) (jk n gs):=
 PG.imp (Tp hc h hn hst) λv σ H Q z0=>by
  obtain⟨μ,S,env,d,env',S',hS,hE,hr,hm,post⟩:=z0
  cases d with
  | lst xs=>
   simp only[jk] at hm
   split at hm
   ·rename_i hl
    obtain⟨a,vs,rfl,q,_,r⟩:=hr.sqL
    exact⟨a,vs,rfl,.inl (.inl q),by rw[r.length];exact hl,μ,S,env,xs,env',S',hS,hE,r,hm,post⟩
   ·cases hm
  | _=>cases hm
end M
namespace L2
theorem PB.imp{t':TB}(h:PB X m t)(i:∀ σ H Q,t' σ H Q->t σ H Q):PB X m t':=λpins s σ H Q I q=>h pins s σ H Q I (i σ H Q q)
def At(e iter:pc)(d:Nat)(acc:dn)(env:Env):Sem Unit:=do
 let x <- eval iter env
 standAt iter.pos
 let x <- zI iter env x
 let it <- holding [x] (pyIter x)
 let _ <- runOwn (.compStart e d it acc env) env
 pure ()
section
variable{elt tg iter tg2 iter2:pc}{gens:List Comprehension}{ifs ifs2:List pc}{scope:Scope}{pos:Pos}{d:Nat}
theorem AX(h1:gens[d]?=U ⟨tg,iter,ifs,0⟩)(h2:gens[d+1]?=U ⟨tg2,iter2,ifs2,0⟩)(it acc:dn)(env:Env) :
  compTurn (.ListComp elt gens scope pos) d it acc env=dE (.ListComp elt gens scope pos) tg iter.pos ifs d it acc env (At (.ListComp elt gens scope pos) iter2 (d+1) acc env):=by
 unfold compTurn dE At
 simp only[h1,h2,bind_assoc,aaZ]
 rfl
theorem uZ(h1:gens[d]?=U ⟨tg,iter,ifs,0⟩)(h2:gens[d+1]?=Y)(it acc:dn)(env:Env) :
  compTurn (.ListComp elt gens scope pos) d it acc env=dE (.ListComp elt gens scope pos) tg iter.pos ifs d it acc env (uq elt acc env):=by
 unfold compTurn dE uq
 simp only[h1,h2,bind_assoc,aaZ]
 rfl
theorem lJ{A:tx}{s:gw}(h1:gens[d]?=U ⟨tg,iter,ifs,0⟩)
  (h0:codeAny (model prog w) A (.compLoop (.ListComp elt gens scope pos) d it acc env) R s)
  (h:Ew (model prog w) A (pyIter it) (λit' s'=>codeAny (model prog w) A (.compLoop (.ListComp elt gens scope pos) d it' acc env) R s') (notedBy (model prog w) A env λx s'=>R (.error x) s') s) :
  codeAny (model prog w) A (.compStart (.ListComp elt gens scope pos) d it acc env) R s:=by
 refine aao ?_
 refine wpAny_notedAt ?_
 show Ew _ _ (compStart _ d _ _ _) _ _ _
 unfold compStart
 have hc:clausesOf (.ListComp elt gens scope pos)=gens:=rfl
 rw[hc,h1]
 refine Wx (wpAny_askSetting (wpAny_ite ?_))
 by_cases hq:({ program:=(model prog w).prog,params:=(model prog w).w.params:Setting }.params.followText "comprehension-iter-twice")=true
 ·rw[WN hq];exact Wx (WA (WA ⟨rfl,h0⟩))
 ·rw[WX hq];exact Wx (Zy (Wx (XE (Wx (WV h (λit' s' h'=>WA ⟨rfl,h'⟩) λ_ _ z=>z)))))
def tInB(wi:TI)(g:TG)(tt:TT)(tb:TB):TB:=λσ H Q=>wi σ H λJ H1=>pE J g tt tb σ H1 Q
theorem TC{X:Cx}{g:TG}(hc:X.calm=true)(hx:∀ e s,X.xe e s->False)(h1:gens[d]?=U ⟨tg,iter,ifs,0⟩)
  (htn:∀ it,compTurn (.ListComp elt gens scope pos) d it (.ref p) X.env=dE (.ListComp elt gens scope pos) tg iter.pos ifs d it (.ref p) X.env bc)
  (hi:PI X tg iter wi) (hg:PG X tg g) (ht:Hs X ifs tt) (hb:PB X bc tb) (hs:∀ x,zI iter X.env x=pure x) :
  PB X (At (.ListComp elt gens scope pos) iter d (.ref p) X.env) (tInB wi g tt tb):=λpins s σ H Q I h=>by
 refine Wx (cz (hi pins s σ H _ I h) λx s1 h1'=>Wx (XE ?_))
 rw[hs]
 refine Wx (WA (Wx (Xd (cz h1' λitv s2 h2=>?_))))
 obtain⟨it,fp,tn,J,H1,e,I2,T,st2,f2,hL⟩:=h2
 subst e
 have loop:=wN (d:=d) hc hx rfl (htn _) hg ht hb T I2 st2 f2 hL
 refine Wx (wpAny_runOwn ?_)
 rw[Around.mark_none]
 refine XH (lJ h1 loop (T.self _ 0 _ _ _ st2 loop)) λr s' ⟨σ',H',hr,J',q'⟩=>?_
 subst hr
 exact WA ⟨σ',H',J',q'⟩
end
end L2
namespace M
open L2
noncomputable abbrev MB:=ax->ac->Option (List D×ax×ac)
def Cm(e:ME):MB:=λenv S=>(e env S).bind λq=>U ([q.1],env,q.2)
def iO(g:MG)(t:MT)(b:MB):List D->ax->ac->Option (List D×ax×ac)
 | [],env,S=>U ([],env,S)
 | d::ds,env,S=>(g d env S).bind λp=>(t p.1 p.2).bind λk=>if k.1=true then(b p.1 k.2).bind λr=>(iO g t b ds r.2.1 r.2.2).bind λz=>U (r.1++z.1,z.2) else iO g t b ds p.1 k.2
def kL(mi:MA)(g:MG)(t:MT)(b:MB):MB:=λenv S=>(mi env S).bind λq=>iO g t b q.1 env q.2
def eG(mi:MA)(g:MG)(t:MT)(b:MB)(cap:List (Option Nat)):ME:=λenv S=>(mi env S).bind λp=>(iO g t b p.1 (mz cap env) p.2).bind λq=>if q.1.length<=ww then U (.lst q.1,q.2.2) else Y
section
variable{X:Cx}{K:FA}{μ1:Fp}{H1 H:Hp}{p:gV}{σ:L2.St}{cs:List gV}{S S':ac}{env env':ax}{vs:List V}{zs ds xs:List D}
inductive Rb(K:FA)(m:MB)(p:gV)(σ:L2.St)(H:Hp)(Q:L2.St->Hp->Prop):Prop
 | mk (μ1:Fp) (H1:Hp) (cs:List gV) (S:ac) (env:ax) (vs:List V) (zs ds:List D) (env':ax) (S':ac) (hp:H1 p=Y) (c:CpI K μ1 H1 p σ H cs S env vs zs) (h:m env S=U (ds,env',S')) (hz:zs.length+ds.length<=ww)
  (post:∀ σ' H' cs' vs',CpI K μ1 H1 p σ' H' cs' S' env' vs' (zs++ds)->(∀ v d,Rep K ⟨cs,p::μ1.fb⟩ H v d->Rep K ⟨cs',p::μ1.fb⟩ H' v d)->Q σ' H')
theorem Sv(h:Rb K (Cm e) p σ H Q):tEm (tM K e) p σ H Q:=by
 obtain⟨μ1,H1,cs,S,env,vs,zs,ds,env',S',hp,c,hm,hz,post⟩:=h
 obtain⟨⟨d,S1⟩,h1,hm⟩:=Ww.mp hm
 cases hm
 refine⟨_,S,env,d,S1,c.sok,c.eok,h1,λv H5 μ5 e5 s5 r5=>?_⟩
 obtain⟨cs5,fb5⟩:=μ5
 have hfb:fb5=p::μ1.fb:=e5.fb
 subst hfb
 have c5:=c.go e5 s5 (c.eok.mono e5)
 have hv:=c5.rep.length
 simp only[WF,XG] at hz
 exact⟨vs,c5.lst,by omega,post _ _ cs5 _ (c5.app hp r5) λv d z=>Rep.chg WE (z.mono e5)⟩
theorem vo{g:MG}{J:It}{Q:L2.St->Hp->Prop}(hp:H1 p=Y)(c:CpI K μ1 H1 p σ H cs S env vs zs)(hm:iO g t b xs env S=U (ds,env',S'))(hz:zs.length+ds.length<=ww)
  (it:∀ σ' H' cs' S' env' vs' zs',CpI K μ1 H1 p σ' H' cs' S' env' vs' zs'->(∀ v d,Rep K ⟨cs,p::μ1.fb⟩ H v d->Rep K ⟨cs',p::μ1.fb⟩ H' v d)->∀ i,(∀ d,xs[i]?=U d->J.go i H'/\∀ x H2,J.yld i H' x H2->Ext ⟨cs',p::μ1.fb⟩ H' ⟨cs',p::μ1.fb⟩ H2/\SOk K ⟨cs',p::μ1.fb⟩ S' H2/\Rep K ⟨cs',p::μ1.fb⟩ H2 x d)/\(xs.length<=i->J.stop i H'))
  (post:∀ σ' H' cs' vs',CpI K μ1 H1 p σ' H' cs' S' env' vs' (zs++ds)->(∀ v d,Rep K ⟨cs,p::μ1.fb⟩ H v d->Rep K ⟨cs',p::μ1.fb⟩ H' v d)->Q σ' H'):pE J (Hw K g) (xk K t) (Rb K b p) σ H Q:=by
 refine⟨λi n σ' H'=>n=xs.length - i/\i<=xs.length/\∃ (cs':List gV) (S2:ac) (env2:ax) (vs':List V) (zs' rest:List D),CpI K μ1 H1 p σ' H' cs' S2 env2 vs' zs'/\(∀ v d,Rep K ⟨cs,p::μ1.fb⟩ H v d->Rep K ⟨cs',p::μ1.fb⟩ H' v d)/\iO g t b (xs.drop i) env2 S2=U (rest,env',S')/\zs++ds=zs'++rest,
  ⟨xs.length,by simp,YZ _,cs,S,env,vs,zs,ds,c,λ_ _ z=>z,by rw[Zf];exact hm,rfl⟩,?_⟩
 rintro i n σ' H' ⟨rfl,hi,cs',S2,env2,vs',zs',rest,c',rk,hl,hq⟩
 have iti:=it _ _ _ _ _ _ _ c' rk i
 by_cases hlt:i<xs.length
 ·refine .inr ⟨(iti.1 xs[i] (WK hlt)).1,λx H2 y=>?_⟩
  obtain⟨e2,s2,rx⟩:=(iti.1 xs[i] (WK hlt)).2 x H2 y
  rw[XX hlt] at hl
  obtain⟨⟨env3,S3⟩,h3,hl⟩:=Ww.mp hl
  obtain⟨⟨k,S4⟩,h4,hl⟩:=Ww.mp hl
  refine⟨_,S2,env2,xs[i],env3,S3,s2,c'.eok.mono e2,rx,h3,λσ3 H3 μ3 e3 s3 r3=>⟨μ3,S3,env3,k,S4,s3,r3,h4,λH4 μ4 e4 s4=>?_⟩⟩
  have eA:=(e2.trans e3).trans e4
  obtain⟨cs4,fb4⟩:=μ4
  have hfb:fb4=p::μ1.fb:=eA.fb
  subst hfb
  have c4:=c'.go eA s4 (r3.mono e4)
  cases k with
  | false=>
   rw[WX WJ] at hl
   dsimp only
   rw[WX WJ]
   exact⟨xs.length - (i+1),by omega,rfl,hlt,cs4,S4,env3,vs',zs',rest,c4,λv d z=>(rk v d z).mono eA,hl,hq⟩
  | true=>
   rw[WN rfl] at hl
   dsimp only
   rw[WN rfl]
   obtain⟨⟨ws,env5,S5⟩,h5,hl⟩:=Ww.mp hl
   obtain⟨⟨rs,q6⟩,h6,hl⟩:=Ww.mp hl
   cases hl
   have hlen:=congrArg List.length hq
   simp only[Xf] at hlen
   refine⟨μ1,H1,cs4,S4,env3,vs',zs',ws,env5,S5,hp,c4,h5,by omega,λσ5 H5 cs5 vs5 c5 k5=>?_⟩
   exact⟨xs.length - (i+1),by omega,rfl,hlt,cs5,S5,env5,vs5,zs'++ws,rs,c5,λv d z=>k5 v d ((rk v d z).mono eA),h6,by rw[hq,XQ]⟩
 ·have e:i=xs.length:=by omega
  subst e
  refine .inl ⟨iti.2 (WH _),?_⟩
  rw[Zl] at hl
  cases hl
  rw[Xt] at hq
  subst hq
  exact post _ _ _ _ c' rk
theorem Np{g:MG}(h:Rb K (kL mi g t b) p σ H Q):tInB (iMs K mi) (Hw K g) (xk K t) (Rb K b p) σ H Q:=by
 obtain⟨μ1,H1,cs,S,env,vs,zs,ds,env',S',hp,c,hm,hz,post⟩:=h
 obtain⟨⟨us,S5⟩,h5,hm⟩:=Ww.mp hm
 refine⟨_,S,env,us,S5,c.sok,c.eok,h5,λJ2 H5 μ5 e5 s5 it2=>?_⟩
 obtain⟨cs5,fb5⟩:=μ5
 have hfb:fb5=p::μ1.fb:=e5.fb
 subst hfb
 exact vo hp (c.go e5 s5 (c.eok.mono e5)) hm hz (λσ' H' cs' S' env' vs' zs' c' rk i=>it2 _ _ rk _ H' S' c'.sok.ext.toP c'.sok i) λσ' H' cs' vs' c' rk=>post _ _ _ _ c' λv d z=>rk v d (z.mono e5)
theorem vp{g:MG}(h:tM K (eG mi g t b cap) σ H Q):sD (iM K mi) (Hw K g) (xk K t) (Rb K b) cap σ H Q:=by
 obtain⟨μ,S,env,d,S9,hS,hE,hm,post⟩:=h
 obtain⟨⟨xs,S1⟩,h1,hm⟩:=Ww.mp hm
 obtain⟨⟨ys,env2,S2⟩,h2,hm⟩:=Ww.mp hm
 dsimp only at hm
 split at hm
 case isFalse=>cases hm
 rename_i hsz
 cases hm
 refine⟨μ,S,env,xs,S1,hS,hE,h1,λJ H1 μ1 e1 s1 it p hp=>?_⟩
 have hpn:=s1.notMem hp
 refine vo (μ1:=μ1) (H1:=H1) (cs:=μ1.cs) (zs:=[]) (vs:=[]) hp ⟨?_,s1.more hp,((hE.mono e1).block cap).more hp,aB,.nil⟩ h2 (by simpa using hsz) (λσ' H' cs' S' env' vs' zs' c' _ i=>it _ H' S' c'.ext c'.sok i) λσ' H' cs' vs' c' _=>?_
 ·exact⟨⟨[p],rfl,λa z=>by rw[Xc.mp z];exact hp⟩,⟨[],by simp,λ_ z=>by simp at z⟩,λa o' n h=>by rw[aA (bG h hp)];exact h,λa ha=>by
   by_cases z:a=p
   ·subst z;rw[aB];simp
   ·rw[aA z];exact s1.dom a ha⟩
 ·have eF:Ext μ1 H1 ⟨cs',μ1.fb⟩ H':=⟨rfl,c'.ext.pre,c'.ext.keep,c'.ext.dom⟩
  exact post _ H' ⟨cs',μ1.fb⟩ (e1.trans eF) c'.sok.less (.lst c'.lst ⟨λz=>c'.sok.disj p WE z,hpn.2⟩ (by simpa using c'.rep.less))
end
def Sh(X:Cx)(bc:Sem Unit)(p:gV)(b:MB):Prop:=PB X bc (Rb X.K b p)
section
variable{X:Cx}{elt tg iter:pc}{gens:List Comprehension}{ifs:List pc}{scope:Scope}{pos:Pos}{d:Nat}{mi:MA}{g:MG}{t:MT}{b:MB}{e:ME}{p:gV}{bc:Sem Unit}
theorem Qy(he:DE X elt e):Sh X (uq elt (.ref p) X.env) p (Cm e):=PB.imp (xG he) λ_ _ _ h=>Sv h
theorem db_in(hc:X.calm=true)(hx:∀ e s,X.xe e s->False)(h1:gens[d]?=U ⟨tg,iter,ifs,0⟩)(htn:∀ it,compTurn (.ListComp elt gens scope pos) d it (.ref p) X.env=dE (.ListComp elt gens scope pos) tg iter.pos ifs d it (.ref p) X.env bc)
  (hi:Wu X tg iter mi) (hg:DG X tg g) (ht:HB X ifs t) (hb:Sh X bc p b) (hs:∀ x,zI iter X.env x=pure x):Sh X (At (.ListComp elt gens scope pos) iter d (.ref p) X.env) p (kL mi g t b):=
 PB.imp (TC hc hx h1 htn hi hg ht hb hs) λ_ _ _ h=>Np h
end
section
variable{X:Cx}{elt tg iter:pc}{ifs:List pc}{rest:List Comprehension}{scope:Scope}{pos spos py:Pos}{N':List Str}{cap:List (Option Nat)}{mi:MA}{g:MG}{t:MT}{b:MB}{y:Str}{i:Nat}{bc:dn->Env->Sem Unit}
theorem Mk(hc:X.calm=true)(B:BlockOk X N' scope cap)(hi:DI X tg iter mi)(hg:∀ C s H fp,DG (iB X N' scope C s H fp) tg g)(ht:∀ C s H fp,HB (iB X N' scope C s H fp) ifs t)
  (htn:∀ it acc env,compTurn (.ListComp elt (⟨tg,iter,ifs,0⟩::rest) scope pos) 0 it acc env=dE (.ListComp elt (⟨tg,iter,ifs,0⟩::rest) scope pos) tg iter.pos ifs 0 it acc env (bc acc env))
  (hb:∀ C s H fp p,Sh (iB X N' scope C s H fp) (bc (.ref p) (iB X N' scope C s H fp).env) p b)
  (hs:∀ x,zI iter X.env x=pure x):DE X (.ListComp elt (⟨tg,iter,ifs,0⟩::rest) scope pos) (eG mi g t b cap):=
 PE.imp (zq (g:=Hw X.K g) (tt:=xk X.K t) (tb:=Rb X.K b) hc B hi hg ht htn hb hs) λ_ _ _ h=>vp h
theorem AR(hN:X.N.Nodup)(hy:X.N[i]?=U y)(hx:MR X.env.scope y)(hc:X.calm=true)(B:BlockOk X N' scope cap)(hi:DI X tg iter mi)(hg:∀ C s H fp,DG (iB X N' scope C s H fp) tg g)(ht:∀ C s H fp,HB (iB X N' scope C s H fp) ifs t)
  (htn:∀ it acc env,compTurn (.ListComp elt (⟨tg,iter,ifs,0⟩::rest) scope pos) 0 it acc env=dE (.ListComp elt (⟨tg,iter,ifs,0⟩::rest) scope pos) tg iter.pos ifs 0 it acc env (bc acc env))
  (hb:∀ C s H fp p,Sh (iB X N' scope C s H fp) (bc (.ref p) (iB X N' scope C s H fp).env) p b)
  (hsw:swapsWith (.ListComp elt (⟨tg,iter,ifs,0⟩::rest) scope pos) (U (.Name y py)) spos.line X.env=pure true)
  (hs:∀ x,zI iter X.env x=pure x) (hf:X.fn y=true\/X.env.scope.names.lookup y=U .local) :
  DS X (.Assign [.Name y py] (.ListComp elt (⟨tg,iter,ifs,0⟩::rest) scope pos) spos) (aH (eG mi g t b cap) (aj i)):=
 PS.imp (qD (g:=Hw X.K g) (tt:=xk X.K t) (tb:=Rb X.K b) hN hy hx hc B hi hg ht htn hb hsw hs hf) λE σ H h=>by
  obtain⟨μ,S,env,o,hS,hE,hm,post⟩:=h
  obtain⟨⟨d,S1⟩,h1,hm⟩:=Ww.mp hm
  cases hm
  exact vp ⟨μ,S,env,d,S1,hS,hE,h1,λv H1 μ1 e1 s1 r1=>post _ H1 μ1 e1 s1 ((hE.mono e1).set r1 i)⟩
end
end M
namespace L2
section
variable{prog:pr}{w:sv}{A:tx}{R:Result->gw->Prop}{s:gw}
theorem kO{e:pc}{d:Nat}(he:e=.DictComp kx vx gens scope pos)(htn:compTurn e d it acc env=dE e tg p0 ifs d it acc env bc)(I:Nat->gw->Prop)
  (turn:∀ n s,I n s->Ew (model prog w) A (pyNext it) (λr s₁=>match r with
   | none=>R (.ok .next) s₁
   | some v=>Ew (model prog w) A (letOwnedTupleGo tg it v) (λ_ s₁'=>Ew (model prog w) A (assign tg env v) (λ_ s₂=>
     Ew (model prog w) A (forIn ifs true λc r=>if r=true then do let ok <- isTrue c env (eval c env);pure (ForInStep.yield ok) else pure (ForInStep.yield r)) (λok s₃=>
      if ok=true then Ew (model prog w) A bc (λ_ s₅=>∃ m,m<n/\I m s₅) (λ_ _=>False) s₃
      else ∃ m,m<n/\I m s₃) (λ_ _=>False) s₂) (λ_ _=>False) s₁') (λ_ _=>False) s₁) (λ_ _=>False) s)
  (n:Nat) (h:I n s) :
  codeAny (model prog w) A (.compLoop e d it acc env) R s:=by
 refine codeAny_loop rfl I (λn s hI=>?_) n h
 subst he
 show Ew _ A ((compTurn (.DictComp kx vx gens scope pos) d it acc env).onRaise (λx=>do noteFrame x env;theTreesLotGoes x)) _ _ s
 refine wpAny_noted ?_
 rw[htn]
 refine Wx (XE (Wx (WV (turn n s hI) (λr s₁ h₁=>?_) λ_ _ h'=>h'.elim)))
 cases r with
 | none=>exact WA h₁
 | some v=>
  refine Wx (WV h₁ (λ_ s₁' h₁'=>?_) λ_ _ h'=>h'.elim)
  refine Wx (WV h₁' (λ_ s₂ h₂=>Wx (WV h₂ (λok s₃ h₃=>?_) λ_ _ h'=>h'.elim)) λ_ _ h'=>h'.elim)
  cases ok with
  | false=>exact WA ⟨rfl,h₃⟩
  | true=>exact Wx (WV h₃ (λ_ s₅ h₅=>WA ⟨rfl,h₅⟩) λ_ _ h'=>h'.elim)
end
theorem Da{X:Cx}{e:pc}{d:Nat}{g:TG}
  (hc:X.calm=true) (hx:∀ e s,X.xe e s->False) (hl:e=.DictComp kx vx gens scope pos) (htn:compTurn e d (.ref it) acc X.env=dE e tg p0 ifs d (.ref it) acc X.env bc) (hg:PG X tg g) (ht:Hs X ifs tt) (hb:PB X bc tb) (T:Bh X.prog X.w X.K tg J fp it tn) {s:gw} (I:Inv X pins σ H s) (st:tn 0 s.heap) (f2:∀ b∈fp,mF X pins H b) (h:pE J g tt tb σ H Q) :
  codeAny (model X.prog X.w) X.A (.compLoop e d (.ref it) acc X.env) (λr s'=>∃ σ' H',r=.ok .next/\Inv X pins σ' H' s'/\Q σ' H') s:=by
 obtain⟨W,⟨m0,w0⟩,turn⟩:=h
 have no:∀ e s,X.xe e s->(λ(_:dn) (_:gw)=>False) e s:=hx
 have stat:∀ {H':Hp},(∀ b∈fp,H' b=Y)->∀ b∈fp,mF X pins H' b:=λhn b hb=>⟨hn b hb,(f2 b hb).2⟩
 refine kO hl htn (λn s'=>∃ i σ' H',Inv X pins σ' H' s'/\tn i s'.heap/\(∀ b∈fp,H' b=Y)/\W i n σ' H') ?_ m0 ⟨0,_,_,I,st,λb hb=>(f2 b hb).1,w0⟩
 rintro n s3 ⟨i,σ3,H3,J3,st3,fr3,w3⟩
 rcases turn i n σ3 H3 w3 with ⟨stop,qn⟩ | ⟨go,step⟩
 ·refine cz (T.done X rfl rfl rfl hc i pins s3 σ3 H3 _ J3 (stat fr3) st3 stop) λr s4 ⟨hr,J4⟩=>?_
  subst hr
  exact⟨σ3,H3,rfl,J4,qn⟩
 ·refine cz (T.item X rfl rfl rfl hc i pins s3 σ3 H3 _ J3 (stat fr3) st3 go) λr s4 ⟨u,hr,h4⟩=>?_
  subst hr
  refine cz h4 λ_ s5 ⟨x,H5,J5,r5,y5,st5,fr5⟩=>?_
  have J5':=J5.pinned (stat fr5) (T.obj _ _ st5)
  refine WV (hg _ s5 σ3 H5 x u _ J5' r5 (step x H5 y5)) (λ_ s6 ⟨σ6,H6,J6,q6⟩=>?_) no
  refine WV (ht _ s6 σ6 H6 _ J6 q6) (λok s7 ⟨H7,J7,q7⟩=>?_) no
  have again:∀ {s':gw} {σ7:St} {H7:Hp},Inv X (pins++pK fp s5.heap) σ7 H7 s'->(∃ m',m'<n/\W (i+1) m' σ7 H7)->∃ m,m<n/\∃ i σ' H',Inv X pins σ' H' s'/\tn i s'.heap/\(∀ b∈fp,H' b=Y)/\W i m σ' H':=λ{s' σ7 H7} J7 n7=>by
   obtain⟨m',hm,w7⟩:=n7
   refine⟨m',hm,i+1,σ7,H7,J7.unpinned,T.keep _ _ _ st5 λb hb o e=>(J7.pin (b,o) (Xj _ (Xj _ (gJ hb e)))).1,λb hb=>?_,w7⟩
   obtain⟨o,e,d⟩:=T.obj _ _ st5 b hb
   exact(J7.pin (b,o) (Xj _ (Xj _ (gJ hb e)))).2.1
  cases ok with
  | false=>
   rw[WX WJ] at q7 ⊢
   exact again J7 q7
  | true=>
   rw[WN rfl] at q7 ⊢
   exact WV (hb _ s7 σ6 H7 _ J7 q7) (λ_ s9 ⟨σ9,H9,J9,q9⟩=>again J9 q9) no
def xl(wi:TI)(g:TG)(tt:TT)(tb:gV->TB)(cap:List (Option Nat)):TE:=λσ H Q=>wi σ H λJ H1=>∀ p,H1 p=Y->pE J g tt (tb p) (σB cap σ) (upd H1 p (.dK [])) λ_ H'=>Q (.ref p) H'
theorem AW{X:Cx}{rest:List Comprehension}{g:TG}{tb:gV->TB}{bc:dn->Env->Sem Unit}
  (hc:X.calm=true) (B:BlockOk X N' scope cap) (hi:PI X tg iter wi) (hg:∀ C s H fp,PG (iB X N' scope C s H fp) tg g) (ht:∀ C s H fp,Hs (iB X N' scope C s H fp) ifs tt)
  (htn:∀ it acc env,compTurn (.DictComp kx vx (⟨tg,iter,ifs,0⟩::rest) scope pos) 0 it acc env=dE (.DictComp kx vx (⟨tg,iter,ifs,0⟩::rest) scope pos) tg iter.pos ifs 0 it acc env (bc acc env))
  (hb:∀ C s H fp p,PB (iB X N' scope C s H fp) (bc (.ref p) (iB X N' scope C s H fp).env) (tb p)) {s:gw} (I:Inv X pins σ H s) (h:xl wi g tt tb cap σ H Q) {E:dn->gw->Prop} (hE:∀ e s,X.xe e s->E e s) :
  Ew (model X.prog X.w) X.A (eval iter X.env) (λx s₁=>Ew (model X.prog X.w) X.A (pyIter x) (λit s₂=>Ew (model X.prog X.w) X.A (newDict) (λacc s₃=>
   Ew (model X.prog X.w) X.A (newFunctionEnv scope X.env.globals (kg X.env.cells scope.names []) [] X.env.qual Y .none (U X.env)) (λcenv s₄=>
    codeAny (model X.prog X.w) X.A (.compStart (.DictComp kx vx (⟨tg,iter,ifs,0⟩::rest) scope pos) 0 it acc { cenv with scope:=relabel scope X.env }) (Behind X pins σ Q acc cenv.locals) s₄) E s₃) E s₂) E s₁) E s:=by
 refine WV (hi pins s σ H _ I h) (λv s1 h1=>WV h1 (λitv s2 h2=>?_) hE) hE
 obtain⟨it,fp,tn,J,H1,e,I2,T,st2,f2,hW⟩:=h2
 subst e
 refine Xg (abe B.nocell (by intro y hy;simp at hy) (λh₁ hns₁ hsb₁=>?_) B.kind)
 dsimp only at hns₁ hsb₁ ⊢
 have hp1:H1 s2.heap.objs.size=Y:=I2.hok.fresh (WH _)
 have hL:=hW s2.heap.objs.size hp1
 have I3:Inv X pins σ (upd H1 s2.heap.objs.size (.dK [])) { s2 with heap:=s2.heap.push { cls:=.type "dict",data:=.dict #[] },toks:=s2.toks }:=
  I2.laid (λb o e=>Wy _ e) (WH _) (ur s2.heap I2.big)
 generalize hH2:s2.heap.push { cls:=.type "dict",data:=.dict #[] } = H2 at hns₁ hsb₁ I3 ⊢
 have hC:H2.objs.size=s2.heap.objs.size+1:=by rw[<- hH2,XY]
 have ltfp:∀ b∈fp,b<s2.heap.objs.size:=λb hb=>by
  obtain⟨o,e,_⟩:=T.obj _ _ st2 b hb
  exact WG e
 have hf3:∀ b∈fp,mF X pins (upd H1 s2.heap.objs.size (.dK [])) b/\b<H2.objs.size:=λb hb=>by
  obtain⟨a0,a⟩:=f2 b hb
  refine⟨⟨?_,a⟩,by rw[hC];exact Zi (ltfp b hb)⟩
  rw[aA (WZ (ltfp b hb))];exact a0
 have up:∀ b o,H2.get? b=U o->h₁.get? b=U o:=λb o e=>hsb₁.extBut b o (WZ (WG e)) (Wy _ e)
 have I4:=I3.block (C:=H2.objs.size) (fp:=fp) (h4:=h₁) (tk:=s2.toks+([]:List (Str×dn)).length) B hf3 (WH _) up hns₁
 have st4:tn 0 h₁:=T.keep _ _ _ st2 λb hb o e=>up b o (by rw[<- hH2];exact Wy _ e)
 have loop:codeAny (model X.prog X.w) X.A (.compLoop (.DictComp kx vx (⟨tg,iter,ifs,0⟩::rest) scope pos) 0 (.ref it) (.ref s2.heap.objs.size) (compEnvC scope (kg X.env.cells scope.names []) H2.objs.size X.env))
    (Behind X pins σ Q (.ref s2.heap.objs.size) H2.objs.size) { s2 with heap:=h₁,toks:=s2.toks+([]:List (Str×dn)).length }:=by
  refine XH (Da (X:=iB X N' scope H2.objs.size { s2 with heap:=H2,toks:=s2.toks } (upd H1 s2.heap.objs.size (.dK [])) fp) hc (λ_ _ z=>z) rfl (htn _ _ _) (hg _ _ _ _) (ht _ _ _ _) (hb _ _ _ _ _) T I4 st4 (λb hb=>?_) hL) λr s4 ⟨σ4,H4,hr,J4,qn⟩=>?_
  ·obtain⟨h0,h1,h2,h3,h4',h5⟩:=(hf3 b hb).1
   exact⟨h0,WZ (hf3 b hb).2,I3.notStk h1 h2,.inl hb,λx c e=>h4' x c (B.cl I3.ok x c e),λp hp=>absurd (show p∈([]:List (gV×Obj)) from hp) (by simp)⟩
  ·obtain⟨m,hm,_⟩:=J4.loc
   have IX:=I3.unblock (λb hb=>(hf3 b hb).1) J4
   refine⟨_,H4,m,hr,rfl,IX,qn,hm,J4.free,?_,?_,λx c e z=>?_,λq hq z=>?_⟩
   ·exact Ne.symm (WZ I3.lt)
   ·exact I3.sz
   ·obtain⟨v,q⟩:=I3.cell x c e
    exact absurd q.lt (by rw[z];exact XS _)
   ·exact absurd (WG (I3.pin q hq).1) (by rw[z];exact XS _)
 exact codeAny_compStart_dict loop (T.self _ 0 _ _ _ st4 loop)
theorem FJ{X:Cx}{iter:pc}{rest:List Comprehension}{g:TG}{tb:gV->TB}{bc:dn->Env->Sem Unit}
  (hc:X.calm=true) (B:BlockOk X N' scope cap) (hi:PI X tg iter wi) (hg:∀ C s H fp,PG (iB X N' scope C s H fp) tg g) (ht:∀ C s H fp,Hs (iB X N' scope C s H fp) ifs tt) (htn:∀ it acc env,compTurn (.DictComp kx vx (⟨tg,iter,ifs,0⟩::rest) scope pos) 0 it acc env=dE (.DictComp kx vx (⟨tg,iter,ifs,0⟩::rest) scope pos) tg iter.pos ifs 0 it acc env (bc acc env))
  (hb:∀ C s H fp p,PB (iB X N' scope C s H fp) (bc (.ref p) (iB X N' scope C s H fp).env) (tb p))
  (hs:∀ x,zI iter X.env x=pure x:=by intro _;rfl):PE X (.DictComp kx vx (⟨tg,iter,ifs,0⟩::rest) scope pos) (xl wi g tt tb cap):=by
 intro pins s σ H Q I h
 rw[arm_eval_DictComp]
 refine Zg (use:=Y) rfl hs (jv (B.cells I.ok)) B.kind B.names ?_
 refine WV (AW hc B hi hg ht htn hb I h λ_ _ x=>x) (λx s1 h1=>WV h1 (λit s2 h2=>WV h2 (λacc s3 h3=>WV h3 (λcenv s4 h4=>XH h4 λr s' hr=>?_) λ_ _ x=>x) λ_ _ x=>x) λ_ _ x=>x) λ_ _ x=>x
 obtain⟨p,Hf,m,rfl,rfl,J,q,hn,c1,c2,c3,c4,c5⟩:=hr
 exact⟨m,hn,λh' sb=>⟨_,Hf,J.turned (t':=s'.toks) (λb o hb e=>(sb.2 b hb).trans e) c1 c2 (.inr c3) c4 c5,(show RelV (.ref p) (.ref p) from rfl),q⟩⟩
def RW(kx vx:pc)(acc:dn)(env:Env):Sem Unit:=do
 let kv <- eval kx env
 let vv <- holding [kv] (eval vx env)
 match acc with
 | .ref d=>do
  standAt { kx.pos with endLine:=vx.pos.endLine,endCol:=vx.pos.endCol }
  holding [kv,vv] (dictSet d kv vv)
 | _=>unsupported "internal:dictcomp"
theorem uw(kx vx tg iter:pc)(ifs:List pc)(scope:Scope)(pos:Pos)(it acc:dn)(env:Env) :
  compTurn (.DictComp kx vx [⟨tg,iter,ifs,0⟩] scope pos) 0 it acc env=dE (.DictComp kx vx [⟨tg,iter,ifs,0⟩] scope pos) tg iter.pos ifs 0 it acc env (RW kx vx acc env):=rfl
def Sw(tk tv:TE)(p:gV):TB:=λσ H Q=>tk σ H λx H1=>tv σ H1 λy H2=>∃ kvs k,x=kV k/\H2 p=U (.dK kvs)/\kvs.length<ww/\Q σ (upd H2 p (.dK (kW kvs k y)))
theorem Je{tk:TE}(hk:PE X kx tk)(hv:PE X vx tv):PB X (RW kx vx (.ref p) X.env) (Sw tk tv p):=λpins s σ H Q I h=>by
 refine Wx (cz (hk pins s σ H _ I h) λkv s1 ⟨x,H1,I1,r1,q1⟩=>Wx (Xd (cz (hv pins s1 σ H1 _ I1 q1) λvv s2 ⟨y,H2,I2,r2,q2⟩=>?_)))
 obtain⟨kvs,k,rfl,e,l,q⟩:=q2
 refine Wx (XE (Xd ?_))
 obtain⟨z,hd,vs,rel,dd⟩:=LQ I2.hok e
 have hz:vs.length<=ww:=by rw[<- rel.length];exact z
 have hl:(kW kvs k y).length<=ww:=by have:=lq kvs k y;omega
 refine wpAny_dictSet_pairs (hsz:=hz) (we r1) dd λh' dd' hs=>?_
 have he:∃ q,h'.get? p=U q:=let ⟨q,_,_,hq,_⟩:=dd';⟨q,hq⟩
 exact⟨σ,_,yx I2 (by rw[e];exact True.intro) hs he (CV hl hd (rel.put k r2) dd'),q⟩
end L2
namespace M
open L2
def ng(g:MG)(t:MT)(kx vx:ME):List D->ax->ac->List (bD×D)->Option (List (bD×D)×ac)
 | [],_,S,kvs=>U (kvs,S)
 | d::ds,env,S,kvs=>(g d env S).bind λp=>(t p.1 p.2).bind λb=>if b.1=true then(kx p.1 b.2).bind λk=>(vx p.1 k.2).bind λv=>(iQ k.1).bind λkey=>if kvs.length<ww then ng g t kx vx ds p.1 v.2 (jR kvs key v.1) else Y else ng g t kx vx ds p.1 b.2 kvs
def gu(mi:MA)(g:MG)(t:MT)(kx vx:ME)(cap:List (Option Nat)):ME:=λenv S=>(mi env S).bind λp=>(ng g t kx vx p.1 (mz cap env) p.2 []).bind λq=>U (.dct (q.1.map (·.1)) (q.1.map (·.2)),q.2)
section
variable{X:Cx}{K:FA}
structure CpD(K:FA)(μ1:Fp)(H1:Hp)(p:gV)(σ:L2.St)(H:Hp)(cs:List gV)(S:ac)(env:ax)(vs:List (bD×V))(zs:List (bD×D)):Prop where
 ext:ExtP μ1 H1 ⟨cs,p::μ1.fb⟩ H
 sok:SOk K ⟨cs,p::μ1.fb⟩ S H
 eok:EOk K ⟨cs,p::μ1.fb⟩ H σ env
 dct:H p=U (.dK vs)
 rep:KR K ⟨cs,p::μ1.fb⟩ H vs zs
theorem CpD.go{cs':List gV}(c:CpD K μ1 H1 p σ H cs S env vs zs)(e:Ext ⟨cs,p::μ1.fb⟩ H ⟨cs',p::μ1.fb⟩ H')(s:SOk K ⟨cs',p::μ1.fb⟩ S' H')(r:EOk K ⟨cs',p::μ1.fb⟩ H' σ' env'):CpD K μ1 H1 p σ' H' cs' S' env' vs zs:=
 ⟨c.ext.then e,s,r,(e.keeps c.dct λz=>c.sok.disj p WE z).1,c.rep.mono e⟩
theorem Fv{g:MG}(h:tM K (gu mi g t kx vx cap) σ H Q):xl (iM K mi) (Hw K g) (xk K t) (Sw (tM K kx) (tM K vx)) cap σ H Q:=by
 obtain⟨μ,S,env,d,S9,hS,hE,hm,post⟩:=h
 obtain⟨⟨xs,S1⟩,h1,hm⟩:=Ww.mp hm
 obtain⟨⟨ys,S2⟩,h2,hm⟩:=Ww.mp hm
 cases hm
 refine⟨μ,S,env,xs,S1,hS,hE,h1,λJ H1 μ1 e1 s1 it p hp=>?_⟩
 have hpn:=s1.notMem hp
 refine⟨λi n σ' H'=>n=xs.length - i/\i<=xs.length/\∃ (cs:List gV) (S':ac) (env':ax) (vs:List (bD×V)) (zs:List (bD×D)),CpD K μ1 H1 p σ' H' cs S' env' vs zs/\ng g t kx vx (xs.drop i) env' S' zs=U (ys,S2),
  ⟨xs.length,by simp,YZ _,μ1.cs,S1,mz cap env,[],[],⟨?_,s1.more hp,((hE.mono e1).block cap).more hp,aB,.nil⟩,by rw[Zf];exact h2⟩,?_⟩
 ·exact⟨⟨[p],rfl,λa z=>by rw[Xc.mp z];exact hp⟩,⟨[],by simp,λ_ z=>by simp at z⟩,λa o' n h=>by rw[aA (bG h hp)];exact h,λa ha=>by
   by_cases z:a=p
   ·subst z;rw[aB];simp
   ·rw[aA z];exact s1.dom a ha⟩
 rintro i n σ' H' ⟨rfl,hi,cs,S',env',vs,zs,c,hl⟩
 have iti:=it _ H' S' c.ext c.sok i
 by_cases hlt:i<xs.length
 ·refine .inr ⟨(iti.1 xs[i] (WK hlt)).1,λx H2 y=>?_⟩
  obtain⟨e2,s2,rx⟩:=(iti.1 xs[i] (WK hlt)).2 x H2 y
  rw[XX hlt] at hl
  obtain⟨⟨env3,S3⟩,h3,hl⟩:=Ww.mp hl
  obtain⟨⟨b,S4⟩,h4,hl⟩:=Ww.mp hl
  refine⟨_,S',env',xs[i],env3,S3,s2,c.eok.mono e2,rx,h3,λσ3 H3 μ3 e3 s3 r3=>⟨μ3,S3,env3,b,S4,s3,r3,h4,λH4 μ4 e4 s4=>?_⟩⟩
  have eA:=(e2.trans e3).trans e4
  obtain⟨cs4,fb4⟩:=μ4
  have hfb:fb4=p::μ1.fb:=eA.fb
  subst hfb
  have c4:=c.go eA s4 (r3.mono e4)
  cases b with
  | false=>
   rw[WX WJ] at hl
   dsimp only
   rw[WX WJ]
   exact⟨xs.length - (i+1),by omega,rfl,hlt,cs4,S4,env3,vs,zs,c4,hl⟩
  | true=>
   rw[WN rfl] at hl
   dsimp only
   rw[WN rfl]
   obtain⟨⟨kd,S5⟩,h5,hl⟩:=Ww.mp hl
   obtain⟨⟨vd,S6⟩,h6,hl⟩:=Ww.mp hl
   obtain⟨key,h7,hl⟩:=Ww.mp hl
   dsimp only at hl
   split at hl
   case isFalse=>cases hl
   rename_i hz
   refine⟨_,S4,env3,kd,S5,s4,c4.eok,h5,λkv H5 μ5 e5 s5 r5=>⟨μ5,S5,env3,vd,S6,s5,c4.eok.mono e5,h6,λvv H6 μ6 e6 s6 r6=>?_⟩⟩
   have eB:=e5.trans e6
   obtain⟨cs6,fb6⟩:=μ6
   have hfb:fb6=p::μ1.fb:=eB.fb
   subst hfb
   have c6:=c4.go eB s6 (c4.eok.mono eB)
   refine⟨vs,key,iG h7 r5,c6.dct,by rw[c6.rep.length];exact hz,xs.length - (i+1),by omega,rfl,hlt,cs6,S6,env3,kW vs key vv,jR zs key vd,⟨c6.ext.chg hp,c6.sok.chg WE,c6.eok.chg WE,aB,(KR.put r6 c6.rep).chg WE⟩,hl⟩
 ·have e:i=xs.length:=by omega
  subst e
  refine .inl ⟨iti.2 (WH _),?_⟩
  rw[Zl] at hl
  cases hl
  have eF:Ext μ1 H1 ⟨cs,μ1.fb⟩ H':=⟨rfl,c.ext.pre,c.ext.keep,c.ext.dom⟩
  refine post _ H' ⟨cs,μ1.fb⟩ (e1.trans eF) c.sok.less ?_
  rw[<- c.rep.keys]
  exact .dct c.dct ⟨λz=>c.sok.disj p WE z,hpn.2⟩ c.rep.less.reps
variable{kx vx tg iter:pc}{ifs:List pc}{scope:Scope}{pos:Pos}{N':List Str}{cap:List (Option Nat)}{mi:MA}{g:MG}{t:MT}{mk mv:ME}
theorem Mj(hc:X.calm=true)(B:BlockOk X N' scope cap)(hi:DI X tg iter mi)(hg:∀ C s H fp,DG (iB X N' scope C s H fp) tg g)(ht:∀ C s H fp,HB (iB X N' scope C s H fp) ifs t)
  (hk:∀ C s H fp,DE (iB X N' scope C s H fp) kx mk) (hv:∀ C s H fp,DE (iB X N' scope C s H fp) vx mv)
  (hs:∀ x,zI iter X.env x=pure x):DE X (.DictComp kx vx [⟨tg,iter,ifs,0⟩] scope pos) (gu mi g t mk mv cap):=
 PE.imp (FJ (g:=Hw X.K g) (tt:=xk X.K t) (tb:=Sw (tM X.K mk) (tM X.K mv)) hc B hi hg ht (λ_ _ _=>uw ..) (λC s H fp p=>Je (hk C s H fp) (hv C s H fp)) hs) λ_ _ _ h=>Fv h
end
end M
namespace L2
open PySem PySem.Spec PyProof.Rows Builtin Builtin.Str
section
variable{X:Cx}
theorem vg:∀ (tk:Nat) (xs:List Str),Vals (xs.map V.str) (strsFrom tk xs)
 | _,[]=>.nil
 | tk,x::r=>.cons ⟨tk,rfl⟩ (vg (tk+1) r)
def Ta:V->List V->Hp->VK->Prop:=λx xs H Q=>∃ z y,x=.str z/\xs=[.str y]/\(y.length==0)=false/\z.length<=1000000/\∀ p,H p=Y->Q (.ref p) (upd H p (.lst ((Txt.split z y).map V.str)))
theorem Jo:MtR X "str.split" Ta:=by
 intro pins s σ H x vs v us Q I rx rv h
 obtain⟨z,y,rfl,rfl,hy,hz,q⟩:=h
 obtain⟨t,rfl⟩:=rx
 obtain⟨u,rfl,hu⟩:=gm rv
 obtain⟨t2,rfl⟩:=hu
 have hs:z.length<=ww:=Xa hz (by decide)
 have hn:(partsBetween z (occurrences z y 0 z.length (z.length+1)) y.length).length<=ww:=by
  rw[len_partsBetween]
  have:=StrLaws.occ_length_le_len z y 0 z.length (z.length+1)
  exact Xa (show _<=1000002 by omega) (by decide)
 have q':=q _ (I.hok.fresh (WH _))
 have one:Txt.split z y=[z]->EP X pins σ Q (.ref s.heap.objs.size) { s with heap:=s.heap.push { cls:=.type "list",data:=.seq [Value.str z t].toArray } }:=λe=>by
  rw[e] at q'
  exact⟨.ref _,_,I.laid (t':=s.toks) (o:=.lst [V.str z]) (λb ob q=>Wy _ q) (WH _) ⟨by show 1<=ww;decide,_,0,.cons ⟨t,rfl⟩ .nil,WL _ rfl⟩,rfl,q'⟩
 cases h1:(decide (z.length<y.length)||decide (strKind z<strKind y))
 ·cases hf:(occurrences z y 0 z.length (z.length+1)).isEmpty
  ·refine Yb Zn (YU _ _ _) aac (ZT _ _) (meets_str_split_sep z y t t2 h1 hy hf hs hn) ?_
   have e:Txt.split z y=partsBetween z (occurrences z y 0 z.length (z.length+1)) y.length:=(WX (ZD h1)).trans (WX (ZD hf))
   rw[e] at q'
   exact⟨.ref _,_,I.laid (o:=.lst ((partsBetween z (occurrences z y 0 z.length (z.length+1)) y.length).map V.str)) (λb ob q=>Wy _ q) (WH _) ⟨by rw[WI];exact hn,_,0,vg _ _,WL _ rfl⟩,rfl,q'⟩
  ·exact Yb Zn (YU _ _ _) aac (ZT _ _) (meets_str_split_not_found z y t t2 h1 hy hf) (one ((WX (ZD h1)).trans (WN hf)))
 ·exact Yb Zn (YU _ _ _) aac (ZT _ _) (meets_str_split_cannot_occur z y t t2 h1) (one (WN h1))
theorem Hg:CallR X (.type "int") (λxs H Q=>∃ x n,xs=[.str x]/\x.length<=640/\intText? x=U n/\Q (.int n) H):=by
 intro pins s σ H xs us Q I r h
 obtain⟨x,n,rfl,hl,hn,q⟩:=h
 obtain⟨u,rfl,t,rfl⟩:=gm r
 exact W.KIN.call_text hn hl ⟨.int n,H,I.tok _,⟨_,rfl⟩,q⟩
def Its(z:Str):It:=⟨λi _=>∃ c,z.cps[i]?=U c,λi H x H'=>H'=H/\∃ c,z.cps[i]?=U c/\x=.str ⟨#[c]⟩,λi _=>z.cps[i]?=Y⟩
theorem HS{K:FA}(z:Str)(t:Tok)(it:gV):Bh P w K tg (Its z) [it] it (λi h=>h.IsStrIter it "str_ascii_iterator" z t i) where
 mem:=by simp
 obj:=λi h st b hb=>by
  have e:b=it:=by simpa using hb
  subst e
  obtain⟨o,e,c,d⟩:=st
  exact⟨o,e,λv z=>by rw[d] at z;cases z⟩
 keep:=λi h h' st k=>by
  obtain⟨o,ho,r⟩:=st
  exact⟨o,k it (by simp) o ho,r⟩
 item:=by
  intro X hP hw hK hc i pins s σ H E I hf st hg
  subst hP hw hK
  obtain⟨c,hx⟩:=hg
  obtain⟨f0,f1,f2,f3,f4,f5⟩:=hf it (by simp)
  refine wpAny_pyNext_ascii_item st hx λh' st' sb=>?_
  have I1:Inv X pins σ H { s with heap:=h',toks:=s.toks+1 }:=I.turned (t':=s.toks+1) (λb o hb e=>(sb.2 b hb).trans e) f0 f1 f3 f4 f5
  obtain⟨o,e,c,d⟩:=id st'
  exact⟨_,rfl,EM (s:={ s with heap:=h',toks:=s.toks+1 }) e c d (by decide) ⟨.str _,H,I1,⟨_,rfl⟩,⟨rfl,_,hx,rfl⟩,st',λb hb=>(hf b hb).1⟩⟩
 done:=by
  intro X hP hw hK hc i pins s σ H E I hf st hg
  subst hP hw hK
  obtain⟨f0,f1,f2,f3,f4,f5⟩:=hf it (by simp)
  exact wpAny_pyNext_ascii_end (I.ok.hd hc) st hg λh' eb=>⟨rfl,I.turned (t':=s.toks) (λb o hb e=>eb b o hb e) f0 f1 f3 f4 f5⟩
 self:=λ_ _ _ _ _ st h=>wpAny_pyIter_striter_ascii st h
def iStr(tl:TE):TI:=λσ H R=>tl σ H λx H1=>∃ z,x=.str z/\z.cps.all (· < 128)=true/\R (Its z) H1
theorem Tl(hl:PE X l tl):PI X tg l (iStr tl):=by
 intro pins s σ H R I h
 refine cz (hl pins s σ H _ I h) λv s1 ⟨x,H1,I1,r1,q1⟩=>?_
 obtain⟨z,e,ha,q⟩:=q1
 subst e
 obtain⟨t,rfl⟩:=r1
 refine wpAny_pyIter_ascii ha ?_
 refine⟨s1.heap.objs.size,[s1.heap.objs.size],_,_,H1,rfl,I1.kept (t':=s1.toks) λb o e=>Wy _ e,HS z t _,⟨_,WL _ rfl,rfl,rfl⟩,λb hb=>?_,q⟩
 have e:b=s1.heap.objs.size:=by simpa using hb
 subst e
 exact I1.fpOk (WH _) (I1.hok.fresh (WH _))
end
end L2
namespace HT
open PySem PySem.Spec PyProof.Rows Builtin
theorem qz{A:tx}{s:gw}{x1}{v:dn}{r:List dn}(hh:A.handled=Y)(ht:s.heap.IsList t (v::r).toArray)
  (hn:(assignEach elts env).length=2) (hstar:(assignEach elts env).findIdx? (·.1)=U 1) (hz:r.length<16384)
  (h:∀ h' tk,Heap.ExtBut s.heap.objs.size s.heap h'->Ew (model prog w) A (assignInOrder ((assignEach elts env).map (·.2)) [v,.ref h'.objs.size]) Q E { s with heap:=h'.push { cls:=.type "list",data:=.seq r.toArray },toks:=tk }) :
  Ew (model prog w) A (assign (.Tuple elts x1 pos) env (.ref t)) Q E s:=by
 have hll:t<s.heap.objs.size:=by obtain⟨o,ho,_⟩:=ht;exact WG ho
 have hlt:t≠s.heap.objs.size:=WZ hll
 have hsz:(v::r).toArray.size=r.length+1:=by simp
 rw[assign_Tuple]
 refine Wx (XE ?_)
 unfold unpack
 rw[hn,hstar]
 refine Wx (Xd ?_)
 unfold unpackItems
 refine Wx ?_
 unfold notIterableAtAll
 refine Wx (aan ht.typeIs slot_list_iter.lookup ?_)
 refine WA ?_
 simp only[WR,Xx]
 refine Wx (Xd (Yy ht ?_))
 have ht0:(s.heap.push { cls:=.type "list_iterator",data:=.fields #[.ref t,.int 0 0] }).IsList t (v::r).toArray:=by
  obtain⟨o,ho,q⟩:=ht
  exact⟨o,Wy _ ho,q⟩
 refine Wx (Xd (qu hlt 1 0 _ _ ⟨_,WL _ rfl,rfl,rfl⟩ ht0 (by rw[hsz];omega) λh₁ hit₁ hs₁ ht₁=>?_))
 have hfirst:List.take 1 (List.drop 0 (v::r).toArray.toList)=[v]:=by simp
 rw[hfirst]
 rw[WX (by simp)]
 obtain⟨oi,hoi,_⟩:=id hit₁
 obtain⟨ol,hol,_⟩:=id ht₁
 refine Wx (Xd (W.kun_collect (s:={ s with heap:=h₁ }) (T:="list_iterator") (.inr (.inr (.inl rfl))) (Walks.list (A:=A.in1) hh s.heap.objs.size t hlt (v::r).toArray) (λj u st=>st.1.typeIs) (k:=1) (by rw[hsz];omega) ⟨hit₁,ht₁⟩ (WG hoi) (WG hol) (λh₂ tk hk=>?_) (by rw[hsz];exact Xa hz (by decide))))
 have hdrop:List.drop 1 (v::r).toArray.toList=r:=by simp
 rw[hdrop]
 have hq:¬ r.length<2 - 1 - 1:=by omega
 show Ew _ _ (if r.length<2 - 1 - 1 then _ else _) _ _ _
 rw[WX hq]
 show Ew _ _ (newList (r.take (r.length - (2 - 1 - 1))) >>= λd=>pure ([v]++[d]++r.drop (r.length - (2 - 1 - 1)))) _ _ _
 have e1:r.take (r.length - (2 - 1 - 1))=r:=YL (by omega)
 have e2:r.drop (r.length - (2 - 1 - 1))=[]:=List.drop_of_length_le (by omega)
 rw[e1,e2]
 have he:Heap.ExtBut s.heap.objs.size s.heap h₂:=λb o hb e=>hk b o hb (hs₁.extBut b o hb (Wy _ e))
 refine Wx (wpAny_newList (WA ?_) (Xa (Ze hz) (by decide)))
 exact h h₂ tk he
end HT
namespace L2
def Vk(K:FA)(t:HA):TG:=λv σ H Q=>∃ a x xs,v=.ref a/\kK K H a (x::xs)/\xs.length<16384/\∀ p,H p=Y->t [x,.ref p] σ (upd H p (.lst xs)) Q
theorem NZ{X:Cx}{k:Nat}(hc:X.calm=true)(h:PGs X es' t)(he:(assignEach es X.env).map (·.2)=(assignEach es' X.env).map (·.2))
  (hn:(assignEach es X.env).length=2) (hst:(assignEach es X.env).findIdx? (·.1)=U 1):PG X (.Tuple es k pos) (Vk X.K t):=by
 intro pins s σ H v u Q I r hw
 obtain⟨a,x,xs,e1,hq,hl,hw⟩:=hw
 subst e1
 cases r
 obtain⟨its,rv,ht,hz⟩:=I.list hq
 cases rv with
 | @cons _ uv _ us rx rr=>
  refine HT.qz (I.ok.hd hc) ht.isList hn hst (by rw[<- rr.length];exact hl) λh' tk hx=>?_
  have I1:Inv X pins σ H { s with heap:=h',toks:=tk }:=I.kept (t':=tk) λb o e=>hx b o (WZ (WG e)) e
  rw[he]
  have I2:Inv X pins σ (upd H h'.objs.size (.lst xs)) { s with heap:=h'.push { cls:=.type "list",data:=.seq us.toArray },toks:=tk }:=I1.laid (t':=tk) (o:=.lst xs) (λb ob q=>Wy _ q) (WH _) ⟨Xa (Ze hl) (by decide),_,0,rr,WL _ rfl⟩
  exact h pins _ σ _ [x,.ref _] _ Q I2 (.cons rx (.cons rfl .nil)) (hw _ (I1.hok.fresh (WH _)))
end L2
namespace M
open L2
section
variable{X:Cx}{K:FA}{μ:Fp}{H:Hp}{S:ac}
def il(gs:mE):MG:=λd env S=>match d with | .lst (x::xs)=>if xs.length<16384 then gs [x,.lst xs] env S else Y | _=>Y
theorem Qh{k:Nat}(hc:X.calm=true)(h:QU X es' gs)(he:(assignEach es X.env).map (·.2)=(assignEach es' X.env).map (·.2))(hn:(assignEach es X.env).length=2)(hst:(assignEach es X.env).findIdx? (·.1)=U 1):DG X (.Tuple es k pos) (il gs):=
 PG.imp (NZ hc h he hn hst) λv σ H Q z0=>by
  obtain⟨μ,S,env,d,env',S',hS,hE,hr,hm,post⟩:=z0
  cases d with
  | lst xs=>
   cases xs with
   | nil=>cases hm
   | cons x xs=>
    simp only[il] at hm
    split at hm
    ·rename_i hl
     obtain⟨a,vs,rfl,q,_,r⟩:=hr.sqL
     cases r with
     | @cons v _ vs _ rx rr=>
      refine⟨a,v,vs,rfl,.inl (.inl q),by rw[rr.length];exact hl,λp hp=>?_⟩
      obtain⟨e2,s2⟩:=hS.laid (o:=.lst vs) hp
      exact⟨μ,S,env,_,env',S',s2,hE.mono e2,.cons (rx.mono e2) (.cons (.lst aB (hS.notMem hp) (rr.mono e2)) .nil),hm,post.ext e2⟩
    ·cases hm
  | _=>cases hm
def bW(o:ME)(ms:MA):ME:=λenv S=>(o env S).bind λp=>match p.1 with
 | .str z=>(ms env p.2).bind λq=>match q.1 with
  | [.str y]=>if (y.length==0)=false/\z.length<=1000000 then U (.lst ((Txt.split z y).map .str),q.2) else Y
  | _=>Y
 | _=>Y
theorem yX:∀ xs:List Str,Reps K μ H (xs.map V.str) (xs.map D.str)
 | []=>.nil
 | x::r=>.cons (.str x) (yX r)
theorem Md{e:pc}{es:List pc}{apos:Pos}(ho:DE X o mo)(ha:DA X (e::es) ms)
  (hbase:attributeBase o "split" X.env (eval o X.env)=eval o X.env)
  (hfew:((backTo cpos (zH (e::es) X.env)).all (λx=>!x.1)&&(backToKw cpos (keywordEach [] X.env)).all (λx=>x.1.isSome)&&decide ((e::es).length+([]:List Keyword).length+(if ([]:List Keyword).isEmpty then 0 else 1)<30))=true)
  (hline:(apos.endLine==cpos.line)=true) (hs:zH (e::es) X.env=(false,eval e X.env)::zH es X.env) (hpl:(backTo cpos (zH es X.env)).any (·.1)=false) :
  DE X (.Call (.Attribute o "split" apos) (e::es) [] cpos) (bW mo ms):=
 PE.imp (DD (X:=X) Zo Zn F.type_str_split Jo ho ha hbase hfew hline hs hpl) λσ H Q z0=>by
  obtain⟨μ,S,env,d,S',hS,hE,h,post⟩:=z0
  obtain⟨⟨x,S1⟩,h1,h⟩:=Ww.mp h
  dsimp only at h
  split at h
  ·rename_i z
   obtain⟨⟨xs,S2⟩,h2,h⟩:=Ww.mp h
   dsimp only at h
   split at h
   ·rename_i y
    split at h
    ·rename_i hc
     cases h
     refine⟨μ,S,env,_,S1,hS,hE,h1,λv H1 μ1 e1 s1 r1=>⟨?_,μ1,S1,env,_,_,s1,hE.mono e1,h2,λvs H2 μ2 e2 s2 r2=>?_⟩⟩
     ·rw[r1.str_inv];exact rfl
     ·obtain⟨w,rfl,rw'⟩:=r2.one
      refine⟨z,y,r1.str_inv,by rw[rw'.str_inv],hc.1,hc.2,λp hp=>?_⟩
      exact((post.ext e1).ext e2).lst s2 hp (yX _)
    ·cases h
   ·cases h
  ·cases h
def cH(S:ac)(x y:D):Option D:=match x,y with
 | .str z,.int i=>if z.length<=ww then(mD z.cps.toList i).bind λc=>U (.str ⟨#[c]⟩) else Y
 | x,y=>bz S x y
theorem ix_S(hu:X.A.units+1<cLine):IxR X (kn X.K cH):=IxR.imp (ix_str.or (RI hu)) λx y H Q z0=>by
 obtain⟨μ,S,dx,dy,dz,hS,h1,h2,h3,post⟩:=z0
 unfold cH at h3
 split at h3
 ·split at h3
  ·rename_i z i hi
   obtain⟨c,hc,h3⟩:=Ww.mp h3
   cases h3
   exact .inl ⟨z,i,c,h1.str_inv,h2.int_inv,hi,hc,post.here hS (.str _)⟩
  ·cases h3
 ·exact .inr ⟨μ,S,dx,dy,dz,hS,h1,h2,h3,post⟩
def fJ(S:ac):List D->Option D
 | [.str x]=>if x.length<=640 then(intText? x).bind λn=>U (.int n) else Y
 | _=>Y
theorem Hm:CallR X (.type "int") (BJ X.K (ak fJ)):=CallR.imp Hg λxs H Q z0=>by
 obtain⟨μ,S,ds,d,S',hS,hr,hm,post⟩:=z0
 obtain⟨rfl,hm⟩:=cG hm
 unfold fJ at hm
 split at hm
 ·rename_i x
  split at hm
  ·rename_i hl
   obtain⟨n,h1,hm⟩:=Ww.mp hm
   cases hm
   obtain⟨v,rfl,r⟩:=hr.one
   exact⟨_,n,by rw[r.str_inv],hl,h1,post.here hS (.int _)⟩
  ·cases hm
 ·cases hm
def iL(z:Str):List D:=z.cps.toList.map λc=>.str ⟨#[c]⟩
def rM(m:ME):MA:=λenv S=>(m env S).bind λp=>match p.1 with | .str z=>if z.cps.all (· < 128)=true then U (iL z,p.2) else Y | _=>Y
theorem VJ(h:DE X iter m):DI X tg iter (rM m):=PI.imp (Tl h) λσ H R z0=>by
 obtain⟨μ,S,env,xs,S',hS,hE,hm,post⟩:=z0
 obtain⟨⟨d,S1⟩,h1,hm⟩:=Ww.mp hm
 refine⟨μ,S,env,d,S1,hS,hE,h1,λv H1 μ1 e1 s1 r1=>?_⟩
 dsimp only at hm
 split at hm
 ·rename_i z
  split at hm
  ·rename_i ha
   cases hm
   refine⟨z,r1.str_inv,ha,post _ H1 μ1 e1 s1 λμ' H' S' e s i=>⟨λd hd=>?_,λhl=>?_⟩⟩
   ·unfold iL at hd
    rw[XU,Array.getElem?_toList] at hd
    obtain⟨c,hc,rfl⟩:=YJ.mp hd
    refine⟨⟨c,hc⟩,λx H2 ⟨e2,c',hc',ex⟩=>?_⟩
    rw[hc] at hc'
    cases hc'
    subst e2 ex
    exact⟨s.ext,s,.str _⟩
   ·have:z.cps.size<=i:=by simpa[iL] using hl
    exact Array.getElem?_eq_none this
  ·cases hm
 ·cases hm
theorem iI(h:(match o with | .Call (.Name id _) [] [] _=>id != ("super":Str) | .Call _ _ _ _=>false | _=>true)=true):attributeBase o name env w=w:=by
 unfold attributeBase
 split
 ·rename_i id _ _
  have h':(id != ("super":Str))=true:=h
  rw[h'];rfl
 ·rfl
end
end M
namespace L2
open PySem PySem.Spec PyProof.Rows Builtin Builtin.Str
section
variable{X:Cx}
def rSlS:V->Option Int->Option Int->Hp->VK->Prop:=λx lo hi H Q=>∃ z,x=.str z/\z.length<=ww/\Q (.str (Txt.slice z lo hi)) H
theorem SJ:SlR X rSlS:=by
 intro pins s σ H x v vl vu lo hi sl Q I rx hs pl pu h
 obtain⟨z,rfl,hz,q⟩:=h
 obtain⟨t,rfl⟩:=rx
 refine⟨"str",_,F.slot_str_getitem.lookup,YU _ _ _,?_⟩
 have fin:∀ t' k,EP X pins σ Q (.str (Txt.slice z lo hi) t') { s with toks:=k }:=λt' k=>⟨.str _,H,I.tok _,⟨_,rfl⟩,q⟩
 have le:=Xa (Txt.slice_le z lo hi) hz
 cases pl with
 | none=>
  cases pu with
  | none=>exact YF (l:=Y) (u:=Y) (st:=Y) hs rfl (Zq ⟨le,fin⟩)
  | int j uj=>exact YF (l:=Y) (u:=U (j,uj)) (st:=Y) hs rfl (Zq ⟨le,fin⟩)
 | int i ui=>
  cases pu with
  | none=>exact YF (l:=U (i,ui)) (u:=Y) (st:=Y) hs rfl (Zq ⟨le,fin⟩)
  | int j uj=>exact YF (l:=U (i,ui)) (u:=U (j,uj)) (st:=Y) hs rfl (Zq ⟨le,fin⟩)
theorem sH{z:Str}:∀ {l:List Nat} {us:List dn} (k:Nat),(∀ i c,l[i]?=U c->z.cps[k+i]?=U c)->l.length=us.length->(∀ j v,us[j]?=U v->SignAt z (k+j) v)->Vals (l.map λc=>V.str ⟨#[c]⟩) us
 | [],[],_,_,_,_=>.nil
 | c::l,v::us,k,h1,h2,h3=>by
  have e1:=h1 0 c rfl
  obtain⟨c',u,hc,rfl⟩:=h3 0 v rfl
  rw[e1] at hc
  cases hc
  refine .cons ⟨u,rfl⟩ (sH (z:=z) (k+1) (λi c h=>?_) (Nat.succ.inj h2) λj v h=>?_)
  ·have:=h1 (i+1) c (by simpa using h);rwa[show k+(i+1)=k+1+i by omega] at this
  ·have:=h3 (j+1) v (by simpa using h);rwa[show k+(j+1)=k+1+j by omega] at this
 | [],_::_,_,_,h2,_=>by cases h2
 | _::_,[],_,_,h2,_=>by cases h2
theorem Dc(hc:X.calm=true):CallR X (.type "list") (λxs H Q=>∃ z,xs=[.str z]/\z.length<=ww/\∀ p,H p=Y->Q (.ref p) (upd H p (.lst (z.cps.toList.map λc=>V.str ⟨#[c]⟩)))):=by
 intro pins s σ H xs us Q I r h
 obtain⟨z,rfl,hz,q⟩:=h
 obtain⟨u,rfl,t,rfl⟩:=gm r
 refine call_list_str (I.ok.hd hc) z t (hn:=hz) λh' tk acc' c' hk hS' hacc=>?_
 have hl:z.cps.toList.length=acc'.toList.length:=by rw[Yj,Yj,hacc.1]
 refine⟨.ref _,_,I.laid (t':=tk) (o:=.lst (z.cps.toList.map λc=>V.str ⟨#[c]⟩)) hk (WH _) ⟨by rw[WI,Yj];exact hz,acc'.toList,c',sH 0 (λi c h=>by simpa using h) hl λj v h=>by rw[Nat.zero_add];exact hacc.2 j v (by simpa using h),by simpa using hS'⟩,rfl,q _ (I.hok.fresh (WH _))⟩
theorem Jm:MtR X "str.upper" (λx xs H Q=>∃ z,x=.str z/\xs=[]/\tooLong (Txt.upper z).length=false/\Q (.str (Txt.upper z)) H):=by
 intro pins s σ H x vs v us Q I rx rv h
 obtain⟨z,rfl,rfl,hz,q⟩:=h
 obtain⟨t,rfl⟩:=rx
 cases rv
 refine Yb F.slot_str_upper (YU _ _ _) F.entry_str_upper (F.args_str_upper_1 _) (gives_str_upper z t hz).meets ?_
 exact⟨fit_le hz,.str _,H,I.tok _,⟨_,rfl⟩,q⟩
def tRevL(K:FA)(te:TE)(ts:TO):TE:=λσ H Q=>te σ H λx H1=>ts σ H1 λk H2=>∃ a xs,x=.ref a/\k=U (-1)/\kK K H2 a xs/\∀ p,H2 p=Y->Q (.ref p) (upd H2 p (.lst xs.reverse))
theorem FI(xs:List dn):slicePick xs.toArray Y Y (U (-1))=xs.reverse.toArray:=by
 have hb:sliceBounds Y Y (U (-1)) xs.toArray.size=(((xs.toArray.size:Nat):Int) - 1,-1,-1):=rfl
 have hr:sliceRange (((xs.toArray.size:Nat):Int) - 1) (-1) (-1)=(List.range xs.toArray.size).map λ(m:Nat)=>(((xs.toArray.size:Nat):Int) - 1+(m:Int)*-1).toNat:=by
  unfold sliceRange
  have hc:(if (-1:Int)>0 then(if (((xs.toArray.size:Nat):Int) - 1) < -1 then(-1 - (((xs.toArray.size:Nat):Int) - 1) + -1 - 1) / -1 else 0) else(if (((xs.toArray.size:Nat):Int) - 1) > -1 then((((xs.toArray.size:Nat):Int) - 1) - -1 - -1 - 1) / (-(-1)) else 0)).toNat=xs.toArray.size:=by
   rw[WX (by decide)]
   by_cases h:xs.toArray.size=0
   ·rw[WX (by omega),h];rfl
   ·rw[WN (by omega)]
    show((((xs.toArray.size:Nat):Int) - 1 - -1 - -1 - 1) / 1).toNat=_
    rw[abd];omega
  show(List.range (if (-1:Int)>0 then(if (((xs.toArray.size:Nat):Int) - 1) < -1 then(-1 - (((xs.toArray.size:Nat):Int) - 1) + -1 - 1) / -1 else 0) else(if (((xs.toArray.size:Nat):Int) - 1) > -1 then((((xs.toArray.size:Nat):Int) - 1) - -1 - -1 - 1) / (-(-1)) else 0)).toNat).map _=_
  rw[hc]
  refine ZG λm _=>?_
  rw[Int.mul_comm]
 unfold slicePick
 rw[hb]
 dsimp only
 rw[hr,abt]
 exact HT.zn xs.toArray
theorem Ob{st:pc}(he:PE X e te)(hs:PO X (U st) ts):PE X (.Subscript e (.Slice Y Y (U st) p2) pos) (tRevL X.K te ts):=by
 intro pins s σ H Q I h
 refine aaG (cz (he pins s σ H _ I h) λv s1 ⟨x,H1,I1,r1,q1⟩=>?_)
 refine abk ?_
 rw[ZK]
 refine WA ?_
 refine WA (cz (hs pins s1 σ H1 _ I1 q1) λvk s2 ⟨k,H2,I2,pk,q2⟩=>?_)
 obtain⟨a,xs,rfl,rfl,hq,q⟩:=q2
 cases r1
 cases pk with
 | int _ u=>
  have I4:Inv X pins σ H2 { s2 with heap:=s2.heap.push { cls:=.type "slice",data:=.fields #[.none,.none,.int (-1) u] } }:=I2.kept (t':=s2.toks) λb ob q=>Wy _ q
  obtain⟨its,r,ht,hz⟩:=I4.list hq
  have hlen:its.toArray.size=xs.length:=by rw[WD];exact r.length.symm
  show Ew (model X.prog X.w) X.A (subscriptTail e (.Slice Y Y (U st) p2) (.ref a) (.ref s2.heap.objs.size)) (EP X pins σ Q) X.xe { s2 with heap:=s2.heap.push { cls:=.type "slice",data:=.fields #[.none,.none,.int (-1) u] } }
  refine aaK (ops:=[.ref a,.ref s2.heap.objs.size]) ht.isList.typeIs slot_list_getitem.lookup (aaE ht.isList (ZR ..) .none .none (.int (-1) u) (by decide) ?_ (by rw[hlen];exact hz)) (by with_unfolding_all rfl)
  rw[FI]
  refine⟨.ref _,_,I4.laid (t':=s2.toks) (o:=.lst xs.reverse) (λb ob q=>Wy _ q) (WH _) ⟨by simpa using hz,its.reverse,0,r.reverse,WL _ rfl⟩,rfl,q _ (I4.hok.fresh (WH _))⟩
end
end L2
namespace M
open PySem PySem.Spec PyProof.Rows L2 Builtin Builtin.Str
section
variable{X:Cx}{K:FA}{μ:Fp}{H:Hp}{S:ac}
def er(S:ac)(x y:D):Option D:=match x,y with
 | .str a,.str b=>bI S (.str a) (.str b)
 | x,y=>be S x y
theorem Ow:OpR X (Ec .Add) (kn X.K er):=λpins s σ H x y v u Q I rx ry z0=>by
 obtain⟨μ,S,dx,dy,dz,hS,h1,h2,h3,post⟩:=z0
 unfold er at h3
 split at h3
 ·exact DJ pins s σ H x y v u Q I rx ry ⟨μ,S,_,_,dz,hS,h1,h2,h3,post⟩
 ·exact DH pins s σ H x y v u Q I rx ry ⟨μ,S,_,_,dz,hS,h1,h2,h3,post⟩
def aS(a:ME)(lo hi:MO):ME:=λenv S=>(a env S).bind λp=>match p.1 with
 | .str z=>(lo env p.2).bind λl=>(hi env l.2).bind λh=>if z.length<=ww then U (.str (Txt.slice z l.1 h.1),h.2) else Y
 | _=>cB (λ_ _=>U p) lo hi env S
theorem Ch{lo:MO}{S S':ac}{d:D}(h:aS a lo hi env S=U (d,S')):(∃ z S1 l S2 h S3,a env S=U (.str z,S1)/\lo env S1=U (l,S2)/\hi env S2=U (h,S3)/\z.length<=ww/\d=.str (Txt.slice z l h)/\S'=S3)\/cB a lo hi env S=U (d,S'):=by
 obtain⟨⟨x,S1⟩,h1,h⟩:=Ww.mp h
 dsimp only at h
 split at h
 ·rename_i z
  obtain⟨⟨l,S2⟩,h2,h⟩:=Ww.mp h
  obtain⟨⟨u,S3⟩,h3,h⟩:=Ww.mp h
  dsimp only at h
  split at h
  ·rename_i hz;cases h;exact .inl ⟨z,S1,l,S2,u,_,h1,h2,h3,hz,rfl,rfl⟩
  ·cases h
 ·refine .inr ?_
  unfold cB at h ⊢
  rw[h1];exact h
theorem GP{lo:Option pc}(ha:DE X a ma)(hl:DO X lo ml)(hh:DO X hi mh):DE X (.Subscript a (.Slice lo hi Y p2) pos) (aS ma ml mh):=λpins s σ H Q I z0=>by
 obtain⟨μ,S,env,d,S',hS,hE,hm,post⟩:=z0
 rcases Ch hm with ⟨z,S1,l,S2,u,S3,h1,h2,h3,hz,rfl,rfl⟩ | hm'
 ·exact zo SJ ha hl hh pins s σ H Q I ⟨μ,S,env,_,S1,hS,hE,h1,λv H1 μ1 e1 s1 r1=>⟨μ1,S1,env,l,S2,s1,hE.mono e1,h2,λH2 μ2 e2 s2=>⟨μ2,S2,env,u,S',s2,(hE.mono e1).mono e2,h3,λH3 μ3 e3 s3=>⟨z,r1.str_inv,hz,post _ H3 μ3 ((e1.trans e2).trans e3) s3 (.str _)⟩⟩⟩⟩
 ·exact AU ha hl hh pins s σ H Q I ⟨μ,S,env,d,S',hS,hE,hm',post⟩
def fU(S:ac):List D->Option D
 | [.str z]=>if z.length<=ww then U (.lst (iL z)) else Y
 | _=>Y
theorem Df(hc:X.calm=true):CallR X (.type "list") (BJ X.K (ak fU)):=CallR.imp (Dc hc) λxs H Q z0=>by
 obtain⟨μ,S,ds,d,S',hS,hr,hm,post⟩:=z0
 obtain⟨rfl,hm⟩:=cG hm
 unfold fU at hm
 split at hm
 ·rename_i z
  split at hm
  ·rename_i hl
   cases hm
   obtain⟨v,rfl,r⟩:=hr.one
   refine⟨_,by rw[r.str_inv],hl,λp hp=>post.lst hS hp ?_⟩
   have:∀ l:List Nat,Reps X.K μ H (l.map λc=>V.str ⟨#[c]⟩) (l.map λc=>D.str ⟨#[c]⟩):=λl=>by
    induction l with
    | nil=>exact .nil
    | cons c l ih=>exact .cons (.str _) ih
   exact this _
  ·cases hm
 ·cases hm
def CG(ds:List D)(S:ac):Option (D×ac):=match ds with
 | [d]=>(fO S d).bind λxs=>U (.ref S.length,S++[.lst xs])
 | _=>Y
theorem Dg:CallR X (.type "list") (BJ X.K CG):=CallR.imp pd λxs H Q z0=>by
 obtain⟨μ,S,ds,d,S',hS,hr,hm,post⟩:=z0
 unfold CG at hm
 split at hm
 ·rename_i x
  obtain⟨ys,h1,hm⟩:=Ww.mp hm
  cases hm
  obtain⟨v,rfl,r⟩:=hr.one
  obtain⟨a,vs,rfl,hq,rs⟩:=gS hS r h1
  exact⟨a,vs,rfl,hq,λp hp=>post.lstR hS hp rs⟩
 ·cases hm
def ji(a:ME)(st:MO):ME:=λenv S=>(a env S).bind λp=>(st env p.2).bind λk=>match p.1,k.1 with
 | .lst xs,U j=>if j = -1 then U (.lst xs.reverse,k.2) else Y
 | _,_=>Y
theorem Ql{st:pc}(ha:DE X a ma)(hs:DO X (U st) ms):DE X (.Subscript a (.Slice Y Y (U st) p2) pos) (ji ma ms):=
 PE.imp (Ob ha hs) λσ H Q z0=>by
  obtain⟨μ,S,env,d,S',hS,hE,h,post⟩:=z0
  obtain⟨⟨x,S1⟩,h1,h⟩:=Ww.mp h
  obtain⟨⟨k,S2⟩,h2,h⟩:=Ww.mp h
  refine⟨μ,S,env,x,S1,hS,hE,h1,λv H1 μ1 e1 s1 r1=>⟨μ1,S1,env,k,S2,s1,hE.mono e1,h2,λH2 μ2 e2 s2=>?_⟩⟩
  dsimp only at h
  split at h
  ·split at h
   ·rename_i xs j hj
    cases h
    obtain⟨b,vs,rfl,q,_,r⟩:=(r1.mono e2).sqL
    exact⟨b,vs,rfl,by rw[hj],.inl (.inl q),λp hp=>((post.ext e1).ext e2).lst s2 hp r.reverse⟩
   ·cases h
  ·cases h
def gK(o:ME):ME:=λenv S=>(o env S).bind λp=>match p.1 with | .str z=>if tooLong (Txt.upper z).length=false then U (.str (Txt.upper z),p.2) else Y | _=>Y
theorem Mb{apos cpos:Pos}(ho:DE X o mo)(hbase:attributeBase o "upper" X.env (eval o X.env)=eval o X.env)(hline:(apos.endLine==cpos.line)=true):DE X (.Call (.Attribute o "upper" apos) [] [] cpos) (gK mo):=
 PE.imp (Tz (X:=X) Zo F.slot_str_upper F.type_str_upper Jm ho hbase hline) λσ H Q z0=>by
  obtain⟨μ,S,env,d,S',hS,hE,h,post⟩:=z0
  obtain⟨⟨x,S1⟩,h1,h⟩:=Ww.mp h
  dsimp only at h
  split at h
  ·rename_i z
   split at h
   ·rename_i hz
    cases h
    refine⟨μ,S,env,_,_,hS,hE,h1,λv H1 μ1 e1 s1 r1=>⟨?_,z,r1.str_inv,rfl,hz,post _ H1 μ1 e1 s1 (.str _)⟩⟩
    rw[r1.str_inv];exact rfl
   ·cases h
  ·cases h
end
end M
namespace L2
section
variable{X:Cx}{k:Nat}{x:Str}{p cpos:Pos}{e ce:pc}{es:List pc}{t:TA}
def Wr(X:Cx)(ce:pc)(tc:XK->TE):Prop:=∀ (pins:List (gV×Obj)) (s:gw) (σ:St) (H:Hp) (E:XK) (Q:VK),Inv X pins σ H s->tc E σ H Q->Ew (model X.prog X.w) X.A (eval ce X.env) (EP X pins σ Q) (Wn X pins σ E) s
theorem Jd{i:Nat}{b:Str}(hr:Room k X.A)(hN:X.N[i]?=U b)(hv:QQ X.env.scope b)(ha:PA X (e::es) t)(hxe:∀ v s',X.xe v s'->False)(hd:(b==("__debug__":Str))=false)(hc:(b==("__classdict__":Str))=false)
  (he:zH (e::es) X.env=(false,eval e X.env)::zH es X.env) (hpl:(backTo cpos (zH es X.env)).any (·.1)=false) :
  Wr X (.Call (.Name b p) (e::es) [] cpos) (λE σ H Q=>∃ f fd ps sp,σ[i]?=U (U (.ref f))/\FnOk X.prog X.w X.K X.mg X.base (mU X.prog X.w) k f fd ps sp/\W.keepIn X.K (.ref f)=true/\Binds X.K fd ps []/\Dv sp [] E t σ H Q):=by
 intro pins s σ H E Q I ⟨f,fd,ps,sp,hσ,F,hk,hb,h⟩
 refine YG (WV (BN hN hv hd hc pins s σ H (λv H'=>v=.ref f/\H'=H) I ⟨_,hσ,rfl,rfl⟩) (λu s0 ⟨v,H0,I0,r0,e1,e2⟩=>?_) λv s' z=>(hxe v s' z).elim)
 subst e1 e2
 cases r0
 refine W.callWith_K (h₀:=X.base) I0.ok.mod.kin hk (WV (ha cpos pins s0 σ H0 _ I0 h) (λus s1 ⟨vs,H1,I1,r,q⟩=>⟨I1.kIn,?_⟩) λv s' z=>(hxe v s' z).elim) he hpl
 have r2:Vals (vs++[]) (us++[]):=r.append .nil
 have hl:(us++[]).length=ps.length:=by rw[<- r2.length];exact F.len _ _ _ _ q
 refine Zh (XH (F.run X.A X.stack s1 H1 ⟨us,[]⟩ (us++[]) (vs++[]) Q E hr I1.env0 (hb s1 us I1.kIn hl) r2 q) λr s' hq=>?_)
 match r,hq with
 | .error v,hq=>exact⟨H1,s1,I1,hq⟩
 | .ok (.ret u),hq=>exact I1.after hq
theorem NO{g y:Str}{pa:Pos}{i j:Nat}{n:Str}{b₀:tu}{suite:List tu}(hC:Wr X ce tc)
  (hG:uB X.K G bmG) (hbG:bmG.contains (.type "BaseException")=true) (hg:Gl X g) (hm:X.mg g=U (.ref G)) (hN:X.N.Nodup) (hi:X.N[i]?=U n) (hk:X.env.scope.names.lookup n=U .local)
  (hj:X.N[j]?=U y) (hy:MR X.env.scope y) (hf:X.fn y=true\/X.env.scope.names.lookup y=U .local)
  (hS:∀ v,PSs (X.suite v λ_ _=>False) (b₀::suite) ts) (hs:X.stack=X.env::X.outer) (hfm:X.env.frame=U X.env.locals) (hex:X.ex=[]) (hd:(g==("__debug__":Str))=false)
  (hsw:swapsWith ce (U (.Name y py)) pa.line X.env=pure false) :
  PS X (.Try [.Assign [.Name y py] ce pa] [.ExceptHandler (U (.Name g gp)) (U n) (b₀::suite) hp] [] [] pos) (λD σ H=>tc (exAs X G i ts D σ) σ H λv H1=>D.nx (σ.set j (U v)) H1):=by
 intro pins s σ H D I h
 refine wpAny_Try_except (aah (wpAny_Assign_Name (WV (hC pins s σ H _ _ I h) (λv s1 hq=>?_) λe' s' hq=>?_) hsw))
 ·obtain⟨w,H1,I1,rw',q1⟩:=hq
  exact iK I1 hN hj hy rw' (λs2 I2=>YX (YX ⟨_,H1,I2,q1⟩)) hf
 ·obtain⟨H1,s1,I1,fl⟩:=hq
  refine CC hs hfm hex I1 fl λs'' a T C dx H' ea I2 na q L=>?_
  subst ea
  obtain⟨C',dx',bm,eC,ed,hC,hin,hts⟩:=q
  cases eC;cases ed
  exact Gm I2 L hC hG hin hbG hg hm hN hi hk hS (hts a na) hd
end
end L2
namespace M
open L2
section
variable{X:Cx}{K:FA}{μ μ':Fp}{H H':Hp}{S S':ac}{C:gV}{fl:Str}
noncomputable abbrev MC:=ax->ac->Option RY
def PostR(K:FA)(C:gV)(fl:Str)(E:XK)(μ:Fp)(H:Hp)(Q:VK):RY->Prop
 | .val d S'=>Post K μ H S' d Q
 | .xc i S'=>PostX K C fl μ H S' i E
inductive tR(K:FA)(C:gV)(fl:Str)(m:MC)(E:XK)(σ:L2.St)(H:Hp)(Q:VK):Prop
 | mk (μ:Fp) (S:ac) (env:ax) (r:RY) (hS:SOk K μ S H) (hE:EOk K μ H σ env) (h:m env S=U r) (post:PostR K C fl E μ H Q r)
def DC(X:Cx)(C:gV)(fl:Str)(ce:pc)(m:MC):Prop:=Wr X ce (tR X.K C fl m)
def zL(m:MC)(C:gV)(fl:Str)(i j v:Nat):MS:=λenv S=>(m env S).bind λr=>match r with
 | .val d S'=>U (.nx (env.set v (U d)) S')
 | .xc q S'=>U (.nx (((env.set i (U (.exc C fl q))).set j (U (.exc C fl q))).set i Y) S')
theorem PR{g:Str}{i j v:Nat}{nm y yv:Str}{pa pav:Pos}(hC:DC X C fl ce m)
  (hG:Bk X.K X.mg g C) (hg:Gl X g) (hN:X.N.Nodup) (hi:X.N[i]?=U nm) (hk:X.env.scope.names.lookup nm=U .local) (hj:X.N[j]?=U y) (hy:X.env.scope.names.lookup y=U .local)
  (hv:X.N[v]?=U yv) (hyv:X.env.scope.names.lookup yv=U .local)
  (hs:X.stack=X.env::X.outer) (hfm:X.env.frame=U X.env.locals) (hex:X.ex=[])
  (hd:(g==("__debug__":Str))=false) (nd:(nm==("__debug__":Str))=false) (nc:(nm==("__classdict__":Str))=false)
  (hsw:swapsWith ce (U (.Name yv pyv)) pav.line X.env=pure false) :
  DS X (.Try [.Assign [.Name yv pyv] ce pav] [.ExceptHandler (U (.Name g gp)) (U nm) [.Assign [.Name y py] (.Name nm pn) pa] hp] [] [] pos) (zL m C fl i j v):=by
 obtain⟨G,bm,bmG,hmg,hCC,hGG,hin,hbG⟩:=hG
 intro pins s σ H D I h
 refine NO hC hGG hbG hg hmg hN hi hk hv (.inl hyv) (.inr hyv) (λv=>show PSs (X.suite v λ_ _=>False) _ (Su X.K (aH (ae i) (aj j))) from M.Fa (M.yw (X:=X.suite v λ_ _=>False) (i:=j) (pos:=pa) hN hj (.inl hy) (M.Ma (i:=i) hi (.inl hk) nd nc) rfl (.inr hy))) hs hfm hex hd hsw pins s σ H D I ?_
 have hl:σ.length=X.N.length:=I.len
 have hil:i<X.N.length:=(WC.mp hi).1
 obtain⟨μ,S,env,o,hS,hE,hm,post⟩:=h
 have hel:i<env.length:=by rw[<- hE.length,hl];exact hil
 obtain⟨r,h1,hm⟩:=Ww.mp hm
 refine⟨μ,S,env,r,hS,hE,h1,?_⟩
 cases r with
 | val d S2=>cases hm;exact λw H2 μ2 e2 s2 r2=>post _ H2 μ2 e2 s2 ((hE.mono e2).set r2 v)
 | xc q S2=>
  cases hm
  refine λdx H2 μ2 e2 s2 nx=>⟨C,dx,bm,rfl,rfl,hCC,hin,λb nb=>?_⟩
  obtain⟨e3,s3⟩:=s2.laid (o:=.xd [(fl,vI q)]) nx
  obtain⟨e4,s4⟩:=s3.laid (o:=.ext (lE b C dx)) nb
  have eT:=(e2.trans e3).trans e4
  have hdb:dx≠b:=λz=>by rw[<- z,aB] at nb;cases nb
  have rp:Rep X.K μ2 (upd (upd H2 dx (.xd [(fl,vI q)])) b (.ext (lE b C dx))) (.ref b) (.exc C fl q):=.exc aB (s3.notMem nb) (by rw[aA hdb,aB]) (s2.notMem nx)
  have hE4:=(hE.mono eT).set rp i
  refine⟨μ2,S2,_,.nx ((env.set i (U (.exc C fl q))).set j (U (.exc C fl q))) S2,s4,hE4,?_,λσ' H' μ' e s r=>?_⟩
  ·show((ae i) _ _).bind _=_
   unfold ae
   rw[Xv hel]
   rfl
  ·exact post _ H' μ' (eT.trans e) s (r.unset i)
structure FnZ(P:pr)(w:sv)(K:FA)(mg:Str->Option dn)(base:wo)(k:Nat)(C:gV)(fl:Str)(a:gV)(n:Nat)(fy:List D->ac->Option RY):Prop where
 ex:∃ (fd:FuncData) (ps:List Str),ps.length=n/\FnOk P w K mg base (mU P w) k a fd ps (spY K C fl n fy)/\W.keepIn K (.ref a)=true/\Binds K fd ps []
theorem FnY.at{K:FA}{k:Nat}(F:FnY P w K mg base k x n fy C fl)(h:mg x=U (.ref a)):FnZ P w K mg base k C fl a n fy:=by
 obtain⟨b,fd,ps,h1,h2,h3,h4,h5⟩:=F.ex
 rw[h] at h3;cases h3
 exact⟨fd,ps,h1,h2,h4,h5⟩
theorem FnZ.up{K:FA}{k k':Nat}(F:FnZ P w K mg base k C fl a n fy)(h:k<=k'):FnZ P w K mg base k' C fl a n fy:=by
 obtain⟨fd,ps,h1,h2,h3⟩:=F.ex
 exact⟨fd,ps,h1,h2.mono h,h3⟩
def FnZs(P:pr)(w:sv)(K:FA)(mg:Str->Option dn)(base:wo)(k:Nat)(C:gV)(fl:Str):List (gV×Nat×(List D->ac->Option RY))->Prop
 | []=>True
 | (a,n,fy)::l=>FnZ P w K mg base k C fl a n fy/\FnZs P w K mg base k C fl l
theorem FnZs.up{K:FA}{k k':Nat}(h:k<=k'):∀ {l},FnZs P w K mg base k C fl l->FnZs P w K mg base k' C fl l
 | [],_=>trivial
 | (_,_,_)::_,z=>⟨z.1.up h,FnZs.up h z.2⟩
def yQ:List (gV×Nat×(List D->ac->Option RY))->gV->Option (Nat×(List D->ac->Option RY))
 | [],_=>Y
 | (a,p)::l,b=>if a=b then U p else yQ l b
theorem FnZs.val{K:FA}{k:Nat}{p:Nat×(List D->ac->Option RY)}:∀ {l},FnZs P w K mg base k C fl l->yQ l a=U p->FnZ P w K mg base k C fl a p.1 p.2
 | [],_,q=>by cases q
 | (b,n,fy)::l,z,q=>by
  unfold yQ at q
  split at q
  ·rename_i e;cases q;subst e;exact z.1
  ·exact FnZs.val z.2 q
def qc(l:List (gV×Nat×(List D->ac->Option RY)))(i:Nat)(ms:MA):MC:=λenv S=>match env[i]? with
 | some (U (.fn a))=>(yQ l a).bind λq=>(ms env S).bind λp=>if p.1.length=q.1 then q.2 p.1 p.2 else Y
 | _=>Y
theorem EOk.fn_at(i:Nat)(h:EOk K μ H σ env)(q:env[i]?=U (U (.fn a))):σ[i]?=U (U (.ref a)):=by
 obtain⟨v,h1,h2⟩:=h.get q
 cases h2
 exact h1
theorem Mo{k:Nat}{i:Nat}{b:Str}{e:pc}{es:List pc}(F:FnZs X.prog X.w X.K X.mg X.base k C fl l)(hr:Room k X.A)(hN:X.N[i]?=U b)(hv:QQ X.env.scope b)(ha:DA X (e::es) ms)(hxe:∀ v s',X.xe v s'->False)
  (hd:(b==("__debug__":Str))=false) (hc:(b==("__classdict__":Str))=false) (he:zH (e::es) X.env=(false,eval e X.env)::zH es X.env) (hpl:(backTo cpos (zH es X.env)).any (·.1)=false) :
  DC X C fl (.Call (.Name b p) (e::es) [] cpos) (qc l i ms):=by
 intro pins s σ H E Q I h
 refine Jd hr hN hv ha hxe hd hc he hpl pins s σ H E Q I ?_
 obtain⟨μ,S,env,r,hS,hE,hm,post⟩:=h
 unfold qc at hm
 split at hm
 ·rename_i a ea
  obtain⟨q,h0,hm⟩:=Ww.mp hm
  obtain⟨⟨xs,S1⟩,h1,hm⟩:=Ww.mp hm
  dsimp only at hm
  split at hm
  ·rename_i hx
   obtain⟨fd,ps,hn,F,hk,hb⟩:=(F.val h0).ex
   refine⟨a,fd,ps,_,hE.fn_at i ea,F,hk,hb,μ,S,env,xs,S1,hS,hE,h1,λvs H1 μ1 e1 s1 r1=>?_⟩
   rw[Xt]
   refine⟨μ1,S1,xs,r,s1,r1,hx,hm,?_⟩
   cases r with
   | val d S2=>exact Post.ext e1 post
   | xc q S2=>exact PostX.ext e1 post
  ·cases hm
 ·cases hm
end
end M
namespace L2
theorem Jn:MtR X "str.strip" (λx xs H Q=>∃ z y,x=.str z/\xs=[.str y]/\z.length<=1000000/\Q (.str (Txt.stripChars z y)) H):=by
 intro pins s σ H x vs v us Q I rx rv h
 obtain⟨z,y,rfl,rfl,hz,q⟩:=h
 obtain⟨t,rfl⟩:=rx
 obtain⟨u,rfl,hu⟩:=gm rv
 obtain⟨t2,rfl⟩:=hu
 refine Yb F.slot_str_strip (YU _ _ _) F.entry_str_strip (F.args_str_strip_2 _ _) (gives_str_strip_chars z y t t2).meets ?_
 exact post_val_or_made (λ_=>fits_stripped _ _ _ (Xa hz (by decide))) λt' k=>⟨.str _,H,I.tok _,⟨_,rfl⟩,q⟩
end L2
namespace M
open L2
section
variable{X:Cx}
def gL(o:ME)(ms:MA):ME:=λenv S=>(o env S).bind λp=>match p.1 with
 | .str z=>(ms env p.2).bind λq=>match q.1 with
  | [.str y]=>if z.length<=1000000 then U (.str (Txt.stripChars z y),q.2) else Y
  | _=>Y
 | _=>Y
theorem Mc{e:pc}{es:List pc}{apos:Pos}(ho:DE X o mo)(ha:DA X (e::es) ms)
  (hbase:attributeBase o "strip" X.env (eval o X.env)=eval o X.env)
  (hfew:((backTo cpos (zH (e::es) X.env)).all (λx=>!x.1)&&(backToKw cpos (keywordEach [] X.env)).all (λx=>x.1.isSome)&&decide ((e::es).length+([]:List Keyword).length+(if ([]:List Keyword).isEmpty then 0 else 1)<30))=true)
  (hline:(apos.endLine==cpos.line)=true) (hs:zH (e::es) X.env=(false,eval e X.env)::zH es X.env) (hpl:(backTo cpos (zH es X.env)).any (·.1)=false) :
  DE X (.Call (.Attribute o "strip" apos) (e::es) [] cpos) (gL mo ms):=
 PE.imp (DD (X:=X) Zo F.slot_str_strip F.type_str_strip Jn ho ha hbase hfew hline hs hpl) λσ H Q z0=>by
  obtain⟨μ,S,env,d,S',hS,hE,h,post⟩:=z0
  obtain⟨⟨x,S1⟩,h1,h⟩:=Ww.mp h
  dsimp only at h
  split at h
  ·rename_i z
   obtain⟨⟨xs,S2⟩,h2,h⟩:=Ww.mp h
   dsimp only at h
   split at h
   ·rename_i y
    split at h
    ·rename_i hc
     cases h
     refine⟨μ,S,env,_,S1,hS,hE,h1,λv H1 μ1 e1 s1 r1=>⟨?_,μ1,S1,env,_,_,s1,hE.mono e1,h2,λvs H2 μ2 e2 s2 r2=>?_⟩⟩
     ·rw[r1.str_inv];exact rfl
     ·obtain⟨w,rfl,rw'⟩:=r2.one
      exact⟨z,y,r1.str_inv,by rw[rw'.str_inv],hc,post _ H2 μ2 (e1.trans e2) s2 (.str _)⟩
    ·cases h
   ·cases h
  ·cases h
theorem Mh:DE X (.Dict [] [] pos) (ei []):=PE.imp zp λσ H Q z0=>by
 obtain⟨μ,S,env,d,S',hS,hE,hm,post⟩:=z0
 cases hm
 intro p hp
 obtain⟨cs,fb⟩:=μ
 have s2:=hS.more (o:=.dK []) hp
 obtain⟨eF,sF,hF⟩:=Ext.shutR hp (hS.notMem hp).2 s2.ext s2 KR.nil
 rw[show upd (upd H p (.dK [])) p (.dK [])=upd H p (.dK []) from funext λb=>by unfold upd;split<;>rfl] at eF sF
 exact post _ _ _ eF sF (.ref (by rw[<- hS.len];simp))
end
end M
set_option hygiene false
local macro_rules|`($c:char)=>do let q:=Lean.quote (c.getChar.toNat%48);if c.getChar.toNat<96 then `(MI.ae $q) else `(MI.aj $q)
local macro_rules|`($c:scientific)=>`(MI.mC (.int $(Lean.quote c.getScientific.1)))
local macro_rules|`(!$s:str)=>`(MI.mC (.str $s))
local macro_rules|`(tactic|simp![$l,*])=>`(tactic|simp only[ob,am,aM,aq,ci,oj,ao,ah,av,ag,da,cZ,aU,aJ,aI,bn,aK,aT,aP,aR,jO,bw,bx,aQ,bV,kM,aO,aZ,ba,bK,bh,bM,bX,bi,bH,cF,$l,*])
set_option hygiene true
namespace MI
open L2 M
@[irreducible] noncomputable def mC(d:D):ME:=M.mC d
theorem tD{d:D}:mC d=M.mC d:=by unfold mC;rfl
@[irreducible] noncomputable def ae(i:Nat):ME:=M.ae i
theorem Ed:ae i=M.ae i:=by unfold ae;rfl
@[irreducible] noncomputable def az(f:ac->D->D->Option D)(a b:ME):ME:=M.az f a b
theorem gr:az f a b=M.az f a b:=by unfold az;rfl
@[irreducible] noncomputable def aF(m:ME):MT:=M.aF m
theorem tm:aF m=M.aF m:=by unfold aF;rfl
@[irreducible] noncomputable def cq(f g:ac->D->D->Option D)(a b c:ME):ME:=M.cq f g a b c
theorem qa{g:ac->D->D->Option D}:cq f g a b c=M.cq f g a b c:=by unfold cq;rfl
@[irreducible] noncomputable def cn(m:ME):MT:=M.cn m
theorem xX:cn m=M.cn m:=by unfold cn;rfl
@[irreducible] noncomputable def gd(a b:MT):MT:=M.gd a b
theorem tF:gd a b=M.gd a b:=by unfold gd;rfl
@[irreducible] noncomputable def cD(a b:MT):MT:=M.cD a b
theorem xY:cD a b=M.cD a b:=by unfold cD;rfl
@[irreducible] noncomputable def bO(a:MT):MT:=M.bO a
theorem zQ:bO a=M.bO a:=by unfold bO;rfl
@[irreducible] noncomputable def ie(a b:ME):ME:=M.JL a b
theorem Ex:ie a b=M.JL a b:=by unfold ie;rfl
@[irreducible] noncomputable def Ej(a b:ME):ME:=M.Ud a b
theorem JB:Ej a b=M.Ud a b:=by unfold Ej;rfl
@[irreducible] noncomputable def kD(a:ME):ME:=M.JD a
theorem zP:kD a=M.JD a:=by unfold kD;rfl
@[irreducible] noncomputable def pW(t:MT)(a b:ME):ME:=M.pW t a b
theorem JE:pW t a b=M.pW t a b:=by unfold pW;rfl
@[irreducible] noncomputable def af:MA:=M.af 
theorem xZ  : af  = M.af  := by unfold af;rfl
@[irreducible] noncomputable def aa(a:ME)(r:MA):MA:=M.aa a r
theorem zY:aa a r=M.aa a r:=by unfold aa;rfl
@[irreducible] noncomputable def bB(ms:MA):ME:=M.bB ms
theorem Ee:bB ms=M.bB ms:=by unfold bB;rfl
@[irreducible] noncomputable def cP(ms:MA):ME:=M.cP ms
theorem Ek:cP ms=M.cP ms:=by unfold cP;rfl
@[irreducible] noncomputable def fA(ms:MA):ME:=M.fA ms
theorem zT:fA ms=M.fA ms:=by unfold fA;rfl
@[irreducible] noncomputable def Bm(f:ac->D->Option D)(a:ME):ME:=M.Bm f a
theorem Jz:Bm f a=M.Bm f a:=by unfold Bm;rfl
@[irreducible] noncomputable def aW:MO:=M.aW 
theorem vV  : aW  = M.aW  := by unfold aW;rfl
@[irreducible] noncomputable def bA(m:ME):MO:=M.bA m
theorem zO:bA m=M.bA m:=by unfold bA;rfl
@[irreducible] noncomputable def cB(a:ME)(lo hi:MO):ME:=M.cB a lo hi
theorem vT{lo:MO}:cB a lo hi=M.cB a lo hi:=by unfold cB;rfl
@[irreducible] noncomputable def ay(f:List D->ac->Option (D×ac))(ms:MA):ME:=M.ay f ms
theorem dO:ay f ms=M.ay f ms:=by unfold ay;rfl
@[irreducible] noncomputable def du(T:String)(m:ME):ME:=M.du T m
theorem Eo:du T m=M.du T m:=by unfold du;rfl
@[irreducible] noncomputable def ai(n:Nat)(f:List D->ac->Option (D×ac))(ms:MA):ME:=M.ai n f ms
theorem qb:ai n f ms=M.ai n f ms:=by unfold ai;rfl
@[irreducible] noncomputable def aL:MS:=M.aL 
theorem lj  : aL  = M.aL  := by unfold aL;rfl
@[irreducible] noncomputable def aD(a b:MS):MS:=M.aD a b
theorem Ef:aD a b=M.aD a b:=by unfold aD;rfl
@[irreducible] noncomputable def aX(m:ME):MS:=M.aX m
theorem Eh:aX m=M.aX m:=by unfold aX;rfl
@[irreducible] noncomputable def dN(m:ME):MS:=M.dN m
theorem zW:dN m=M.dN m:=by unfold dN;rfl
@[irreducible] noncomputable def bJ(t:MT)(a b:MS):MS:=M.bJ t a b
theorem Er:bJ t a b=M.bJ t a b:=by unfold bJ;rfl
@[irreducible] noncomputable def aj(i:Nat):MG:=M.aj i
theorem lV:aj i=M.aj i:=by unfold aj;rfl
@[irreducible] noncomputable def bU:mE:=M.bU 
theorem AB  : bU  = M.bU  := by unfold bU;rfl
@[irreducible] noncomputable def au(g:MG)(gs:mE):mE:=M.au g gs
theorem wv{g:MG}:au g gs=M.au g gs:=by unfold au;rfl
@[irreducible] noncomputable def cj(n:Nat)(gs:mE):MG:=M.cj n gs
theorem jF:cj n gs=M.cj n gs:=by unfold cj;rfl
@[irreducible] noncomputable def gx(o i:ME):MG:=M.gx o i
theorem Az:gx o i=M.gx o i:=by unfold gx;rfl
@[irreducible] noncomputable def jm(o i:ME):MG:=M.jm o i
theorem Ay:jm o i=M.jm o i:=by unfold jm;rfl
@[irreducible] noncomputable def aH(m:ME)(g:MG):MS:=M.aH m g
theorem iw{g:MG}:aH m g=M.aH m g:=by unfold aH;rfl
@[irreducible] noncomputable def bg(ms:MA):MA:=M.bg ms
theorem mZ:bg ms=M.bg ms:=by unfold bg;rfl
@[irreducible] noncomputable def gY(mi:MA)(g:MG)(body:MS):MS:=M.gY mi g body
theorem Es{g:MG}:gY mi g body=M.gY mi g body:=by unfold gY;rfl
@[irreducible] noncomputable def cg(mi:MA)(g:MG)(t:MT)(e:ME)(cap:List (Option Nat)):ME:=M.cg mi g t e cap
theorem tB{g:MG}:cg mi g t e cap=M.cg mi g t e cap:=by unfold cg;rfl
@[irreducible] noncomputable def eD(m:ME):MA:=M.eD m
theorem rY:eD m=M.eD m:=by unfold eD;rfl
@[irreducible] noncomputable def bq:MT:=M.bq 
theorem zM  : bq  = M.bq  := by unfold bq;rfl
@[irreducible] noncomputable def el(f:MF)(o:ME)(ms:MA):ME:=M.el f o ms
theorem zR:el f o ms=M.el f o ms:=by unfold el;rfl
@[irreducible] noncomputable def mq(a:ME)(st:MO):ME:=M.mq a st
theorem Eg{st:MO}:mq a st=M.mq a st:=by unfold mq;rfl
@[irreducible] noncomputable def cQ(ms:MA):ME:=M.cQ ms
theorem tz:cQ ms=M.cQ ms:=by unfold cQ;rfl
@[irreducible] noncomputable def lm(i j:Nat)(ms:MA):MS:=M.lm i j ms
theorem Ei:lm i j ms=M.lm i j ms:=by unfold lm;rfl
@[irreducible] noncomputable def mY(ms:MA):MA:=M.mY ms
theorem Eb:mY ms=M.mY ms:=by unfold mY;rfl
@[irreducible] noncomputable def jj(ms:List (ME×ME)):ME:=M.jj ms
theorem zX:jj ms=M.jj ms:=by unfold jj;rfl
@[irreducible] noncomputable def ei(ms:List (ME×ME)):ME:=M.ei ms
theorem pY:ei ms=M.ei ms:=by unfold ei;rfl
@[irreducible] noncomputable def dH(f:MF)(o:ME)(ms:MA):ME:=M.dH f o ms
theorem vW:dH f o ms=M.dH f o ms:=by unfold dH;rfl
@[irreducible] noncomputable def dM(m:ME)(g:MG)(body:MS):MS:=M.dM m g body
theorem zU{g:MG}:dM m g body=M.dM m g body:=by unfold dM;rfl
@[irreducible] noncomputable def om(m:ME):ME:=M.om m
theorem Eu:om m=M.om m:=by unfold om;rfl
@[irreducible] noncomputable def dj(ms:List ME)(out:Str):ME:=M.dj ms out
theorem lP:dj ms out=M.dj ms out:=by unfold dj;rfl
@[irreducible] noncomputable def cC(o:ME)(ms:MA):ME:=M.cC o ms
theorem vU:cC o ms=M.cC o ms:=by unfold cC;rfl
@[irreducible] noncomputable def Cm(e:ME):MB:=M.Cm e
theorem JG:Cm e=M.Cm e:=by unfold Cm;rfl
@[irreducible] noncomputable def kL(mi:MA)(g:MG)(t:MT)(b:MB):MB:=M.kL mi g t b
theorem Ep{g:MG}:kL mi g t b=M.kL mi g t b:=by unfold kL;rfl
@[irreducible] noncomputable def eG(mi:MA)(g:MG)(t:MT)(b:MB)(cap:List (Option Nat)):ME:=M.eG mi g t b cap
theorem pZ{g:MG}:eG mi g t b cap=M.eG mi g t b cap:=by unfold eG;rfl
@[irreducible] noncomputable def gu(mi:MA)(g:MG)(t:MT)(kx vx:ME)(cap:List (Option Nat)):ME:=M.gu mi g t kx vx cap
theorem vZ{g:MG}:gu mi g t kx vx cap=M.gu mi g t kx vx cap:=by unfold gu;rfl
@[irreducible] noncomputable def bW(o:ME)(ms:MA):ME:=M.bW o ms
theorem vS:bW o ms=M.bW o ms:=by unfold bW;rfl
@[irreducible] noncomputable def gL(o:ME)(ms:MA):ME:=M.gL o ms
theorem vR:gL o ms=M.gL o ms:=by unfold gL;rfl
@[irreducible] noncomputable def rM(m:ME):MA:=M.rM m
theorem Em:rM m=M.rM m:=by unfold rM;rfl
@[irreducible] noncomputable def il(gs:mE):MG:=M.il gs
theorem AA:il gs=M.il gs:=by unfold il;rfl
@[irreducible] noncomputable def jk(n:Nat)(gs:mE):MG:=M.jk n gs
theorem Ax:jk n gs=M.jk n gs:=by unfold jk;rfl
@[irreducible] noncomputable def aS(a:ME)(lo hi:MO):ME:=M.aS a lo hi
theorem tw{lo:MO}:aS a lo hi=M.aS a lo hi:=by unfold aS;rfl
@[irreducible] noncomputable def ji(a:ME)(st:MO):ME:=M.ji a st
theorem zN{st:MO}:ji a st=M.ji a st:=by unfold ji;rfl
@[irreducible] noncomputable def gK(o:ME):ME:=M.gK o
theorem vQ:gK o=M.gK o:=by unfold gK;rfl
theorem Co:ai 0 f af=M.ai 0 f M.af:=by rw[qb,xZ]
theorem Cf:aF (az f a b)=M.aF (M.az f a b):=by rw[tm,gr]
theorem Cg{g:ac->D->D->Option D}:aF (cq f g a b c)=M.aF (M.cq f g a b c):=by rw[tm,qa]
theorem nh:aH m (aj i)=M.aH m (M.aj i):=by rw[iw,lV]
theorem Aa{g:MG}:aH (cg mi g t e cap) (aj i)=M.aH (M.cg mi g t e cap) (M.aj i):=by rw[iw,lV,tB]
theorem yb{g:MG}:aH (eG mi g t b cap) (aj i)=M.aH (M.eG mi g t b cap) (M.aj i):=by rw[iw,lV,pZ]
section
variable{X:Cx}{e:pc}{es:List pc}{s:tu}{ss:List tu}
theorem Se{m m':MB}(h:m=m')(d:Sh X bc p m'):Sh X bc p m:=by rw[h];exact d
theorem aY{m m':ME}(h:m=m')(d:DE X e m'):DE X e m:=by rw[h];exact d
theorem Ba{m m':MT}(h:m=m')(d:DT X e m'):DT X e m:=by rw[h];exact d
theorem Fh{m m':MT}(h:m=m')(d:DW X e m'):DW X e m:=by rw[h];exact d
theorem Sf{m m':MA}(h:m=m')(d:DA X es m'):DA X es m:=by rw[h];exact d
theorem Sd{m m':MO}(h:m=m')(d:DO X o m'):DO X o m:=by rw[h];exact d
theorem rm{m m':MG}(h:m=m')(d:DG X e m'):DG X e m:=by rw[h];exact d
theorem Ms{m m':mE}(h:m=m')(d:QU X es m'):QU X es m:=by rw[h];exact d
theorem Bb{m m':MA}(h:m=m')(d:DI X tg e m'):DI X tg e m:=by rw[h];exact d
theorem Mr{m m':MA}(h:m=m')(d:Wu X tg e m'):Wu X tg e m:=by rw[h];exact d
theorem Wf{m m':MT}(h:m=m')(d:HB X es m'):HB X es m:=by rw[h];exact d
theorem iZ{m m':MS}(h:m=m')(d:DS X s m'):DS X s m:=by rw[h];exact d
theorem Mq{m m':MS}(h:m=m')(d:yK X ss m'):yK X ss m:=by rw[h];exact d
end
inductive GI where
 | fn (n:Nat) (f:List D->ac->Option (D×ac))
 | con (d:D)
 | blt
 | tab (l:List (bD×D))
 | thf (x:Str) (l:List (gV×Nat×(List D->ac->Option RY))) (C:gV) (fl:Str)
 | cls (C:gV) (b:Bool)
 | hnd (C:gV)
 | rse (C:gV) (fl:Str)
 | fld (C:gV) (fl:Str)
structure CI where
 N:List Str
 sc:Scope
 all:Bool
 gs:List (Str×GI)
 mt:List Nat
 nx:Bool
def GOk(X:Cx)(k:Nat)(x:Str):GI->Prop
 | .fn n f=>Fn X.prog X.w X.K X.mg X.base k x n f
 | .con d=>GC X.K X.mg x d
 | .blt=>X.mg x=Y
 | .tab l=>MQ X.w X.K X.mg x l
 | .thf x l C fl=>FnZs X.prog X.w X.K X.mg X.base k C fl l
 | .cls C b=>ClsOk X.K X.mg x C b
 | .hnd C=>Bk X.K X.mg x C
 | .rse C fl=>2<=k/\Bi X.prog X.w X.K X.mg X.base x C fl
 | .fld C fl=>uD X.K C fl
structure NX(X:Cx):Prop where
 xe:X.xe=λ_ _=>False
 hs:X.stack=X.env::X.outer
 hfm:X.env.frame=U X.env.locals
 hex:X.ex=[]
structure gk(k:Nat)(c:CI)(X:Cx):Prop where
 N:X.N=c.N
 nd:c.N.Nodup
 sc:X.env.scope=c.sc
 fk:c.sc.kind=.function
 fn:c.all=true->∀ x,X.fn x=true
 calm:X.calm=true
 room:Room k X.A
 xe:PassesOwn (model X.prog X.w) X.A X.env X.xe
 xf:c.nx=true->NX X
 gs:∀ p∈c.gs,GOk X k p.1 p.2
def fH:ME:=λ_ _=>Y
def uT:MT:=λ_ _=>Y
def et:MS:=λ_ _=>Y
def oa:MA:=λ_ _=>Y
def Ky:MG:=λ_ _ _=>Y
section
variable{X:Cx}{k:Nat}{c:CI}{e:pc}{pos:Pos}
theorem bp:DE X e fH:=λ_ _ _ _ _ _ ⟨_,_,_,_,_,_,_,h,_⟩=>by cases h
theorem oS:DT X e uT:=λ_ _ _ _ _ _ ⟨_,_,_,_,_,_,_,h,_⟩=>by cases h
theorem eN{s:tu}:DS X s et:=λ_ _ _ _ _ _ ⟨_,_,_,_,_,_,h,_⟩=>by cases h
theorem oU{s:tu}{g:MG}:DS X s (aH fH g):=by
 rw[show aH fH g=et from by rw[iw];rfl]
 exact eN
theorem VE{s:List tu}:yK X s et:=λ_ _ _ _ _ _ ⟨_,_,_,_,_,_,h,_⟩=>by cases h
theorem da_no:DA X es oa:=λ_ _ _ _ _ _ _ ⟨_,_,_,_,_,_,_,h,_⟩=>by cases h
theorem ut:DI X tg e oa:=λ_ _ _ _ _ _ ⟨_,_,_,_,_,_,_,h,_⟩=>by cases h
theorem wK:DG X e Ky:=λ_ _ _ _ _ _ _ _ _ ⟨_,_,_,_,_,_,_,_,_,h,_⟩=>by cases h
def jY(x:Str):List Str->Option Nat
 | []=>Y
 | y::r=>if x==y then U 0 else(jY x r).map (· + 1)
theorem bY:∀ {l:List Str} {i:Nat},jY x l=U i->l[i]?=U x
 | y::r,i,h=>by
  unfold jY at h
  split at h
  ·rename_i e;cases h;simp at e;simp[e]
  ·cases q:jY x r with
   | none=>rw[q] at h;cases h
   | some j=>rw[q] at h;cases h;simpa using bY q
def eE(x:Str):Bool:=!(x==("__debug__":Str))&&!(x==("__classdict__":Str))&&!(x==("__name__":Str))
theorem bF(h:eE x=true):(x==("__debug__":Str))=false:=by
 unfold eE at h;rw[Wz,Wz] at h;simpa only[Bool.not_eq_true'] using h.1.1
theorem sT(h:eE x=true):(x==("__classdict__":Str))=false:=by
 unfold eE at h;rw[Wz,Wz] at h;simpa only[Bool.not_eq_true'] using h.1.2
theorem dL(h:eE x=true):x≠"__name__":=by
 unfold eE at h;rw[Wz,Wz] at h
 have:=h.2
 rw[Bool.not_eq_true'] at this
 intro z;rw[z] at this;simp at this
def rO(c:CI)(x:Str):Option GI:=match c.sc.names.lookup x with | some .globalImplicit=>if eE x then c.gs.lookup x else Y | _=>Y
theorem fI{g:GI}(C:gk k c X)(h:rO c x=U g):Gl X x/\eE x=true/\GOk X k x g:=by
 unfold rO at h
 split at h
 ·rename_i e
  split at h
  ·rename_i o
   refine⟨?_,o,C.gs _ (XN h)⟩
   show X.env.scope.names.lookup x=_
   rw[C.sc,e]
  ·cases h
 ·cases h
def CM(c:CI)(x:Str):ME:=match c.sc.names.lookup x with
 | some .globalImplicit=>match rO c x with | some (.con d)=>mC d | _=>fH
 | some .local=>match jY x c.N with | some i=>if eE x then ae i else fH | none=>fH
 | some .cell=>match jY x c.N with | some i=>if eE x then ae i else fH | none=>fH
 | some .free=>match jY x c.N with | some i=>if eE x then ae i else fH | none=>fH
 | _=>fH
theorem nu(C:gk k c X)(hv:QQ c.sc x):DE X (.Name x pos) (match jY x c.N with | some i=>if eE x then ae i else fH | none=>fH):=by
 split
 ·rename_i i e
  split
  ·rename_i o
   exact aY Ed <| M.Ma (by rw[C.N];exact bY e) (by rw[C.sc];exact hv) (bF o) (sT o)
  ·exact bp
 ·exact bp
theorem Gy(C:gk k c X)(x:Str):DE X (.Name x pos) (CM c x):=by
 unfold CM
 split
 ·split
  ·rename_i d e
   obtain⟨g,o,G⟩:=fI C e
   exact aY tD <| M.Qq G g (bF o)
  ·exact bp
 ·rename_i e;exact nu C (.inl e)
 ·rename_i e;exact nu C (.inr (.inl e))
 ·rename_i e;exact nu C (.inr (.inr e))
 ·exact bp
def EX:Const->ME
 | .int i=>mC (.int i)
 | .bool b=>mC (.bl b)
 | .none=>mC .non
 | .str x=>mC (.str x)
 | _=>fH
theorem CP(v:Const):DE X (.Constant v j pos) (EX v):=by
 cases v<;>first | exact aY tD <| M.VX | exact aY tD <| M.de_bl | exact aY tD <| M.VS | exact aY tD <| M.VP | exact bp
def Lp(z y:Bool)(op:Operator)(a b:ME):ME:=match op with
 | .Add=>if y then az er a b else if z then az bI a b else az be a b
 | .Sub=>az Po a b
 | .Mult=>if z then az mS a b else az dD a b
 | .Mod=>az lB a b
 | .FloorDiv=>az Gs a b
 | .Pow=>az uV a b
 | _=>fH
theorem Lo{mb:ME}(ha:DE X a ma)(hb:DE X b mb):DE X (.BinOp a op b pos) (Lp z y op ma mb):=by
 cases op<;>first | exact bp | skip
 ·cases y
  ·cases z
   ·exact aY gr <| M.oW DH ha hb
   ·exact aY gr <| M.oW DJ ha hb
  ·exact aY gr <| M.oW Ow ha hb
 ·exact aY gr <| M.oW TQ ha hb
 ·cases z
  ·exact aY gr <| M.oW Ou ha hb
  ·exact aY gr <| M.oW Ov ha hb
 ·exact aY gr <| M.oW TV ha hb
 ·exact aY gr <| M.oW TR ha hb
 ·exact aY gr <| M.oW TW ha hb
def evUn(op:UnaryOp)(a:ME):ME:=match op with
 | .Not=>kD a
 | .USub=>Bm KM a
 | _=>fH
theorem Py(ha:DE X a ma):DE X (.UnaryOp op a pos) (evUn op ma):=by
 cases op<;>first | exact bp | skip
 ·exact aY zP <| M.Qm ha
 ·exact aY Jz <| M.de_un Nh ha
def cmpF:CmpOp->Option (ac->D->D->Option D)
 | .Eq=>U jG
 | .NotEq=>U mw
 | .Lt=>U KP
 | .LtE=>U Ps
 | .Gt=>U CJ
 | .GtE=>U fGe
 | .In=>U yJ
 | .NotIn=>U ej
 | .Is=>U ET
 | .IsNot=>U nr
theorem QB{f:ac->D->D->Option D}(r:Room k X.A)(h:cmpF op=U f):OpR X (Db op) (kn X.K f):=by
 cases op<;>cases h
 ·exact op_Eq r.units
 ·exact op_Ne r.units
 ·exact op_Lt
 ·exact op_Le
 ·exact op_Gt
 ·exact op_Ge
 ·exact op_Is
 ·exact Jh
 ·exact op_In r.units
 ·exact Jg r.units
def rj(z y:Bool)(op:CmpOp):Option (ac->D->D->Option D):=cmpF op
theorem jJ{f:ac->D->D->Option D}(r:Room k X.A)(h:rj z y op=U f):OpR X (Db op) (kn X.K f):=by
 unfold rj at h
 exact QB r h
def gH:pc->Bool
 | .Set _ _ _=>false
 | _=>true
theorem iq(h:gH e=true):behindInMarks op e=false:=by cases e<;>first | rfl | cases h
theorem dB(h:gH e=true)(x:dn):zI e X.env x=pure x:=by cases e<;>first | rfl | cases h
def Ln(c:CI)(E:CI->pc->ME)(a:pc)(ops:List CmpOp)(bs:List pc):ME:=match ops,bs with
 | [op],[b]=>if gH b then(match rj (c.mt.contains 990000) (c.mt.contains 996000) op with | some f=>az f (E c a) (E c b) | none=>fH) else fH
 | [op,op'],[b,d]=>if gH d then(match rj (c.mt.contains 990000) (c.mt.contains 996000) op,rj (c.mt.contains 990000) (c.mt.contains 996000) op' with | some f,U g=>cq f g (E c a) (E c b) (E c d) | _,_=>fH) else fH
 | _,_=>fH
def CQ(c:CI)(E:CI->pc->ME)(a:pc)(ops:List CmpOp)(bs:List pc):MT:=match ops,bs with
 | [op],[b]=>if gH b then(match rj (c.mt.contains 990000) (c.mt.contains 996000) op with | some f=>aF (az f (E c a) (E c b)) | none=>uT) else uT
 | [op,op'],[b,d]=>if gH d then(match rj (c.mt.contains 990000) (c.mt.contains 996000) op,rj (c.mt.contains 990000) (c.mt.contains 996000) op' with | some f,U g=>aF (cq f g (E c a) (E c b) (E c d)) | _,_=>uT) else uT
 | _,_=>uT
section
variable{E:CI->pc->ME}{T:CI->pc->MT}
theorem Lm(C:gk k c X)(hE:∀ e,DE X e (E c e)){bs:List pc}:DE X (.Compare a ops bs pos) (Ln c E a ops bs):=by
 unfold Ln
 split
 ·split
  ·rename_i hm
   split
   ·rename_i f h;exact aY gr <| M.VZ (jJ C.room h) (hE _) (hE _) (iq hm)
   ·exact bp
  ·exact bp
 ·split
  ·rename_i hm
   split
   ·rename_i f g h1 h2;exact aY qa <| M.Ml (jJ C.room h1) (jJ C.room h2) (hE _) (hE _) (hE _) (iq hm)
   ·exact bp
  ·exact bp
 ·exact bp
theorem GD(C:gk k c X)(hE:∀ e,DE X e (E c e)){bs:List pc}:DT X (.Compare a ops bs pos) (CQ c E a ops bs):=by
 unfold CQ
 split
 ·split
  ·rename_i hm
   split
   ·rename_i f h;exact Ba Cf <| M.VD (jJ C.room h) (hE _) (hE _) (iq hm)
   ·exact oS
  ·exact oS
 ·split
  ·rename_i hm
   split
   ·rename_i f g h1 h2;exact Ba Cg <| M.LG (jJ C.room h1) (jJ C.room h2) (hE _) (hE _) (hE _) (iq hm)
   ·exact oS
  ·exact oS
 ·exact oS
def AD(f:ME->ME->ME):List ME->ME
 | []=>fH
 | [m]=>m
 | m::r=>f m (AD f r)
def ua(f:MT->MT->MT):List MT->MT
 | []=>uT
 | [m]=>m
 | m::r=>f m (ua f r)
theorem wA{E:pc->ME}(hE:∀ e,DE X e (E e)):∀ vs:List pc,DE X (.BoolOp .And vs pos) (AD ie (vs.map E))
 | []=>bp
 | [e]=>Mf (hE e)
 | e::e'::r=>aY Ex <| M.Qw (hE e) (wA hE (e'::r))
theorem AC{E:pc->ME}(hE:∀ e,DE X e (E e)):∀ vs:List pc,DE X (.BoolOp .Or vs pos) (AD Ej (vs.map E))
 | []=>bp
 | [e]=>Mf (hE e)
 | e::e'::r=>aY JB <| M.VR (hE e) (AC hE (e'::r))
theorem Go{E:pc->MT}(hE:∀ e,DT X e (E e)):∀ vs:List pc,DT X (.BoolOp .And vs pos) (ua gd (vs.map E))
 | []=>oS
 | [e]=>PQ (EZ (hE e))
 | e::e'::r=>PQ (Fh tF <| M.LD (hE e) (foldT_andW hE (e'::r) (by simp)))
where foldT_andW {E:pc->MT} (hE:∀ e,DT X e (E e)):∀ vs:List pc,vs≠[]->DW X (.BoolOp .And vs pos) (ua gd (vs.map E))
 | [],h=>absurd rfl h
 | [e],_=>EZ (hE e)
 | e::e'::r,_=>Fh tF <| M.LD (hE e) (foldT_andW hE (e'::r) (by simp))
theorem KA{E:pc->MT}(hE:∀ e,DT X e (E e)):∀ vs:List pc,DT X (.BoolOp .Or vs pos) (ua cD (vs.map E))
 | []=>oS
 | [e]=>PQ (LC (hE e))
 | e::e'::r=>PQ (Fh xY <| M.RX (hE e) (foldT_orW hE (e'::r) (by simp)))
where foldT_orW {E:pc->MT} (hE:∀ e,DT X e (E e)):∀ vs:List pc,vs≠[]->DW X (.BoolOp .Or vs pos) (ua cD (vs.map E))
 | [],h=>absurd rfl h
 | [e],_=>LC (hE e)
 | e::e'::r,_=>Fh xY <| M.RX (hE e) (foldT_orW hE (e'::r) (by simp))
def bC:pc->Bool
 | .Starred _ _=>false
 | _=>true
theorem bf{es:List pc}(h:bC e=true):zH (e::es) X.env=(false,eval e X.env)::zH es X.env:=by cases e<;>first | rfl | cases h
theorem eW:∀ {es:List pc},es.all bC=true->(backTo pos (zH es X.env)).any (·.1)=false
 | [],_=>rfl
 | e::es,h=>by
  rw[XC,Wz] at h
  rw[bf h.1]
  show(false||(backTo pos (zH es X.env)).any (·.1))=false
  rw[eW h.2];rfl
def uY(E:pc->ME):List pc->MA
 | []=>af
 | e::r=>if bC e then aa (E e) (uY E r) else oa
theorem eM{E:pc->ME}(hE:∀ e,DE X e (E e)):∀ es:List pc,DA X es (uY E es)
 | []=>Sf xZ <| M.Wa
 | e::r=>by
  unfold uY
  split
  ·rename_i h;exact Sf zY <| M.QA (hE e) (eM hE r) (bf h)
  ·exact da_no
def Gx(E:pc->ME):Option pc->MO
 | none=>aW
 | some e=>bA (E e)
theorem qr{E:pc->ME}(hE:∀ e,DE X e (E e)):∀ o:Option pc,DO X o (Gx E o)
 | none=>Sd vV <| M.Qc
 | some e=>Sd zO <| M.Qb (hE e)
def yU(c:CI):pc->Option (List (bD×D))
 | .Name x _=>match rO c x with | some (.tab l)=>U l | _=>Y
 | _=>Y
theorem Bu{l:List (bD×D)}(C:gk k c X)(h:yU c a=U l):∃ x p,a=.Name x p/\Gl X x/\eE x=true/\MQ X.w X.K X.mg x l:=by
 unfold yU at h
 split at h
 ·split at h
  ·rename_i e
   cases h
   obtain⟨g,o,G⟩:=fI C e
   exact⟨_,_,rfl,g,o,G⟩
  ·cases h
 ·cases h
def RT(c:CI)(E:pc->ME)(a i:pc):ME:=match i with
 | .Slice lo hi st _=>match st with | none=>if c.mt.contains 992000 then aS (E a) (Gx E lo) (Gx E hi) else cB (E a) (Gx E lo) (Gx E hi) | some st=>(match lo,hi with | none,Y=>if c.mt.contains 994000 then ji (E a) (Gx E (U st)) else mq (E a) (Gx E (U st)) | _,_=>fH)
 | i=>match yU c a with | some l=>fH | none=>if c.mt.contains 980000 then az cH (E a) (E i) else az bz (E a) (E i)
theorem Gw(C:gk k c X){E:pc->ME}(hE:∀ e,DE X e (E e))(a i:pc)(hs:yG i:=by intro _ _;rfl):DE X (.Subscript a i pos) (match yU c a with | some l=>fH | none=>if c.mt.contains 980000 then az cH (E a) (E i) else az bz (E a) (E i)):=by
 cases ht:yU c a with
 | none=>
  dsimp only
  split
  ·exact aY gr (PE.imp (Ro (ix_S (by have:=C.room.units;omega)) (hE a) (hE _) hs) λ_ _ _ h=>sC h)
  ·exact aY gr <| M.VU (by have:=C.room.units;omega) (hE a) (hE _) hs
 | some l=>
  obtain⟨x,p,rfl,g,o,G⟩:=Bu C ht
  exact bp
theorem Le(C:gk k c X){E:pc->ME}(hE:∀ e,DE X e (E e))(a i:pc):DE X (.Subscript a i pos) (RT c E a i):=by
 cases i with
 | Slice lo hi st p=>
  cases st with
  | none=>
   show DE X _ (if c.mt.contains 992000 then aS (E a) (Gx E lo) (Gx E hi) else cB (E a) (Gx E lo) (Gx E hi))
   split
   ·exact aY tw <| M.GP (hE a) (qr hE lo) (qr hE hi)
   ·exact aY vT <| M.AU (hE a) (qr hE lo) (qr hE hi)
  | some st=>
   cases lo with
   | none=>
    cases hi with
    | none=>
     show DE X _ (if c.mt.contains 994000 then ji (E a) (Gx E (U st)) else mq (E a) (Gx E (U st)))
     split
     ·exact aY zN (M.Ql (hE a) (qr hE (U st)))
     ·exact aY Eg (M.VQ (hE a) (qr hE (U st)))
    | some _=>exact bp
   | some _=>exact bp
 | _=>exact Gw C hE a _
def gI:pc->Option Str
 | .Name x _=>U x
 | _=>Y
theorem cO{x:Str}(h:gI e=U x):∃ p,e=.Name x p:=by cases e<;>cases h;exact⟨_,rfl⟩
def lL:pc->Option (Str×List pc)
 | .Call f es [] _=>(gI f).map λx=>(x,es)
 | _=>Y
theorem gi{x:Str}{es:List pc}(h:lL e=U (x,es)):∃ p p2,e=.Call (.Name x p) es [] p2:=by
 cases e with
 | Call f es' ks p2=>
  cases ks with
  | nil=>
   obtain⟨y,h1,h2⟩:=YJ.mp h
   cases h2
   obtain⟨p,rfl⟩:=cO h1
   exact⟨p,p2,rfl⟩
  | cons _ _=>cases h
 | _=>cases h
def lu(c:CI)(x:Str):Bool:=match rO c x with | some .blt=>true | _=>false
theorem jC(C:gk k c X)(h:lu c x=true):X.mg x=Y/\Gl X x/\eE x=true:=by
 unfold lu at h
 split at h
 ·rename_i e;obtain⟨a,b,d⟩:=fI C e;exact⟨d,a,b⟩
 ·cases h
def BA(c:CI)(es:List pc):Option pc:=match es with
 | [e1]=>match lL e1 with
  | some (y,[a])=>if y=="set"&&lu c y&&bC a then U a else Y
  | _=>Y
 | _=>Y
theorem ze{a:pc}(h:BA c es=U a):∃ p p2,es=[.Call (.Name "set" p) [a] [] p2]/\lu c "set" = true/\bC a=true:=by
 unfold BA at h
 split at h
 ·split at h
  ·rename_i hc
   split at h
   ·rename_i hb
    cases h
    rw[Wz,Wz] at hb
    obtain⟨p,p2,rfl⟩:=gi hc
    have z:=hb.1.1
    rw[beq_iff_eq] at z;subst z
    exact⟨p,p2,rfl,hb.1.2,hb.2⟩
   ·cases h
  ·cases h
 ·cases h
def sN(c:CI)(es:List pc):Option pc:=match es with
 | [e1]=>match lL e1 with
  | some (y,[a])=>if y=="range"&&lu c y&&bC a then U a else Y
  | _=>Y
 | _=>Y
theorem uK{a:pc}(h:sN c es=U a):∃ p p2,es=[.Call (.Name "range" p) [a] [] p2]/\lu c "range" = true/\bC a=true:=by
 unfold sN at h
 split at h
 ·split at h
  ·rename_i hc
   split at h
   ·rename_i hb
    cases h
    rw[Wz,Wz] at hb
    obtain⟨p,p2,rfl⟩:=gi hc
    have z:=hb.1.1
    rw[beq_iff_eq] at z;subst z
    exact⟨p,p2,rfl,hb.1.2,hb.2⟩
   ·cases h
  ·cases h
 ·cases h
def bltG(z y:Bool)(x:Str):Option (List D->ac->Option (D×ac)):=
 if x=="str" then U (ak dP) else Y
def Wh(z y n g h:Bool)(x:Str):Option (List D->ac->Option (D×ac)):=
 if x=="len" then U (ak bT) else if x=="int" then U (ak (if n then fJ else iX)) else if x=="max" then U (ak ue) else if x=="min" then U (ak AJ)
 else if x=="list" then U (if g then ak fU else if h then CG else ak (em .lst)) else if x=="tuple" then U (ak (em .tup)) else if x=="all" then U (ak mx) else bltG z y x
set_option maxHeartbeats 800000 in
theorem QH{f:List D->ac->Option (D×ac)}{es:List pc}(C:gk k c X)(h:Wh zz yy nn gg hh x=U f)(hm:X.mg x=Y)(hg:Gl X x)(o:eE x=true)(hs:(e::es).all bC=true)(ha:DA X (e::es) ms) :
  DE X (.Call (.Name x p) (e::es) [] pos) (ay f ms):=by
 rw[XC,Wz] at hs
 have q1:=bf (X:=X) (es:=es) hs.1
 have q2:=eW (X:=X) (pos:=pos) hs.2
 unfold Wh at h
 split at h
 ·rename_i z;cases h;rw[beq_iff_eq] at z;subst z;exact aY dO <| M.oX Mv hm boot_len ha hg (dL o) (bF o) q1 q2
 split at h
 ·rename_i z;cases h;rw[beq_iff_eq] at z;subst z;cases nn;exact aY dO <| M.gQ Mw hm boot_int ha hg (dL o) (bF o) q1 q2;exact aY dO <| M.gQ Hm hm boot_int ha hg (dL o) (bF o) q1 q2
 split at h
 ·rename_i z;cases h;rw[beq_iff_eq] at z;subst z;exact aY dO <| M.oX (Hj C.calm) hm boot_max ha hg (dL o) (bF o) q1 q2
 split at h
 ·rename_i z;cases h;rw[beq_iff_eq] at z;subst z;exact aY dO <| M.oX (Hi C.calm) hm boot_min ha hg (dL o) (bF o) q1 q2
 split at h
 ·rename_i z;cases h;rw[beq_iff_eq] at z;subst z;cases gg;cases hh;exact aY dO <| M.gQ Hl hm abb ha hg (dL o) (bF o) q1 q2;exact aY dO <| M.gQ Dg hm abb ha hg (dL o) (bF o) q1 q2;exact aY dO <| M.gQ (Df C.calm) hm abb ha hg (dL o) (bF o) q1 q2
 split at h
 ·rename_i z;cases h;rw[beq_iff_eq] at z;subst z;exact aY dO <| M.gQ De hm boot_tuple ha hg (dL o) (bF o) q1 q2
 split at h
 ·rename_i z;cases h;rw[beq_iff_eq] at z;subst z;exact aY dO <| M.oX (Mx C.calm) hm boot_all ha hg (dL o) (bF o) q1 q2
 unfold bltG at h
 split at h
 ·rename_i z;cases h;rw[beq_iff_eq] at z;subst z;exact aY dO <| M.gQ Mu hm boot_str ha hg (dL o) (bF o) q1 q2
 cases h
def Sn(x:Str):Option String:=if x=="int" then U "int" else if x=="bool" then U "bool" else if x=="str" then U "str" else if x=="tuple" then U "tuple" else if x=="list" then U "list" else if x=="dict" then U "dict" else Y
theorem Dr{T:String}(h:Sn x=U T):bootBuiltins x=U (.type T)/\(T = "int"\/T = "bool"\/T = "str"\/T = "tuple"\/T = "list"\/T = "dict"):=by
 unfold Sn at h
 split at h
 ·rename_i z;cases h;rw[beq_iff_eq] at z;subst z;exact⟨boot_int,by simp⟩
 split at h
 ·rename_i z;cases h;rw[beq_iff_eq] at z;subst z;exact⟨boot_bool,by simp⟩
 split at h
 ·rename_i z;cases h;rw[beq_iff_eq] at z;subst z;exact⟨boot_str,by simp⟩
 split at h
 ·rename_i z;cases h;rw[beq_iff_eq] at z;subst z;exact⟨boot_tuple,by simp⟩
 split at h
 ·rename_i z;cases h;rw[beq_iff_eq] at z;subst z;exact⟨abb,by simp⟩
 split at h
 ·rename_i z;cases h;rw[beq_iff_eq] at z;subst z;exact⟨boot_dict,by simp⟩
 cases h
def vj:pc->Option (List pc)
 | .Tuple es _ _=>U es
 | _=>Y
theorem Bs{es:List pc}(h:vj e=U es):∃ j p,e=.Tuple es j p:=by cases e<;>cases h;exact⟨_,_,rfl⟩
def clsC(c:CI):List pc->Option gV
 | []=>Y
 | e::_=>match gI e with | some x=>(match rO c x with | some (.cls C _)=>U C | _=>Y) | none=>Y
def QE(c:CI)(C:gV):List pc->Option (List Bool)
 | []=>U []
 | e::r=>match gI e with | some x=>(match rO c x with | some (.cls C' b)=>if C'=C then(QE c C r).map (b::·) else Y | _=>Y) | none=>Y
theorem Ff(C:gk k c X){A:gV}:∀ {es:List pc} {bs:List Bool},QE c A es=U bs->ClsL X A es bs
 | [],bs,h=>by cases h;exact .nil
 | e::r,bs,h=>by
  unfold QE at h
  split at h
  ·rename_i x hx
   obtain⟨p,rfl⟩:=cO hx
   split at h
   ·rename_i A' b hg
    obtain⟨g,o,G⟩:=fI C hg
    split at h
    ·rename_i e;subst e
     obtain⟨bs',h1,rfl⟩:=YJ.mp h
     exact .cons G g (bF o) (Ff C h1)
    ·cases h
   ·cases h
  ·cases h
def RU(c:CI)(E:pc->ME):List pc->ME
 | [a,t]=>match gI t with
  | some y=>match rO c y,Sn y with | some .blt,U T=>if bC a then du T (E a) else fH | some (.cls C b),_=>if bC a then ya C b (E a) else fH | _,_=>fH
  | none=>match vj t with
   | some es=>match clsC c es with
    | some C=>match QE c C es with | some bs=>if bC a&&decide (es.length<=20) then ya C (bs.any id) (E a) else fH | none=>fH
    | none=>fH
   | none=>fH
 | _=>fH
def yr(c:CI)(E:pc->ME)(x:Str)(es:List pc):ME:=match rO c x with
 | some (.fn n f)=>match es with
  | []=>if n==0 then ai 0 f af else fH
  | e::r=>if (e::r).all bC then ai n f (uY E (e::r)) else fH
 | some .blt=>if x=="isinstance" then RU c E es else match (if x=="len" then BA c es else Y) with
  | some a=>cQ (uY E [a])
  | none=>match (if x=="list" then sN c es else Y) with
  | some a=>fH
  | none=>match Wh (c.mt.contains 400000) (c.mt.contains 950000) (c.mt.contains 960000) (c.mt.contains 993000) (c.mt.contains 995000) x,es with
   | some f,e::r=>if (e::r).all bC then ay f (uY E (e::r)) else fH
   | _,_=>fH
 | _=>fH
theorem GE(C:gk k c X){E:pc->ME}(hE:∀ e,DE X e (E e)):DE X (.Call (.Name x p) es [] pos) (yr c E x es):=by
 unfold yr
 split
 ·rename_i n f hg
  obtain⟨g,o,G⟩:=fI C hg
  split
  ·split
   ·rename_i hn
    have:n=0:=by simpa using hn
    subst this
    exact aY Co <| M.Mm G C.room g (bF o)
   ·exact bp
  ·split
   ·rename_i hs
    have hs':=hs
    rw[XC,Wz] at hs
    exact aY qb <| M.Qv G C.room (eM hE _) g (bF o) (bf hs.1) (eW hs.2)
   ·exact bp
 ·rename_i hg
  obtain⟨g,o,G⟩:=fI C hg
  split
  ·rename_i z
   rw[beq_iff_eq] at z;subst z
   unfold RU
   split
   ·split
    ·rename_i y hy
     obtain⟨p2,rfl⟩:=cO hy
     split
     ·rename_i T h1 h2
      obtain⟨g',o',G'⟩:=fI C h1
      split
      ·rename_i hs
       exact aY Eo <| M.GS G G' (Dr h2).1 (hE _) (Dr h2).2 g g' (dL o') (bF o') (bf hs) rfl rfl
      ·exact bp
     ·rename_i A b _ h1
      obtain⟨g',o',G'⟩:=fI C h1
      split
      ·rename_i hs
       exact M.VW G G' g g' (bF o') (hE _) (bf hs)
      ·exact bp
     ·exact bp
    ·split
     ·rename_i es ht
      obtain⟨j,p2,rfl⟩:=Bs ht
      split
      ·rename_i A hA
       split
       ·rename_i bs hb
        split
        ·rename_i hs
         rw[Wz,WM] at hs
         exact M.Qp G (Ff C hb) (λz=>by rw[z] at hA;cases hA) hs.2 g (hE _) (bf hs.1)
        ·exact bp
       ·exact bp
      ·exact bp
     ·exact bp
   ·exact bp
  ·split
   ·rename_i a ha
    split at ha
    ·rename_i z
     rw[beq_iff_eq] at z;subst z
     obtain⟨p3,p4,rfl,hb,hs⟩:=ze ha
     obtain⟨m2,g2,o2⟩:=jC C hb
     exact aY tz (M.GQ C.calm G m2 g g2 (eM hE _) (bf hs))
    ·cases ha
   ·split
    ·rename_i a ha
     split at ha
     ·rename_i z
      rw[beq_iff_eq] at z;subst z
      obtain⟨p3,p4,rfl,hb,hs⟩:=uK ha
      obtain⟨m2,g2,o2⟩:=jC C hb
      exact bp
     ·cases ha
    ·split
     ·rename_i _ f e r hf
      split
      ·rename_i hs
       exact QH C (by assumption) G g o hs (eM hE _)
      ·exact bp
     ·exact bp
 ·exact bp
def Dh:pc->Option (pc×Str×Pos)
 | .Attribute o nm ap=>U (o,nm,ap)
 | _=>Y
theorem Bd{o:pc}{nm:Str}{ap:Pos}(h:Dh e=U (o,nm,ap)):e=.Attribute o nm ap:=by cases e<;>cases h;rfl
def Jt(x:Str):Option MF:=if x=="append" then U cU else if x=="insert" then U gW else if x=="count" then U yn else Y
theorem Js{f:MF}(C:gk k c X)(h:Jt x=U f):∃ id,Slot "list" x id/\typeOf (.builtin id)=pure (.type "method_descriptor")/\MtR X id (ND X.K f):=by
 unfold Jt at h
 split at h
 ·rename_i z;cases h;rw[beq_iff_eq] at z;subst z;exact⟨_,abv,F.type_list_append,FS⟩
 split at h
 ·rename_i z;cases h;rw[beq_iff_eq] at z;subst z;exact⟨_,abu,F.type_list_insert,FR⟩
 split at h
 ·rename_i z;cases h;rw[beq_iff_eq] at z;subst z;exact⟨_,F.slot_list_count,F.type_list_count,Jp C.room.units⟩
 cases h
def BV(x:Str):Option MF:=if x=="get" then U lC else Y
theorem FT{f:MF}(C:gk k c X)(h:BV x=U f):∃ id,Slot "dict" x id/\typeOf (.builtin id)=pure (.type "method_descriptor")/\MtR X id (ND X.K f):=by
 unfold BV at h
 split at h
 ·rename_i z;cases h;rw[beq_iff_eq] at z;subst z;exact⟨_,aaw,F.type_dict_get,OG (by have:=C.room.units;omega)⟩
 cases h
theorem yY:∀ {es:List pc},es.all bC=true->(backTo pos (zH es X.env)).all (λx=>!x.1)=true
 | [],_=>rfl
 | e::es,h=>by
  rw[XC,Wz] at h
  rw[bf h.1]
  show(true&&(backTo pos (zH es X.env)).all (λx=>!x.1))=true
  rw[yY h.2];rfl
def Tj(o:pc):Bool:=match o with | .Call (.Name id _) [] [] _=>id != ("super":Str) | .Call _ _ _ _=>false | _=>true
def yp(z y:Bool)(E:pc->ME)(o:pc)(nm:Str)(ap cp:Pos)(es:List pc):ME:=match Tj o,es with
 | true,e::r=>if (e::r).all bC&&(decide ((e::r).length<30)&&ap.endLine==cp.line) then
   (if nm=="count" then fH else if nm=="join" then cC (E o) (uY E (e::r)) else if nm=="split" then bW (E o) (uY E (e::r)) else if nm=="strip" then gL (E o) (uY E (e::r)) else match BV nm with | some f=>dH f (E o) (uY E (e::r)) | none=>match Jt nm with | some f=>el f (E o) (uY E (e::r)) | none=>fH) else fH
 | true,[]=>if nm=="upper"&&ap.endLine==cp.line then gK (E o) else fH
 | _,_=>fH
theorem Gz(C:gk k c X){E:pc->ME}(hE:∀ e,DE X e (E e)):DE X (.Call (.Attribute o nm ap) es [] pos) (yp z y E o nm ap pos es):=by
 unfold yp
 split
 ·rename_i e r hx
  split
  ·rename_i h
   rw[Wz,Wz] at h
   have hs:=h.1
   rw[XC,Wz] at hs
   have few:((backTo pos (zH (e::r) X.env)).all (λx=>!x.1)&&(backToKw pos (keywordEach [] X.env)).all (λx=>x.1.isSome)&&decide ((e::r).length+([]:List Keyword).length+(if ([]:List Keyword).isEmpty then 0 else 1)<30))=true:=by
    rw[yY h.1]
    show(true&&decide ((e::r).length+0+0<30))=true
    exact h.2.1
   split
   ·rename_i hc
    rw[beq_iff_eq] at hc;subst hc
    exact bp
   split
   ·rename_i hc
    rw[beq_iff_eq] at hc;subst hc
    exact aY vU (M.Me (hE _) (eM hE _) (iI hx) few h.2.2 (bf hs.1) (eW hs.2))
   split
   ·rename_i hc
    rw[beq_iff_eq] at hc;subst hc
    exact aY vS (M.Md (hE _) (eM hE _) (iI hx) few h.2.2 (bf hs.1) (eW hs.2))
   split
   ·rename_i hc
    rw[beq_iff_eq] at hc;subst hc
    exact aY vR (M.Mc (hE _) (eM hE _) (iI hx) few h.2.2 (bf hs.1) (eW hs.2))
   ·split
    ·rename_i f hf
     obtain⟨id,h1,h2,h3⟩:=FT C hf
     exact aY vW (M.Mg h1 h2 h3 (hE _) (eM hE _) (iI hx) few h.2.2 (bf hs.1) (eW hs.2))
    ·split
     ·rename_i f hf
      obtain⟨id,h1,h2,h3⟩:=Js C hf
      exact aY zR (M.Qn h1 h2 h3 (hE _) (eM hE _) (iI hx) few h.2.2 (bf hs.1) (eW hs.2))
     ·exact bp
  ·exact bp
 ·rename_i hx
  split
  ·rename_i h
   rw[Wz,beq_iff_eq] at h
   obtain⟨h1,h2⟩:=h
   subst h1
   exact aY vQ (M.Mb (hE _) (iI hx) h2)
  exact bp
 ·exact bp
def zu:pc->Bool
 | .Slice _ _ _ _=>false
 | _=>true
def AO(G:pc->MG):List pc->mE
 | []=>bU
 | e::r=>au (if bC e then G e else Ky) (AO G r)
def rP(c:CI)(x:Str):MG:=match c.sc.names.lookup x,jY x c.N with
 | some .local,U i=>aj i
 | some .cell,U i=>if c.all then aj i else Ky
 | _,_=>Ky
def Lj(c:CI)(E:pc->ME):pc->MG
 | .Name x _=>rP c x
 | .Subscript o i _=>if zu i then(if c.mt.contains 600000 then jm (E o) (E i) else gx (E o) (E i)) else Ky
 | _=>Ky
def By:List pc->Option (pc×pc)
 | [a,b]=>match b with | .Starred e _=>if bC a&&bC e then U (a,e) else Y | _=>Y
 | _=>Y
def Vz(c:CI)(G1 G:pc->MG)(es:List pc):MG:=if es.all bC then(if c.mt.contains 975000 then jk es.length (AO G es) else cj es.length (AO G es)) else match By es with | some (a,b)=>il (AO G1 [a,b]) | none=>Ky
def Hz(c:CI)(E:pc->ME):pc->MG
 | .Tuple es _ _=>Vz c (Lj c E) (λe=>match e with | .Tuple es _ _=>if es.all bC then cj es.length (AO (Lj c E) es) else Ky | e=>Lj c E e) es
 | e=>Lj c E e
theorem PD(C:gk k c X)(x:Str):DG X (.Name x pos) (rP c x):=by
 unfold rP
 split
 ·rename_i h1 h2
  exact rm lV <| M.Fd (by rw[C.N];exact C.nd) (by rw[C.N];exact bY h2) (by rw[C.sc];exact .inl h1) (.inr (by rw[C.sc];exact h1))
 ·rename_i h1 h2
  split
  ·rename_i ha
   exact rm lV <| M.Fd (by rw[C.N];exact C.nd) (by rw[C.N];exact bY h2) (by rw[C.sc];exact .inr h1) (.inl (C.fn ha x))
  ·exact wK
 ·exact wK
theorem PH(C:gk k c X){E:pc->ME}(hE:∀ e,DE X e (E e))(e:pc):DG X e (Lj c E e):=by
 cases e with
 | Name x p=>exact PD C x
 | Subscript o i p=>
  show DG X _ (if zu i then(if c.mt.contains 600000 then jm (E o) (E i) else gx (E o) (E i)) else Ky)
  split
  ·rename_i h
   split
   ·refine rm Ay (M.Qg C.room.units (hE o) (hE i) ?_)
    cases i<;>first | (intro _;rfl) | cases h
   refine rm Az (M.VL (hE o) (hE i) ?_)
   cases i<;>first | (intro _;rfl) | cases h
  ·exact wK
 | _=>exact wK
theorem iJ{es:List pc}(h:bC e=true):assignEach (e::es) X.env=(false,assign e X.env)::assignEach es X.env:=by cases e<;>first | rfl | cases h
theorem kj:∀ {es:List pc},es.all bC=true->(assignEach es X.env).length=es.length/\(assignEach es X.env).findIdx? (·.1)=Y
 | [],_=>⟨rfl,rfl⟩
 | e::es,h=>by
  rw[XC,Wz] at h
  rw[iJ h.1]
  obtain⟨a,b⟩:=kj h.2
  exact⟨by simp[a],by simp[List.findIdx?_cons,b]⟩
theorem oQ{G:pc->MG}(hG:∀ e,DG X e (G e)):∀ es:List pc,es.all bC=true->QU X es (AO G es)
 | [],_=>Ms AB <| M.Qe
 | e::r,h=>by
  rw[XC,Wz] at h
  unfold AO
  rw[WN h.1]
  exact Ms wv <| M.LU (hG e) (oQ hG r h.2) (by rw[iJ h.1];rfl)
theorem PC(C:gk k c X){G:pc->MG}(hG:∀ e,DG X e (G e))(es:List pc)(j:Nat):DG X (.Tuple es j pos) (if es.all bC then cj es.length (AO G es) else Ky):=by
 split
 ·rename_i h
  exact rm jF <| M.LV C.calm (oQ hG es h) (kj h).1 (kj h).2
 ·exact wK
theorem yZ{a b:pc}(h:By es=U (a,b)):∃ p,es=[a,.Starred b p]/\bC a=true/\bC b=true:=by
 unfold By at h
 split at h
 ·split at h
  ·split at h
   ·rename_i q
    cases h
    rw[Wz] at q
    exact⟨_,rfl,q.1,q.2⟩
   ·cases h
  ·cases h
 ·cases h
theorem Li(C:gk k c X){G1 G:pc->MG}(hG1:∀ e,DG X e (G1 e))(hG:∀ e,DG X e (G e))(es:List pc)(j:Nat):DG X (.Tuple es j pos) (Vz c G1 G es):=by
 unfold Vz
 split
 ·rename_i h
  split
  ·exact rm Ax <| M.Qf C.calm (oQ hG es h) (kj h).1 (kj h).2
  ·exact rm jF <| M.LV C.calm (oQ hG es h) (kj h).1 (kj h).2
 ·split
  ·rename_i a b hs
   obtain⟨p,rfl,ha,hb⟩:=yZ hs
   have e1:assignEach [a,.Starred b p] X.env=[(false,assign a X.env),(true,assign b X.env)]:=by rw[iJ ha];rfl
   have e2:assignEach [a,b] X.env=[(false,assign a X.env),(false,assign b X.env)]:=by rw[iJ ha,iJ hb];rfl
   refine rm AA <| M.Qh C.calm (oQ hG1 [a,b] (by simp[ha,hb])) ?_ ?_ ?_
   ·rw[e1,e2];rfl
   ·rw[e1];rfl
   ·rw[e1];rfl
  ·exact wK
theorem ju(C:gk k c X){E:pc->ME}(hE:∀ e,DE X e (E e))(e:pc):DG X e (Hz c E e):=by
 have h1:=PH C hE
 cases e with
 | Tuple es j p=>
  refine Li C h1 (λe=>?_) es j
  cases e with
  | Tuple es j p=>exact PC C h1 es j
  | _=>exact h1 _
 | _=>exact h1 _
def Vy(c:CI)(E:pc->ME)(tg it:pc):MA:=match lL it with
 | some (x,es)=>if x=="enumerate"&&lu c x then(match tg,es with
   | .Tuple _ _ _,[a]=>if bC a then oa else oa
   | _,_=>oa) else if x=="zip"&&lu c x then(match tg,es with
   | .Tuple _ _ tp,[a,b]=>if bC a&&bC b then(mY (uY E [a,b])) else oa
   | _,_=>oa) else if x=="range"&&lu c x then(match es with
   | [a]=>if bC a then bg (uY E [a]) else oa
   | _=>oa) else eD (E it)
 | none=>if c.mt.contains 970000 then rM (E it) else eD (E it)
theorem qt(C:gk k c X){E:pc->ME}(hE:∀ e,DE X e (E e)):DI X tg it (Vy c E tg it):=by
 unfold Vy
 split
 ·rename_i x es he
  obtain⟨p,p2,rfl⟩:=gi he
  split
  ·rename_i hx
   rw[Wz] at hx
   obtain⟨m,g,o⟩:=jC C hx.2
   have z:=hx.1
   rw[beq_iff_eq] at z;subst z
   split
   ·split
    ·rename_i h
     exact ut
    ·exact ut
   ·exact ut
  split
  ·rename_i hx
   rw[Wz] at hx
   obtain⟨m,g,o⟩:=jC C hx.2
   have z:=hx.1
   rw[beq_iff_eq] at z;subst z
   split
   ·split
    ·rename_i h
     rw[Wz] at h
     exact Bb Eb (M.VI m (eM hE _) g (by rw[bf h.1,bf h.2];rfl) (bf h.2))
    ·exact ut
   ·exact ut
  split
  ·rename_i hx
   rw[Wz] at hx
   obtain⟨m,g,o⟩:=jC C hx.2
   have z:=hx.1
   rw[beq_iff_eq] at z;subst z
   split
   ·split
    ·rename_i h
     exact Bb mZ <| M.GN m (eM hE _) g (bf h)
    ·exact ut
   ·exact ut
  ·exact Bb rY <| M.CY (hE _)
 ·split
  ·exact Bb Em <| M.VJ (hE _)
  ·exact Bb rY <| M.CY (hE _)
def RJ(c:CI)(it:pc):Bool:=match lL it with | some (x,_)=>(x=="enumerate"||x=="zip"||x=="range")&&lu c x | none=>false
def kU(scope sc:Scope):Scope:={ scope with names:=scope.names.map λx=>match x with | (n,k)=>if (k==NameKind.free&&sc.kind==.function&&sc.names.lookup n==U .cell)=true then(n,.cell) else(n,k) }
def Bc(scope:Scope):List Str:=(scope.names.filter λx=>x.2==.local&&!(x.1==(".0":Str))).map (·.1)++(scope.names.filter λx=>x.2==.free).map (·.1)
def qy(c:CI)(scope:Scope):List (Option Nat):=(scope.names.filter λx=>x.2==.local&&!(x.1==(".0":Str))).map (λ_=>Y)++(scope.names.filter λx=>x.2==.free).map (λx=>jY x.1 c.N)
def Mz(c:CI)(scope:Scope):Bool:=
 scope.kind==.function&&(scope.names.all λx=>x.2 != .cell)&&(scope.names.all λx=>x.2 != .local||scope.names.lookup x.1==U .local)
&&(scope.names.all λx=>x.2 != .free||c.sc.names.lookup x.1==U .cell||c.sc.names.lookup x.1==U .free)
&&vb c.N (Bc scope) (λy=>c.sc.names.lookup y) (λy=>(kU scope c.sc).names.lookup y) (qy c scope) (Bc scope)&&decide (Bc scope).Nodup
def mB(c:CI)(scope:Scope):CI:=⟨Bc scope,kU scope c.sc,false,c.gs,c.mt,false⟩
theorem pg(C:gk k c X)(h:Mz c scope=true):BlockOk X (Bc scope) scope (qy c scope)/\∀ A s H fp,gk k (mB c scope) (iB X (Bc scope) scope A s H fp):=by
 unfold Mz at h
 simp only[Wz,WM,beq_iff_eq] at h
 obtain⟨⟨⟨⟨⟨h1,h2⟩,h3⟩,h4⟩,h5⟩,h6⟩:=h
 refine⟨blk h6 h1 h2 h3 ?_ ?_,λA s H fp=>⟨rfl,h6,?_,h1,(λz=>nomatch z),C.calm,C.room,aat,(λz=>nomatch z),C.gs⟩⟩
 ·show(scope.names.all λx=>x.2 != .free||X.env.scope.names.lookup x.1==U .cell||X.env.scope.names.lookup x.1==U .free)=true
  rw[C.sc];exact h4
 ·show vb X.N (Bc scope) (λy=>X.env.scope.names.lookup y) (λy=>(kU scope X.env.scope).names.lookup y) (qy c scope) (Bc scope)=true
  rw[C.sc,C.N];exact h5
 ·show kU scope X.env.scope=_
  rw[C.sc];rfl
def Ld(T:pc->MT):List pc->MT
 | []=>bq
 | [e]=>T e
 | _=>uT
theorem lZ{T:pc->MT}(hT:∀ e,DT X e (T e)):∀ es:List pc,HB X es (Ld T es)
 | []=>Wf zM <| M.LF
 | [e]=>PN (hT e)
 | _::_::_=>λ_ _ _ _ _ _ ⟨_,_,_,_,_,_,_,h,_⟩=>by cases h
def Vx(c:CI)(E:pc->ME)(it:pc):MA:=match lL it with
 | some (x,es)=>if x=="range"&&lu c x then(match es with
   | [a]=>if bC a then bg (uY E [a]) else oa
   | _=>oa) else oa
 | none=>eD (E it)
theorem Pz(C:gk k c X){E:pc->ME}(hE:∀ e,DE X e (E e)):Wu X tg it (Vx c E it):=by
 have no:Wu X tg it oa:=λ_ _ _ _ _ _ h=>by obtain⟨_,_,_,_,_,_,_,h,_⟩:=h;cases h
 unfold Vx
 split
 ·rename_i x es he
  obtain⟨p,p2,rfl⟩:=gi he
  split
  ·rename_i hx
   rw[Wz] at hx
   obtain⟨m,g,o⟩:=jC C hx.2
   have z:=hx.1
   rw[beq_iff_eq] at z;subst z
   split
   ·split
    ·rename_i h
     exact Mr mZ (M.CW m (eM hE _) g (bf h))
    ·exact no
   ·exact no
  ·exact no
 ·exact Mr rY (M.Qd (hE _))
def CS(c:CI)(E:pc->ME)(T:pc->MT)(elt:pc):List Comprehension->Option MB
 | []=>U (Cm (E elt))
 | ⟨tg,it,ifs,a⟩::r=>if a==0&&gH it then(CS c E T elt r).bind λb=>U (kL (Vx c E it) (Hz c E tg) (Ld T ifs) b) else Y
def Sg(e elt:pc)(d:Nat)(acc:dn)(env:Env):List Comprehension->Sem Unit
 | []=>uq elt acc env
 | g::_=>At e g.iter d acc env
theorem Fc{α:Type}{l:List α}{d:Nat}{x:α}{r:List α}(h:l.drop d=x::r):l[d]?=U x/\l.drop (d+1)=r:=by
 have h1:(l.drop d)[0]?=U x:=by rw[h];rfl
 rw[List.getElem?_drop,Nat.add_zero] at h1
 refine⟨h1,?_⟩
 rw[<- List.drop_drop,h];rfl
theorem GM{α:Type}{l:List α}{d:Nat}(h:l.drop d=[]):l[d]?=Y:=Yu (List.drop_eq_nil_iff.mp h)
theorem wF{E:pc->ME}{T:pc->MT}{g:Comprehension}{r:List Comprehension}{b:MB}(h:CS c E T elt (g::r)=U b):∃ tg it ifs,g=⟨tg,it,ifs,0⟩:=by
 obtain⟨tg,it,ifs,a⟩:=g
 unfold CS at h
 split at h
 ·rename_i q
  rw[Wz,beq_iff_eq] at q
  rw[q.1]
  exact⟨_,_,_,rfl⟩
 ·cases h
theorem pz{E:pc->ME}{T:pc->MT}{tg iter:pc}{gens r:List Comprehension}{ifs:List pc}{d:Nat}{b:MB}(h1:gens[d]?=U ⟨tg,iter,ifs,0⟩)(h2:gens.drop (d+1)=r)(hb:CS c E T elt r=U b)(it acc:dn)(env:Env) :
  compTurn (.ListComp elt gens scope pos) d it acc env=dE (.ListComp elt gens scope pos) tg iter.pos ifs d it acc env (Sg (.ListComp elt gens scope pos) elt (d+1) acc env r):=by
 cases r with
 | nil=>exact uZ h1 (GM h2) it acc env
 | cons g r=>
  obtain⟨tg2,it2,ifs2,rfl⟩:=wF hb
  exact AX h1 (Fc h2).1 it acc env
theorem yt{E:pc->ME}{T:pc->MT}(C:gk k c X)(hx:∀ e s,X.xe e s->False)(hE:∀ e,DE X e (E e))(hT:∀ e,DT X e (T e)){gens:List Comprehension}:∀ {rest:List Comprehension} {d:Nat} {b:MB},gens.drop d=rest->CS c E T elt rest=U b->Sh X (Sg (.ListComp elt gens scope pos) elt d (.ref p) X.env rest) p b
 | [],d,b,_,h=>by cases h;exact Se JG (Qy (hE elt))
 | g::r,d,b,hd,h=>by
  obtain⟨tg,it,ifs,rfl⟩:=wF h
  unfold CS at h
  split at h
  ·rename_i q
   rw[Wz] at q
   obtain⟨b',hb,h⟩:=Ww.mp h
   cases h
   obtain⟨h1,h2⟩:=Fc hd
   exact Se Ep (db_in C.calm hx h1 (λit=>pz h1 h2 hb it _ _) (Pz C hE) (ju C hE tg) (lZ hT ifs) (yt C hx hE hT h2 hb) (dB q.2))
  ·cases h
def lF(c:CI)(E:CI->pc->ME)(T:CI->pc->MT)(elt:pc)(gens:List Comprehension)(scope:Scope)(line:Nat):ME:=match gens with
 | [⟨tg,it,ifs,a⟩]=>if a==0&&gH it&&Mz c scope then if c.mt.contains (line+100000) then fH else cg (Vy c (E c) tg it) (Hz (mB c scope) (E (mB c scope)) tg) (Ld (T (mB c scope)) ifs) (E (mB c scope) elt) (qy c scope) else fH
 | ⟨tg,it,ifs,a⟩::g2::g3::r=>if a==0&&gH it&&Mz c scope then(match CS (mB c scope) (E (mB c scope)) (T (mB c scope)) elt (g2::g3::r) with | some b=>eG (Vy c (E c) tg it) (Hz (mB c scope) (E (mB c scope)) tg) (Ld (T (mB c scope)) ifs) b (qy c scope) | none=>fH) else fH
 | _=>fH
theorem wE(C:gk k c X)(hE:∀ c X,gk k c X->∀ e,DE X e (E c e))(hT:∀ c X,gk k c X->∀ e,DT X e (T c e)):DE X (.ListComp elt gens scope pos) (lF c E T elt gens scope line):=by
 unfold lF
 split
 ·rename_i tg it ifs a
  split
  ·rename_i h
   simp only[Wz,beq_iff_eq] at h
   obtain⟨⟨h0,h1⟩,h2⟩:=h
   subst h0
   obtain⟨B,C'⟩:=pg C h2
   split
   ·exact bp
   ·exact aY tB <| M.Qu C.calm B (qt C (hE _ _ C)) (λA s H fp=>ju (C' A s H fp) (hE _ _ (C' A s H fp)) tg) (λA s H fp=>lZ (hT _ _ (C' A s H fp)) ifs) (λA s H fp=>hE _ _ (C' A s H fp) elt) (dB h1)
  ·exact bp
 ·rename_i tg it ifs a g2 g3 r
  split
  ·rename_i h
   simp only[Wz,beq_iff_eq] at h
   obtain⟨⟨h0,h1⟩,h2⟩:=h
   subst h0
   obtain⟨B,C'⟩:=pg C h2
   split
   ·rename_i b hb
    exact aY pZ <| M.Mk C.calm B (qt C (hE _ _ C)) (λA s H fp=>ju (C' A s H fp) (hE _ _ (C' A s H fp)) tg) (λA s H fp=>lZ (hT _ _ (C' A s H fp)) ifs) (λit acc env=>pz rfl rfl hb it acc env) (λA s H fp p=>yt (C' A s H fp) (λ_ _ z=>z) (hE _ _ (C' A s H fp)) (hT _ _ (C' A s H fp)) rfl hb) (dB h1)
   ·exact bp
  ·exact bp
 ·exact bp
def yq(c:CI)(E:CI->pc->ME)(T:CI->pc->MT)(kx vx:pc)(gens:List Comprehension)(scope:Scope):ME:=match gens with
 | [⟨tg,it,ifs,a⟩]=>if a==0&&gH it&&Mz c scope then gu (Vy c (E c) tg it) (Hz (mB c scope) (E (mB c scope)) tg) (Ld (T (mB c scope)) ifs) (E (mB c scope) kx) (E (mB c scope) vx) (qy c scope) else fH
 | _=>fH
theorem CN(C:gk k c X)(hE:∀ c X,gk k c X->∀ e,DE X e (E c e))(hT:∀ c X,gk k c X->∀ e,DT X e (T c e)):DE X (.DictComp kx vx gens scope pos) (yq c E T kx vx gens scope):=by
 unfold yq
 split
 ·rename_i tg it ifs a
  split
  ·rename_i h
   simp only[Wz,beq_iff_eq] at h
   obtain⟨⟨h0,h1⟩,h2⟩:=h
   subst h0
   obtain⟨B,C'⟩:=pg C h2
   exact aY vZ <| M.Mj C.calm B (qt C (hE _ _ C)) (λA s H fp=>ju (C' A s H fp) (hE _ _ (C' A s H fp)) tg) (λA s H fp=>lZ (hT _ _ (C' A s H fp)) ifs) (λA s H fp=>hE _ _ (C' A s H fp) kx) (λA s H fp=>hE _ _ (C' A s H fp) vx) (dB h1)
  ·exact bp
 ·exact bp
def Vw(E:pc->ME):List (Option pc)->List pc->Option (List (ME×ME))
 | [],[]=>U []
 | some k::ks,v::vs=>(Vw E ks vs).bind λr=>U ((E k,E v)::r)
 | _,_=>Y
theorem EV{E:pc->ME}(hE:∀ e,DE X e (E e)):∀ {ks:List (Option pc)} {vs:List pc} {ms:List (ME×ME)},Vw E ks vs=U ms->DPs X pos ks vs ms/\ks.all (·.isSome)=true/\ks.length=vs.length
 | [],[],ms,h=>by cases h;exact⟨Qa,rfl,rfl⟩
 | some k::ks,v::vs,ms,h=>by
  obtain⟨r,h1,h2⟩:=Ww.mp h
  cases h2
  obtain⟨a,b,d⟩:=EV hE h1
  exact⟨LN (hE k) (hE v) a,by rw[XC,b];rfl,by rw[WF,WF,d]⟩
 | [],_::_,_,h=>by cases h
 | none::_,_,_,h=>by cases h
 | some _::_,[],_,h=>by cases h
def CO(c:CI)(E:pc->ME)(ks:List (Option pc))(vs:List pc)(line:Nat):ME:=match ks with
 | []=>if vs.isEmpty then(if c.mt.contains line then ei [] else mC (.dct [] [])) else fH
 | k::r=>if (k::r).length<=15 then(match Vw E (k::r) vs with | some ms=>if c.mt.contains line then ei ms else jj ms | none=>fH) else fH
theorem GB{E:pc->ME}(C:gk k c X)(hE:∀ e,DE X e (E e))(ks:List (Option pc))(vs:List pc)(line:Nat):DE X (.Dict ks vs pos) (CO c E ks vs line):=by
 unfold CO
 split
 ·split
  ·rename_i h
   have:vs=[]:=by simpa using h
   subst this
   split
   ·exact aY pY M.Mh
   ·exact aY tD <| M.Qs
  ·exact bp
 ·rename_i k r
  split
  ·rename_i hl
   split
   ·rename_i ms h
    obtain⟨a,b,d⟩:=EV (pos:=pos) hE h
    split
    ·exact aY pY (M.Mi a b d (by simp) hl)
    ·exact aY zX (M.Qt a b d (by simp) hl)
   ·exact bp
  ·exact bp
theorem LW{E:pc->ME}(hE:∀ e,DE X e (E e)):∀ es:List pc,M.DEs X es (es.map E)
 | []=>.nil
 | e::r=>.cons (hE e) (LW hE r)
def Lh(E:pc->ME):List pc->ME
 | []=>fH
 | [e]=>E e
 | a::b::r=>dj ((a::b::r).map E) Str.empty
theorem GA{E:pc->ME}(hE:∀ e,DE X e (E e)):∀ es:List pc,DE X (.JoinedStr es pos) (Lh E es)
 | []=>bp
 | [e]=>M.CZ (hE e)
 | a::b::r=>aY lP (M.GR (LW hE _))
def Ll(E:pc->ME)(v:pc)(cv:Int)(f:Option pc):ME:=match cv,f with
 | -1,Y=>om (E v)
 | _,_=>fH
theorem Lk{E:pc->ME}(hE:∀ e,DE X e (E e)):DE X (.FormattedValue v cv f pos) (Ll E v cv f):=by
 unfold Ll
 split
 ·exact aY Eu (M.VY (hE v))
 ·exact bp
def Rf(E:CI->pc->ME)(T:CI->pc->MT)(c:CI):pc->ME
 | .Constant v _ _=>EX v
 | .Name x _=>CM c x
 | .BinOp a op b p=>Lp (c.mt.contains (p.line+200000)) (c.mt.contains (p.line+210000)) op (E c a) (E c b)
 | .UnaryOp op a _=>evUn op (E c a)
 | .Compare a ops bs _=>Ln c E a ops bs
 | .BoolOp op vs _=>match op with | .And=>AD ie (vs.map (E c)) | .Or=>AD Ej (vs.map (E c))
 | .IfExp t a b _=>pW (T c t) (E c a) (E c b)
 | .Tuple es _ _=>bB (uY (E c) es)
 | .List es pos=>if c.mt.contains pos.line then fA (uY (E c) es) else cP (uY (E c) es)
 | .Dict ks vs pos=>CO c (E c) ks vs pos.line
 | .Subscript a i _=>RT c (E c) a i
 | .Call f es ks p=>match gI f,Dh f,ks with | some x,_,[]=>yr c (E c) x es | none,U (o,nm,ap),[]=>yp (c.mt.contains 500000) (c.mt.contains 999000) (E c) o nm ap p es | _,_,_=>fH
 | .ListComp elt gens scope p=>lF c E T elt gens scope p.line
 | .DictComp kx vx gens scope _=>yq c E T kx vx gens scope
 | .JoinedStr es _=>Lh (E c) es
 | .FormattedValue v cv f _=>Ll (E c) v cv f
 | .Attribute o nm _=>match gI o,c.gs.lookup (".": Str) with | some _,U (.fld C fl)=>if nm=fl then zV C fl (E c o) else fH | _,_=>fH
 | _=>fH
def Rc(E:CI->pc->ME)(T:CI->pc->MT)(c:CI):pc->MT
 | .UnaryOp op a p=>match op with | .Not=>bO (T c a) | op=>cn (E c (.UnaryOp op a p))
 | .BoolOp op vs _=>match op with | .And=>ua gd (vs.map (T c)) | .Or=>ua cD (vs.map (T c))
 | .Compare a ops bs _=>CQ c E a ops bs
 | .IfExp _ _ _ _=>uT
 | e=>cn (E c e)
theorem Il(hE:∀ c X,gk k c X->∀ e,DE X e (E c e))(hT:∀ c X,gk k c X->∀ e,DT X e (T c e))(C:gk k c X)(e:pc):DE X e (Rf E T c e):=by
 have h1:=hE c X C
 have h2:=hT c X C
 cases e with
 | Constant v j p=>exact CP v
 | Name x p=>exact Gy C x
 | BinOp a op b p=>
  show DE X _ (Lp (c.mt.contains (p.line+200000)) (c.mt.contains (p.line+210000)) op (E c a) (E c b))
  exact Lo (z:=c.mt.contains (p.line+200000)) (y:=c.mt.contains (p.line+210000)) (h1 a) (h1 b)
 | UnaryOp op a p=>exact Py (h1 a)
 | Compare a ops bs p=>exact Lm C h1
 | BoolOp op vs p=>cases op with | And=>exact wA h1 vs | Or=>exact AC h1 vs
 | IfExp t a b p=>exact aY JE <| M.de_if (h2 t) (h1 a) (h1 b)
 | Tuple es j p=>exact aY Ee <| M.VO (eM h1 es)
 | List es p=>
  show DE X _ (if c.mt.contains p.line then fA (uY (E c) es) else cP (uY (E c) es))
  split
  ·exact aY zT <| M.Qo (eM h1 es)
  ·exact aY Ek <| M.VT (eM h1 es)
 | Dict ks vs p=>exact GB C h1 ks vs p.line
 | Subscript a i p=>exact Le C h1 a i
 | Call f es ks p=>
  show DE X _ (match gI f,Dh f,ks with | some x,_,[]=>yr c (E c) x es | none,U (o,nm,ap),[]=>yp (c.mt.contains 500000) (c.mt.contains 999000) (E c) o nm ap p es | _,_,_=>fH)
  split
  ·rename_i x h
   obtain⟨p2,rfl⟩:=cO h
   exact GE C h1
  ·rename_i o nm ap _ ha
   have:=Bd ha
   subst this
   exact Gz C h1
  ·exact bp
 | ListComp elt gens scope p=>exact wE C hE hT
 | DictComp kx vx gens scope p=>exact CN C hE hT
 | JoinedStr es p=>exact GA h1 es
 | FormattedValue v cv f p=>exact Lk h1
 | Attribute o nm p=>
  show DE X _ (match gI o,c.gs.lookup (".": Str) with | some _,U (.fld C fl)=>if nm=fl then zV C fl (E c o) else fH | _,_=>fH)
  split
  ·rename_i A fl ho hl
   obtain⟨q,rfl⟩:=cO ho
   split
   ·rename_i e;subst e
    exact M.Qr (C.gs _ (XN hl)) (h1 _) rfl
   ·exact bp
  ·exact bp
 | _=>exact bp
theorem Ij(hE:∀ c X,gk k c X->∀ e,DE X e (E c e))(hT:∀ c X,gk k c X->∀ e,DT X e (T c e))(C:gk k c X)(e:pc):DT X e (Rc E T c e):=by
 have h1:=hE c X C
 have h2:=hT c X C
 cases e with
 | UnaryOp op a p=>cases op<;>first | exact Ba zQ <| M.VC (h2 a) | exact Ba xX <| M.AQ (h1 _)
 | BoolOp op vs p=>cases op with | And=>exact Go h2 vs | Or=>exact KA h2 vs
 | Compare a ops bs p=>exact GD C h1
 | IfExp t a b p=>exact oS
 | _=>exact Ba xX <| M.AQ (h1 _)
def ev:Nat->(CI->pc->ME)×(CI->pc->MT)
 | 0=>(λ_ _=>fH,λ_ _=>uT)
 | n+1=>(Rf (ev n).1 (ev n).2,Rc (ev n).1 (ev n).2)
theorem qZ:∀ n:Nat,(∀ c X,gk k c X->∀ e,DE X e ((ev n).1 c e))/\(∀ c X,gk k c X->∀ e,DT X e ((ev n).2 c e))
 | 0=>⟨λ_ _ _ _=>bp,λ_ _ _ _=>oS⟩
 | n+1=>⟨λ_ _ C e=>Il (qZ n).1 (qZ n).2 C e,λ_ _ C e=>Ij (qZ n).1 (qZ n).2 C e⟩
def jT:pc->Bool
 | .ListComp _ _ _ _=>false
 | .SetComp _ _ _ _=>false
 | .DictComp _ _ _ _ _=>false
 | _=>true
theorem gT(h:jT e=true):swapsWith e t l X.env=pure false:=by cases e<;>first | rfl | cases h
def wk:pc->Bool
 | .Tuple _ _ _=>true
 | .List _ _=>true
 | _=>false
theorem BR(h:wk t=false\/wk e=false):swappedStores [t] e X.env=pure Y:=by
 rcases h with h | h
 ·cases t<;>first | rfl | cases h
 ·cases t<;>first | rfl | (cases e<;>first | rfl | cases h)
def Lv(c:CI)(E:CI->pc->ME)(T:CI->pc->MT)(x:Str)(px:Pos)(e:pc):MS:=match e with
 | .ListComp elt gens scope p=>if c.all&&(c.sc.names.lookup x==U .local&&px.line==p.line&&!(scope.names.any λy=>y.1==x&&(y.2==.local||y.2==.cell))) then aH (lF c E T elt gens scope p.line) (rP c x) else if c.all&&c.sc.names.lookup x==U .cell then aH (lF c E T elt gens scope p.line) (rP c x) else et
 | e=>if jT e then aH (E c e) (rP c x) else et
def Nj:pc->Option (pc×pc)
 | .Tuple [a,b] _ _=>U (a,b)
 | _=>Y
theorem vm{a b:pc}(h:Nj t=U (a,b)):∃ k p,t=.Tuple [a,b] k p:=by
 unfold Nj at h
 split at h
 ·cases h;exact⟨_,_,rfl⟩
 ·cases h
def nmP:pc->Option (Str×Pos)
 | .Name x p=>U (x,p)
 | _=>Y
theorem zx{e:pc}{x:Str}{p:Pos}(h:nmP e=U (x,p)):e=.Name x p:=by cases e<;>cases h;rfl
def par2(t:pc):Option (Str×Pos×Str×Pos):=(Nj t).bind λq=>(nmP q.1).bind λx=>(nmP q.2).bind λy=>U (x.1,x.2,y.1,y.2)
theorem FL{x y:Str}{px py:Pos}(h:par2 t=U (x,px,y,py)):∃ k p,t=.Tuple [.Name x px,.Name y py] k p:=by
 obtain⟨⟨a,b⟩,h1,h⟩:=Ww.mp h
 obtain⟨x,h2,h⟩:=Ww.mp h
 obtain⟨y,h3,h⟩:=Ww.mp h
 cases h
 cases zx h2
 cases zx h3
 exact vm h1
theorem Bw{k:Nat}{a b:pc}(h:(X.env.kindOf x==U NameKind.local&&X.env.kindOf y==U NameKind.local)=false):swappedStores [.Tuple [.Name x px,.Name y py] k p] (.Tuple [a,b] k2 p2) X.env=pure Y:=by
 unfold swappedStores
 simp only
 split
 ·rfl
 split
 ·rfl
 rw[WN]
 generalize hg:List.filterMap _ [Expr.Name x px,Expr.Name y py]=L
 have hL:L.length<=1:=by
  rw[<- hg,Xu,Xu]
  cases hx:(X.env.kindOf x==U NameKind.local) with
  | false=>simp only[hx,Xe,WR,Xx];split<;>simp
  | true=>
   have hy:(X.env.kindOf y==U NameKind.local)=false:=by rw[hx,Xi] at h;exact h
   simp only[hy,Xe,WR,Xx];split<;>simp
 have h2:(L.length != [Expr.Name x px,Expr.Name y py].length)=true:=by
  rw[bne_iff_ne];show L.length≠2;omega
 rw[h2];rfl
def DU(c:CI)(x y:Str):Bool:=!(c.sc.names.lookup x==U .local&&c.sc.names.lookup y==U .local)
def EW(c:CI)(E:CI->pc->ME)(t e:pc):Option MS:=match par2 t,Nj e with
 | some (x,px,y,py),U (a,b)=>if DU c x y then U (aH (E c e) (Hz c (E c) t)) else match jY x c.N,jY y c.N with
  | some i,U j=>if (c.all&&c.sc.names.lookup x==U .local&&c.sc.names.lookup y==U .local&&!(x==y)&&py.line==px.line&&sP a&&sP b&&!(foldedForSure 8 a&&foldedForSure 8 b)&&!(constantsAlone 8 a&&constantsAlone 8 b)&&!(i==j))=true then U (lm i j (uY (E c) [a,b])) else Y
  | _,_=>Y
 | _,_=>Y
theorem Lg(C:gk k c X){E:CI->pc->ME}(hE:∀ e,DE X e (E c e)){m:MS}(h:EW c E t e=U m):DS X (.Assign [t] e pos) m:=by
 unfold EW at h
 split at h
 ·rename_i x px y py a b h1 h2
  obtain⟨k1,p1,rfl⟩:=FL h1
  obtain⟨k2,p2,rfl⟩:=vm h2
  split at h
  ·rename_i hn
   cases h
   refine iZ iw <| M.LK (hE _) (ju C hE _) rfl (Bw ?_) rfl
   unfold DU at hn
   rw[Bool.not_eq_true'] at hn
   show(X.env.scope.names.lookup x==U NameKind.local&&X.env.scope.names.lookup y==U NameKind.local)=false
   rw[C.sc];exact hn
  split at h
  ·rename_i i j hi hj
   split at h
   ·rename_i hc
    cases h
    simp only[Wz,beq_iff_eq,Bool.not_eq_true'] at hc
    obtain⟨⟨⟨⟨⟨⟨⟨⟨⟨_,hx⟩,hy⟩,hne⟩,hl⟩,ha⟩,hb⟩,hf⟩,hcn⟩,hij⟩:=hc
    have hx':X.env.scope.names.lookup x=U .local:=by rw[C.sc];exact hx
    have hy':X.env.scope.names.lookup y=U .local:=by rw[C.sc];exact hy
    have hbk:X.env.blockKind=.function:=by unfold Env.blockKind;rw[C.sc,C.fk];rfl
    exact iZ Ei (M.VG C.calm (by rw[C.N];exact C.nd) (by rw[C.N];exact bY hi) (by rw[C.N];exact bY hj) (by simpa using hij) hx' hy' (eM hE _) (Ib hbk hx' hy' hne (by simpa using hl) ha hb hf hcn))
   ·cases h
  ·cases h
 ·cases h
def Lw(c:CI)(E:CI->pc->ME)(T:CI->pc->MT)(t e:pc):MS:=match t with
 | .Name x px=>Lv c E T x px e
 | t=>match EW c E t e with
 | some m=>m
 | none=>if jT e&&bC t&&(!wk t||!wk e) then aH (E c e) (Hz c (E c) t) else et
theorem oo{s:tu}:DS X s (aH m Ky):=λ_ _ _ _ _ _ z0=>by
 obtain⟨_,_,_,_,_,_,h,_⟩:=z0
 rw[iw] at h
 obtain⟨_,_,h⟩:=Ww.mp h
 cases h
theorem GF(C:gk k c X)(hE:∀ c X,gk k c X->∀ e,DE X e (E c e))(hT:∀ c X,gk k c X->∀ e,DT X e (T c e)):DS X (.Assign [.Name x px] e pos) (Lv c E T x px e):=by
 have h1:=hE c X C
 have gen:∀ e,jT e=true->DS X (.Assign [.Name x px] e pos) (aH (E c e) (rP c x)):=λe hn=>by
  unfold rP
  split
  ·rename_i h1' h2
   exact iZ nh <| M.yw (by rw[C.N];exact C.nd) (by rw[C.N];exact bY h2) (by rw[C.sc];exact .inl h1') (h1 e) (gT hn) (.inr (by rw[C.sc];exact h1'))
  ·rename_i h1' h2
   split
   ·rename_i ha
    exact iZ nh <| M.yw (by rw[C.N];exact C.nd) (by rw[C.N];exact bY h2) (by rw[C.sc];exact .inr h1') (h1 e) (gT hn) (.inl (C.fn ha x))
   ·exact oo
  ·exact oo
 cases e with
 | ListComp elt gens scope p=>
  show DS X _ (if c.all&&(c.sc.names.lookup x==U .local&&px.line==p.line&&!(scope.names.any λy=>y.1==x&&(y.2==.local||y.2==.cell))) then aH (lF c E T elt gens scope p.line) (rP c x) else if c.all&&c.sc.names.lookup x==U .cell then aH (lF c E T elt gens scope p.line) (rP c x) else et)
  split
  ·rename_i hw
   rw[Wz] at hw
   have hw1:=hw.2
   simp only[Wz,beq_iff_eq] at hw1
   have hl:=hw1.1.1
   unfold rP
   rw[hl]
   cases hi:jY x c.N with
   | none=>exact oo
   | some i=>
    have sw:(pure (X.env.blockKind==.function&&X.env.scope.names.lookup x==U .local&&px.line==p.line&&!(scope.names.any λy=>y.1==x&&(y.2==.local||y.2==.cell))):Sem Bool)=pure true:=by
     have hb:X.env.blockKind=.function:=by unfold Env.blockKind;rw[C.sc,C.fk];rfl
     rw[hb,C.sc]
     have:=hw.2
     simp only[aaC] at this ⊢
     rw[this];rfl
    unfold lF
    split
    ·rename_i tg it ifs a
     split
     ·rename_i h
      simp only[Wz,beq_iff_eq] at h
      obtain⟨⟨h0,h1'⟩,h2⟩:=h
      subst h0
      obtain⟨B,C'⟩:=pg C h2
      split
      ·exact oU
      ·exact iZ Aa <| M.CT (by rw[C.N];exact C.nd) (by rw[C.N];exact bY hi) (by rw[C.sc];exact .inl hl) C.calm B (qt C (hE _ _ C)) (λA s H fp=>ju (C' A s H fp) (hE _ _ (C' A s H fp)) tg) (λA s H fp=>lZ (hT _ _ (C' A s H fp)) ifs) (λA s H fp=>hE _ _ (C' A s H fp) elt) sw (dB h1') (.inr (by rw[C.sc];exact hl))
     ·intro _ _ _ _ _ _ ⟨_,_,_,_,_,_,h,_⟩
      rw[iw] at h
      obtain⟨_,z,h⟩:=Ww.mp h
      cases z
    ·rename_i tg it ifs a g2 g3 r
     split
     ·rename_i h
      simp only[Wz,beq_iff_eq] at h
      obtain⟨⟨h0,h1'⟩,h2⟩:=h
      subst h0
      obtain⟨B,C'⟩:=pg C h2
      split
      ·rename_i b hb
       exact iZ yb <| M.AR (by rw[C.N];exact C.nd) (by rw[C.N];exact bY hi) (by rw[C.sc];exact .inl hl) C.calm B (qt C (hE _ _ C)) (λA s H fp=>ju (C' A s H fp) (hE _ _ (C' A s H fp)) tg) (λA s H fp=>lZ (hT _ _ (C' A s H fp)) ifs) (λit acc env=>pz rfl rfl hb it acc env) (λA s H fp p=>yt (C' A s H fp) (λ_ _ z=>z) (hE _ _ (C' A s H fp)) (hT _ _ (C' A s H fp)) rfl hb) sw (dB h1') (.inr (by rw[C.sc];exact hl))
      ·exact oU
     ·exact oU
    ·exact oU
  ·split
   ·rename_i hw
    rw[Wz,beq_iff_eq] at hw
    unfold rP
    rw[hw.2]
    cases hi:jY x c.N with
    | none=>exact oo
    | some i=>
     dsimp only
     rw[WN hw.1]
     refine iZ nh <| M.yw (by rw[C.N];exact C.nd) (by rw[C.N];exact bY hi) (by rw[C.sc];exact .inr hw.2) (wE C hE hT) ?_ (.inl (C.fn hw.1 x))
     show(pure (X.env.blockKind==.function&&X.env.scope.names.lookup x==U .local&&px.line==p.line&&!(scope.names.any λy=>y.1==x&&(y.2==.local||y.2==.cell))):Sem Bool)=pure false
     rw[C.sc,hw.2]
     have:((U NameKind.cell:Option NameKind)==U .local)=false:=by decide
     rw[this,aaB];rfl
   ·exact eN
 | SetComp _ _ _ _=>exact eN
 | DictComp _ _ _ _ _=>exact eN
 | _=>exact gen _ rfl
theorem Lu(C:gk k c X)(hE:∀ c X,gk k c X->∀ e,DE X e (E c e))(hT:∀ c X,gk k c X->∀ e,DT X e (T c e)){t:pc}:DS X (.Assign [t] e pos) (Lw c E T t e):=by
 have gen:∀ t,DS X (.Assign [t] e pos) (match EW c E t e with | some m=>m | none=>if jT e&&bC t&&(!wk t||!wk e) then aH (E c e) (Hz c (E c) t) else et):=λt=>by
  split
  ·rename_i h
   exact Lg C (hE _ _ C) h
  split
  ·rename_i h
   simp only[Wz,Zc,Bool.not_eq_true'] at h
   refine iZ iw <| M.LK (hE _ _ C e) (ju C (hE _ _ C) t) (gT h.1.1) (BR h.2) ?_
   rw[iJ h.1.2];rfl
  ·exact eN
 cases t with
 | Name x px=>exact GF C hE hT
 | _=>exact gen _
def xr:List MS->MS
 | []=>aL
 | [m]=>m
 | m::r=>aD m (xr r)
theorem lO{F:tu->MS}(h:∀ s,DS X s (F s)):∀ ss:List tu,yK X ss (xr (ss.map F))
 | []=>Mq lj <| M.Fb
 | [s]=>Fa (h s)
 | s::s'::r=>Mq Ef <| M.LH (h s) (lO h (s'::r))
def Cz:pc->Bool
 | .Constant (.str _) _ _=>true
 | _=>false
def Ls(c:CI)(E:pc->ME)(op:Operator)(e:pc):pc->MS
 | .Name x _=>match op,c.sc.names.lookup x,jY x c.N with
  | .Add,U .local,U i=>et
  | .Add,U .cell,U i=>if c.all then et else et
  | _,_,_=>et
 | _=>et
theorem Lr{E:pc->ME}(C:gk k c X)(hE:∀ e,DE X e (E e))(e:pc)(t:pc):DS X (.AugAssign t op e pos) (Ls c E op e t):=by
 unfold Ls
 split
 ·split
  ·rename_i h1 h2
   exact eN
  ·rename_i h1 h2
   split
   ·rename_i ha
    exact eN
   ·exact eN
  ·exact eN
 ·exact eN
def MK:tu->Option (pc×pc)
 | .Assign ts v _=>ts.head?.bind λt=>if ts.length=1 then U (t,v) else Y
 | _=>Y
theorem uA{s:tu}{t v:pc}(h:MK s=U (t,v)):∃ p,s=.Assign [t] v p:=by
 cases s<;>try cases h
 rename_i ts v' p
 obtain⟨t',h1,h⟩:=Ww.mp h
 split at h
 ·rename_i hl
  cases h
  cases ts with
  | nil=>cases hl
  | cons a r=>
   cases r with
   | nil=>cases h1;exact⟨_,rfl⟩
   | cons b r=>simp at hl
 ·cases h
def hdOf:ExceptHandler->Option (pc×Str×tu)
 | .ExceptHandler g nm ss _=>g.bind λg=>nm.bind λnm=>ss.head?.bind λs=>if ss.length=1 then U (g,nm,s) else Y
theorem Gj{k:ExceptHandler}{g:pc}{nm:Str}{s:tu}(h:hdOf k=U (g,nm,s)):∃ p,k=.ExceptHandler (U g) (U nm) [s] p:=by
 cases k
 rename_i g' nm' ss p
 obtain⟨g2,rfl,h⟩:=Ww.mp h
 obtain⟨n2,rfl,h⟩:=Ww.mp h
 obtain⟨s2,h1,h⟩:=Ww.mp h
 split at h
 ·rename_i hl
  cases h
  cases ss with
  | nil=>cases hl
  | cons a r=>
   cases r with
   | nil=>cases h1;exact⟨_,rfl⟩
   | cons b r=>simp at hl
 ·cases h
def Bt(b:List tu)(h:List ExceptHandler):Option (Str×pc×List pc×Str×Str×Str×Str):=match b,h with
 | [s],[k]=>(MK s).bind λz=>(gI z.1).bind λv=>(lL z.2).bind λp=>(hdOf k).bind λm=>(MK m.2.2).bind λa=>(gI m.1).bind λg=>(gI a.1).bind λy=>(gI a.2).bind λn'=>match p.2 with
  | e::es=>if n'==m.2.1 then U (p.1,e,es,g,m.2.1,y,v) else Y
  | []=>Y
 | _,_=>Y
theorem yT{f g nm y v:Str}{e:pc}{es:List pc}(q:Bt b h=U (f,e,es,g,nm,y,v)):∃ p0 p1 p2 p3 p4 p5 p6 p7 p8,b=[.Assign [.Name v p0] (.Call (.Name f p1) (e::es) [] p2) p3]/\h=[.ExceptHandler (U (.Name g p4)) (U nm) [.Assign [.Name y p5] (.Name nm p6) p7] p8]:=by
 unfold Bt at q
 split at q
 ·obtain⟨⟨t0,v0⟩,h1,q1⟩:=Ww.mp q
  obtain⟨v',h9,q9⟩:=Ww.mp q1
  obtain⟨⟨f',es'⟩,h2,q2⟩:=Ww.mp q9
  obtain⟨⟨g',nm',s'⟩,h3,q3⟩:=Ww.mp q2
  obtain⟨⟨t,u⟩,h4,q4⟩:=Ww.mp q3
  obtain⟨g2,h5,q5⟩:=Ww.mp q4
  obtain⟨y2,h6,q6⟩:=Ww.mp q5
  obtain⟨n2,h7,q7⟩:=Ww.mp q6
  clear q q1 q2 q3 q4 q5 q6 q9
  obtain⟨p1,rfl⟩:=uA h1
  obtain⟨p0,rfl⟩:=cO h9
  obtain⟨p2,p3,rfl⟩:=gi h2
  obtain⟨p4,rfl⟩:=Gj h3
  obtain⟨p5,rfl⟩:=uA h4
  obtain⟨p6,rfl⟩:=cO h5
  obtain⟨p7,rfl⟩:=cO h6
  obtain⟨p8,rfl⟩:=cO h7
  cases es' with
  | nil=>cases q7
  | cons a r=>
   dsimp only at q7
   split at q7
   ·rename_i z
    cases q7
    rw[beq_iff_eq] at z
    subst z
    exact⟨_,_,_,_,_,_,_,_,_,rfl,rfl⟩
   ·cases q7
 ·cases q
def Nl(c:CI)(E:pc->ME)(b:List tu)(h:List ExceptHandler):Option MS:=match Bt b h with
 | some (f,e,es,g,nm,y,v)=>match c.gs.lookup ("try": Str),rO c g,jY nm c.N,jY y c.N,jY v c.N,jY f c.N with
  | some (.thf f' d C fl),U (.hnd C'),U i,U j,U l,U r=>if f'=f/\C'=C/\c.sc.names.lookup f=U .local/\eE f=true/\eE nm=true/\c.sc.names.lookup nm=U .local/\c.sc.names.lookup y=U .local/\(e::es).all bC=true/\c.sc.names.lookup v=U .local then U (zL (qc d r (uY E (e::es))) C fl i j l) else Y
  | _,_,_,_,_,_=>Y
 | none=>Y
theorem Nk{E:pc->ME}(C:gk k c X)(hE:∀ e,DE X e (E e))(hx:c.nx=true){m:MS}(q:Nl c E b h=U m):DS X (.Try b h [] [] pos) m:=by
 have Z:=C.xf hx
 unfold Nl at q
 split at q
 ·rename_i f e es g nm y v ht
  obtain⟨p0,p1,p2,p3,p4,p5,p6,p7,p8,rfl,rfl⟩:=yT ht
  split at q
  ·rename_i f' d A fl A' i j l r hl hg hi hj hv hr
   obtain⟨gg,o,G⟩:=fI C hg
   split at q
   ·rename_i z
    obtain⟨rfl,rfl,z1,z2,z3,z4,z5,z6,z7⟩:=z
    cases q
    rw[XC,Wz] at z6
    exact M.PR (M.Mo (C.gs _ (XN hl)) C.room (by rw[C.N];exact bY hr) (.inl (by rw[C.sc];exact z1)) (eM hE _) (λv s' w=>by rw[Z.xe] at w;exact w) (bF z2) (sT z2) (bf z6.1) (eW z6.2)) G gg (by rw[C.N];exact C.nd) (by rw[C.N];exact bY hi) (by rw[C.sc];exact z4)
     (by rw[C.N];exact bY hj) (by rw[C.sc];exact z5) (by rw[C.N];exact bY hv) (by rw[C.sc];exact z7) Z.hs Z.hfm Z.hex (bF o) (bF z3) (sT z3) rfl
   ·cases q
  ·cases q
 ·cases q
def Re(E:CI->pc->ME)(T:CI->pc->MT)(F:CI->tu->MS)(c:CI):tu->MS
 | .Return o _=>match o with | some e=>aX (E c e) | none=>λ_ S=>U (.rt .non S)
 | .Pass _=>aL
 | .Break _=>λenv S=>U (.bk env S)
 | .Continue _=>λenv S=>U (.ct env S)
 | .Expr e _=>if Cz e then aL else if jT e then dN (E c e) else et
 | .If t a b _=>bJ (T c t) (xr (a.map (F c))) (xr (b.map (F c)))
 | .Assign ts e _=>match ts with | [t]=>Lw c E T t e | _=>et
 | .AugAssign t op e _=>Ls c (E c) op e t
 | .Try body hs els fin _=>match hs,els,fin with | _::_,[],[]=>if c.nx then(match Nl c (E c) body hs with | some m=>m | none=>et) else et | _,_,_=>et
 | .While tst body els _=>match els with | []=>et | _=>et
 | .For tg it body els _=>match els with | []=>if gH it then(if RJ c it then gY (Vy c (E c) tg it) (Hz c (E c) tg) (xr (body.map (F c))) else dM (E c it) (Hz c (E c) tg) (xr (body.map (F c)))) else et | _=>et
 | _=>et
theorem Ik{F:CI->tu->MS}(hE:∀ c X,gk k c X->∀ e,DE X e (E c e))(hT:∀ c X,gk k c X->∀ e,DT X e (T c e))(hF:∀ c X,gk k c X->∀ e,DS X e (F c e))(C:gk k c X)(s:tu):DS X s (Re E T F c s):=by
 have h1:=hE c X C
 have h2:=hT c X C
 have h3:=hF c X C
 cases s with
 | Return o p=>cases o with | none=>exact PU | some e=>exact iZ Eh <| M.VF (h1 e)
 | Pass p=>exact iZ lj <| M.PV
 | Break p=>exact LJ
 | Continue p=>exact AS
 | Expr e p=>
  show DS X _ (if Cz e then aL else if jT e then dN (E c e) else et)
  split
  ·rename_i h
   unfold Cz at h
   split at h
   ·exact iZ lj <| M.VH
   ·cases h
  ·split
   ·rename_i h;exact iZ zW <| M.PZ (h1 e) (gT h)
   ·exact eN
 | If t a b p=>exact iZ Er <| M.ds_if (h2 t) (lO h3 a) (lO h3 b)
 | Assign ts e p=>
  show DS X _ (match ts with | [t]=>Lw c E T t e | _=>et)
  split
  ·exact Lu C hE hT
  ·exact eN
 | AugAssign t op e p=>exact Lr C h1 e t
 | Try body hs els fin p=>
  show DS X _ (match hs,els,fin with | _::_,[],[]=>if c.nx then(match Nl c (E c) body hs with | some m=>m | none=>et) else et | _,_,_=>et)
  split
  ·split
   ·rename_i hx
    split
    ·rename_i m hm
     exact Nk C h1 hx hm
    ·exact eN
   ·exact eN
  ·exact eN
 | While tst body els p=>
  cases els with
  | nil=>exact eN
  | cons _ _=>exact eN
 | For tg it body els p=>
  cases els with
  | nil=>
   show DS X _ (if gH it then(if RJ c it then gY (Vy c (E c) tg it) (Hz c (E c) tg) (xr (body.map (F c))) else dM (E c it) (Hz c (E c) tg) (xr (body.map (F c)))) else et)
   split
   ·rename_i h
    split
    ·exact iZ Es <| M.LI C.xe C.calm (qt C h1) (ju C h1 tg) (lO h3 body) (dB h)
    ·exact iZ zU <| M.PY C.xe C.calm (h1 it) (ju C h1 tg) (lO h3 body) (dB h)
   ·exact eN
  | cons _ _=>exact eN
 | _=>exact eN
def evS(n:Nat):Nat->CI->tu->MS
 | 0=>λ_ _=>et
 | m+1=>Re (ev n).1 (ev n).2 (evS n m)
theorem CL(n:Nat):∀ m:Nat,∀ c X,gk k c X->∀ s,DS X s (evS n m c s)
 | 0=>λ_ _ _ _=>eN
 | m+1=>λ_ _ C s=>Ik (qZ n).1 (qZ n).2 (CL n m) C s
def kN(c:CI)(body:List tu):MS:=xr (body.map (evS 40 20 c))
theorem Lq(C:gk k c X)(body:List tu):yK X body (kN c body):=lO (CL 40 20 c X C) body
end
end
def mf(N:List Str)(st:tu)(gs:List (Str×GI))(mt:List Nat):CI:=⟨N,ar st,true,gs,mt,true⟩
def GK(P:pr)(w:sv)(K:FA)(mg:Str->Option dn)(base:wo)(k:Nat)(p:Str×GI):Prop:=match p.2 with
 | .fn n f=>Fn P w K mg base k p.1 n f
 | .con d=>GC K mg p.1 d
 | .blt=>mg p.1=Y
 | .tab l=>MQ w K mg p.1 l
 | .thf x l C fl=>FnZs P w K mg base k C fl l
 | .cls C b=>ClsOk K mg p.1 C b
 | .hnd C=>Bk K mg p.1 C
 | .rse C fl=>2<=k/\Bi P w K mg base p.1 C fl
 | .fld C fl=>uD K C fl
theorem LX{K:FA}{k:Nat}{st:tu}{gs:List (Str×GI)}{mt:List Nat}
  (F:bS K mg x st) (Sc:aN N ps (ar st)) (hb:nA x st ps) (hg:∀ p∈gs,GK P w K mg base k p) :
  Fn P w K mg base (k+1) x ps.length (bv N (kN (mf N st gs mt) (aE st)) ps.length):=
 VM F Sc hb λa cdv A outer s H E hr=>Lq (k:=k) ⟨rfl,Sc.nd,rfl,Sc.kind,λ_ _=>rfl,rfl,hr,aat,λ_=>⟨rfl,rfl,rfl,rfl⟩,λp hp=>by
  have:=hg p hp
  obtain⟨x,g⟩:=p
  cases g<;>exact this⟩ _
section
variable{k:Nat}{c:CI}{X:Cx}{A:gV}{fl:Str}{E':XK}{pos:Pos}
def Iv:List MY->MY
 | []=>pj aL
 | [m]=>m
 | m::r=>fz m (Iv r)
theorem rT{F:tu->MY}(h:∀ s,DY X A fl E' s (F s)):∀ ss:List tu,QT X A fl E' ss (Iv (ss.map F))
 | []=>by show QT X A fl E' [] (pj aL);rw[lj];exact PM
 | [s]=>PL (h s)
 | s::s'::r=>Lz (h s) (rT h (s'::r))
def BI(A:gV)(fl:Str)(c:CI)(E:pc->ME)(ex:pc):Option MY:=match lL ex with
 | some (x,[a])=>match rO c x with
  | some (.rse C f)=>if C=A/\f=fl/\bC a=true then U (gU (E a)) else Y
  | _=>Y
 | _=>Y
theorem FF{E:pc->ME}(C:gk k c X)(O:XOk X E')(hE:∀ e,DE X e (E e)){m:MY}(h:BI A fl c E ex=U m):DY X A fl E' (.Raise (U ex) Y pos) m:=by
 unfold BI at h
 split at h
 ·rename_i x a hc
  obtain⟨p,p2,rfl⟩:=gi hc
  split at h
  ·rename_i C' f hg
   obtain⟨g,o,h2,R⟩:=fI C hg
   split at h
   ·rename_i z
    obtain⟨rfl,rfl,z⟩:=z
    cases h
    exact LB R (C.room.mono h2) g (hE a) C.calm O (bF o) (bf z)
   ·cases h
  ·cases h
 ·cases h
def Ii(A:gV)(fl:Str)(E:CI->pc->ME)(T:CI->pc->MT)(F:CI->tu->MS)(Y0:CI->tu->MY)(c:CI):tu->MY
 | .Raise (U ex) Y _=>match BI A fl c (E c) ex with | some m=>m | none=>pj et
 | .If t a b _=>uS (T c t) (Iv (a.map (Y0 c))) (Iv (b.map (Y0 c)))
 | s=>pj (F c s)
theorem Ih{E:CI->pc->ME}{T:CI->pc->MT}{F:CI->tu->MS}{Y0:CI->tu->MY}(hE:∀ c X,gk k c X->∀ e,DE X e (E c e))(hT:∀ c X,gk k c X->∀ e,DT X e (T c e))(hF:∀ c X,gk k c X->∀ e,DS X e (F c e))(hY:∀ c X,gk k c X->XOk X E'->∀ s,DY X A fl E' s (Y0 c s))(C:gk k c X)(O:XOk X E')(s:tu):DY X A fl E' s (Ii A fl E T F Y0 c s):=by
 have h1:=hE c X C
 have h4:=hY c X C O
 unfold Ii
 split
 ·split
  ·rename_i h;exact FF C O h1 h
  ·exact LA eN
 ·exact dy_if (hT c X C _) (rT h4 _) (rT h4 _)
 ·exact LA (hF c X C _)
def evY(A:gV)(fl:Str)(n:Nat):Nat->CI->tu->MY
 | 0=>λ_ _=>pj et
 | m+1=>Ii A fl (ev n).1 (ev n).2 (evS n m) (evY A fl n m)
theorem Lb(n:Nat):∀ m:Nat,∀ c X,gk k c X->XOk X E'->∀ s,DY X A fl E' s (evY A fl n m c s)
 | 0=>λ_ _ _ _ _=>LA eN
 | m+1=>λ_ _ C O s=>Ih (qZ n).1 (qZ n).2 (CL n m) (Lb n m) C O s
def Lc(A:gV)(fl:Str)(c:CI)(body:List tu):MY:=Iv (body.map (evY A fl 40 20 c))
end
def Wg(N:List Str)(st:tu)(gs:List (Str×GI))(mt:List Nat):CI:=⟨N,ar st,true,gs,mt,false⟩
theorem HV{K:FA}{k:Nat}{st:tu}{gs:List (Str×GI)}{mt:List Nat}
  (F:bS K mg x st) (Sc:aN N ps (ar st)) (hb:nA x st ps) (hg:∀ p∈gs,GK P w K mg base k p) :
  FnY P w K mg base (k+1) x ps.length (pJ N (Lc C fl (Wg N st gs mt) (aE st)) ps.length) C fl:=
 Vm F Sc hb λa cdv A outer s H E hr=>rT (Lb 40 20 _ _ (k:=k) ⟨rfl,Sc.nd,rfl,Sc.kind,λ_ _=>rfl,rfl,hr,PassesOwn.leaving,(λz=>by cases z),λp hp=>by
  have:=hg p hp
  obtain⟨x,g⟩:=p
  cases g<;>exact this⟩ xok) _
def GKs(P:pr)(w:sv)(K:FA)(mg:Str->Option dn)(base:wo)(k:Nat):List (Str×GI)->Prop
 | []=>True
 | p::r=>GK P w K mg base k p/\GKs P w K mg base k r
theorem GKs.mem{K:FA}{k:Nat}:∀ {gs:List (Str×GI)},GKs P w K mg base k gs->∀ p∈gs,GK P w K mg base k p
 | q::r,h,p,hp=>by
  rcases WQ.mp hp with rfl | hp
  ·exact h.1
  ·exact GKs.mem h.2 p hp
theorem Uv{K:FA}{k:Nat}{st:tu}{mt:List Nat}(F:bS K mg "law" st)(hfa:mg "law" = U (.ref fa))(Sc:aN N ["_law_script"] (ar st))
  (hbt:∀ (kV doc pm:dn) (an:Option gV) (cdv ct v:dn),bindArgs (W.fnOf "law" "law" (fL st) (aE st) (ar st) .none kV doc pm an cdv ct) ⟨[v],[]⟩=pure [(("_law_script":Str),v)])
  (hg:∀ base,GKs P w K mg base k gs) :
  ∃ fd:FuncData,(∀ (s:gw) (v:dn),BindsTo s fd ⟨[v],[]⟩ [("_law_script",v)])/\∀ base:wo,K.In base->base.Ns Cn mg->FnOk P w K mg base Bn (k+1) fa fd ["_law_script"] (Hx K 1 (bv N (kN (mf N st gs mt) (aE st)) 1)):=
 Uu F hfa Sc hbt λbase a cdv A outer s H E hr=>Lq (k:=k) ⟨rfl,Sc.nd,rfl,Sc.kind,λ_ _=>rfl,rfl,hr,aat,λ_=>⟨rfl,rfl,rfl,rfl⟩,λp hp=>by
  have:=GKs.mem (hg base) p hp
  obtain⟨x,g⟩:=p
  cases g<;>exact this⟩ _
section
variable{P:List dn->Prop}
theorem mV(h:P []):∀ us:List dn,us.length=0->P us:=λus e=>by rw[YS e];exact h
theorem jd{n:Nat}(h:∀ a,∀ us:List dn,us.length=n->P (a::us)):∀ us:List dn,us.length=n+1->P us:=λus e=>by
 cases us with
 | nil=>cases e
 | cons a us=>exact h a us (Nat.succ.inj e)
end
def IK(N:List Str)(st:tu)(gs:List (Str×GI))(mt:List Nat)(x:Str)(a:Nat):Nat->List D->ac->Option (D×ac)
 | 0=>λ_ _=>Y
 | n+1=>bv N (kN (mf N st ((x,.fn a (IK N st gs mt x a n))::gs) mt) (aE st)) a
section
variable{P:pr}{w:sv}{K:FA}{mg:Str->Option dn}{base:wo}{k:Nat}{x:Str}{st:tu}{N ps:List Str}{gs:List (Str×GI)}{mt:List Nat}
theorem GK.up{k':Nat}(h:k<=k'):∀ {p:Str×GI},GK P w K mg base k p->GK P w K mg base k' p
 | (_,.fn _ _),g=>Fn.up g h
 | (_,.con _),g=>g
 | (_,.blt),g=>g
 | (_,.tab _),g=>g
 | (_,.thf _ _ _ _),g=>FnZs.up h g
 | (_,.cls _ _),g=>g
 | (_,.hnd _),g=>g
 | (_,.rse _ _),g=>⟨Xa g.1 h,g.2⟩
 | (_,.fld _ _),g=>g
theorem Pl(F:bS K mg x st)(Sc:aN N ps (ar st))(hb:nA x st ps):Fn P w K mg base (k+1) x ps.length (λ_ _=>Y):=by
 obtain⟨a,fd,F,hmg⟩:=F.ex
 exact RO F Sc hmg (F.binds hb) λcdv A outer s H E hr=>⟨et,VE,λds S d S' _ _ _ h=>by cases h⟩
theorem IJ(F:bS K mg x st)(Sc:aN N ps (ar st))(hb:nA x st ps)(hg:GKs P w K mg base k gs):∀ n,Fn P w K mg base (k+1+n) x ps.length (IK N st gs mt x ps.length n)
 | 0=>Pl F Sc hb
 | n+1=>LX (k:=k+1+n) F Sc hb λp hp=>by
  rcases WQ.mp hp with rfl | hp
  ·exact IJ F Sc hb hg n
  ·exact GK.up (by omega) (GKs.mem hg p hp)
end
def kE(P:Params)(x:Str)(t:Nat)(v:dn):DictEntry:=⟨PyData.keyHash P x,.str x t,v⟩
def kC(x:Str)(t l n a b:Nat)(u v:dn)(c d:Nat):Obj:=⟨.type "code",Y,.fields #[.str x t,.str x (t+1),.str "/claim/cut.py" (t+2),.int l 0,.int n 0,.int 0 0,.int 0 0,.int 3 0,.ref a,.bool true,.int 181 0,.ref b,.none,u,v,.ref c,.int d 0,.int l 0,.str "/claim/cut.py" (d+1)],#[]⟩
def kF(x:Str)(st:tu)(m:Str)(t c:Nat):Obj:=⟨.type "function",Y,.func (W.fnOf x x (fL st) (aE st) (ar st) .none .none .none (.str m t) Y (.ref c) .none),#[]⟩
theorem gy{K:FA}(X:K.In h)(G:h.Ns Cn mg){st:tu}(m:Str)(f t c:Nat)(e:(W.nsIn K Cn x,K.lookup f,W.codeIn K (.ref c) x,W.keepIn K (.ref f))=(U (U (.ref f)),U (kF x st m t c),true,true):=by kernel_rfl):bS K mg x st:=by
 have e1:=congrArg (·.1) e
 have e2:=congrArg (·.2.1) e
 have e3:=congrArg (·.2.2.1) e
 have e4:=congrArg (·.2.2.2) e
 exact⟨_,_,Vl (st:=st) (show K.lookup f=U ⟨.type "function",Y,.func (W.fnOf x x (fL st) (aE st) (ar st) .none .none .none (.str m t) Y (.ref c) .none),#[]⟩ from e2) e3 e4,YH X G e1⟩
theorem bE{K:FA}{k:Nat}{st:tu}{mt:List Nat}
  (F:bS K mg x st) (Sc:aN N ps (ar st)) (hb:nA x st ps) (hg:GKs P w K mg base k gs):Fn P w K mg base (k+1) x ps.length (bv N (kN (mf N st gs mt) (aE st)) ps.length):=LX F Sc hb (GKs.mem hg)
theorem pi{m:MS}(h:kN c b=m):bv N (kN c b) n=bv N m n:=by rw[h]
def kX(x:Str)(C N:Nat)(bs bm sub:List dn)(a t u:Nat):Obj:=excClassObj x x C N bs bm true [] sub false Y Y (U (.ref a)) Y (U (.str x t)) (U (.str x u)) (U (.bool true)) "ValueError.__new__"
def kI(q:Str)(st:tu)(m:Str)(t c:Nat):Obj:=⟨.type "function",Y,.func (W.fnOf "__init__" q (fL st) (aE st) (ar st) .none .none .none (.str m t) Y (.ref c) .none),#[]⟩
def QD(s:tu):tu:=match s with
 | .ClassDef _ _ _ (d::_) _ _ _ _ _ _ _=>d
 | s=>s
def strB(es:Array DictEntry):Bool:=es.toList.all λe=>match e.key with | .str _ _=>true | _=>false
theorem Nu(h:strB es=true):StrKeys es:=λe he=>by
 have:=WP.mp h e (by simpa using he)
 split at this
 ·exact⟨_,_,by assumption⟩
 ·cases this
def nsX(K:FA)(N:gV)(y:Str):Option (Option dn):=match K.lookup N with
 | some ⟨_,_,.dict es _,_⟩=>if strB es=true then U ((es.toList.find? (·.key.isStr y)).map (·.val)) else Y
 | _=>Y
theorem Jl{K:FA}{v:Option dn}(h:nsX K N y=U v):∃ m:Str->Option dn,m y=v/\∀ h:wo,K.In h->h.Ns N m:=by
 unfold nsX at h
 split at h
 ·rename_i c d es n sl q
  split at h
  ·rename_i hs
   cases h
   exact⟨nsFind es,by unfold nsFind findBy;rw[<- abz],λh X=>⟨_,es,n,X _ _ q,rfl,Nu hs,λ_=>rfl⟩⟩
  ·cases h
 ·cases h
theorem isK{K:FA}{bs sub:List dn}(e:K.lookup C=U (kX x C N bs bm sub a t u)):uB K C bm:=⟨_,_,_,_,_,_,_,_,_,_,_,_,_,_,_,_,λh X=>X _ _ e⟩
section
variable{w:sv}{K:FA}{h:wo}{mg:Str->Option dn}
theorem rseK(X:K.In h)(G:h.Ns Cn mg){q g:Str}{st:tu}(md:Str)(C N Gd NG f c t aC tC uC aG tG uG:Nat)(subC subG:List dn)
  (hb:aE st=[.Assign [.Attribute (.Name a p1) fl p2] (.Name b p3) p4]) (Sc:aN [a,b] [a,b] (ar st))
  (bd:∀ us:List dn,us.length=2->bindArgs (W.fnOf "__init__" q (fL st) (aE st) (ar st) .none .none .none (.str md t) Y (.ref c) .none) ⟨us,[]⟩=pure ([a,b].zip us))
  (a1:(a==("__debug__":Str))=false) (a2:(a==("__classdict__":Str))=false) (b1:(b==("__debug__":Str))=false) (b2:(b==("__classdict__":Str))=false)
  (e:(W.nsIn K Cn x,K.lookup C,K.lookup Gd,nsX K N "__init__",nsX K NG "__init__",K.lookup f,W.codeIn K (.ref c) q) =
   (U (U (.ref C)),U (kX x C N [.ref Gd] (.ref Gd::HT.jg) subC aC tC uC),U (kX g Gd NG [.type "ValueError"] HT.jg subG aG tG uG),U (U (.ref f)),U Y,U (kI q st md t c),true))
  (ec:(W.findIn K (.ref C) "__setattr__",HT.rV K C,W.takerIn K C fl,W.hasDictIn K C)=(U (U (.builtin "object.__setattr__")),true,U Y,true)) :
  ∀ P base,Bi P w K mg base x C fl:=λP base=>by
 have e1:=congrArg (·.1) e
 have e2:=congrArg (·.2.1) e
 have e3:=congrArg (·.2.2.1) e
 obtain⟨mN,hm,hN⟩:=Jl (congrArg (·.2.2.2.1) e)
 obtain⟨mG,hg,hG⟩:=Jl (congrArg (·.2.2.2.2.1) e)
 have e6:=congrArg (·.2.2.2.2.2.1) e
 have e7:=congrArg (·.2.2.2.2.2.2) e
 dsimp only at e1 e2 e3 e6 e7
 have cc:uE K C fl:=⟨congrArg (·.1) ec,congrArg (·.2.1) ec,congrArg (·.2.2.1) ec,congrArg (·.2.2.2) ec⟩
 refine⟨f,⟨_,_,N,_,_,_,_,_,_,_,_,_,_,_,_,_,_,mN,HT.jg,"ValueError",_,hm,F.excBase_ValueError,(show(Value.ref Gd::HT.jg).contains (.type "BaseException")=true from rfl),λh X=>⟨X _ _ e2,hN h X,.own (X _ _ e3) (hG h X) hg .base,_,X _ _ e6,rfl⟩⟩,?_,YH X G e1⟩
 have F:=Pe (P:=P) (w:=w) (K:=K) (mg:=mg) (base:=base) (k:=0) (C:=C) (f:=f) (fl:=fl) (name:="__init__") (qual:=q) (a:=a) (b:=b) (params:=fL st) (scope:=ar st) (p1:=p1) (p2:=p2) (p3:=p3) (pos:=p4) (dV:=.none) (kV:=.none) (doc:=.none) (pm:=.str md t) (cdv:=.ref c) (ct:=.none) (an:=Y)
  (by rw[<- hb];exact e6) e7 Sc a1 a2 b1 b2
 rw[<- hb] at F
 exact Pd F (Binds.all bd) rfl cc
theorem hndK(X:K.In h)(G:h.Ns Cn mg){g:Str}(C N Gd NG aC tC uC aG tG uG:Nat)(bs bm bsG bmG subC subG:List dn)
  (e:(W.nsIn K Cn g,K.lookup C,K.lookup Gd,(Value.ref C::bm).contains (.ref Gd),bmG.contains (.type "BaseException"))=(U (U (.ref Gd)),U (kX x C N bs bm subC aC tC uC),U (kX g Gd NG bsG bmG subG aG tG uG),true,true)):Bk K mg g C:=
 ⟨Gd,bm,bmG,YH X G (congrArg (·.1) e),isK (congrArg (·.2.1) e),isK (congrArg (·.2.2.1) e),congrArg (·.2.2.2.1) e,congrArg (·.2.2.2.2) e⟩
theorem QC(X:K.In h)(G:h.Ns Cn mg){b:Bool}(C A:Nat)(O:Ht K C)(e:(W.nsIn K Cn x,W.kitOne K (.ref C) (.ref A))=(U (U (.ref A)),U b)):ClsOk K mg x C b:=
 ⟨.ref A,.ref A,.inl (YH X G (congrArg (·.1) e)),rfl,λ_ z=>z,congrArg (·.2) e,O⟩
theorem clsT(X:K.In h)(G:h.Ns Cn mg){x:Str}{b:Bool}(C:Nat)(O:Ht K C)(hn:x≠"__name__")(hb:bootBuiltins x=U (.type T))(e:(W.nsIn K Cn x,W.kitOne K (.ref C) (.type T))=(U Y,U b)):ClsOk K mg x C b:=
 ⟨.ty T,.type T,.inr ⟨XD X G (congrArg (·.1) e),hb,hn⟩,rfl,λ_ z=>z,congrArg (·.2) e,O⟩
end
theorem meY{A:gV}{m:MY}(h:Lc A fl c b=m):pJ N (Lc A fl c b) n=pJ N m n:=by rw[h]
section
variable{env e:ax}{S S':ac}{x y d:D}{f g:ac->D->D->Option D}{a b c:ME}{ms:MA}{t u:MT}{k l:Bool}{p q:MS}{tg:MG}
@[simp high] theorem ob{α β:Type}{a:α}{f:α->Option β}:(U a).bind f=f a:=id rfl
@[simp high] theorem obn{α β:Type}{f:α->Option β}:(Y:Option α).bind f=Y:=id rfl
@[simp high] theorem oj{α:Type}{a:Option α}:(U a).join=a:=rfl
@[simp high] theorem ci{α:Type}{a:α}{l:List α}:(a::l)[0]?=U a:=rfl
@[simp high] theorem da{α:Type}{a b:α}{l:List α}:(a::b::l)[1]?=U b:=rfl
@[simp high] theorem cZ{α:Type}{a:α}{l:List α}{i:Nat}:(a::l)[i+1]?=l[i]?:=rfl
@[simp high] theorem jO{α:Type}{a b:α}{l:List α}:(a::l).set 0 b=b::l:=rfl
@[simp high] theorem kM{α:Type}{a b:α}{l:List α}{i:Nat}:(a::l).set (i+1) b=a::l.set i b:=rfl
def tL(S:ac)(z:D):Option (D×ac):=U (z,S)
@[simp] theorem am:tL S d=U (d,S):=rfl
@[simp] theorem aM:mC d env S=U (d,S):=by rw[tD];rfl
@[simp] theorem aq:ae i env S=(env[i]?).join.bind (tL S):=by rw[Ed];rfl
def UK(f:ac->D->D->Option D)(x:D)(q:D×ac):Option (D×ac):=(f q.2 x q.1).bind (tL q.2)
def kOp1(f:ac->D->D->Option D)(b:ME)(env:ax)(q:D×ac):Option (D×ac):=(b env q.2).bind (UK f q.1)
@[simp] theorem aJ:kOp1 f b env (x,S)=(b env S).bind (UK f x):=id rfl
@[simp] theorem aI:UK f x (y,S)=(f S x y).bind (tL S):=id rfl
@[simp] theorem aU:az f a b env S=(a env S).bind (kOp1 f b env):=by rw[gr];rfl
def Rx(q:D×ac):Option (Bool×ac):=match q.1 with | .bl k=>U (k,q.2) | _=>Y
@[simp] theorem aP:Rx (.bl k,S)=U (k,S):=id rfl
@[simp] theorem aR:aF a env S=(a env S).bind Rx:=by rw[tm];rfl
def UZ(g:ac->D->D->Option D)(y:D)(q:D×ac):Option (D×ac):=(g q.2 y q.1).bind (tL q.2)
def Kh(g:ac->D->D->Option D)(c:ME)(env:ax)(y:D)(S:ac)(z:D):Option (D×ac):=match z with
 | .bl true=>(c env S).bind (UZ g y)
 | .bl false=>U (.bl false,S)
 | _=>Y
def OZ(f g:ac->D->D->Option D)(c:ME)(env:ax)(x:D)(q:D×ac):Option (D×ac):=(f q.2 x q.1).bind (Kh g c env q.1 q.2)
def Va(f g:ac->D->D->Option D)(b c:ME)(env:ax)(q:D×ac):Option (D×ac):=(b env q.2).bind (OZ f g c env q.1)
@[simp] theorem Kk:Va f g b c env (x,S)=(b env S).bind (OZ f g c env x):=id rfl
@[simp] theorem Kj:OZ f g c env x (y,S)=(f S x y).bind (Kh g c env y S):=id rfl
@[simp] theorem Kf:Kh g c env y S (.bl true)=(c env S).bind (UZ g y):=id rfl
@[simp] theorem Kg:Kh g c env y S (.bl false)=U (.bl false,S):=id rfl
@[simp] theorem Ki:UZ g y (x,S)=(g S y x).bind (tL S):=id rfl
@[simp] theorem zZ:cq f g a b c env S=(a env S).bind (Va f g b c env):=by
 rw[qa];unfold M.cq Va OZ Kh
 congr 1
def FZ(q:D×ac):Option (Bool×ac):=(sB q.2 q.1).bind λk=>U (k,q.2)
@[simp] theorem fF:FZ (.bl k,S)=U (k,S):=id rfl
@[simp] theorem kTru_n:FZ (.non,S)=U (false,S):=id rfl
@[simp] theorem kTru_i:FZ (.int i,S)=U (i != 0,S):=id rfl
@[simp] theorem kTru_t:FZ (.tup xs,S)=U (!xs.isEmpty,S):=id rfl
@[simp] theorem kTru_l:FZ (.lst xs,S)=U (!xs.isEmpty,S):=id rfl
@[simp] theorem fD:cn a env S=(a env S).bind FZ:=by rw[xX];rfl
def Kl(u:MT)(env:ax)(q:Bool×ac):Option (Bool×ac):=if q.1=true then u env q.2 else U (false,q.2)
def UJ(u:MT)(env:ax)(q:Bool×ac):Option (Bool×ac):=if q.1=true then U (true,q.2) else u env q.2
def RE(q:Bool×ac):Option (Bool×ac):=U (!q.1,q.2)
@[simp] theorem EF:Kl u env (true,S)=u env S:=id rfl
@[simp] theorem EG:Kl u env (false,S)=U (false,S):=id rfl
@[simp] theorem fR:UJ u env (true,S)=U (true,S):=id rfl
@[simp] theorem fS:UJ u env (false,S)=u env S:=id rfl
@[simp] theorem cI:RE (k,S)=U (!k,S):=id rfl
@[simp] theorem Ey:gd t u env S=(t env S).bind (Kl u env):=by rw[tF];rfl
@[simp] theorem fP:cD t u env S=(t env S).bind (UJ u env):=by rw[xY];rfl
@[simp] theorem cY:bO t env S=(t env S).bind RE:=by rw[zQ];rfl
@[simp] theorem ir:bq env S=U (true,S):=by rw[zM];rfl
def Vb(b:ME)(env:ax)(q:D×ac):Option (D×ac):=(sB q.2 q.1).bind λk=>if k=true then b env q.2 else U (q.1,q.2)
def kOr(b:ME)(env:ax)(q:D×ac):Option (D×ac):=(sB q.2 q.1).bind λk=>if k=true then U (q.1,q.2) else b env q.2
@[simp] theorem yk:Vb b env (.bl true,S)=b env S:=id rfl
@[simp] theorem Cy:Vb b env (.bl false,S)=U (.bl false,S):=id rfl
@[simp] theorem RC:kOr b env (.bl true,S)=U (.bl true,S):=id rfl
@[simp] theorem RD:kOr b env (.bl false,S)=b env S:=id rfl
@[simp] theorem tE:ie a b env S=(a env S).bind (Vb b env):=by rw[Ex];rfl
@[simp] theorem Rv:Ej a b env S=(a env S).bind (kOr b env):=by rw[JB];rfl
def EE(q:D×ac):Option (D×ac):=(sB q.2 q.1).bind λk=>U (.bl (!k),q.2)
@[simp] theorem kNotV_l:EE (.lst xs,S)=U (.bl (!!xs.isEmpty),S):=id rfl
@[simp] theorem kNotV_t:EE (.tup xs,S)=U (.bl (!!xs.isEmpty),S):=id rfl
@[simp] theorem kOr_c{d:D}{ds:List D}:kOr b env (.lst (d::ds),S)=U (.lst (d::ds),S):=id rfl
@[simp] theorem kOr_e:kOr b env (.lst [],S)=b env S:=id rfl
@[simp] theorem kNotV_s:EE (.bl k,S)=U (.bl (!k),S):=id rfl
@[simp] theorem mNotV_s:kD a env S=(a env S).bind EE:=by rw[zP];rfl
def kIf(a b:ME)(env:ax)(q:Bool×ac):Option (D×ac):=if q.1=true then a env q.2 else b env q.2
@[simp] theorem Aj:kIf a b env (true,S)=a env S:=id rfl
@[simp] theorem Al:kIf a b env (false,S)=b env S:=id rfl
@[simp] theorem mM:pW t a b env S=(t env S).bind (kIf a b env):=by rw[JE];rfl
@[simp] theorem av:af env S=U ([],S):=by rw[xZ];rfl
def Cu(x:D)(q:List D×ac):Option (List D×ac):=U (x::q.1,q.2)
def Kd(ms:MA)(env:ax)(q:D×ac):Option (List D×ac):=(ms env q.2).bind (Cu q.1)
@[simp] theorem ag{xs:List D}:Cu x (xs,S)=U (x::xs,S):=id rfl
@[simp] theorem ah:Kd ms env (x,S)=(ms env S).bind (Cu x):=id rfl
@[simp] theorem ao:aa a ms env S=(a env S).bind (Kd ms env):=by rw[zY];rfl
def gZ(q:List D×ac):Option (D×ac):=if q.1.length<=ww then U (.tup q.1,q.2) else Y
def nk(q:List D×ac):Option (D×ac):=if q.1.length<=ww then U (.lst q.1,q.2) else Y
def Ah(q:List D×ac):Option (D×ac):=if q.1.length<=ww then U (.ref q.2.length,q.2++[.lst q.1]) else Y
theorem sz{n:Nat}(h:n<=1000):n<=ww:=Xa h (by decide)
theorem bR{xs:List D}(h:xs.length<=1000):gZ (xs,S)=U (.tup xs,S):=WN (sz h)
theorem fm{xs:List D}(h:xs.length<=1000):nk (xs,S)=U (.lst xs,S):=WN (sz h)
theorem tO{xs:List D}(h:xs.length<=1000):Ah (xs,S)=U (.ref S.length,S++[.lst xs]):=WN (sz h)
def br:∀ S (x y z u:D),gZ ([x,y,z,u],S)=U (.tup [x,y,z,u],S):=λS x y z u=>bR (by simp)
def de:∀ S (x y:D),gZ ([x,y],S)=U (.tup [x,y],S):=λS x y=>bR (by simp)
@[simp] theorem dG:bB ms env S=(ms env S).bind gZ:=by rw[Ee];rfl
@[simp] theorem jr:cP ms env S=(ms env S).bind nk:=by rw[Ek];rfl
@[simp] theorem El:fA ms env S=(ms env S).bind Ah:=by rw[zT];rfl
def RH(f:List D->ac->Option (D×ac))(q:List D×ac):Option (D×ac):=f q.1 q.2
@[simp] theorem ba{f:List D->ac->Option (D×ac)}{xs:List D}:RH f (xs,S)=f xs S:=id rfl
@[simp] theorem aZ{f:List D->ac->Option (D×ac)}:ay f ms env S=(ms env S).bind (RH f):=by rw[dO];rfl
def qh(n:Nat)(f:List D->ac->Option (D×ac))(q:List D×ac):Option (D×ac):=if q.1.length=n then f q.1 q.2 else Y
@[simp] theorem Ao{f:List D->ac->Option (D×ac)}:qh 0 f ([],S)=f [] S:=id rfl
@[simp] theorem iT{f:List D->ac->Option (D×ac)}:qh 1 f ([x],S)=f [x] S:=id rfl
@[simp] theorem bi{f:List D->ac->Option (D×ac)}:qh 2 f ([x,y],S)=f [x,y] S:=id rfl
@[simp] theorem tQ{f:List D->ac->Option (D×ac)}{z:D}:qh 3 f ([x,y,z],S)=f [x,y,z] S:=id rfl
@[simp] theorem kCallN_4{f:List D->ac->Option (D×ac)}{z w:D}:qh 4 f ([x,y,z,w],S)=f [x,y,z,w] S:=id rfl
@[simp] theorem aO{n:Nat}{f:List D->ac->Option (D×ac)}:ai n f ms env S=(ms env S).bind (qh n f):=by rw[qb];rfl
def kIsI(T:String)(q:D×ac):Option (D×ac):=(gO T q.2 q.1).bind (tL q.2)
@[simp] theorem ls:kIsI T (x,S)=(gO T S x).bind (tL S):=id rfl
@[simp] theorem lp:du T a env S=(a env S).bind (kIsI T):=by rw[Eo];rfl
def kUn(f:ac->D->Option D)(q:D×ac):Option (D×ac):=(f q.2 q.1).bind (tL q.2)
@[simp] theorem kUn_s{f:ac->D->Option D}:kUn f (x,S)=(f S x).bind (tL S):=id rfl
@[simp] theorem mUn_s{f:ac->D->Option D}:Bm f a env S=(a env S).bind (kUn f):=by rw[Jz];rfl
@[simp] theorem ll:aW env S=U (Y,S):=by rw[vV];rfl
def RB(q:D×ac):Option (Option Int×ac):=match q.1 with | .int i=>U (U i,q.2) | _=>Y
@[simp] theorem oB:RB (.int i,S)=U (U i,S):=id rfl
@[simp] theorem nZ:bA a env S=(a env S).bind RB:=by rw[zO];rfl
def Cs(x:D)(l:Option Int)(q:Option Int×ac):Option (D×ac):=match x with
 | .tup xs=>U (.tup (iY xs l q.1),q.2)
 | .lst xs=>U (.lst (iY xs l q.1),q.2)
 | .rol xs=>U (.lst (iY xs l q.1),q.2)
 | .ref r=>match q.2[r]? with | some (.lst xs)=>U (.lst (iY xs l q.1),q.2) | _=>Y
 | _=>Y
def OT(hi:MO)(env:ax)(x:D)(q:Option Int×ac):Option (D×ac):=(hi env q.2).bind (Cs x q.1)
def UE(lo hi:MO)(env:ax)(q:D×ac):Option (D×ac):=(lo env q.2).bind (OT hi env q.1)
@[simp] theorem JW{lo:MO}:UE lo hi env (x,S)=(lo env S).bind (OT hi env x):=id rfl
@[simp] theorem yf{l:Option Int}:OT hi env x (l,S)=(hi env S).bind (Cs x l):=id rfl
@[simp] theorem kSl3_t{l h:Option Int}:Cs (.tup xs) l (h,S)=U (.tup (iY xs l h),S):=id rfl
@[simp] theorem ye{l h:Option Int}:Cs (.lst xs) l (h,S)=U (.lst (iY xs l h),S):=id rfl
@[simp] theorem kSl3_r{l h:Option Int}:Cs (.rol xs) l (h,S)=U (.lst (iY xs l h),S):=id rfl
@[simp] theorem tq{lo:MO}:cB a lo hi env S=(a env S).bind (UE lo hi env):=by rw[vT];rfl
@[simp] theorem bL:aL env S=U (.nx env S):=by rw[lj];rfl
def JX(q:MS):qA->Option qA
 | .nx e S=>q e S
 | .rt d S=>U (.rt d S)
 | .bk e S=>U (.bk e S)
 | .ct e S=>U (.ct e S)
@[simp] theorem bh:JX q (.nx e S)=q e S:=id rfl
@[simp] theorem bH:JX q (.rt d S)=U (.rt d S):=id rfl
@[simp] theorem kSeq_bk:JX q (.bk e S)=U (.bk e S):=id rfl
@[simp] theorem kSeq_ct:JX q (.ct e S)=U (.ct e S):=id rfl
@[simp] theorem bM:aD p q env S=(p env S).bind (JX q):=by rw[Ef];unfold M.aD;congr 1;funext o;cases o<;>rfl
def kRt(q:D×ac):Option qA:=U (.rt q.1 q.2)
@[simp] theorem bn:kRt (d,S)=U (.rt d S):=id rfl
@[simp] theorem aT:aX a env S=(a env S).bind kRt:=by rw[Eh];rfl
def RG(env:ax)(q:D×ac):Option qA:=U (.nx env q.2)
@[simp] theorem oC:RG env (d,S)=U (.nx env S):=id rfl
@[simp] theorem on:dN a env S=(a env S).bind (RG env):=by rw[zW];rfl
def UN(p q:MS)(env:ax)(r:Bool×ac):Option qA:=if r.1=true then p env r.2 else q env r.2
@[simp] theorem bK:UN p q env (true,S)=p env S:=id rfl
@[simp] theorem cF:UN p q env (false,S)=q env S:=id rfl
@[simp] theorem bX:bJ t p q env S=(t env S).bind (UN p q env):=by rw[Er];rfl
def kNx(q:ax×ac):Option qA:=U (.nx q.1 q.2)
@[simp] theorem bV:kNx (e,S)=U (.nx e S):=id rfl
def kAsg(tg:MG)(env:ax)(q:D×ac):Option qA:=(tg q.1 env q.2).bind kNx
@[simp] theorem bx:kAsg tg env (d,S)=(tg d env S).bind kNx:=id rfl
@[simp] theorem bw:aH a tg env S=(a env S).bind (kAsg tg env):=by rw[iw];rfl
@[simp] theorem aQ:aj i d env S=U (env.set i (U d),S):=by rw[lV];rfl
@[simp] theorem kf:bU [] env S=U (env,S):=by rw[AB];rfl
def kGs(gs:mE)(r:List D)(q:ax×ac):Option (ax×ac):=gs r q.1 q.2
@[simp] theorem tP:kGs gs r (e,S)=gs r e S:=id rfl
@[simp] theorem iU{r:List D}:au tg gs (d::r) env S=(tg d env S).bind (kGs gs r):=by rw[wv];rfl
@[simp] theorem Pi:cj 2 gs (.tup [x,y]) env S=gs [x,y] env S:=by rw[jF];rfl
@[simp] theorem gTupD_3{z:D}:cj 3 gs (.tup [x,y,z]) env S=gs [x,y,z] env S:=by rw[jF];rfl
@[simp] theorem si{z w:D}:cj 4 gs (.tup [x,y,z,w]) env S=gs [x,y,z,w] env S:=by rw[jF];rfl
def Ag(env:ax)(d:D)(r:Nat)(k:Int)(S:ac):Option (ax×ac):=match S[r]? with
 | some (.lst xs)=>(Gf xs.length k).bind λj=>U (env,S.set r (.lst (xs.set j d)))
 | _=>Y
def EB(env:ax)(d o:D)(q:D×ac):Option (ax×ac):=match o,q.1 with
 | .ref r,.int k=>Ag env d r k q.2
 | _,_=>Y
def JU(i:ME)(env:ax)(d:D)(q:D×ac):Option (ax×ac):=(i env q.2).bind (EB env d q.1)
@[simp] theorem kSub1_s:JU a env d (x,S)=(a env S).bind (EB env d x):=id rfl
@[simp] theorem kSub2_s:EB env d (.ref r) (.int i,S)=Ag env d r i S:=id rfl
theorem tK{r:Nat}{j:Nat}(h:S[r]?=U (.lst xs))(hj:Gf xs.length i=U j):Ag env d r i S=U (env,S.set r (.lst (xs.set j d))):=by
 unfold Ag;rw[h];show(Gf xs.length i).bind _=_;rw[hj];rfl
@[simp] theorem gSubD_s:gx a b d env S=(a env S).bind (JU b env d):=by
 rw[Az];unfold M.gx JU EB Ag;congr 1
def kFor(tg:MG)(p:MS)(env:ax)(q:List D×ac):Option qA:=cE tg p q.1 env q.2
@[simp] theorem qg{xs:List D}:kFor tg p env (xs,S)=cE tg p xs env S:=id rfl
@[simp] theorem pX:gY ms tg p env S=(ms env S).bind (kFor tg p env):=by rw[Es];rfl
def Gb(tg:MG)(p:MS)(xs:List D):qA->Option qA
 | .nx e s=>cE tg p xs e s
 | .ct e s=>cE tg p xs e s
 | .bk e s=>U (.nx e s)
 | .rt d s=>U (.rt d s)
def kLp1(tg:MG)(p:MS)(xs:List D)(q:ax×ac):Option qA:=(p q.1 q.2).bind (Gb tg p xs)
@[simp] theorem qf:kLp1 tg p xs (e,S)=(p e S).bind (Gb tg p xs):=id rfl
@[simp] theorem lR:Gb tg p xs (.nx e S)=cE tg p xs e S:=id rfl
@[simp] theorem kLp2_ct:Gb tg p xs (.ct e S)=cE tg p xs e S:=id rfl
@[simp] theorem kLp2_bk:Gb tg p xs (.bk e S)=U (.nx e S):=id rfl
@[simp] theorem kLp2_rt:Gb tg p xs (.rt d S)=U (.rt d S):=id rfl
@[simp] theorem mForL_nil:cE tg p [] env S=U (.nx env S):=id rfl
theorem gM{xs:List D}:cE tg p (d::xs) env S=(tg d env S).bind (kLp1 tg p xs):=by
 show(tg d env S).bind _=_
 first | rfl | (congr 1;funext q;show(p q.1 q.2).bind _=(p q.1 q.2).bind _;congr 1;funext o;cases o<;>rfl)
def Ai(q:D×ac):Option (List D×ac):=match q.1 with | .lst xs=>U (xs,q.2) | .rol xs=>U (xs,q.2) | .tup xs=>U (xs,q.2) | _=>Y
@[simp] theorem yi:Ai (.lst xs,S)=U (xs,S):=id rfl
@[simp] theorem kItS_r:Ai (.rol xs,S)=U (xs,S):=id rfl
@[simp] theorem UL:Ai (.tup xs,S)=U (xs,S):=id rfl
@[simp] theorem jV:eD a env S=(a env S).bind Ai:=by rw[rY];rfl
def RA(q:List D×ac):Option (List D×ac):=match q.1 with | [.int j]=>if -(2^62)<=j/\j<2^62 then U (cA 0 j.toNat,q.2) else Y | _=>Y
theorem jX{j:Int}(h:-1000000<=j)(h':j<=1000000):RA ([.int j],S)=U (cA 0 j.toNat,S):=WN ⟨by omega,by omega⟩
@[simp] theorem fi:bg ms env S=(ms env S).bind RA:=by rw[mZ];rfl
def Cw(q:List D×ac):Option (D×ac):=U (.lst q.1,q.2)
def An(g:MG)(t:MT)(e:ME)(cap:List (Option Nat))(env:ax)(q:List D×ac):Option (D×ac):=if q.1.length<=ww then(fQ g t e q.1 (mz cap env) q.2).bind Cw else Y
theorem Am{xs:List D}(h:xs.length<=1000):An tg t a cap env (xs,S)=(fQ tg t a xs (mz cap env) S).bind Cw:=WN (sz h)
@[simp] theorem Ke{xs:List D}:Cw (xs,S)=U (.lst xs,S):=id rfl
@[simp] theorem iu:cg ms tg t a cap env S=(ms env S).bind (An tg t a cap env):=by rw[tB];rfl
def UT(x:D)(q:List D×ac):Option (List D×ac):=U (x::q.1,q.2)
def UV(g:MG)(t:MT)(e:ME)(xs:List D)(env:ax)(q:D×ac):Option (List D×ac):=(fQ g t e xs env q.2).bind (UT q.1)
def OY(g:MG)(t:MT)(e:ME)(xs:List D)(env:ax)(q:Bool×ac):Option (List D×ac):=if q.1=true then(e env q.2).bind (UV g t e xs env) else fQ g t e xs env q.2
def kCl1(g:MG)(t:MT)(e:ME)(xs:List D)(q:ax×ac):Option (List D×ac):=(t q.1 q.2).bind (OY g t e xs q.1)
@[simp] theorem UY:kCl1 tg t a xs (e,S)=(t e S).bind (OY tg t a xs e):=id rfl
@[simp] theorem UW:OY tg t a xs e (true,S)=(a e S).bind (UV tg t a xs e):=id rfl
@[simp] theorem UX:OY tg t a xs e (false,S)=fQ tg t a xs e S:=id rfl
@[simp] theorem UU:UV tg t a xs e (d,S)=(fQ tg t a xs e S).bind (UT d):=id rfl
@[simp] theorem US{xs:List D}:UT d (xs,S)=U (d::xs,S):=id rfl
@[simp] theorem Uh:fQ tg t a [] env S=U ([],S):=id rfl
theorem qK{xs:List D}:fQ tg t a (d::xs) env S=(tg d env S).bind (kCl1 tg t a xs):=id rfl
@[simp] theorem lD:be S (.int i) (.int j)=U (.int (i+j)):=id rfl
theorem KY{xs ys:List D}(h:xs.length+ys.length<=1000):be S (.lst xs) (.lst ys)=U (.lst (xs++ys)):=WN (sz h)
@[simp] theorem Vp:Po S (.int i) (.int j)=U (.int (i - j)):=id rfl
@[simp] theorem KO:KP S (.int i) (.int j)=U (.bl (decide (i<j))):=id rfl
@[simp] theorem RS:Ps S (.int i) (.int j)=U (.bl (decide (i<=j))):=id rfl
@[simp] theorem AM:CJ S (.int i) (.int j)=U (.bl (decide (j<i))):=id rfl
@[simp] theorem fGe_i:fGe S (.int i) (.int j)=U (.bl (decide (j<=i))):=id rfl
@[simp] theorem Vq:KM S (.int i)=U (.int (-i)):=id rfl
theorem jt{j:Int}(h:0<j):lB S (.int i) (.int j)=U (.int (i%j)):=WN (Xk h)
theorem KW{j:Int}(h:0<j)(h':j<1073741824):Gs S (.int i) (.int j)=U (.int (i / j)):=WN (by show(decide (0<j)&&decide (j<1073741824))=true;rw[Xk h,Xk h'];rfl)
theorem KL{i j:Int}(h:(decide (0<=j)&&decide (j<=1000000)&&decide (i.natAbs<2^64))=true):uV S (.int i) (.int j)=U (.int (i^j.toNat)):=WN h
theorem js(h:nP i j=true):dD S (.int i) (.int j)=U (.int (i*j)):=WN h
theorem sW{i:Int}(h:-18446744073709551616<i)(h':i<18446744073709551616):nP i j=true:=by
 unfold nP;rw[Xk (p:=i.natAbs<18446744073709551616) (by omega)];rfl
theorem xP{j:Int}(h:-18446744073709551616<j)(h':j<18446744073709551616):nP i j=true:=by
 unfold nP;rw[Xk (p:=j.natAbs<18446744073709551616) (by omega)];simp
@[simp] theorem fIx_t:bz S (.tup xs) (.int i)=mD xs i:=id rfl
@[simp] theorem qY:bz S (.lst xs) (.int i)=mD xs i:=id rfl
@[simp] theorem fIx_r:bz S (.rol xs) (.int i)=mD xs i:=id rfl
theorem lY{r:Nat}(h:S[r]?=U (.lst xs)):bz S (.ref r) (.int i)=mD xs i:=by
 have:fO S (.ref r)=U xs:=by simp only[fO,h]
 have t:yV S (.ref r)=Y:=by simp only[yV,h]
 unfold bz;rw[t]
 show(fO S (.ref r)).bind _=_;rw[this];rfl
theorem MJ{α:Type}{xs:List α}{i:Int}(h0:0<=i)(h:i<xs.length):mD xs i=U (xs[i.toNat]'(by omega)):=by
 unfold mD Gf;rw[WN h0,WN h];show xs[i.toNat]?=_;rw[WK]
@[simp] theorem uf:ak bT [.tup xs] S=U (.int xs.length,S):=id rfl
@[simp] theorem qo:ak bT [.lst xs] S=U (.int xs.length,S):=id rfl
@[simp] theorem Vt:ak bT [.rol xs] S=U (.int xs.length,S):=id rfl
@[simp] theorem fInt1_i:ak iX [.int i] S=U (.int i,S):=id rfl
@[simp] theorem EU:ak iX [.bl k] S=U (.int (if k then 1 else 0),S):=id rfl
@[simp] theorem fMax2_i:ak ue [.int i,.int j] S=U (.int (if j>i then j else i),S):=id rfl
@[simp] theorem Pr:ak AJ [.int i,.int j] S=U (.int (if j<i then j else i),S):=id rfl
@[simp] theorem fSeq1_t{g:List D->D}{xs:List D}:ak (em g) [.tup xs] S=U (g xs,S):=id rfl
@[simp] theorem sj{g:List D->D}{xs:List D}:ak (em g) [.lst xs] S=U (g xs,S):=id rfl
theorem uh{bs:List Bool}(h:kh xs=U bs):ak mx [.lst xs] S=U (.bl (bs.all id),S):=by
 show((kh xs).bind _).bind _=_;rw[h];rfl
@[simp] theorem AK:ET S x .non=U (.bl (qj x .non)):=id rfl
@[simp] theorem fIs_b:ET S x (.bl k)=U (.bl (qj x (.bl k))):=id rfl
@[simp] theorem fIsNot_n:nr S x .non=U (.bl (!qj x .non)):=id rfl
@[simp] theorem fIsNot_b:nr S x (.bl k)=U (.bl (!qj x (.bl k))):=id rfl
theorem CK(h:bN 40 x=true)(h':bN 40 y=true):jG S x y=U (.bl (jI x y)):=by
 unfold jG;rw[so h,so h'];exact WN ⟨h,h'⟩
theorem ym(h:bN 40 x=true)(h':bN 40 y=true):mw S x y=U (.bl (!jI x y)):=by
 unfold mw;rw[so h,so h'];exact WN ⟨h,h'⟩
@[simp] theorem qp:jG S (.int i) (.int j)=U (.bl (i==j)):=CK (by simp[bN]) (by simp[bN])
@[simp] theorem ud:mw S (.int i) (.int j)=U (.bl (!(i==j))):=ym (by simp[bN]) (by simp[bN])
@[simp] theorem fEq_bb:jG S (.bl k) (.bl l)=U (.bl (k==l)):=CK (by simp[bN]) (by simp[bN])
@[simp] theorem gP:jG S (.str i) (.str j)=U (.bl (i==j)):=CK (by simp[bN]) (by simp[bN])
@[simp] theorem qk:mw S (.str i) (.str j)=U (.bl (!(i==j))):=ym (by simp[bN]) (by simp[bN])
def ij(f:MF)(x:D)(q:List D×ac):Option (D×ac):=f x q.1 q.2
def tN(f:MF)(ms:MA)(env:ax)(q:D×ac):Option (D×ac):=if uU q.2 q.1=true then(ms env q.2).bind (ij f q.1) else Y
@[simp] theorem og{f:MF}:el f a ms env S=(a env S).bind (tN f ms env):=by rw[zR];rfl
@[simp] theorem kMeth_l{f:MF}{xs:List D}:tN f ms env (.lst xs,S)=(ms env S).bind (ij f (.lst xs)):=id rfl
theorem yg{f:MF}{r:Nat}{xs:List D}(h:S[r]?=U (.lst xs)):tN f ms env (.ref r,S)=(ms env S).bind (ij f (.ref r)):=by
 unfold tN;exact WN (by simp only[uU,h])
@[simp] theorem eI{f:MF}{xs:List D}:ij f x (xs,S)=f x xs S:=id rfl
theorem wD{r:Nat}(h:S[r]?=U (.lst xs))(hz:xs.length<1000):cU (.ref r) [y] S=U (.non,S.set r (.lst (xs++[y]))):=by
 simp only[cU,h];exact WN (WW hz (by decide))
theorem Gr{r:Nat}{i:Int}(h:S[r]?=U (.lst xs))(hz:xs.length<1000)(h0:0<=i)(h1:i<=100000):gW (.ref r) [.int i,y] S=U (.non,S.set r (.lst (jZ xs i y))):=by
 simp only[gW,h];exact WN ⟨WW hz (by decide),by omega,by omega⟩
def ED(x:D)(q:Option Int×ac):Option (D×ac):=match x,q.1 with
 | .tup xs,U j=>if j = -1 then U (.tup xs.reverse,q.2) else Y
 | _,_=>Y
def UF(st:MO)(env:ax)(q:D×ac):Option (D×ac):=(st env q.2).bind (ED q.1)
@[simp] theorem kRev_s{st:MO}:UF st env (x,S)=(st env S).bind (ED x):=id rfl
@[simp] theorem kRev2_s:ED (.tup xs) (U (-1),S)=U (.tup xs.reverse,S):=id rfl
@[simp] theorem mRev_s{st:MO}:mq a st env S=(a env S).bind (UF st env):=by rw[Eg];unfold M.mq UF ED;congr 1
theorem EJ{ns:List Int}(h:ns.length<64):qN S (.lst (ns.map .int))=U ns:=by
 unfold qN
 rw[WN (show uU S (.lst (ns.map D.int))=true from rfl)]
 show(nq (ns.map D.int)).bind _=_
 rw[tV];exact WN h
def sf(q:List D×ac):Option (D×ac):=(lX q.2 q.1).bind (tL q.2)
@[simp] theorem vX:cQ ms env S=(ms env S).bind sf:=by rw[tz];rfl
theorem wf{ns:List Int}(h:ns.length<64):sf ([.lst (ns.map .int)],S)=U (.int (my ns:Nat),S):=by
 show(lX S [.lst (ns.map D.int)]).bind _=_
 have e:lX S [.lst (ns.map D.int)]=U (.int (my ns:Nat)):=by simp only[lX,EJ h]
 rw[e];rfl
def kPar(i j:Nat)(env:ax)(q:List D×ac):Option qA:=match q.1 with | [v,w]=>U (.nx ((env.set i (U v)).set j (U w)) q.2) | _=>Y
@[simp] theorem Uc:lm i j ms env S=(ms env S).bind (kPar i j env):=by rw[Ei];rfl
@[simp] theorem UI:kPar i j env ([x,y],S)=U (.nx ((env.set i (U x)).set j (U y)) S):=id rfl
def UA(q:List D×ac):Option (List D×ac):=match q.1 with | [.tup xs,.tup ys]=>if xs.length<=ys.length then U (jo xs ys,q.2) else Y | _=>Y
@[simp] theorem kZip_s:UA ([.tup xs,.tup xs],S)=U (jo xs xs,S):=WN (WH _)
@[simp] theorem mZip_s:mY ms env S=(ms env S).bind UA:=by rw[Eb];rfl
@[simp] theorem HE{xs ys:List D}:jo (x::xs) (y::ys)=.tup [x,y]::jo xs ys:=id rfl
@[simp] theorem zipD_nl:jo [] xs=[]:=by cases xs<;>rfl
@[simp] theorem zipD_nr:jo xs []=[]:=by cases xs<;>rfl
def UG(k:bD)(d:D)(z:List (bD×D)×ac):Option (List (bD×D)×ac):=U ((k,d)::z.1,z.2)
def OV(r:List (ME×ME))(env:ax)(k:bD)(q:D×ac):Option (List (bD×D)×ac):=(jq r env q.2).bind (UG k q.1)
def kPr2(b:ME)(r:List (ME×ME))(env:ax)(S:ac)(k:bD):Option (List (bD×D)×ac):=(b env S).bind (OV r env k)
def UH(b:ME)(r:List (ME×ME))(env:ax)(q:D×ac):Option (List (bD×D)×ac):=(iQ q.1).bind (kPr2 b r env q.2)
@[simp] theorem Ci:jq [] env S=U ([],S):=id rfl
@[simp] theorem Ru{r:List (ME×ME)}:jq ((a,b)::r) env S=(a env S).bind (UH b r env):=id rfl
@[simp] theorem kPr1_i:UH b r env (.int i,S)=(b env S).bind (OV r env (.inl i)):=id rfl
@[simp] theorem kPr1_s:UH b r env (.str i,S)=(b env S).bind (OV r env (.inr i)):=id rfl
@[simp] theorem kPr3_s{k:bD}:OV r env k (d,S)=(jq r env S).bind (UG k d):=id rfl
@[simp] theorem kPr4_s{k:bD}{z:List (bD×D)}:UG k d (z,S)=U ((k,d)::z,S):=id rfl
def Kc(z:List (bD×D)×ac):Option (D×ac):=if z.1.length<=15 then U (.dct ((bQ [] z.1).map (·.1)) ((bQ [] z.1).map (·.2)),z.2) else Y
def yj(z:List (bD×D)×ac):Option (D×ac):=if z.1.length<=15 then U (.ref z.2.length,z.2++[.dct ((bQ [] z.1).map (·.1)) ((bQ [] z.1).map (·.2))]) else Y
@[simp] theorem mDict_s:jj ps env S=(jq ps env S).bind Kc:=by rw[zX];rfl
@[simp] theorem JH:ei ps env S=(jq ps env S).bind yj:=by rw[pY];rfl
theorem Aw{k:bD}:∀ {l:List (bD×D)},k∉l.map (·.1)->Gk l k=false
 | [],_=>rfl
 | p::r,h=>by
  rw[WO,WQ,abr] at h
  unfold Gk;rw[WX (λz=>h.1 z.symm)];exact Aw h.2
theorem sX:∀ {l m:List (bD×D)},((m++l).map (·.1)).Nodup->bQ m l=m++l
 | [],m,_=>by rw[Xt];rfl
 | p::r,m,h=>by
  show bQ (jR m p.1 p.2) r=_
  have hn:p.1∉m.map (·.1):=by
   rw[Yf,WO,XT] at h
   intro z;exact h.2.2 _ z _ WE rfl
  unfold jR;rw[Aw hn,WX WJ]
  rw[sX (by rw[XQ];exact h),XQ];rfl
theorem pP{l:List (bD×D)}(h:(l.map (·.1)).Nodup):bQ [] l=l:=sX (m:=[]) h
theorem Gc{l:List (bD×D)}(h:(l.map (·.1)).Nodup)(hl:l.length<=15):yj (l,S)=U (.ref S.length,S++[.dct (l.map (·.1)) (l.map (·.2))]):=by
 unfold yj;rw[WN hl];simp only[pP h]
theorem wU{α β:Type}:∀ (l:List (α×β)),(l.map (·.1)).zip (l.map (·.2))=l
 | []=>rfl
 | p::r=>by rw[WO,WO,List.zip_cons_cons,wU r]
@[simp] theorem fIx_dct:bz S (.dct ks vs) y=(iQ y).bind (eg (ks.zip vs)):=id rfl
theorem Pu{l:List (bD×D)}{k:bD}(h:iQ y=U k):lC (.dct (l.map (·.1)) (l.map (·.2))) [y] S=U ((eg l k).getD .non,S):=by
 show((U ((l.map (·.1)).zip (l.map (·.2)))).bind _)=_
 rw[wU];show(iQ y).bind _=_;rw[h];rfl
def yh(f:MF)(ms:MA)(env:ax)(q:D×ac):Option (D×ac):=if Mn q.2 q.1=true then(ms env q.2).bind (ij f q.1) else Y
@[simp] theorem zS{f:MF}:dH f a ms env S=(a env S).bind (yh f ms env):=by rw[vW];rfl
@[simp] theorem Ka{f:MF}{ks:List bD}{vs:List D}:yh f ms env (.dct ks vs,S)=(ms env S).bind (ij f (.dct ks vs)):=id rfl
theorem JZ{f:MF}{r:Nat}{ks:List bD}{vs:List D}(h:S[r]?=U (.dct ks vs)):yh f ms env (.ref r,S)=(ms env S).bind (ij f (.ref r)):=by
 unfold yh;exact WN (by simp only[Mn,h])
@[simp] theorem valD_nil{k:bD}:eg [] k=Y:=id rfl
@[simp] theorem valD_cons{k k':bD}{l:List (bD×D)}:eg ((k',d)::l) k=if k'=k then U d else eg l k:=id rfl
@[simp] theorem keyOf_i:iQ (.int i)=U (.inl i):=id rfl
@[simp] theorem keyOf_s:iQ (.str i)=U (.inr i):=id rfl
def wg(tg:MG)(p:MS)(env:ax)(q:D×ac):Option qA:=match q.1 with
 | .ref r=>fE tg p r 2000 0 env q.2
 | .lst xs=>cE tg p xs env q.2
 | .rol xs=>cE tg p xs env q.2
 | .tup xs=>cE tg p xs env q.2
 | _=>Y
@[simp] theorem oh:dM a tg p env S=(a env S).bind (wg tg p env):=by rw[zU];rfl
@[simp] theorem OX:wg tg p env (.lst xs,S)=cE tg p xs env S:=id rfl
@[simp] theorem kForD_o:wg tg p env (.rol xs,S)=cE tg p xs env S:=id rfl
@[simp] theorem sh:wg tg p env (.tup xs,S)=cE tg p xs env S:=id rfl
@[simp] theorem kForD_r:wg tg p env (.ref r,S)=fE tg p r 2000 0 env S:=id rfl
def yd(x d:D)(env:ax)(q:D×ac):Option (ax×ac):=match x with
 | .ref r=>match q.2[r]? with
  | some (.dct ks vs)=>(iQ q.1).bind λk=>if ks.length<=500 then U (env,q.2.set r (.dct ((jR (ks.zip vs) k d).map (·.1)) ((jR (ks.zip vs) k d).map (·.2)))) else Y
  | _=>Y
 | _=>Y
def JT(b:ME)(env:ax)(d:D)(q:D×ac):Option (ax×ac):=(b env q.2).bind (yd q.1 d env)
@[simp] theorem Pj:jm a b d env S=(a env S).bind (JT b env d):=by rw[Ay];rfl
@[simp] theorem JS:JT b env d (x,S)=(b env S).bind (yd x d env):=id rfl
def UP(q:D×ac):Option (D×ac):=(Pm q.1).bind λy=>U (.str y,q.2)
@[simp] theorem Ug:om a env S=(a env S).bind UP:=by rw[Eu];rfl
theorem Nt{n:Nat}(h:n<=1000000):n<=ww:=Xa h (by decide)
theorem Ab{i:Int}(h:-1000000<=i)(h':i<=1000000):i.natAbs.log2<1920:=by
 have h1:i.natAbs<=1000000:=by omega
 have h2:i.natAbs<2^1920:=Yp h1 (by decide +kernel)
 by_cases h0:i.natAbs=0
 ·rw[h0];decide
 ·exact(Nat.log2_lt h0).mpr h2
theorem UO{i:Int}(h:-1000000<=i)(h':i<=1000000):UP (.int i,S)=U (.str (toString i),S):=by
 show(if i.natAbs.log2<1920 then U (Str.ofString (toString i)) else Y).bind _=_
 rw[WN (Ab h h')];rfl
def kJL(r:List ME)(out:Str)(env:ax)(q:D×ac):Option (D×ac):=match q.1 with
 | .str y=>if (out++y).length<=ww then dj r (out++y) env q.2 else Y
 | _=>Y
@[simp] theorem Cj:dj [] out env S=U (.str out,S):=by rw[lP];rfl
theorem qJ{r:List ME}:dj (a::r) out env S=(a env S).bind (kJL r out env):=by
 rw[lP]
 show(a env S).bind _=_
 congr 1
 funext q
 unfold kJL
 obtain⟨d,T⟩:=q
 cases d<;>first | rfl | skip
 dsimp only
 rw[lP]
theorem RF{out y:Str}(h:(out++y).length<=1000000):kJL r out env (.str y,S)=dj r (out++y) env S:=WN (Nt h)
def kSJ(ms:MA)(env:ax)(q:D×ac):Option (D×ac):=if Kp q.1=true then(ms env q.2).bind (ij mT q.1) else Y
@[simp] theorem nY:cC a ms env S=(a env S).bind (kSJ ms env):=by rw[vU];rfl
@[simp] theorem EC:kSJ ms env (.str z,S)=(ms env S).bind (ij mT (.str z)):=id rfl
theorem vy:∀ ys:List Str,vz (ys.map .str)=U ys
 | []=>rfl
 | y::r=>by
  have:=vy r
  show(vz (r.map .str)).bind _=_
  rw[this];rfl
theorem ug{z:Str}{ys:List Str}(h:fO S y=U (ys.map .str))(hl:(ys.map (·.length)).sum+ys.length*z.length<=1000000):mT (.str z) [y] S=U (.str (Str.join z ys),S):=by
 show((fO S y).bind _)=_
 rw[h]
 show((vz (ys.map .str)).bind _)=_
 rw[vy]
 exact WN (Xa hl (by decide))
theorem gX{i j:Str}(h:i.length+j.length<=1000000):bI S (.str i) (.str j)=U (.str (i++j)):=WN (Nt h)
theorem Pq{i:Str}(h:i.length<=1000000):mS S (.str i) (.int 0)=U (.str Str.empty):=WN ⟨by omega,by decide,by decide⟩
theorem Pp{i:Str}(h:i.length<=1000000):mS S (.str i) (.int 1)=U (.str i):=WN ⟨by omega,by decide,by decide⟩
@[simp] theorem fStr1_n:ak dP [.non] S=U (.str "None",S):=id rfl
theorem lW{i:Int}(h:-1000000<=i)(h':i<=1000000):ak dP [.int i] S=U (.str (toString i),S):=by
 show(dP S [.int i]).bind _=_
 rw[show dP S [.int i]=U (.str (toString i)) from WN (Ab h h')];rfl
def Ol:qA->Option (D×ac)
 | .rt d S'=>U (d,S')
 | .nx _ S'=>U (.non,S')
 | .bk _ _=>Y
 | .ct _ _=>Y
@[simp] theorem aK:Ol (.rt d S)=U (d,S):=id rfl
@[simp] theorem outM_nx:Ol (.nx e S)=U (.non,S):=id rfl
theorem bt{n:Nat}{ds:List D}{S:ac}(h:ds.length=n):bv N m n ds S=(m (aV N ds) S).bind Ol:=by
 unfold bv;rw[WN h];first | rfl | (congr 1;funext o;cases o<;>rfl)
@[simp] theorem rep0:Ga 0 (Y:Option D)=[]:=id rfl
end
section
open PySem.StrLaws PySem.Builtin PySem.Builtin.Str
theorem join2(y p q:Str)(r:List Str):(Str.join y (p::q::r)).cps.toList=p.cps.toList++(y.cps.toList++(Str.join y (q::r)).cps.toList):=by
 show(p++y++Str.join y (q::r)).cps.toList=_
 simp[Str.cps_append]
end
section
variable{env e:ax}{S S':ac}{x y d:D}{a b:ME}{ms:MA}{t:MT}{g:MG}{bd:MB}{xs:List D}{cap:List (Option Nat)}
def oA(z:Str)(q:List D×ac):Option (D×ac):=match q.1 with
 | [.str y]=>if (y.length==0)=false/\z.length<=1000000 then U (.lst ((Txt.split z y).map .str),q.2) else Y
 | _=>Y
def kSpl(ms:MA)(env:ax)(p:D×ac):Option (D×ac):=match p.1 with
 | .str z=>(ms env p.2).bind (oA z)
 | _=>Y
theorem jB:bW a ms env S=(a env S).bind (kSpl ms env):=by rw[vS];rfl
theorem qe:kSpl ms env (.str z,S)=(ms env S).bind (oA z):=id rfl
theorem iR{z w:Str}(h:(w.length==0)=false)(hz:z.length<=1000000):oA z ([.str w],S)=U (.lst ((Txt.split z w).map .str),S):=WN ⟨h,hz⟩
def kEm(env:ax)(q:D×ac):Option (List D×ax×ac):=U ([q.1],env,q.2)
theorem mEm_s:Cm a env S=(a env S).bind (kEm env):=by rw[JG];rfl
theorem kEm_s:kEm env (d,S)=U ([d],env,S):=id rfl
def kIB(g:MG)(t:MT)(b:MB)(env:ax)(q:List D×ac):Option (List D×ax×ac):=iO g t b q.1 env q.2
theorem Ck:kL ms g t bd env S=(ms env S).bind (kIB g t bd env):=by rw[Ep];rfl
theorem Kb:kIB g t bd env (xs,S)=iO g t bd xs env S:=id rfl
def Pb(q:List D×ax×ac):Option (D×ac):=if q.1.length<=ww then U (.lst q.1,q.2.2) else Y
def kCN(g:MG)(t:MT)(b:MB)(cap:List (Option Nat))(env:ax)(q:List D×ac):Option (D×ac):=(iO g t b q.1 (mz cap env) q.2).bind Pb
theorem JK:eG ms g t bd cap env S=(ms env S).bind (kCN g t bd cap env):=by rw[pZ];rfl
theorem kCN_s:kCN g t bd cap env (xs,S)=(iO g t bd xs (mz cap env) S).bind Pb:=id rfl
theorem Pa(h:xs.length<=1000):Pb (xs,e,S)=U (.lst xs,S):=WN (sz h)
theorem iP{α:Type}{enc:α->D}(I:ax->Prop)(ws:α->List D):∀ (l:List α) (env:ax),I env->(∀ x∈l,∀ env,I env->∃ env1 env2,g (enc x) env S=U (env1,S)/\bd env1 S=U (ws x,env2,S)/\I env2)->∃ env',iO g bq bd (l.map enc) env S=U (l.flatMap ws,env',S)/\I env'
 | [],env,h,_=>⟨env,rfl,h⟩
 | x::l,env,h,hs=>by
  obtain⟨env1,env2,h1,h2,h3⟩:=hs x (by simp) env h
  obtain⟨env',h4,h5⟩:=iP I ws l env2 h3 λy hy=>hs y (WB _ hy)
  refine⟨env',?_,h5⟩
  show(g (enc x) env S).bind _=_
  rw[h1,ob]
  dsimp only
  rw[ir,ob]
  dsimp only
  rw[WN rfl,h2,ob]
  dsimp only
  rw[h4]
  rfl
def UR(q:List (bD×D)×ac):Option (D×ac):=U (.dct (q.1.map (·.1)) (q.1.map (·.2)),q.2)
def kDC(g:MG)(t:MT)(kx vx:ME)(cap:List (Option Nat))(env:ax)(q:List D×ac):Option (D×ac):=(ng g t kx vx q.1 (mz cap env) q.2 []).bind UR
theorem JI:gu ms g t a b cap env S=(ms env S).bind (kDC g t a b cap env):=by rw[vZ];rfl
theorem kDC_s:kDC g t a b cap env (xs,S)=(ng g t a b xs (mz cap env) S []).bind UR:=id rfl
theorem UQ{l:List (bD×D)}:UR (l,S)=U (.dct (l.map (·.1)) (l.map (·.2)),S):=id rfl
theorem tH{α:Type}{enc:α->D}(I:ax->Prop)(key:α->Str):∀ (l:List α) (env:ax) (S:ac) (kvs:List (bD×D)),I env->kvs.length+l.length<=1000->(∀ x∈l,∀ env S,I env->∃ env1 T,g (enc x) env S=U (env1,S)/\a env1 S=U (.str (key x),S++T)/\(∀ S,b env1 S=U (enc x,S))/\I env1) ->
  ∃ T,ng g bq a b (l.map enc) env S kvs=U (bQ kvs (l.map λx=>(.inr (key x),enc x)),S++T)
 | [],env,S,kvs,h,_,_=>⟨[],by rw[Xt];rfl⟩
 | x::l,env,S,kvs,h,hl,hs=>by
  rw[WF] at hl
  obtain⟨env1,T,h1,h2,h3,h4⟩:=hs x (by simp) env S h
  have hp:(jR kvs (.inr (key x)) (enc x)).length<=kvs.length+1:=by
   unfold jR
   split
   ·have:∀ l:List (bD×D),(zd l (.inr (key x)) (enc x)).length=l.length:=λl=>by induction l with | nil=>rfl | cons p r ih=>rw[zd,WF,WF,ih]
    rw[this];omega
   ·simp
  obtain⟨T',h5⟩:=tH I key l env1 (S++T) (jR kvs (.inr (key x)) (enc x)) h4 (by omega) λy hy=>hs y (WB _ hy)
  refine⟨T++T',?_⟩
  show(g (enc x) env S).bind _=_
  rw[h1,ob]
  dsimp only
  rw[ir,ob]
  dsimp only
  rw[WN rfl,h2,ob]
  dsimp only
  rw[h3,ob]
  dsimp only
  rw[show iQ (.str (key x))=U (.inr (key x)) from rfl,ob,WN (WW (show kvs.length<1001 by omega) (by decide)),h5,XQ]
  rfl
theorem wX{α:Type}{key:α->Str}{enc:α->D}:∀ {l:List α},(l.map key).Nodup->∀ x∈l,eg (l.map λx=>(.inr (key x),enc x)) (.inr (key x))=U (enc x)
 | y::l,hn,x,hx=>by
  rw[WO,Ys] at hn
  show(if (Sum.inr (key y):bD)=Sum.inr (key x) then U (enc y) else eg _ _)=_
  rcases WQ.mp hx with rfl | hx
  ·rw[WN rfl]
  ·rw[WX (λz=>hn.1 (by rw[aas z];exact Zb hx))]
   exact wX hn.2 x hx
theorem zC{α:Type}{key:α->Str}{enc:α->D}{l:List α}(hn:(l.map key).Nodup):bQ [] (l.map λx=>((.inr (key x):bD),enc x))=l.map λx=>(.inr (key x),enc x):=by
 apply pP
 rw[Yt]
 have e:((λp:bD×D=>p.1) ∘ λx=>((.inr (key x):bD),enc x))=(Sum.inr:Str->bD) ∘ key:=rfl
 rw[e,<- Yt]
 exact ZZ.mpr (hn.imp λh z=>h (aas z))
def UM(p:D×ac):Option (List D×ac):=match p.1 with | .str z=>if z.cps.all (· < 128)=true then U (iL z,p.2) else Y | _=>Y
theorem Ue:rM a env S=(a env S).bind UM:=by rw[Em];rfl
theorem OW{z:Str}(h:z.cps.all (· < 128)=true):UM (.str z,S)=U (iL z,S):=WN h
theorem Kx(h:xs.length<16384):il gs (.lst (x::xs)) env S=gs [x,.lst xs] env S:=by rw[AA];exact WN h
theorem Ph{z w:D}:jk 4 gs (.lst [x,y,z,w]) env S=gs [x,y,z,w] env S:=by rw[Ax];rfl
theorem KT{n:Int}(h:intText? z=U n)(hl:z.length<=640):ak fJ [.str z] S=U (.int n,S):=by
 have:fJ S [.str z]=U (.int n):=by
  show(if z.length<=640 then(intText? z).bind λn=>U (D.int n) else Y)=_
  rw[WN hl,h];rfl
 show(fJ S [.str z]).bind _=_
 rw[this];rfl
theorem ES{z:Str}{c:Nat}(h:mD z.cps.toList i=U c)(hl:z.length<=1000000):cH S (.str z) (.int i)=U (.str ⟨#[c]⟩):=by
 show(if z.length<=ww then(mD z.cps.toList i).bind λc=>U (D.str ⟨#[c]⟩) else Y)=_
 rw[WN (Nt hl),h];rfl
end
def sd:MS:=
 aD (bJ (aF (az CJ (az bz '0' 0e0) 0e0)) (aD (aH (az lB (az bz '0' 0e0) '1') 'b') (aD (aH (az Gs (az bz '0' 0e0) '1') (gx '0' 0e0)) (aX '2'))) aL) (aD (aH (az be (az bz '0' 2e0) 1e0) (gx '0' 2e0)) (aD (aH (az lB (az be (az be (az dD (az bz '0' 1e0) 48271e0) 12345e0) (az dD 7e0 (az bz '0' 2e0))) 2147483647e0) (gx '0' 1e0)) (aX (az lB (az Gs (az lB (az dD (az bz '0' 1e0) (az bz '0' 1e0)) 1999999973e0) 64e0) '1'))))
def Cq:MS:=
 aD (aH 1e0 '`') (aD (gY (bg (aa 10e0 af)) 'a' (aH (az dD '0' (az uV 10e0 60e0)) '`')) (aX '0'))
def lQ:MS:=
 aD (bJ (aF (az KP '1' (ay (ak bT) (aa '0' af)))) (aX (az bz '0' '1')) aL) (aX 0e0)
def se(cellAt far:List D->ac->Option (D×ac)):MS:=
 aD (aH (ai 2 cellAt (aa '0' (aa (az lB '1' (ay (ak ue) (aa 1e0 (aa (ay (ak bT) (aa '0' af)) af)))) af))) 'b') (aD (aH (az lB (az dD (az be (az be (az lB '2' 2147483629e0) (az dD (az dD 7919e0 '1') '1')) 11e0) 48271e0) 2147483647e0) 'c') (aD (aH (az lB (az be (az be (az dD '3' 39373e0) (az dD 7e0 '1')) 1e0) 2147483629e0) 'c') (aD (bJ (aF (az KP '2' (az uV 10e0 18e0))) (aH 0e0 'b') aL) (aX (fA (aa (az lB '2' (ai 0 far af)) (aa '3' (aa 0e0 af))))))))
theorem Wj{a b c:D}:mD [a,b,c] 0=U a/\mD [a,b,c] 1=U b/\mD [a,b,c] 2=U c:=⟨rfl,rfl,rfl⟩
def Pk(S:ac)(r:Nat):Prop:=∃ a b c:Int,S[r]?=U (.lst [.int a,.int b,.int c])/\0<=a/\0<=b/\b<2147483647
def p60:Int:=1000000000000000000000000000000000000000000000000000000000000
theorem TF:(10:Int)^(60:Int).toNat=p60:=by decide +kernel
theorem TD:p60.natAbs<=2^(200*1):=by decide +kernel
theorem Oi:0<p60:=by decide +kernel
theorem Oj{i:Int}(h:i.natAbs<2^4000):nP i p60=true:=by
 unfold nP
 rw[Xk h,Xk (p:=p60.natAbs<2^4000) (by decide +kernel)]
 simp
def KJ:MS:=aH (az dD '0' (az uV 10e0 60e0)) '`'
theorem Vo:uV S (.int 10) (.int 60)=U (.int p60):=by
 have h:=KL (S:=S) (i:=10) (j:=60) (by decide +kernel)
 rw[TF] at h
 exact h
theorem KI{o:Option D}(h1:uV S (.int 10) (.int 60)=U (.int p))(h2:dD S (.int a) (.int p)=U (.int (a*p))):KJ [U (.int a),o] S=U (.nx [U (.int (a*p)),o] S):=by
 simp[KJ,h1,h2]
theorem Pn{o:Option D}(h:nP a p60=true):KJ [U (.int a),o] S=U (.nx [U (.int (a*p60)),o] S):=KI Vo (js h)
theorem farL{B:Nat}(hB:∀ i:Int,i.natAbs<B->nP i p60=true)(l:List D):∀ (a:Int) (o:Option D),0<a->a.natAbs*2^(200*l.length)<B->∃ q o',cE 'a' KJ l [U (.int a),o] S=U (.nx [U (.int q),o'] S)/\0<q:=by
 induction l with
 | nil=>exact λa o h _=>⟨a,o,rfl,h⟩
 | cons d l ih=>
  intro a o h hb
  have h1:a.natAbs<B:=Yp (Nat.le_mul_of_pos_right _ (Nat.pow_pos (by decide))) hb
  obtain⟨q,o',e,hq⟩:=ih (a*p60) (U d) (Int.mul_pos h Oi) (by
   rw[Int.natAbs_mul]
   refine Yp ?_ hb
   rw[WF,Nat.mul_add,Nat.pow_add,Nat.mul_assoc]
   refine abn _ ?_
   rw[aae]
   exact abn _ TD)
  refine⟨q,o',?_,hq⟩
  rw[gM,aQ,ob,qf]
  show(KJ [U (.int a),U d] S).bind _=_
  rw[Pn (hB a h1),ob,lR]
  exact e
theorem KH{N:List Str}(hN:N.length=2):∃ q:Int,bv N Cq 0 [] S=U (.int q,S)/\0<q:=by
 obtain⟨q,o',e,hq⟩:=farL (S:=S) (λi h=>Oj h) (cA 0 10) 1 Y (by decide) (by decide +kernel)
 refine⟨q,?_,hq⟩
 rw[bt (show([]:List D).length=0 from rfl)]
 have:aV N []=[Y,Y]:=by simp[aV,hN,Ga]
 rw[this]
 have k1:RA ([.int 10],S)=U (cA 0 10,S):=jX (by decide) (by decide)
 have e':cE 'a' (aH (az dD '0' (az uV 10e0 60e0)) '`') (cA 0 10) [U (.int 1),Y] S=U (.nx [U (.int q),o'] S):=e
 simp![Cq,pX,fi,k1,qg,e']
theorem FH{m:Int}{N:List Str}(hN:N.length=3)(h:Pk S r)(h0:0<m)(h1:m<1073741824) :
  ∃ q S',bv N sd 2 [.ref r,.int m] S=U (.int q,S')/\0<=q/\q<m/\Pk S' r/\(∀ j,j≠r->S'[j]?=S[j]?)/\S'.length=S.length:=by
 obtain⟨a,b,c,h,ha,hb,hb'⟩:=h
 have hr:r<S.length:=(WC.mp h).1
 have hm:∀ x:Int,0<=x%m/\x%m<m:=λx=>⟨YI _ (by omega),ZQ _ h0⟩
 have hst:aV N [.ref r,.int m]=[U (.ref r),U (.int m),Y]:=by simp[aV,hN]
 rw[bt (show [D.ref r,D.int m].length=2 from rfl),hst]
 have hs:∀ c:Cell,(S.set r c)[r]?=U c:=λc=>Xv hr
 by_cases hp:0<a
 ·refine⟨a%m,S.set r (.lst [.int (a / m),.int b,.int c]),?_,(hm a).1,(hm a).2,⟨a / m,b,c,hs _,Int.ediv_nonneg ha (by omega),hb,hb'⟩,λj hj=>by rw[Xl (Ne.symm hj)],by simp⟩
  have w:=tK (env:=[U (.ref r),U (.int m),U (.int (a%m))]) (d:=.int (a / m)) h (show Gf _ 0=U 0 from rfl)
  simp[sd,lY h,hp,jt h0,KW h0 h1,Wj,w]
 ·have hB:∀ x:Int,0<=x%2147483647/\x%2147483647<2147483647:=λx=>⟨YI _ (by decide),ZQ _ (by decide)⟩
  let b':=(b*48271+12345+7*(c+1))%2147483647
  have hb2:=hB (b*48271+12345+7*(c+1))
  have m3:nP b' b'=true:=sW (by omega) (by omega)
  have s1:(S.set r (.lst [.int a,.int b,.int (c+1)]))[r]?=U (.lst [.int a,.int b,.int (c+1)]):=hs _
  have s2:((S.set r (.lst [.int a,.int b,.int (c+1)])).set r (.lst [.int a,.int b',.int (c+1)]))[r]?=U (.lst [.int a,.int b',.int (c+1)]):=Xv (by simpa using hr)
  refine⟨b'*b'%1999999973 / 64%m,(S.set r (.lst [.int a,.int b,.int (c+1)])).set r (.lst [.int a,.int b',.int (c+1)]),?_,(hm _).1,(hm _).2,⟨a,b',c+1,s2,ha,(hB _).1,(hB _).2⟩,λj hj=>by rw[Xl (Ne.symm hj),Xl (Ne.symm hj)],by simp⟩
  have e1:dD (S.set r (.lst [.int a,.int b,.int (c+1)])) (.int b) (.int 48271)=U (.int (b*48271)):=js (xP (by decide) (by decide))
  have e2:dD (S.set r (.lst [.int a,.int b,.int (c+1)])) (.int 7) (.int (c+1))=U (.int (7*(c+1))):=js (sW (by decide) (by decide))
  have e3:∀ S x,lB S (.int x) (.int 2147483647)=U (.int (x%2147483647)):=λ_ _=>jt (by decide)
  have e4:∀ S x,lB S (.int x) (.int 1999999973)=U (.int (x%1999999973)):=λ_ _=>jt (by decide)
  have e5:∀ S x,Gs S (.int x) (.int 64)=U (.int (x / 64)):=λ_ _=>KW (by decide) (by decide)
  have w1:=tK (env:=[U (.ref r),U (.int m),Y]) (d:=.int (c+1)) h (show Gf _ 2=U 2 from rfl)
  have w2:=tK (env:=[U (.ref r),U (.int m),Y]) (d:=.int b') s1 (show Gf _ 1=U 1 from rfl)
  simp[sd,lY h,lY s1,lY s2,hp,jt h0,Wj,e1,e2,e3,e4,e5,w1]
  rw[show(b*48271+12345+7*(c+1))%2147483647=b' from rfl,w2]
  simp[lY (hs _),Wj,js m3,e4,e5,jt h0]
theorem AZ{S:ac}{ns:List Int}{k:Int}{N:List Str}(hN:N.length=2)(h0:0<=k):∃ v,bv N lQ 2 [.rol (ns.map .int),.int k] S=U (.int v,S):=by
 rw[bt (show [D.rol (ns.map .int),D.int k].length=2 from rfl)]
 have hst:aV N [D.rol (ns.map .int),D.int k]=[U (D.rol (ns.map .int)),U (.int k)]:=by simp[aV,hN]
 rw[hst]
 by_cases h:k<ns.length
 ·have e:mD (ns.map D.int) k=U (.int (ns[k.toNat]'(by omega))):=by
   rw[MJ h0 (by simpa using h)];simp
  exact⟨ns[k.toNat]'(by omega),by simp[lQ,h,e]⟩
 ·exact⟨0,by simp[lQ,h]⟩
theorem Wp{S:ac}{a b:Int}(ha:0<=a)(hb:0<=b)(hb':b<2147483647):Pk (S++[.lst [.int a,.int b,.int c]]) S.length:=⟨a,b,c,by simp,ha,hb,hb'⟩
theorem FU{S:ac}{ns:List Int}{k:Int}{N:List Str}{cellAt far:List D->ac->Option (D×ac)}(hN:N.length=4)(h0:0<=k)(h1:k<=100000)
  (hc:∀ S k,0<=k->∃ v,cellAt [.rol (ns.map .int),.int k] S=U (.int v,S)) (hf:∀ S,∃ q,far [] S=U (.int q,S)/\0<q) :
  ∃ a b,bv N (se cellAt far) 2 [.rol (ns.map .int),.int k] S=U (.ref S.length,S++[.lst [.int a,.int b,.int 0]])/\0<=a/\0<=b/\b<2147483647:=by
 rw[bt (show [D.rol (ns.map .int),D.int k].length=2 from rfl)]
 have hst:aV N [D.rol (ns.map .int),D.int k]=[U (D.rol (ns.map .int)),U (.int k),Y,Y]:=by simp[aV,hN,Ga]
 rw[hst]
 have hmx:0<(if (ns.length:Int)>1 then(ns.length:Int) else 1):=by split<;>omega
 obtain⟨v,hv⟩:=hc S (k%(if (ns.length:Int)>1 then(ns.length:Int) else 1)) (YI _ (by omega))
 obtain⟨q,hq,q0⟩:=hf S
 have e1:∀ S x,lB S (.int x) (.int 2147483629)=U (.int (x%2147483629)):=λ_ _=>jt (by decide)
 have e2:∀ S x,lB S (.int x) (.int 2147483647)=U (.int (x%2147483647)):=λ_ _=>jt (by decide)
 have e3:∀ S x,lB S (.int x) (.int q)=U (.int (x%q)):=λ_ _=>jt q0
 have p1:∀ S,dD S (.int 7919) (.int k)=U (.int (7919*k)):=λ_=>js (sW (by decide) (by decide))
 have p2:∀ S,dD S (.int (7919*k)) (.int k)=U (.int (7919*k*k)):=λ_=>js (xP (by omega) (by omega))
 have p3:∀ S x,dD S (.int x) (.int 48271)=U (.int (x*48271)):=λ_ _=>js (xP (by decide) (by decide))
 have p4:∀ S x,dD S (.int x) (.int 39373)=U (.int (x*39373)):=λ_ _=>js (xP (by decide) (by decide))
 have p5:∀ S,dD S (.int 7) (.int k)=U (.int (7*k)):=λ_=>js (sW (by decide) (by decide))
 have pw:∀ S,uV S (.int 10) (.int 18)=U (.int 1000000000000000000):=λS=>by
  have h:=KL (S:=S) (i:=10) (j:=18) (by decide +kernel)
  rwa[show(10:Int)^(18:Int).toNat=1000000000000000000 by decide +kernel] at h
 have hb:∀ x:Int,0<=x%2147483629/\x%2147483629<2147483647:=λx=>⟨YI _ (by decide),by have:=ZQ x (show(0:Int)<2147483629 by decide);omega⟩
 have kl:∀ S x y,Ah ([.int x,.int y,.int 0],S)=U (.ref S.length,S++[.lst [.int x,.int y,.int 0]]):=λ_ _ _=>tO (by simp)
 by_cases h:v<1000000000000000000
 ·refine⟨0%q,(((v%2147483629+7919*k*k+11)*48271%2147483647)*39373+7*k+1)%2147483629,?_,YI _ (by omega),(hb _).1,(hb _).2⟩
  simp[-Int.zero_emod,se,jt hmx,hv,e1,e2,e3,p1,p2,p3,p4,p5,pw,h,hq,kl]
 ·refine⟨v%q,(((v%2147483629+7919*k*k+11)*48271%2147483647)*39373+7*k+1)%2147483629,?_,YI _ (by omega),(hb _).1,(hb _).2⟩
  simp[se,jt hmx,hv,e1,e2,e3,p1,p2,p3,p4,p5,pw,h,hq,kl]
theorem oM{tg:MG}{p:MS}(I:ax->ac->Prop):∀ (xs:List D),(∀ d∈xs,∀ env S,I env S->∃ env1 S1 env2 S2,tg d env S=U (env1,S1)/\p env1 S1=U (.nx env2 S2)/\I env2 S2) ->
  ∀ env S,I env S->∃ env' S',cE tg p xs env S=U (.nx env' S')/\I env' S'
 | [],_,env,S,h=>⟨env,S,rfl,h⟩
 | d::xs,hs,env,S,h=>by
  obtain⟨env1,S1,env2,S2,e1,e2,h2⟩:=hs d WE env S h
  obtain⟨env',S',e3,h3⟩:=oM I xs (λd hd=>hs d (WB _ hd)) env2 S2 h2
  exact⟨env',S',by rw[gM,e1,ob,qf,e2,ob,lR,e3],h3⟩
theorem BW{lo:Int}{d:D}(h:d∈cA lo n):∃ i:Nat,i<n/\d=.int (lo+(i:Int)):=by
 obtain⟨i,hi⟩:=Zs.mp h
 exact⟨i,sM lo n i d hi⟩
noncomputable abbrev PF:=List D->ac->Option (D×ac)
def Wq(pick:PF):Prop:=∀ (S:ac) (r:Nat) (m:Int),Pk S r->0<m->m<1073741824->∃ q S',pick [.ref r,.int m] S=U (.int q,S')/\0<=q/\q<m/\Pk S' r/\(∀ j,j≠r->S'[j]?=S[j]?)/\S'.length=S.length
def EA(pick:PF):MS:=
 aD (aH (az bz (cP (aa (!"rows") (aa (!"readers") (aa (!"writers") (aa (!"turns") (aa (!"passes") af)))))) (ai 2 pick (aa '0' (aa 5e0 af)))) 'a') (aD (aH (az bz (cP (aa 0e0 (aa 0e0 (aa 1e0 (aa 2e0 (aa 3e0 (aa 5e0 af))))))) (ai 2 pick (aa '0' (aa 6e0 af)))) 'b') (aD (aH (az dD (az bz (cP (aa 0e0 (aa 1e0 (aa 2e0 (aa 9e0 af))))) (ai 2 pick (aa '0' (aa 4e0 af)))) (ay (ak iX) (aa (az jG '1' (!"passes")) af))) 'c') (aX (bB (aa '1' (aa '2' (aa '3' (aa (ai 2 pick (aa '0' (aa 2e0 af))) af))))))))
def wl:List D:=[.str "out",.str "reads",.str "rising",.str "writes",.str "raised"]
theorem forR{tg:MG}{p:MS}{lo:Int}(I:Nat->ax->ac->Prop)(n:Nat)(step:∀ i,i<n->∀ env S,I i env S->∃ env1 S1 env2 S2,tg (.int (lo+(i:Int))) env S=U (env1,S1)/\p env1 S1=U (.nx env2 S2)/\I (i+1) env2 S2) :
  ∀ env S,I 0 env S->∃ env' S',cE tg p (cA lo n) env S=U (.nx env' S')/\I n env' S':=by
 have gen:∀ (m k:Nat),k+m=n->∀ env S,I k env S->∃ env' S',cE tg p ((List.range' k m).map λ(i:Nat)=>D.int (lo+(i:Int))) env S=U (.nx env' S')/\I n env' S':=by
  intro m
  induction m with
  | zero=>exact λk hk env S h=>⟨env,S,rfl,by rw[<- hk];exact h⟩
  | succ m ih=>
   intro k hk env S h
   obtain⟨env1,S1,env2,S2,e1,e2,h2⟩:=step k (by omega) env S h
   obtain⟨env',S',e3,h3⟩:=ih (k+1) (by omega) env2 S2 h2
   refine⟨env',S',?_,h3⟩
   rw[List.range'_succ,WO,gM,e1,ob,qf,e2,ob,lR,e3]
 intro env S h
 have:=gen n 0 (by omega) env S h
 unfold cA
 rw[List.range_eq_range']
 exact this
def EntOk(n:Int)(xs:List D)(d:D):Prop:=∃ (g:Int) (w:Str) (m:Int) (t:D),d=.tup [.int g,.str w,.int m,t]/\0<=g/\g<n/\(w = "read"\/w = "write")/\0<=m/\m<=999/\(t=.non\/∃ k,t=.int k/\1<=k/\k<=9)/\mD xs g=U (.str "out")
theorem EntOk.up{n':Int}{d:D}(h:EntOk n xs d)(hn:n<=n'):EntOk n' xs d:=by
 obtain⟨g,w,m,t,e,h0,h1,r⟩:=h
 exact⟨g,w,m,t,e,h0,by omega,r⟩
theorem Gh{α:Type}(xs:List α)(i:Int)(y:α):(jZ xs i y).Perm (y::xs):=by
 unfold jZ
 refine List.perm_middle.trans ?_
 rw[XR]
theorem KQ{S:ac}{q:Nat}(h:S[q]?=U (.lst xs)):ak bT [.ref q] S=U (.int xs.length,S):=by
 have e:fO S (.ref q)=U xs:=by simp only[fO,h]
 show((fO S (.ref q)).bind _).bind _=_
 rw[e];rfl
theorem wC{S:ac}{g:List D->D}{q:Nat}(h:S[q]?=U (.lst xs)):ak (em g) [.ref q] S=U (g xs,S):=by
 have e:fO S (.ref q)=U xs:=by simp only[fO,h]
 show((fO S (.ref q)).bind _).bind _=_
 rw[e];rfl
theorem Pk.app{c:Cell}(h:Pk S r):Pk (S++[c]) r/\S.length≠r:=by
 obtain⟨a,b,d,h,z⟩:=h
 have hr:=(WC.mp h).1
 exact⟨⟨a,b,d,by rw[WS hr];exact h,z⟩,by omega⟩
def Keep(r:Nat)(S S':ac):Prop:=(∀ j,j≠r->S'[j]?=S[j]?)/\S'.length=S.length
theorem Keep.trans(h:Keep r S S')(h':Keep r S' S''):Keep r S S'':=⟨λj z=>(h'.1 j z).trans (h.1 j z),h'.2.trans h.2⟩
theorem Keep.refl:Keep r S S:=⟨λ_ _=>rfl,rfl⟩
def jW(F:PF):MS:=
 aD (bJ (cn (du "dict" '1')) (aD (bJ (cD (bO (cn (du "dict" '0'))) (aF (az mw (ay (ak bT) (aa '0' af)) (ay (ak bT) (aa '1' af))))) (aX (mC (.bl false))) aL) (aD (aH fH 'b') (aX (ay (ak mx) (aa (cg (eD '1') '`' bq (ie (az yJ '0' '2') (ie (ai 2 F (aa (az bz '3' '0') (aa '0' af))) (ai 2 F (aa (az bz '2' '0') (aa (az bz '1' '0') af))))) [Y,U 1,U 0,U 2]) af))))) aL) (aD (bJ (cD (cn (du "list" '1')) (cn (du "tuple" '1'))) (aD (bJ (cD (aF (az mw (du "list" '0') (du "list" '1'))) (aF (az mw (du "tuple" '0') (du "tuple" '1')))) (aX (mC (.bl false))) aL) (aX (ie (az jG (ay (ak bT) (aa '0' af)) (ay (ak bT) (aa '1' af))) (ay (ak mx) (aa (cg (mY (aa '0' (aa '1' af))) (cj 2 (au '`' (au 'a' bU))) bq (ai 2 F (aa '0' (aa '1' af))) [Y,Y]) af))))) aL) (aD (bJ (aF (az ET '1' (mC .non))) (aX (az ET '0' (mC .non))) aL) (aD (bJ (cn (du "str" '1')) (aX (ie (du "str" '0') (az jG '0' '1'))) aL) (aD (bJ (cD (cn (du "bool" '1')) (cn (du "bool" '0'))) (aX (ie (du "bool" '0') (ie (du "bool" '1') (az jG '0' '1')))) aL) (aX (ie (du "int" '0') (az jG '0' '1')))))))
def dF:Nat->D->Bool
 | 0,_=>false
 | _+1,.non=>true
 | _+1,.bl _=>true
 | _+1,.int _=>true
 | _+1,.str _=>true
 | j+1,.tup xs=>decide (xs.length<=1000)&&xs.all (dF j)
 | _+1,_=>false
theorem Vu{S:ac}{d:D}(h:dF j d=true):gO "dict" S d=U (.bl false)/\gO "list" S d=U (.bl false):=by
 cases j with
 | zero=>cases h
 | succ j=>cases d<;>first | exact⟨rfl,rfl⟩ | (exfalso;simp[dF] at h)
theorem mH:∀ xs:List D,(jo xs xs).length=xs.length
 | []=>rfl
 | x::r=>by rw[HE,WF,WF,mH r]
theorem pf:∀ n:Nat,kh (Ga n (D.bl true))=U (Ga n true)
 | 0=>rfl
 | n+1=>by
  rw[Xm,Xm]
  have:=pf n
  simp only[kh,this];rfl
theorem Vr{k:Bool}:mw S (.bl k) (.bl l)=U (.bl (!(k==l))):=ym (by simp[bN]) (by simp[bN])
theorem Iy{F:PF}{S:ac}{t1 t2:Option D}:∀ (xs:List D) (a b:Option D),(∀ d∈xs,F [d,d] S=U (.bl true,S))->fQ (cj 2 (au '`' (au 'a' bU))) bq (ai 2 F (aa '0' (aa '1' af))) (jo xs xs) [a,b] S=U (Ga xs.length (.bl true),S)
 | [],a,b,_=>by simp
 | x::r,a,b,h=>by
  have h1:=h x (by simp)
  have h2:=Iy (t1:=t1) (t2:=t2) r (U x) (U x) λd hd=>h d (WB _ hd)
  rw[HE,qK]
  simp[h1,h2,Xm]
theorem zh{R:Nat->PF}{N:List Str}(hN:N.length=3)(hR:∀ j,R (j+1)=bv N (jW (R j)) 2){S:ac}:∀ (j:Nat) (d:D),dF j d=true->R j [d,d] S=U (.bl true,S)
 | 0,d,h=>by cases d<;>cases h
 | j+1,d,h=>by
  have hst:aV N [d,d]=[U d,U d,Y]:=by simp[aV,hN,Ga]
  rw[hR,bt (show [d,d].length=2 from rfl),hst]
  obtain⟨i1,i2⟩:=Vu (S:=S) h
  cases d with
  | tup xs=>
   have hx:xs.length<=1000/\xs.all (dF j)=true:=by simpa[dF] using h
   have it:gO "tuple" S (.tup xs)=U (.bl true):=rfl
   have hl:=Iy (F:=R j) (S:=S) (t1:=Y) (t2:=Y) xs Y Y λd hd=>zh hN hR j d (WP.mp hx.2 d hd)
   have kc:An (cj 2 (au '`' (au 'a' bU))) bq (ai 2 (R j) (aa '0' (aa '1' af))) [Y,Y] [U (.tup xs),U (.tup xs),Y] (jo xs xs,S)=U (.lst (Ga xs.length (.bl true)),S):=by
    rw[Am (by rw[mH];exact hx.1)]
    show(fQ _ _ _ (jo xs xs) [Y,Y] S).bind _=_
    rw[hl];rfl
   have fa:ak mx [.lst (Ga xs.length (D.bl true))] S=U (.bl true,S):=by
    rw[uh (pf _)];simp
   simp[jW,i1,i2,it,Vr,kc,fa]
  | txt=>cases h
  | obj=>cases h
  | exc C fl i=>cases h
  | fn a=>cases h
  | non=>simp[jW,i1,i2,show gO "tuple" S .non=U (.bl false) from rfl,qj]
  | bl k=>simp[jW,i1,i2,show gO "tuple" S (.bl k)=U (.bl false) from rfl,show gO "str" S (.bl k)=U (.bl false) from rfl,show gO "bool" S (.bl k)=U (.bl true) from rfl,qj]
  | int i=>simp[jW,i1,i2,show gO "tuple" S (.int i)=U (.bl false) from rfl,show gO "str" S (.int i)=U (.bl false) from rfl,show gO "bool" S (.int i)=U (.bl false) from rfl,show gO "int" S (.int i)=U (.bl true) from rfl,qj]
  | str x=>simp[jW,i1,i2,show gO "tuple" S (.str x)=U (.bl false) from rfl,show gO "str" S (.str x)=U (.bl true) from rfl,qj]
  | lst _=>simp[dF] at h
  | rol _=>simp[dF] at h
  | dct _ _=>simp[dF] at h
  | ref _=>simp[dF] at h
theorem sx{S:ac}{c:Cell}:(S++[c])[S.length]?=U c:=by simp
theorem Fi{S:ac}{c d:Cell}:(S++[c]).set S.length d=S++[d]:=by
 rw[List.set_append,WX (XS _)];simp
inductive Wd where | out | reads | rising | writes | raised
deriving DecidableEq
def Wd.s:Wd->Str
 | .out=>"out"
 | .reads=>"reads"
 | .rising=>"rising"
 | .writes=>"writes"
 | .raised=>"raised"
theorem Wd.eq(a b:Wd):(a.s==b.s)=decide (a=b):=by cases a<;>cases b<;>decide +kernel
structure En where
 g:Nat
 wr:Bool
 m:Int
 t:Option Int
def db(b:Bool):Str:=if b then "write" else "read"
def fB:Option Int->D
 | none=>.non
 | some k=>.int k
def En.d(e:En):D:=.tup [.int (e.g:Nat),.str (db e.wr),.int e.m,fB e.t]
noncomputable abbrev Rm:=List Wd×List En
def Wd.d(w:Wd):D:=.str w.s
def HG(ws:List Wd):D:=.tup (ws.map Wd.d)
def esD(es:List En):D:=.tup (es.map En.d)
def mn(R:Rm):D:=.tup [HG R.1,esD R.2]
inductive Rw where | rows | readers | writers | turns | passes
deriving DecidableEq
def Rw.s:Rw->Str
 | .rows=>"rows"
 | .readers=>"readers"
 | .writers=>"writers"
 | .turns=>"turns"
 | .passes=>"passes"
theorem Rw.eq(a b:Rw):(a.s==b.s)=decide (a=b):=by cases a<;>cases b<;>decide +kernel
structure Rl where
 w:Rw
 a:Int
 b:Int
 c:Int
def Rl.d(r:Rl):D:=.tup [.str r.w.s,.int r.a,.int r.b,.int r.c]
structure Rl.Ok(r:Rl):Prop where
 a0:0<=r.a
 a5:r.a<=5
 b0:0<=r.b
 b9:r.b<=9
 c0:0<=r.c
 c1:r.c<=1
section
variable{α:Type}{enc:α->D}{p:α->Bool}{f:α->D}{t:MT}{e:ME}{rest:ax}{S:ac}
theorem Sb:∀ (xs:List α) (a:Option D),(∀ x∈xs,t (U (enc x)::rest) S=U (p x,S))->(∀ x∈xs,p x=true->e (U (enc x)::rest) S=U (f x,S))->fQ '`' t e (xs.map enc) (a::rest) S=U ((xs.filter p).map f,S)
 | [],a,_,_=>by simp
 | x::r,a,h,h2=>by
  have ih:=Sb r (U (enc x)) (λy hy=>h y (WB _ hy)) λy hy=>h2 y (WB _ hy)
  rw[WO,qK,aQ,ob,jO,UY,h x (by simp),ob]
  cases hp:p x with
  | true=>rw[UW,h2 x (by simp) hp,ob,UU,ih,ob,US,List.filter_cons_of_pos hp,WO]
  | false=>rw[UX,ih,List.filter_cons_of_neg (by simp[hp])]
theorem lr{a:Option D}{xs:List α}(hc:mz cap env=a::rest)(hl:xs.length<=1000)(h:∀ x∈xs,t (U (enc x)::rest) S=U (p x,S))(h2:∀ x∈xs,p x=true->e (U (enc x)::rest) S=U (f x,S)) :
  An '`' t e cap env (xs.map enc,S)=U (.lst ((xs.filter p).map f),S):=by
 rw[Am (by rw[WI];exact hl),hc,Sb xs a h h2,ob,Ke]
end
theorem wT{α:Type}{xs:List α}{i:Nat}{x:α}(h:xs[i]?=U x):mD xs (i:Int)=U x:=by
 have hl:=(WC.mp h).1
 rw[MJ (by omega) (by omega)]
 rw[WC] at h
 obtain⟨_,h⟩:=h
 simpa using h
section
variable{S:ac}{e:En}{r:Rl}{R:Rm}
theorem En.ix0:bz S e.d (.int 0)=U (.int (e.g:Nat)):=rfl
theorem En.ix1:bz S e.d (.int 1)=U (.str (db e.wr)):=rfl
theorem Rl.ix0:bz S r.d (.int 0)=U (.str r.w.s):=rfl
theorem Rl.ix1:bz S r.d (.int 1)=U (.int r.a):=rfl
theorem Rm.ix0:bz S (mn R) (.int 0)=U (HG R.1):=rfl
theorem Rm.ix1:bz S (mn R) (.int 1)=U (esD R.2):=rfl
end
theorem Rg{d i:Nat}:HT.ff n d (U (i:Int))=min i n:=by
 show(if (i:Int)<0 then((i:Int)+(n:Int)).toNat else min (i:Int).toNat n)=_
 rw[WX (by omega),YA]
theorem Rh{d:Nat}:HT.ff n d Y=d:=rfl
theorem qv{α:Type}(xs:List α)(i:Nat)(h:i<=xs.length):iY xs Y (U (i:Int))=xs.take i:=by
 unfold iY
 rw[Rg,Rh,Nat.min_eq_left h];simp
theorem qw{α:Type}(xs:List α)(i:Nat)(h:i<=xs.length):iY xs (U (i:Int)) Y=xs.drop i:=by
 unfold iY
 rw[Rg,Rh,Nat.min_eq_left h,YL (by simp)]
def letB(r:Rl)(ws:List Wd)(wr:Bool):Bool:=
 if ws.count .reads+ws.count .rising+ws.count .out<ws.length then false
 else if wr then decide (ws.count .reads+ws.count .rising=0)
 else decide (ws.count .rising=0)&&(decide (r.a=0)||decide (((ws.count .reads+ws.count .rising:Nat):Int)<r.a))
def ni(i:Nat):D:=.int (i:Int)
def nl(l:List Nat):D:=.lst (l.map ni)
def orL(a b:List Nat):List Nat:=if a=[] then b else a
def Ve(p:En->Bool)(es:List En):List Nat:=(es.zipIdx.filter λq=>p q.1).map (·.2)
theorem zy(n:Nat):D.lst (cA 0 n)=nl (List.range n):=by
 unfold cA nl ni;congr 1;apply ZG;intro i _;rw[Int.zero_add]
def frL(r:Rl)(es:List En):List Nat:=match r.w with
 | .rows=>(List.range es.length).take 1
 | .readers=>(orL (Ve (λe=>!e.wr) es) (Ve (λe=>e.wr) es)).take 1
 | .passes=>(List.range es.length).filter λi=>decide (nU (0::(es.take i).map λe=>e.m+1)<=r.b)
 | .turns=>(orL (Ve (λe=>decide (e.m=1)) es) (orL (Ve (λe=>e.wr) es) (Ve (λe=>!e.wr) es))).take 1
 | .writers=>(orL (Ve (λe=>e.wr) es) (Ve (λe=>!e.wr) es)).take 1
structure ROk(R:Rm):Prop where
 out:∀ e∈R.2,R.1[e.g]?=U .out
 nd:(R.2.map (·.g)).Nodup
theorem BU:∀ (n:Nat) (l:List Nat),l.Nodup->(∀ x∈l,x<n)->l.length<=n
 | 0,l,_,h=>by cases l with | nil=>exact WH _ | cons x _=>exact absurd (h x (by simp)) (by omega)
 | n+1,l,hn,h=>by
  by_cases hm:n∈l
  ·have:=BU n (l.erase n) (hn.erase n) λx hx=>by
    have h1:=h x (List.mem_of_mem_erase hx)
    have h2:x≠n:=λz=>by rw[z] at hx;exact(List.Nodup.not_mem_erase hn) hx
    omega
   rw[List.length_erase_of_mem hm] at this
   omega
  ·have:=BU n l hn λx hx=>by
    have h1:=h x hx
    have h2:x≠n:=λz=>hm (z ▸ hx)
    omega
   omega
theorem ROk.lt(h:ROk R){e:En}(he:e∈R.2):e.g<R.1.length:=(WC.mp (h.out e he)).1
theorem ROk.len(h:ROk R):R.2.length<=R.1.length:=by
 have:=BU R.1.length (R.2.map (·.g)) h.nd λx hx=>by obtain⟨e,he,rfl⟩:=Xs.mp hx;exact h.lt he
 rwa[WI] at this
structure Ev where
 w:Str
 g:Nat
def Ev.d(e:Ev):D:=.tup [.str e.w,.int (e.g:Nat)]
def ML(ws:List Wd):List Nat:=(List.range ws.length).filter λg=>decide (ws[g]?=U .rising)&&decide (ws.count .out+1=ws.length)
def someL(r:Rl)(ws:List Wd)(es:List En):List Nat:=(frL r es).filter λi=>match es[i]? with | some e=>letB r ws e.wr | none=>false
def My(r:Rl)(e:En):En:={ e with m:=e.m+(if r.w=.passes then 1 else 0) }
def Pg(r:Rl)(R:Rm)(i:Nat)(e:En):Rm:=(R.1.set e.g (if e.wr then .writes else .reads),(R.2.take i).map (My r)++R.2.drop (i+1))
def stL(r:Rl)(R:Rm):Rm×List Ev:=match ML R.1 with
 | g::_=>((R.1.set g .raised,R.2),[⟨"steps",g⟩])
 | []=>match someL r R.1 R.2 with
  | i::_=>match R.2[i]? with
   | some e=>(Pg r R i e,[⟨"in",e.g⟩])
   | none=>(R,[])
  | []=>(R,[])
def seL(r:Rl):Nat->Rm->Rm×List Ev
 | 0,R=>(R,[])
 | n+1,R=>let a:=stL r R;let b:=seL r n a.1;(b.1,a.2++b.2)
theorem Ca(r:Rl)(es:List En):(es.map (My r)).map (·.g)=es.map (·.g):=by rw[Yt];rfl
theorem Pf{i:Nat}{e:En}(h:ROk R)(hi:R.2[i]?=U e):ROk (Pg r R i e):=by
 obtain⟨ws,es⟩:=R
 have hs:es=es.take i++e::es.drop (i+1):=by
  obtain⟨hl,he⟩:=WC.mp hi
  rw[<- he,List.getElem_cons_drop,XR]
 have hnd:((es.take i).map (·.g)++e.g::(es.drop (i+1)).map (·.g)).Nodup:=by
  have:=h.nd
  dsimp only at this
  rw[hs] at this
  simpa using this
 rw[XT,Ys] at hnd
 obtain⟨n1,⟨n2,n3⟩,n4⟩:=hnd
 refine⟨λx hx=>?_,?_⟩
 ·show(ws.set e.g _)[x.g]?=_
  have key:∃ y∈es,y.g=x.g/\x.g≠e.g:=by
   rcases Xb.mp hx with hx | hx
   ·obtain⟨y,hy,rfl⟩:=Xs.mp hx
    refine⟨y,XZ hy,rfl,λz=>?_⟩
    exact n4 _ (Xs.mpr ⟨y,hy,rfl⟩) _ WE z
   ·refine⟨x,YT hx,rfl,λz=>n2 ?_⟩
    rw[<- z];exact Xs.mpr ⟨x,hx,rfl⟩
  obtain⟨y,hy,e1,ne⟩:=key
  rw[Xl (Ne.symm ne),<- e1]
  exact h.out y hy
 ·show(((es.take i).map (My r)++es.drop (i+1)).map (·.g)).Nodup
  rw[Yf,Ca,XT]
  exact⟨n1,n3,λa ha b hb=>n4 a ha b (WB _ hb)⟩
theorem Dj{g:Nat}(h:g∈ML ws):ws[g]?=U .rising:=by
 have:=(Ye.mp h).2
 rw[Wz] at this
 exact XM this.1
theorem Sz(h:ROk R):ROk (stL r R).1/\(stL r R).1.1.length=R.1.length:=by
 unfold stL
 split
 ·rename_i g l hg
  have hr:R.1[g]?=U .rising:=Dj (by rw[hg];exact WE)
  refine⟨⟨λe he=>?_,h.nd⟩,by simp⟩
  show(R.1.set g .raised)[e.g]?=_
  have h1:=h.out e he
  rw[Xl (λz=>by rw[z,h1] at hr;cases hr)]
  exact h1
 ·split
  ·split
   ·rename_i e he
    exact⟨Pf h he,by simp[Pg]⟩
   ·exact⟨h,rfl⟩
  ·exact⟨h,rfl⟩
theorem Iw:∀ (n:Nat) {R:Rm},ROk R->ROk (seL r n R).1/\(seL r n R).1.1.length=R.1.length
 | 0,R,h=>⟨h,rfl⟩
 | n+1,R,h=>by
  obtain⟨h1,h2⟩:=Sz (r:=r) h
  obtain⟨h3,h4⟩:=Iw n h1
  exact⟨h3,h4.trans h2⟩
inductive Ak where | up | down | leave | stop
deriving DecidableEq
def Ak.s:Ak->Str
 | .up=>"up"
 | .down=>"down"
 | .leave=>"leave"
 | .stop=>"stop"
inductive Dd where
 | ask (wr:Bool) (g:Nat) (t:Option Int)
 | act (k:Ak) (g:Nat)
 | tick
def Dd.d:Dd->D
 | .ask wr g t=>.tup [.str (db wr),.int (g:Int),fB t]
 | .act k g=>.tup [.str k.s,.int (g:Int)]
 | .tick=>.tup [.str "tick"]
def MU(t:Option Int):Prop:=∀ k,t=U k->0<=k/\k<=9
def Dd.Ok(n:Nat):Dd->Prop
 | .ask _ g t=>g<n/\MU t
 | .act _ g=>g<n
 | .tick=>True
def kQ(es:List En)(g:Nat):Bool:=es.any λe=>decide (e.g=g)
def Mt(R:Rm):Dd->Bool
 | .tick=>true
 | .ask _ g _=>decide (R.1[g]?=U .out)&&!kQ R.2 g
 | .act .up g=>decide (R.1[g]?=U .reads)
 | .act .down g=>decide (R.1[g]?=U .writes)||decide (R.1[g]?=U .raised)
 | .act .leave g=>decide (R.1[g]?≠U .out)
 | .act .stop g=>kQ R.2 g||decide (R.1[g]?=U .rising)
def mkL(r:Rl)(w:Wd)(es:List En):List En:=if r.w=.turns/\w=.writes then es.map (λe=>if e.wr then e else { e with m:=1 }) else es
section
variable{S:ac}{ws:List Wd}{es:List En}{r:Rl}
theorem Vv{a b:Wd}:jG S a.d (.str b.s)=U (.bl (decide (a=b))):=by
 show jG S (.str a.s) (.str b.s)=_
 rw[gP,Wd.eq]
end
def dJ(r:Rl)(R:Rm):Rm×List Ev:=seL r (2*R.1.length) R
def Ho(wr:Bool)(g:Nat)(t:Option Int):En:=⟨g,wr,0,if t=U 0 then U 1 else t⟩
def Hn(r:Rl)(R:Rm)(wr:Bool)(g:Nat)(t:Option Int):Rm×List Ev:=
 let a:=dJ r (R.1,R.2++[Ho wr g t])
 if kQ a.1.2 g=false then a
 else if t=U 0 then((a.1.1,a.1.2.filter λe=>decide (e.g≠g)),a.2++[⟨"no",g⟩])
 else(a.1,a.2++[⟨"waits",g⟩])
def LZ(e:En):En:={ e with t:=e.t.map (· - 1) }
def QZ(r:Rl)(R:Rm):Rm×List Ev:=
 let a:=dJ r (R.1,(R.2.map LZ).filter λe=>decide (e.t≠U 0))
 (a.1,(((R.2.map LZ).filter λe=>decide (e.t=U 0)).map λe=>⟨"ends",e.g⟩)++a.2)
def Vn(k:Ak)(g:Nat):List Ev:=match k with
 | .up=>[]
 | .stop=>[⟨"ends",g⟩]
 | .down=>[⟨"down",g⟩]
 | .leave=>[⟨"out",g⟩]
def xi(k:Ak)(w:Wd):Wd:=match k with
 | .up=>.rising
 | .down=>.reads
 | .leave=>.out
 | .stop=>if w=.rising then .reads else .out
def Dm(r:Rl)(k:Ak)(w:Wd)(g:Nat)(es:List En):List En:=(if k=.down\/k=.leave then mkL r w es else es).filter λe=>decide (e.g≠g)
def MN(r:Rl)(R:Rm)(k:Ak)(g:Nat)(w:Wd):Rm×List Ev:=
 let a:=dJ r (R.1.set g (xi k w),Dm r k w g R.2)
 (a.1,Vn k g++a.2++(if a.1.1[g]?=U .rising then [⟨"waits",g⟩] else []))
def wI(r:Rl)(R:Rm)(dd:Dd):Option (Rm×List Ev):=
 if Mt R dd=false then Y else match dd with
 | .tick=>U (QZ r R)
 | .ask wr g t=>U (Hn r R wr g t)
 | .act k g=>if k=.up/\(r.c=0\/Wd.rising∈R.1) then U (R,[⟨"no",g⟩]) else match R.1[g]? with
  | some w=>U (MN r R k g w)
  | none=>Y
theorem xp{g:Nat}(h:kQ es g=false){e:En}(he:e∈es):e.g≠g:=λz=>by
 have:kQ es g=true:=Zm.mpr ⟨e,he,by simp[z]⟩
 rw[h] at this;cases this
theorem ROk.filter{ws:List Wd}{es:List En}(h:ROk (ws,es))(p:En->Bool):ROk (ws,es.filter p):=
 ⟨λe he=>h.out e (Ye.mp he).1,List.Sublist.nodup (List.Sublist.map _ (List.filter_sublist)) h.nd⟩
theorem ROk.mapE{ws:List Wd}{es:List En}(h:ROk (ws,es))(f:En->En)(hf:∀ e,(f e).g=e.g):ROk (ws,es.map f):=
 ⟨λe he=>by obtain⟨x,hx,rfl⟩:=Xs.mp he;rw[hf];exact h.out x hx,by
  show((es.map f).map (·.g)).Nodup
  rw[Yt,show((·.g) ∘ f)=(λe:En=>e.g) from funext hf];exact h.nd⟩
theorem ROk.setW{ws:List Wd}{es:List En}(h:ROk (ws,es))(g:Nat)(w:Wd)(hg:∀ e∈es,e.g≠g):ROk (ws.set g w,es):=
 ⟨λe he=>by show(ws.set g w)[e.g]?=_;rw[Xl (Ne.symm (hg e he))];exact h.out e he,h.nd⟩
theorem kS(h:ROk R):ROk (dJ r R).1/\(dJ r R).1.1.length=R.1.length:=Iw _ h
theorem QK{g:Nat}(h:ROk R)(hw:R.1[g]?=U .out)(hs:kQ R.2 g=false):ROk (R.1,R.2++[Ho wr g t]):=
 ⟨λe he=>by
  rcases Xb.mp he with he | he
  ·exact h.out e he
  ·rw[Xc.mp he];exact hw,by
  show((R.2++[Ho wr g t]).map (·.g)).Nodup
  rw[Yf,XT]
  refine⟨h.nd,by simp,λa ha b hb=>?_⟩
  obtain⟨e,he,rfl⟩:=Xs.mp ha
  simp[Ho] at hb
  rw[hb];exact xp hs he⟩
theorem TZ{ws:List Wd}{es:List En}(h:ROk (ws,es)):ROk (ws,mkL r w es):=by
 unfold mkL;split
 ·exact h.mapE _ λe=>by split<;>rfl
 ·exact h
theorem QP{k:Ak}{g:Nat}{ws:List Wd}{es:List En}(h:ROk (ws,es))(w':Wd):ROk (ws.set g w',Dm r k w g es):=by
 unfold Dm
 refine ROk.setW (ROk.filter ?_ _) g w' λe he=>XM (Ye.mp he).2
 split
 ·exact TZ h
 ·exact h
theorem LO{x:Rm×List Ev}(h:ROk R)(hx:wI r R dd=U x):ROk x.1/\x.1.1.length=R.1.length:=by
 unfold wI at hx
 split at hx
 ·cases hx
 ·rename_i hc
  have hc:Mt R dd=true:=by simpa using hc
  cases dd with
  | tick=>
   cases hx
   obtain⟨a,b⟩:=kS (r:=r) (R:=(R.1,(R.2.map LZ).filter λe=>decide (e.t≠U 0))) (ROk.filter (ROk.mapE h LZ λe=>rfl) _)
   exact⟨a,b⟩
  | ask wr g t=>
   cases hx
   simp only[Mt,Wz,WM,Bool.not_eq_true'] at hc
   obtain⟨a,b⟩:=kS (r:=r) (QK (wr:=wr) (t:=t) h hc.1 hc.2)
   unfold Hn
   dsimp only
   split
   ·exact⟨a,b⟩
   ·split
    ·exact⟨ROk.filter a _,b⟩
    ·exact⟨a,b⟩
  | act k g=>
   dsimp only at hx
   split at hx
   ·cases hx;exact⟨h,rfl⟩
   ·split at hx
    ·rename_i w hw
     cases hx
     obtain⟨a,b⟩:=kS (r:=r) (QP (r:=r) (k:=k) (w:=w) (g:=g) h (xi k w))
     exact⟨a,b.trans (by simp)⟩
    ·cases hx
def Grow(r:Nat)(S S':ac):Prop:=S.length<=S'.length/\∀ j,j<S.length->j≠r->S'[j]?=S[j]?
theorem Grow.of(h:Keep r S S'):Grow r S S':=⟨aaf h.2.symm,λj _ hj=>h.1 j hj⟩
theorem Grow.app{T:ac}:Grow r S (S++T):=⟨by simp,λj h _=>WS h⟩
theorem Grow.trans(h:Grow r S S')(h':Grow r S' S''):Grow r S S'':=⟨Xa h.1 h'.1,λj hj hr=>(h'.2 j (WW hj h.1) hr).trans (h.2 j hj hr)⟩
theorem Pk.appT{T:ac}(h:Pk S r):Pk (S++T) r:=by
 obtain⟨a,b,d,h,z⟩:=h
 exact⟨a,b,d,by rw[WS (WC.mp h).1];exact h,z⟩
theorem Pk.lt(h:Pk S r):r<S.length:=by
 obtain⟨a,b,d,h,z⟩:=h
 exact(WC.mp h).1
theorem at_w2{q:Int}(h0:0<=q)(h1:q<2):∃ wr:Bool,mD [D.str "read",D.str "write"] q=U (.str (db wr)):=by
 obtain rfl | rfl:q=0\/q=1:=by omega
 ·exact⟨false,rfl⟩
 ·exact⟨true,rfl⟩
theorem Jx{es:List En}{e:En}:jZ (es.map En.d) i e.d=(jZ es i e).map En.d:=by
 unfold jZ;simp
def uo(n:Nat):Rm:=(Ga n .out,[])
theorem GL:ROk (uo n):=⟨λe h=>by simp[uo] at h,by simp[uo]⟩
inductive Behind(r:Rl)(n:Nat):List Dd->Rm->Prop
 | nil:Behind r n [] (uo n)
 | snoc {l:List Dd} {R:Rm} {d:Dd} {x:Rm×List Ev} (h:Behind r n l R) (hd:d.Ok n) (e:wI r R d=U x):Behind r n (l++[d]) x.1
theorem Behind.ok(h:Behind r n l R):ROk R/\R.1.length=n:=by
 induction h with
 | nil=>exact⟨GL,by simp[uo]⟩
 | snoc h hd e ih=>obtain⟨a,b⟩:=LO ih.1 e;exact⟨a,b.trans ih.2⟩
def nt(l:List Nat):D:=.tup (l.map ni)
section
variable{S:ac}{R:Rm}{r:Rl}{g:Nat}
theorem ja{α:Type}{p:α->Bool}:∀ l:List α,kh (l.map λx=>D.bl (p x))=U (l.map p)
 | []=>rfl
 | x::l=>by
  have:=ja (p:=p) l
  rw[WO,WO]
  simp only[kh,this];rfl
end
section
variable{ws:List Wd}{es:List En}{r:Rl}{R:Rm}{g:Nat}
theorem wM{a b:Wd}:∀ {ws:List Wd} {i:Nat},ws[i]?=U a->a≠b->∀ c,(ws.set i b).count c+(if a=c then 1 else 0)=ws.count c+(if b=c then 1 else 0)
 | [],i,h,_,c=>by simp at h
 | w::l,0,h,hn,c=>by
  simp at h;subst h
  rw[List.set_cons_zero,Zv,Zv]
  by_cases h1:w=c<;>by_cases h2:b=c<;>simp[h1,h2]<;>omega
 | w::l,i+1,h,hn,c=>by
  have:=wM (i:=i) (ws:=l) (by simpa using h) hn c
  rw[List.set_cons_succ,Zv,Zv]
  omega
end
section
variable{S:ac}{r:Rl}{R:Rm}
theorem KN(h:bN 40 x=true):mw S x x=U (.bl false):=by
 rw[ym h h,lG 40 x h];rfl
end
section
variable{r:Rl}
structure Calm(ws:List Wd):Prop where
 only:∀ w∈ws,w=.out\/w=.reads
 one:1<=ws.count .reads
theorem Calm.set(c:Calm ws){g:Nat}(hg:ws[g]?=U .out):Calm (ws.set g .reads)/\(ws.set g .reads).count .reads=ws.count .reads+1:=by
 have h:=wM (b:=.reads) hg (by decide) .reads
 simp at h
 have:=c.one
 refine⟨⟨λw hw=>?_,by omega⟩,h⟩
 rcases List.mem_or_eq_of_mem_set hw with z | z
 ·exact c.only w z
 ·exact .inr z
end
def MB(k:Nat)(es:List En):Prop:=∀ e∈es,0<=e.m/\e.m<=k/\∀ t,e.t=U t->1<=t/\t<=9
section
variable{r:Rl}{R:Rm}{k j:Nat}{es:List En}
theorem MB.mono(h:MB k es)(hk:k<=j):MB j es:=λe he=>⟨(h e he).1,by have:=(h e he).2.1;omega,(h e he).2.2⟩
theorem MB.sub{l:List En}(h:MB k es)(hs:∀ e∈l,e∈es):MB k l:=λe he=>h e (hs e he)
theorem MB.filter(h:MB k es)(p:En->Bool):MB k (es.filter p):=h.sub λe he=>(Ye.mp he).1
theorem MB.app(h:MB k es)(h':MB k l):MB k (es++l):=λe he=>(Xb.mp he).elim (h e) (h' e)
theorem MB.up(h:MB k es):MB (k+1) (es.map (My r)):=λe he=>by
 obtain⟨x,hx,rfl⟩:=Xs.mp he
 obtain⟨h1,h2,h3⟩:=h x hx
 refine⟨?_,?_,h3⟩<;>(show _<=_;unfold My;dsimp only;split<;>omega)
theorem SA(h:MB k R.2):MB (k+1) (stL r R).1.2:=by
 unfold stL
 split
 ·exact h.mono (by omega)
 ·split
  ·split
   ·exact MB.app (MB.up (h.sub λe he=>XZ he)) ((h.sub λe he=>YT he).mono (by omega))
   ·exact h.mono (by omega)
  ·exact h.mono (by omega)
theorem Ix:∀ (n:Nat) {R:Rm} {k:Nat},MB k R.2->MB (k+n) (seL r n R).1.2
 | 0,R,k,h=>h
 | n+1,R,k,h=>by
  have:=Ix n (SA (r:=r) h)
  rw[show k+1+n=k+(n+1) by omega] at this
  exact this
theorem kT(h:MB k R.2):MB (k+2*R.1.length) (dJ r R).1.2:=Ix _ h
theorem Ua(h:MB k es)(hk:1<=k):MB k (mkL r w es):=by
 unfold mkL
 split
 ·intro e he
  obtain⟨x,hx,rfl⟩:=Xs.mp he
  obtain⟨h1,h2,h3⟩:=h x hx
  split
  ·exact⟨h1,h2,h3⟩
  ·exact⟨by show(0:Int)<=1;decide,by show(1:Int)<=k;omega,h3⟩
 ·exact h
theorem LP{dd:Dd}{x:Rm×List Ev}(hd:dd.Ok n)(h:MB k R.2)(hx:wI r R dd=U x):MB (k+1+2*R.1.length) x.1.2:=by
 have h1:MB (k+1) R.2:=h.mono (by omega)
 unfold wI at hx
 split at hx
 ·cases hx
 ·split at hx
  ·cases hx
   refine kT (R:=(R.1,_)) ?_
   intro e he
   obtain⟨he,ht⟩:=Ye.mp he
   obtain⟨y,hy,rfl⟩:=Xs.mp he
   obtain⟨a1,a2,a3⟩:=h1 y hy
   refine⟨a1,a2,λt z=>?_⟩
   have ht':=XM ht
   unfold LZ at z ht'
   dsimp only at z ht'
   cases hy2:y.t with
   | none=>rw[hy2] at z;cases z
   | some u=>
    rw[hy2] at z ht'
    have:=a3 u hy2
    rw[Option.map_some] at z ht'
    cases z
    have:u - 1≠0:=λq=>ht' (by rw[q])
    omega
  ·rename_i wr g t hcan
   cases hx
   have hs:MB (k+1+2*R.1.length) (dJ r (R.1,R.2++[Ho wr g t])).1.2:=by
    refine kT (R:=(R.1,_)) (MB.app h1 ?_)
    intro e he
    rw[Xc.mp he]
    refine⟨Int.le_refl _,by show(0:Int)<=_;omega,λu z=>?_⟩
    have hl:MU t:=hd.2
    unfold Ho at z
    dsimp only at z
    split at z
    ·cases z;decide
    ·rename_i hne
     have:=hl u z
     have:u≠0:=λq=>hne (by rw[z,q])
     omega
   unfold Hn
   dsimp only
   split
   ·exact hs
   ·split
    ·exact hs.filter _
    ·exact hs
  ·rename_i kk g hcan
   split at hx
   ·cases hx;exact h.mono (by omega)
   ·split at hx
    ·rename_i w hw
     cases hx
     have:=kT (r:=r) (R:=(R.1.set g (xi kk w),Dm r kk w g R.2)) (k:=k+1) (by
      show MB (k+1) (Dm r kk w g R.2)
      unfold Dm
      refine MB.filter ?_ _
      split
      ·exact Ua h1 (by omega)
      ·exact h1)
     rw[show(R.1.set g (xi kk w),Dm r kk w g R.2).1.length=R.1.length by simp] at this
     exact this
    ·cases hx
theorem Behind.mb(h:Behind r n l R):MB (l.length*(2*n+1)) R.2:=by
 induction h with
 | nil=>intro e he;cases he
 | snoc h hd e ih=>
  have:=LP hd ih e
  rw[h.ok.2] at this
  rw[Xf,YN]
  refine this.mono ?_
  rw[Nat.add_mul]
  omega
end
theorem Ap(s a:Str):∀ (r:List Str) (b:Str),r.foldl (λacc y=>acc++s++y) (a++b)=a++r.foldl (λacc y=>acc++s++y) b
 | [],b=>rfl
 | y::r,b=>by
  rw[Yg,Yg,YQ a b s,YQ a (b++s) y]
  exact Ap s a r (b++s++y)
theorem qi(s:Str):∀ (ys:List Str) (x:Str),Str.join s (x::ys)=ys.foldl (λacc y=>acc++s++y) x
 | [],x=>rfl
 | y::r,x=>by
  show x++s++Str.join s (y::r)=_
  rw[qi s r y,Yg,Ap s (x++s) r y]
theorem lU{i:Int}(h:-1000<=i)(h':i<=1000):(Str.ofString (toString i)).length<=1002:=by
 have:=len_str_of_int i
 omega
def tI:Option Int->Str
 | none=>"-"
 | some k=>Str.ofString (toString k)
def kP(e:En):Str:=Str.empty++Str.ofString (toString (e.g:Int))++" "++db e.wr++" "++Str.ofString (toString e.m)++" "++tI e.t
def pp(ws:List Wd):Str:=Str.join " " (ws.map Wd.s)
def Dy(R:Rm):Str:=Str.join ", " (pp R.1::R.2.map kP)
structure EnS(e:En):Prop where
 g:e.g<=1000
 m0:0<=e.m
 m1:e.m<=1000
 t:∀ k,e.t=U k->1<=k/\k<=9
structure RmS(R:Rm):Prop where
 l1:R.1.length<=10
 l2:R.2.length<=10
 en:∀ e∈R.2,EnS e
theorem iy(a b:Str):(a++b).length=a.length+b.length:=strLen_append a b
theorem yN(b:Bool):(db b).length<=5:=by cases b<;>decide +kernel
theorem Sj(w:Wd):w.s.length<=6:=by cases w<;>decide +kernel
theorem lM:(Str.ofString " ").length=1/\(Str.ofString ", ").length=2/\Str.empty.length=0/\(Str.ofString "-").length=1:=by decide +kernel
theorem Ac{t:Option Int}(h:∀ k,t=U k->1<=k/\k<=9):(tI t).length<=1002:=by
 cases t with
 | none=>exact Xa (aaf lM.2.2.2) (by decide)
 | some k=>have:=h k rfl;exact lU (by omega) (by omega)
theorem HK(h:EnS e):(kP e).length<=3100:=by
 have h1:=lU (i:=(e.g:Int)) (by omega) (by have:=h.g;omega)
 have h2:=lU (i:=e.m) (by have:=h.m0;omega) h.m1
 have h3:=Ac h.t
 have h4:=yN e.wr
 obtain⟨b1,b2,b3,b4⟩:=lM
 unfold kP
 simp only[iy]
 omega
theorem Ic{α:Type}(f:α->Nat)(k:Nat):∀ l:List α,(∀ x∈l,f x<=k)->(l.map f).sum<=l.length*k
 | [],_=>by simp
 | x::r,h=>by
  have h1:=h x (by simp)
  have h2:=Ic f k r λy hy=>h y (WB _ hy)
  rw[WO,Yi,WF,Zr]
  omega
theorem vf(ws:List Wd):((ws.map Wd.s).map (·.length)).sum+(ws.map Wd.s).length*(Str.ofString " ").length<=ws.length*7:=by
 have:=Ic (λw:Wd=>w.s.length) 6 ws λw _=>Sj w
 rw[Yt,WI,lM.1]
 show(ws.map λw=>w.s.length).sum+_<=_
 omega
theorem wn(s:Str):∀ ys:List Str,(Str.join s ys).length<=(ys.map (·.length)).sum+ys.length*s.length:=StrLaws.join_length_le s
theorem Fl(ws:List Wd):(pp ws).length<=ws.length*7:=Xa (wn _ _) (vf ws)
theorem Nb(ws:List Wd):ws.map Wd.d=(ws.map Wd.s).map D.str:=by rw[Yt];rfl
theorem KS{ws:List Wd}(h:ws.length<=100):mT (.str " ") [HG ws] S=U (.str (pp ws),S):=
 ug (ys:=ws.map Wd.s) (by show U (ws.map Wd.d)=_;rw[Nb]) (by have:=vf ws;omega)
end MI
section
set_option maxHeartbeats 4000000
namespace K49
open L2 MI
open M hiding gL Cm kL eG gu bW rM il jk aS ji gK mC ae az aF cq cn gd cD bO ie Ej kD pW af aa bB cP fA Bm aW bA cB ay du ai aL aD aX dN bJ aj bU au cj gx aH bg gY cg eD bq el mq cQ lm mY jj ei dH dM om dj cC jm
@[inline]def ic(i:Nat):tu:=PySem.Challenge.pw_manyreaders_k49_rules_and_rooms_refused.main.body.getD i (.Pass ⟨0,0,0,0⟩)
abbrev cu:tu:=ic 42
abbrev eZ:tu:=ic 45
abbrev di:tu:=ic 35
abbrev gG:tu:=ic 37
abbrev gc:tu:=ic 36
abbrev gb:tu:=ic 38
abbrev cL:tu:=ic 41
abbrev dX:tu:=ic 48
abbrev fc:tu:=ic 46
abbrev dh:tu:=ic 47
abbrev cf:tu:=ic 39
abbrev cw:tu:=ic 43
abbrev fV:tu:=ic 25
abbrev cJ:tu:=ic 30
abbrev dw:tu:=ic 29
abbrev dW:tu:=ic 4
abbrev iC:tu:=ic 3
abbrev fX:tu:=ic 12
abbrev gF:tu:=ic 1
abbrev eY:tu:=ic 2
abbrev iD:tu:=ic 14
abbrev fY:tu:=ic 13
abbrev iE:tu:=ic 11
abbrev df:tu:=ic 33
abbrev fW:tu:=ic 32
abbrev dA:tu:=ic 31
abbrev fZ:tu:=ic 44
abbrev cK:tu:=ic 40
abbrev vB:tu:=ic 49
def fu:D:=(.tup [(.str "0"),(.str "1"),(.str "2"),(.str "3"),(.str "4"),(.str "5"),(.str "6"),(.str "7"),(.str "8"),(.str "9")])
def ft:D:=(.int 9)
def fN:D:=(.int 9)
def fM:D:=(.int 999)
def dQ:D:=(.int 5)
def gA:D:=(.int 3)
def dZ:D:=(.int 5)
def gz:D:=(.tup [(.str "rows"),(.str "readers"),(.str "writers"),(.str "turns"),(.str "passes")])
def su:D:=(.tup [(.str "read"),(.str "write")])
def eO:D:=(.tup [(.str "out"),(.str "reads"),(.str "rising"),(.str "writes"),(.str "raised")])
def cX:gV:=117
abbrev Iz:tu:=QD (ic 18)
structure Txt(w:sv)(K:FA)(mg:Str->Option dn):Prop where
 q0:bS K mg "_law_rule_text" cu
 q1:bS K mg "_law_rules" eZ
 q2:bS K mg "_law_cell_at" di
 q3:bS K mg "_law_far" gG
 q4:bS K mg "_law_left" gc
 q5:bS K mg "_law_pick" gb
 q6:bS K mg "_law_any_room" cL
 q7:bS K mg "_law_spoilt" dX
 q8:bS K mg "_law_entry" fc
 q9:bS K mg "_law_room_of" dh
 qa:bS K mg "_law_same" cf
 qb:bS K mg "_law_room_text" cw
 qc:bS K mg "rule_text" fV
 qd:bS K mg "rules_by_text" cJ
 qe:bS K mg "read_rule" dw
 qf:bS K mg "is_tuple_of" dW
 qg:bS K mg "is_word" iC
 qh:bS K mg "is_within" fX
 qi:bS K mg "is_whole" gF
 qj:bS K mg "is_between" eY
 qk:bS K mg "is_wait" iD
 ql:bS K mg "are_waits" fY
 qm:bS K mg "is_room" iE
 qn:bS K mg "is_mark_text" df
 qo:bS K mg "read_wait" fW
 qp:bS K mg "read_room" dA
 qq:bS K mg "_law_read" fZ
 qr:bS K mg "_law_any_rule" cK
 qs:bS K mg "law" vB
 qt:mg "all" = Y
 qu:mg "bool" = Y
 qv:mg "dict" = Y
 qw:mg "int" = Y
 qx:mg "isinstance" = Y
 qy:mg "len" = Y
 qz:mg "list" = Y
 qA:mg "max" = Y
 qB:mg "min" = Y
 qC:mg "range" = Y
 qD:mg "set" = Y
 qE:mg "str" = Y
 qF:mg "tuple" = Y
 qG:mg "zip" = Y
 qH:GC K mg "FIGURES" fu
 qI:GC K mg "GREATEST_K" ft
 qJ:GC K mg "GREATEST_LEFT" fN
 qK:GC K mg "GREATEST_MARK" fM
 qL:GC K mg "GREATEST_MOST" dQ
 qM:GC K mg "MOST_FIGURES" gA
 qN:GC K mg "MOST_GUESTS" dZ
 qO:GC K mg "RULE_WORDS" gz
 qP:GC K mg "WANTS" su
 qQ:GC K mg "WITHIN_WORDS" eO
 qR:∀ P base,Bi P w K mg base "NoText" cX "row"
 qS:Bk K mg "GuestError" cX
 qT:ClsOk K mg "NoDeed" cX false
 qU:ClsOk K mg "NoLine" cX false
 qV:ClsOk K mg "NoText" cX true
 qW:ClsOk K mg "TooMany" cX false
 qX:ClsOk K mg "ValueError" cX true
 qY:uD K cX "row"
 qZ:mg "read_rule" = U (.ref 159)
 z0:mg "read_room" = U (.ref 169)
section
local macro_rules|`(tactic|symm)=>`(tactic|(intro _ _ _ _ _ _;repeat (first|exact mV rfl|(refine jd ?_;intro _))))
variable{P:pr}{w:sv}{K:FA}{mg:Str->Option dn}{base:wo}
def dm:List Str:=["_law_rule","_law_word","_law_most","_law_times","_law_ups","_law_text"]
def jD:List (Str×GI):=[("str",.blt),("int",.blt)]
def bj:=bv dm (kN (mf dm cu jD [200158,200159]) (aE cu)) 1
theorem nI:aN dm ["_law_rule"] (ar cu):=by ac_rfl
theorem jh(T:Txt w K mg):Fn P w K mg base 1 "_law_rule_text" 1 bj:=
 bE (gs:=jD) T.q0 nI (by symm) ⟨T.qE,T.qw,trivial⟩
def gC:List Str:=["_law_found","_law_word","_law_times","_law_most","_law_ups"]
def oJ:List (Str×GI):=[("range",.blt),("int",.blt),("_law_rule_text",.fn 1 bj)]
def dI:=bv gC (kN (mf gC eZ oJ [178,600000]) (aE eZ)) 0
theorem uI:aN gC [] (ar eZ):=by ac_rfl
theorem uO(T:Txt w K mg):Fn P w K mg base 2 "_law_rules" 0 dI:=
 bE (gs:=oJ) T.q1 uI (by symm) ⟨T.qC,T.qw,(jh T).up,trivial⟩
def eV:List Str:=["_law_script","_law_k"]
def lA:List (Str×GI):=[("len",.blt)]
def eL:=bv eV (kN (mf eV di lA []) (aE di)) 2
theorem rC:aN eV ["_law_script","_law_k"] (ar di):=by ac_rfl
theorem rH(T:Txt w K mg):Fn P w K mg base 1 "_law_cell_at" 2 eL:=
 bE (gs:=lA) T.q2 rC (by symm) ⟨T.qy,trivial⟩
def jc:List Str:=["_law_far_here","_law_k"]
def tZ:List (Str×GI):=[("range",.blt)]
def iW:=bv jc (kN (mf jc gG tZ []) (aE gG)) 0
theorem zg:aN jc [] (ar gG):=by ac_rfl
theorem zt(T:Txt w K mg):Fn P w K mg base 1 "_law_far" 0 iW:=
 bE (gs:=tZ) T.q3 zg (by symm) ⟨T.qC,trivial⟩
def ib:List Str:=["_law_script","_law_k","_law_cell","_law_seed"]
def qU:List (Str×GI):=[("_law_cell_at",.fn 2 eL),("max",.blt),("_law_far",.fn 0 iW),("len",.blt)]
def gh:=bv ib (kN (mf ib gc qU [109]) (aE gc)) 2
theorem xC:aN ib ["_law_script","_law_k"] (ar gc):=by ac_rfl
theorem xN(T:Txt w K mg):Fn P w K mg base 2 "_law_left" 2 gh:=
 bE (gs:=qU) T.q4 xC (by symm) ⟨(rH T).up,T.qA,(zt T).up,T.qy,trivial⟩
def jn:List Str:=["_law_left_here","_law_many","_law_digit"]
def qT:List (Str×GI):=[]
def aw:=bv jn (kN (mf jn gb qT []) (aE gb)) 2
theorem xB:aN jn ["_law_left_here","_law_many"] (ar gb):=by ac_rfl
theorem ip(T:Txt w K mg):Fn P w K mg base 1 "_law_pick" 2 aw:=
 bE (gs:=qT) T.q5 xB (by symm) trivial
def dU:List Str:=["_law_left_here","_law_n","_law_within","_law_guest","_law_waits","_law_mark","_law_rest","_law_entry_here"]
def kJ:List (Str×GI):=[("range",.blt),("tuple",.blt),("_law_pick",.fn 2 aw),("len",.blt)]
def cN:=bv dU (kN (mf dU cL kJ [145,148]) (aE cL)) 2
theorem pI:aN dU ["_law_left_here","_law_n"] (ar cL):=by ac_rfl
theorem pN(T:Txt w K mg):Fn P w K mg base 2 "_law_any_room" 2 cN:=
 bE (gs:=kJ) T.q6 pI (by symm) ⟨T.qC,T.qF,(ip T).up,T.qy,trivial⟩
def fK:List Str:=["_law_left_here","_law_text","_law_words","_law_at","_law_spot","_law_sign","_law_other","_law_some"]
def mR:List (Str×GI):=[("_law_pick",.fn 2 aw),("list",.blt),("len",.blt)]
def bP:=bv fK (kN (mf fK dX mR [210208,992000,993000,994000]) (aE dX)) 2
theorem sJ:aN fK ["_law_left_here","_law_text"] (ar dX):=by ac_rfl
theorem sS(T:Txt w K mg):Fn P w K mg base 2 "_law_spoilt" 2 bP:=
 bE (gs:=mR) T.q7 sJ (by symm) ⟨(ip T).up,T.qz,T.qy,trivial⟩
def fv:List Str:=["_law_within","_law_words"]
def oK:List (Str×GI):=[("int",.blt),("len",.blt),("list",.blt)]
def cT:=bv fv (kN (mf fv fc oK [960000,980000,993000]) (aE fc)) 2
theorem uJ:aN fv ["_law_within","_law_words"] (ar fc):=by ac_rfl
theorem uP(T:Txt w K mg):Fn P w K mg base 1 "_law_entry" 2 cT:=
 bE (gs:=oK) T.q8 uJ (by symm) ⟨T.qw,T.qy,T.qz,trivial⟩
def eU:List Str:=["_law_text","_law_parts","_law_within","_law_waits"]
def lz:List (Str×GI):=[("tuple",.blt),("_law_entry",.fn 2 cT),("len",.blt),("all",.blt),("set",.blt)]
def dk:=bv eU (kN (mf eU dh lz []) (aE dh)) 1
theorem rB:aN eU ["_law_text"] (ar dh):=by ac_rfl
theorem rG(T:Txt w K mg):Fn P w K mg base 2 "_law_room_of" 1 dk:=
 bE (gs:=lz) T.q9 rB (by symm) ⟨T.qF,(uP T).up,T.qy,T.qt,T.qD,trivial⟩
def N__law_same:List Str:=["_law_found","_law_due","_law_keys"]
def ge:List (Str×GI):=[("isinstance",.blt),("dict",.blt),("str",.blt),("all",.blt),("list",.blt),("tuple",.blt),("bool",.blt),("int",.blt),("len",.blt),("zip",.blt)]
def gq:=IK N__law_same cf ge [] "_law_same" 2
def cS:=gq 8
theorem xO:N__law_same.Nodup:=by decide +kernel
theorem xz:aN N__law_same ["_law_found","_law_due"] (ar cf):=⟨rfl,rfl,rfl,xO,rfl,by decide +kernel,by decide +kernel⟩
theorem xL(T:Txt w K mg):Fn P w K mg base 9 "_law_same" 2 cS:=
 IJ (gs:=ge) (k:=0) T.qa xz (λ_ _ _ _ _ _=>jd λ_=>jd λ_=>mV rfl) ⟨T.qx,T.qv,T.qE,T.qt,T.qz,T.qF,T.qu,T.qw,T.qy,T.qG,trivial⟩ 8
def dq:List Str:=["_law_room","_law_text","_law_guest","_law_want","_law_mark","_law_rest"]
def jE:List (Str×GI):=[("int",.blt),("str",.blt)]
def cx:=bv dq (kN (mf dq cw jE [200163]) (aE cw)) 1
theorem nJ:aN dq ["_law_room"] (ar cw):=by ac_rfl
theorem nM(T:Txt w K mg):Fn P w K mg base 1 "_law_room_text" 1 cx:=
 bE (gs:=jE) T.qb nJ (by symm) ⟨T.qw,T.qE,trivial⟩
def hV:List Str:=["rule","word","most","k","ups","parts"]
def qO:List (Str×GI):=[("str",.blt)]
def eJ:=bv hV (kN (mf hV fV qO [58]) (aE fV)) 1
theorem xt:aN hV ["rule"] (ar fV):=by ac_rfl
theorem xI(T:Txt w K mg):Fn P w K mg base 1 "rule_text" 1 eJ:=
 bE (gs:=qO) T.qc xt (by symm) ⟨T.qE,trivial⟩
def dR:List Str:=["rules"]
def kG:List (Str×GI):=[("RULE_WORDS",.con gz),("rule_text",.fn 1 eJ),("range",.blt),("GREATEST_MOST",.con dQ),("GREATEST_K",.con ft)]
def cm:=bv dR (kN (mf dR cJ kG []) (aE cJ)) 0
theorem pG:aN dR [] (ar cJ):=by ac_rfl
theorem jy(T:Txt w K mg):Fn P w K mg base 2 "rules_by_text" 0 cm:=
 bE (gs:=kG) T.qd pG (by symm) ⟨T.qO,(xI T).up,T.qC,T.qL,T.qI,trivial⟩
def cV:List Str:=["text","rule"]
def lv:List (Str×GI):=[("isinstance",.blt),("str",.blt),("rules_by_text",.fn 0 cm)]
theorem nG:aN cV ["text"] (ar dw):=by ac_rfl
def oE:List (Str×GI):=("NoText",.rse cX "row")::lv
def fo:=pJ cV (Lc cX "row" (Wg cV dw oE []) (aE dw)) 1
theorem uL(T:Txt w K mg):FnY P w K mg base 3 "read_rule" 1 fo cX "row":=
 HV T.qe nG (λ_ _ _ _ _ _=>jd λ_=>mV rfl) (GKs.mem (gs:=oE) ⟨⟨by decide,T.qR _ _⟩,T.qx,T.qE,(jy T).up,trivial⟩)
def ee:List Str:=["thing","many"]
def mQ:List (Str×GI):=[("isinstance",.blt),("tuple",.blt),("len",.blt)]
def bu:=bv ee (kN (mf ee dW mQ []) (aE dW)) 2
theorem sI:aN ee ["thing","many"] (ar dW):=by ac_rfl
theorem iN(T:Txt w K mg):Fn P w K mg base 1 "is_tuple_of" 2 bu:=
 bE (gs:=mQ) T.qf sI (by symm) ⟨T.qx,T.qF,T.qy,trivial⟩
def jL:List Str:=["thing","words"]
def wp:List (Str×GI):=[("isinstance",.blt),("str",.blt)]
def dY:=bv jL (kN (mf jL iC wp []) (aE iC)) 2
theorem BB:aN jL ["thing","words"] (ar iC):=by ac_rfl
theorem sQ(T:Txt w K mg):Fn P w K mg base 1 "is_word" 2 dY:=
 bE (gs:=wp) T.qg BB (by symm) ⟨T.qx,T.qE,trivial⟩
def hZ:List Str:=["n","thing"]
def qQ:List (Str×GI):=[("is_tuple_of",.fn 2 bu),("all",.blt),("is_word",.fn 2 dY),("WITHIN_WORDS",.con eO)]
def gf:=bv hZ (kN (mf hZ fX qQ []) (aE fX)) 2
theorem xx:aN hZ ["n","thing"] (ar fX):=by ac_rfl
theorem xJ(T:Txt w K mg):Fn P w K mg base 2 "is_within" 2 gf:=
 bE (gs:=qQ) T.qh xx (by symm) ⟨(iN T).up,T.qt,(sQ T).up,T.qQ,trivial⟩
def jb:List Str:=["thing"]
def tX:List (Str×GI):=[("isinstance",.blt),("int",.blt),("bool",.blt)]
def iV:=bv jb (kN (mf jb gF tX []) (aE gF)) 1
theorem zf:aN jb ["thing"] (ar gF):=by ac_rfl
theorem zr(T:Txt w K mg):Fn P w K mg base 1 "is_whole" 1 iV:=
 bE (gs:=tX) T.qi zf (by symm) ⟨T.qx,T.qw,T.qu,trivial⟩
def gB:List Str:=["thing","low","high"]
def oI:List (Str×GI):=[("is_whole",.fn 1 iV)]
def bZ:=bv gB (kN (mf gB eY oI []) (aE eY)) 3
theorem uH:aN gB ["thing","low","high"] (ar eY):=by ac_rfl
theorem uN(T:Txt w K mg):Fn P w K mg base 2 "is_between" 3 bZ:=
 bE (gs:=oI) T.qj uH (by symm) ⟨(zr T).up,trivial⟩
def jM:List Str:=["within","thing","guest","want","mark","left"]
def wq:List (Str×GI):=[("is_tuple_of",.fn 2 bu),("is_between",.fn 3 bZ),("GREATEST_LEFT",.con fN),("is_word",.fn 2 dY),("WANTS",.con su),("GREATEST_MARK",.con fM),("len",.blt)]
def iH:=bv jM (kN (mf jM iD wq []) (aE iD)) 2
theorem BC:aN jM ["within","thing"] (ar iD):=by ac_rfl
theorem BP(T:Txt w K mg):Fn P w K mg base 3 "is_wait" 2 iH:=
 bE (gs:=wq) T.qk BC (by symm) ⟨(iN T).up,(uN T).up,T.qJ,(sQ T).up,T.qP,T.qK,T.qy,trivial⟩
def ia:List Str:=["within","thing","guests"]
def qR:List (Str×GI):=[("len",.blt),("isinstance",.blt),("tuple",.blt),("all",.blt),("set",.blt),("is_wait",.fn 2 iH)]
def hJ:=bv ia (kN (mf ia fY qR []) (aE fY)) 2
theorem xy:aN ia ["within","thing"] (ar fY):=by ac_rfl
theorem xK(T:Txt w K mg):Fn P w K mg base 4 "are_waits" 2 hJ:=
 bE (gs:=qR) T.ql xy (by symm) ⟨T.qy,T.qx,T.qF,T.qt,T.qD,(BP T).up,trivial⟩
def jN:List Str:=["n","thing","within","waits"]
def wu:List (Str×GI):=[("is_tuple_of",.fn 2 bu),("is_within",.fn 2 gf),("are_waits",.fn 2 hJ)]
def gN:=bv jN (kN (mf jN iE wu []) (aE iE)) 2
theorem BD:aN jN ["n","thing"] (ar iE):=by ac_rfl
theorem sR(T:Txt w K mg):Fn P w K mg base 5 "is_room" 2 gN:=
 bE (gs:=wu) T.qm BD (by symm) ⟨(iN T).up,(xJ T).up,(xK T).up,trivial⟩
def eQ:List Str:=["text"]
def ly:List (Str×GI):=[("MOST_FIGURES",.con gA),("all",.blt),("len",.blt),("FIGURES",.con fu)]
def eK:=bv eQ (kN (mf eQ df ly [970000,980000]) (aE df)) 1
theorem rA:aN eQ ["text"] (ar df):=by ac_rfl
theorem rE(T:Txt w K mg):Fn P w K mg base 1 "is_mark_text" 1 eK:=
 bE (gs:=ly) T.qn rA (by symm) ⟨T.qM,T.qt,T.qy,T.qH,trivial⟩
def hX:List Str:=["text","parts","guest","want","mark","left"]
def qP:List (Str×GI):=[("len",.blt),("FIGURES",.con fu),("int",.blt),("is_mark_text",.fn 1 eK)]
def dC:=bv hX (kN (mf hX fW qP [960000,975000]) (aE fW)) 1
theorem xu:aN hX ["text"] (ar fW):=by ac_rfl
theorem nL(T:Txt w K mg):Fn P w K mg base 2 "read_wait" 1 dC:=
 bE (gs:=qP) T.qo xu (by symm) ⟨T.qy,T.qH,T.qw,(rE T).up,trivial⟩
def cW:List Str:=["text","words","entries","within","room"]
def lx:List (Str×GI):=[("tuple",.blt),("isinstance",.blt),("str",.blt),("MOST_GUESTS",.con dZ),("len",.blt),("is_room",.fn 2 gN),("read_wait",.fn 1 dC)]
theorem nH:aN cW ["text"] (ar dA):=by ac_rfl
def oF:List (Str×GI):=("NoText",.rse cX "row")::lx
def fq:=pJ cW (Lc cX "row" (Wg cW dA oF []) (aE dA)) 1
theorem uM(T:Txt w K mg):FnY P w K mg base 6 "read_room" 1 fq cX "row":=
 HV T.qp nH (λ_ _ _ _ _ _=>jd λ_=>mV rfl) (GKs.mem (gs:=oF) ⟨⟨by decide,T.qR _ _⟩,T.qF,T.qx,T.qE,T.qN,T.qy,(sR T).up,(nL T).up,trivial⟩)
def hF:List (gV×Nat×(List D->ac->Option RY)):=[(159,1,fo),(169,1,fq)]
def gj:List Str:=["_law_reader","_law_thing","_law_caught","_law_found","e"]
def qS:List (Str×GI):=[("try",.thf "_law_reader" hF cX "row"),("GuestError",.hnd cX),("NoDeed",.cls cX false),("NoLine",.cls cX false),("TooMany",.cls cX false),("ValueError",.cls cX true),("NoText",.cls cX true),(".",.fld cX "row"),("isinstance",.blt)]
def bo:=bv gj (kN (mf gj fZ qS []) (aE fZ)) 2
theorem xA:aN gj ["_law_reader","_law_thing"] (ar fZ):=by ac_rfl
theorem xM(T:Txt w K mg):Fn P w K mg base 7 "_law_read" 2 bo:=
 bE (gs:=qS) T.qq xA (by symm) ⟨(And.intro (((uL T).at T.qZ).up (by decide)) (And.intro (((uM T).at T.z0).up (by decide)) trivial)),T.qS,T.qT,T.qU,T.qW,T.qX,T.qV,T.qY,T.qx,trivial⟩
def dS:List Str:=["_law_left_here","_law_word","_law_most","_law_times"]
def kH:List (Str×GI):=[("_law_pick",.fn 2 aw),("int",.blt)]
def cM:=bv dS (kN (mf dS cK kH []) (aE cK)) 1
theorem pH:aN dS ["_law_left_here"] (ar cK):=by ac_rfl
theorem pM(T:Txt w K mg):Fn P w K mg base 2 "_law_any_rule" 1 cM:=
 bE (gs:=kH) T.qr pH (by symm) ⟨(ip T).up,T.qw,trivial⟩
def Bj:List Str:=["_law_script","_law_rules_here","_law_k","_law_left_here","_law_room","_law_turn","_law_text","_law_due","_law_thing"]
def RM:List (Str×GI):=[("_law_rules",.fn 0 dI),("range",.blt),("_law_left",.fn 2 gh),("_law_any_room",.fn 2 cN),("min",.blt),("_law_spoilt",.fn 2 bP),("_law_room_of",.fn 1 dk),("len",.blt),("_law_pick",.fn 2 aw),("_law_rule_text",.fn 1 bj),("_law_same",.fn 2 cS),("_law_room_text",.fn 1 cx),("_law_read",.fn 2 bo),("read_rule",.con (.fn 159)),("read_room",.con (.fn 169)),("_law_any_rule",.fn 1 cM)]
def AG:=bv Bj (kN (mf Bj vB RM []) (aE vB)) 1
theorem SK:aN Bj ["_law_script"] (ar vB):=by ac_rfl
theorem Vj(T:Txt w K mg):GKs P w K mg base 9 RM:=⟨(uO T).up,T.qC,(xN T).up,(pN T).up,T.qB,(sS T).up,(rG T).up,T.qy,(ip T).up,(jh T).up,(xL T).up,(nM T).up,(xM T).up,⟨_,.ref 159,T.qZ,rfl,λ_ _=>.fn _⟩,⟨_,.ref 169,T.z0,rfl,λ_ _=>.fn _⟩,(pM T).up,trivial⟩
end
theorem Wl{l:W.OpenLaw}{K:FA}(X:K.In h)(G:h.Ns Cn mg)(hfa:mg "law" = U (.ref fa))(T:Txt w K mg) :
  ∃ fd:FuncData,(∀ (s:gw) (v:dn),BindsTo s fd ⟨[v],[]⟩ [("_law_script",v)])/\∀ base:wo,K.In base->base.Ns Cn mg->FnOk l.prog w K mg base Bn 10 fa fd ["_law_script"] (Hx K 1 AG):=
 Uv T.qs hfa SK (λ_ _ _ _ _ _ _=>rfl) λbase=>Vj T
theorem walk{l:W.OpenLaw}{YP:sv->wo->Prop}{d:DefRec}{K:Params->FA}(hn:l.most=U 63)(hdf:d.params.defaults=[])(hnm:d.name = "law")
  (hY:∀ (w:sv) (h:wo),YP w h->(K w.params).In h) (hlaw:∀ ns:List Int,ns.length<=63->∃ S',AG [.rol (ns.map .int)] []=U (.bl true,S'))
  (F:∀ (w:sv) (mg:Str->Option dn) (h:wo),(K w.params).In h->h.Ns Cn mg->Txt w (K w.params) mg) :
  W.WalkO q loose XP YP l.row.toRowW d [] (λf vs=>PySem.call f vs):=
 L2.Nd (n:=63) (k:=10) (x:="_law_script") (CX:=λ_=>Bn) (sp:=λw=>Hx (K w.params) 1 AG) hn (by decide) hdf ⟨rfl,by decide,by decide⟩ hY
  (λw mg fa h KX G hmg=>Wl KX G (hnm ▸ hmg) (F w mg h KX G)) (λ_ _ a ns hl _ hS=>Ut hlaw hl hS) λ_ _ _ _ _ z=>z
end K49
end
section
set_option maxHeartbeats 4000000
namespace K49
open L2 MI
open M hiding gL Cm kL eG gu bW rM il jk aS ji gK mC ae az aF cq cn gd cD bO ie Ej kD pW af aa bB cP fA Bm aW bA cB ay du ai aL aD aX dN bJ aj bU au cj gx aH bg gY cg eD bq el mq cQ lm mY jj ei dH dM om dj cC jm
def jz:MS:=
 aD (aH '0' (cj 4 (au 'a' (au 'b' (au 'c' (au 'd' bU)))))) (aD (aH (az bI (az bI '1' (az mS (!" ") (ay (ak iX) (aa (az jG '1' (!"passes")) af)))) (az mS (ay (ak dP) (aa '3' af)) (ay (ak iX) (aa (az jG '1' (!"passes")) af)))) 'e') (aX (az bI (az bI '5' (az mS (az bI (!" most ") (ay (ak dP) (aa '2' af))) (ay (ak iX) (aa (az CJ '2' 0e0) af)))) (az mS (!" ups") '4'))))
theorem nQ:bj=bv dm jz 1:=pi rfl
def nW:MS:=
 aD (aH (ei []) '`') (aD (dM (bB (aa (!"rows") (aa (!"readers") (aa (!"writers") (aa (!"turns") (aa (!"passes") af)))))) 'a' (gY (bg (aa (az bz (cP (aa 1e0 (aa 10e0 af))) (ay (ak iX) (aa (az jG '1' (!"passes")) af))) af)) 'b' (gY (bg (aa 6e0 af)) 'c' (dM (bB (aa 0e0 (aa 1e0 af))) 'd' (aH (bB (aa '1' (aa '3' (aa '2' (aa '4' af))))) (jm '0' (ai 1 bj (aa (bB (aa '1' (aa '3' (aa '2' (aa '4' af))))) af)))))))) (aX '0'))
theorem uR:dI=bv gC nW 0:=pi rfl
def tf:MS:=
 lQ
theorem rL:eL=bv eV tf 2:=pi rfl
def Ce:MS:=
 Cq
theorem zE:iW=bv jc Ce 0:=pi rfl
def zK:MS:=
 se eL iW
theorem xW:gh=bv ib zK 2:=pi rfl
def zJ:MS:=
 sd
theorem xV:aw=bv jn zJ 2:=pi rfl
def kA:MS:=
 aD (aH (fA af) 'b') (aD (gY (bg (aa '1' af)) 'c' (dN (el cU '2' (aa (az bz (cP (aa (!"out") (aa (!"out") (aa (!"out") (aa (!"reads") (aa (!"rising") (aa (!"writes") (aa (!"raised") af)))))))) (ai 2 aw (aa '0' (aa 7e0 af)))) af)))) (aD (aH (fA af) 'd') (aD (dM (cg (bg (aa '1' af)) '`' (aF (az jG (az bz '1' '0') (!"out"))) '0' [Y,U 2]) 'c' (aD (aH (az bz (cP (aa 0e0 (aa 0e0 (aa 1e0 (aa 9e0 (aa 10e0 (aa 99e0 (aa 100e0 (aa 999e0 af))))))))) (ai 2 aw (aa '0' (aa 8e0 af)))) 'e') (aD (aH (az bz (cP (aa (mC .non) (aa (mC .non) (aa 1e0 (aa 9e0 (aa (az be 1e0 (ai 2 aw (aa '0' (aa 9e0 af)))) af)))))) (ai 2 aw (aa '0' (aa 5e0 af)))) 'f') (bJ (aF (az CJ (ai 2 aw (aa '0' (aa 4e0 af))) 0e0)) (aD (aH (bB (aa '3' (aa (az bz (cP (aa (!"read") (aa (!"write") af))) (ai 2 aw (aa '0' (aa 2e0 af)))) (aa '5' (aa '6' af))))) 'g') (dN (el gW '4' (aa (ai 2 aw (aa '0' (aa (az be (ay (ak bT) (aa '4' af)) 1e0) af))) (aa '7' af))))) aL)))) (aX (bB (aa (ay (ak (em .tup)) (aa '2' af)) (aa (ay (ak (em .tup)) (aa '4' af)) af)))))))
theorem pS:cN=bv dU kA 2:=pi rfl
def mL:MS:=
 aD (aH (bW '1' (aa (!" ") af)) 'b') (aD (lm 3 4 (aa (ai 2 aw (aa '0' (aa (az be (ay (ak bT) (aa '1' af)) 1e0) af))) (aa (ai 2 aw (aa '0' (aa (ay (ak bT) (aa '2' af)) af))) af))) (aD (aH (az bz (ay (ak fU) (aa (!"0123459 ,-ak\n") af)) (ai 2 aw (aa '0' (aa 13e0 af)))) 'e') (aD (aH (cP (aa (!"most") (aa (!"ups") (aa (!"0") (aa (!"9") (aa (!"10") (aa (!"01") (aa (!"6") (aa (!"-") (aa (!"out") (aa (!"reads,") (aa (!"read") (aa (!"passes") (aa (!"rows") (aa (!"") af))))))))))))))) 'f') (aD (aH (az bz '6' (ai 2 aw (aa '0' (aa 14e0 af)))) 'f') (aD (aH (cP (aa (az er (aS '1' aW (bA '3')) (aS '1' (bA (az er '3' 1e0)) aW)) (aa (az er (az er (aS '1' aW (bA '3')) '5') (aS '1' (bA '3') aW)) (aa (az er (az er (aS '1' aW (bA '3')) '5') (aS '1' (bA (az er '3' 1e0)) aW)) af)))) 'g') (aD (aH (az be '7' (cP (aa (cC (!" ") (aa (az be (az be (aS '2' aW (bA '4')) (cP (aa '6' af))) (aS '2' (bA (az be '4' 1e0)) aW)) af)) (aa (cC (!" ") (aa (az be (aS '2' aW (bA '4')) (aS '2' (bA (az be '4' 1e0)) aW)) af)) af)))) 'g') (aD (aH (az be '7' (cP (aa (cC (!" ") (aa (az be (aS '2' aW (bA (az be '4' 1e0))) (aS '2' (bA '4') aW)) af)) (aa (cC (!" ") (aa (az be (aS '2' aW (bA '4')) (ji (aS '2' (bA '4') aW) (bA (Bm KM 1e0)))) af)) (aa (gK '1') af))))) 'g') (aX (az bz '7' (ai 2 aw (aa '0' (aa 8e0 af))))))))))))
theorem sY:bP=bv fK mL 2:=pi rfl
def nX:MS:=
 aD (bJ (cD (aF (az mw (ay (ak bT) (aa '1' af)) 4e0)) (cD (aF (az ej (az cH '1' 1e0) (bB (aa (!"read") (aa (!"write") af))))) (aF (az ej (az cH '1' 3e0) (ay (ak fU) (aa (!"-123456789") af)))))) (aX (mC .non)) aL) (aD (bJ (cD (aF (az ej (az cH '1' 0e0) (cB (ay (ak fU) (aa (!"01234") af)) aW (bA (ay (ak bT) (aa '0' af)))))) (aF (az mw (az cH '0' (ay (ak fJ) (aa (az cH '1' 0e0) af))) (!"out")))) (aX (mC .non)) aL) (aD (bJ (cD (bO (aF (cq KP KP 0e0 (ay (ak bT) (aa (az cH '1' 2e0) af)) 4e0))) (cD (aF (az mw (gL (az cH '1' 2e0) (aa (!"0123456789") af)) (!""))) (gd (aF (az jG (az cH (az cH '1' 2e0) 0e0) (!"0"))) (aF (az mw (az cH '1' 2e0) (!"0")))))) (aX (mC .non)) aL) (aX (bB (aa (ay (ak fJ) (aa (az cH '1' 0e0) af)) (aa (az cH '1' 1e0) (aa (ay (ak fJ) (aa (az cH '1' 2e0) af)) (aa (pW (aF (az jG (az cH '1' 3e0) (!"-"))) (mC .non) (ay (ak fJ) (aa (az cH '1' 3e0) af))) af))))))))
theorem mK:cT=bv fv nX 2:=pi rfl
def lg:MS:=
 aD (aH (bW '0' (aa (!", ") af)) 'a') (aD (aH (ay (ak (em .tup)) (aa (bW (az bz '1' 0e0) (aa (!" ") af)) af)) 'b') (aD (bJ (cD (aF (az CJ (ay (ak bT) (aa '2' af)) 5e0)) (bO (cn (ay (ak mx) (aa (cg (eD '2') '`' bq (az yJ '0' (bB (aa (!"out") (aa (!"reads") (aa (!"rising") (aa (!"writes") (aa (!"raised") af))))))) [Y]) af))))) (aX (mC .non)) aL) (aD (aH (cg (eD (cB '1' (bA 1e0) aW)) '`' bq (ai 2 cT (aa '1' (aa (bW '0' (aa (!" ") af)) af))) [Y,U 2]) 'c') (aD (bJ (cD (aF (az yJ (mC .non) '3')) (aF (az KP (cQ (aa (cg (eD '3') '`' bq (az bz '0' 0e0) [Y]) af)) (ay (ak bT) (aa '3' af))))) (aX (mC .non)) aL) (aX (bB (aa '2' (aa (ay (ak (em .tup)) (aa '3' af)) af))))))))
theorem rK:dk=bv eU lg 1:=pi rfl
def qI(cS:List D->ac->Option (D×ac)):MS:=
 jW cS
theorem xU(j:Nat):gq (j+1)=bv N__law_same (qI (gq j)) 2:=by
 unfold gq
 show bv N__law_same (kN (mf N__law_same cf (("_law_same",.fn 2 (IK N__law_same cf ge [] "_law_same" 2 j))::ge) []) (aE cf)) 2=_
 generalize IK N__law_same cf ge [] "_law_same" 2 j=F
 rw[show kN (mf N__law_same cf (("_law_same",.fn 2 F)::ge) []) (aE cf)=qI F from rfl]
def jA:MS:=
 aD (aH (cC (!" ") (aa (az bz '0' 0e0) af)) 'a') (aD (dM (az bz '0' 1e0) (cj 4 (au 'b' (au 'c' (au 'd' (au 'e' bU))))) (aH (az bI (az bI (az bI (az bI (az bI (az bI (az bI (az bI '1' (!", ")) (ay (ak dP) (aa '2' af))) (!" ")) '3') (!" ")) (ay (ak dP) (aa '4' af))) (!" ")) (az bz (cP (aa (!"-") (aa (ay (ak dP) (aa '5' af)) af))) (ay (ak iX) (aa (az nr '5' (mC .non)) af)))) 'a')) (aX '1'))
theorem nR:cx=bv dq jA 1:=pi rfl
def qE:MS:=
 aD (aH '0' (cj 4 (au 'a' (au 'b' (au 'c' (au 'd' bU)))))) (aD (aH (fA (aa '1' af)) 'e') (aD (bJ (aF (az jG '1' (!"passes"))) (dN (el cU '5' (aa (ay (ak dP) (aa '3' af)) af))) aL) (aD (bJ (aF (az mw '2' 0e0)) (dN (el cU '5' (aa (dj [mC (.str "most "),om '2'] Str.empty) af))) aL) (aD (bJ (aF (az jG '4' 1e0)) (dN (el cU '5' (aa (!"ups") af))) aL) (aX (cC (!" ") (aa '5' af)))))))
theorem xQ:eJ=bv hV qE 1:=pi rfl
def ko:MS:=
 aD (aH (eG (eD (mC gz)) '`' bq (kL (bg (aa (az be (mC dQ) 1e0) af)) 'a' bq (kL (bg (aa (pW (aF (az jG '0' (!"passes"))) (az be (mC ft) 1e0) 1e0) af)) 'b' bq (kL (eD (bB (aa 0e0 (aa 1e0 af)))) 'c' bq (Cm (bB (aa '0' (aa '1' (aa '2' (aa '3' af))))))))) [Y,Y,Y,Y]) '`') (aX (gu (eD '0') '`' bq (ai 1 eJ (aa '0' af)) '0' [Y]))
theorem pQ:cm=bv dR ko 0:=pi rfl
def nN:MY:=
 fz (pj (aH (pW (cn (du "str" '0')) (dH lC (ai 0 cm af) (aa '0' af)) (mC .non)) 'a')) (fz (uS (aF (az ET '1' (mC .non))) (gU (mC .non)) (pj aL)) (pj (aX '1')))
theorem mI:fo=pJ cV nN 1:=meY rfl
def jp:MS:=
 aX (ie (du "tuple" '0') (az jG (ay (ak bT) (aa '0' af)) '1'))
theorem lb:bu=bv ee jp 2:=pi rfl
def vO:MS:=
 aX (ie (du "str" '0') (az yJ '0' '1'))
theorem BX:dY=bv jL vO 2:=pi rfl
def qG:MS:=
 aX (ie (ai 2 bu (aa '1' (aa '0' af))) (ay (ak mx) (aa (cg (eD '1') '`' bq (ai 2 dY (aa '0' (aa (mC eO) af))) [Y]) af)))
theorem xS:gf=bv hZ qG 2:=pi rfl
def sZ:MS:=
 aX (ie (du "int" '0') (kD (du "bool" '0')))
theorem zD:iV=bv jb sZ 1:=pi rfl
def jU:MS:=
 aX (ie (ai 1 iV (aa '0' af)) (cq Ps Ps '1' '0' '2'))
theorem uQ:bZ=bv gB jU 3:=pi rfl
def pU:MS:=
 aD (bJ (bO (cn (ai 2 bu (aa '1' (aa 4e0 af))))) (aX (mC (.bl false))) aL) (aD (aH '1' (cj 4 (au 'b' (au 'c' (au 'd' (au 'e' bU)))))) (aD (bJ (cD (bO (cn (ai 3 bZ (aa '2' (aa 0e0 (aa (az Po (ay (ak bT) (aa '0' af)) 1e0) af)))))) (aF (az mw (az bz '0' '2') (!"out")))) (aX (mC (.bl false))) aL) (aD (bJ (cD (bO (cn (ai 2 dY (aa '3' (aa (mC su) af))))) (bO (cn (ai 3 bZ (aa '4' (aa 0e0 (aa (mC fM) af))))))) (aX (mC (.bl false))) aL) (aX (Ej (az ET '5' (mC .non)) (ai 3 bZ (aa '5' (aa 1e0 (aa (mC fN) af)))))))))
theorem BY:iH=bv jM pU 2:=pi rfl
def qH:MS:=
 aD (bJ (cD (bO (cn (du "tuple" '1'))) (bO (cn (ay (ak mx) (aa (cg (eD '1') '`' bq (ai 2 iH (aa '1' (aa '0' af))) [Y,U 0]) af))))) (aX (mC (.bl false))) aL) (aD (aH (cg (eD '1') '`' bq (az bz '0' 0e0) [Y]) 'b') (aX (az jG (cQ (aa '2' af)) (ay (ak bT) (aa '2' af)))))
theorem xT:hJ=bv ia qH 2:=pi rfl
def vP:MS:=
 aD (bJ (bO (cn (ai 2 bu (aa '1' (aa 2e0 af))))) (aX (mC (.bl false))) aL) (aD (aH '1' (cj 2 (au 'b' (au 'c' bU)))) (aX (ie (ai 2 gf (aa '0' (aa '2' af))) (ai 2 hJ (aa '2' (aa '3' af))))))
theorem BZ:gN=bv jN vP 2:=pi rfl
def lf:MS:=
 aD (bJ (cD (bO (aF (cq Ps Ps 1e0 (ay (ak bT) (aa '0' af)) (mC gA)))) (bO (cn (ay (ak mx) (aa (cg (rM '0') '`' bq (az yJ '0' (mC fu)) [Y]) af))))) (aX (mC (.bl false))) aL) (aX (Ej (az jG '0' (!"0")) (az mw (az cH '0' 0e0) (!"0"))))
theorem rJ:eK=bv eQ lf 1:=pi rfl
def qF:MS:=
 aD (aH (bW '0' (aa (!" ") af)) 'a') (aD (bJ (aF (az mw (ay (ak bT) (aa '1' af)) 4e0)) (aX (mC .non)) aL) (aD (aH '1' (jk 4 (au 'b' (au 'c' (au 'd' (au 'e' bU)))))) (aD (bJ (cD (aF (az ej '2' (mC fu))) (cD (bO (cn (ai 1 eK (aa '4' af)))) (gd (aF (az mw '5' (!"-"))) (aF (az ej '5' (mC fu)))))) (aX (mC .non)) aL) (aX (bB (aa (ay (ak fJ) (aa '2' af)) (aa '3' (aa (ay (ak fJ) (aa '4' af)) (aa (pW (aF (az jG '5' (!"-"))) (mC .non) (ay (ak fJ) (aa '5' af))) af)))))))))
theorem xR:dC=bv hX qF 1:=pi rfl
def nO:MY:=
 fz (uS (bO (cn (du "str" '0'))) (gU (mC .non)) (pj aL)) (fz (pj (aH (bW '0' (aa (!", ") af)) (il (au 'a' (au 'b' bU))))) (fz (pj (aH (ay (ak (em .tup)) (aa (bW '1' (aa (!" ") af)) af)) 'c')) (fz (pj (aH (bB (aa '3' (aa (ay (ak (em .tup)) (aa (cg (eD '2') '`' bq (ai 1 dC (aa '0' af)) [Y]) af)) af))) 'd')) (fz (uS (cD (aF (az CJ (ay (ak bT) (aa '3' af)) (mC dZ))) (bO (cn (ai 2 gN (aa (ay (ak bT) (aa '3' af)) (aa '4' af)))))) (gU (mC .non)) (pj aL)) (pj (aX '4'))))))
theorem mJ:fq=pJ cW nO 1:=meY rfl
def lh:MS:=
 aD (aH (mC .non) 'b') (aD (aH (mC .non) 'c') (aD (zL (qc hF 0 (aa '1' af)) cX "row" 4 2 3) (aD (bJ (aF (az ET '2' (mC .non))) (aX '3') aL) (aD (bJ (cD (bO (cn (ya cX true '2'))) (cn (ya cX ([false,false,false].any id) '2'))) (aX (bB (aa (!"*") (aa (!"other") af)))) aL) (aX (pW (cn (ya cX true '2')) (bB (aa (!"*") (aa (zV cX "row" '2') af))) (bB (aa (!"*") (aa (!"other") af)))))))))
theorem nS:bo=bv gj lh 2:=pi rfl
def ky:MS:=
 aD (aH (az bz (cP (aa (!"rows") (aa (!"readers") (aa (!"writers") (aa (!"turns") (aa (!"passes") (aa (!"passes") af))))))) (ai 2 aw (aa '0' (aa 6e0 af)))) 'a') (aD (lm 2 3 (aa (ai 2 aw (aa '0' (aa 6e0 af))) (aa (ai 2 aw (aa '0' (aa 10e0 af))) af))) (aX (bB (aa '1' (aa '2' (aa (az dD '3' (ay (ak iX) (aa (az jG '1' (!"passes")) af))) (aa (ai 2 aw (aa '0' (aa 2e0 af))) af)))))))
theorem pR:cM=bv dS ky 1:=pi rfl
def Rt:MS:=
 aD (aH (ai 0 dI af) 'a') (aD (gY (bg (aa (az be 2e0 (ay (ak AJ) (aa 8e0 (aa (ay (ak bT) (aa '0' af)) af)))) af)) 'b' (aD (aH (ai 2 gh (aa '0' (aa '2' af))) 'c') (aD (aH (ai 2 cN (aa '3' (aa (az be 1e0 (ai 2 aw (aa '3' (aa 5e0 af)))) af))) 'd') (gY (bg (aa 6e0 af)) 'e' (aD (aH (ai 2 bP (aa '3' (aa (ai 1 bj (aa (ai 1 cM (aa '3' af)) af)) af))) 'f') (aD (aH (dH lC '1' (aa '6' (aa (bB (aa (!"*") (aa (mC .non) af))) af))) 'g') (aD (bJ (bO (cn (ai 2 cS (aa (ai 2 bo (aa (mC (.fn 159)) (aa '6' af))) (aa '7' af))))) (aX (mC (.bl false))) aL) (aD (aH (ai 2 bP (aa '3' (aa (ai 1 cx (aa '4' af)) af))) 'f') (aD (bJ (aF (az jG (ai 2 aw (aa '3' (aa 3e0 af))) 0e0)) (aH (ai 2 bP (aa '3' (aa '6' af))) 'f') aL) (aD (aH (ai 1 dk (aa '6' af)) 'g') (bJ (bO (cn (ai 2 cS (aa (ai 2 bo (aa (mC (.fn 169)) (aa '6' af))) (aa (pW (aF (az ET '7' (mC .non))) (bB (aa (!"*") (aa (mC .non) af))) '7') af))))) (aX (mC (.bl false))) aL))))))))))) (aD (dM (bB (aa (mC .non) (aa 7e0 (aa (mC (.bl true)) (aa (bB af) (aa (cP af) (aa (mC (.dct [] [])) (aa (bB (aa (!"rows") af)) (aa (bB (aa (!"rows") (aa 0e0 (aa 0e0 (aa 0e0 af))))) (aa (bB (aa (bB (aa (!"out") af)) (aa (bB af) af))) af)))))))))) 'h' (bJ (cD (aF (az mw (ai 2 bo (aa (mC (.fn 159)) (aa '8' af))) (bB (aa (!"*") (aa (mC .non) af))))) (aF (az mw (ai 2 bo (aa (mC (.fn 169)) (aa '8' af))) (bB (aa (!"*") (aa (mC .non) af)))))) (aX (mC (.bl false))) aL)) (aX (mC (.bl true)))))
theorem Ub:AG=bv Bj Rt 1:=pi rfl
end K49
end
section
namespace K49
open PySem MI PySem.Spec PyProof.Rows L2 Builtin Builtin.Str
open M hiding gL Cm kL eG gu bW rM il jk aS ji gK mC ae az aF cq cn gd cD bO ie Ej kD pW af aa bB cP fA Bm aW bA cB ay du ai aL aD aX dN bJ aj bU au cj gx aH bg gY cg eD bq el mq cQ lm mY jj ei dH dM om dj cC jm
theorem eh:Wq aw:=λS r m h h0 h1=>by rw[xV];exact FH rfl h h0 h1
theorem left{ns:List Int}{k:Int}(h0:0<=k)(h1:k<=100000):∃ a b,gh [.rol (ns.map .int),.int k] S=U (.ref S.length,S++[.lst [.int a,.int b,.int 0]])/\0<=a/\0<=b/\b<2147483647:=by
 rw[xW]
 exact FU (N:=ib) (cellAt:=eL) (far:=iW) rfl h0 h1 (λS k h=>by rw[rL];exact AZ (N:=eV) rfl h) (λS=>by rw[zE];exact KH (N:=jc) rfl)
def iS(i:Int):Str:=Str.ofString (toString i)
def jS(r:Rl):List Str:=[r.w.s]++(if r.w=.passes then [iS r.b] else [])++(if r.a=0 then [] else [Str.empty++"most "++iS r.a])++(if r.c=1 then [("ups":Str)] else [])
def gn(r:Rl):Str:=Str.join " " (jS r)
theorem IA(w:Rw):w.s.length<=7:=by cases w<;>decide +kernel
theorem Au{i:Int}(h0:0<=i)(h1:i<=1000):(iS i).length<=1002:=lU (by omega) h1
theorem Up:(Str.ofString "most ").length=5/\(Str.ofString "ups").length=3/\(Str.ofString " most ").length=6/\(Str.ofString " ups").length=4/\(Str.ofString "\n").length=1/\(Str.ofString "").length=0/\(Str.ofString "tick").length=4:=by decide +kernel
theorem FK{r:Rl}(h:r.Ok):((jS r).map (·.length)).sum+(jS r).length*(Str.ofString " ").length<=10000:=by
 obtain⟨b1,b2,b3,b4⟩:=lM
 obtain⟨c1,c2,c3,c4,c5,c6,c7⟩:=Up
 have h1:=IA r.w
 have h2:=Au (i:=r.b) h.b0 (by have:=h.b9;omega)
 have h3:=Au (i:=r.a) h.a0 (by have:=h.a5;omega)
 unfold jS
 rw[b1]
 by_cases p:r.w=.passes<;>by_cases q:r.a=0<;>by_cases u:r.c=1<;>simp only[p,q,u,Yq,Xx,Xt,List.cons_append,Za,WO,Zt,Yi,List.sum_nil,WF,XG,iy]<;>(try rw[p] at h1)<;>omega
theorem QL{xs:List Str}:xs.map D.str++[.str y]=(xs++[y]).map D.str:=by rw[Yf];rfl
def rt1:MS:=bJ (aF (az jG '1' (!"passes"))) (dN (el cU '5' (aa (ay (ak dP) (aa '3' af)) af))) aL
def rt2:MS:=bJ (aF (az mw '2' 0e0)) (dN (el cU '5' (aa (dj [mC (.str "most "),om '2'] Str.empty) af))) aL
def rt3:MS:=bJ (aF (az jG '4' 1e0)) (dN (el cU '5' (aa (!"ups") af))) aL
section
variable{S:ac}{r:Rl}{xs:List Str}
theorem Wk(hx:xs.length<10):cU (.ref S.length) [.str y] (S++[.lst (xs.map .str)])=U (.non,S++[.lst ((xs++[y]).map .str)]):=by rw[wD sx (by rw[WI];omega),Fi,QL]
theorem Ju:tN f ms env (.ref S.length,S++[.lst (xs.map .str)])=(ms env (S++[.lst (xs.map .str)])).bind (ij f (.ref S.length)):=yg sx
def je(r:Rl)(S:ac):ax:=[U r.d,U (.str r.w.s),U (.int r.a),U (.int r.b),U (.int r.c),U (.ref S.length)]
theorem SR(h:r.Ok)(hx:xs.length<10):rt1 (je r S) (S++[.lst (xs.map .str)])=U (.nx (je r S) (S++[.lst ((xs++if r.w=.passes then [iS r.b] else []).map .str)])):=by
 have b0:=h.b0
 have b9:=h.b9
 have w1:(r.w.s==("passes":Str))=decide (r.w=.passes):=Rw.eq r.w .passes
 have sb:∀ T,ak dP [.int r.b] T=U (.str (iS r.b),T):=λT=>lW (by omega) (by omega)
 by_cases p:r.w=.passes
 ·have w2:(r.w.s==("passes":Str))=true:=by rw[w1,p];rfl
  simp![rt1,je,gP,w2,on,og,Ju,sb,eI,Wk hx,oC,WN p]
 ·simp![rt1,je,gP,w1,p,decide_false,bL,Xx,Xt]
theorem SQ(h:r.Ok)(hx:xs.length<10):rt2 (je r S) (S++[.lst (xs.map .str)])=U (.nx (je r S) (S++[.lst ((xs++if r.a=0 then [] else [Str.empty++"most "++iS r.a]).map .str)])):=by
 have a0:=h.a0
 have a5:=h.a5
 have ka:∀ T,UP (.int r.a,T)=U (.str (iS r.a),T):=λT=>UO (by omega) (by omega)
 obtain⟨b1,b2,b3,b4⟩:=lM
 obtain⟨c1,c2,c3,c4,c5,c6,c7⟩:=Up
 have h3:=Au (i:=r.a) a0 (by omega)
 have jl:∀ T,dj [mC (.str "most "),om '2'] Str.empty (je r S) T=U (.str (Str.empty++"most "++iS r.a),T):=λT=>by
  rw[qJ,aM,ob,RF (by simp only[iy];omega),qJ,Ug,show ae 2 (je r S) T=U (.int r.a,T) by simp[je],ob,ka,ob,RF (by simp only[iy];omega),Cj]
 have v2:∀ T,ae 2 (je r S) T=U (.int r.a,T):=λT=>by simp[je]
 have v5:∀ T,ae 5 (je r S) T=U (.ref S.length,T):=λT=>by simp[je]
 by_cases p:r.a=0
 ·simp only[rt2,bX,aR,aU,v2,ob,aJ,aM,aI,ud,p,YO,WU,am,aP,cF,bL,Yq,Xt]
 ·have pb:(r.a==0)=false:=by simpa using p
  simp only[rt2,bX,aR,aU,v2,ob,aJ,aM,aI,ud,pb,WY,am,aP,bK,on,og,v5,Ju,ao,jl,ah,av,ag,eI,Wk hx,oC,p,Xx]
theorem SO(hx:xs.length<10):rt3 (je r S) (S++[.lst (xs.map .str)])=U (.nx (je r S) (S++[.lst ((xs++if r.c=1 then [("ups":Str)] else []).map .str)])):=by
 have v4:∀ T,ae 4 (je r S) T=U (.int r.c,T):=λT=>by simp[je]
 have v5:∀ T,ae 5 (je r S) T=U (.ref S.length,T):=λT=>by simp[je]
 by_cases p:r.c=1
 ·simp only[rt3,bX,aR,aU,v4,ob,aJ,aM,aI,qp,p,YO,am,aP,bK,on,og,v5,Ju,ao,ah,av,ag,eI,Wk hx,oC,Yq]
 ·have pb:(r.c==1)=false:=by simpa using p
  simp only[rt3,bX,aR,aU,v4,ob,aJ,aM,aI,qp,pb,am,aP,cF,bL,p,Xx,Xt]
theorem BE(S:ac){r:Rl}(h:r.Ok):∃ T,eJ [r.d] S=U (.str (gn r),S++T):=by
 rw[xQ,bt (show [r.d].length=1 from rfl),show aV hV [r.d]=[U r.d,Y,Y,Y,Y,Y] from rfl]
 have hm:qE=aD (aH '0' (cj 4 (au 'a' (au 'b' (au 'c' (au 'd' bU)))))) (aD (aH (fA (aa '1' af)) 'e') (aD rt1 (aD rt2 (aD rt3 (aX (cC (!" ") (aa '5' af))))))):=rfl
 rw[hm]
 have tg:∀ env,cj 4 (au 'a' (au 'b' (au 'c' (au 'd' bU)))) r.d env S=(au 'a' (au 'b' (au 'c' (au 'd' bU)))) [.str r.w.s,.int r.a,.int r.b,.int r.c] env S:=λenv=>si
 have l1:Ah ([.str r.w.s],S)=U (.ref S.length,S++[.lst ([r.w.s].map .str)]):=tO (by simp)
 have e1:=SR (S:=S) (xs:=[r.w.s]) h (by simp)
 have e2:=SQ (S:=S) (xs:=[r.w.s]++if r.w=.passes then [iS r.b] else []) h (by split<;>simp)
 have e3:=SO (S:=S) (r:=r) (xs:=([r.w.s]++if r.w=.passes then [iS r.b] else [])++if r.a=0 then [] else [Str.empty++"most "++iS r.a]) (by split<;>split<;>simp)
 have fj:mT (.str " ") [.ref S.length] (S++[Cell.lst ((jS r).map .str)])=U (.str (gn r),S++[Cell.lst ((jS r).map .str)]):=
  ug (by simp only[fO,sx]) (Xa (FK h) (by decide))
 refine⟨[.lst ((jS r).map .str)],?_⟩
 simp![tg,iU,tP,kf,El,l1]
 show((((rt1 (je r S) _).bind _).bind Ol))=_
 rw[e1,ob,bh,bM,e2,ob,bh,bM,e3,ob,bh]
 have v5:∀ T,ae 5 (je r S) T=U (.ref S.length,T):=λT=>by simp[je]
 simp only[aT,nY,aM,ob,EC,ao,v5,ah,av,ag,eI]
 change ((mT (.str " ") [.ref S.length] (S++[Cell.lst ((jS r).map .str)])).bind _).bind _=_
 rw[fj,ob,bn,ob,aK]
end
def ow(r:Rl):Str:=r.w.s++(if r.w=.passes then(" ":Str) else Str.empty)++(if r.w=.passes then iS r.b else Str.empty)++(if 0<r.a then(" most ":Str)++iS r.a else Str.empty)++(if r.c=1 then(" ups":Str) else Str.empty)
theorem glue:(Str.ofString " "++Str.ofString "most ")=Str.ofString " most "/\(Str.ofString " "++Str.ofString "ups")=Str.ofString " ups":=by decide +kernel
theorem zi{r:Rl}(h:r.Ok):gn r=ow r:=by
 have a0:=h.a0
 have g1:∀ z:Str,Str.ofString " "++(Str.ofString "most "++z)=Str.ofString " most "++z:=λz=>by rw[<- YQ,glue.1]
 unfold gn ow jS
 by_cases p:r.w=.passes<;>by_cases q:r.a=0<;>by_cases u:r.c=1
 all_goals
  first | rw[WX (show ¬ 0<r.a by omega)] | rw[WN (show 0<r.a by omega)]
  simp only[p,q,u,Yq,Xx,ne_eq,not_true_eq_false,not_false_eq_true,Xt,List.cons_append,Za,qi,Yg,List.foldl_nil,Str.empty_append,Str.append_empty,YQ,g1,glue.2]
theorem mP(S:ac){r:Rl}(h:r.Ok):bj [r.d] S=U (.str (ow r),S):=by
 rw[nQ,bt (show [r.d].length=1 from rfl),show aV dm [r.d]=[U r.d,Y,Y,Y,Y,Y] from rfl]
 have a0:=h.a0
 have a5:=h.a5
 have b0:=h.b0
 have b9:=h.b9
 have c0:=h.c0
 have c1':=h.c1
 have tg:∀ env,cj 4 (au 'a' (au 'b' (au 'c' (au 'd' bU)))) r.d env S=(au 'a' (au 'b' (au 'c' (au 'd' bU)))) [.str r.w.s,.int r.a,.int r.b,.int r.c] env S:=λenv=>si
 obtain⟨b1,b2,b3,b4⟩:=lM
 obtain⟨c1,c2,c3,c4,c5,c6,c7⟩:=Up
 have h1:=IA r.w
 have h2:=Au (i:=r.b) b0 (by omega)
 have h3:=Au (i:=r.a) a0 (by omega)
 have w1:(r.w.s==("passes":Str))=decide (r.w=.passes):=Rw.eq r.w .passes
 have sb:∀ T,ak dP [.int r.b] T=U (.str (iS r.b),T):=λT=>lW (by omega) (by omega)
 have sa:∀ T,ak dP [.int r.a] T=U (.str (iS r.a),T):=λT=>lW (by omega) (by omega)
 have mu:∀ (x:Str) (b:Bool),x.length<=1000000->mS S (.str x) (.int (if b=true then 1 else 0))=U (.str (if b=true then x else Str.empty)):=λx b hx=>by cases b;exact Pq hx;exact Pp hx
 have ad:∀ x y:Str,x.length+y.length<=1000000->bI S (.str x) (.str y)=U (.str (x++y)):=λx y hx=>gX hx
 have cb:(.int r.c:D)=.int (if decide (r.c=1)=true then 1 else 0):=by
  by_cases u:r.c=1
  ·simp[u]
  ·have:r.c=0:=by omega
   simp[this]
 have m1:=mu " " (decide (r.w=.passes)) (by omega)
 have m2:=mu (iS r.b) (decide (r.w=.passes)) (by omega)
 have m3:=mu (" most "++iS r.a) (decide (0<r.a)) (by simp only[iy];omega)
 have m4:=mu " ups" (decide (r.c=1)) (by omega)
 have q1:(if decide (r.w=.passes)=true then(" ":Str) else Str.empty).length<=1:=by split<;>omega
 have q2:(if decide (r.w=.passes)=true then iS r.b else Str.empty).length<=1002:=by split<;>omega
 have q3:(if decide (0<r.a)=true then(" most ":Str)++iS r.a else Str.empty).length<=1008:=by split<;>(try simp only[iy])<;>omega
 have q4:(if decide (r.c=1)=true then(" ups":Str) else Str.empty).length<=4:=by split<;>omega
 have d1:=ad r.w.s _ (show r.w.s.length+(if decide (r.w=.passes)=true then(" ":Str) else Str.empty).length<=1000000 by omega)
 have d2:=ad (r.w.s++(if decide (r.w=.passes)=true then(" ":Str) else Str.empty)) (if decide (r.w=.passes)=true then iS r.b else Str.empty) (by simp only[iy];omega)
 have d3:=ad " most " (iS r.a) (by omega)
 have d4:=ad (r.w.s++(if decide (r.w=.passes)=true then(" ":Str) else Str.empty)++(if decide (r.w=.passes)=true then iS r.b else Str.empty)) (if decide (0<r.a)=true then(" most ":Str)++iS r.a else Str.empty) (by simp only[iy];omega)
 have d5:=ad (r.w.s++(if decide (r.w=.passes)=true then(" ":Str) else Str.empty)++(if decide (r.w=.passes)=true then iS r.b else Str.empty)++(if decide (0<r.a)=true then(" most ":Str)++iS r.a else Str.empty)) (if decide (r.c=1)=true then(" ups":Str) else Str.empty) (by simp only[iy];omega)
 rw[cb] at tg
 simp![jz,tg,iU,tP,kf,gP,w1,EU,m1,d1,sb,m2,d2,sa,d3,AM,m3,d4,m4,d5]
 unfold ow
 simp only[WM]
theorem at_w6{q:Int}(h0:0<=q)(h1:q<6):∃ w:Rw,mD [D.str "rows",D.str "readers",D.str "writers",D.str "turns",D.str "passes",D.str "passes"] q=U (.str w.s):=by
 obtain rfl | rfl | rfl | rfl | rfl | rfl:q=0\/q=1\/q=2\/q=3\/q=4\/q=5:=by omega
 ·exact⟨.rows,rfl⟩
 ·exact⟨.readers,rfl⟩
 ·exact⟨.writers,rfl⟩
 ·exact⟨.turns,rfl⟩
 ·exact⟨.passes,rfl⟩
 ·exact⟨.passes,rfl⟩
theorem QM(P:Pk S r):∃ (rl:Rl) (S':ac),cM [.ref r] S=U (rl.d,S')/\rl.Ok/\(rl.w≠.passes->rl.b=0)/\Pk S' r/\Keep r S S':=by
 rw[pR,bt (show [D.ref r].length=1 from rfl),show aV dS [D.ref r]=[U (.ref r),Y,Y,Y] from rfl]
 obtain⟨q1,S1,e1,l1,g1,P1,K1⟩:=eh _ _ 6 P (by decide) (by decide)
 obtain⟨q2,S2,e2,l2,g2,P2,K2⟩:=eh _ _ 6 P1 (by decide) (by decide)
 obtain⟨q3,S3,e3,l3,g3,P3,K3⟩:=eh _ _ 10 P2 (by decide) (by decide)
 obtain⟨q4,S4,e4,l4,g4,P4,K4⟩:=eh _ _ 2 P3 (by decide) (by decide)
 obtain⟨w,i1⟩:=at_w6 l1 g1
 have k1:∀ S,nk ([D.str "rows",D.str "readers",D.str "writers",D.str "turns",D.str "passes",D.str "passes"],S)=U (.lst [D.str "rows",D.str "readers",D.str "writers",D.str "turns",D.str "passes",D.str "passes"],S):=λS=>fm (by simp)
 have k4:∀ S (a b c d:D),gZ ([a,b,c,d],S)=U (.tup [a,b,c,d],S):=λS a b c d=>bR (by simp)
 have m1:∀ S (z:Bool),dD S (.int q3) (.int (if z=true then 1 else 0))=U (.int (q3*(if z=true then 1 else 0))):=λS z=>js (sW (by omega) (by omega))
 refine⟨⟨w,q2,q3*(if (w.s==("passes":Str))=true then 1 else 0),q4⟩,S4,?_,⟨l2,show q2<=5 by omega,show 0<=q3*_ by split<;>omega,show q3*_<=9 by split<;>omega,l4,show q4<=1 by omega⟩,λhw=>?_,P4,Keep.trans (Keep.trans (Keep.trans K1 K2) K3) K4⟩
 rotate_left
 ·have hw':(w.s==("passes":Str))=false:=(Rw.eq w .passes).trans (Xo hw)
  show q3*(if (w.s==("passes":Str))=true then 1 else 0)=0
  rw[hw',WX WJ,Int.mul_zero]
 simp[-beq_iff_eq,ky,k1,k4,e1,e2,e3,e4,i1,m1]
 rfl
def wZ:MS:=aH (az bI (az bI (az bI (az bI (az bI (az bI (az bI (az bI '1' (!", ")) (ay (ak dP) (aa '2' af))) (!" ")) '3') (!" ")) (ay (ak dP) (aa '4' af))) (!" ")) (az bz (cP (aa (!"-") (aa (ay (ak dP) (aa '5' af)) af))) (ay (ak iX) (aa (az nr '5' (mC .non)) af)))) 'a'
def So:MG:=cj 4 (au 'b' (au 'c' (au 'd' (au 'e' bU))))
def wY:ME:=az bz (cP (aa (!"-") (aa (ay (ak dP) (aa '5' af)) af))) (ay (ak iX) (aa (az nr '5' (mC .non)) af))
theorem Ft{t:Option Int}{a0 a1 a2 a3 a4:Option D}(h:∀ k,t=U k->1<=k/\k<=9):wY [a0,a1,a2,a3,a4,U (fB t)] S=U (.str (tI t),S):=by
 have k2:∀ x y:D,nk ([x,y],S)=U (.lst [x,y],S):=λx y=>fm (by simp)
 cases t with
 | none=>
  have i0:∀ x y:D,mD [x,y] 0=U x:=λ_ _=>rfl
  simp[wY,fB,tI,k2,qj,i0]
 | some k=>
  have hk:=h k rfl
  have i1:∀ x y:D,mD [x,y] 1=U y:=λ_ _=>rfl
  simp[wY,fB,tI,k2,qj,i1,lW (show -1000000<=k by omega) (show k<=1000000 by omega)]
theorem Fu{acc:Str}{a0:Option D}(h:EnS e)(ha:acc.length<=500000):wZ [a0,U (.str acc),U (.int (e.g:Int)),U (.str (db e.wr)),U (.int e.m),U (fB e.t)] S=U (.nx [a0,U (.str (acc++", "++kP e)),U (.int (e.g:Int)),U (.str (db e.wr)),U (.int e.m),U (fB e.t)] S):=by
 have hg:=h.g
 have hm0:=h.m0
 have hm1:=h.m1
 have h1:=lU (i:=(e.g:Int)) (by omega) (by omega)
 have h2:=lU (i:=e.m) (by omega) hm1
 have h3:=Ac h.t
 have h4:=yN e.wr
 obtain⟨b1,b2,b3,b4⟩:=lM
 have s1:ak dP [.int (e.g:Int)] S=U (.str (Str.ofString (toString (e.g:Int))),S):=lW (by omega) (by omega)
 have s2:ak dP [.int e.m] S=U (.str (Str.ofString (toString e.m)),S):=lW (by omega) (by omega)
 have tl:=Ft (S:=S) (a0:=a0) (a1:=U (.str acc)) (a2:=U (.int (e.g:Int))) (a3:=U (.str (db e.wr))) (a4:=U (.int e.m)) h.t
 have q1:bI S (.str acc) (.str ", ")=U (.str (acc++", ")):=gX (by omega)
 have q2:bI S (.str (acc++", ")) (.str (Str.ofString (toString (e.g:Int))))=U (.str (acc++", "++Str.ofString (toString (e.g:Int)))):=gX (by simp only[iy];omega)
 have q3:bI S (.str (acc++", "++Str.ofString (toString (e.g:Int)))) (.str " ")=U (.str (acc++", "++Str.ofString (toString (e.g:Int))++" ")):=gX (by simp only[iy];omega)
 have q4:bI S (.str (acc++", "++Str.ofString (toString (e.g:Int))++" ")) (.str (db e.wr))=U (.str (acc++", "++Str.ofString (toString (e.g:Int))++" "++db e.wr)):=gX (by simp only[iy];omega)
 have q5:bI S (.str (acc++", "++Str.ofString (toString (e.g:Int))++" "++db e.wr)) (.str " ")=U (.str (acc++", "++Str.ofString (toString (e.g:Int))++" "++db e.wr++" ")):=gX (by simp only[iy];omega)
 have q6:bI S (.str (acc++", "++Str.ofString (toString (e.g:Int))++" "++db e.wr++" ")) (.str (Str.ofString (toString e.m)))=U (.str (acc++", "++Str.ofString (toString (e.g:Int))++" "++db e.wr++" "++Str.ofString (toString e.m))):=gX (by simp only[iy];omega)
 have q7:bI S (.str (acc++", "++Str.ofString (toString (e.g:Int))++" "++db e.wr++" "++Str.ofString (toString e.m))) (.str " ")=U (.str (acc++", "++Str.ofString (toString (e.g:Int))++" "++db e.wr++" "++Str.ofString (toString e.m)++" ")):=gX (by simp only[iy];omega)
 have q8:bI S (.str (acc++", "++Str.ofString (toString (e.g:Int))++" "++db e.wr++" "++Str.ofString (toString e.m)++" ")) (.str (tI e.t))=U (.str (acc++", "++kP e)):=by
  rw[gX (by simp only[iy];omega)]
  unfold kP
  simp only[Str.empty_append,YQ]
 have hm:wZ=aH (az bI (az bI (az bI (az bI (az bI (az bI (az bI (az bI '1' (!", ")) (ay (ak dP) (aa '2' af))) (!" ")) '3') (!" ")) (ay (ak dP) (aa '4' af))) (!" ")) wY) 'a':=rfl
 rw[hm]
 simp![q1,s1,q2,q3,q4,q5,s2,q6,q7,tl,q8]
theorem HN{a0:Option D}:∀ (es:List En) (acc:Str) (a2 a3 a4 a5:Option D),(∀ e∈es,EnS e)->acc.length+es.length*3200<=500000 ->
  ∃ b2 b3 b4 b5,cE So wZ (es.map En.d) [a0,U (.str acc),a2,a3,a4,a5] S=U (.nx [a0,U (.str ((es.map kP).foldl (λacc y=>acc++", "++y) acc)),b2,b3,b4,b5] S)
 | [],acc,a2,a3,a4,a5,_,_=>⟨a2,a3,a4,a5,rfl⟩
 | e::es,acc,a2,a3,a4,a5,h,hl=>by
  have he:=h e (by simp)
  rw[WF] at hl
  have tg:So e.d [a0,U (.str acc),a2,a3,a4,a5] S=U ([a0,U (.str acc),U (.int (e.g:Int)),U (.str (db e.wr)),U (.int e.m),U (fB e.t)],S):=by
   show cj 4 _ (.tup [.int (e.g:Nat),.str (db e.wr),.int e.m,fB e.t]) _ S=_
   simp only[si,iU,aQ,ob,jO,kM,tP,kf]
  have wl:=HK he
  obtain⟨b2,b3,b4,b5,e2⟩:=HN es (acc++", "++kP e) (U (.int (e.g:Int))) (U (.str (db e.wr))) (U (.int e.m)) (U (fB e.t)) (λx hx=>h x (WB _ hx)) (by simp only[iy,lM.2.1];omega)
  refine⟨b2,b3,b4,b5,?_⟩
  rw[WO,gM,tg,ob,qf,Fu he (by omega),ob,lR,e2,WO,Yg]
theorem FV(S:ac)(h:RmS R):cx [mn R] S=U (.str (Dy R),S):=by
 rw[nR,bt (show [mn R].length=1 from rfl),show aV dq [mn R]=[U (mn R),Y,Y,Y,Y,Y] from rfl]
 have hm:jA=aD (aH (cC (!" ") (aa (az bz '0' 0e0) af)) 'a') (aD (dM (az bz '0' 1e0) So wZ) (aX '1')):=rfl
 rw[hm]
 have h1:=h.l1
 have h2:=h.l2
 have wl:=Fl R.1
 have j1:mT (.str " ") [HG R.1] S=U (.str (pp R.1),S):=KS (by omega)
 obtain⟨b2,b3,b4,b5,e2⟩:=HN (S:=S) (a0:=U (mn R)) R.2 (pp R.1) Y Y Y Y h.en (by omega)
 have fd:∀ tg p env,wg tg p env (esD R.2,S)=cE tg p (R.2.map En.d) env S:=λtg p env=>sh
 simp![nY,EC,Rm.ix0,Rm.ix1,eI,j1,oh,fd,e2]
 unfold Dy
 rw[qi]
def wW:MS:=dN (el cU '2' (aa (az bz (cP (aa (!"out") (aa (!"out") (aa (!"out") (aa (!"reads") (aa (!"rising") (aa (!"writes") (aa (!"raised") af)))))))) (ai 2 aw (aa '0' (aa 7e0 af)))) af))
def II:ME:=az bz (cP (aa (mC .non) (aa (mC .non) (aa 1e0 (aa 9e0 (aa (az be 1e0 (ai 2 aw (aa '0' (aa 9e0 af)))) af)))))) (ai 2 aw (aa '0' (aa 5e0 af)))
def Jw:ME:=az bz (cP (aa 0e0 (aa 0e0 (aa 1e0 (aa 9e0 (aa 10e0 (aa 99e0 (aa 100e0 (aa 999e0 af))))))))) (ai 2 aw (aa '0' (aa 8e0 af)))
def um:MS:=aD (aH Jw 'e') (aD (aH II 'f') (bJ (aF (az CJ (ai 2 aw (aa '0' (aa 4e0 af))) 0e0)) (aD (aH (bB (aa '3' (aa (az bz (cP (aa (!"read") (aa (!"write") af))) (ai 2 aw (aa '0' (aa 2e0 af)))) (aa '5' (aa '6' af))))) 'g') (dN (el gW '4' (aa (ai 2 aw (aa '0' (aa (az be (ay (ak bT) (aa '4' af)) 1e0) af))) (aa '7' af))))) aL))
theorem Pk.set{q:Nat}(P:Pk S r)(h:q≠r):Pk (S.set q c) r:=by
 obtain⟨a,b,d,h1,z⟩:=P
 exact⟨a,b,d,by rw[Xl h];exact h1,z⟩
theorem at_w7{q:Int}(h0:0<=q)(h1:q<7):∃ w:Wd,mD [D.str "out",D.str "out",D.str "out",D.str "reads",D.str "rising",D.str "writes",D.str "raised"] q=U w.d:=by
 obtain rfl | rfl | rfl | rfl | rfl | rfl | rfl:q=0\/q=1\/q=2\/q=3\/q=4\/q=5\/q=6:=by omega
 ·exact⟨.out,rfl⟩
 ·exact⟨.out,rfl⟩
 ·exact⟨.out,rfl⟩
 ·exact⟨.reads,rfl⟩
 ·exact⟨.rising,rfl⟩
 ·exact⟨.writes,rfl⟩
 ·exact⟨.raised,rfl⟩
def Jv:List Int:=[0,1,9,10,99,100,999]
structure EnQ(e:En):Prop where
 m:e.m∈Jv
 t:∀ k,e.t=U k->1<=k/\k<=9
theorem at_m8{q:Int}(h0:0<=q)(h1:q<8):∃ i:Int,mD [D.int 0,D.int 0,D.int 1,D.int 9,D.int 10,D.int 99,D.int 100,D.int 999] q=U (.int i)/\i∈Jv:=by
 obtain rfl | rfl | rfl | rfl | rfl | rfl | rfl | rfl:q=0\/q=1\/q=2\/q=3\/q=4\/q=5\/q=6\/q=7:=by omega
 all_goals exact⟨_,rfl,by decide⟩
theorem at_r5{q m:Int}(h0:0<=q)(h1:q<5)(m0:0<=m)(m9:m<9):∃ t:Option Int,mD [D.non,D.non,D.int 1,D.int 9,D.int (1+m)] q=U (fB t)/\∀ k,t=U k->1<=k/\k<=9:=by
 obtain rfl | rfl | rfl | rfl | rfl:q=0\/q=1\/q=2\/q=3\/q=4:=by omega
 ·exact⟨Y,rfl,λk h=>by cases h⟩
 ·exact⟨Y,rfl,λk h=>by cases h⟩
 ·exact⟨U 1,rfl,λk h=>by cases h;decide⟩
 ·exact⟨U 9,rfl,λk h=>by cases h;decide⟩
 ·exact⟨U (1+m),rfl,λk h=>by cases h;omega⟩
theorem Fo{q:Nat}{ws:List Wd}{a1 a3 a4 a5 a6 a7:Option D}(P:Pk S r)(hq:q≠r)(h:S[q]?=U (.lst (ws.map Wd.d)))(hl:ws.length<=100) :
  ∃ (w:Wd) (S':ac),wW [U (.ref r),a1,U (.ref q),a3,a4,a5,a6,a7] S=U (.nx [U (.ref r),a1,U (.ref q),a3,a4,a5,a6,a7] S')/\Pk S' r/\S'[q]?=U (.lst ((ws++[w]).map Wd.d))/\∀ j,j≠r->j≠q->S'[j]?=S[j]?:=by
 obtain⟨k,S1,e1,k0,k7,P1,K1,L1⟩:=eh _ _ 7 P (by decide) (by decide)
 obtain⟨w,ix⟩:=at_w7 k0 k7
 have h1:S1[q]?=U (.lst (ws.map Wd.d)):=by rw[K1 q hq,h]
 have kl:∀ S,nk ([D.str "out",D.str "out",D.str "out",D.str "reads",D.str "rising",D.str "writes",D.str "raised"],S)=U (.lst [D.str "out",D.str "out",D.str "out",D.str "reads",D.str "rising",D.str "writes",D.str "raised"],S):=λS=>fm (by simp)
 have km:∀ ms env,tN cU ms env (.ref q,S)=(ms env S).bind (ij cU (.ref q)):=λms env=>yg h
 have ap:cU (.ref q) [w.d] S1=U (.non,S1.set q (.lst ((ws++[w]).map Wd.d))):=by rw[wD h1 (by rw[WI];omega),Yf];rfl
 refine⟨w,S1.set q (.lst ((ws++[w]).map Wd.d)),?_,Pk.set P1 hq,Xv (WC.mp h1).1,λj hj hjq=>by rw[Xl (Ne.symm hjq),K1 j hj]⟩
 simp![wW,on,og,km,jr,kl,e1,qY,ix,eI,ap,oC]
theorem GH{q g:Nat}{es:List En}{a1 a2 a5 a6 a7:Option D}(P:Pk S r)(hq:q≠r)(h:S[q]?=U (.lst (es.map En.d)))(hl:es.length<=100) :
  ∃ (es':List En) (b5 b6 b7:Option D) (S':ac),um [U (.ref r),a1,a2,U (ni g),U (.ref q),a5,a6,a7] S=U (.nx [U (.ref r),a1,a2,U (ni g),U (.ref q),b5,b6,b7] S')/\Pk S' r/\S'[q]?=U (.lst (es'.map En.d))/\(es'=es\/∃ e:En,e.g=g/\EnQ e/\es'.Perm (e::es))/\∀ j,j≠r->j≠q->S'[j]?=S[j]?:=by
 obtain⟨x1,S1,e1,l1,g1,P1,K1,_⟩:=eh _ _ 8 P (by decide) (by decide)
 obtain⟨x2,S2,e2,l2,g2,P2,K2,_⟩:=eh _ _ 9 P1 (by decide) (by decide)
 obtain⟨x3,S3,e3,l3,g3,P3,K3,_⟩:=eh _ _ 5 P2 (by decide) (by decide)
 obtain⟨x4,S4,e4,l4,g4,P4,K4,_⟩:=eh _ _ 4 P3 (by decide) (by decide)
 obtain⟨m,i1,hmm⟩:=at_m8 l1 g1
 obtain⟨t,i3,ht⟩:=at_r5 l3 g3 l2 g2
 have h4:S4[q]?=U (.lst (es.map En.d)):=by rw[K4 q hq,K3 q hq,K2 q hq,K1 q hq,h]
 have w1:∀ S,nk ([D.int 0,D.int 0,D.int 1,D.int 9,D.int 10,D.int 99,D.int 100,D.int 999],S)=U (.lst [D.int 0,D.int 0,D.int 1,D.int 9,D.int 10,D.int 99,D.int 100,D.int 999],S):=λS=>fm (by simp)
 have w2:∀ S,nk ([D.non,D.non,D.int 1,D.int 9,D.int (1+x2)],S)=U (.lst [D.non,D.non,D.int 1,D.int 9,D.int (1+x2)],S):=λS=>fm (by simp)
 have v1:∀ a1 a2 a3 a4 a5 a6 a7,Jw [U (.ref r),a1,a2,a3,a4,a5,a6,a7] S=U (.int m,S1):=λa1 a2 a3 a4 a5 a6 a7=>by
  simp![Jw,jr,w1,e1,qY,i1]
 have v2:∀ a1 a2 a3 a4 a5 a6 a7,II [U (.ref r),a1,a2,a3,a4,a5,a6,a7] S1=U (fB t,S3):=λa1 a2 a3 a4 a5 a6 a7=>by
  simp![II,jr,e2,lD,w2,e3,qY,i3]
 by_cases h0:0<x4
 ·obtain⟨x5,S5,e5,l5,g5,P5,K5,_⟩:=eh _ _ 2 P4 (by decide) (by decide)
  obtain⟨x6,S6,e6,l6,g6,P6,K6,_⟩:=eh _ _ ((es.length:Int)+1) P5 (by omega) (by omega)
  obtain⟨wr,i5⟩:=at_w2 l5 g5
  have h5:S5[q]?=U (.lst (es.map En.d)):=by rw[K5 q hq,h4]
  have h6:S6[q]?=U (.lst (es.map En.d)):=by rw[K6 q hq,h5]
  have w3:∀ S,nk ([D.str "read",D.str "write"],S)=U (.lst [D.str "read",D.str "write"],S):=λS=>fm (by simp)
  have w4:∀ S (a b c d:D),gZ ([a,b,c,d],S)=U (.tup [a,b,c,d],S):=λS a b c d=>bR (by simp)
  have fl:=KQ h5
  rw[WI] at fl
  have km:∀ ms env,tN gW ms env (.ref q,S5)=(ms env S5).bind (ij gW (.ref q)):=λms env=>yg h5
  have ins:gW (.ref q) [.int x6,.tup [ni g,.str (db wr),.int m,fB t]] S6=U (.non,S6.set q (.lst ((jZ es x6 (En.mk g wr m t)).map En.d))):=by
   rw[Gr h6 (by rw[WI];omega) l6 (by omega)]
   rw[show D.tup [ni g,.str (db wr),.int m,fB t]=(En.mk g wr m t).d from rfl,Jx]
  have hp:=Gh es x6 (En.mk g wr m t)
  refine⟨jZ es x6 (En.mk g wr m t),U (.int m),U (fB t),U (.tup [ni g,.str (db wr),.int m,fB t]),S6.set q (.lst ((jZ es x6 (En.mk g wr m t)).map En.d)),?_,Pk.set P6 hq,Xv (WC.mp h6).1,.inr ⟨_,rfl,⟨hmm,ht⟩,hp⟩,λj h1 h2=>by rw[Xl (Ne.symm h2),K6 j h1,K5 j h1,K4 j h1,K3 j h1,K2 j h1,K1 j h1]⟩
  simp![um,v1,v2,e4,AM,Xk h0,dG,jr,w3,e5,qY,i5,w4,on,og,km,fl,lD,e6,eI,ins,oC]
 ·refine⟨es,U (.int m),U (fB t),a7,S4,?_,P4,h4,.inl rfl,λj h1 h2=>by rw[K4 j h1,K3 j h1,K2 j h1,K1 j h1]⟩
  simp![um,v1,v2,e4,AM,Xo h0,bL]
theorem Ly{r q:Nat}{a1 a2:Option D}(hq:q≠r):∀ (l:List Nat) (es:List En) (S:ac) (a3 a5 a6 a7:Option D),Pk S r->S[q]?=U (.lst (es.map En.d))->es.length+l.length<=10->(es.map (·.g)++l).Nodup->(∀ e∈es,EnQ e) ->
  ∃ (es':List En) (b3 b5 b6 b7:Option D) (S':ac),cE 'c' um (l.map ni) [U (.ref r),a1,a2,a3,U (.ref q),a5,a6,a7] S=U (.nx [U (.ref r),a1,a2,b3,U (.ref q),b5,b6,b7] S')/\Pk S' r/\S'[q]?=U (.lst (es'.map En.d))/\es'.length<=es.length+l.length/\(es'.map (·.g)).Nodup/\(∀ e∈es',EnQ e/\(e.g∈es.map (·.g)\/e.g∈l))/\∀ j,j≠r->j≠q->S'[j]?=S[j]?
 | [],es,S,a3,a5,a6,a7,P,h,hl,hn,he=>⟨es,a3,a5,a6,a7,S,rfl,P,h,by simp,by simpa using hn,λe hx=>⟨he e hx,.inl (Zb hx)⟩,λ_ _ _=>rfl⟩
 | g::l,es,S,a3,a5,a6,a7,P,h,hl,hn,he=>by
  rw[WF] at hl
  obtain⟨es1,b5,b6,b7,S1,e1,P1,h1,hc,k1⟩:=GH (g:=g) (a1:=a1) (a2:=a2) (a5:=a5) (a6:=a6) (a7:=a7) P hq h (by omega)
  have hn0:(es.map (·.g)++l).Nodup:=hn.sublist (List.Sublist.append (List.Sublist.refl _) (List.sublist_cons_self g l))
  have X:es1.length<=es.length+1/\(es1.map (·.g)++l).Nodup/\(∀ e∈es1,EnQ e)/\∀ e∈es1,e.g∈es.map (·.g)\/e.g=g:=by
   rcases hc with rfl | ⟨e,rfl,hQ,hp⟩
   ·exact⟨by omega,hn0,he,λe hx=>.inl (Zb hx)⟩
   ·refine⟨by rw[hp.length_eq,WF];omega,?_,λx hx=>?_,λx hx=>?_⟩
    ·have hp2:(es1.map (·.g)++l).Perm (es.map (·.g)++e.g::l):=by
      refine((hp.map (·.g)).append_right l).trans ?_
      rw[WO]
      exact(List.perm_middle (a:=e.g) (l₁:=es.map (·.g)) (l₂:=l)).symm
     exact hp2.nodup_iff.mpr hn
    ·rcases WQ.mp (hp.mem_iff.mp hx) with rfl | hx
     ·exact hQ
     ·exact he x hx
    ·rcases WQ.mp (hp.mem_iff.mp hx) with rfl | hx
     ·exact .inr rfl
     ·exact .inl (Zb hx)
  obtain⟨x1,x2,x3,x4⟩:=X
  obtain⟨es',c3,c5,c6,c7,S',e2,P2,h2,l2,n2,he2,k2⟩:=Ly (a1:=a1) (a2:=a2) hq l es1 S1 (U (ni g)) b5 b6 b7 P1 h1 (by omega) x2 x3
  refine⟨es',c3,c5,c6,c7,S',?_,P2,h2,by rw[WF];omega,n2,λe hx=>⟨(he2 e hx).1,?_⟩,λj z1 z2=>(k2 j z1 z2).trans (k1 j z1 z2)⟩
  ·rw[WO,gM,aQ,ob,qf]
   simp only[jO,kM]
   rw[e1,ob,lR,e2]
  ·rcases(he2 e hx).2 with z | z
   ·obtain⟨y,hy,ey⟩:=Xs.mp z
    rcases x4 y hy with w | w
    ·exact .inl (by rw[<- ey];exact w)
    ·exact .inr (by rw[<- ey,w];exact WE)
   ·exact .inr (WB _ z)
structure RmQ(n:Nat)(R:Rm):Prop where
 len:R.1.length=n
 few:R.2.length<=5
 nd:(R.2.map (·.g)).Nodup
 out:∀ e∈R.2,R.1[e.g]?=U .out
 q:∀ e∈R.2,EnQ e
theorem QN{n:Nat}(P:Pk S r)(hn:n<=5):∃ (R:Rm) (S':ac),cN [.ref r,.int (n:Int)] S=U (mn R,S')/\RmQ n R/\Pk S' r/\∀ j,j≠r->j<S.length->S'[j]?=S[j]?:=by
 rw[pS,bt (show [D.ref r,D.int (n:Int)].length=2 from rfl),show aV dU [D.ref r,D.int (n:Int)]=[U (.ref r),U (.int (n:Int)),Y,Y,Y,Y,Y,Y] from rfl]
 have hm:kA=aD (aH (fA af) 'b') (aD (gY (bg (aa '1' af)) 'c' wW) (aD (aH (fA af) 'd') (aD (dM (cg (bg (aa '1' af)) '`' (aF (az jG (az bz '1' '0') (!"out"))) '0' [Y,U 2]) 'c' um) (aX (bB (aa (ay (ak (em .tup)) (aa '2' af)) (aa (ay (ak (em .tup)) (aa '4' af)) af))))))):=rfl
 rw[hm]
 have l0:∀ S,Ah ([],S)=U (.ref S.length,S++[.lst []]):=λS=>tO (by simp)
 have kr:∀ S,RA ([.int (n:Int)],S)=U (cA 0 n,S):=λS=>by rw[jX (by omega) (by omega),YA]
 obtain⟨P1,hS⟩:=P.app (c:=.lst [])
 obtain⟨env',S2,e2,b3,ws,rfl,P2,h2,lw,K2⟩:=forR (tg:=aj 3) (p:=wW) (lo:=0) (λi env T=>∃ b3 ws,env=[U (.ref r),U (.int (n:Int)),U (.ref S.length),b3,Y,Y,Y,Y]/\Pk T r/\T[S.length]?=U (.lst ((ws:List Wd).map Wd.d))/\ws.length=i/\∀ j,j≠r->j<S.length->T[j]?=S[j]?) n
  (λi hi env T hI=>by
   obtain⟨b3,ws,rfl,P,h,lw,K⟩:=hI
   obtain⟨w,T',e,P',h',K'⟩:=Fo (a1:=U (.int (n:Int))) (a3:=U (.int (0+(i:Int)))) (a4:=Y) (a5:=Y) (a6:=Y) (a7:=Y) P hS h (by omega)
   exact⟨_,_,_,_,aQ,e,_,ws++[w],rfl,P',h',by rw[Xf,lw];rfl,λj hj hl=>(K' j hj (by omega)).trans (K j hj hl)⟩)
  [U (.ref r),U (.int (n:Int)),U (.ref S.length),Y,Y,Y,Y,Y] (S++[.lst []]) ⟨Y,[],rfl,P1,by simp,rfl,λj _ hl=>WS hl⟩
 obtain⟨P3,hS2⟩:=P2.app (c:=.lst [])
 have h3:(S2++[Cell.lst []])[S.length]?=U (.lst (ws.map Wd.d)):=by rw[WS (WC.mp h2).1,h2]
 have rn:cA 0 n=(List.range n).map ni:=by have:=zy n;unfold nl at this;injection this
 have kc:=lr (S:=S2++[Cell.lst []]) (t:=aF (az jG (az bz '1' '0') (!"out"))) (e:=ae 0) (cap:=[Y,U 2]) (env:=[U (.ref r),U (.int (n:Int)),U (.ref S.length),b3,U (.ref S2.length),Y,Y,Y]) (rest:=[U (.ref S.length)]) (a:=Y) (enc:=ni) (p:=λi=>decide (ws[i]?=U .out)) (f:=ni) (xs:=List.range n) rfl (by rw[aaa];omega) (λi hi=>by
  have hi':=Ym.mp hi
  have h:ws[i]?=U ws[i]:=WK (by omega)
  have x1:bz (S2++[Cell.lst []]) (.ref S.length) (ni i)=U (ws[i]).d:=by
   show bz _ (.ref S.length) (.int (i:Int))=_
   rw[lY h3];exact wT (by rw[XU,h];rfl)
  have x2:jG (S2++[Cell.lst []]) (ws[i]).d (.str "out")=U (.bl (decide (ws[i]=.out))):=Vv (b:=.out)
  simp![x1,x2,h,Option.some.injEq]) (λi hi _=>by simp)
 obtain⟨es,c3,c5,c6,c7,S4,e4,P4,h4,l4,hnd,he,k4⟩:=Ly (r:=r) (q:=S2.length) (a1:=U (.int (n:Int))) (a2:=U (.ref S.length)) hS2 ((List.range n).filter λi=>decide (ws[i]?=U .out)) [] (S2++[.lst []]) b3 Y Y Y P3 (by simp) (by
  have:=abc (λi=>decide (ws[i]?=U Wd.out)) (List.range n)
  rw[aaa] at this
  simp only[XG];omega) (by rw[Zt,Za];exact List.nodup_range.filter _) (λe h=>by cases h)
 rw[<- rn] at kc
 have hSl:S.length<S2.length:=(WC.mp h2).1
 have h5:S4[S.length]?=U (.lst (ws.map Wd.d)):=by rw[k4 _ hS (by omega),h3]
 have sq1:ak (em .tup) [.ref S.length] S4=U (HG ws,S4):=wC h5
 have sq2:ak (em .tup) [.ref S2.length] S4=U (esD es,S4):=wC h4
 have t2:∀ S (a b:D),gZ ([a,b],S)=U (.tup [a,b],S):=λS a b=>bR (by simp)
 refine⟨(ws,es),S4,?_,⟨lw,by have:=abc (λi=>decide (ws[i]?=U Wd.out)) (List.range n);rw[aaa] at this;simp only[XG] at l4;show es.length<=5;omega,hnd,λe hx=>?_,λe hx=>(he e hx).1⟩,P4,λj hj hl=>?_⟩
 rotate_left
 ·rcases(he e hx).2 with z | z
  ·cases z
  ·simpa using(Ye.mp z).2
 ·rw[k4 j hj (by omega),WS (by omega),K2 j hj hl]
 simp![El,l0,pX,fi,kr,qg,e2,oh,iu,kc,OX,e4,dG,sq1,sq2,t2]
 rfl
theorem oN:∀ (ns acc:List Int),acc.Nodup->(ns.foldl step_dedup acc).length<=acc.length+ns.length/\((ns.foldl step_dedup acc).length=acc.length+ns.length↔(acc++ns).Nodup)
 | [],acc,h=>by simp[h]
 | n::ns,acc,h=>by
  rw[Yg]
  by_cases hm:acc.any (·==n)=true
  ·rw[show step_dedup acc n=acc from WN hm]
   have hm':n∈acc:=by
    obtain⟨x,hx,e⟩:=Zm.mp hm
    have:x=n:=by simpa using e
    subst this;exact hx
   have ih:=oN ns acc h
   have ih1:(List.foldl step_dedup acc ns).length<=acc.length+ns.length:=ih.1
   refine⟨by rw[WF];omega,?_⟩
   constructor
   ·intro e
    rw[WF] at e
    omega
   ·intro hd
    exfalso
    rw[XT] at hd
    exact hd.2.2 n hm' n WE rfl
  ·rw[show step_dedup acc n=acc++[n] from WX hm]
   have hm':n∉acc:=λz=>hm (Zm.mpr ⟨n,z,by simp⟩)
   have hn:(acc++[n]).Nodup:=by
    rw[XT]
    exact⟨h,by simp,λa ha b hb=>by rw[Xc.mp hb];rintro rfl;exact hm' ha⟩
   have ih:=oN ns (acc++[n]) hn
   have e:(acc++[n]).length+ns.length=acc.length+(n::ns).length:=by simp;omega
   have e2:acc++[n]++ns=acc++n::ns:=by simp
   rw[e,e2] at ih
   exact ih
theorem sL(ns:List Int):((List.range ns.length).map λi=>ns.getD i 0)=ns:=by
 apply List.ext_getElem?
 intro i
 by_cases h:i<ns.length
 ·simp[h]
 ·rw[Yu (by simp;omega),Yu (by omega)]
theorem Qi(ns:List Int):my ns=ns.length↔ns.Nodup:=by
 unfold my firstMet
 rw[sL]
 have:=(oN ns [] aaA).2
 simpa using this
theorem vj{k:Int}:bu [.tup xs,.int k] S=U (.bl (decide ((xs.length:Int)=k)),S):=by
 rw[lb,bt (show [D.tup xs,D.int k].length=2 from rfl),show aV ee [D.tup xs,D.int k]=[U (.tup xs),U (.int k)] from rfl]
 have it:gO "tuple" S (.tup xs)=U (.bl true):=rfl
 simp![jp,tE,lp,ls,it,yk,uf,qp]
 rfl
theorem MD{lo:Int}:bZ [.int i,.int lo,.int hi] S=U (.bl (decide (lo<=i)&&decide (i<=hi)),S):=by
 have wh:iV [.int i] S=U (.bl true,S):=by
  rw[zD,bt (show [D.int i].length=1 from rfl),show aV jb [D.int i]=[U (.int i)] from rfl]
  have i1:gO "int" S (.int i)=U (.bl true):=rfl
  have i2:gO "bool" S (.int i)=U (.bl false):=rfl
  simp[sZ,i1,i2]
 rw[uQ,bt (show [D.int i,D.int lo,D.int hi].length=3 from rfl),show aV gB [D.int i,D.int lo,D.int hi]=[U (.int i),U (.int lo),U (.int hi)] from rfl]
 by_cases h:lo<=i
 ·simp[jU,wh,h]
 ·simp[jU,wh,h]
def allW:List Rw:=[.rows,.readers,.writers,.turns,.passes]
def iz(w:Rw):Nat:=if w=.passes then 10 else 1
def rulesL:List Rl:=allW.flatMap λw=>(List.range 6).flatMap λ(a:Nat)=>(List.range (iz w)).flatMap λ(b:Nat)=>([0,1]:List Int).flatMap λc=>[⟨w,(a:Int),(b:Int),c⟩]
set_option maxHeartbeats 0 in
theorem sK:(rulesL.map gn).Nodup:=by decide +kernel
theorem vD:rulesL.length=168:=by decide +kernel
theorem rn(n:Nat):cA 0 n=(List.range n).map ni:=by have:=zy n;unfold nl at this;injection this
section
variable{S:ac}
def rb3:MB:=kL (eD (bB (aa 0e0 (aa 1e0 af)))) 'c' bq (Cm (bB (aa '0' (aa '1' (aa '2' (aa '3' af))))))
def rb2:MB:=kL (bg (aa (pW (aF (az jG '0' (!"passes"))) (az be (mC ft) 1e0) 1e0) af)) 'b' bq rb3
def rb1:MB:=kL (bg (aa (az be (mC dQ) 1e0) af)) 'a' bq rb2
def I1(w:Rw)(env:ax):Prop:=∃ b c d,env=[U (.str w.s),b,c,d]
def I2(w:Rw)(a:Nat)(env:ax):Prop:=∃ c d,env=[U (.str w.s),U (ni a),c,d]
def I3(w:Rw)(a b:Nat)(env:ax):Prop:=∃ d,env=[U (.str w.s),U (ni a),U (ni b),d]
def rd(w:Rw)(a b:Nat)(c:Int):D:=(Rl.mk w (a:Int) (b:Int) c).d
theorem SX(h:I3 w a b env):∃ env',rb3 env S=U (([0,1]:List Int).flatMap (λc=>[rd w a b c]),env',S)/\I3 w a b env':=by
 have k2:gZ ([.int 0,.int 1],S)=U (.tup [.int 0,.int 1],S):=bR (by simp)
 obtain⟨env',h1,h2⟩:=iP (S:=S) (g:=aj 3) (bd:=Cm (bB (aa '0' (aa '1' (aa '2' (aa '3' af)))))) (enc:=λc:Int=>.int c) (I3 w a b) (λc=>[rd w a b c]) [0,1] env h λc _ env hi=>by
  obtain⟨d,rfl⟩:=hi
  refine⟨[U (.str w.s),U (ni a),U (ni b),U (.int c)],[U (.str w.s),U (ni a),U (ni b),U (.int c)],by rw[aQ];rfl,?_,⟨_,rfl⟩⟩
  simp![mEm_s,dG,br,kEm_s]
  rfl
 refine⟨env',?_,h2⟩
 simp only[rb3,Ck,jV,dG,ao,aM,ob,ah,av,ag,k2,UL,Kb]
 exact h1
theorem SY(h:I2 w a env):∃ env',rb2 env S=U ((List.range (iz w)).flatMap (λb=>([0,1]:List Int).flatMap λc=>[rd w a b c]),env',S)/\I2 w a env':=by
 have w1:(w.s==("passes":Str))=decide (w=.passes):=Rw.eq w .passes
 have f1:be S ft (.int 1)=U (.int 10):=rfl
 obtain⟨env',h1,h2⟩:=iP (S:=S) (g:=aj 2) (bd:=rb3) (enc:=ni) (I2 w a) (λb=>([0,1]:List Int).flatMap λc=>[rd w a b c]) (List.range (iz w)) env h λb _ env hi=>by
  obtain⟨c,d,rfl⟩:=hi
  obtain⟨env2,q1,d2,rfl⟩:=SX (S:=S) (w:=w) (a:=a) (b:=b) (env:=[U (.str w.s),U (ni a),U (ni b),d]) ⟨_,rfl⟩
  exact⟨_,_,by rw[aQ];rfl,q1,⟨_,_,rfl⟩⟩
 refine⟨env',?_,h2⟩
 have hr:∀ env,I2 w a env->(bg (aa (pW (aF (az jG '0' (!"passes"))) (az be (mC ft) 1e0) 1e0) af)) env S=U ((List.range (iz w)).map ni,S):=by
  rintro _ ⟨c,d,rfl⟩
  unfold iz
  by_cases p:w=.passes
  ·simp![fi,mM,gP,w1,Xk p,Aj,f1,WN p]
   rw[jX (by decide) (by decide),<- rn];rfl
  ·simp![fi,mM,gP,w1,Xo p,Al,WX p]
   rw[jX (by decide) (by decide),<- rn];rfl
 rw[rb2,Ck,hr _ h,ob,Kb]
 exact h1
theorem SZ(h:I1 w env):∃ env',rb1 env S=U ((List.range 6).flatMap (λa=>(List.range (iz w)).flatMap λb=>([0,1]:List Int).flatMap λc=>[rd w a b c]),env',S)/\I1 w env':=by
 have f1:be S dQ (.int 1)=U (.int 6):=rfl
 obtain⟨env',h1,h2⟩:=iP (S:=S) (g:=aj 1) (bd:=rb2) (enc:=ni) (I1 w) (λa=>(List.range (iz w)).flatMap λb=>([0,1]:List Int).flatMap λc=>[rd w a b c]) (List.range 6) env h λa _ env hi=>by
  obtain⟨b,c,d,rfl⟩:=hi
  obtain⟨env2,q1,c2,d2,rfl⟩:=SY (S:=S) (w:=w) (a:=a) (env:=[U (.str w.s),U (ni a),c,d]) ⟨_,_,rfl⟩
  exact⟨_,_,by rw[aQ];rfl,q1,⟨_,_,_,rfl⟩⟩
 refine⟨env',?_,h2⟩
 simp only[rb1,Ck,fi,ao,aU,aM,ob,aJ,aI,f1,am,ah,av,ag]
 rw[jX (by decide) (by decide),ob,Kb]
 exact h1
theorem Ny:(allW.flatMap λw=>(List.range 6).flatMap λa=>(List.range (iz w)).flatMap λb=>([0,1]:List Int).flatMap λc=>[rd w a b c])=rulesL.map Rl.d:=by
 simp only[rulesL,List.map_flatMap]
 rfl
def ruleKs:List (bD×D):=rulesL.map λr=>(.inr (gn r),r.d)
theorem IC:∀ r∈rulesL,r.Ok:=λr hr=>by
 unfold rulesL at hr
 simp only[aaj,Ym,Xc,WQ,Xn,Yn] at hr
 obtain⟨w,_,a,ha,b,hb,c,hc,rfl⟩:=hr
 have:iz w<=10:=by unfold iz;split<;>decide
 refine⟨?_,?_,?_,?_,?_,?_⟩<;>dsimp only<;>omega
theorem Nz(S:ac):∃ T,cm [] S=U (.dct (ruleKs.map (·.1)) (ruleKs.map (·.2)),S++T):=by
 rw[pQ,bt (show([]:List D).length=0 from rfl),show aV dR []=[Y] from rfl]
 obtain⟨env',h1,_⟩:=iP (S:=S) (g:=aj 0) (bd:=rb1) (enc:=λw:Rw=>.str w.s) (λenv=>∃ a b c d,env=[a,b,c,d]) (λw=>(List.range 6).flatMap (λa=>(List.range (iz w)).flatMap λb=>([0,1]:List Int).flatMap λc=>[rd w a b c])) allW [Y,Y,Y,Y] ⟨_,_,_,_,rfl⟩ λw _ env hi=>by
  obtain⟨a,b,c,d,rfl⟩:=hi
  obtain⟨env2,q1,b2,c2,d2,rfl⟩:=SZ (S:=S) (w:=w) (env:=[U (.str w.s),b,c,d]) ⟨_,_,_,rfl⟩
  exact⟨_,_,by rw[aQ];rfl,q1,⟨_,_,_,_,rfl⟩⟩
 rw[Ny] at h1
 obtain⟨T,h2⟩:=tH (g:=aj 0) (a:=ai 1 eJ (aa '0' af)) (b:=ae 0) (enc:=Rl.d) (λenv=>∃ a,env=[a]) gn rulesL [Y] S [] ⟨_,rfl⟩ (by rw[vD];decide) λr hr env S hi=>by
  obtain⟨a,rfl⟩:=hi
  obtain⟨T,e⟩:=BE S (IC r hr)
  refine⟨[U r.d],T,by rw[aQ];rfl,?_,λS=>by simp only[aq,ci,oj,ob,am],⟨_,rfl⟩⟩
  simp only[aO,ao,aq,ci,oj,ob,am,ah,av,ag,iT,e]
 rw[zC sK] at h2
 refine⟨T,?_⟩
 have hm:ko=aD (aH (eG (eD (mC gz)) '`' bq rb1 [Y,Y,Y,Y]) '`') (aX (gu (eD '0') '`' bq (ai 1 eJ (aa '0' af)) '0' [Y])):=rfl
 have ki:Ai (gz,S)=U (allW.map λw=>.str w.s,S):=rfl
 have kl:∀ e,Pb (rulesL.map Rl.d,e,S)=U (.lst (rulesL.map Rl.d),S):=λe=>Pa (by rw[WI,vD];decide)
 rw[hm]
 simp![JK,jV,ki,kCN_s,show mz [Y,Y,Y,Y] [Y]=[Y,Y,Y,Y] from rfl,h1,kl,JI,yi,kDC_s,show ∀ x:Option D,mz [Y] [x]=[Y] from λ_=>rfl,h2,UQ]
 rfl
theorem IE{r:Rl}(h:r.Ok)(hb:r.w≠.passes->r.b=0):r∈rulesL:=by
 obtain⟨w,a,b,c⟩:=r
 obtain⟨a0,a5,b0,b9,c0,c1⟩:=h
 dsimp only at *
 unfold rulesL
 simp only[aaj,Ym,Xc,WQ,Xn,Yn]
 refine⟨w,by cases w<;>decide,a.toNat,by omega,b.toNat,?_,c,by omega,?_⟩
 ·unfold iz
  split
  ·omega
  ·rename_i p;have:=hb p;omega
 ·rw[show((a.toNat:Nat):Int)=a by omega,show((b.toNat:Nat):Int)=b by omega]
end
def kv(r:Rl):bD×D:=(.inr (gn r),r.d)
def dc(l:List (bD×D)):Cell:=.dct (l.map (·.1)) (l.map (·.2))
theorem vM:∀ (a b l:List (bD×D)),bQ l (a++b)=bQ (bQ l a) b
 | [],b,l=>rfl
 | p::a,b,l=>vM a b _
theorem Dw:∀ (l:List (bD×D)) (k:bD) (d:D),(zd l k d).length=l.length
 | [],_,_=>rfl
 | p::r,k,d=>by rw[zd,WF,WF,Dw r]
theorem vL:∀ (a l:List (bD×D)),(bQ l a).length<=l.length+a.length
 | [],l=>WH _
 | p::a,l=>by
  refine Xa (vL a _) ?_
  rw[WF]
  unfold jR
  split
  ·rw[Dw];omega
  ·rw[Xf];simp only[WF,XG];omega
section
variable{S0:ac}{tg:MG}{p:MS}
theorem Kz{α:Type}{enc:α->D}(I:ax->Prop)(f:α->List Rl):∀ (xs:List α) (env:ax) (l:List (bD×D)),I env->l.length+(xs.flatMap f).length<=400 ->
  (∀ x∈xs,∀ env l,I env->l.length+(f x).length<=400->∃ env1 env2,tg (enc x) env (S0++[dc l])=U (env1,S0++[dc l])/\p env1 (S0++[dc l])=U (.nx env2 (S0++[dc (bQ l ((f x).map kv))]))/\I env2) ->
  ∃ env',cE tg p (xs.map enc) env (S0++[dc l])=U (.nx env' (S0++[dc (bQ l ((xs.flatMap f).map kv))]))/\I env'
 | [],env,l,h,_,_=>⟨env,rfl,h⟩
 | x::xs,env,l,h,hl,hs=>by
  rw[List.flatMap_cons,Xf] at hl
  obtain⟨env1,env2,e1,e2,h2⟩:=hs x (by simp) env l h (by omega)
  have:=vL ((f x).map kv) l
  rw[WI] at this
  obtain⟨env',e3,h3⟩:=Kz I f xs env2 (bQ l ((f x).map kv)) h2 (by omega) λy hy=>hs y (WB _ hy)
  refine⟨env',?_,h3⟩
  rw[WO,gM,e1,ob,qf,e2,ob,lR,e3,List.flatMap_cons,Yf,vM]
end
def lrP:MS:=aH (bB (aa '1' (aa '3' (aa '2' (aa '4' af))))) (jm '0' (ai 1 bj (aa (bB (aa '1' (aa '3' (aa '2' (aa '4' af))))) af)))
def lr4:MS:=dM (bB (aa 0e0 (aa 1e0 af))) 'd' lrP
def lr3:MS:=gY (bg (aa 6e0 af)) 'c' lr4
def lr2:MS:=gY (bg (aa (az bz (cP (aa 1e0 (aa 10e0 af))) (ay (ak iX) (aa (az jG '1' (!"passes")) af))) af)) 'b' lr3
def lrM:MS:=aD (aH (ei []) '`') (aD (dM (bB (aa (!"rows") (aa (!"readers") (aa (!"writers") (aa (!"turns") (aa (!"passes") af)))))) 'a' lr2) (aX '0'))
theorem Uk:nW=lrM:=rfl
def l4(w:Rw)(b a:Nat):List Rl:=([0,1]:List Int).flatMap λc=>[⟨w,(a:Int),(b:Int),c⟩]
def l3(w:Rw)(b:Nat):List Rl:=(List.range 6).flatMap (l4 w b)
def l2(w:Rw):List Rl:=(List.range (iz w)).flatMap (l3 w)
def lawL:List Rl:=allW.flatMap l2
theorem law_mem{r:Rl}:r∈lawL↔r∈rulesL:=by
 unfold lawL rulesL l2 l3 l4
 simp only[aaj]
 constructor
 ·rintro⟨w,hw,b,hb,a,ha,c,hc,h⟩;exact⟨w,hw,a,ha,b,hb,c,hc,h⟩
 ·rintro⟨w,hw,a,ha,b,hb,c,hc,h⟩;exact⟨w,hw,b,hb,a,ha,c,hc,h⟩
theorem Ku{α β:Type}{f:α->β}:∀ {l:List α},(l.map f).Nodup->∀ a∈l,∀ b∈l,f a=f b->a=b
 | [],_,a,ha,_,_,_=>by cases ha
 | x::l,h,a,ha,b,hb,e=>by
  rw[WO,Ys] at h
  rcases WQ.mp ha with ea | ha'<;>rcases WQ.mp hb with eb | hb'
  ·rw[ea,eb]
  ·exact absurd (Xs.mpr ⟨b,hb',by rw[<- e,ea]⟩) h.1
  ·exact absurd (Xs.mpr ⟨a,ha',by rw[e,eb]⟩) h.1
  ·exact Ku h.2 a ha' b hb' e
def rlN(r:Rl):Int:=(match r.w with | .rows=>0 | .readers=>1 | .writers=>2 | .turns=>3 | .passes=>4)*1000+r.a*100+r.b*10+r.c
theorem OL:(lawL.map rlN).Nodup:=by decide +kernel
theorem JP:(lawL.map gn).Nodup:=by
 have nd:lawL.Nodup:=(ZZ.mp OL).imp λh e=>h (by rw[e])
 refine ZZ.mpr (nd.imp_of_mem λ{a b} ha hb h e=>h ?_)
 exact Ku sK a (law_mem.mp ha) b (law_mem.mp hb) e
section
variable{S0:ac}{l:List (bD×D)}{a1 a2 a3 a4:Option D}{w:Rw}{a b:Nat}
theorem kput{d:D}(hl:l.length<=400):yd (.ref S0.length) d env (.str z,S0++[dc l])=U (env,S0++[dc (jR l (.inr z) d)]):=by
 unfold yd
 dsimp only
 rw[sx]
 show(if (l.map (·.1)).length<=500 then U (env,(S0++[dc l]).set S0.length (.dct ((jR ((l.map (·.1)).zip (l.map (·.2))) (.inr z) d).map (·.1)) ((jR ((l.map (·.1)).zip (l.map (·.2))) (.inr z) d).map (·.2)))) else Y)=_
 rw[WN (by rw[WI];omega),wU,Fi]
 rfl
def eR(S0:ac)(a1 a2 a3 a4:Option D):ax:=[U (.ref S0.length),a1,a2,a3,a4]
theorem Uj{c:Int}(h:(⟨w,(a:Int),(b:Int),c⟩:Rl).Ok)(hl:l.length<=400):lrP (eR S0 (U (.str w.s)) (U (ni b)) (U (ni a)) (U (.int c))) (S0++[dc l])=U (.nx (eR S0 (U (.str w.s)) (U (ni b)) (U (ni a)) (U (.int c))) (S0++[dc (bQ l (([⟨w,(a:Int),(b:Int),c⟩]:List Rl).map kv))])):=by
 have t4:∀ x y z u:D,∀ S,gZ ([x,y,z,u],S)=U (.tup [x,y,z,u],S):=λx y z u S=>bR (by simp)
 have e:bj [.tup [.str w.s,ni a,ni b,.int c]] (S0++[dc l])=U (.str (gn ⟨w,(a:Int),(b:Int),c⟩),S0++[dc l]):=by rw[zi h];exact mP _ h
 simp![lrP,eR,dG,t4,Pj,JS,iT,e,kput hl]
 rfl
theorem Ul(ha:a<6)(hb:b<iz w)(hl:l.length+2<=400):∃ b4,lr4 (eR S0 (U (.str w.s)) (U (ni b)) (U (ni a)) a4) (S0++[dc l])=U (.nx (eR S0 (U (.str w.s)) (U (ni b)) (U (ni a)) b4) (S0++[dc (bQ l ((l4 w b a).map kv))])):=by
 have km:iz w<=10:=by unfold iz;split<;>decide
 obtain⟨env',e,b4,rfl⟩:=Kz (S0:=S0) (tg:=aj 4) (p:=lrP) (enc:=λc:Int=>.int c) (λenv=>∃ a4,env=eR S0 (U (.str w.s)) (U (ni b)) (U (ni a)) a4) (λc=>[⟨w,(a:Int),(b:Int),c⟩]) [0,1] (eR S0 (U (.str w.s)) (U (ni b)) (U (ni a)) a4) l ⟨_,rfl⟩ hl λc hc env l hi hl=>by
  obtain⟨q,rfl⟩:=hi
  have hc:c=0\/c=1:=by simpa using hc
  exact⟨_,_,by rw[aQ];rfl,Uj ⟨by dsimp only;omega,by dsimp only;omega,by dsimp only;omega,by dsimp only;omega,by dsimp only;omega,by dsimp only;omega⟩ (by omega),⟨_,rfl⟩⟩
 have t2:∀ S,gZ ([.int 0,.int 1],S)=U (.tup (([0,1]:List Int).map λc=>.int c),S):=λS=>bR (by simp)
 refine⟨b4,?_⟩
 simp only[lr4,oh,dG,ao,aM,ob,ah,av,ag,t2,sh,e]
 rfl
theorem Um(hb:b<iz w)(hl:l.length+12<=400):∃ b3 b4,lr3 (eR S0 (U (.str w.s)) (U (ni b)) a3 a4) (S0++[dc l])=U (.nx (eR S0 (U (.str w.s)) (U (ni b)) b3 b4) (S0++[dc (bQ l ((l3 w b).map kv))])):=by
 obtain⟨env',e,b3,b4,rfl⟩:=Kz (S0:=S0) (tg:=aj 3) (p:=lr4) (enc:=ni) (λenv=>∃ a3 a4,env=eR S0 (U (.str w.s)) (U (ni b)) a3 a4) (l4 w b) (List.range 6) (eR S0 (U (.str w.s)) (U (ni b)) a3 a4) l ⟨_,_,rfl⟩ hl λa ha env l hi hl=>by
  obtain⟨q,q',rfl⟩:=hi
  obtain⟨b4,e⟩:=Ul (S0:=S0) (l:=l) (a4:=q') (Ym.mp ha) hb hl
  exact⟨_,_,by rw[aQ];rfl,e,⟨_,_,rfl⟩⟩
 have r1:∀ S,RA ([.int 6],S)=U ((List.range 6).map ni,S):=λS=>by rw[jX (by omega) (by omega),<- rn];rfl
 refine⟨b3,b4,?_⟩
 simp only[lr3,pX,fi,ao,aM,ob,ah,av,ag,r1,qg,e]
 rfl
theorem Uo(hl:l.length+(l2 w).length<=400):∃ b2 b3 b4,lr2 (eR S0 (U (.str w.s)) a2 a3 a4) (S0++[dc l])=U (.nx (eR S0 (U (.str w.s)) b2 b3 b4) (S0++[dc (bQ l ((l2 w).map kv))])):=by
 obtain⟨env',e,b2,b3,b4,rfl⟩:=Kz (S0:=S0) (tg:=aj 2) (p:=lr3) (enc:=ni) (λenv=>∃ a2 a3 a4,env=eR S0 (U (.str w.s)) a2 a3 a4) (l3 w) (List.range (iz w)) (eR S0 (U (.str w.s)) a2 a3 a4) l ⟨_,_,_,rfl⟩ hl λb hb env l hi hl=>by
  obtain⟨q,q',q2,rfl⟩:=hi
  obtain⟨b3,b4,e⟩:=Um (S0:=S0) (l:=l) (a3:=q') (a4:=q2) (Ym.mp hb) hl
  exact⟨_,_,by rw[aQ];rfl,e,⟨_,_,_,rfl⟩⟩
 have k2:∀ S,nk ([.int 1,.int 10],S)=U (.lst [.int 1,.int 10],S):=λS=>fm (by simp)
 have x2:∀ S,bz S (.lst [.int 1,.int 10]) (.int (if (w.s==("passes":Str))=true then 1 else 0))=U (.int (iz w:Int)):=λS=>by cases w<;>rfl
 have r1:∀ S,RA ([.int (iz w:Int)],S)=U ((List.range (iz w)).map ni,S):=λS=>by
  have km:iz w<=10:=by unfold iz;split<;>decide
  rw[jX (by omega) (by omega),YA,rn]
 refine⟨b2,b3,b4,?_⟩
 simp![lr2,eR,pX,fi,jr,k2,gP,EU,x2,r1,qg]
 exact e
end
theorem JR:lawL.length=168:=by decide +kernel
theorem Cp(S:ac):dI [] S=U (.ref S.length,S++[dc (lawL.map kv)]):=by
 rw[uR,bt (show([]:List D).length=0 from rfl),show aV gC []=[Y,Y,Y,Y,Y] from rfl,Uk]
 obtain⟨env',e,b1,b2,b3,b4,rfl⟩:=Kz (S0:=S) (tg:=aj 1) (p:=lr2) (enc:=λw:Rw=>.str w.s) (λenv=>∃ a1 a2 a3 a4,env=eR S a1 a2 a3 a4) l2 allW (eR S Y Y Y Y) [] ⟨_,_,_,_,rfl⟩ (by show 0+lawL.length<=400;rw[JR];decide) λw _ env l hi hl=>by
  obtain⟨q,q',q2,q3,rfl⟩:=hi
  obtain⟨b2,b3,b4,e⟩:=Uo (S0:=S) (w:=w) (l:=l) (a2:=q') (a3:=q2) (a4:=q3) hl
  exact⟨_,_,by rw[aQ];rfl,e,⟨_,_,_,_,rfl⟩⟩
 have t5:∀ S,gZ ([.str "rows",.str "readers",.str "writers",.str "turns",.str "passes"],S)=U (.tup (allW.map λw=>.str w.s),S):=λS=>bR (by simp)
 have k1:yj ([],S)=U (.ref S.length,S++[dc []]):=Gc (by simp) (by simp)
 have fin:bQ [] ((allW.flatMap l2).map kv)=lawL.map kv:=zC (key:=gn) (enc:=Rl.d) JP
 rw[fin] at e
 unfold eR at e
 simp![lrM,JH,Ci,k1,oh,dG,t5,sh,e]
theorem yP{L:List Rl}{z:Str}(h:∀ r∈L,gn r≠z):eg (L.map kv) (.inr z)=Y:=by
 induction L with
 | nil=>rfl
 | cons r L ih=>
  show(if (Sum.inr (gn r):bD)=Sum.inr z then U r.d else eg (L.map kv) (.inr z))=Y
  rw[WX (λe=>h r (by simp) (aas e)),ih λx hx=>h x (WB _ hx)]
theorem xD(z:Str):(∃ r:Rl,eg ruleKs (.inr z)=U r.d/\eg (lawL.map kv) (.inr z)=U r.d)\/eg ruleKs (.inr z)=Y/\eg (lawL.map kv) (.inr z)=Y:=by
 by_cases h:∃ r∈rulesL,gn r=z
 ·obtain⟨r,hr,rfl⟩:=h
  exact .inl ⟨r,wX (key:=gn) (enc:=Rl.d) sK r hr,wX (key:=gn) (enc:=Rl.d) JP r (law_mem.mpr hr)⟩
 ·exact .inr ⟨yP λr hr e=>h ⟨r,hr,e⟩,yP λr hr e=>h ⟨r,law_mem.mp hr,e⟩⟩
def pl(c:Nat):Prop:=c<128
structure Cl(b:Nat)(z:Str):Prop where
 c:∀ c∈z.cps.toList,pl c
 l:z.length<=b
def MW(b:Nat)(z:Str):Bool:=(z.cps.toList.all λc=>decide (c<128))&&decide (z.length<=b)
theorem gR(h:MW b z=true):Cl b z:=by
 unfold MW at h
 rw[Wz,WP,WM] at h
 exact⟨λc hc=>by have:=h.1 c hc;rw[WM] at this;exact this,h.2⟩
section
variable{a b:Nat}{x y z:Str}
theorem Cl.up(h:Cl a z)(k:a<=b):Cl b z:=⟨h.c,Xa h.l k⟩
theorem cpsA(x y:Str):(x++y).cps.toList=x.cps.toList++y.cps.toList:=by simp[Str.cps_append]
theorem Cl.app(h:Cl a x)(k:Cl b y):Cl (a+b) (x++y):=⟨λc hc=>by
 rw[cpsA,Xb] at hc
 rcases hc with hc | hc
 ·exact h.c c hc
 ·exact k.c c hc,by rw[iy];exact Nat.add_le_add h.l k.l⟩
theorem Cl.slice(h:Cl b z)(l u:Option Int):Cl b (Txt.slice z l u):=⟨λc hc=>by
 unfold Txt.slice at hc
 split at hc
 ·exact h.c c hc
 ·obtain⟨i,_,hi⟩:=ZO.mp (show c∈(strSliceIndices l u 1 z.length).filterMap (z.cps[·]?) by simpa using hc)
  exact h.c c (abh.mpr (Array.mem_of_getElem? hi)),Xa (Txt.slice_le _ _ _) h.l⟩
theorem Cl.upper(h:Cl b z):Cl b (Txt.upper z):=by
 rw[upper_ascii h.c]
 refine⟨λc hc=>?_,?_⟩
 ·obtain⟨d,hd,rfl⟩:=Xs.mp (show c∈z.cps.toList.map up1 by simpa using hc)
  have:=h.c d hd
  unfold pl at this ⊢
  unfold up1
  split<;>omega
 ·show(z.cps.map up1).size<=b
  rw[Array.size_map];exact h.l
def wt(ps:List Str):Nat:=(ps.map (·.length)).sum+ps.length
theorem jP(p:Str)(ps:List Str):wt (p::ps)=p.length+1+wt ps:=by unfold wt;simp only[WO,Yi,WF];omega
theorem po(ps qs:List Str):wt (ps++qs)=wt ps+wt qs:=by unfold wt;simp only[Yf,List.sum_append,Xf];omega
theorem Si(ps:List Str):wt ps.reverse=wt ps:=by
 induction ps with
 | nil=>rfl
 | cons p ps ih=>rw[YM,po,ih,jP,jP];show _+(_+1+0)=_;omega
theorem pF:(Str.ofString " ").length=1/\(Str.ofString " ").cps.toList=[32]:=by decide +kernel
theorem Dp:∀ ps:List Str,wt ps<=(Str.join " " ps).length+1
 | []=>by show 0<=_;omega
 | [p]=>by show p.length+0+1<=p.length+1;omega
 | p::q::r=>by
  have:=Dp (q::r)
  rw[jP]
  show _<=(p++" "++Str.join " " (q::r)).length+1
  rw[iy,iy,show(" ":Str).length=1 from pF.1];omega
theorem la{c:Nat}{s:Str}:∀ ps:List Str,(c∈(Str.join s ps).cps.toList->c∈s.cps.toList\/∃ p∈ps,c∈p.cps.toList)/\((∃ p∈ps,c∈p.cps.toList)->c∈(Str.join s ps).cps.toList)
 | []=>⟨λh=>absurd h (by show ¬ c∈([]:List Nat);exact Xn),λh=>by obtain⟨_,h,_⟩:=h;cases h⟩
 | [p]=>⟨λh=>.inr ⟨p,by simp,h⟩,λh=>by obtain⟨q,h,hc⟩:=h;rw[Xc.mp h] at hc;exact hc⟩
 | p::q::r=>by
  obtain⟨i1,i2⟩:=la (c:=c) (s:=s) (q::r)
  rw[join2,Xb,Xb]
  refine⟨λh=>?_,λ⟨u,hu,hc⟩=>?_⟩
  ·rcases h with h | h | h
   ·exact .inr ⟨p,by simp,h⟩
   ·exact .inl h
   ·rcases i1 h with h | ⟨u,hu,hc⟩
    ·exact .inl h
    ·exact .inr ⟨u,WB _ hu,hc⟩
  ·rcases WQ.mp hu with rfl | hu
   ·exact .inl hc
   ·exact .inr (.inr (i2 ⟨u,hu,hc⟩))
structure Cls(w:Nat)(ps:List Str):Prop where
 c:∀ p∈ps,∀ c∈p.cps.toList,pl c
 l:wt ps<=w
theorem Cl.split(h:Cl b z):Cls (b+1) (Txt.split z " "):=by
 have e:=ZN z " "
 refine⟨λp hp c hc=>h.c c (by rw[<- e];exact(la _).2 ⟨p,hp,hc⟩),?_⟩
 have:=Dp (Txt.split z " ")
 rw[e] at this
 have:=h.l
 omega
theorem za(z y:Str):Txt.split z y≠[]:=by
 unfold Txt.split
 split
 ·exact λh=>by cases h
 ·split
  ·exact λh=>by cases h
  ·rw[StrLaws.partsBetween_eq]
   obtain⟨p,r,e⟩:=StrLaws.partsFrom_ne z y.length 0 (Builtin.Str.occurrences z y 0 z.length (z.length+1))
   rw[e];exact λh=>by cases h
variable{w:Nat}{ps:List Str}
theorem Cls.join(h:Cls w ps):Cl w (Str.join " " ps):=by
 refine⟨λc hc=>?_,?_⟩
 ·rcases(la ps).1 hc with hc | ⟨p,hp,hc⟩
  ·rw[pF.2,Xc] at hc
   subst hc
   show 32<128
   decide
  ·exact h.c p hp c hc
 ·have:=wn " " ps
  rw[show(" ":Str).length=1 from pF.1] at this
  have:=h.l
  unfold wt at this
  omega
theorem Cls.put(h:Cls w ps)(ho:Cl a o)(i:Nat):Cls (w+a+1) (ps.take i++[o]++ps.drop (i+1)):=by
 refine⟨λp hp=>?_,?_⟩
 ·rw[Xb,Xb,Xc] at hp
  rcases hp with (hp | rfl) | hp
  ·exact h.c p (XZ hp)
  ·exact ho.c
  ·exact h.c p (YT hp)
 ·have e:wt (ps.take i)+wt (ps.drop i)=wt ps:=by rw[<- po,XR]
  have e2:wt (ps.drop (i+1))<=wt (ps.drop i):=by
   rw[<- List.drop_drop]
   cases ps.drop i with
   | nil=>exact WH _
   | cons q r=>rw[jP];show wt r<=_;omega
  rw[po,po]
  show _+(o.length+0+1)+_<=_
  have:=h.l
  have:=ho.l
  omega
theorem Cls.rev(h:Cls w ps):Cls w ps.reverse:=⟨λp hp=>h.c p (List.mem_reverse.mp hp),by rw[Si];exact h.l⟩
theorem Cls.few(h:Cls w ps):(ps.map (·.length)).sum+ps.length*(Str.ofString " ").length<=w:=by rw[pF.1];have:=h.l;unfold wt at this;omega
theorem Cls.len(h:Cls w ps):ps.length<=w:=by have:=h.l;unfold wt at this;omega
theorem MH{xs:List Str}{q:Int}(h0:0<=q)(h1:q<xs.length)(h:∀ x∈xs,Cl b x):∃ x,mD (xs.map D.str) q=U (.str x)/\Cl b x:=by
 obtain⟨i,rfl⟩:∃ i:Nat,q=(i:Int):=⟨q.toNat,by omega⟩
 have hi:i<xs.length:=by omega
 exact⟨xs[i],wT (by rw[XU,WK hi];rfl),h _ (List.getElem_mem hi)⟩
theorem MM{xs:List Str}(h:xs.all (MW b)=true):∀ x∈xs,Cl b x:=λx hx=>gR (WP.mp h x hx)
end
section
variable{env:ax}{S S':ac}{x y d:D}{a b:ME}{ms:MA}{lo hi:MO}
theorem sk{i j:Str}(h:i.length+j.length<=1000000):er S (.str i) (.str j)=U (.str (i++j)):=gX (S:=S) h
theorem Pw:er S (.int i) (.int j)=U (.int (i+j)):=lD (S:=S)
def OR(z:Str)(l:Option Int)(q:Option Int×ac):Option (D×ac):=if z.length<=ww then U (.str (Txt.slice z l q.1),q.2) else Y
def UC(hi:MO)(env:ax)(z:Str)(q:Option Int×ac):Option (D×ac):=(hi env q.2).bind (OR z q.1)
def kSz(lo hi:MO)(env:ax)(p:D×ac):Option (D×ac):=match p.1 with
 | .str z=>(lo env p.2).bind (UC hi env z)
 | _=>UE lo hi env p
theorem pV:aS a lo hi env S=(a env S).bind (kSz lo hi env):=by
 rw[tw]
 show(a env S).bind _=_
 refine congrArg _ ?_
 funext p
 obtain⟨x,S1⟩:=p
 cases x<;>(first | rfl | (show cB _ lo hi env S=_;rw[tq];rfl))
theorem kSz_s:kSz lo hi env (.str z,S)=(lo env S).bind (UC hi env z):=id rfl
theorem Ry:kSz lo hi env (.lst xs,S)=(lo env S).bind (OT hi env (.lst xs)):=id rfl
theorem UB{l:Option Int}:UC hi env z (l,S)=(hi env S).bind (OR z l):=id rfl
theorem OQ{z:Str}{h:Option Int}(hz:z.length<=1000000):OR z l (h,S)=U (.str (Txt.slice z l h),S):=WN (Nt hz)
def Ct(x:D)(k:Option Int×ac):Option (D×ac):=match x,k.1 with
 | .lst xs,U j=>if j = -1 then U (.lst xs.reverse,k.2) else Y
 | _,_=>Y
def Rz(st:MO)(env:ax)(p:D×ac):Option (D×ac):=(st env p.2).bind (Ct p.1)
theorem OJ:ji a lo env S=(a env S).bind (Rz lo env):=by rw[zN];rfl
theorem OU:Rz lo env (x,S)=(lo env S).bind (Ct x):=id rfl
theorem JY:Ct (.lst xs) (U (-1),S)=U (.lst xs.reverse,S):=id rfl
def Cr(p:D×ac):Option (D×ac):=match p.1 with | .str z=>if tooLong (Txt.upper z).length=false then U (.str (Txt.upper z),p.2) else Y | _=>Y
theorem Jy:gK a env S=(a env S).bind Cr:=by rw[vQ];rfl
theorem FY(h:(Txt.upper z).length<=1000000):Cr (.str z,S)=U (.str (Txt.upper z),S):=WN (by
 unfold tooLong
 exact Xo (by have:=Nt h;omega))
theorem qm{z:Str}(h:z.length<=1000000):ak fU [.str z] S=U (.lst (iL z),S):=by
 have:fU S [.str z]=U (.lst (iL z)):=WN (Nt h)
 show(fU S [.str z]).bind _=_
 rw[this];rfl
end
def sp0:MS:=aH (bW '1' (aa (!" ") af)) 'b'
def sp1:MS:=lm 3 4 (aa (ai 2 aw (aa '0' (aa (az be (ay (ak bT) (aa '1' af)) 1e0) af))) (aa (ai 2 aw (aa '0' (aa (ay (ak bT) (aa '2' af)) af))) af))
def sp2:MS:=aH (az bz (ay (ak fU) (aa (!"0123459 ,-ak\n") af)) (ai 2 aw (aa '0' (aa 13e0 af)))) 'e'
def sp3:MS:=aH (cP (aa (!"most") (aa (!"ups") (aa (!"0") (aa (!"9") (aa (!"10") (aa (!"01") (aa (!"6") (aa (!"-") (aa (!"out") (aa (!"reads,") (aa (!"read") (aa (!"passes") (aa (!"rows") (aa (!"") af))))))))))))))) 'f'
def sp4:MS:=aH (az bz '6' (ai 2 aw (aa '0' (aa 14e0 af)))) 'f'
def sp5:MS:=aH (cP (aa (az er (aS '1' aW (bA '3')) (aS '1' (bA (az er '3' 1e0)) aW)) (aa (az er (az er (aS '1' aW (bA '3')) '5') (aS '1' (bA '3') aW)) (aa (az er (az er (aS '1' aW (bA '3')) '5') (aS '1' (bA (az er '3' 1e0)) aW)) af)))) 'g'
def sp6:MS:=aH (az be '7' (cP (aa (cC (!" ") (aa (az be (az be (aS '2' aW (bA '4')) (cP (aa '6' af))) (aS '2' (bA (az be '4' 1e0)) aW)) af)) (aa (cC (!" ") (aa (az be (aS '2' aW (bA '4')) (aS '2' (bA (az be '4' 1e0)) aW)) af)) af)))) 'g'
def sp7:MS:=aH (az be '7' (cP (aa (cC (!" ") (aa (az be (aS '2' aW (bA (az be '4' 1e0))) (aS '2' (bA '4') aW)) af)) (aa (cC (!" ") (aa (az be (aS '2' aW (bA '4')) (ji (aS '2' (bA '4') aW) (bA (Bm KM 1e0)))) af)) (aa (gK '1') af))))) 'g'
def sp8:MS:=aX (az bz '7' (ai 2 aw (aa '0' (aa 8e0 af))))
def Hx:MS:=aD sp0 (aD sp1 (aD sp2 (aD sp3 (aD sp4 (aD sp5 (aD sp6 (aD sp7 (sp8))))))))
theorem SC:mL=Hx:=rfl
def signsL:List Str:=[⟨#[48]⟩,⟨#[49]⟩,⟨#[50]⟩,⟨#[51]⟩,⟨#[52]⟩,⟨#[53]⟩,⟨#[57]⟩,⟨#[32]⟩,⟨#[44]⟩,⟨#[45]⟩,⟨#[97]⟩,⟨#[107]⟩,⟨#[10]⟩]
def othersL:List Str:=["most","ups","0","9","10","01","6","-","out","reads,","read","passes","rows",""]
theorem zb:iL "0123459 ,-ak\n" = signsL.map .str/\(Str.ofString "0123459 ,-ak\n").length<=1000:=by
 refine⟨?_,by decide +kernel⟩
 have:(Str.ofString "0123459 ,-ak\n").cps.toList=[48,49,50,51,52,53,57,32,44,45,97,107,10]:=by decide +kernel
 show(Str.ofString "0123459 ,-ak\n").cps.toList.map (λc=>D.str ⟨#[c]⟩)=_
 rw[this];rfl
theorem Io:∀ x∈signsL,Cl 1 x:=MM (by decide +kernel)
theorem FM:∀ x∈othersL,Cl 6 x:=MM (by decide +kernel)
theorem sE:(Str.ofString " ").cps.toList=[32]/\Builtin.Str.strKind (Str.ofString " ")=1/\((Str.ofString " ").length==0)=false:=by decide +kernel
theorem Cls.cat(h:Cls v ps)(k:Cls w qs):Cls (v+w) (ps++qs):=⟨λp hp=>(Xb.mp hp).elim (h.c p) (k.c p),by rw[po];exact Nat.add_le_add h.l k.l⟩
theorem QW(ps:List Str)(i:Nat):wt (ps.take i)+wt (ps.drop i)=wt ps:=by rw[<- po,XR]
theorem Cls.tk(h:Cls w ps)(i:Nat):Cls w (ps.take i):=⟨λp hp=>h.c p (XZ hp),by have:=QW ps i;have:=h.l;omega⟩
theorem Cls.dr(h:Cls w ps)(i:Nat):Cls w (ps.drop i):=⟨λp hp=>h.c p (YT hp),by have:=QW ps i;have:=h.l;omega⟩
section
variable{S:ac}{r b:Nat}{z sg ot:Str}{q1:Int}{i:Nat}
def X3(z:Str)(q1:Int)(sg:Str):List Str:=[Txt.slice z Y (U q1)++Txt.slice z (U (q1+1)) Y,Txt.slice z Y (U q1)++sg++Txt.slice z (U q1) Y,Txt.slice z Y (U q1)++sg++Txt.slice z (U (q1+1)) Y]
def pA(z:Str)(i:Nat)(ot:Str):List Str:=(Txt.split z " ").take i++[ot]++(Txt.split z " ").drop (i+1)
def pB(z:Str)(i:Nat):List Str:=(Txt.split z " ").take i++(Txt.split z " ").drop (i+1)
def pC(z:Str)(i:Nat):List Str:=(Txt.split z " ").take (i+1)++(Txt.split z " ").drop i
def pD'(z:Str)(i:Nat):List Str:=(Txt.split z " ").take i++((Txt.split z " ").drop i).reverse
def X5(z:Str)(i:Nat)(ot:Str):List Str:=[Str.join " " (pA z i ot),Str.join " " (pB z i)]
def X8(z:Str)(i:Nat):List Str:=[Str.join " " (pC z i),Str.join " " (pD' z i),Txt.upper z]
theorem pA_c(h:Cl b z)(ho:Cl 6 ot):Cls (b+1+6+1) (pA z i ot):=h.split.put ho i
theorem pB_c(h:Cl b z):Cls (b+1+(b+1)) (pB z i):=(h.split.tk i).cat (h.split.dr (i+1))
theorem pC_c(h:Cl b z):Cls (b+1+(b+1)) (pC z i):=(h.split.tk (i+1)).cat (h.split.dr i)
theorem pD_c(h:Cl b z):Cls (b+1+(b+1)) (pD' z i):=(h.split.tk i).cat (h.split.dr i).rev
theorem x3_cl(h:Cl b z)(hs:Cl 1 sg):∀ x∈X3 z q1 sg,Cl (2*b+10) x:=by
 intro x hx
 have s1:=h.slice Y (U q1)
 have s2:=h.slice (U (q1+1)) Y
 have s3:=h.slice (U q1) Y
 unfold X3 at hx
 simp only[WQ,Xn,Yn] at hx
 rcases hx with rfl | rfl | rfl
 ·exact(s1.app s2).up (by omega)
 ·exact((s1.app hs).app s3).up (by omega)
 ·exact((s1.app hs).app s2).up (by omega)
theorem x5_cl(h:Cl b z)(ho:Cl 6 ot):∀ x∈X5 z i ot,Cl (2*b+10) x:=by
 intro x hx
 unfold X5 at hx
 simp only[WQ,Xn,Yn] at hx
 rcases hx with rfl | rfl
 ·exact(pA_c h ho).join.up (by omega)
 ·exact(pB_c h).join.up (by omega)
theorem x8_cl(h:Cl b z):∀ x∈X8 z i,Cl (2*b+10) x:=by
 intro x hx
 unfold X8 at hx
 simp only[WQ,Xn,Yn] at hx
 rcases hx with rfl | rfl | rfl
 ·exact(pC_c h).join.up (by omega)
 ·exact(pD_c h).join.up (by omega)
 ·exact h.upper.up (by omega)
def eS(r:Nat)(z:Str)(q1:Int)(i:Nat)(sg ot:Str)(a7:Option D):ax:=[U (.ref r),U (.str z),U (.lst ((Txt.split z " ").map .str)),U (.int q1),U (.int (i:Int)),U (.str sg),U (.str ot),a7]
theorem SH(h:Cl b z)(hs:Cl 1 sg)(hb:b<=400):sp5 (eS r z q1 i sg ot a7) S=U (.nx (eS r z q1 i sg ot (U (.lst ((X3 z q1 sg).map .str)))) S):=by
 have s1:=(h.slice Y (U q1)).l
 have s2:=(h.slice (U (q1+1)) Y).l
 have s3:=(h.slice (U q1) Y).l
 have h1:=h.l
 have h2:=hs.l
 have kz:∀ l u,OR z l (u,S)=U (.str (Txt.slice z l u),S):=λl u=>OQ (by omega)
 have a1:er S (.str (Txt.slice z Y (U q1))) (.str (Txt.slice z (U (q1+1)) Y))=U (.str (Txt.slice z Y (U q1)++Txt.slice z (U (q1+1)) Y)):=sk (by omega)
 have a2:er S (.str (Txt.slice z Y (U q1))) (.str sg)=U (.str (Txt.slice z Y (U q1)++sg)):=sk (by omega)
 have a3:er S (.str (Txt.slice z Y (U q1)++sg)) (.str (Txt.slice z (U q1) Y))=U (.str (Txt.slice z Y (U q1)++sg++Txt.slice z (U q1) Y)):=sk (by rw[iy];omega)
 have a4:er S (.str (Txt.slice z Y (U q1)++sg)) (.str (Txt.slice z (U (q1+1)) Y))=U (.str (Txt.slice z Y (U q1)++sg++Txt.slice z (U (q1+1)) Y)):=sk (by rw[iy];omega)
 have kl:∀ a b c:D,nk ([a,b,c],S)=U (.lst [a,b,c],S):=λa b c=>fm (by simp)
 simp![sp5,eS,jr,pV,kSz_s,ll,UB,nZ,oB,kz,Pw,a1,a2,a3,a4,kl]
 rfl
theorem cuts(z:Str)(i:Nat)(hi:i<(Txt.split z " ").length):iY ((Txt.split z " ").map D.str) Y (U (i:Int))=((Txt.split z " ").take i).map .str/\iY ((Txt.split z " ").map D.str) (U ((i:Int)+1)) Y=((Txt.split z " ").drop (i+1)).map .str/\iY ((Txt.split z " ").map D.str) Y (U ((i:Int)+1))=((Txt.split z " ").take (i+1)).map .str/\iY ((Txt.split z " ").map D.str) (U (i:Int)) Y=((Txt.split z " ").drop i).map .str:=by
 rw[show(i:Int)+1=((i+1:Nat):Int) by omega]
 refine⟨?_,?_,?_,?_⟩
 ·rw[qv _ _ (by rw[WI];omega),aaN]
 ·rw[qw _ _ (by rw[WI];omega),List.map_drop]
 ·rw[qv _ _ (by rw[WI];omega),aaN]
 ·rw[qw _ _ (by rw[WI];omega),List.map_drop]
theorem Dl{ps qs:List Str}(h:ps.length+qs.length<=1000):be S (.lst (ps.map .str)) (.lst (qs.map .str))=U (.lst ((ps++qs).map .str)):=by rw[KY (by rw[WI,WI];exact h),Yf]
theorem EH(h:Cls w ps)(hw:w<=1000):mT (.str " ") [.lst (ps.map .str)] S=U (.str (Str.join " " ps),S):=ug rfl (Xa h.few (by omega))
theorem xg(z:Str)(i:Nat):((Txt.split z " ").take i).length<=(Txt.split z " ").length/\((Txt.split z " ").drop i).length<=(Txt.split z " ").length:=by rw[YD,YE];omega
theorem SG(h:Cl b z)(ho:Cl 6 ot)(hb:b<=400)(hi:i<(Txt.split z " ").length):sp6 (eS r z q1 i sg ot (U (.lst ((X3 z q1 sg).map .str)))) S=U (.nx (eS r z q1 i sg ot (U (.lst ((X3 z q1 sg++X5 z i ot).map .str)))) S):=by
 obtain⟨c1,c2,c3,c4⟩:=cuts z i hi
 have hs:=h.split.len
 have l1:=xg z i
 have l2:=xg z (i+1)
 have k1:∀ a:D,nk ([a],S)=U (.lst [a],S):=λa=>fm (by simp)
 have a1:be S (.lst (((Txt.split z " ").take i).map .str)) (.lst [.str ot])=U (.lst (((Txt.split z " ").take i++[ot]).map .str)):=Dl (qs:=[ot]) (by simp only[WF,XG];omega)
 have a2:be S (.lst (((Txt.split z " ").take i++[ot]).map .str)) (.lst (((Txt.split z " ").drop (i+1)).map .str))=U (.lst ((pA z i ot).map .str)):=Dl (by rw[Xf];simp only[WF,XG];omega)
 have a3:be S (.lst (((Txt.split z " ").take i).map .str)) (.lst (((Txt.split z " ").drop (i+1)).map .str))=U (.lst ((pB z i).map .str)):=Dl (by omega)
 have j1:=EH (S:=S) (pA_c (i:=i) h ho) (by omega)
 have j2:=EH (S:=S) (pB_c (i:=i) h) (by omega)
 have kl:∀ a b:D,nk ([a,b],S)=U (.lst [a,b],S):=λa b=>fm (by simp)
 have a6:be S (.lst ((X3 z q1 sg).map .str)) (.lst [.str (Str.join " " (pA z i ot)),.str (Str.join " " (pB z i))])=U (.lst ((X3 z q1 sg++X5 z i ot).map .str)):=Dl (ps:=X3 z q1 sg) (qs:=X5 z i ot) (show 3+2<=1000 by decide)
 simp![sp6,eS,jr,nY,EC,pV,Ry,ll,yf,nZ,oB,ye,c1,k1,a1,lD,c2,a2,a3,eI,j1,j2,kl,a6]
theorem SE(h:Cl b z)(hb:b<=400)(hi:i<(Txt.split z " ").length):sp7 (eS r z q1 i sg ot (U (.lst ((X3 z q1 sg++X5 z i ot).map .str)))) S=U (.nx (eS r z q1 i sg ot (U (.lst ((X3 z q1 sg++X5 z i ot++X8 z i).map .str)))) S):=by
 obtain⟨c1,c2,c3,c4⟩:=cuts z i hi
 have hs:=h.split.len
 have hup:=h.upper.l
 have l1:=xg z i
 have l2:=xg z (i+1)
 have ku:Cr (.str z,S)=U (.str (Txt.upper z),S):=FY (by omega)
 have kr:(((Txt.split z " ").drop i).map D.str).reverse=((Txt.split z " ").drop i).reverse.map .str:=by rw[List.map_reverse]
 have a1:be S (.lst (((Txt.split z " ").take (i+1)).map .str)) (.lst (((Txt.split z " ").drop i).map .str))=U (.lst ((pC z i).map .str)):=Dl (by omega)
 have a2:be S (.lst (((Txt.split z " ").take i).map .str)) (.lst (((Txt.split z " ").drop i).reverse.map .str))=U (.lst ((pD' z i).map .str)):=Dl (by rw[abp];omega)
 have j1:=EH (S:=S) (pC_c (i:=i) h) (by omega)
 have j2:=EH (S:=S) (pD_c (i:=i) h) (by omega)
 have kl:∀ a b c:D,nk ([a,b,c],S)=U (.lst [a,b,c],S):=λa b c=>fm (by simp)
 have a6:be S (.lst ((X3 z q1 sg++X5 z i ot).map .str)) (.lst [.str (Str.join " " (pC z i)),.str (Str.join " " (pD' z i)),.str (Txt.upper z)])=U (.lst ((X3 z q1 sg++X5 z i ot++X8 z i).map .str)):=Dl (ps:=X3 z q1 sg++X5 z i ot) (qs:=X8 z i) (show 5+3<=1000 by decide)
 simp![sp7,eS,jr,nY,EC,pV,Ry,ll,yf,nZ,oB,ye,c1,c3,c4,lD,a1,OJ,OU,mUn_s,kUn_s,Vq,JY,kr,a2,Jy,ku,eI,j1,j2,kl,a6]
theorem SD(P:Pk S r)(h:Cl b z)(hs:Cl 1 sg)(ho:Cl 6 ot):∃ y S',sp8 (eS r z q1 i sg ot (U (.lst ((X3 z q1 sg++X5 z i ot++X8 z i).map .str)))) S=U (.rt (.str y) S')/\Cl (2*b+10) y/\Pk S' r/\Keep r S S':=by
 obtain⟨q,S',e,q0,q11,P',K'⟩:=eh S r 8 P (by decide) (by decide)
 obtain⟨y,hy,cy⟩:=MH (b:=2*b+10) (xs:=X3 z q1 sg++X5 z i ot++X8 z i) q0 (by show q<8;exact q11) (λx hx=>by
  rw[Xb,Xb] at hx
  rcases hx with (hx | hx) | hx
  ·exact x3_cl h hs x hx
  ·exact x5_cl h ho x hx
  ·exact x8_cl h x hx)
 refine⟨y,S',?_,cy,P',K'⟩
 simp![sp8,eS,e,qY,hy]
theorem Bz(P:Pk S r)(h:Cl b z)(hb:b<=400):∃ y S',bP [.ref r,.str z] S=U (.str y,S')/\Cl (2*b+10) y/\Pk S' r/\Keep r S S':=by
 rw[sY,bt (show [D.ref r,D.str z].length=2 from rfl),show aV fK [D.ref r,D.str z]=[U (.ref r),U (.str z),Y,Y,Y,Y,Y,Y] from rfl,SC]
 have hz:=h.l
 have hw:1<=(Txt.split z " ").length:=by
  cases e:Txt.split z " " with
  | nil=>exact absurd e (za _ _)
  | cons p q=>simp
 have hs:=h.split.len
 obtain⟨q1,S1,e1,q10,q11,P1,K1⟩:=eh S r ((z.length:Nat)+1) P (by omega) (by omega)
 obtain⟨q2,S2,e2,q20,q21,P2,K2⟩:=eh S1 r ((Txt.split z " ").length:Nat) P1 (by omega) (by omega)
 obtain⟨q3,S3,e3,q30,q31,P3,K3⟩:=eh S2 r 13 P2 (by decide) (by decide)
 obtain⟨q4,S4,e4,q40,q41,P4,K4⟩:=eh S3 r 14 P3 (by decide) (by decide)
 obtain⟨i,rfl⟩:∃ i:Nat,q2=(i:Int):=⟨q2.toNat,by omega⟩
 obtain⟨sg,g1,g2⟩:=MH (xs:=signsL) q30 (by exact q31) Io
 obtain⟨ot,o1,o2⟩:=MH (xs:=othersL) q40 (by exact q41) FM
 obtain⟨y,S5,e5,cy,P5,K5⟩:=SD (q1:=q1) (i:=i) P4 h g2 o2
 have f5:=SH (S:=S4) (r:=r) (q1:=q1) (i:=i) (ot:=ot) (a7:=Y) h g2 hb
 have f6:=SG (S:=S4) (r:=r) (q1:=q1) (i:=i) (sg:=sg) (ot:=ot) h o2 hb (by omega)
 have f7:=SE (S:=S4) (r:=r) (q1:=q1) (i:=i) (sg:=sg) (ot:=ot) h hb (by omega)
 have fl:∀ S,ak bT [.str z] S=U (.int (z.length:Nat),S):=λS=>by
  have:bT S [.str z]=U (.int (z.length:Nat)):=WN (Nt (by omega))
  show(bT S [.str z]).bind _=_
  rw[this];rfl
 have fs:ak fU [.str "0123459 ,-ak\n"] S2=U (.lst (signsL.map .str),S2):=by rw[qm (Xa zb.2 (by decide)),zb.1]
 have lo:∀ {S},nk ([.str "most",.str "ups",.str "0",.str "9",.str "10",.str "01",.str "6",.str "-",.str "out",.str "reads,",.str "read",.str "passes",.str "rows",.str ""],S)=U (.lst (othersL.map .str),S):=λ{S}=>fm (by decide)
 have f0:sp0 [U (.ref r),U (.str z),Y,Y,Y,Y,Y,Y] S=U (.nx [U (.ref r),U (.str z),U (.lst ((Txt.split z " ").map .str)),Y,Y,Y,Y,Y] S):=by
  simp only[sp0,bw,jB,aq,ci,da,cZ,oj,ob,am,qe,ao,aM,ah,av,ag,iR sE.2.2 (show z.length<=1000000 by omega),bx,aQ,jO,kM,bV]
 have f1:sp1 [U (.ref r),U (.str z),U (.lst ((Txt.split z " ").map .str)),Y,Y,Y,Y,Y] S=U (.nx [U (.ref r),U (.str z),U (.lst ((Txt.split z " ").map .str)),U (.int q1),U (.int (i:Int)),Y,Y,Y] S2):=by
  simp only[sp1,Uc,aO,ao,aq,ci,da,cZ,oj,ob,am,ah,aU,aZ,av,ag,ba,fl,aJ,aM,aI,lD,bi,e1,qo,WI,e2,UI]
  rfl
 have f2:sp2 [U (.ref r),U (.str z),U (.lst ((Txt.split z " ").map .str)),U (.int q1),U (.int (i:Int)),Y,Y,Y] S2=U (.nx [U (.ref r),U (.str z),U (.lst ((Txt.split z " ").map .str)),U (.int q1),U (.int (i:Int)),U (.str sg),Y,Y] S3):=by
  simp only[sp2,bw,aU,aZ,ao,aM,ob,ah,av,ag,ba,fs,aJ,aO,aq,ci,da,cZ,oj,am,bi,e3,aI,qY,g1,bx,aQ,jO,kM,bV]
 have f3:sp3 [U (.ref r),U (.str z),U (.lst ((Txt.split z " ").map .str)),U (.int q1),U (.int (i:Int)),U (.str sg),Y,Y] S3=U (.nx [U (.ref r),U (.str z),U (.lst ((Txt.split z " ").map .str)),U (.int q1),U (.int (i:Int)),U (.str sg),U (.lst (othersL.map .str)),Y] S3):=by
  simp only[sp3,bw,jr,ao,aM,ob,ah,av,ag,lo,bx,aQ,jO,kM,bV]
 have f4:sp4 [U (.ref r),U (.str z),U (.lst ((Txt.split z " ").map .str)),U (.int q1),U (.int (i:Int)),U (.str sg),U (.lst (othersL.map .str)),Y] S3=U (.nx (eS r z q1 i sg ot Y) S4):=by
  simp only[sp4,eS,bw,aU,ao,aM,ob,ah,av,ag,aJ,aO,aq,ci,da,cZ,oj,am,bi,e4,aI,qY,o1,bx,aQ,jO,kM,bV]
 refine⟨y,S5,?_,cy,P5,((Keep.trans K1 K2).trans K3).trans (Keep.trans K4 K5)⟩
 simp only[Hx,bM,f0,ob,bh,f1,f2,f3,f4,f5,f6,f7,e5,aK]
end
def figs:List Str:=["0","1","2","3","4","5","6","7","8","9"]
def iA(x:Str):Bool:=figs.any λy=>y==x
theorem Bg{l:List Str}:((l.map D.str).any λd=>jI d (.str x))=l.any λy=>y==x:=by
 have q:∀ y,jI (.str y) (.str x)=(y==x):=λy=>by rw[jI]
 simp only[List.any_map,Function.comp_def,q]
section
variable{S:ac}
theorem CH{l:List Str}(h:fO S y=U (l.map .str)):yJ S (.str x) y=U (.bl (l.any λy=>y==x))/\ej S (.str x) y=U (.bl (!l.any λy=>y==x)):=by
 have o1:bN 40 (.str x)=true:=rfl
 have o2:((l.map D.str).all (bN 39))=true:=by rw[Yw];exact WP.mpr λ_ _=>rfl
 unfold yJ ej
 rw[h]
 constructor
 ·show(if bN 40 (.str x)=true/\((l.map D.str).all (bN 39))=true then U (D.bl ((l.map D.str).any λd=>jI d (.str x))) else Y)=_
  rw[WN ⟨o1,o2⟩,Bg]
 ·show(if bN 40 (.str x)=true/\((l.map D.str).all (bN 39))=true then U (D.bl (!(l.map D.str).any λd=>jI d (.str x))) else Y)=_
  rw[WN ⟨o1,o2⟩,Bg]
theorem KU{l:List Str}:yJ S (.str x) (.tup (l.map .str))=U (.bl (l.any λy=>y==x)):=(CH rfl).1
theorem AH{l:List Str}:ej S (.str x) (.tup (l.map .str))=U (.bl (!l.any λy=>y==x)):=(CH rfl).2
theorem AI{l:List Str}:ej S (.str x) (.lst (l.map .str))=U (.bl (!l.any λy=>y==x)):=(CH rfl).2
theorem uc:ej S (.str x) fu=U (.bl (!iA x)):=AH (l:=figs)
theorem Pt:yJ S (.str x) fu=U (.bl (iA x)):=KU (l:=figs)
def gl(x:Str):Int:=(intText? x).getD 0
theorem KG:figs=(List.range 10).map λ(n:Nat)=>iS (n:Int):=by decide +kernel
theorem any_mem{l:List Str}{x:Str}:(l.any λy=>y==x)=true↔x∈l:=by
 rw[Zm]
 exact⟨λ⟨y,h,e⟩=>by rw[<- beq_iff_eq.mp e];exact h,λh=>⟨x,h,YO x⟩⟩
theorem Jj{n:Nat}(h:n<=999):intText? (iS (n:Int))=U (n:Int):=W.KIN.num_reads (by omega) (by omega)
theorem oO(h:iA x=true):∃ n:Nat,n<=9/\x=iS (n:Int)/\gl x=n:=by
 have:=any_mem.mp h
 rw[KG] at this
 obtain⟨n,hn,rfl⟩:=Xs.mp this
 have hn:=Ym.mp hn
 refine⟨n,by omega,rfl,?_⟩
 unfold gl;rw[Jj (by omega)];rfl
theorem AF:∀ c:Nat,c<128->iA (⟨#[c]⟩:Str)=(decide (48<=c)&&decide (c<=57)):=by decide +kernel
def hdB(z:Str):Bool:=(z==("0":Str))||!((⟨#[z.cps.toList.headD 0]⟩:Str)==("0":Str))
def RZ(z:Str):Bool:=z.cps.toList.all λc=>decide (48<=c)&&decide (c<=57)
def pO(z:Str):Bool:=decide (1<=z.length)&&decide (z.length<=3)&&RZ z&&hdB z
theorem ou(z:Str):z.cps.toList.length=z.length:=by simp[Str.length]
theorem dig1:∀ a,a<10->iS ((a:Nat):Int)=⟨#[48+a]⟩:=by decide +kernel
theorem dig2:∀ a,a<10->a≠0->∀ b,b<10->iS ((10*a+b:Nat):Int)=⟨#[48+a,48+b]⟩:=by decide +kernel
theorem dig3:∀ a,a<10->a≠0->∀ b,b<10->∀ c,c<10->iS ((100*a+10*b+c:Nat):Int)=⟨#[48+a,48+b,48+c]⟩:=by decide +kernel
theorem xo{z:Str}{l:List Nat}(h:z.cps.toList=l):z=⟨l.toArray⟩:=by obtain⟨a⟩:=z;subst h;simp
theorem Jq(h:pO z=true):∃ n:Nat,n<=999/\z=iS (n:Int)/\gl z=n:=by
 have key:∃ n:Nat,n<=999/\z=iS (n:Int):=by
  unfold pO RZ hdB at h
  rw[Wz,Wz,Wz,WM,WM,WP,<- ou] at h
  obtain⟨⟨⟨h1,h3⟩,hd⟩,hz⟩:=h
  have dg:∀ c∈z.cps.toList,∃ a,a<10/\c=48+a:=λc hc=>by
   have:=hd c hc;rw[Wz,WM,WM] at this
   exact⟨c - 48,by omega,by omega⟩
  have nz:∀ a r,z.cps.toList=(48+a)::r->r≠[]->a≠0:=λa r e hr e0=>by
   subst e0
   have e1:(z==("0":Str))=false:=by
    rw[Yh];intro q
    have q2:z.cps.toList=[48]:=by rw[q];decide +kernel
    rw[e] at q2;exact hr (List.cons.inj q2).2
   rw[e1,e,List.headD_cons] at hz
   exact absurd hz (by decide +kernel)
  match hl:z.cps.toList,h1,h3 with
  | [c],_,_=>
   obtain⟨a,ha,rfl⟩:=dg c (by rw[hl];simp)
   exact⟨a,by omega,by rw[dig1 a ha];exact xo hl⟩
  | [c,d],_,_=>
   obtain⟨a,ha,rfl⟩:=dg c (by rw[hl];simp)
   obtain⟨b,hb,rfl⟩:=dg d (by rw[hl];simp)
   exact⟨10*a+b,by omega,by rw[dig2 a ha (nz a _ hl (by simp)) b hb];exact xo hl⟩
  | [c,d,e],_,_=>
   obtain⟨a,ha,rfl⟩:=dg c (by rw[hl];simp)
   obtain⟨b,hb,rfl⟩:=dg d (by rw[hl];simp)
   obtain⟨k,hk,rfl⟩:=dg e (by rw[hl];simp)
   exact⟨100*a+10*b+k,by omega,by rw[dig3 a ha (nz a _ hl (by simp)) b hb k hk];exact xo hl⟩
 obtain⟨n,hn,rfl⟩:=key
 exact⟨n,hn,rfl,by unfold gl;rw[Jj hn];rfl⟩
theorem i_3{n:Nat}(h:n<=999)(hl:(iS (n:Int)).length<=640):∀ S,ak fJ [.str (iS (n:Int))] S=U (.int (n:Int),S):=λS=>KT (Jj h) hl
theorem ER:∀ n,n<10->(iS ((n:Nat):Int)).length=1:=by decide +kernel
theorem oP(h:iA x=true):∀ S,ak fJ [.str x] S=U (.int (gl x),S):=λS=>by
 obtain⟨n,hn,rfl,e⟩:=oO h
 rw[e];exact i_3 (by omega) (by rw[ER n (by omega)];decide) S
theorem Jr(h:pO x=true):∀ S,ak fJ [.str x] S=U (.int (gl x),S):=λS=>by
 obtain⟨n,hn,e0,e⟩:=Jq h
 have hl:x.length<=3:=by
  unfold pO at h
  rw[Wz,Wz,Wz,WM,WM] at h
  exact h.1.1.2
 rw[e,e0];exact i_3 hn (by rw[<- e0];omega) S
theorem Av{z:Str}(h:1<=z.length):∃ c r,z.cps.toList=c::r:=by
 cases hz:z.cps.toList with
 | nil=>have:=ou z;rw[hz] at this;simp at this;omega
 | cons c r=>exact⟨c,r,rfl⟩
theorem Kr(h:Cl b z)(hb:b<=900):eK [.str z] S=U (.bl (pO z),S):=by
 rw[rJ,bt (show [D.str z].length=1 from rfl),show aV eQ [D.str z]=[U (.str z)] from rfl]
 have hz:=h.l
 have fl:ak bT [.str z] S=U (.int (z.length:Nat),S):=by
  have:bT S [.str z]=U (.int (z.length:Nat)):=WN (Nt (by omega))
  show(bT S [.str z]).bind _=_
  rw[this];rfl
 have as:z.cps.all (· < 128)=true:=by
  rw[<- Array.all_toList]
  exact WP.mpr λc hc=>Xk (h.c c hc)
 have kc:=lr (S:=S) (t:=bq) (e:=az yJ '0' (mC fu)) (cap:=[Y]) (env:=[U (.str z)]) (rest:=[]) (a:=Y) (enc:=λc:Nat=>.str ⟨#[c]⟩) (p:=λ_=>true) (f:=λc=>.bl (iA ⟨#[c]⟩)) (xs:=z.cps.toList) rfl (by rw[ou];omega) (λ_ _=>ir) (λc hc _=>by
  simp only[aU,aq,ci,oj,ob,am,aJ,aM,aI,Pt])
 rw[XV.mpr (λ_ _=>rfl)] at kc
 have al:ak mx [.lst (z.cps.toList.map λc=>.bl (iA ⟨#[c]⟩))] S=U (.bl (RZ z),S):=by
  rw[uh (ja (p:=λc=>iA ⟨#[c]⟩) z.cps.toList),Yw]
  congr 3
  unfold RZ
  rw[Xq,WP,WP]
  exact⟨λq c hc=>by rw[<- AF c (h.c c hc)];exact q c hc,λq c hc=>(AF c (h.c c hc)).trans (q c hc)⟩
 have kq:UM (.str z,S)=U (z.cps.toList.map λc=>.str ⟨#[c]⟩,S):=OW as
 have l3:Ps S (.int (z.length:Nat)) gA=U (.bl (decide (z.length<=3))):=by
  show Ps S (.int (z.length:Nat)) (.int 3)=_
  rw[RS];congr 2;rw[Xq,WM,WM];omega
 have l1:decide ((1:Int)<=(z.length:Nat))=decide (1<=z.length):=by rw[Xq,WM,WM];omega
 simp![lf,fP,cY,zZ,Kk,fl,Kj,RS,l1]
 unfold pO
 cases h1:decide (1<=z.length) with
 | false=>simp only[Kg,ob,aP,cI,WY,fR,bK,aT,aM,bn,bH,aK,Xe]
 | true=>
  simp only[Kf,aM,ob,Ki,l3,am,aP,cI]
  cases h3:decide (z.length<=3) with
  | false=>simp only[WY,fR,ob,bK,aT,aM,bn,bH,aK,Xi,Xe]
  | true=>
   simp![WU,fS,cY,fD,iu,Ue,kq,kc,al,fF,cI,Xi]
   cases RZ z with
   | false=>simp only[WY,bK,aT,aM,ob,bn,bH,aK,Xe]
   | true=>
    simp![WU,bL,Rv,gP,Xi]
    unfold hdB
    cases hq:(z==("0":Str)) with
    | true=>simp only[RC,ob,bn,aK,Bool.true_or]
    | false=>
     obtain⟨c,r,hc⟩:=Av (XM h1)
     have ix:cH S (.str z) (.int 0)=U (.str ⟨#[c]⟩):=ES (by rw[hc];exact wT (i:=0) rfl) (by omega)
     rw[hc]
     simp![RD,ix,qk,aaS,List.headD_cons]
structure Et where
 g:Nat
 w:Str
 m:Int
 t:Option Int
def im:Option Et->D
 | none=>.non
 | some e=>.tup [.int (e.g:Int),.str e.w,.int e.m,fB e.t]
def wG(d:Str):Bool:=(d==("-":Str))||iA d
def ig(d:Str):Option Int:=if (d==("-":Str))=true then Y else U (gl d)
def Hy:List Str->Option Et
 | [a,b,c,d]=>if (iA a&&(pO c&&wG d))=true then U ⟨(gl a).toNat,b,gl c,ig d⟩ else Y
 | _=>Y
def FE(z:Str):Option Et:=Hy (Txt.split z " ")
theorem Ur{d:Str}(h:wG d=true)(hd:(d==("-":Str))=false):∀ S,ak fJ [.str d] S=U (.int (gl d),S):=λS=>oP (by unfold wG at h;rw[hd,aaS] at h;exact h) S
theorem Kw(h:iA a=true):((gl a).toNat:Int)=gl a:=by obtain⟨n,_,_,e⟩:=oO h;rw[e];rfl
theorem four{ps:List Str}(h:ps.length=4):∃ a b c d,ps=[a,b,c,d]:=by
 match ps,h with
 | [a,b,c,d],_=>exact⟨a,b,c,d,rfl⟩
theorem BF(h:Cl b z)(hb:b<=800):dC [.str z] S=U (im (FE z),S):=by
 rw[xR,bt (show [D.str z].length=1 from rfl),show aV hX [D.str z]=[U (.str z),Y,Y,Y,Y,Y] from rfl]
 have hz:=h.l
 have ln:z.length<=1000000:=by omega
 have hc:=h.split
 unfold FE
 have sp:oA z ([.str " "],S)=U (.lst ((Txt.split z " ").map .str),S):=iR sE.2.2 ln
 generalize Txt.split z " " = ps at hc sp
 have ne4:∀ S,mw S (.int ((ps.map D.str).length:Nat)) (.int 4)=U (.bl (!decide (ps.length=4))):=λS=>by
  rw[ud,WI];congr 3;rw[Xq,beq_iff_eq,WM];omega
 simp![qF,jB,qe,sp,qo,ne4]
 by_cases h4:ps.length=4
 ·obtain⟨a,bb,c,d,rfl⟩:=four h4
  have cc:Cl b c:=⟨hc.c c (by simp),by have:=hc.l;rw[jP,jP,jP] at this;omega⟩
  have mk:=Kr (S:=S) cc (by omega)
  have g4:∀ env S,jk 4 (au 'b' (au 'c' (au 'd' (au 'e' bU)))) (.lst ([a,bb,c,d].map .str)) env S=(au 'b' (au 'c' (au 'd' (au 'e' bU)))) [.str a,.str bb,.str c,.str d] env S:=λenv S=>Ph
  simp![Xk h4,WU,bL,g4,iU,tP,kf,fP,uc]
  show _=U (im (if (iA a&&(pO c&&wG d))=true then U ⟨(gl a).toNat,bb,gl c,ig d⟩ else Y),S)
  cases ha:iA a with
  | false=>simp only[WY,fR,ob,bK,aT,aM,bn,bH,aK,Xe,WR,Xx,im]
  | true=>
   simp![WU,fS,fP,cY,fD,iT,mk,fF,cI,Xi]
   cases hm:pO c with
   | false=>simp only[WY,fR,ob,bK,aT,aM,bn,bH,aK,Xe,WR,Xx,im]
   | true=>
    have i1:=oP ha
    have i2:=Jr hm
    have gg:=Kw ha
    simp![WU,fS,Ey,qk,Xi]
    cases hd:(d==("-":Str)) with
    | true=>
     have e1:wG d=true:=by unfold wG;rw[hd];rfl
     have e2:ig d=Y:=WN hd
     simp![WU,EG,bL,dG,i1,i2,mM,gP,hd,Aj,br,e1,e2,Yq,im,gg]
     rfl
    | false=>
     simp![WY,EF,uc]
     have e1:wG d=iA d:=by unfold wG;rw[hd];rfl
     have e2:ig d=U (gl d):=WX (by rw[hd];exact WJ)
     rw[e1]
     cases hf:iA d with
     | false=>simp only[WY,bK,aT,aM,ob,bn,bH,aK,WR,Xx,im]
     | true=>
      have i3:=oP hf
      simp![WU,bL,dG,i1,i2,i3,mM,gP,hd,Al,br,e2,Yq,im,gg]
      rfl
 ·have e:Hy ps=Y:=by
   unfold Hy
   split
   ·exact absurd rfl h4
   ·rfl
  simp only[Xo h4,WY,bK,aT,aM,ob,bn,bH,aK,e,im]
end
def wdsL:List Str:=["out","reads","rising","writes","raised"]
def Bo(x:Str):Bool:=wdsL.any λy=>y==x
def wantL:List Str:=["read","write"]
def nC(x:Str):Bool:=wantL.any λy=>y==x
def eX(ws:List Str):D:=.tup (ws.map .str)
section
variable{S:ac}
theorem HI{l:List Str}:dY [.str x,.tup (l.map .str)] S=U (.bl (l.any λy=>y==x),S):=by
 rw[BX,bt (show [D.str x,.tup (l.map .str)].length=2 from rfl),show aV jL [D.str x,.tup (l.map .str)]=[U (.str x),U (.tup (l.map .str))] from rfl]
 have it:gO "str" S (.str x)=U (.bl true):=rfl
 simp![vO,tE,lp,ls,it,yk,KU]
theorem HJ{ws:List Str}(hl:ws.length<=900):gf [.int n,eX ws] S=U (.bl (decide ((ws.length:Int)=n)&&ws.all Bo),S):=by
 rw[xS,bt (show [D.int n,eX ws].length=2 from rfl),show aV hZ [D.int n,eX ws]=[U (.int n),U (eX ws)] from rfl]
 have t1:bu [eX ws,.int n] S=U (.bl (decide ((ws.length:Int)=n)),S):=by unfold eX;rw[vj,WI]
 have w1:∀ x,dY [.str x,eO] S=U (.bl (Bo x),S):=λx=>HI (l:=wdsL)
 have k:=lr (S:=S) (t:=bq) (e:=ai 2 dY (aa '0' (aa (mC eO) af))) (cap:=[Y]) (env:=[U (.int n),U (eX ws)]) (rest:=[]) (a:=Y) (enc:=D.str) (p:=λ_=>true) (f:=λx=>.bl (Bo x)) (xs:=ws) rfl (by omega) (λ_ _=>ir) (λw _ _=>by
  simp![w1])
 rw[XV.mpr (λ_ _=>rfl)] at k
 have al:ak mx [.lst (ws.map λx=>.bl (Bo x))] S=U (.bl (ws.all Bo),S):=by
  rw[uh (ja (p:=Bo) ws),Yw];rfl
 have it:Ai (eX ws,S)=U (ws.map .str,S):=rfl
 simp![qG,tE,t1]
 cases decide ((ws.length:Int)=n) with
 | false=>simp only[Cy,ob,bn,aK,Xe]
 | true=>simp![yk,iu,jV,it,k,al,Xi]
def wc:Option Int->Bool
 | none=>true
 | some t=>decide (1<=t)&&decide (t<=9)
def TH(ws:List Str)(g:Nat):Bool:=decide (g<ws.length)&&(ws.getD g ""==("out":Str))
def cr(ws:List Str):Option Et->Bool
 | none=>false
 | some e=>TH ws e.g&&((nC e.w&&(decide (0<=e.m)&&decide (e.m<=999)))&&wc e.t)
theorem ixT{ws:List Str}{g:Nat}(h:g<ws.length):bz S (eX ws) (.int (g:Int))=U (.str (ws.getD g "")):=by
 show mD (ws.map D.str) (g:Int)=_
 rw[wT (x:=.str (ws.getD g "")) (by rw[XU,WK h,List.getD_eq_getElem?_getD,WK h];rfl)]
theorem Kn:iH [eX ws,im e] S=U (.bl (cr ws e),S):=by
 rw[BY,bt (show [eX ws,im e].length=2 from rfl),show aV jM [eX ws,im e]=[U (eX ws),U (im e),Y,Y,Y,Y] from rfl]
 cases e with
 | none=>
  have t1:bu [.non,.int 4] S=U (.bl false,S):=by
   rw[lb,bt (show [D.non,D.int 4].length=2 from rfl),show aV ee [D.non,D.int 4]=[U .non,U (.int 4)] from rfl]
   have it:gO "tuple" S .non=U (.bl false):=rfl
   simp only[jp,aT,tE,lp,aq,ci,da,cZ,oj,ob,am,ls,it,Cy,bn,aK]
  simp![pU,im,cY,fD,t1,fF,cI,WY,cr]
 | some e=>
  have t1:bu [im (U e),.int 4] S=U (.bl true,S):=vj
  have g4:∀ env S,cj 4 (au 'b' (au 'c' (au 'd' (au 'e' bU)))) (im (U e)) env S=(au 'b' (au 'c' (au 'd' (au 'e' bU)))) [.int (e.g:Int),.str e.w,.int e.m,fB e.t] env S:=λenv S=>si
  have ln:ak bT [eX ws] S=U (.int (ws.length:Nat),S):=by unfold eX;rw[uf,WI]
  have b1:bZ [.int (e.g:Int),.int 0,.int ((ws.length:Nat) - 1)] S=U (.bl (decide (e.g<ws.length)),S):=by
   rw[MD];congr 3;rw[Xq];simp;omega
  have b2:bZ [.int e.m,.int 0,fM] S=U (.bl (decide (0<=e.m)&&decide (e.m<=999)),S):=MD
  have w1:dY [.str e.w,su] S=U (.bl (nC e.w),S):=HI (l:=wantL)
  simp![pU,cY,fD,t1,fF,cI,WU,bL,g4,iU,tP,kf,fP,ln,Vp,tQ,b1]
  unfold cr TH
  by_cases hg:e.g<ws.length
  ·simp![Xk hg,WU,fS,ixT hg,qk,Xi]
   cases(ws.getD e.g ""==("out":Str)) with
   | false=>simp only[WY,bK,aT,aM,ob,bn,bH,aK,Xe]
   | true=>
    simp![WU,bL,fP,cY,fD,w1,fF,cI,Xi]
    cases nC e.w with
    | false=>simp only[WY,fR,ob,bK,aT,aM,bn,bH,aK,Xe]
    | true=>
     simp![WU,fS,cY,fD,tQ,b2,fF,cI,Xi]
     cases(decide (0<=e.m)&&decide (e.m<=999)) with
     | false=>simp only[WY,bK,aT,aM,ob,bn,bH,aK,Xe]
     | true=>
      simp![WU,bL,Rv,AK,Xi]
      cases e.t with
      | none=>
       have z:qj (fB Y) .non=true:=rfl
       simp only[z,RC,ob,bn,aK,wc]
      | some k=>
       have z:qj (fB (U k)) .non=false:=rfl
       have b3:bZ [fB (U k),.int 1,fN] S=U (.bl (decide (1<=k)&&decide (k<=9)),S):=MD
       simp![z,RD,tQ,b3,wc]
  ·simp only[Xo hg,WY,fR,ob,bK,aT,aM,bn,bH,aK,Xe]
def rO:Option Et->Int
 | none=>0
 | some e=>e.g
def BQ(es:List (Option Et)):Bool:=decide ((es.map rO).Nodup)
def rf(es:List (Option Et)):D:=.tup (es.map im)
theorem pq(h:cr ws e=true):∃ x,e=U x:=by
 cases e with
 | none=>cases h
 | some x=>exact⟨x,rfl⟩
theorem EL{es:List (Option Et)}(hc:mz cap env=[Y])(h:es.all (cr ws)=true)(hl:es.length<=900):An '`' bq (az bz '0' 0e0) cap env (es.map im,S)=U (.lst ((es.map rO).map .int),S):=by
 have k:=lr (S:=S) (t:=bq) (e:=az bz '0' 0e0) (cap:=cap) (env:=env) (rest:=[]) (a:=Y) (enc:=im) (p:=λ_=>true) (f:=λe=>.int (rO e)) (xs:=es) hc (by omega) (λ_ _=>ir) (λe he _=>by
  obtain⟨x,rfl⟩:=pq (WP.mp h e he)
  have ix:bz S (im (U x)) (.int 0)=U (.int (x.g:Int)):=rfl
  simp only[aU,aq,ci,oj,ob,am,aJ,aM,aI,ix];rfl)
 rw[XV.mpr (λ_ _=>rfl)] at k
 rw[k,Yt];rfl
theorem Sa{es:List (Option Et)}:decide (((my (es.map rO):Nat):Int)=((es.map rO).length:Nat))=BQ es:=by
 unfold BQ
 rw[Xq,WM,WM,<- Qi]
 omega
theorem Di{es:List (Option Et)}(hl:es.length<=900)(h64:es.all (cr ws)=true->es.length<64):hJ [eX ws,rf es] S=U (.bl (es.all (cr ws)&&BQ es),S):=by
 rw[xT,bt (show [eX ws,rf es].length=2 from rfl),show aV ia [eX ws,rf es]=[U (eX ws),U (rf es),Y] from rfl]
 have it:gO "tuple" S (rf es)=U (.bl true):=rfl
 have ki:Ai (rf es,S)=U (es.map im,S):=rfl
 have k:=lr (S:=S) (t:=bq) (e:=ai 2 iH (aa '1' (aa '0' af))) (cap:=[Y,U 0]) (env:=[U (eX ws),U (rf es),Y]) (rest:=[U (eX ws)]) (a:=Y) (enc:=im) (p:=λ_=>true) (f:=λe=>.bl (cr ws e)) (xs:=es) rfl (by omega) (λ_ _=>ir) (λw _ _=>by
  simp![Kn])
 rw[XV.mpr (λ_ _=>rfl)] at k
 have al:ak mx [.lst (es.map λe=>.bl (cr ws e))] S=U (.bl (es.all (cr ws)),S):=by
  rw[uh (ja (p:=cr ws) es)];congr 3;rw[Yw];rfl
 simp![qH,fP,cY,fD,lp,ls,it,fF,cI,WU,fS,iu,jV,ki,k,al]
 cases ha:es.all (cr ws) with
 | false=>simp only[WY,bK,aT,aM,ob,bn,bH,aK,Xe]
 | true=>
  have gs:=EL (S:=S) (cap:=[Y]) (env:=[U (eX ws),U (rf es),Y]) rfl ha hl
  have ks:sf ([.lst ((es.map rO).map .int)],S)=U (.int (my (es.map rO):Nat),S):=wf (by rw[WI];exact h64 ha)
  have ln:ak bT [.lst ((es.map rO).map .int)] S=U (.int ((es.map rO).length:Nat),S):=by rw[qo,WI]
  simp![WU,bL,iu,jV,ki,gs,vX,ks,ln,qp,Xi]
  congr 3
  rw[<- Sa,Xq,beq_iff_eq,WM]
theorem SU{ws:List Str}{es:List (Option Et)}(h1:ws.length<=900)(hl:es.length<=900)(h64:es.all (cr ws)=true->es.length<64):gN [.int (ws.length:Nat),.tup [eX ws,rf es]] S=U (.bl (ws.all Bo&&(es.all (cr ws)&&BQ es)),S):=by
 rw[BZ,bt (show [D.int (ws.length:Nat),.tup [eX ws,rf es]].length=2 from rfl),show aV jN [D.int (ws.length:Nat),.tup [eX ws,rf es]]=[U (.int (ws.length:Nat)),U (.tup [eX ws,rf es]),Y,Y] from rfl]
 have t1:bu [.tup [eX ws,rf es],.int 2] S=U (.bl true,S):=vj
 have w1:gf [.int (ws.length:Nat),eX ws] S=U (.bl (ws.all Bo),S):=by
  rw[HJ h1,Xk rfl,Xi]
 simp![vP,cY,fD,t1,fF,cI,WU,bL,Pi,iU,tP,kf,tE,w1]
 cases ws.all Bo with
 | false=>simp only[Cy,ob,bn,aK,Xe]
 | true=>simp![yk,Di hl h64,Xi]
theorem Vc(y:Str):∀ (p:Str) (ps:List Str),(Str.join y (p::ps)).length=p.length+(ps.map λq=>y.length+q.length).sum
 | p,[]=>rfl
 | p,q::r=>by
  show(p++y++Str.join y (q::r)).length=_
  rw[iy,iy,Vc y q r,WO,Yi];omega
theorem JM{α:Type}{f:α->Nat}:∀ {l:List α} {x:α},x∈l->f x<=(l.map f).sum
 | y::l,x,h=>by
  rw[WO,Yi]
  rcases WQ.mp h with rfl | h
  ·omega
  ·have:=JM (f:=f) h;omega
theorem xm{α:Type}{f:α->Nat}{k:Nat}:∀ {l:List α},(∀ x∈l,k<=f x)->l.length*k<=(l.map f).sum
 | [],_=>by simp
 | y::l,h=>by
  have:=xm (f:=f) (k:=k) λx hx=>h x (WB _ hx)
  have:=h y (by simp)
  rw[WO,Yi,WF,Zr];omega
theorem mX(z y:Str):∃ p ps,Txt.split z y=p::ps:=by
 cases e:Txt.split z y with
 | nil=>exact absurd e (za _ _)
 | cons p ps=>exact⟨p,ps,rfl⟩
theorem jw{p:Str}{ps:List Str}(h:Txt.split z y=p::ps):z.length=p.length+(ps.map λq=>y.length+q.length).sum:=by
 have e:=ZN z y
 rw[h] at e
 rw[<- Vc,e]
theorem Cl.parts(h:Cl b z){p:Str}(hp:p∈Txt.split z y):Cl b p:=by
 have e:=ZN z y
 refine⟨λc hc=>h.c c (by rw[<- e];exact(la _).2 ⟨p,hp,hc⟩),?_⟩
 obtain⟨q,qs,hq⟩:=mX z y
 have:=jw hq
 have:=h.l
 rw[hq] at hp
 rcases WQ.mp hp with rfl | hp
 ·omega
 ·have:=JM (f:=λq:Str=>y.length+q.length) hp
  omega
theorem ux:((Str.ofString ", ").length==0)=false/\(Str.ofString ", ").length=2:=by decide +kernel
theorem CF{p:Str}{ps:List Str}(h:Txt.split z ", " = p::ps):ps.length*2<=z.length:=by
 have:=jw h
 have:=xm (f:=λq:Str=>(Str.ofString ", ").length+q.length) (k:=2) (l:=ps) λx _=>by rw[ux.2];omega
 omega
theorem CD:(Txt.split z " ").length<=z.length+1:=by
 obtain⟨p,ps,h⟩:=mX z " "
 have:=jw h
 have:=xm (f:=λq:Str=>(Str.ofString " ").length+q.length) (k:=1) (l:=ps) λx _=>by rw[pF.1];omega
 rw[h,WF];omega
theorem RP(h:iA x=true):x.length=1:=by
 obtain⟨n,hn,rfl,_⟩:=oO h
 exact ER n (by omega)
theorem Uq:(Str.ofString "-").length=1/\(Str.ofString "read").length=4/\(Str.ofString "write").length=5:=by decide +kernel
theorem Sk(h:nC x=true):4<=x.length:=by
 have:=any_mem.mp h
 unfold wantL at this
 simp only[WQ,Xn,Yn] at this
 rcases this with rfl | rfl
 ·rw[Uq.2.1];decide
 ·rw[Uq.2.2];decide
theorem ds_1(h:wG x=true):x.length=1:=by
 unfold wG at h
 rw[Zc] at h
 rcases h with h | h
 ·rw[beq_iff_eq.mp h];exact Uq.1
 ·exact RP h
theorem NB{e:Et}(h:Hy ps=U e):∃ a b c d,ps=[a,b,c,d]/\iA a=true/\pO c=true/\wG d=true/\e=⟨(gl a).toNat,b,gl c,ig d⟩:=by
 unfold Hy at h
 split at h
 ·rename_i a b c d
  split at h
  ·rename_i q
   rw[Wz,Wz] at q
   cases h
   exact⟨a,b,c,d,rfl,q.1,q.2.1,q.2.2,rfl⟩
  ·cases h
 ·cases h
theorem Fq(h:cr ws (FE z)=true):10<=z.length:=by
 obtain⟨e,he⟩:=pq h
 obtain⟨a,b,c,d,hs,ha,hc,hd,rfl⟩:=NB he
 rw[he] at h
 have hb:nC b=true:=by
  unfold cr at h
  rw[Wz,Wz,Wz] at h
  exact h.2.1.1
 have h1:=RP ha
 have h2:=Sk hb
 have h3:1<=c.length:=by
  unfold pO at hc
  rw[Wz,Wz,Wz,WM] at hc
  exact hc.1.1.1
 have h4:=ds_1 hd
 have hl:=jw hs
 simp only[WO,Zt,Yi,List.sum_nil] at hl
 rw[show(Str.ofString " ").length=1 from pF.1] at hl
 omega
def hdT(z:Str):Str:=(Txt.split z ", ").headD ""
def fC(z:Str):List Str:=Txt.split (hdT z) " "
def oR(z:Str):List Str:=(Txt.split z ", ").tail
def jH(z:Str):List (Option Et):=(oR z).map FE
def FN(z:Str):Bool:=decide ((fC z).length<=5)&&((fC z).all Bo&&((jH z).all (cr (fC z))&&BQ (jH z)))
theorem kR(z:Str):Txt.split z ", " = hdT z::oR z:=by
 obtain⟨p,ps,h⟩:=mX z ", "
 unfold hdT oR;rw[h];rfl
theorem RQ(h:Cl b z)(hb:b<=520)(ws:List Str):(jH z).all (cr ws)=true->(jH z).length<64:=λha=>by
 have hl:=jw (kR z)
 unfold jH at ha ⊢
 rw[WI]
 have:=xm (f:=λq:Str=>(Str.ofString ", ").length+q.length) (k:=12) (l:=oR z) λx hx=>by
  have:=Fq (WP.mp ha (FE x) (Xs.mpr ⟨x,hx,rfl⟩))
  rw[ux.2];omega
 have:=h.l
 omega
theorem jf{a:MY}{S:ac}(h:a env S=U (.ok (.nx env' S'))):fz a b env S=b env' S':=by unfold fz;rw[h];rfl
theorem rR{a:MY}{S:ac}(h:a env S=U (.xc q S')):fz a b env S=U (.xc q S'):=by unfold fz;rw[h];rfl
theorem QV{m:MS}{S:ac}{o:qA}(h:m env S=U o):pj m env S=U (.ok o):=by unfold pj;rw[h];rfl
theorem yIf{c:MT}{S S':ac}{p:Bool}(h:c env S=U (p,S')):uS c a b env S=if p=true then a env S' else b env S':=by unfold uS;rw[h];rfl
theorem wV{S:ac}:gU (mC .non) env S=U (.xc Y S):=by
 unfold gU;rw[aM,ob];rfl
theorem HF{S:ac}:pj aL env S=U (.ok (.nx env S)):=QV bL
def rr0:MY:=uS (bO (cn (du "str" '0'))) (gU (mC .non)) (pj aL)
def rr1:MY:=pj (aH (bW '0' (aa (!", ") af)) (il (au 'a' (au 'b' bU))))
def rr2:MY:=pj (aH (ay (ak (em .tup)) (aa (bW '1' (aa (!" ") af)) af)) 'c')
def rr3:MY:=pj (aH (bB (aa '3' (aa (ay (ak (em .tup)) (aa (cg (eD '2') '`' bq (ai 1 dC (aa '0' af)) [Y]) af)) af))) 'd')
def rr4:MY:=uS (cD (aF (az CJ (ay (ak bT) (aa '3' af)) (mC dZ))) (bO (cn (ai 2 gN (aa (ay (ak bT) (aa '3' af)) (aa '4' af)))))) (gU (mC .non)) (pj aL)
def rr5:MY:=pj (aX '4')
def rrM:MY:=fz rr0 (fz rr1 (fz rr2 (fz rr3 (fz rr4 (rr5)))))
theorem IG:nO=rrM:=rfl
theorem BH(h:Cl b z)(hb:b<=520):fq [.str z] S=U (if FN z=true then .val (.tup [eX (fC z),rf (jH z)]) S else .xc Y S):=by
 rw[mJ]
 unfold pJ
 rw[WN (show [D.str z].length=1 from rfl),show aV cW [D.str z]=[U (.str z),Y,Y,Y,Y] from rfl,IG]
 have hz:=h.l
 have ii:gO "str" S (.str z)=U (.bl true):=rfl
 have he:=kR z
 have hp:∀ p∈hdT z::oR z,Cl b p:=λp hp=>h.parts (y:=", ") (by rw[he];exact hp)
 have h0:=hp (hdT z) (by simp)
 have f1:=CF he
 have f2:=CD (z:=hdT z)
 have l0:=h0.l
 have r0:rr0 [U (.str z),Y,Y,Y,Y] S=U (.ok (.nx [U (.str z),Y,Y,Y,Y] S)):=by
  unfold rr0
  rw[yIf (p:=false) (S':=S) (by simp only[cY,fD,lp,aq,ci,oj,ob,am,ls,ii,fF,cI,WU]),WX WJ]
  exact HF
 have gs:∀ env T,il (au 'a' (au 'b' bU)) (.lst ((hdT z::oR z).map .str)) env T=au 'a' (au 'b' bU) [.str (hdT z),.lst ((oR z).map .str)] env T:=λenv T=>Kx (by rw[WI];omega)
 have s1:oA z ([.str ", "],S)=U (.lst ((hdT z::oR z).map .str),S):=by rw[<- he];exact iR ux.1 (by omega)
 have r1:rr1 [U (.str z),Y,Y,Y,Y] S=U (.ok (.nx [U (.str z),U (.str (hdT z)),U (.lst ((oR z).map .str)),Y,Y] S)):=by
  refine QV ?_
  simp![jB,qe,s1,gs,iU,tP,kf]
 have s2:oA (hdT z) ([.str " "],S)=U (.lst ((fC z).map .str),S):=iR sE.2.2 (by omega)
 have r2:rr2 [U (.str z),U (.str (hdT z)),U (.lst ((oR z).map .str)),Y,Y] S=U (.ok (.nx [U (.str z),U (.str (hdT z)),U (.lst ((oR z).map .str)),U (eX (fC z)),Y] S)):=by
  refine QV ?_
  simp![jB,qe,s2,sj]
  rfl
 have kc:=λenv=>lr (S:=S) (t:=bq) (e:=ai 1 dC (aa '0' af)) (cap:=[Y]) (env:=env) (rest:=[]) (a:=Y) (enc:=D.str) (p:=λ_=>true) (f:=λp=>im (FE p)) (xs:=oR z) rfl (by omega) (λ_ _=>ir) (λp hq _=>by
  simp only[aO,ao,aq,ci,oj,ob,am,ah,av,ag,iT,BF (S:=S) (hp p (WB _ hq)) (by omega)])
 rw[XV.mpr (λ_ _=>rfl)] at kc
 have mm:(oR z).map (λp=>im (FE p))=(jH z).map im:=by unfold jH;rw[Yt];rfl
 have r3:rr3 [U (.str z),U (.str (hdT z)),U (.lst ((oR z).map .str)),U (eX (fC z)),Y] S=U (.ok (.nx [U (.str z),U (.str (hdT z)),U (.lst ((oR z).map .str)),U (eX (fC z)),U (.tup [eX (fC z),rf (jH z)])] S)):=by
  refine QV ?_
  simp![dG,iu,jV,yi,kc,mm,sj,de]
  rfl
 have ln:ak bT [eX (fC z)] S=U (.int ((fC z).length:Nat),S):=by unfold eX;rw[uf,WI]
 have fw:(fC z).length<=900:=by unfold fC;omega
 have fe:(jH z).length<=900:=by unfold jH;rw[WI];omega
 have ro:=SU (S:=S) fw fe (RQ h hb (fC z))
 have fg:CJ S (.int ((fC z).length:Nat)) dZ=U (.bl (!decide ((fC z).length<=5))):=by
  show CJ S (.int ((fC z).length:Nat)) (.int 5)=_
  rw[AM];congr 2;rw[Xq];simp;omega
 have r4:rr4 [U (.str z),U (.str (hdT z)),U (.lst ((oR z).map .str)),U (eX (fC z)),U (.tup [eX (fC z),rf (jH z)])] S=if FN z=true then U (.ok (.nx [U (.str z),U (.str (hdT z)),U (.lst ((oR z).map .str)),U (eX (fC z)),U (.tup [eX (fC z),rf (jH z)])] S)) else U (.xc Y S):=by
  unfold rr4
  rw[yIf (p:=!FN z) (S':=S) (by
   unfold FN
   simp![fP,ln,fg]
   cases decide ((fC z).length<=5) with
   | false=>simp only[WY,fR,Xe]
   | true=>simp![WU,fS,cY,fD,ln,ro,fF,cI,Xi])]
  cases FN z with
  | false=>exact wV
  | true=>exact HF
 unfold rrM
 rw[jf r0,jf r1,jf r2,jf r3]
 cases ho:FN z with
 | false=>
  rw[ho,WX WJ] at r4
  rw[rR r4,WX WJ];rfl
 | true=>
  rw[ho,WN rfl] at r4
  have r5:rr5 [U (.str z),U (.str (hdT z)),U (.lst ((oR z).map .str)),U (eX (fC z)),U (.tup [eX (fC z),rf (jH z)])] S=U (.ok (.rt (.tup [eX (fC z),rf (jH z)]) S)):=QV (by
   simp only[aT,aq,ci,da,cZ,oj,ob,am,bn])
  rw[jf r4,r5,WN rfl];rfl
theorem FD{d:D}(h:gO "str" S d=U (.bl false)):fq [d] S=U (.xc Y S):=by
 rw[mJ]
 unfold pJ
 rw[WN (show [d].length=1 from rfl),show aV cW [d]=[U d,Y,Y,Y,Y] from rfl,IG]
 have r0:rr0 [U d,Y,Y,Y,Y] S=U (.xc Y S):=by
  unfold rr0
  rw[yIf (p:=true) (S':=S) (by simp only[cY,fD,lp,aq,ci,oj,ob,am,ls,h,fF,cI,WY]),WN rfl]
  exact wV
 unfold rrM
 rw[rR r0];rfl
end
section
variable{α:Type}{p:α->Bool}
theorem HP:∀ {l:List α} {y:α},y∈l->p y=false->(l.takeWhile p).length<l.length
 | x::l,y,h,hy=>by
  rw[ZF]
  cases hx:p x with
  | false=>simp
  | true=>
   rcases WQ.mp h with rfl | h
   ·rw[hx] at hy;cases hy
   ·have:=HP h hy
    simp only[Yq,WF];omega
theorem HQ:∀ {l:List α},l.all p=true->l.takeWhile p=l
 | [],_=>rfl
 | x::l,h=>by
  rw[XC,Wz] at h
  rw[ZF,h.1,WN rfl,HQ h.2]
theorem Ds:∀ {l:List α} {y:α},y∈l->p y=false->y∈l.drop (l.takeWhile p).length
 | x::l,y,h,hy=>by
  rw[ZF]
  cases hx:p x with
  | false=>exact h
  | true=>
   rcases WQ.mp h with rfl | h
   ·rw[hx] at hy;cases hy
   ·simp only[Yq,WF,List.drop_succ_cons];exact Ds h hy
end
theorem GJ(x:Str):(x==("":Str))=decide (x.length=0):=by
 rw[Xq,beq_iff_eq,WM]
 constructor
 ·rintro rfl;decide +kernel
 ·intro h
  have:x.cps.toList=[]:=List.length_eq_zero_iff.mp ((ou x).trans h)
  exact(xo this).trans (by decide +kernel)
theorem Fw{z:Str}(h:1<=z.length):(Txt.stripChars z y==("":Str))=z.cps.toList.all y.cps.contains:=by
 rw[GJ]
 have hl:=ou z
 cases ha:z.cps.toList.all y.cps.contains with
 | true=>
  have e1:stripLo y.cps.contains true z=z.length:=by unfold stripLo;rw[WN rfl,HQ ha,hl]
  have e2:stripHi y.cps.contains true z z.length=z.length:=by
   unfold stripHi
   rw[WN rfl,List.drop_eq_nil_of_le (by omega)];rfl
  have e3:Txt.stripChars z y=strSub z z.length z.length:=by
   show(if stripSame y.cps.contains true true z=true then z else stripped y.cps.contains true true z)=_
   unfold stripSame stripped
   rw[e1,e2,WX]
   rw[Wz,beq_iff_eq];omega
  rw[e3]
  apply Xk
  show(z.cps.extract z.length z.length).size=0
  rw[abx];omega
 | false=>
  obtain⟨c,hc,hp⟩:∃ c∈z.cps.toList,y.cps.contains c=false:=by
   rw[List.all_eq_false] at ha
   obtain⟨c,hc,hp⟩:=ha
   exact⟨c,hc,by simpa using hp⟩
  apply Xo
  show ¬ (if stripSame y.cps.contains true true z=true then z else stripped y.cps.contains true true z).length=0
  split
  ·omega
  ·have h1:=HP hc hp
   have h2:=Ds hc hp
   have h3:=HP (List.mem_reverse.mpr h2) hp
   rw[abp,YE] at h3
   show ¬ (z.cps.extract (stripLo y.cps.contains true z) (stripHi y.cps.contains true z (stripLo y.cps.contains true z))).size=0
   rw[abx]
   unfold stripHi stripLo
   rw[WN rfl,WN rfl]
   have hs:z.cps.size=z.length:=rfl
   omega
theorem KF:(Str.ofString "0123456789").cps = #[48,49,50,51,52,53,54,55,56,57]:=by decide +kernel
theorem Ig{z:Str}(h:1<=z.length):(Txt.stripChars z "0123456789"==("":Str))=RZ z:=by
 rw[Fw h]
 unfold RZ
 congr 1
 funext c
 rw[show("0123456789":Str).cps = #[48,49,50,51,52,53,54,55,56,57] from KF,Xq,Array.contains_iff_mem,Wz,WM,WM]
 simp only[List.mem_toArray,WQ,Xn,Yn]
 omega
def dashL:List Str:=[⟨#[45]⟩,⟨#[49]⟩,⟨#[50]⟩,⟨#[51]⟩,⟨#[52]⟩,⟨#[53]⟩,⟨#[54]⟩,⟨#[55]⟩,⟨#[56]⟩,⟨#[57]⟩]
def fiveL:List Str:=[⟨#[48]⟩,⟨#[49]⟩,⟨#[50]⟩,⟨#[51]⟩,⟨#[52]⟩]
def wL(d:Str):Bool:=dashL.any λy=>y==d
def wB(k:Nat)(a:Str):Bool:=(fiveL.take k).any λy=>y==a
theorem Mp:∀ n,n<10->wL (iS ((n:Nat):Int))=(decide (1<=n)&&decide (n<=9)):=by decide +kernel
theorem Qz:dashL.all wG=true:=by decide +kernel
theorem Fe(d:Str):wL d=(wG d&&wc (ig d)):=by
 cases hd:(d==("-":Str)) with
 | true=>
  rw[beq_iff_eq.mp hd];decide +kernel
 | false=>
  have e2:ig d=U (gl d):=WX (by rw[hd];exact WJ)
  cases hf:iA d with
  | true=>
   obtain⟨n,hn,e,e3⟩:=oO hf
   have e1:wG d=true:=by unfold wG;rw[hf,aag]
   rw[e1,e2,e3,Xi]
   rw[e,Mp n (by omega)]
   unfold wc
   dsimp only
   congr 1<;>rw[Xq,WM,WM]<;>omega
  | false=>
   have e1:wG d=false:=by unfold wG;rw[hd,hf];rfl
   rw[e1,Xe]
   cases hx:wL d with
   | false=>rfl
   | true=>
    have:=WP.mp Qz d (any_mem.mp hx)
    rw[e1] at this;exact this.symm
theorem KD:∀ k,k<6->∀ n,n<10->wB k (iS ((n:Nat):Int))=decide (n<k):=by decide +kernel
theorem KE:fiveL.all iA=true:=by decide +kernel
theorem EQ{k:Nat}(hk:k<=5)(a:Str):wB k a=(iA a&&decide ((gl a).toNat<k)):=by
 cases hf:iA a with
 | true=>
  obtain⟨n,hn,e,e3⟩:=oO hf
  rw[Xi,e3,e,KD k (by omega) n (by omega)];rfl
 | false=>
  rw[Xe]
  cases hx:wB k a with
  | false=>rfl
  | true=>
   have:=WP.mp KE a (XZ (any_mem.mp hx))
   rw[hf] at this;exact this.symm
section
variable{S:ac}
def JV(z:Str)(q:List D×ac):Option (D×ac):=match q.1 with
 | [.str y]=>if z.length<=1000000 then U (.str (Txt.stripChars z y),q.2) else Y
 | _=>Y
def kStp(ms:MA)(env:ax)(p:D×ac):Option (D×ac):=match p.1 with
 | .str z=>(ms env p.2).bind (JV z)
 | _=>Y
theorem JA:gL a ms env S=(a env S).bind (kStp ms env):=by rw[vR];rfl
theorem UD:kStp ms env (.str z,S)=(ms env S).bind (JV z):=id rfl
theorem OS{z:Str}(h:z.length<=1000000):JV z ([.str y],S)=U (.str (Txt.stripChars z y),S):=WN h
def le0:MS:=bJ (cD (aF (az mw (ay (ak bT) (aa '1' af)) 4e0)) (cD (aF (az ej (az cH '1' 1e0) (bB (aa (!"read") (aa (!"write") af))))) (aF (az ej (az cH '1' 3e0) (ay (ak fU) (aa (!"-123456789") af)))))) (aX (mC .non)) aL
def le1:MS:=bJ (cD (aF (az ej (az cH '1' 0e0) (cB (ay (ak fU) (aa (!"01234") af)) aW (bA (ay (ak bT) (aa '0' af)))))) (aF (az mw (az cH '0' (ay (ak fJ) (aa (az cH '1' 0e0) af))) (!"out")))) (aX (mC .non)) aL
def le2:MS:=bJ (cD (bO (aF (cq KP KP 0e0 (ay (ak bT) (aa (az cH '1' 2e0) af)) 4e0))) (cD (aF (az mw (gL (az cH '1' 2e0) (aa (!"0123456789") af)) (!""))) (gd (aF (az jG (az cH (az cH '1' 2e0) 0e0) (!"0"))) (aF (az mw (az cH '1' 2e0) (!"0")))))) (aX (mC .non)) aL
def le3:MS:=aX (bB (aa (ay (ak fJ) (aa (az cH '1' 0e0) af)) (aa (az cH '1' 1e0) (aa (ay (ak fJ) (aa (az cH '1' 2e0) af)) (aa (pW (aF (az jG (az cH '1' 3e0) (!"-"))) (mC .non) (ay (ak fJ) (aa (az cH '1' 3e0) af))) af)))))
def leM:MS:=aD le0 (aD le1 (aD le2 (le3)))
theorem JN:nX=leM:=rfl
def NC(ws:List Str)(ps:List Str):Option Et:=if cr ws (Hy ps)=true then Hy ps else Y
def lwB(ws:List Str)(a b c d:Str):Bool:=(nC b&&wL d)&&((wB ws.length a&&(ws.getD (gl a).toNat ""==("out":Str)))&&pO c)
theorem Ui{ws:List Str}(hw:ws.length<=5)(a b c d:Str):lwB ws a b c d=cr ws (Hy [a,b,c,d]):=by
 unfold lwB
 rw[Fe,EQ hw]
 show _=cr ws (if (iA a&&(pO c&&wG d))=true then U ⟨(gl a).toNat,b,gl c,ig d⟩ else Y)
 cases iA a with
 | false=>simp[cr]
 | true=>
  cases hc:pO c with
  | false=>simp[cr]
  | true=>
   obtain⟨n,hn,_,e⟩:=Jq hc
   cases wG d with
   | false=>simp[cr]
   | true=>
    rw[WN (show(true&&(true&&true))=true from rfl),Xi,Xi]
    unfold cr TH
    dsimp only
    rw[e]
    rw[Xk (show(0:Int)<=(n:Int) by omega),Xk (show(n:Int)<=999 by omega)]
    generalize decide ((gl a).toNat<ws.length)=x
    generalize (ws.getD (gl a).toNat ""==("out":Str))=y
    generalize nC b=u
    generalize wc (ig d)=v
    cases x<;>cases y<;>cases u<;>cases v<;>rfl
theorem Us{b d:Str}(ha:iA a=true)(hc:pO c=true)(hd:wG d=true):le3 [U (eX ws),U (.lst ([a,b,c,d].map .str))] S=U (.rt (im (Hy [a,b,c,d])) S):=by
 have x0:cH S (.lst ([a,b,c,d].map .str)) (.int 0)=U (.str a):=rfl
 have x1:cH S (.lst ([a,b,c,d].map .str)) (.int 1)=U (.str b):=rfl
 have x2:cH S (.lst ([a,b,c,d].map .str)) (.int 2)=U (.str c):=rfl
 have x3:cH S (.lst ([a,b,c,d].map .str)) (.int 3)=U (.str d):=rfl
 have i1:=oP ha
 have i2:=Jr hc
 have gg:=Kw ha
 have e:Hy [a,b,c,d]=U ⟨(gl a).toNat,b,gl c,ig d⟩:=WN (by rw[ha,hc,hd];rfl)
 rw[e]
 unfold im
 dsimp only
 rw[gg]
 cases h:(d==("-":Str)) with
 | true=>
  have e2:ig d=Y:=WN h
  simp![le3,dG,x0,x1,x2,x3,i1,i2,mM,gP,h,Aj,br,e2]
  rfl
 | false=>
  have i3:=Ur hd h
  have e2:ig d=U (gl d):=WX (by rw[h];exact WJ)
  simp![le3,dG,x0,x1,x2,x3,i1,i2,i3,mM,gP,h,Al,br,e2]
  rfl
theorem VB{ws:List Str}{a b d:Str}(hw:ws.length<=5)(hc:Cl b0 c)(hb:b0<=900):cT [eX ws,.lst ([a,b,c,d].map .str)] S=U (im (NC ws [a,b,c,d]),S):=by
 rw[mK,bt (show [eX ws,D.lst ([a,b,c,d].map .str)].length=2 from rfl),show aV fv [eX ws,D.lst ([a,b,c,d].map .str)]=[U (eX ws),U (.lst ([a,b,c,d].map .str))] from rfl,JN]
 have hl:=hc.l
 have x0:cH S (.lst ([a,b,c,d].map .str)) (.int 0)=U (.str a):=rfl
 have x1:cH S (.lst ([a,b,c,d].map .str)) (.int 1)=U (.str b):=rfl
 have x2:cH S (.lst ([a,b,c,d].map .str)) (.int 2)=U (.str c):=rfl
 have x3:cH S (.lst ([a,b,c,d].map .str)) (.int 3)=U (.str d):=rfl
 have ln:ak bT [.lst ([a,b,c,d].map .str)] S=U (.int 4,S):=by rw[qo];rfl
 have lw:ak bT [eX ws] S=U (.int (ws.length:Nat),S):=by unfold eX;rw[uf,WI]
 have lc:ak bT [.str c] S=U (.int (c.length:Nat),S):=by
  have:bT S [.str c]=U (.int (c.length:Nat)):=WN (Nt (by omega))
  show(bT S [.str c]).bind _=_
  rw[this];rfl
 have k2:gZ ([.str "read",.str "write"],S)=U (.tup (wantL.map .str),S):=bR (by simp)
 have s1:ak fU [.str "-123456789"] S=U (.lst (dashL.map .str),S):=by
  rw[qm (by decide +kernel)]
  have:(Str.ofString "-123456789").cps.toList=[45,49,50,51,52,53,54,55,56,57]:=by decide +kernel
  have e:iL "-123456789" = dashL.map .str:=by
   show(Str.ofString "-123456789").cps.toList.map (λc=>D.str ⟨#[c]⟩)=_
   rw[this];rfl
  rw[e]
 have s2:ak fU [.str "01234"] S=U (.lst (fiveL.map .str),S):=by
  rw[qm (by decide +kernel)]
  have:(Str.ofString "01234").cps.toList=[48,49,50,51,52]:=by decide +kernel
  have e:iL "01234" = fiveL.map .str:=by
   show(Str.ofString "01234").cps.toList.map (λc=>D.str ⟨#[c]⟩)=_
   rw[this];rfl
  rw[e]
 have s3:Cs (.lst (fiveL.map .str)) Y (U (ws.length:Int),S)=U (.lst ((fiveL.take ws.length).map .str),S):=by
  rw[ye,qv _ _ (by rw[WI];exact hw),aaN]
 have n1:ej S (.str b) (.tup (wantL.map .str))=U (.bl (!nC b)):=AH
 have n3:ej S (.str d) (.lst (dashL.map .str))=U (.bl (!wL d)):=AI
 have n0:ej S (.str a) (.lst ((fiveL.take ws.length).map .str))=U (.bl (!wB ws.length a)):=AI
 unfold NC
 rw[<- Ui hw]
 unfold lwB leM
 simp![le0,fP,ln,ud,YO,WU,fS,x1,dG,k2,n1]
 cases hwt:nC b with
 | false=>simp only[WY,fR,ob,bK,aT,aM,bn,bH,aK,Xe,WR,Xx,im]
 | true=>
  simp![WU,fS,x3,s1,n3,Xi]
  cases hds:wL d with
  | false=>simp only[WY,bK,aT,aM,ob,bn,bH,aK,Xe,WR,Xx,im]
  | true=>
   simp![WU,bL,le1,fP,x0,tq,s2,JW,ll,yf,nZ,lw,oB,s3,n0,Xi]
   cases hfv:wB ws.length a with
   | false=>simp only[WY,fR,ob,bK,aT,aM,bn,bH,aK,Xe,WR,Xx,im]
   | true=>
    have h5:=hfv
    rw[EQ hw,Wz,WM] at h5
    obtain⟨hfa,hlt⟩:=h5
    have i1:=oP hfa
    have gg:=Kw hfa
    have xw:cH S (eX ws) (.int (gl a))=U (.str (ws.getD (gl a).toNat "")):=by
     rw[<- gg];exact ixT (S:=S) hlt
    simp![WU,fS,x0,i1,xw,qk,Xi]
    cases(ws.getD (gl a).toNat ""==("out":Str)) with
    | false=>simp only[WY,bK,aT,aM,ob,bn,bH,aK,Xe,WR,Xx,im]
    | true=>
     have l0:decide ((0:Int)<(c.length:Nat))=decide (1<=c.length):=by rw[Xq,WM,WM];omega
     have l4:decide ((c.length:Nat)<(4:Int))=decide (c.length<=3):=by rw[Xq,WM,WM];omega
     simp![WU,bL,le2,fP,cY,zZ,Kk,x2,lc,Kj,KO,l0,Xi]
     cases h1:decide (1<=c.length) with
     | false=>
      have hm:pO c=false:=by unfold pO;rw[h1];rfl
      simp only[Kg,ob,aP,cI,WY,fR,bK,aT,aM,bn,bH,aK,hm,WR,Xx,im]
     | true=>
      simp only[Kf,aM,ob,Ki,KO,l4,am,aP,cI]
      cases h3:decide (c.length<=3) with
      | false=>
       have hm:pO c=false:=by unfold pO;rw[h1,h3];rfl
       simp only[WY,fR,ob,bK,aT,aM,bn,bH,aK,hm,WR,Xx,im]
      | true=>
       have sg:=Ig (XM h1)
       obtain⟨ch,r,hch⟩:=Av (XM h1)
       have ix:cH S (.str c) (.int 0)=U (.str ⟨#[ch]⟩):=ES (by rw[hch];exact wT (i:=0) rfl) (by omega)
       simp![WU,fS,fP,JA,x2,UD,OS (show c.length<=1000000 by omega),qk,sg]
       cases hdg:RZ c with
       | false=>
        have hm:pO c=false:=by unfold pO;rw[h1,h3,hdg];rfl
        simp only[WY,fR,ob,bK,aT,aM,bn,bH,aK,hm,WR,Xx,im]
       | true=>
        have hm:pO c=((c==("0":Str))||!((⟨#[ch]⟩:Str)==("0":Str))):=by unfold pO hdB;rw[h1,h3,hdg,hch];rfl
        simp![WU,fS,Ey,x2,ix,gP]
        have l3:=λhm:pO c=true=>Us (S:=S) (ws:=ws) (b:=b) (c:=c) (d:=d) hfa hm (by rw[Fe,Wz] at hds;exact hds.1)
        cases hh:((⟨#[ch]⟩:Str)==("0":Str)) with
        | false=>
         have hm:pO c=true:=by rw[hm,hh];simp
         simp only[EG,ob,cF,bL,bh,l3 hm,aK,hm,Yq]
        | true=>
         simp![EF,x2,qk]
         cases h0:(c==("0":Str)) with
         | false=>
          have hm:pO c=false:=by rw[hm,hh,h0];rfl
          simp only[WY,bK,aT,aM,ob,bn,bH,aK,hm,WR,Xx,im]
         | true=>
          have hm:pO c=true:=by rw[hm,h0];rfl
          simp only[WU,cF,bL,ob,bh,l3 hm,aK,hm,Yq]
end
section
variable{S:ac}
def ro0:MS:=aH (bW '0' (aa (!", ") af)) 'a'
def ro1:MS:=aH (ay (ak (em .tup)) (aa (bW (az bz '1' 0e0) (aa (!" ") af)) af)) 'b'
def ro2:MS:=bJ (cD (aF (az CJ (ay (ak bT) (aa '2' af)) 5e0)) (bO (cn (ay (ak mx) (aa (cg (eD '2') '`' bq (az yJ '0' (bB (aa (!"out") (aa (!"reads") (aa (!"rising") (aa (!"writes") (aa (!"raised") af))))))) [Y]) af))))) (aX (mC .non)) aL
def ro3:MS:=aH (cg (eD (cB '1' (bA 1e0) aW)) '`' bq (ai 2 cT (aa '1' (aa (bW '0' (aa (!" ") af)) af))) [Y,U 2]) 'c'
def ro4:MS:=bJ (cD (aF (az yJ (mC .non) '3')) (aF (az KP (cQ (aa (cg (eD '3') '`' bq (az bz '0' 0e0) [Y]) af)) (ay (ak bT) (aa '3' af))))) (aX (mC .non)) aL
def ro5:MS:=aX (bB (aa '2' (aa (ay (ak (em .tup)) (aa '3' af)) af)))
def roM:MS:=aD ro0 (aD ro1 (aD ro2 (aD ro3 (aD ro4 (ro5)))))
theorem SW:lg=roM:=rfl
theorem VN(ns:List Int):my ns<=ns.length:=by
 have:=(oN ns [] aaA).1
 unfold my firstMet
 rw[sL]
 simpa using this
theorem Vi{es:List (Option Et)}:yJ S .non (.lst (es.map im))=U (.bl (es.any (·.isNone))):=by
 have o2:((es.map im).all (bN 39))=true:=by
  rw[WP];intro d hd
  obtain⟨e,_,rfl⟩:=Xs.mp hd
  cases e with
  | none=>rfl
  | some e=>obtain⟨g,w,m,t⟩:=e;cases t<;>rfl
 have e:((es.map im).any λd=>jI d .non)=es.any (·.isNone):=by
  rw[List.any_map]
  congr 1
  funext e
  cases e with
  | none=>show jI .non .non=true;rw[jI]
  | some e=>simp[im,jI]
 show(if bN 40 .non=true/\((es.map im).all (bN 39))=true then U (D.bl ((es.map im).any λd=>jI d .non)) else Y)=_
 rw[WN ⟨rfl,o2⟩,e]
def eoT(z:Str):List (Option Et):=(oR z).map λp=>NC (fC z) (Txt.split p " ")
theorem PJ(z:Str):(eoT z).any (·.isNone) = !(jH z).all (cr (fC z)):=by
 have q:∀ p,(NC (fC z) (Txt.split p " ")).isNone = !cr (fC z) (FE p):=λp=>by
  show(if cr (fC z) (FE p)=true then FE p else Y).isNone = !cr (fC z) (FE p)
  cases h:cr (fC z) (FE p) with
  | false=>rfl
  | true=>obtain⟨e,he⟩:=pq h;rw[he];rfl
 unfold eoT jH
 generalize oR z=l
 induction l with
 | nil=>rfl
 | cons p l ih=>rw[WO,WO,Yz,XC,ih,q,Bool.not_and]
theorem VA(h:(jH z).all (cr (fC z))=true):eoT z=jH z:=by
 unfold eoT jH
 refine ZG λp hp=>?_
 have:=WP.mp h (FE p) (Xs.mpr ⟨p,hp,rfl⟩)
 exact WN this
theorem PK{ws:List Str}(h:Cl b z)(hb:b<=800)(hw:ws.length<=5):cT [eX ws,.lst ((Txt.split z " ").map .str)] S=U (im (NC ws (Txt.split z " ")),S):=by
 by_cases h4:(Txt.split z " ").length=4
 ·obtain⟨a,bb,c,d,e⟩:=four h4
  have cc:Cl b c:=h.parts (y:=" ") (by rw[e];simp)
  rw[e];exact VB hw cc (by omega)
 ·have e:NC ws (Txt.split z " ")=Y:=by
   have:Hy (Txt.split z " ")=Y:=by
    unfold Hy
    split
    ·rename_i q;exact absurd (by rw[q];rfl) h4
    ·rfl
   unfold NC
   rw[this];rfl
  rw[e]
  generalize Txt.split z " " = ps at h4
  rw[mK,bt (show [eX ws,D.lst (ps.map .str)].length=2 from rfl),show aV fv [eX ws,D.lst (ps.map .str)]=[U (eX ws),U (.lst (ps.map .str))] from rfl,JN]
  have ne4:mw S (.int ((ps.map D.str).length:Nat)) (.int 4)=U (.bl true):=by
   rw[ud,WI];congr 3;rw[Yh.mpr (by omega)];rfl
  simp![leM,le0,fP,qo,ne4,fR,im]
def Ri(z:Str):D:=if FN z=true then .tup [eX (fC z),rf (jH z)] else .non
theorem SV(h:Cl b z)(hb:b<=520):dk [.str z] S=U (Ri z,S):=by
 rw[rK,bt (show [D.str z].length=1 from rfl),show aV eU [D.str z]=[U (.str z),Y,Y,Y] from rfl,SW]
 have hz:=h.l
 have he:=kR z
 have hp:∀ p∈hdT z::oR z,Cl b p:=λp hp=>h.parts (y:=", ") (by rw[he];exact hp)
 have h0:=hp (hdT z) (by simp)
 have f1:=CF he
 have f2:=CD (z:=hdT z)
 have l0:=h0.l
 have s1:oA z ([.str ", "],S)=U (.lst ((hdT z::oR z).map .str),S):=by rw[<- he];exact iR ux.1 (by omega)
 have s2:oA (hdT z) ([.str " "],S)=U (.lst ((fC z).map .str),S):=iR sE.2.2 (by omega)
 have x0:bz S (.lst ((hdT z::oR z).map .str)) (.int 0)=U (.str (hdT z)):=by rw[qY,WO];exact wT (i:=0) rfl
 have ln:ak bT [eX (fC z)] S=U (.int ((fC z).length:Nat),S):=by unfold eX;rw[uf,WI]
 have fw:(fC z).length<=900:=by unfold fC;omega
 have fe:(jH z).length<=900:=by unfold jH;rw[WI];omega
 have fg:CJ S (.int ((fC z).length:Nat)) (.int 5)=U (.bl (!decide ((fC z).length<=5))):=by
  rw[AM];congr 2;rw[Xq];simp;omega
 have it:Ai (eX (fC z),S)=U ((fC z).map .str,S):=rfl
 have t5:gZ ([.str "out",.str "reads",.str "rising",.str "writes",.str "raised"],S)=U (.tup (wdsL.map .str),S):=bR (by simp)
 have kw:=λenv=>lr (S:=S) (t:=bq) (e:=az yJ '0' (bB (aa (!"out") (aa (!"reads") (aa (!"rising") (aa (!"writes") (aa (!"raised") af))))))) (cap:=[Y]) (env:=env) (rest:=[]) (a:=Y) (enc:=D.str) (p:=λ_=>true) (f:=λx=>.bl (Bo x)) (xs:=fC z) rfl (by omega) (λ_ _=>ir) (λx _ _=>by
  simp![dG,t5,KU];rfl)
 rw[XV.mpr (λ_ _=>rfl)] at kw
 have al:ak mx [.lst ((fC z).map λx=>.bl (Bo x))] S=U (.bl ((fC z).all Bo),S):=by
  rw[uh (ja (p:=Bo) (fC z)),Yw];rfl
 unfold Ri FN
 simp![roM,ro0,ro1,ro2,jB,qe,s1,x0,s2,sj,show D.tup ((fC z).map .str)=eX (fC z) from rfl,fP,ln,fg]
 cases h5:decide ((fC z).length<=5) with
 | false=>simp only[WY,fR,ob,bK,aT,aM,bn,bH,aK,Xe,WR,Xx]
 | true=>
  simp![WU,fS,cY,fD,iu,jV,it,kw,al,fF,cI,Xi]
  cases ha:(fC z).all Bo with
  | false=>simp only[WY,bK,aT,aM,ob,bn,bH,aK,Xe,WR,Xx]
  | true=>
   have sl:Cs (.lst ((hdT z::oR z).map .str)) (U 1) (Y,S)=U (.lst ((oR z).map .str),S):=by
    rw[ye,show(1:Int)=((1:Nat):Int) from rfl,qw _ _ (by simp)];rfl
   have ke:=λenv (he:mz [Y,U 2] env=[Y,U (eX (fC z))])=>lr (S:=S) (t:=bq) (e:=ai 2 cT (aa '1' (aa (bW '0' (aa (!" ") af)) af))) (cap:=[Y,U 2]) (env:=env) (rest:=[U (eX (fC z))]) (a:=Y) (enc:=D.str) (p:=λ_=>true) (f:=λp=>im (NC (fC z) (Txt.split p " "))) (xs:=oR z) he (by omega) (λ_ _=>ir) (λp hq _=>by
    have cp:=hp p (WB _ hq)
    have sq:oA p ([.str " "],S)=U (.lst ((Txt.split p " ").map .str),S):=iR sE.2.2 (by have:=cp.l;omega)
    simp![jB,qe,sq,PK (S:=S) cp (by omega) (XM h5)])
   have ke:=ke [U (.str z),U (.lst ((hdT z::oR z).map .str)),U (eX (fC z)),Y] rfl
   rw[XV.mpr (λ_ _=>rfl),show(oR z).map (λp=>im (NC (fC z) (Txt.split p " ")))=(eoT z).map im from by unfold eoT;rw[Yt];rfl] at ke
   simp![WU,bL,ro3,iu,jV,tq,JW,nZ,oB,yf,ll,sl,yi,ke,ro4,fP,Vi,PJ,Xi]
   cases hall:(jH z).all (cr (fC z)) with
   | false=>simp only[WY,fR,ob,bK,aT,aM,bn,bH,aK,Xe,WR,Xx]
   | true=>
    have gs:=λenv (he:mz [Y] env=[Y])=>EL (S:=S) (cap:=[Y]) (env:=env) he hall fe
    have gs:=gs [U (.str z),U (.lst ((hdT z::oR z).map .str)),U (eX (fC z)),U (.lst ((jH z).map im))] rfl
    have ks:sf ([.lst (((jH z).map rO).map .int)],S)=U (.int (my ((jH z).map rO):Nat),S):=wf (by rw[WI];exact RQ h hb _ hall)
    have lt:decide (((my ((jH z).map rO):Nat):Int)<(((jH z).map im).length:Nat)) = !BQ (jH z):=by
     rw[<- Sa,Xq]
     have:=VN ((jH z).map rO)
     rw[WI] at this
     simp
     omega
    rw[VA hall]
    simp![WU,fS,vX,iu,jV,yi,gs,ks,qo,KO,lt,Xi]
    cases BQ (jH z) with
    | false=>simp only[WY,bK,aT,aM,ob,bn,bH,aK,WR,Xx]
    | true=>
     simp![WU,bL,ro5,dG,sj,de,Yq]
     rfl
def ru0:MY:=pj (aH (pW (cn (du "str" '0')) (dH lC (ai 0 cm af) (aa '0' af)) (mC .non)) 'a')
def SN:MY:=uS (aF (az ET '1' (mC .non))) (gU (mC .non)) (pj aL)
def ru2:MY:=pj (aX '1')
def ruM:MY:=fz ru0 (fz SN (ru2))
theorem IF:nN=ruM:=rfl
theorem BG(z:Str):∃ T,fo [.str z] S=U (match eg ruleKs (.inr z) with | some d=>.val d (S++T) | none=>.xc Y (S++T)):=by
 obtain⟨T,e⟩:=Nz S
 refine⟨T,?_⟩
 rw[mI]
 unfold pJ
 rw[WN (show [D.str z].length=1 from rfl),show aV cV [D.str z]=[U (.str z),Y] from rfl,IF]
 have ii:gO "str" S (.str z)=U (.bl true):=rfl
 have gv:lC (.dct (ruleKs.map (·.1)) (ruleKs.map (·.2))) [.str z] (S++T)=U ((eg ruleKs (.inr z)).getD .non,S++T):=Pu (k:=.inr z) rfl
 have r0:ru0 [U (.str z),Y] S=U (.ok (.nx [U (.str z),U ((eg ruleKs (.inr z)).getD .non)] (S++T))):=QV (by
  simp![mM,fD,lp,ls,ii,fF,Aj,zS,Ao,e,Ka,eI,gv])
 unfold ruM
 rw[jf r0]
 have r1:∀ d,SN [U (.str z),U d] (S++T)=if qj d .non=true then U (.xc Y (S++T)) else U (.ok (.nx [U (.str z),U d] (S++T))):=λd=>by
  unfold SN
  rw[yIf (p:=qj d .non) (S':=S++T) (by simp![AK]),wV,HF]
 rcases xD z with ⟨r,h,_⟩ | ⟨h,_⟩
 ·rw[h]
  have nn:qj r.d .non=false:=rfl
  have q:=r1 r.d
  rw[nn,WX WJ] at q
  have r2:ru2 [U (.str z),U r.d] (S++T)=U (.ok (.rt r.d (S++T))):=QV (by simp only[aT,aq,ci,da,cZ,oj,ob,am,bn])
  show Option.bind (fz SN ru2 [U (.str z),U r.d] (S++T)) _=_
  rw[jf q,r2];rfl
 ·rw[h]
  have nn:qj .non .non=true:=rfl
  have q:=r1 .non
  rw[nn,WN rfl] at q
  show Option.bind (fz SN ru2 [U (.str z),U .non] (S++T)) _=_
  rw[rR q];rfl
theorem FC{d:D}(h:gO "str" S d=U (.bl false)):fo [d] S=U (.xc Y S):=by
 rw[mI]
 unfold pJ
 rw[WN (show [d].length=1 from rfl),show aV cV [d]=[U d,Y] from rfl,IF]
 have r0:ru0 [U d,Y] S=U (.ok (.nx [U d,U .non] S)):=QV (by
  simp![mM,fD,lp,ls,h,fF,Al])
 have r1:SN [U d,U .non] S=U (.xc Y S):=by
  unfold SN
  rw[yIf (p:=true) (S':=S) (by simp![AK];rfl),WN rfl,wV]
 unfold ruM
 rw[jf r0,rR r1];rfl
variable{a:gV}{fy:List D->ac->Option RY}{d v:D}{q:Option Int}{S':ac}
theorem Ae(hf:yQ hF a=U (1,fy))(h:fy [d] S=U (.val v S')):bo [.fn a,d] S=U (v,S'):=by
 rw[nS,bt (show [D.fn a,d].length=2 from rfl),show aV gj [D.fn a,d]=[U (.fn a),U d,Y,Y,Y] from rfl]
 simp[lh,zL,qc,hf,h,qj]
theorem oz(hf:yQ hF a=U (1,fy))(h:fy [d] S=U (.xc q S')):bo [.fn a,d] S=U (.tup [.str "*",ydD q],S'):=by
 rw[nS,bt (show [D.fn a,d].length=2 from rfl),show aV gj [D.fn a,d]=[U (.fn a),U d,Y,Y,Y] from rfl]
 have t2:∀ a b:D,gZ ([a,b],S')=U (.tup [a,b],S'):=λa b=>bR (by simp)
 simp[lh,zL,qc,ya,zV,hf,h,qj,t2]
theorem hf1:yQ hF 159=U (1,fo):=rfl
theorem hf2:yQ hF 169=U (1,fq):=rfl
def fG:D:=.tup [.str "*",.non]
theorem EA(z:Str):∃ T,bo [.fn 159,.str z] S=U ((eg (lawL.map kv) (.inr z)).getD fG,S++T):=by
 obtain⟨T,e⟩:=BG (S:=S) z
 refine⟨T,?_⟩
 rcases xD z with ⟨r,h1,h2⟩ | ⟨h1,h2⟩
 ·rw[h1] at e;rw[h2];exact Ae hf1 e
 ·rw[h1] at e;rw[h2];exact oz hf1 e
theorem OM(h:Cl b z)(hb:b<=520):bo [.fn 169,.str z] S=U (if FN z=true then .tup [eX (fC z),rf (jH z)] else fG,S):=by
 have e:=BH (S:=S) h hb
 cases ho:FN z with
 | true=>rw[ho,WN rfl] at e;rw[WN rfl];exact Ae hf2 e
 | false=>rw[ho,WX WJ] at e;rw[WX WJ];exact oz hf2 e
end
def u0:MS:=aH (ai 2 bP (aa '3' (aa (ai 1 bj (aa (ai 1 cM (aa '3' af)) af)) af))) 'f'
def u1:MS:=aH (dH lC '1' (aa '6' (aa (bB (aa (!"*") (aa (mC .non) af))) af))) 'g'
def u2:MS:=bJ (bO (cn (ai 2 cS (aa (ai 2 bo (aa (mC (.fn 159)) (aa '6' af))) (aa '7' af))))) (aX (mC (.bl false))) aL
def u3:MS:=aH (ai 2 bP (aa '3' (aa (ai 1 cx (aa '4' af)) af))) 'f'
def u4:MS:=bJ (aF (az jG (ai 2 aw (aa '3' (aa 3e0 af))) 0e0)) (aH (ai 2 bP (aa '3' (aa '6' af))) 'f') aL
def u5:MS:=aH (ai 1 dk (aa '6' af)) 'g'
def u6:MS:=bJ (bO (cn (ai 2 cS (aa (ai 2 bo (aa (mC (.fn 169)) (aa '6' af))) (aa (pW (aF (az ET '7' (mC .non))) (bB (aa (!"*") (aa (mC .non) af))) '7') af))))) (aX (mC (.bl false))) aL
def Dt:MS:=aD u0 (aD u1 (aD u2 (aD u3 (aD u4 (aD u5 (u6))))))
def t0:MS:=aH (ai 2 gh (aa '0' (aa '2' af))) 'c'
def t1:MS:=aH (ai 2 cN (aa '3' (aa (az be 1e0 (ai 2 aw (aa '3' (aa 5e0 af)))) af))) 'd'
def t2:MS:=gY (bg (aa 6e0 af)) 'e' Dt
def turn:MS:=aD t0 (aD t1 t2)
def thB:MS:=bJ (cD (aF (az mw (ai 2 bo (aa (mC (.fn 159)) (aa '8' af))) (bB (aa (!"*") (aa (mC .non) af))))) (aF (az mw (ai 2 bo (aa (mC (.fn 169)) (aa '8' af))) (bB (aa (!"*") (aa (mC .non) af)))))) (aX (mC (.bl false))) aL
def thM:MS:=dM (bB (aa (mC .non) (aa 7e0 (aa (mC (.bl true)) (aa (bB af) (aa (cP af) (aa (mC (.dct [] [])) (aa (bB (aa (!"rows") af)) (aa (bB (aa (!"rows") (aa 0e0 (aa 0e0 (aa 0e0 af))))) (aa (bB (aa (bB (aa (!"out") af)) (aa (bB af) af))) af)))))))))) 'h' thB
def lawM:MS:=aD (aH (ai 0 dI af) 'a') (aD (gY (bg (aa (az be 2e0 (ay (ak AJ) (aa 8e0 (aa (ay (ak bT) (aa '0' af)) af)))) af)) 'b' turn) (aD thM (aX (mC (.bl true)))))
theorem ON:Rt=lawM:=rfl
theorem ID:∀ r∈rulesL,Cl 30 (gn r):=by
 have h:(rulesL.all λr=>MW 30 (gn r))=true:=by decide +kernel
 exact λr hr=>gR (WP.mp h r hr)
theorem Jk:∀ n,n<10->MW 1 (iS ((n:Nat):Int))=true:=by decide +kernel
theorem Ea:∀ m∈Jv,MW 3 (iS m)=true/\0<=m/\m<=999:=by decide +kernel
theorem qd:MW 0 Str.empty=true/\MW 1 " " = true/\MW 1 "-" = true/\MW 2 ", " = true:=by decide +kernel
theorem Nc(b:Bool):Cl 5 (db b):=gR (by cases b<;>decide +kernel)
theorem QX(w:Wd):Cl 6 w.s:=gR (by cases w<;>decide +kernel)
theorem OK{t:Option Int}(h:∀ k,t=U k->1<=k/\k<=9):Cl 1 (tI t):=by
 cases t with
 | none=>exact gR qd.2.2.1
 | some k=>
  have:=h k rfl
  obtain⟨n,rfl⟩:∃ n:Nat,k=(n:Int):=⟨k.toNat,by omega⟩
  exact gR (Jk n (by omega))
theorem Dq{e:En}(hg:e.g<5)(h:EnQ e):Cl 13 (kP e):=
 ((((((((gR qd.1).app (gR (Jk e.g (by omega)))).app (gR qd.2.1)).app (Nc e.wr)).app (gR qd.2.1)).app (gR (Ea _ h.m).1)).app (gR qd.2.1)).app (OK h.t)).up (by decide)
theorem HH{ws:List Wd}(h:ws.length<=5):Cl 35 (pp ws):=by
 have c:Cls 35 (ws.map Wd.s):=⟨λp hp=>by obtain⟨w,_,rfl⟩:=Xs.mp hp;exact(QX w).c,by
  unfold wt
  have q:∀ l:List Wd,((l.map Wd.s).map (·.length)).sum<=l.length*6:=λl=>by
   induction l with
   | nil=>simp
   | cons w l ih=>have:=(QX w).l;simp only[WO,Yi,WF,Zr];omega
  have:=q ws
  rw[WI];omega⟩
 exact c.join
section
variable{S:ac}{r n:Nat}{R:Rm}
theorem RmQ.g(h:RmQ n R)(hn:n<=5){e:En}(he:e∈R.2):e.g<5:=by
 have:=(WC.mp (h.out e he)).1
 rw[h.len] at this;omega
theorem RmQ.s(h:RmQ n R)(hn:n<=5):RmS R:=⟨by have:=h.len;omega,by have:=h.few;omega,λe he=>by
 have m:=Ea _ (h.q e he).m
 have:=h.g hn he
 exact⟨by omega,m.2.1,by omega,(h.q e he).t⟩⟩
theorem NA(h:RmQ n R)(hn:n<=5):Cl 110 (Dy R):=by
 have hw:=HH (ws:=R.1) (by rw[h.len];exact hn)
 refine⟨λc hc=>?_,?_⟩
 ·rcases(la _).1 hc with hc | ⟨p,hp,hc⟩
  ·exact(gR qd.2.2.2).c c hc
  ·rcases WQ.mp hp with rfl | hp
   ·exact hw.c c hc
   ·obtain⟨e,he,rfl⟩:=Xs.mp hp
    exact(Dq (h.g hn he) (h.q e he)).c c hc
 ·unfold Dy
  rw[Vc]
  have q:∀ l:List En,(∀ e∈l,Cl 13 (kP e))->((l.map kP).map λq=>(Str.ofString ", ").length+q.length).sum<=l.length*15:=λl=>by
   induction l with
   | nil=>intro _;simp
   | cons e l ih=>
    intro hl
    have:=(hl e (by simp)).l
    have:=ih λx hx=>hl x (WB _ hx)
    have:=ux.2
    simp only[WO,Yi,WF,Zr] at *
    omega
  have q1:=q R.2 λe he=>Dq (h.g hn he) (h.q e he)
  have q2:=h.few
  have q3:=hw.l
  omega
theorem Dx{d:D}(h:dF 8 d=true):cS [d,d] S=U (.bl true,S):=zh (R:=gq) (N:=N__law_same) rfl xU 8 d h
theorem Fy(z:Str):dF 8 ((eg (lawL.map kv) (.inr z)).getD fG)=true:=by
 rcases xD z with ⟨r,_,h⟩ | ⟨_,h⟩<;>rw[h]<;>rfl
theorem Fz(h:Cl b z)(hb:b<=520):dF 8 (if FN z=true then .tup [eX (fC z),rf (jH z)] else fG)=true:=by
 split
 ·have f1:=CF (kR z)
  have f2:=CD (z:=hdT z)
  have hz:=h.l
  have l0:=(h.parts (y:=", ") (p:=hdT z) (by rw[kR];simp)).l
  have a1:(((fC z).map D.str).all (dF 6))=true:=by rw[Yw];exact WP.mpr λ_ _=>rfl
  have a2:(((jH z).map im).all (dF 6))=true:=by
   rw[Yw]
   refine WP.mpr λe _=>?_
   cases e with
   | none=>rfl
   | some e=>obtain⟨g,w,m,t⟩:=e;cases t<;>rfl
  have b1:dF 7 (eX (fC z))=true:=by show(decide (((fC z).map D.str).length<=1000)&&_)=true;rw[a1,ZV];exact Xk (by rw[WI];unfold fC;omega)
  have b2:dF 7 (rf (jH z))=true:=by show(decide (((jH z).map im).length<=1000)&&_)=true;rw[a2,ZV];exact Xk (by rw[WI];unfold jH;rw[WI];omega)
  show(true&&(dF 7 (eX (fC z))&&(dF 7 (rf (jH z))&&true)))=true
  rw[b1,b2];rfl
 ·rfl
def E2(r:Nat)(R:Rm)(a0 a2 a5 a6 a7 a8:Option D):ax:=[a0,U (.ref 0),a2,U (.ref r),U (mn R),a5,a6,a7,a8]
theorem HU(P:Pk S r)(hq:S[0]?=U (dc (lawL.map kv)))(hr:0≠r)(h:RmQ n R)(hn:n<=5):∃ S' b6 b7,Dt (E2 r R a0 a2 a5 a6 a7 a8) S=U (.nx (E2 r R a0 a2 a5 b6 b7 a8) S')/\Pk S' r/\S'[0]?=U (dc (lawL.map kv)):=by
 obtain⟨rl,S1,e1,k1,kb,P1,K1⟩:=QM P
 have e2:bj [rl.d] S1=U (.str (gn rl),S1):=by rw[zi k1];exact mP S1 k1
 obtain⟨y,S2,e3,cy,P2,K2⟩:=Bz P1 (ID rl (IE k1 kb)) (by decide)
 have q2:S2[0]?=U (dc (lawL.map kv)):=by rw[K2.1 0 hr,K1.1 0 hr,hq]
 have td:yV S2 (.ref 0)=U (lawL.map kv):=by simp only[yV,q2,dc,wU]
 have gt:lC (.ref 0) [.str y,fG] S2=U ((eg (lawL.map kv) (.inr y)).getD fG,S2):=by
  unfold lC
  rw[td]
  rfl
 obtain⟨T,e4⟩:=EA (S:=S2) y
 have e5:=Dx (S:=S2++T) (Fy y)
 have P3:Pk (S2++T) r:=P2.appT
 have q3:(S2++T)[0]?=U (dc (lawL.map kv)):=by rw[WS (WC.mp q2).1,q2]
 have e6:=FV (S2++T) (h.s hn)
 obtain⟨y2,S4,e7,cy2,P4,K4⟩:=Bz P3 (NA h hn) (by decide)
 obtain⟨m,S5,e8,m0,m3,P5,K5⟩:=eh S4 r 3 P4 (by decide) (by decide)
 have q5:S5[0]?=U (dc (lawL.map kv)):=by rw[K5.1 0 hr,K4.1 0 hr,q3]
 have t2:∀ S (a b:D),gZ ([a,b],S)=U (.tup [a,b],S):=λS a b=>bR (by simp)
 have hu4:∃ y3 S6,u4 (E2 r R a0 a2 a5 (U (.str y2)) (U ((eg (lawL.map kv) (.inr y)).getD fG)) a8) S4=U (.nx (E2 r R a0 a2 a5 (U (.str y3)) (U ((eg (lawL.map kv) (.inr y)).getD fG)) a8) S6)/\Cl 520 y3/\Pk S6 r/\S6[0]?=U (dc (lawL.map kv)):=by
  cases hm:(m==(0:Int)) with
  | true=>
   obtain⟨y3,S6,e9,cy3,P6,K6⟩:=Bz P5 cy2 (by decide)
   refine⟨y3,S6,?_,cy3.up (by decide),P6,by rw[K6.1 0 hr,q5]⟩
   simp![u4,E2,e8,qp,hm,e9]
  | false=>
   refine⟨y2,S5,?_,cy2.up (by decide),P5,q5⟩
   simp![u4,E2,e8,qp,hm,bL]
 obtain⟨y3,S6,f4,cy3,P6,q6⟩:=hu4
 have e9:=SV (S:=S6) cy3 (by decide)
 have e10:=OM (S:=S6) cy3 (by decide)
 have e11:=Dx (S:=S6) (Fz cy3 (by decide))
 have st:∀ S,gZ ([.str "*",.non],S)=U (fG,S):=λS=>t2 S _ _
 have f0:u0 (E2 r R a0 a2 a5 a6 a7 a8) S=U (.nx (E2 r R a0 a2 a5 (U (.str y)) a7 a8) S2):=by
  simp![u0,E2,iT,e1,e2,e3]
 have f1:u1 (E2 r R a0 a2 a5 (U (.str y)) a7 a8) S2=U (.nx (E2 r R a0 a2 a5 (U (.str y)) (U ((eg (lawL.map kv) (.inr y)).getD fG)) a8) S2):=by
  simp![u1,E2,zS,JZ q2,dG,st,eI,gt]
 have f2:u2 (E2 r R a0 a2 a5 (U (.str y)) (U ((eg (lawL.map kv) (.inr y)).getD fG)) a8) S2=U (.nx (E2 r R a0 a2 a5 (U (.str y)) (U ((eg (lawL.map kv) (.inr y)).getD fG)) a8) (S2++T)):=by
  simp![u2,E2,cY,fD,e4,e5,fF,cI,WU,bL]
 have f3:u3 (E2 r R a0 a2 a5 (U (.str y)) (U ((eg (lawL.map kv) (.inr y)).getD fG)) a8) (S2++T)=U (.nx (E2 r R a0 a2 a5 (U (.str y2)) (U ((eg (lawL.map kv) (.inr y)).getD fG)) a8) S4):=by
  simp![u3,E2,iT,e6,e7]
 have f5:u5 (E2 r R a0 a2 a5 (U (.str y3)) (U ((eg (lawL.map kv) (.inr y)).getD fG)) a8) S6=U (.nx (E2 r R a0 a2 a5 (U (.str y3)) (U (Ri y3)) a8) S6):=by
  simp![u5,E2,iT,e9]
 have due:∀ env,pW (aF (az ET '7' (mC .non))) (bB (aa (!"*") (aa (mC .non) af))) '7' (E2 r R a0 a2 a5 env (U (Ri y3)) a8) S6=U (if FN y3=true then .tup [eX (fC y3),rf (jH y3)] else fG,S6):=λenv=>by
  unfold Ri
  cases FN y3 with
  | true=>
   have z:qj (.tup [eX (fC y3),rf (jH y3)]) .non=false:=rfl
   simp![E2,Yq,mM,AK,z,Al]
  | false=>
   have z:qj .non .non=true:=rfl
   simp![E2,WR,Xx,mM,AK,z,Aj,dG,st]
 have f6:u6 (E2 r R a0 a2 a5 (U (.str y3)) (U (Ri y3)) a8) S6=U (.nx (E2 r R a0 a2 a5 (U (.str y3)) (U (Ri y3)) a8) S6):=by
  have d2:=due (U (.str y3))
  unfold E2 at d2 ⊢
  simp![u6,cY,fD,d2,e10,e11,fF,cI,WU,bL]
 refine⟨S6,U (.str y3),U (Ri y3),?_,P6,q6⟩
 simp only[Dt,bM,f0,ob,bh,f1,f2,f3,f4,f5,f6]
theorem Ni{ns:List Int}{k:Int}{a3 a4 a5 a6 a7 a8:Option D}(h0:0<=k)(h1:k<=100000)(hq:S[0]?=U (dc (lawL.map kv))) :
  ∃ b3 b4 b5 b6 b7 S',turn [U (.rol (ns.map .int)),U (.ref 0),U (.int k),a3,a4,a5,a6,a7,a8] S=U (.nx [U (.rol (ns.map .int)),U (.ref 0),U (.int k),b3,b4,b5,b6,b7,a8] S')/\S'[0]?=U (dc (lawL.map kv)):=by
 obtain⟨p,s,e1,p0,q0,q1⟩:=left (S:=S) (ns:=ns) h0 h1
 have P1:=Wp (S:=S) (c:=0) p0 q0 q1
 have hl:0<S.length:=(WC.mp hq).1
 have hr:0≠S.length:=by omega
 obtain⟨m,S2,e2,m0,m5,P2,K2,L2⟩:=eh _ _ 5 P1 (by decide) (by decide)
 obtain⟨n,hn⟩:∃ n:Nat,1+m=(n:Int):=⟨(1+m).toNat,by omega⟩
 have n5:n<=5:=by omega
 obtain⟨R,S3,e3,hR,P3,K3⟩:=QN (n:=n) P2 n5
 have q2:S2[0]?=U (dc (lawL.map kv)):=by rw[K2 0 hr,WS hl,hq]
 have q3:S3[0]?=U (dc (lawL.map kv)):=by rw[K3 0 hr (by rw[L2,Xf];omega),q2]
 obtain⟨env',S6,e6,⟨a5',a6',a7',rfl⟩,_,q6⟩:=oM (tg:=aj 5) (p:=Dt) (λenv S'=>(∃ a5 a6 a7,env=E2 S.length R (U (.rol (ns.map .int))) (U (.int k)) a5 a6 a7 a8)/\Pk S' S.length/\S'[0]?=U (dc (lawL.map kv))) (cA 0 6) (λd hd env S' hI=>by
  obtain⟨⟨a5,a6,a7,rfl⟩,hP,hq⟩:=hI
  obtain⟨S'',b6,b7,e,P',q'⟩:=HU (a0:=U (.rol (ns.map .int))) (a2:=U (.int k)) (a5:=U d) (a6:=a6) (a7:=a7) (a8:=a8) hP hq hr hR n5
  exact⟨_,_,_,_,aQ,e,⟨_,_,_,rfl⟩,P',q'⟩) (E2 S.length R (U (.rol (ns.map .int))) (U (.int k)) a5 a6 a7 a8) S3 ⟨⟨_,_,_,rfl⟩,P3,q3⟩
 have k6:RA ([.int 6],S3)=U (cA 0 6,S3):=jX (by decide) (by decide)
 refine⟨U (.ref S.length),U (mn R),a5',a6',a7',S6,?_,q6⟩
 unfold E2 at e6
 simp![turn,t0,t1,t2,e1,e2,lD,hn,e3,pX,fi,k6,qg,e6]
def xh:List D:=[.non,.int 7,.bl true,.tup [],.lst [],.dct [] [],.tup [.str "rows"],.tup [.str "rows",.int 0,.int 0,.int 0],.tup [.tup [.str "out"],.tup []]]
theorem vn:∀ d∈xh,gO "str" S d=U (.bl false):=λd hd=>by
 unfold xh at hd
 simp only[WQ,Xn,Yn] at hd
 rcases hd with rfl | rfl | rfl | rfl | rfl | rfl | rfl | rfl | rfl<;>rfl
theorem Sr{a0 a1 a2 a3 a4 a5 a6 a7 a8:Option D}:∃ env' S',thM [a0,a1,a2,a3,a4,a5,a6,a7,a8] S=U (.nx env' S'):=by
 obtain⟨env',S',e,_⟩:=oM (tg:=aj 8) (p:=thB) (λenv _=>∃ a8,env=[a0,a1,a2,a3,a4,a5,a6,a7,a8]) xh (λd hd env S hI=>by
  obtain⟨b,rfl⟩:=hI
  have e1:bo [.fn 159,d] S=U (fG,S):=oz hf1 (FC (vn (S:=S) d hd))
  have e2:bo [.fn 169,d] S=U (fG,S):=oz hf2 (FD (vn (S:=S) d hd))
  have st:gZ ([.str "*",.non],S)=U (fG,S):=bR (by simp)
  have ne:mw S fG fG=U (.bl false):=KN rfl
  refine⟨_,_,[a0,a1,a2,a3,a4,a5,a6,a7,U d],S,aQ,?_,⟨_,rfl⟩⟩
  simp![thB,fP,e1,e2,dG,st,ne,fS,bL]) [a0,a1,a2,a3,a4,a5,a6,a7,a8] S ⟨_,rfl⟩
 have t0:gZ ([],S)=U (.tup [],S):=bR (by simp)
 have t1:∀ a:D,gZ ([a],S)=U (.tup [a],S):=λa=>bR (by simp)
 have t2:∀ a b:D,gZ ([a,b],S)=U (.tup [a,b],S):=λa b=>bR (by simp)
 have t4:∀ a b c d:D,gZ ([a,b,c,d],S)=U (.tup [a,b,c,d],S):=λa b c d=>bR (by simp)
 have l0:nk ([],S)=U (.lst [],S):=fm (by simp)
 have t9:gZ ([.non,.int 7,.bl true,.tup [],.lst [],.dct [] [],.tup [.str "rows"],.tup [.str "rows",.int 0,.int 0,.int 0],.tup [.tup [.str "out"],.tup []]],S)=U (.tup xh,S):=bR (by simp)
 refine⟨env',S',?_⟩
 simp only[thM,oh,dG,ao,aM,ob,ah,av,ag,t0,jr,l0,t1,t2,t4,t9,sh,e]
end
theorem JO:∀ ns:List Int,ns.length<=63->∃ S',AG [.rol (ns.map .int)] []=U (.bl true,S'):=λns hl=>by
 rw[Ub,bt (show [D.rol (ns.map .int)].length=1 from rfl),show aV Bj [D.rol (ns.map .int)]=[U (.rol (ns.map .int)),Y,Y,Y,Y,Y,Y,Y,Y] from rfl,ON]
 have e0:=Cp []
 have e0':dI [] []=U (.ref 0,[dc (lawL.map kv)]):=e0
 generalize hk:(2+if (ns.length:Int)<8 then(ns.length:Int) else 8)=k
 have hk':0<=k/\k<=26:=by rw[<- hk];split<;>omega
 have k1:∀ S,RA ([.int k],S)=U (cA 0 k.toNat,S):=λS=>jX (by omega) (by omega)
 obtain⟨env',S',e,⟨a2,a3,a4,a5,a6,a7,a8,rfl⟩,_⟩:=oM (tg:=aj 2) (p:=turn) (λenv S=>(∃ a2 a3 a4 a5 a6 a7 a8,env=[U (.rol (ns.map .int)),U (.ref 0),a2,a3,a4,a5,a6,a7,a8])/\S[0]?=U (dc (lawL.map kv))) (cA 0 k.toNat) (λd hd env S hI=>by
  obtain⟨⟨a2,a3,a4,a5,a6,a7,a8,rfl⟩,hq⟩:=hI
  obtain⟨i,hi,rfl⟩:=BW hd
  obtain⟨b3,b4,b5,b6,b7,S2,e,q2⟩:=Ni (S:=S) (ns:=ns) (k:=0+(i:Int)) (a3:=a3) (a4:=a4) (a5:=a5) (a6:=a6) (a7:=a7) (a8:=a8) (by omega) (by omega) hq
  exact⟨_,_,_,_,aQ,e,⟨_,_,_,_,_,_,_,rfl⟩,q2⟩) [U (.rol (ns.map .int)),U (.ref 0),Y,Y,Y,Y,Y,Y,Y] [dc (lawL.map kv)] ⟨⟨_,_,_,_,_,_,_,rfl⟩,rfl⟩
 obtain⟨env2,S2,e2⟩:=Sr (S:=S') (a0:=U (.rol (ns.map .int))) (a1:=U (.ref 0)) (a2:=a2) (a3:=a3) (a4:=a4) (a5:=a5) (a6:=a6) (a7:=a7) (a8:=a8)
 refine⟨S2,?_⟩
 simp![lawM,Ao,e0',pX,fi,Vt,Pr,WI,lD,hk,k1,qg,e,e2]
end K49
end
end
namespace PySem.W.Fast
def tw1862851582525149359:=0
def tw4282812768552662526:=0
def tw1783834919302793142:=0
def tw13286636120933668375:=0
def tw11678591924608841495:=0
def tw8129800327646797875:=0
def tw3742181514218927456:=0
def tw10754989660122054240:=0
def tw17042228237470573507:=0
def tw11029292345779467438:=0
def tw1087176104736813874:=0
def tw1378259147934639475:=0
def tw9759991243935390862:=0
def tw7242135555441398523:=0
def tw12909698605994897482:=0
def tw3829814616699180950:=0
def tw7550496154129953042:=0
def tw13526548671601812027:=0
def tw11306660924942879123:=0
def tw14057951729867540989:=0
def tw8035810179384661992:=0
def tw15983907464832709010:=0
def tw12113508304920007726:=0
def tw9969999659704257206:=0
def tw943307228628454981:=0
def tw8088401517318343495:=0
def tw14676342540370226997:=0
def tw5100897072615779567:=0
def tw11980816137802087092:=0
def tw16823398110535335051:=0
def tw9675397692135424928:=0
def tw10428170484205602958:=0
def tw5463771015061369400:=0
def tw3999572515461195927:=0
def tw5839554616002135817:=0
def tw11547991977399484992:=0
def tw4904263619742312920:=0
def tw9774278744640487143:=0
def tw8659288858990396803:=0
def tw8655195856546469052:=0
def tw13907432669389716207:=0
def tw501985042822440068:=0
def tw9454337938621637573:=0
def tw13682457851962236249:=0
def tw12726141141796897847:=0
def tw16148717487288299869:=0
def tw4044221808133758050:=0
def tw2019247558549529753:=0
def tw18188522958652701952:=0
def tw15292425549918827031:=0
def tw1163711370112755479:=0
def tw5567131759043549134:=0
def tw11778750417941311188:=0
def tw14377066018206936380:=0
def tw9423741261714518128:=0
def tw7429968620495896491:=0
def tw8932909114978596580:=0
def tw8932898241232613842:=0
def tw16023867151538721362:=0
def tw12832795197580759776:=0
def tw4695506869073942225:=0
def tw10181684820338342009:=0
def tw12701287657652180184:=0
def tw12676291846822380926:=0
def tw13545633620251534573:=0
def tw230231131452240940:=0
def tw252826095452687634:=0
def tw1430531867095032284:=0
def tw8585583384048141655:=0
def tw6762386728339185881:=0
def tw5406244894998180494:=0
def tw10161187064751102705:=0
def tw7538861635459065837:=0
def tw13300572629154417940:=0
def tw15326046809544417534:=0
end PySem.W.Fast
namespace PySem.W.Fast
def tw553624962071733108:=0
def tw11364056184861847916:=0
def tw7908537691527329178:=0
def tw5151593642770902385:=0
def tw9509715264902873361:=0
def tw1731746538828628738:=0
def tw5046077166895204817:=0
def tw10181592427354725348:=0
def tw3993325277210209508:=0
def tw15192910506873399551:=0
def tw2726559373800489277:=0
def tw3829397699442350136:=0
def tw12853540029167123817:=0
def tw10347873733396111914:=0
def tw903141919362058090:=0
def tw15760508177432163290:=0
def tw16816909311091786380:=0
def tw5571063511488971971:=0
def tw14665491503511408451:=0
def tw16177213866702139918:=0
def tw8515400288047789716:=0
def tw16093185965966081309:=0
def tw8828402347628399799:=0
def tw17412293316200101659:=0
def tw14658513472167346121:=0
def tw2454219930326314489:=0
def tw4272724626821854508:=0
def tw3262290522240696394:=0
def tw3888525728096448520:=0
def tw11455605999725042401:=0
def tw11641508215698224611:=0
def tw8861333015678471481:=0
def tw9806407434381982307:=0
def tw15914761566569182893:=0
def tw7379264884202143986:=0
def tw4600691568415000224:=0
def tw147062938234691838:=0
def tw5893979909172628541:=0
def tw18070243785661856680:=0
def tw18411426599016681348:=0
def tw12571200536658108778:=0
def tw2810679568404419022:=0
def tw5358144975996793868:=0
def tw4276836276795702261:=0
def tw8295400020626783959:=0
def tw6405020117303422140:=0
def tw4267685178641552368:=0
def tw13691031833976551045:=0
def tw18108316160155198195:=0
def tw5921201726334232344:=0
def tw9182063221150159686:=0
def tw17046329268420579362:=0
def tw11574781145464635043:=0
def tw17418653330913386104:=0
def tw14051409727612033328:=0
def tw2806491674435990955:=0
def tw6120012741890112374:=0
def tw3064442409148319249:=0
def tw10980653520965041430:=0
def tw1688555207136094168:=0
def tw13680358120065092625:=0
def tw15731231178700359229:=0
def tw2737383320397731409:=0
def tw2771530979032384512:=0
def tw7604493660567301823:=0
def tw2333906827800645008:=0
def tw14875155316906675472:=0
def tw8460828884850868435:=0
def tw9037539253801636850:=0
def tw14303347664257053256:=0
def tw105732332445799811:=0
def tw13484528864880086895:=0
def tw13804151709034123680:=0
def tw6635999242625362549:=0
def tw8442666759864262002:=0
def tw12960829020732463473:=0
def tw16289311490774800735:=0
def tw5455643320245588648:=0
def tw7391196068064537251:=0
def tw12900937106593579006:=0
def tw8193246270947999069:=0
def tw3062353127957213713:=0
def tw5241590511605483517:=0
def tw9750687956562790794:=0
def tw9337707314708986658:=0
def tw5750173071241628807:=0
def tw11775326655628160964:=0
def tw14262804242794886187:=0
def tw14896921421701172129:=0
def tw14353213043357876530:=0
def tw9655767876733377594:=0
def tw17846705694154687656:=0
def tw4591049693208954785:=0
def tw735762836006011584:=0
def tw16492175259046680434:=0
def tw16642039421455688200:=0
def tw9491717760707051887:=0
def tw13049701405639899563:=0
def tw3936004980801795001:=0
def tw14227793931716036780:=0
def tw7436622945369121952:=0
def tw13463331605838377770:=0
def tw12782681318953790622:=0
def tw10791777555040264274:=0
def tw10082263501795807650:=0
def tw16245772976448320087:=0
def tw10555283825471154268:=0
def tw5275544666914645798:=0
def tw8236604574645416584:=0
def tw15419002293796312562:=0
def tw7916561049150107535:=0
def tw12167969029168958777:=0
def tw15846085361278754982:=0
def tw6847562620721927402:=0
def tw4363102951199625529:=0
def tw18241508326682061009:=0
def tw7324219590277742356:=0
def tw8365567197725292953:=0
def tw7755733068750478917:=0
def tw4214611469182489165:=0
def tw16750646036764816200:=0
def tw9903156545364232494:=0
def tw14678275210920267343:=0
def tw6611301339594012098:=0
def tw8198606831039124393:=0
def tw18216493566539137387:=0
def tw3637829927636792543:=0
def tw5654523830420739472:=0
def tw5107981377301304743:=0
def tw17285580848025354727:=0
def tw9127573097255015052:=0
def tw17239305114005252846:=0
def tw12785178615699303391:=0
def tw7810126458049286284:=0
def tw7669162980512978727:=0
def tw12214189797787397865:=0
def tw12982699943087457652:=0
def tw1832839329129665906:=0
def tw3133273114348878879:=0
def tw11863917828884267881:=0
def tw14583882149232981094:=0
def tw16985720741019260636:=0
def tw11198499972149363705:=0
def tw15213526033648152491:=0
def tw8212281487480926725:=0
def tw9764815565087136575:=0
def tw9697246081663751755:=0
def tw9187440662238964682:=0
def tw14134238117855061574:=0
def tw13113897816655256684:=0
def tw15808912264903248834:=0
def tw6992783266084356585:=0
def tw5102255162822773085:=0
def tw14208808684729246384:=0
def tw14621917999067393555:=0
def tw12303435861826734903:=0
def tw6003218377913937439:=0
def tw9964560159275928688:=0
def tw18229181533972067153:=0
def tw16155580966202295306:=0
def tw2570408514342984535:=0
def tw16526350900914031575:=0
def tw17124503346136405915:=0
def tw243379115435665967:=0
def tw17254085164266311119:=0
def tw15657564461118690192:=0
def tw11490114981514874501:=0
def tw7162269346410325927:=0
def tw13294433625511216872:=0
def tw5685354062084179345:=0
def tw11647472573372193713:=0
def tw10006381388395628560:=0
def tw10991811753685726760:=0
def tw899700233870077224:=0
def tw5410388500279187640:=0
def tw9582341831211817204:=0
def tw16129160190164558730:=0
def tw2183946172967547112:=0
def tw11048578509245049203:=0
def tw2558988320004924666:=0
def tw14556379134966085847:=0
def tw12921441549237405405:=0
def tw5020680310721165388:=0
def tw17315311318139598916:=0
def tw681059356912429448:=0
def tw4503911531367683984:=0
def tw12332400539199533423:=0
def tw12071600287912144148:=0
def tw17759419468394226071:=0
def tw2660700137087688177:=0
def tw16511282104902992867:=0
def tw17229588739632905475:=0
def tw17519038788837660046:=0
def tw1650922277198822971:=0
def tw1575483099905085852:=0
def tw12036158701733923836:=0
def tw16177226338983700298:=0
def tw12324558981046879146:=0
def tw1165476181010562285:=0
def tw10336371054093830066:=0
def tw3665138752242205937:=0
def tw13408613364428989169:=0
end PySem.W.Fast
noncomputable def PySem.W.Fast.tw1009265724628499604:PySem.Program:=PySem.Challenge.pw_manyreaders_k49_rules_and_rooms_refused
theorem PySem.W.Fast.te1009265724628499604:PySem.Challenge.pw_manyreaders_k49_rules_and_rooms_refused=W.Fast.tw1009265724628499604:=rfl
namespace K49
def c0:tu:=ic 0
def c5:tu:=ic 5
def c6:tu:=ic 6
def c7:tu:=ic 7
def c8:tu:=ic 8
def c9:tu:=ic 9
def c10:tu:=ic 10
def c15:tu:=ic 15
def c16:tu:=ic 16
def c17:tu:=ic 17
def c18:tu:=ic 18
def c19:tu:=ic 19
def c20:tu:=ic 20
def c21:tu:=ic 21
def c22:tu:=ic 22
def c23:tu:=ic 23
def c24:tu:=ic 24
def c26:tu:=ic 26
def c27:tu:=ic 27
def c28:tu:=ic 28
def c34:tu:=ic 34
def pw2:pr:={ PySem.Challenge.pw_manyreaders_k49_rules_and_rooms_refused with main:={ PySem.Challenge.pw_manyreaders_k49_rules_and_rooms_refused.main with body:=[c0,gF,eY,iC,dW,c5,c6,c7,c8,c9,c10,iE,fX,fY,iD,c15,c16,c17,c18,c19,c20,c21,c22,c23,c24,fV,c26,c27,c28,dw,cJ,dA,fW,df,c34,di,gc,gG,gb,cf,cK,cL,cu,cw,fZ,eZ,fc,dh,dX,vB] } }
def lw:W.OpenLaw:={ PySem.Challenge.rw_manyreaders_k49_rules_and_rooms_refused with prog:=pw2 }
theorem lw_eq:PySem.Challenge.rw_manyreaders_k49_rules_and_rooms_refused=lw:=by kernel_rfl
end K49
namespace K49
open L2 MI M
noncomputable def nB:Str:="law_manyreaders_k49_rules_and_rooms_refused"
noncomputable def md1:Str:="manyreaders.showing"
noncomputable def MV:Str:="manyreaders.reading"
noncomputable def Rs:Str:="manyreaders.kinds"
noncomputable def Rr:Str:="manyreaders.rooms"
noncomputable def md5:Str:="manyreaders.errors"
noncomputable def kf0(P:Params):FA:=[(3,⟨.type "dict",Y,.dict #[kE P "__name__" 165 (.str "law_manyreaders_k49_rules_and_rooms_refused" 451),kE P "__doc__" 166 .none,kE P "__package__" 167 .none,kE P "__loader__" 168 (.builtin "__main__.__loader__#opaque"),kE P "__spec__" 169 .none,kE P "__annotations__" 170 (.ref 6),kE P "__builtins__" 171 (.ref 4),kE P "__file__" 173 (.str "/claim/cut.py" 172),kE P "__cached__" 174 .none,kE P "is_whole" 195 (.ref 21),kE P "is_between" 204 (.ref 28),kE P "is_word" 212 (.ref 35),kE P "is_tuple_of" 220 (.ref 42),kE P "WITHIN_WORDS" 228 (.ref 43),kE P "WANTS" 231 (.ref 44),kE P "MOST_GUESTS" 233 (.int 5 232),kE P "GREATEST_MARK" 235 (.int 999 234),kE P "GREATEST_LEFT" 237 (.int 9 236),kE P "is_room" 247 (.ref 51),kE P "is_within" 253 (.ref 56),kE P "are_waits" 259 (.ref 61),kE P "is_wait" 271 (.ref 68),kE P "GuestError" 291 (.ref 78),kE P "NoDeed" 316 (.ref 98),kE P "NoText" 341 (.ref 117),kE P "TooMany" 357 (.ref 129),kE P "NoLine" 373 (.ref 141),kE P "RULE_WORDS" 379 (.ref 144),kE P "GREATEST_MOST" 381 (.int 5 380),kE P "GREATEST_K" 383 (.int 9 382),kE P "rule_text" 397 (.ref 151),kE P "FIGURES" 410 (.ref 152),kE P "MOST_FIGURES" 412 (.int 3 411),kE P "read_rule" 420 (.ref 159),kE P "rules_by_text" 426 (.ref 164),kE P "read_room" 432 (.ref 169),kE P "read_wait" 444 (.ref 176),kE P "is_mark_text" 450 (.ref 181),kE P "_law_cell_at" 460 (.ref 188),kE P "_law_left" 470 (.ref 195),kE P "_law_far" 478 (.ref 202),kE P "_law_pick" 487 (.ref 209),kE P "_law_same" 493 (.ref 214),kE P "_law_any_rule" 503 (.ref 221),kE P "_law_any_room" 509 (.ref 226),kE P "_law_rule_text" 521 (.ref 233),kE P "_law_room_text" 533 (.ref 240),kE P "_law_read" 544 (.ref 247),kE P "_law_rules" 555 (.ref 254),kE P "_law_entry" 563 (.ref 261),kE P "_law_room_of" 569 (.ref 266),kE P "_law_spoilt" 583 (.ref 273),kE P "law" 598 (.ref 280)] 53,#[]⟩),(20,kC "is_whole" 189 2 1 15 16 (.ref 17) (.ref 18) 19 193),(21,kF "is_whole" gF Rs 187 20),(27,kC "is_between" 196 4 3 22 23 (.ref 24) (.ref 25) 26 202),(28,kF "is_between" eY Rs 187 27),(34,kC "is_word" 205 6 2 29 30 (.ref 31) (.ref 32) 33 210),(35,kF "is_word" iC Rs 187 34),(41,kC "is_tuple_of" 213 8 2 36 37 (.ref 38) (.ref 39) 40 218)]
noncomputable def kf1(P:Params):FA:=[(42,kF "is_tuple_of" dW Rs 187 41),(43,⟨.type "tuple",Y,.seq #[.str "out" 223,.str "reads" 224,.str "rising" 225,.str "writes" 226,.str "raised" 227] 0,#[]⟩),(44,⟨.type "tuple",Y,.seq #[.str "read" 229,.str "write" 230] 0,#[]⟩),(50,kC "is_room" 238 16 2 45 46 (.ref 47) (.ref 48) 49 245),(51,kF "is_room" iE Rr 221 50),(55,kC "is_within" 248 21 2 52 53 .none .none 54 251),(56,kF "is_within" fX Rr 221 55),(60,kC "are_waits" 254 23 2 57 58 .none .none 59 257)]
noncomputable def kf2(P:Params):FA:=[(61,kF "are_waits" fY Rr 221 60),(67,kC "is_wait" 260 28 2 62 63 (.ref 64) (.ref 65) 66 269),(68,kF "is_wait" iD Rr 221 67),(77,⟨.type "dict",Y,.dict #[kE P "__module__" 281 (.str "manyreaders.errors" 272),kE P "__firstlineno__" 285 (.int 38 284),kE P "__static_attributes__" 286 (.ref 76),kE P "__weakref__" 288 (.ref 79),kE P "__doc__" 289 .none] 3,#[]⟩),(78,kX "GuestError" 78 77 [.type "ValueError"] HT.jg [.ref 98,.ref 117,.ref 129,.ref 141] 69 274 282),(98,kX "NoDeed" 98 97 [.ref 78] (.ref 78::HT.jg) [] 82 292 300),(113,⟨.type "code",Y,.fields #[.str "__init__" 329,.str "NoText.__init__" 330,.str "/claim/cut.py" 331,.int 46 0,.int 2 0,.int 0 0,.int 0 0,.int 3 0,.ref 108,.bool true,.int 181 0,.ref 109,.none,.ref 110,.ref 111,.ref 112,.int 334 0,.int 46 0,.str "/claim/cut.py" 335],#[]⟩),(114,kI "NoText.__init__" Iz md5 272 113)]
noncomputable def kf3(P:Params):FA:=[(116,⟨.type "dict",Y,.dict #[kE P "__module__" 324 (.str "manyreaders.errors" 272),kE P "__firstlineno__" 328 (.int 44 327),kE P "__init__" 336 (.ref 114),kE P "__static_attributes__" 338 (.ref 115),kE P "__doc__" 339 .none] 2,#[]⟩),(117,kX "NoText" 117 116 [.ref 78] (.ref 78::HT.jg) [] 101 317 325),(129,kX "TooMany" 129 128 [.ref 78] (.ref 78::HT.jg) [] 120 342 350),(141,kX "NoLine" 141 140 [.ref 78] (.ref 78::HT.jg) [] 132 358 366),(144,⟨.type "tuple",Y,.seq #[.str "rows" 374,.str "readers" 375,.str "writers" 376,.str "turns" 377,.str "passes" 378] 0,#[]⟩),(150,kC "rule_text" 386 56 1 145 146 (.ref 147) (.ref 148) 149 395),(151,kF "rule_text" fV md1 384 150),(152,⟨.type "tuple",Y,.seq #[.str "0" 400,.str "1" 401,.str "2" 402,.str "3" 403,.str "4" 404,.str "5" 405,.str "6" 406,.str "7" 407,.str "8" 408,.str "9" 409] 0,#[]⟩)]
noncomputable def kf4(P:Params):FA:=[(158,kC "read_rule" 413 69 1 153 154 (.ref 155) (.ref 156) 157 418),(159,kF "read_rule" dw MV 398 158),(163,kC "rules_by_text" 421 74 0 160 161 .none .none 162 424),(164,kF "rules_by_text" cJ MV 398 163),(168,kC "read_room" 427 77 1 165 166 .none .none 167 430),(169,kF "read_room" dA MV 398 168),(175,kC "read_wait" 433 86 1 170 171 (.ref 172) (.ref 173) 174 442),(176,kF "read_wait" fW MV 398 175)]
noncomputable def kf5(P:Params):FA:=[(180,kC "is_mark_text" 445 94 1 177 178 .none .none 179 448),(181,kF "is_mark_text" df MV 398 180),(187,kC "_law_cell_at" 453 99 2 182 183 (.ref 184) (.ref 185) 186 458),(188,kF "_law_cell_at" di nB 451 187),(194,kC "_law_left" 461 103 2 189 190 (.ref 191) (.ref 192) 193 468),(195,kF "_law_left" gc nB 451 194),(201,kC "_law_far" 471 110 0 196 197 (.ref 198) (.ref 199) 200 476),(202,kF "_law_far" gG nB 451 201)]
noncomputable def kf6(P:Params):FA:=[(208,kC "_law_pick" 479 115 2 203 204 (.ref 205) (.ref 206) 207 485),(209,kF "_law_pick" gb nB 451 208),(213,kC "_law_same" 488 123 2 210 211 .none .none 212 491),(214,kF "_law_same" cf nB 451 213),(220,kC "_law_any_rule" 494 140 1 215 216 (.ref 217) (.ref 218) 219 501),(221,kF "_law_any_rule" cK nB 451 220),(225,kC "_law_any_room" 504 144 2 222 223 .none .none 224 507),(226,kF "_law_any_room" cL nB 451 225)]
noncomputable def kf7(P:Params):FA:=[(232,kC "_law_rule_text" 510 156 1 227 228 (.ref 229) (.ref 230) 231 519),(233,kF "_law_rule_text" cu nB 451 232),(239,kC "_law_room_text" 522 160 1 234 235 (.ref 236) (.ref 237) 238 531),(240,kF "_law_room_text" cw nB 451 239),(246,kC "_law_read" 534 165 2 241 242 (.ref 243) (.ref 244) 245 542),(247,kF "_law_read" fZ nB 451 246),(253,kC "_law_rules" 545 177 0 248 249 (.ref 250) (.ref 251) 252 553),(254,kF "_law_rules" eZ nB 451 253)]
noncomputable def kf8(P:Params):FA:=[(260,kC "_law_entry" 556 185 2 255 256 (.ref 257) (.ref 258) 259 561),(261,kF "_law_entry" fc nB 451 260),(265,kC "_law_room_of" 564 193 1 262 263 .none .none 264 567),(266,kF "_law_room_of" dh nB 451 265),(272,kC "_law_spoilt" 570 202 2 267 268 (.ref 269) (.ref 270) 271 581),(273,kF "_law_spoilt" dX nB 451 272),(279,kC "law" 584 212 1 274 275 (.ref 276) (.ref 277) 278 596),(280,kF "law" vB nB 451 279)]
noncomputable def gD(P:Params):FA:=(((kf0 P)++(kf1 P))++((kf2 P)++(kf3 P)))++(((kf4 P)++(kf5 P))++((kf6 P)++((kf7 P)++(kf8 P))))
noncomputable def kads:List gV:=[3,20,21,27,28,34,35,41,42,43,44,50,51,55,56,60,61,67,68,77,78,98,113,114,116,117,129,141,144,150,151,152,158,159,163,164,168,169,175,176,180,181,187,188,194,195,201,202,208,209,213,214,220,221,225,226,232,233,239,240,246,247,253,254,260,261,265,266,272,273,279,280]
theorem ownX:Ht (gD P) cX:=⟨⟨by kernel_rfl,by kernel_rfl,by kernel_rfl⟩,by kernel_rfl,by kernel_rfl,by kernel_rfl,by kernel_rfl,by kernel_rfl⟩
theorem txt{w:sv}(X:(gD w.params).In h)(G:h.Ns Cn mg):Txt w (gD w.params) mg:=
 ⟨gy X G nB 233 451 232,gy X G nB 254 451 253,gy X G nB 188 451 187,gy X G nB 202 451 201,gy X G nB 195 451 194,gy X G nB 209 451 208,gy X G nB 226 451 225,gy X G nB 273 451 272,gy X G nB 261 451 260,gy X G nB 266 451 265,gy X G nB 214 451 213,gy X G nB 240 451 239,gy X G md1 151 384 150,gy X G MV 164 398 163,gy X G MV 159 398 158,gy X G Rs 42 187 41,gy X G Rs 35 187 34,gy X G Rr 56 221 55,gy X G Rs 21 187 20,gy X G Rs 28 187 27,gy X G Rr 68 221 67,gy X G Rr 61 221 60,gy X G Rr 51 221 50,gy X G MV 181 398 180,gy X G MV 176 398 175,gy X G MV 169 398 168,gy X G nB 247 451 246,gy X G nB 221 451 220,gy X G nB 280 451 279,XD X G (by kernel_rfl),XD X G (by kernel_rfl),XD X G (by kernel_rfl),XD X G (by kernel_rfl),XD X G (by kernel_rfl),XD X G (by kernel_rfl),XD X G (by kernel_rfl),XD X G (by kernel_rfl),XD X G (by kernel_rfl),XD X G (by kernel_rfl),XD X G (by kernel_rfl),XD X G (by kernel_rfl),XD X G (by kernel_rfl),XD X G (by kernel_rfl),⟨_,.ref 152,YH X G (show W.nsIn (gD w.params) Cn "FIGURES" = U (U (.ref 152)) by kernel_rfl),rfl,λμ H=>.ktup (vs:=[V.str "0",V.str "1",V.str "2",V.str "3",V.str "4",V.str "5",V.str "6",V.str "7",V.str "8",V.str "9"]) ⟨_,_,_,(show(gD w.params).lookup 152=U ⟨.type "tuple",Y,.seq #[.str "0" 400,.str "1" 401,.str "2" 402,.str "3" 403,.str "4" 404,.str "5" 405,.str "6" 406,.str "7" 407,.str "8" 408,.str "9" 409] 0,#[]⟩ by kernel_rfl),rfl,rfl,rfl,(show 10<=ww by decide),.cons ⟨_,rfl⟩ (.cons ⟨_,rfl⟩ (.cons ⟨_,rfl⟩ (.cons ⟨_,rfl⟩ (.cons ⟨_,rfl⟩ (.cons ⟨_,rfl⟩ (.cons ⟨_,rfl⟩ (.cons ⟨_,rfl⟩ (.cons ⟨_,rfl⟩ (.cons ⟨_,rfl⟩ (.nil))))))))))⟩ (.cons (.str _) (.cons (.str _) (.cons (.str _) (.cons (.str _) (.cons (.str _) (.cons (.str _) (.cons (.str _) (.cons (.str _) (.cons (.str _) (.cons (.str _) (.nil)))))))))))⟩,⟨_,V.int 9,YH X G (show W.nsIn (gD w.params) Cn "GREATEST_K" = U (U (.int 9 382)) by kernel_rfl),⟨_,rfl⟩,λμ H=>.int _⟩,⟨_,V.int 9,YH X G (show W.nsIn (gD w.params) Cn "GREATEST_LEFT" = U (U (.int 9 236)) by kernel_rfl),⟨_,rfl⟩,λμ H=>.int _⟩,⟨_,V.int 999,YH X G (show W.nsIn (gD w.params) Cn "GREATEST_MARK" = U (U (.int 999 234)) by kernel_rfl),⟨_,rfl⟩,λμ H=>.int _⟩,⟨_,V.int 5,YH X G (show W.nsIn (gD w.params) Cn "GREATEST_MOST" = U (U (.int 5 380)) by kernel_rfl),⟨_,rfl⟩,λμ H=>.int _⟩,⟨_,V.int 3,YH X G (show W.nsIn (gD w.params) Cn "MOST_FIGURES" = U (U (.int 3 411)) by kernel_rfl),⟨_,rfl⟩,λμ H=>.int _⟩,⟨_,V.int 5,YH X G (show W.nsIn (gD w.params) Cn "MOST_GUESTS" = U (U (.int 5 232)) by kernel_rfl),⟨_,rfl⟩,λμ H=>.int _⟩,⟨_,.ref 144,YH X G (show W.nsIn (gD w.params) Cn "RULE_WORDS" = U (U (.ref 144)) by kernel_rfl),rfl,λμ H=>.ktup (vs:=[V.str "rows",V.str "readers",V.str "writers",V.str "turns",V.str "passes"]) ⟨_,_,_,(show(gD w.params).lookup 144=U ⟨.type "tuple",Y,.seq #[.str "rows" 374,.str "readers" 375,.str "writers" 376,.str "turns" 377,.str "passes" 378] 0,#[]⟩ by kernel_rfl),rfl,rfl,rfl,(show 5<=ww by decide),.cons ⟨_,rfl⟩ (.cons ⟨_,rfl⟩ (.cons ⟨_,rfl⟩ (.cons ⟨_,rfl⟩ (.cons ⟨_,rfl⟩ (.nil)))))⟩ (.cons (.str _) (.cons (.str _) (.cons (.str _) (.cons (.str _) (.cons (.str _) (.nil))))))⟩,⟨_,.ref 44,YH X G (show W.nsIn (gD w.params) Cn "WANTS" = U (U (.ref 44)) by kernel_rfl),rfl,λμ H=>.ktup (vs:=[V.str "read",V.str "write"]) ⟨_,_,_,(show(gD w.params).lookup 44=U ⟨.type "tuple",Y,.seq #[.str "read" 229,.str "write" 230] 0,#[]⟩ by kernel_rfl),rfl,rfl,rfl,(show 2<=ww by decide),.cons ⟨_,rfl⟩ (.cons ⟨_,rfl⟩ (.nil))⟩ (.cons (.str _) (.cons (.str _) (.nil)))⟩,⟨_,.ref 43,YH X G (show W.nsIn (gD w.params) Cn "WITHIN_WORDS" = U (U (.ref 43)) by kernel_rfl),rfl,λμ H=>.ktup (vs:=[V.str "out",V.str "reads",V.str "rising",V.str "writes",V.str "raised"]) ⟨_,_,_,(show(gD w.params).lookup 43=U ⟨.type "tuple",Y,.seq #[.str "out" 223,.str "reads" 224,.str "rising" 225,.str "writes" 226,.str "raised" 227] 0,#[]⟩ by kernel_rfl),rfl,rfl,rfl,(show 5<=ww by decide),.cons ⟨_,rfl⟩ (.cons ⟨_,rfl⟩ (.cons ⟨_,rfl⟩ (.cons ⟨_,rfl⟩ (.cons ⟨_,rfl⟩ (.nil)))))⟩ (.cons (.str _) (.cons (.str _) (.cons (.str _) (.cons (.str _) (.cons (.str _) (.nil))))))⟩,rseK X G (q:="NoText.__init__") (g:="GuestError") (a:="self") (b:="row") (st:=Iz) md5 117 116 78 77 114 113 272 101 317 325 69 274 282 [] [.ref 98,.ref 117,.ref 129,.ref 141] rfl ⟨rfl,rfl,rfl,by decide +kernel,rfl,by decide +kernel,by decide +kernel⟩ (jd λ_=>jd λ_=>mV rfl) (by decide) (by decide) (by decide) (by decide) (by kernel_rfl) (by kernel_rfl),hndK X G (x:="NoText") 117 116 78 77 101 317 325 69 274 282 [.ref 78] (.ref 78::HT.jg) [.type "ValueError"] HT.jg [] [.ref 98,.ref 117,.ref 129,.ref 141] (by kernel_rfl),QC X G cX 98 ownX (by kernel_rfl),QC X G cX 141 ownX (by kernel_rfl),QC X G cX 117 ownX (by kernel_rfl),QC X G cX 129 ownX (by kernel_rfl),clsT X G (T:="ValueError") cX ownX (by decide) rfl (by kernel_rfl),⟨ownX.wy,by kernel_rfl,by kernel_rfl⟩,YH X G (by kernel_rfl),YH X G (by kernel_rfl)⟩
end K49
open PySem.W
set_option maxRecDepth 100000 in
set_option maxHeartbeats 0 in
theorem PySem.Challenge.cw_manyreaders_k49_rules_and_rooms_refused_holds : PySem.Challenge.rw_manyreaders_k49_rules_and_rooms_refused.Holds := by
 rw[K49.lw_eq];w_on;o_law;o_head (kHook K49.gD K49.kads (λ_=>by kernel_rfl));(case hw=>w_witness2)
 exact K49.walk (l:=K49.lw) rfl rfl rfl (λw h Y0=>PySem.W.kIn_of Y0) K49.JO λw mg h KX G=>K49.txt KX G

end
